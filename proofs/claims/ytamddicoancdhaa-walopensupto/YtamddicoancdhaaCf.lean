/- What the reference's Scan does, by walking its text. -/
import Derived.Test.YtamddicoancdhaaCe
namespace Go.Proofs.Ytamddicoancdhaa
open Go.RowKit
namespace Wl
open Bw Rg

theorem num_take (bs : List UInt8) (h : 4 ≤ bs.length) : num (bs.take 4) = num bs := by
  match bs, h with
  | a :: b :: c :: d :: r, _ => rfl
theorem cut_at (bs : List UInt8) (t k : Nat) : (bs.take (t + k)).drop t = (bs.drop t).take k := by
  rw [List.drop_take, Nat.add_sub_cancel_left]
theorem cut_at2 (bs : List UInt8) (t j k : Nat) : (bs.take (t + j + k)).drop (t + j) = ((bs.drop t).drop j).take k := by
  rw [cut_at, List.drop_drop]
set_option maxHeartbeats 2000000 in
theorem rscan_any (v : Value) (bs : List UInt8) (w0 w : World) (hv : SlM w0 v bs) (hb0 : Below w0.heap.size w0 w) (hl : bs.length ≤ 1099511627776) :
    Calls Try.prog 15 #[v] w fun e w' => ∃ x, e = .returned (.tuple #[x, .int .i64 ((scan bs).2 : Int)]) ∧ Refs w.heap.size w0 w' x (scan bs).1 ∧ Below w.heap.size w w' := by
  have HV : Hid (SlM w0 v bs) := hv
  have HB0 : Hid (Below w0.heap.size w0 w) := hb0
  have hlen := SlM.len hv
  obtain ⟨n, hn⟩ : ∃ n, bs.length = n := ⟨_, rfl⟩
  rw [hn] at hlen hl
  have HN : Hid (bs.length = n) := hn
  clear hv hb0 hn
  go_enter Try.func15, Try.ntmps15
  go_wp2
  go_loopw [4, 5] (fun x y wr => ∃ (L : List (List UInt8)) (t : Nat), y = .int .i64 (t : Int) ∧ t ≤ n ∧ Hid (Refs w.heap.size w0 wr x L ∧ Below w.heap.size w wr ∧ 8 * L.length ≤ t) ∧ Hid (scan bs = (L ++ (scan (bs.drop t)).1, t + (scan (bs.drop t)).2))) (fun _ y _ => n - numOf y)
  case atStart => exact ⟨[], 0, rfl, Nat.zero_le _, ⟨Refs.nil _ _ _, Below.refl _ _, by simp⟩, by show _ = _; simp⟩
  case round =>
    obtain ⟨L, t, rfl, ht, HR, HS⟩ := hrel
    obtain ⟨cs, hcs⟩ : ∃ cs, bs.drop t = cs := ⟨_, rfl⟩
    have hcl : cs.length = n - t := by rw [← hcs, List.length_drop, HN.out]
    have HBW : Hid (Below w0.heap.size w0 _) := HB0.out.trans (HR.out.2.1.mono HB0.out.size)
    have e1 : IntKind.i64.wrap ((n : Int) - (t : Int)) = (n : Int) - (t : Int) := by rw [IntKind.wrap_i64]; omega
    have stop : fst cs = none → Hid (scan bs = (L, t)) := fun hf => by
      show _ = _
      rw [HS.out, hcs, scan_none hf]
      simp
    by_cases h8 : n - t < 8
    · have h8' : ¬ (8 : Int) ≤ (n : Int) - (t : Int) := by omega
      have HS2 := stop (if_pos (by omega))
      clear stop
      go_wp2
      go_ret2
      rw [HS2.out]
      exact ⟨_, rfl, HR.out.1, HR.out.2.1⟩
    · have h8' : (8 : Int) ≤ (n : Int) - (t : Int) := by omega
      obtain ⟨t4, ht4⟩ : ∃ x, t + 4 = x := ⟨_, rfl⟩
      obtain ⟨t8, ht8⟩ : ∃ x, t + 8 = x := ⟨_, rfl⟩
      have e4 : IntKind.i64.wrap ((t : Int) + 4) = (t4 : Int) := by rw [IntKind.wrap_i64]; omega
      have e8 : IntKind.i64.wrap ((t : Int) + 8) = (t8 : Int) := by rw [IntKind.wrap_i64]; omega
      have e9 : IntKind.i64.wrap ((n : Int) - (t : Int) - 8) = (n : Int) - (t : Int) - 8 := by rw [IntKind.wrap_i64]; omega
      obtain ⟨u4, s4, hu4, -⟩ := SlM.part HV.out t t4 (by omega) (by rw [HN.out]; omega) .i64 .i64
      rw [← ht4, cut_at, hcs] at hu4
      have hn4 : (cs.take 4).length = 4 := by simp; omega
      have c1 := number_any u4 (cs.take 4) _ (hu4.below HBW.out (Nat.le_refl _)) (by omega) (by omega)
      rw [num_take cs (by omega)] at c1
      have hnl := num_lt cs
      have hfst : fst cs = if 2097152 < num cs ∨ cs.length - 8 < num cs then none else if num (cs.drop 4) = chk (cs.take 4 ++ (cs.drop 8).take (num cs)) then some ((cs.drop 8).take (num cs)) else none := if_neg (by omega)
      by_cases hbad : 2097152 < num cs ∨ cs.length - 8 < num cs
      · rw [if_pos hbad] at hfst
        have HS2 := stop hfst
        clear stop hfst
        obtain ⟨N, hN⟩ : ∃ N, num cs = N := ⟨_, rfl⟩
        rw [hN] at c1 hnl hbad
        clear hN hu4 ht4 ht8
        rw [hcl] at hbad
        by_cases hbig : 2097152 < N
        · have hbig' : (2097152 : Int) < (N : Int) := by omega
          clear hbad
          go_wp2_with (go_at_call 33; refine Calls.mono c1 ?_; rintro e w1 ⟨rfl, hb1⟩)
          go_ret2
          rw [HS2.out]
          exact ⟨_, rfl, HR.out.1.kept hb1, HR.out.2.1.trans (hb1.mono HR.out.2.1.size)⟩
        · have hbig' : ¬ (2097152 : Int) < (N : Int) := by omega
          have hm' : (n : Int) - (t : Int) - 8 < (N : Int) := by omega
          clear hbad
          go_wp2_with (go_at_call 33; refine Calls.mono c1 ?_; rintro e w1 ⟨rfl, hb1⟩)
          go_ret2
          rw [HS2.out]
          exact ⟨_, rfl, HR.out.1.kept hb1, HR.out.2.1.trans (hb1.mono HR.out.2.1.size)⟩
      · rw [if_neg hbad] at hfst
        have hfi := frame_is (bs := cs) (by omega) (by omega)
        obtain ⟨N, hN⟩ : ∃ N, num cs = N := ⟨_, rfl⟩
        rw [hN] at c1 hnl hbad hfst hfi
        clear hN hu4
        rw [hcl] at hbad
        have hbig' : ¬ (2097152 : Int) < (N : Int) := by omega
        have hm' : ¬ (n : Int) - (t : Int) - 8 < (N : Int) := by omega
        obtain ⟨t', ht'⟩ : ∃ t', t8 + N = t' := ⟨_, rfl⟩
        have et : IntKind.i64.wrap ((t8 : Int) + (N : Int)) = (t' : Int) := by rw [IntKind.wrap_i64]; omega
        obtain ⟨r, sr, hr, -⟩ := SlM.part HV.out t8 t' (by omega) (by rw [HN.out]; omega) .i64 .i64
        obtain ⟨g, sg, hg, -⟩ := SlM.part HV.out t t' (by omega) (by rw [HN.out]; omega) .i64 .i64
        rw [← ht', ← ht8, cut_at2, hcs] at hr
        rw [← ht', ← ht8, Nat.add_assoc, cut_at, hcs] at hg
        obtain ⟨rec, hrec⟩ : ∃ rec, (cs.drop 8).take N = rec := ⟨_, rfl⟩
        have hrl : rec.length = N := by rw [← hrec]; simp; omega
        rw [hrec] at hr hfst hfi
        have HRX : Hid (SlM w0 r rec) := hr
        have HGX : Hid (SlM w0 g (cs.take (8 + N))) := hg
        obtain ⟨rp, rc, hrf⟩ := hr.sl.form
        have HT' : Hid (t < t' ∧ t + 8 ≤ t' ∧ t' ≤ n) := ⟨by omega, by omega, by omega⟩
        have HRL : Hid (rec.length ≤ 2097152) := by show _ ≤ _; omega
        by_cases heq : frame rec = cs.take (8 + N)
        · rw [if_pos (hfi.1 heq)] at hfst
          have HS2 : Hid (scan bs = ((L ++ [rec]) ++ (scan (bs.drop t')).1, t' + (scan (bs.drop t')).2)) := by
            show _ = _
            rw [HS.out, hcs, scan_some hfst, ← hcs, List.drop_drop, hrl, ← Nat.add_assoc, ht8, ht']
            simp
            omega
          have HGX2 : Hid (SlM w0 g (frame rec)) := by show SlM _ _ _; rw [heq]; exact HGX.out
          clear stop hfst hfi hg hr ht' ht4 ht8 hrec hcs hcl hbad heq HGX HS hrl
          subst hrf
          go_wp2_with first
            | (go_at_call 33; refine Calls.mono c1 ?_; rintro e w1 ⟨rfl, hb1⟩; have HB1 := (show Hid (Below w.heap.size w w1) from HR.out.2.1.trans (hb1.mono HR.out.2.1.size)); have HR1 := (show Hid (Refs w.heap.size w0 w1 _ L) from HR.out.1.kept hb1); have HW1 := (show Hid (Below w0.heap.size w0 w1) from HB0.out.trans (HB1.out.mono HB0.out.size)); clear hb1 c1)
            | (go_at_call 10; refine (rframe_ok _ rec _ (HRX.out.below HW1.out (Nat.le_refl _)) HRL.out).mono ?_; rintro e w2 ⟨f2, rfl, hr2, hb2⟩; have HB2 := (show Hid (Below w.heap.size w w2) from HB1.out.trans (hb2.mono HB1.out.size)); have HR2 := (show Hid (Refs w.heap.size w0 w2 _ L) from HR1.out.kept hb2); have HW2 := (show Hid (Below w0.heap.size w0 w2) from HB0.out.trans (HB2.out.mono HB0.out.size)); have HF2 := (show Hid (SlM w2 f2 (frame rec)) from hr2.slm); clear hr2 hb2)
          have k1 : ∀ z : Cl w2.heap.size w2, (convert 22 9 f2).run Try.prog z.u = .ok (.string ⟨(frame rec).toArray⟩) z.u := fun z => conv_sl (HF2.out.below z.h (Nat.le_refl _))
          have k2 : ∀ z : Cl w2.heap.size w2, (convert 22 9 g).run Try.prog z.u = .ok (.string ⟨(frame rec).toArray⟩) z.u := fun z => conv_sl (HGX2.out.below (HW2.out.trans (z.h.mono HW2.out.size)) (Nat.le_refl _))
          have hse := str_eq (frame rec) (frame rec)
          rw [decide_eq_true rfl] at hse
          obtain ⟨X, hX⟩ : ∃ X : ByteArray, (⟨(frame rec).toArray⟩ : ByteArray) = X := ⟨_, rfl⟩
          rw [hX] at k1 k2 hse
          clear hX
          have hne := Cl.ne w2.heap.size w2
          refine region_cl (N := w2.heap.size) (W := w2) (by kernel_rfl) (by kernel_rfl) (Below.refl _ _) ?_
          repeat (go_big_quiet_step (fail))
          refine wpQuiet_nil ?_
          rintro _ ⟨z, rfl⟩
          have HZ : Hid (Below w2.heap.size w2 z.u) := z.h
          obtain ⟨w3, hw3⟩ : ∃ w3, z.u = w3 := ⟨_, rfl⟩
          rw [hw3] at HZ ⊢
          clear k1 k2 hw3
          have HB3 : Hid (Below w.heap.size w w3) := HB2.out.trans (HZ.out.mono HB2.out.size)
          obtain ⟨us, h1, h2, h3⟩ := HR2.out.kept HZ.out
          have HU : Hid (RowS w.heap.size w3 _ us ∧ us.length = L.length ∧ ∀ (i : Nat) (bs : List UInt8), L[i]? = some bs → ∃ u, us[i]? = some u ∧ SlM w0 u bs) := ⟨h1, h2, h3⟩
          clear h1 h2 h3
          go_wp2_with (refine app_s rfl (.tmp 60) (.tmp 62) rfl w.heap.size _ us rfl HU.out.1 _ _ _ rfl (by rw [HU.out.2.1]; have := HR.out.2.2; omega) HB3.out.size ?_; rintro v4 w4 hr4 hg4 -; have HR4 := (show Hid (Refs w.heap.size w0 w4 v4 (L ++ [rec])) from Refs.snoc HU.out.2.1 HU.out.2.2 HRX.out hr4); have HB4 := (show Hid (Below w.heap.size w w4) from HB3.out.trans (grown_below HU.out.1 hg4 HB3.out.size)); clear hr4 hg4 HU)
          go_roundw
          case rel => exact ⟨L ++ [rec], t', rfl, HT'.out.2.2, ⟨HR4.out, HB4.out, by have := HR.out.2.2; have := HT'.out; simp; omega⟩, HS2⟩
          case measure => have := HT'.out; simp [numOf]; omega
        · rw [if_neg (fun h => heq (hfi.2 h))] at hfst
          have HS2 := stop hfst
          clear stop hfst hfi hg hr ht' ht4 ht8 hrec hcs hcl hbad HS hrl
          subst hrf
          go_wp2_with first
            | (go_at_call 33; refine Calls.mono c1 ?_; rintro e w1 ⟨rfl, hb1⟩; have HB1 := (show Hid (Below w.heap.size w w1) from HR.out.2.1.trans (hb1.mono HR.out.2.1.size)); have HR1 := (show Hid (Refs w.heap.size w0 w1 _ L) from HR.out.1.kept hb1); have HW1 := (show Hid (Below w0.heap.size w0 w1) from HB0.out.trans (HB1.out.mono HB0.out.size)); clear hb1 c1)
            | (go_at_call 10; refine (rframe_ok _ rec _ (HRX.out.below HW1.out (Nat.le_refl _)) HRL.out).mono ?_; rintro e w2 ⟨f2, rfl, hr2, hb2⟩; have HB2 := (show Hid (Below w.heap.size w w2) from HB1.out.trans (hb2.mono HB1.out.size)); have HR2 := (show Hid (Refs w.heap.size w0 w2 _ L) from HR1.out.kept hb2); have HW2 := (show Hid (Below w0.heap.size w0 w2) from HB0.out.trans (HB2.out.mono HB0.out.size)); have HF2 := (show Hid (SlM w2 f2 (frame rec)) from hr2.slm); clear hr2 hb2)
          have k1 : ∀ z : Cl w2.heap.size w2, (convert 22 9 f2).run Try.prog z.u = .ok (.string ⟨(frame rec).toArray⟩) z.u := fun z => conv_sl (HF2.out.below z.h (Nat.le_refl _))
          have k2 : ∀ z : Cl w2.heap.size w2, (convert 22 9 g).run Try.prog z.u = .ok (.string ⟨(cs.take (8 + N)).toArray⟩) z.u := fun z => conv_sl (HGX.out.below (HW2.out.trans (z.h.mono HW2.out.size)) (Nat.le_refl _))
          have hse := str_eq (frame rec) (cs.take (8 + N))
          rw [decide_eq_false heq] at hse
          obtain ⟨X, hX⟩ : ∃ X : ByteArray, (⟨(frame rec).toArray⟩ : ByteArray) = X := ⟨_, rfl⟩
          obtain ⟨Y, hY⟩ : ∃ X : ByteArray, (⟨(cs.take (8 + N)).toArray⟩ : ByteArray) = X := ⟨_, rfl⟩
          rw [hX] at k1 hse
          rw [hY] at k2 hse
          have hse2 : ¬ X.toList = Y.toList := by simpa using hse
          clear hX hY heq
          have hne := Cl.ne w2.heap.size w2
          refine region_cl (N := w2.heap.size) (W := w2) (by kernel_rfl) (by kernel_rfl) (Below.refl _ _) ?_
          repeat (go_big_quiet_step (fail))
          refine wpQuiet_nil ?_
          rintro _ ⟨z, rfl⟩
          have HZ : Hid (Below w2.heap.size w2 z.u) := z.h
          clear k1 k2
          go_wp2
          go_ret2
          rw [HS2.out]
          exact ⟨_, rfl, HR2.out.kept HZ.out, HB2.out.trans (HZ.out.mono HB2.out.size)⟩
end Wl
end Go.Proofs.Ytamddicoancdhaa

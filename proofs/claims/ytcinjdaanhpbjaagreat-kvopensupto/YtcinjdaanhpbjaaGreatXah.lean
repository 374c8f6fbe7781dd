/- What Scan, the reference's Scan and Same do, by walking their texts. What the reference's Scan does, by walking its text. Frames one behind the other: plain mathematics; rows of numbers; WalTears at all records, by walking its text. -/
import Derived.Test.YtcinjdaanhpbjaaGreatXag
namespace Go.Proofs.YtcinjdaanhpbjaaGreat
open Go.RowKit
namespace Wl
open Bw Rg

set_option maxHeartbeats 1000000 in
set_option maxRecDepth 100000 in
theorem scan_any (v : Value) (bs : List UInt8) (w : World) (hv : SlM w v bs) (hl : bs.length ≤ 1099511627776) :
    Calls Tryz.prog 77 #[v] w fun e w' => ∃ x, e = .returned (.tuple #[x, .int .i64 ((scan bs).2 : Int)]) ∧ Recs w.heap.size w' x (scan bs).1 ∧ Below w.heap.size w w' := by
  have HV : Hid (SlM w v bs) := hv
  clear hv
  go_enter Tryz.func77, Tryz.ntmps77
  go_wp2
  go_loopw [4, 5] (fun x y wr => ∃ (L : List (List UInt8)) (t : Nat), y = .int .i64 (t : Int) ∧ t ≤ bs.length ∧ Hid (Recs w.heap.size wr x L ∧ Below w.heap.size w wr ∧ 8 * L.length ≤ t) ∧ Hid (scan bs = (L ++ (scan (bs.drop t)).1, t + (scan (bs.drop t)).2))) (fun _ y _ => bs.length - numOf y)
  case atStart => exact ⟨[], 0, rfl, Nat.zero_le _, ⟨Recs.nil _ _, Below.refl _ _, by simp⟩, by show _ = _; simp⟩
  case round =>
    obtain ⟨L, t, rfl, ht, HR, HS⟩ := hrel
    obtain ⟨u, su, hu, bu⟩ := SlM.from HV.out t ht .i64
    have hcall := first_any u (bs.drop t) _ (hu.below HR.out.2.1 (Nat.le_refl _)) (by rw [List.length_drop]; omega)
    unfold FstOut at hcall
    clear hu bu
    cases hf : fst (bs.drop t) with
    | none =>
      rw [hf] at hcall
      have HS2 : Hid (scan bs = (L, t)) := by
        show _ = _
        rw [HS.out, scan_none hf]
        simp
      clear hf
      go_wp2_with (go_at_call 94; refine Calls.mono hcall ?_; rintro e w1 ⟨r, rfl, -, hb1⟩)
      go_ret2
      rw [HS2.out]
      exact ⟨_, rfl, HR.out.1.kept hb1, HR.out.2.1.trans (hb1.mono HR.out.2.1.size)⟩
    | some rec =>
      rw [hf] at hcall
      have hrl := fst_len hf
      rw [List.length_drop] at hrl
      obtain ⟨m, hm⟩ : ∃ m, rec.length = m := ⟨_, rfl⟩
      obtain ⟨t', ht'⟩ : ∃ t', t + (8 + m) = t' := ⟨_, rfl⟩
      have HS2 : Hid (scan bs = ((L ++ [rec]) ++ (scan (bs.drop t')).1, t' + (scan (bs.drop t')).2)) := by
        show _ = _
        rw [HS.out, scan_some hf, List.drop_drop, hm, ht']
        simp
        omega
      rw [hm] at hrl
      have HM : Hid (rec.length = m) := hm
      have e8 : IntKind.i64.wrap (8 + (m : Int)) = 8 + (m : Int) := by rw [IntKind.wrap_i64]; omega
      have et : IntKind.i64.wrap ((t : Int) + (8 + (m : Int))) = (t' : Int) := by rw [IntKind.wrap_i64]; omega
      have htl : t' ≤ bs.length := by omega
      have HTT : Hid (t < t' ∧ t + 8 ≤ t') := ⟨by omega, by omega⟩
      clear hf hm ht' HS
      go_wp2_with first
        | (go_at_call 94; refine Calls.mono hcall ?_; rintro e w1 ⟨r, rfl, hr1, hb1⟩; have HB1 := (show Hid (Below w.heap.size w w1) from HR.out.2.1.trans (hb1.mono HR.out.2.1.size)); have HR1 := (show Hid (Recs w.heap.size w1 _ L) from HR.out.1.kept hb1); have HX1 := (show Hid (SlM w1 r rec) from (hr1 rec rfl).1); have hlen1 := SlM.len HX1.out; rw [HM.out] at hlen1; clear hr1 hb1 hcall)
        | (go_at_call 52; refine (Dk.clone_any r rec _ HX1.out (by rw [HM.out]; omega)).mono ?_; rintro e w2 ⟨u2, rfl, hr2, hb2⟩; obtain ⟨us, h1, h2, h3⟩ := HR1.out.kept hb2; obtain ⟨p2, c2, rfl⟩ := hr2.form; have HB2 := (show Hid (Below w.heap.size w w2) from HB1.out.trans (hb2.mono HB1.out.size)); have HU := (show Hid (RowS w.heap.size w2 _ us ∧ us.length = L.length ∧ (∀ (i : Nat) (bs : List UInt8), L[i]? = some bs → ∃ u, us[i]? = some u ∧ RowB w.heap.size w2 u bs) ∧ RowB w.heap.size w2 (.slice p2 rec.length c2) rec) from ⟨h1, h2, h3, hr2.mono HB1.out.size⟩); clear hr2 hb2 h1 h2 h3 HR1)
        | (have hq := HU; clear hq; refine app_s rfl (.tmp 19) (.tmp 22) rfl w.heap.size _ us rfl HU.out.1 _ _ _ rfl (by rw [HU.out.2.1]; have := HR.out.2.2; omega) HB2.out.size ?_; rintro v4 w4 hr4 hg4 -; have HR4 := (show Hid (Recs w.heap.size w4 v4 (L ++ [rec])) from Recs.snoc HU.out.1 HU.out.2.1 HU.out.2.2.1 HU.out.2.2.2 hr4 hg4); have HB4 := (show Hid (Below w.heap.size w w4) from HB2.out.trans (grown_below HU.out.1 hg4 HB2.out.size)); clear hr4 hg4 HU)
      go_roundw
      case rel => exact ⟨L ++ [rec], t', rfl, htl, ⟨HR4.out, HB4.out, by have := HR.out.2.2; have := HTT.out; simp; omega⟩, HS2⟩
      case measure => have := HTT.out; simp [numOf]; omega
end Wl
end Go.Proofs.YtcinjdaanhpbjaaGreat

namespace Go.Proofs.YtcinjdaanhpbjaaGreat
open Go.RowKit
namespace Wl
open Bw Rg

theorem num_take (bs : List UInt8) (h : 4 ≤ bs.length) : num (bs.take 4) = num bs := by
  match bs, h with
  | a :: b :: c :: d :: r, _ => rfl
theorem cut_at (bs : List UInt8) (t k : Nat) : (bs.take (t + k)).drop t = (bs.drop t).take k := by
  rw [List.drop_take, Nat.add_sub_cancel_left]
theorem cut_at2 (bs : List UInt8) (t j k : Nat) : (bs.take (t + j + k)).drop (t + j) = ((bs.drop t).drop j).take k := by
  rw [cut_at, List.drop_drop]
set_option maxHeartbeats 2000000 in
set_option maxRecDepth 100000 in
theorem rscan_any (v : Value) (bs : List UInt8) (w0 w : World) (hv : SlM w0 v bs) (hb0 : Below w0.heap.size w0 w) (hl : bs.length ≤ 1099511627776) :
    Calls Tryz.prog 59 #[v] w fun e w' => ∃ x, e = .returned (.tuple #[x, .int .i64 ((scan bs).2 : Int)]) ∧ Refs w.heap.size w0 w' x (scan bs).1 ∧ Below w.heap.size w w' := by
  have HV : Hid (SlM w0 v bs) := hv
  have HB0 : Hid (Below w0.heap.size w0 w) := hb0
  have hlen := SlM.len hv
  obtain ⟨n, hn⟩ : ∃ n, bs.length = n := ⟨_, rfl⟩
  rw [hn] at hlen hl
  have HN : Hid (bs.length = n) := hn
  clear hv hb0 hn
  go_enter Tryz.func59, Tryz.ntmps59
  go_wp2
  go_loopw [4, 5] (fun x y wr => ∃ (L : List (List UInt8)) (t : Nat), y = .int .i64 (t : Int) ∧ t ≤ n ∧ Hid (Refs w.heap.size w0 wr x L ∧ Below w.heap.size w wr ∧ 8 * L.length ≤ t) ∧ Hid (scan bs = (L ++ (scan (bs.drop t)).1, t + (scan (bs.drop t)).2))) (fun _ y _ => n - numOf y)
  case atStart => exact ⟨[], 0, rfl, Nat.zero_le _, ⟨Refs.nil _ _ _, Below.refl _ _, by simp⟩, by show _ = _; simp⟩
  case round =>
    obtain ⟨L, t, rfl, ht, HR, HS⟩ := hrel
    obtain ⟨cs, hcs⟩ : ∃ cs, bs.drop t = cs := ⟨_, rfl⟩
    have hcl : cs.length = n - t := by rw [← hcs, List.length_drop, HN.out]
    have HBW : Hid (Below w0.heap.size w0 _) := HB0.out.trans (HR.out.2.1.mono HB0.out.size)
    have e1 : IntKind.i64.wrap ((n : Int) - (t : Int)) = (n : Int) - (t : Int) := by rw [IntKind.wrap_i64]; omega
    have stop : fst cs = none → Hid (scan bs = (L, t)) := fun hf => by
      show _ = _
      rw [HS.out, hcs, scan_none hf]
      simp
    by_cases h8 : n - t < 8
    · have h8' : ¬ (8 : Int) ≤ (n : Int) - (t : Int) := by omega
      have HS2 := stop (if_pos (by omega))
      clear stop
      go_wp2
      go_ret2
      rw [HS2.out]
      exact ⟨_, rfl, HR.out.1, HR.out.2.1⟩
    · have h8' : (8 : Int) ≤ (n : Int) - (t : Int) := by omega
      obtain ⟨t4, ht4⟩ : ∃ x, t + 4 = x := ⟨_, rfl⟩
      obtain ⟨t8, ht8⟩ : ∃ x, t + 8 = x := ⟨_, rfl⟩
      have e4 : IntKind.i64.wrap ((t : Int) + 4) = (t4 : Int) := by rw [IntKind.wrap_i64]; omega
      have e8 : IntKind.i64.wrap ((t : Int) + 8) = (t8 : Int) := by rw [IntKind.wrap_i64]; omega
      have e9 : IntKind.i64.wrap ((n : Int) - (t : Int) - 8) = (n : Int) - (t : Int) - 8 := by rw [IntKind.wrap_i64]; omega
      obtain ⟨u4, s4, hu4, -⟩ := SlM.part HV.out t t4 (by omega) (by rw [HN.out]; omega) .i64 .i64
      rw [← ht4, cut_at, hcs] at hu4
      have hn4 : (cs.take 4).length = 4 := by simp; omega
      have c1 := number_any u4 (cs.take 4) _ (hu4.below HBW.out (Nat.le_refl _)) (by omega) (by omega)
      rw [num_take cs (by omega)] at c1
      have hnl := num_lt cs
      have hfst : fst cs = if 2097152 < num cs ∨ cs.length - 8 < num cs then none else if num (cs.drop 4) = chk (cs.take 4 ++ (cs.drop 8).take (num cs)) then some ((cs.drop 8).take (num cs)) else none := if_neg (by omega)
      by_cases hbad : 2097152 < num cs ∨ cs.length - 8 < num cs
      · rw [if_pos hbad] at hfst
        have HS2 := stop hfst
        clear stop hfst
        obtain ⟨N, hN⟩ : ∃ N, num cs = N := ⟨_, rfl⟩
        rw [hN] at c1 hnl hbad
        clear hN hu4 ht4 ht8
        rw [hcl] at hbad
        by_cases hbig : 2097152 < N
        · have hbig' : (2097152 : Int) < (N : Int) := by omega
          clear hbad
          go_wp2_with (go_at_call 86; refine Calls.mono c1 ?_; rintro e w1 ⟨rfl, hb1⟩)
          go_ret2
          rw [HS2.out]
          exact ⟨_, rfl, HR.out.1.kept hb1, HR.out.2.1.trans (hb1.mono HR.out.2.1.size)⟩
        · have hbig' : ¬ (2097152 : Int) < (N : Int) := by omega
          have hm' : (n : Int) - (t : Int) - 8 < (N : Int) := by omega
          clear hbad
          go_wp2_with (go_at_call 86; refine Calls.mono c1 ?_; rintro e w1 ⟨rfl, hb1⟩)
          go_ret2
          rw [HS2.out]
          exact ⟨_, rfl, HR.out.1.kept hb1, HR.out.2.1.trans (hb1.mono HR.out.2.1.size)⟩
      · rw [if_neg hbad] at hfst
        have hfi := frame_is (bs := cs) (by omega) (by omega)
        obtain ⟨N, hN⟩ : ∃ N, num cs = N := ⟨_, rfl⟩
        rw [hN] at c1 hnl hbad hfst hfi
        clear hN hu4
        rw [hcl] at hbad
        have hbig' : ¬ (2097152 : Int) < (N : Int) := by omega
        have hm' : ¬ (n : Int) - (t : Int) - 8 < (N : Int) := by omega
        obtain ⟨t', ht'⟩ : ∃ t', t8 + N = t' := ⟨_, rfl⟩
        have et : IntKind.i64.wrap ((t8 : Int) + (N : Int)) = (t' : Int) := by rw [IntKind.wrap_i64]; omega
        obtain ⟨r, sr, hr, -⟩ := SlM.part HV.out t8 t' (by omega) (by rw [HN.out]; omega) .i64 .i64
        obtain ⟨g, sg, hg, -⟩ := SlM.part HV.out t t' (by omega) (by rw [HN.out]; omega) .i64 .i64
        rw [← ht', ← ht8, cut_at2, hcs] at hr
        rw [← ht', ← ht8, Nat.add_assoc, cut_at, hcs] at hg
        obtain ⟨rec, hrec⟩ : ∃ rec, (cs.drop 8).take N = rec := ⟨_, rfl⟩
        have hrl : rec.length = N := by rw [← hrec]; simp; omega
        rw [hrec] at hr hfst hfi
        have HRX : Hid (SlM w0 r rec) := hr
        have HGX : Hid (SlM w0 g (cs.take (8 + N))) := hg
        obtain ⟨rp, rc, hrf⟩ := hr.sl.form
        have HT' : Hid (t < t' ∧ t + 8 ≤ t' ∧ t' ≤ n) := ⟨by omega, by omega, by omega⟩
        have HRL : Hid (rec.length ≤ 2097152) := by show _ ≤ _; omega
        by_cases heq : frame rec = cs.take (8 + N)
        · rw [if_pos (hfi.1 heq)] at hfst
          have HS2 : Hid (scan bs = ((L ++ [rec]) ++ (scan (bs.drop t')).1, t' + (scan (bs.drop t')).2)) := by
            show _ = _
            rw [HS.out, hcs, scan_some hfst, ← hcs, List.drop_drop, hrl, ← Nat.add_assoc, ht8, ht']
            simp
            omega
          have HGX2 : Hid (SlM w0 g (frame rec)) := by show SlM _ _ _; rw [heq]; exact HGX.out
          clear stop hfst hfi hg hr ht' ht4 ht8 hrec hcs hcl hbad heq HGX HS hrl
          subst hrf
          go_wp2_with first
            | (go_at_call 86; refine Calls.mono c1 ?_; rintro e w1 ⟨rfl, hb1⟩; have HB1 := (show Hid (Below w.heap.size w w1) from HR.out.2.1.trans (hb1.mono HR.out.2.1.size)); have HR1 := (show Hid (Refs w.heap.size w0 w1 _ L) from HR.out.1.kept hb1); have HW1 := (show Hid (Below w0.heap.size w0 w1) from HB0.out.trans (HB1.out.mono HB0.out.size)); clear hb1 c1)
            | (go_at_call 17; refine (rframe_ok _ rec _ (HRX.out.below HW1.out (Nat.le_refl _)) HRL.out).mono ?_; rintro e w2 ⟨f2, rfl, hr2, hb2⟩; have HB2 := (show Hid (Below w.heap.size w w2) from HB1.out.trans (hb2.mono HB1.out.size)); have HR2 := (show Hid (Refs w.heap.size w0 w2 _ L) from HR1.out.kept hb2); have HW2 := (show Hid (Below w0.heap.size w0 w2) from HB0.out.trans (HB2.out.mono HB0.out.size)); have HF2 := (show Hid (SlM w2 f2 (frame rec)) from hr2.slm); clear hr2 hb2)
          have k1 : ∀ z : Cl w2.heap.size w2, (convert 43 9 f2).run Tryz.prog z.u = .ok (.string ⟨(frame rec).toArray⟩) z.u := fun z => conv_sl (HF2.out.below z.h (Nat.le_refl _))
          have k2 : ∀ z : Cl w2.heap.size w2, (convert 43 9 g).run Tryz.prog z.u = .ok (.string ⟨(frame rec).toArray⟩) z.u := fun z => conv_sl (HGX2.out.below (HW2.out.trans (z.h.mono HW2.out.size)) (Nat.le_refl _))
          have hse := str_eq (frame rec) (frame rec)
          rw [decide_eq_true rfl] at hse
          obtain ⟨X, hX⟩ : ∃ X : ByteArray, (⟨(frame rec).toArray⟩ : ByteArray) = X := ⟨_, rfl⟩
          rw [hX] at k1 k2 hse
          clear hX
          have hne := Cl.ne w2.heap.size w2
          refine region_cl (N := w2.heap.size) (W := w2) (by kernel_rfl) (by kernel_rfl) (Below.refl _ _) ?_
          repeat (go_big_quiet_step (fail))
          refine wpQuiet_nil ?_
          rintro _ ⟨z, rfl⟩
          have HZ : Hid (Below w2.heap.size w2 z.u) := z.h
          obtain ⟨w3, hw3⟩ : ∃ w3, z.u = w3 := ⟨_, rfl⟩
          rw [hw3] at HZ ⊢
          clear k1 k2 hw3
          have HB3 : Hid (Below w.heap.size w w3) := HB2.out.trans (HZ.out.mono HB2.out.size)
          obtain ⟨us, h1, h2, h3⟩ := HR2.out.kept HZ.out
          have HU : Hid (RowS w.heap.size w3 _ us ∧ us.length = L.length ∧ ∀ (i : Nat) (bs : List UInt8), L[i]? = some bs → ∃ u, us[i]? = some u ∧ SlM w0 u bs) := ⟨h1, h2, h3⟩
          clear h1 h2 h3
          go_wp2_with (refine app_s rfl (.tmp 60) (.tmp 62) rfl w.heap.size _ us rfl HU.out.1 _ _ _ rfl (by rw [HU.out.2.1]; have := HR.out.2.2; omega) HB3.out.size ?_; rintro v4 w4 hr4 hg4 -; have HR4 := (show Hid (Refs w.heap.size w0 w4 v4 (L ++ [rec])) from Refs.snoc HU.out.2.1 HU.out.2.2 HRX.out hr4); have HB4 := (show Hid (Below w.heap.size w w4) from HB3.out.trans (grown_below HU.out.1 hg4 HB3.out.size)); clear hr4 hg4 HU)
          go_roundw
          case rel => exact ⟨L ++ [rec], t', rfl, HT'.out.2.2, ⟨HR4.out, HB4.out, by have := HR.out.2.2; have := HT'.out; simp; omega⟩, HS2⟩
          case measure => have := HT'.out; simp [numOf]; omega
        · rw [if_neg (fun h => heq (hfi.2 h))] at hfst
          have HS2 := stop hfst
          clear stop hfst hfi hg hr ht' ht4 ht8 hrec hcs hcl hbad HS hrl
          subst hrf
          go_wp2_with first
            | (go_at_call 86; refine Calls.mono c1 ?_; rintro e w1 ⟨rfl, hb1⟩; have HB1 := (show Hid (Below w.heap.size w w1) from HR.out.2.1.trans (hb1.mono HR.out.2.1.size)); have HR1 := (show Hid (Refs w.heap.size w0 w1 _ L) from HR.out.1.kept hb1); have HW1 := (show Hid (Below w0.heap.size w0 w1) from HB0.out.trans (HB1.out.mono HB0.out.size)); clear hb1 c1)
            | (go_at_call 17; refine (rframe_ok _ rec _ (HRX.out.below HW1.out (Nat.le_refl _)) HRL.out).mono ?_; rintro e w2 ⟨f2, rfl, hr2, hb2⟩; have HB2 := (show Hid (Below w.heap.size w w2) from HB1.out.trans (hb2.mono HB1.out.size)); have HR2 := (show Hid (Refs w.heap.size w0 w2 _ L) from HR1.out.kept hb2); have HW2 := (show Hid (Below w0.heap.size w0 w2) from HB0.out.trans (HB2.out.mono HB0.out.size)); have HF2 := (show Hid (SlM w2 f2 (frame rec)) from hr2.slm); clear hr2 hb2)
          have k1 : ∀ z : Cl w2.heap.size w2, (convert 43 9 f2).run Tryz.prog z.u = .ok (.string ⟨(frame rec).toArray⟩) z.u := fun z => conv_sl (HF2.out.below z.h (Nat.le_refl _))
          have k2 : ∀ z : Cl w2.heap.size w2, (convert 43 9 g).run Tryz.prog z.u = .ok (.string ⟨(cs.take (8 + N)).toArray⟩) z.u := fun z => conv_sl (HGX.out.below (HW2.out.trans (z.h.mono HW2.out.size)) (Nat.le_refl _))
          have hse := str_eq (frame rec) (cs.take (8 + N))
          rw [decide_eq_false heq] at hse
          obtain ⟨X, hX⟩ : ∃ X : ByteArray, (⟨(frame rec).toArray⟩ : ByteArray) = X := ⟨_, rfl⟩
          obtain ⟨Y, hY⟩ : ∃ X : ByteArray, (⟨(cs.take (8 + N)).toArray⟩ : ByteArray) = X := ⟨_, rfl⟩
          rw [hX] at k1 hse
          rw [hY] at k2 hse
          have hse2 : ¬ X.toList = Y.toList := by simpa using hse
          clear hX hY heq
          have hne := Cl.ne w2.heap.size w2
          refine region_cl (N := w2.heap.size) (W := w2) (by kernel_rfl) (by kernel_rfl) (Below.refl _ _) ?_
          repeat (go_big_quiet_step (fail))
          refine wpQuiet_nil ?_
          rintro _ ⟨z, rfl⟩
          have HZ : Hid (Below w2.heap.size w2 z.u) := z.h
          clear k1 k2
          go_wp2
          go_ret2
          rw [HS2.out]
          exact ⟨_, rfl, HR2.out.kept HZ.out, HB2.out.trans (HZ.out.mono HB2.out.size)⟩
end Wl
end Go.Proofs.YtcinjdaanhpbjaaGreat

namespace Go.Proofs.YtcinjdaanhpbjaaGreat
open Go.RowKit
namespace Wl
open Bw Rg

/-- Frames one behind the other. -/
def fr (LL : List (List UInt8)) : List UInt8 := (LL.map frame).flatten
/-- How many bytes the first k frames take. -/
def el (LL : List (List UInt8)) (k : Nat) : Nat := (fr (LL.take k)).length
theorem fr_cons (r : List UInt8) (R : List (List UInt8)) : fr (r :: R) = frame r ++ fr R := rfl
theorem fr_snoc (R : List (List UInt8)) (r : List UInt8) : fr (R ++ [r]) = fr R ++ frame r := by simp [fr]
theorem fr_len : ∀ LL : List (List UInt8), (fr LL).length = LL.flatten.length + 8 * LL.length
  | [] => rfl
  | r :: R => by
    rw [fr_cons, List.length_append, frame_len, fr_len R]
    simp
    omega
theorem el_all (LL : List (List UInt8)) {k : Nat} (h : LL.length ≤ k) : el LL k = (fr LL).length := by
  unfold el
  rw [List.take_of_length_le h]
theorem el_le (LL : List (List UInt8)) (k : Nat) : el LL k ≤ (fr LL).length := by
  unfold el
  have : fr LL = fr (LL.take k) ++ fr (LL.drop k) := by
    unfold fr
    rw [← List.flatten_append, ← List.map_append, List.take_append_drop]
  rw [this, List.length_append]
  omega
theorem el_step (LL : List (List UInt8)) {k : Nat} (h : k < LL.length) : fr (LL.take (k + 1)) = fr (LL.take k) ++ frame LL[k] := by
  rw [List.take_succ_eq_append_getElem h, fr_snoc]
/-- What is left of a frame that isn't whole. -/
theorem fst_torn (r : List UInt8) (c : Nat) (hr : r.length ≤ 2097152) (h : c < 8 + r.length) : fst ((frame r).take c) = none := by
  have hl : ((frame r).take c).length = c := by rw [List.length_take, frame_len]; omega
  unfold fst
  by_cases h8 : c < 8
  · rw [if_pos (by omega)]
  · rw [if_neg (by omega), if_pos]
    right
    have e0 : (frame r).take c = le4 r.length ++ ((frame r).take c).drop 4 := by
      have h4 : ((frame r).take c).take 4 = le4 r.length := by
        rw [List.take_take, Nat.min_eq_left (by omega)]
        have : frame r = le4 r.length ++ (le4 (chk (le4 r.length ++ r)) ++ r) := by simp [frame]
        rw [this]
        exact List.take_left' (le4_len _)
      rw [← h4, List.take_append_drop]
    rw [e0, num_le4 _ (by omega), ← e0, hl]
    omega
/-- A first part of frames one behind the other tells the records that are whole in it. -/
theorem scan_fr : ∀ (LL : List (List UInt8)) (c m : Nat), (∀ r ∈ LL, r.length ≤ 2097152) → c ≤ (fr LL).length → m ≤ LL.length → el LL m ≤ c → (m < LL.length → c < el LL (m + 1)) → scan ((fr LL).take c) = (LL.take m, el LL m)
  | [], c, m, _, hc, hm, _, _ => by
    have h0 : m = 0 := by simpa using hm
    have h1 : c = 0 := by simpa [fr] using hc
    subst h0 h1
    exact scan_none (if_pos (by simp))
  | r :: R, c, m, hr, hc, hm, h1, h2 => by
    have hrl := hr r (by simp)
    cases m with
    | zero =>
      have h3 := h2 (by simp)
      have e1 : el (r :: R) (0 + 1) = 8 + r.length := by
        unfold el
        simp [fr, frame_len]
      rw [e1] at h3
      have e2 : (fr (r :: R)).take c = (frame r).take c := by
        rw [fr_cons, List.take_append_of_le_length (by rw [frame_len]; omega)]
      rw [e2, scan_none (fst_torn r c hrl h3)]
      rfl
    | succ m =>
      have eS : ∀ k, el (r :: R) (k + 1) = 8 + r.length + el R k := fun k => by
        unfold el
        rw [List.take_succ_cons, fr_cons, List.length_append, frame_len]
      rw [eS] at h1 h2 ⊢
      have e2 : (fr (r :: R)).take c = frame r ++ (fr R).take (c - (8 + r.length)) := by
        rw [fr_cons, List.take_append, frame_len, List.take_of_length_le (by rw [frame_len]; omega)]
      rw [fr_cons, List.length_append, frame_len] at hc
      have ih := scan_fr R (c - (8 + r.length)) m (fun x hx => hr x (List.mem_cons_of_mem _ hx)) (by omega) (by simpa using hm) (by omega) (fun hlt => by have := h2 (by simpa using hlt); omega)
      rw [e2, scan_some (fst_frame r _ hrl), List.drop_left' (frame_len r), ih]
      rfl
theorem fst_is {bs r : List UInt8} (h : fst bs = some r) : bs.take (8 + r.length) = frame r ∧ r.length ≤ 2097152 := by
  unfold fst at h
  split at h
  · cases h
  · rename_i h8
    split at h
    · cases h
    · rename_i hb
      split at h
      · rename_i hc
        have e : (bs.drop 8).take (num bs) = r := Option.some.inj h
        have hl : r.length = num bs := by rw [← e, List.length_take, List.length_drop]; omega
        have := (frame_is (bs := bs) (by omega) (by omega)).2 hc
        rw [e] at this
        rw [hl]
        exact ⟨this.symm, by omega⟩
      · cases h
theorem scan_take : ∀ (n : Nat) (bs : List UInt8), bs.length ≤ n → bs.take (scan bs).2 = fr (scan bs).1 ∧ ∀ r ∈ (scan bs).1, r.length ≤ 2097152 := by
  intro n
  induction n with
  | zero =>
    intro bs hb
    have h0 : fst bs = none := if_pos (by omega)
    rw [scan_none h0]
    exact ⟨rfl, by simp⟩
  | succ n ih =>
    intro bs hb
    cases hf : fst bs with
    | none =>
      rw [scan_none hf]
      exact ⟨rfl, by simp⟩
    | some r =>
      have hl := fst_len hf
      obtain ⟨h1, h2⟩ := fst_is hf
      obtain ⟨h3, h4⟩ := ih (bs.drop (8 + r.length)) (by rw [List.length_drop]; omega)
      rw [scan_some hf]
      refine ⟨?_, fun x hx => ?_⟩
      · show bs.take (8 + r.length + _) = frame r ++ fr _
        rw [List.take_add, h1, h3]
      · rcases List.mem_cons.1 hx with rfl | hx
        · exact h2
        · exact h4 x hx
theorem scan_all (M : List (List UInt8)) (h : ∀ r ∈ M, r.length ≤ 2097152) : scan (fr M) = (M, (fr M).length) := by
  have h1 := scan_fr M (fr M).length M.length h (Nat.le_refl _) (Nat.le_refl _) (el_le _ _) (fun h => absurd h (Nat.lt_irrefl _))
  rw [List.take_length, List.take_length, el_all M (Nat.le_refl _)] at h1
  exact h1
end Wl
end Go.Proofs.YtcinjdaanhpbjaaGreat

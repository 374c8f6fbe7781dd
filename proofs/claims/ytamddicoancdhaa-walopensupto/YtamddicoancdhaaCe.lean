/- What Scan, the reference's Scan and Same do, by walking their texts. -/
import Derived.Test.YtamddicoancdhaaCd
namespace Go.Proofs.Ytamddicoancdhaa
open Go.RowKit
namespace Wl
open Bw Rg

set_option maxHeartbeats 1000000 in
theorem scan_any (v : Value) (bs : List UInt8) (w : World) (hv : SlM w v bs) (hl : bs.length ≤ 1099511627776) :
    Calls Try.prog 14 #[v] w fun e w' => ∃ x, e = .returned (.tuple #[x, .int .i64 ((scan bs).2 : Int)]) ∧ Recs w.heap.size w' x (scan bs).1 ∧ Below w.heap.size w w' := by
  have HV : Hid (SlM w v bs) := hv
  clear hv
  go_enter Try.func14, Try.ntmps14
  go_wp2
  go_loopw [4, 5] (fun x y wr => ∃ (L : List (List UInt8)) (t : Nat), y = .int .i64 (t : Int) ∧ t ≤ bs.length ∧ Hid (Recs w.heap.size wr x L ∧ Below w.heap.size w wr ∧ 8 * L.length ≤ t) ∧ Hid (scan bs = (L ++ (scan (bs.drop t)).1, t + (scan (bs.drop t)).2))) (fun _ y _ => bs.length - numOf y)
  case atStart => exact ⟨[], 0, rfl, Nat.zero_le _, ⟨Recs.nil _ _, Below.refl _ _, by simp⟩, by show _ = _; simp⟩
  case round =>
    obtain ⟨L, t, rfl, ht, HR, HS⟩ := hrel
    obtain ⟨u, su, hu, bu⟩ := SlM.from HV.out t ht .i64
    have hcall := first_any u (bs.drop t) _ (hu.below HR.out.2.1 (Nat.le_refl _)) (by rw [List.length_drop]; omega)
    unfold FstOut at hcall
    clear hu bu
    cases hf : fst (bs.drop t) with
    | none =>
      rw [hf] at hcall
      have HS2 : Hid (scan bs = (L, t)) := by
        show _ = _
        rw [HS.out, scan_none hf]
        simp
      clear hf
      go_wp2_with (go_at_call 31; refine Calls.mono hcall ?_; rintro e w1 ⟨r, rfl, -, hb1⟩)
      go_ret2
      rw [HS2.out]
      exact ⟨_, rfl, HR.out.1.kept hb1, HR.out.2.1.trans (hb1.mono HR.out.2.1.size)⟩
    | some rec =>
      rw [hf] at hcall
      have hrl := fst_len hf
      rw [List.length_drop] at hrl
      obtain ⟨m, hm⟩ : ∃ m, rec.length = m := ⟨_, rfl⟩
      obtain ⟨t', ht'⟩ : ∃ t', t + (8 + m) = t' := ⟨_, rfl⟩
      have HS2 : Hid (scan bs = ((L ++ [rec]) ++ (scan (bs.drop t')).1, t' + (scan (bs.drop t')).2)) := by
        show _ = _
        rw [HS.out, scan_some hf, List.drop_drop, hm, ht']
        simp
        omega
      rw [hm] at hrl
      have HM : Hid (rec.length = m) := hm
      have e8 : IntKind.i64.wrap (8 + (m : Int)) = 8 + (m : Int) := by rw [IntKind.wrap_i64]; omega
      have et : IntKind.i64.wrap ((t : Int) + (8 + (m : Int))) = (t' : Int) := by rw [IntKind.wrap_i64]; omega
      have htl : t' ≤ bs.length := by omega
      have HTT : Hid (t < t' ∧ t + 8 ≤ t') := ⟨by omega, by omega⟩
      clear hf hm ht' HS
      go_wp2_with first
        | (go_at_call 31; refine Calls.mono hcall ?_; rintro e w1 ⟨r, rfl, hr1, hb1⟩; have HB1 := (show Hid (Below w.heap.size w w1) from HR.out.2.1.trans (hb1.mono HR.out.2.1.size)); have HR1 := (show Hid (Recs w.heap.size w1 _ L) from HR.out.1.kept hb1); have HX1 := (show Hid (SlM w1 r rec) from (hr1 rec rfl).1); have hlen1 := SlM.len HX1.out; rw [HM.out] at hlen1; clear hr1 hb1 hcall)
        | (go_at_call 32; refine (Dk.clone_any r rec _ HX1.out (by rw [HM.out]; omega)).mono ?_; rintro e w2 ⟨u2, rfl, hr2, hb2⟩; obtain ⟨us, h1, h2, h3⟩ := HR1.out.kept hb2; obtain ⟨p2, c2, rfl⟩ := hr2.form; have HB2 := (show Hid (Below w.heap.size w w2) from HB1.out.trans (hb2.mono HB1.out.size)); have HU := (show Hid (RowS w.heap.size w2 _ us ∧ us.length = L.length ∧ (∀ (i : Nat) (bs : List UInt8), L[i]? = some bs → ∃ u, us[i]? = some u ∧ RowB w.heap.size w2 u bs) ∧ RowB w.heap.size w2 (.slice p2 rec.length c2) rec) from ⟨h1, h2, h3, hr2.mono HB1.out.size⟩); clear hr2 hb2 h1 h2 h3 HR1)
        | (have hq := HU; clear hq; refine app_s rfl (.tmp 19) (.tmp 22) rfl w.heap.size _ us rfl HU.out.1 _ _ _ rfl (by rw [HU.out.2.1]; have := HR.out.2.2; omega) HB2.out.size ?_; rintro v4 w4 hr4 hg4 -; have HR4 := (show Hid (Recs w.heap.size w4 v4 (L ++ [rec])) from Recs.snoc HU.out.1 HU.out.2.1 HU.out.2.2.1 HU.out.2.2.2 hr4 hg4); have HB4 := (show Hid (Below w.heap.size w w4) from HB2.out.trans (grown_below HU.out.1 hg4 HB2.out.size)); clear hr4 hg4 HU)
      go_roundw
      case rel => exact ⟨L ++ [rec], t', rfl, htl, ⟨HR4.out, HB4.out, by have := HR.out.2.2; have := HTT.out; simp; omega⟩, HS2⟩
      case measure => have := HTT.out; simp [numOf]; omega
set_option maxHeartbeats 1000000 in
theorem same_any (u v : Value) (A B : List (List UInt8)) (w : World) (hu : SlS w u A) (hv : SlS w v B) (hl : A.length ≤ 1099511627776) (hl2 : B.length ≤ 1099511627776) :
    Calls Try.prog 16 #[u, v] w fun e w' => e = .returned (.bool (decide (A = B))) ∧ Below w.heap.size w w' := by
  have l1 := SlS.len hu
  have l2 := SlS.len hv
  have HU : Hid (SlS w u A) := hu
  have HV : Hid (SlS w v B) := hv
  clear hu hv
  obtain ⟨n, hn⟩ : ∃ n, A.length = n := ⟨_, rfl⟩
  obtain ⟨m, hm⟩ : ∃ m, B.length = m := ⟨_, rfl⟩
  rw [hn] at l1 hl
  rw [hm] at l2 hl2
  have HN : Hid (A.length = n ∧ B.length = m) := ⟨hn, hm⟩
  clear hn hm
  by_cases hnm : n = m
  · subst hnm
    go_enter Try.func16, Try.ntmps16
    go_wp2
    go_loopw [5] (fun y wr => ∃ k : Nat, y = .int .i64 (k : Int) ∧ k ≤ n ∧ Hid (∀ j, j < k → A[j]? = B[j]?) ∧ Hid (Below w.heap.size w wr)) (fun y _ => n - numOf y)
    case atStart => exact ⟨0, rfl, Nat.zero_le _, fun j hj => by omega, Below.refl _ _⟩
    case round =>
      obtain ⟨k, rfl, hk, HE, HB⟩ := hrel
      by_cases hlt : k < n
      · have hlt' : (k : Int) < (n : Int) := by omega
        obtain ⟨xs, hxs⟩ : ∃ xs, A[k]? = some xs := ⟨_, List.getElem?_eq_getElem (by rw [HN.out.1]; exact hlt)⟩
        obtain ⟨ys, hys⟩ : ∃ ys, B[k]? = some ys := ⟨_, List.getElem?_eq_getElem (by rw [HN.out.2]; exact hlt)⟩
        obtain ⟨b1, o1, c1, x, e1, f1, s1⟩ := SlS.at HU.out hxs
        obtain ⟨b2, o2, c2, y, e2, f2, s2⟩ := SlS.at HV.out hys
        have HXY : Hid (A[k]? = some xs ∧ B[k]? = some ys) := ⟨hxs, hys⟩
        rw [HN.out.1] at e1
        rw [HN.out.2] at e2
        have g1 : ∀ z : Cl w.heap.size w, z.u.cell? ⟨b1, o1 + k, none⟩ = some x := fun z => z.cell f1 (cell_lt f1)
        have g2 : ∀ z : Cl w.heap.size w, z.u.cell? ⟨b2, o2 + k, none⟩ = some y := fun z => z.cell f2 (cell_lt f2)
        have k1 : ∀ z : Cl w.heap.size w, (convert 22 9 x).run Try.prog z.u = .ok (.string ⟨xs.toArray⟩) z.u := fun z => conv_sl (s1.below z.h (Nat.le_refl _))
        have k2 : ∀ z : Cl w.heap.size w, (convert 22 9 y).run Try.prog z.u = .ok (.string ⟨ys.toArray⟩) z.u := fun z => conv_sl (s2.below z.h (Nat.le_refl _))
        have hne := Cl.ne w.heap.size w
        have hse := str_eq xs ys
        subst e1
        subst e2
        clear f1 f2 s1 s2 hxs hys
        by_cases hxy : xs = ys
        · subst hxy
          rw [decide_eq_true rfl] at hse
          obtain ⟨X, hX⟩ : ∃ X : ByteArray, (⟨xs.toArray⟩ : ByteArray) = X := ⟨_, rfl⟩
          rw [hX] at k1 k2 hse
          clear hX
          have HE2 : Hid (∀ j, j < k + 1 → A[j]? = B[j]?) := fun j hj => by
            by_cases hjk : j < k
            · exact HE.out j hjk
            · have : j = k := by omega
              subst this
              rw [HXY.out.1, HXY.out.2]
          go_wp2
          refine region_cl (N := w.heap.size) (W := w) (by kernel_rfl) (by kernel_rfl) HB.out ?_
          repeat (go_big_quiet_step (fail))
          refine wpQuiet_nil ?_
          rintro _ ⟨z, rfl⟩
          have HZ : Hid (Below w.heap.size w z.u) := z.h
          clear g1 g2 k1 k2
          go_wp2
          go_roundw
          case rel => exact ⟨k + 1, by go_num, hlt, HE2, HZ⟩
          case measure => simp [numOf]; omega
        · rw [decide_eq_false hxy] at hse
          obtain ⟨X, hX⟩ : ∃ X : ByteArray, (⟨xs.toArray⟩ : ByteArray) = X := ⟨_, rfl⟩
          obtain ⟨Y, hY⟩ : ∃ X : ByteArray, (⟨ys.toArray⟩ : ByteArray) = X := ⟨_, rfl⟩
          rw [hX] at k1 hse
          rw [hY] at k2 hse
          clear hX hY
          have hse2 : ¬ X.toList = Y.toList := by simpa using hse
          have HAB : Hid (¬ A = B) := fun e => by
            have h := HXY.out
            rw [e, h.2] at h
            exact hxy (Option.some.inj h.1).symm
          go_wp2
          refine region_cl (N := w.heap.size) (W := w) (by kernel_rfl) (by kernel_rfl) HB.out ?_
          repeat (go_big_quiet_step (fail))
          refine wpQuiet_nil ?_
          rintro _ ⟨z, rfl⟩
          have HZ : Hid (Below w.heap.size w z.u) := z.h
          clear g1 g2 k1 k2
          go_wp2
          go_ret
          rw [decide_eq_false HAB.out]
          exact ⟨rfl, HZ.out⟩
      · have hlt' : ¬ (k : Int) < (n : Int) := by omega
        have HAB : Hid (A = B) := by
          refine List.ext_getElem? (fun j => ?_)
          by_cases hj : j < k
          · exact HE.out j hj
          · rw [List.getElem?_eq_none (by rw [HN.out.1]; omega), List.getElem?_eq_none (by rw [HN.out.2]; omega)]
        go_wp2
        go_ret
        rw [decide_eq_true HAB.out]
        exact ⟨rfl, HB.out⟩
  · have hnm' : ¬ (n : Int) = (m : Int) := by omega
    have hnb : ((n : Int) == (m : Int)) = false := by simpa using hnm'
    have HAB : Hid (¬ A = B) := fun e => by
      have h := HN.out
      rw [e, h.2] at h
      exact hnm h.1.symm
    go_enter Try.func16, Try.ntmps16
    go_wp2
    go_ret
    rw [decide_eq_false HAB.out]
    exact ⟨rfl, Below.refl _ _⟩
end Wl
end Go.Proofs.Ytamddicoancdhaa

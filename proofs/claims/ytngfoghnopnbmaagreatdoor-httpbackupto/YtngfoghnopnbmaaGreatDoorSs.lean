/- A piece of a target. -/
import Derived.Test.YtngfoghnopnbmaaGreatDoorSr
namespace Go.Proofs.YtngfoghnopnbmaaGreatDoor
open Go.RowKit
namespace Ht
open Bw

/-- A fault of that place and code, in a block from base on. -/
def Flt (base : Nat) (w : World) (v : Value) (p : Nat) (c : Int) : Prop := ∃ k, base ≤ k ∧ v = .iface 105 (.pointer (some ⟨k, 0, none⟩)) ∧ w.heap[k]? = some (.cells #[.int .i64 (p : Int), .iface 34 (.int .i64 c)] 107 (0, 0))
/-- How a piece ends. -/
def PcOut (rb : Nat) (s : ByteArray) (r : Except (Nat × Int) (List UInt8 × Nat)) (w : World) (e : Ending) (w' : World) : Prop :=
  Fr (fun k => k = rb) w w' ∧ match r with
  | .ok (t, q) => e = .returned (.tuple #[.string ⟨t.toArray⟩, .nilIface]) ∧ RdAt rb s q w'
  | .error (p, c) => ∃ v, e = .returned (.tuple #[.string ⟨#[]⟩, v]) ∧ Flt w.heap.size w' v p c ∧ ∃ q, RdAt rb s q w'
theorem ix_lt (l : List UInt8) (c : UInt8) : decide (Lib.indexByte l c < 0) = decide (c ∉ l) := by
  rw [Bool.eq_iff_iff]
  simp only [decide_eq_true_eq]
  rw [← idx_nonneg]
  omega
section
variable {rb p : Nat} {s : ByteArray} {w w' : World}
theorem _root_.Go.Proofs.YtngfoghnopnbmaaGreatDoor.Bw.Fr.on {S : Nat → Prop} {a b c : World} (h : Fr S a b) (k : Below a.heap.size b c) : Fr S a c :=
  ⟨k.os.trans h.os, k.tape.trans h.tape, k.output.trans h.output, Nat.le_trans h.size k.size, fun i hi hn => (k.block i hi).trans (h.block i hi hn)⟩
theorem RdAt.on {B : Nat} (h : RdAt rb s p w) (f : Below B w w') (hB : rb < B) : RdAt rb s p w' := (f.block _ hB).trans h
theorem drewB (w : World) (k B : Nat) : Below B w (w.drewN k) := below_drewN (Below.refl _ _) k
theorem ext_drop (s : ByteArray) (n : Nat) : (s.extract n s.size).data.toList = s.data.toList.drop n := by
  rw [ByteArray.data_extract, Array.toList_extract]
  simp only [List.extract]
  exact List.take_of_length_le (by rw [List.length_drop, ← Lib.size_eq]; omega)
theorem PcOut.bad {W : World} {n q : Nat} {c : Int} {r : Except (Nat × Int) (List UInt8 × Nat)} (hm : r = .error (q, c)) (hf : Fr (fun k => k = rb) w W) (hr : RdAt rb s n W) : PcOut rb s r w (.returned (.tuple #[.string ⟨#[]⟩, .iface 105 (.pointer (some ⟨W.heap.size, 0, none⟩))])) (W.alloc (.cells #[.int .i64 (q : Int), .iface 34 (.int .i64 c)] 107)) := by
  subst hm
  have hb := allocB' W (.cells #[.int .i64 (q : Int), .iface 34 (.int .i64 c)] 107)
  exact ⟨hf.on (hb.mono hf.size), _, rfl, ⟨W.heap.size, hf.size, rfl, heap_alloc_new _ _⟩, n, hr.below hb⟩
theorem PcOut.good {W : World} {q : Nat} {l : List UInt8} {r : Except (Nat × Int) (List UInt8 × Nat)} (hm : r = .ok (l, q)) (hf : Fr (fun k => k = rb) w W) (hr : RdAt rb s q W) : PcOut rb s r w (.returned (.tuple #[.string ⟨l.toArray⟩, .nilIface])) W := by
  subst hm
  exact ⟨hf, rfl, hr⟩
/-- Where a reader stands. -/
def atOf (rb : Nat) (w : World) : Nat := match w.cell? ⟨rb, 1, none⟩ with
  | some v => numOf v
  | none => 0
theorem RdAt.at (h : RdAt rb s p w) : atOf rb w = p := by
  unfold atOf
  rw [h.c1]
  simp [numOf]
theorem drop_cons {l : List UInt8} {i : Nat} (h : i < l.length) : l.drop i = l[i] :: l.drop (i + 1) := List.drop_eq_getElem_cons h
set_option maxRecDepth 20000 in
set_option maxHeartbeats 4000000 in
theorem piece83 (h : RdAt rb s p w) (hp : p ≤ s.size) (hs : s.size ≤ 1000000000) (E : ByteArray) : Calls Tryz.prog 83 #[.pointer (some ⟨rb, 0, none⟩), .string E] w fun e w' => PcOut rb s (pieceM s.data.toList p E.data.toList) w e w' := by
  have c1 := h.c1
  have HSZ : Hid (s.size = s.data.toList.length) := Lib.size_eq s
  have hrb := lt_of_block h
  have H0 : Hid (RdAt rb s p w) := h
  obtain ⟨R, hR⟩ : ∃ R, pcM E.data.toList (s.size - p) (s.data.toList.drop p) [] 0 = R := ⟨_, rfl⟩
  have HR : Hid (pcM E.data.toList (s.size - p) (s.data.toList.drop p) [] 0 = R) := hR
  have HP : Hid (pieceM s.data.toList p E.data.toList = pieceF p R) := by
    show _ = _
    unfold pieceM
    rw [← HSZ.out, hR]
  clear h hR
  go_enter Tryz.func83, Tryz.ntmps83
  go_wp2
  go_loopw [7] (fun u w' => ∃ (n : Nat) (acc : List UInt8), p ≤ n ∧ n ≤ s.size ∧ acc.length ≤ n ∧ RowB w.heap.size w' u acc ∧ Hid (RdAt rb s n w') ∧ Fr (fun k => k = rb) w w' ∧ Hid (pcM E.data.toList (s.size - n) (s.data.toList.drop n) acc (n - p) = R)) (fun _ w' => s.size - atOf rb w')
  case atStart => exact ⟨p, [], Nat.le_refl _, hp, Nat.zero_le _, RowB.nil _ _, H0.out, Fr.refl _ _, by rw [Nat.sub_self]; exact HR⟩
  case round =>
    obtain ⟨n, acc, hpn, hn, hacc, hrow, hrd, hfr, HK⟩ := hrel
    have HM : Hid (atOf rb wr = n) := hrd.out.at
    have c0 := hrd.out.c0
    have c1 := hrd.out.c1
    have z1 := hrd.out.fz 1
    by_cases hlt : n < s.size
    · have hlt' : (n : Int) < (s.size : Int) := by omega
      have e0 := get_data hlt
      obtain ⟨c, hc⟩ : ∃ c, s[n]'hlt = c := ⟨_, rfl⟩
      have HD : Hid (s.data.toList.drop n = c :: s.data.toList.drop (n + 1)) := by
        have h2 : n < s.data.toList.length := by rw [← HSZ.out]; exact hlt
        rw [hc, List.getElem?_eq_getElem h2] at e0
        show _ = _
        rw [drop_cons h2, Option.some.inj e0]
      have qi := fun W => strings_IndexByte E (c.toNat : Int) W
      have ei : (c.toNat : Int).toNat.toUInt8 = c := by simp
      simp only [ei] at qi
      have el := ix_lt E.data.toList c
      obtain ⟨I, hI⟩ : ∃ I, Lib.indexByte E.data.toList c = I := ⟨_, rfl⟩
      simp only [hI] at qi el
      clear e0 ei hI
      by_cases hin : c ∈ E.data.toList
      · have el2 : decide (I < 0) = false := by rw [el]; simpa using hin
        have hI0 : ¬ I < 0 := by simpa using el2
        clear el el2
        have HRR : Hid (R = (true, acc, n - p)) := by
          have := HK.out
          rw [HD.out, pc_stop _ _ _ _ _ _ hin (by omega)] at this
          exact this.symm
        go_wp2
        go_quiet ((go_at_call 87; exact Calls.quiet_of_same (qi _)))
        obtain ⟨w2, hw2⟩ : ∃ v, wr.drewN nq = v := ⟨_, rfl⟩
        have b2 : Below wr.heap.size wr w2 := by rw [← hw2]; exact drewB _ _ _
        rw [hw2]
        clear hw2
        have hrow2 := hrow.kept b2
        have HX2 : Hid (RdAt rb s n w2 ∧ Fr (fun k => k = rb) w w2) := ⟨hrd.out.below b2, hfr.on (b2.mono hfr.size)⟩
        have hcv := conv_sl hrow2.slm
        have qs := sound123 ⟨acc.toArray⟩ w2 (by rw [Lib.size_eq]; simp; omega)
        obtain ⟨va, vl, vc, rfl⟩ : ∃ va vl vc, u7 = .slice va vl vc := by obtain ⟨a, c, e⟩ := hrow2.form; exact ⟨_, _, _, e⟩
        clear hrow hrd hfr c0 c1 z1 b2
        cases hsd : sndB acc with
        | true =>
          simp only [hsd] at qs
          have HC : Hid (∀ W, Below w2.heap.size w2 W → (convert 29 9 (.slice va vl vc)).run Tryz.prog W = .ok (.string ⟨acc.toArray⟩) W) := fun W hW => conv_sl (hrow2.kept hW).slm
          clear hrow2
          go_wp2_with (go_at_call 123; refine qs.mono ?_; rintro e w3 ⟨rfl, hb3⟩; have hcv3 := HC.out _ hb3)
          go_ret2
          exact PcOut.good (q := n) (by rw [HP.out, HRR.out, pieceF, if_pos hsd, Nat.add_sub_cancel' hpn]) (HX2.out.2.on (hb3.mono HX2.out.2.size)) (HX2.out.1.below hb3)
        | false =>
          simp only [hsd] at qs
          clear hrow2
          go_wp2_with (first
            | (go_at_call 123; refine qs.mono ?_; rintro e w3 ⟨rfl, hb3⟩)
            | (go_at_call 33; refine (fault33 _ _ _ ⟨_, rfl⟩).mono ?_; rintro e w1 ⟨rfl, rfl⟩))
          go_ret2
          exact PcOut.bad (n := n) (by rw [HP.out, HRR.out, pieceF, if_neg (by rw [hsd]; decide)]) (HX2.out.2.on (hb3.mono HX2.out.2.size)) (HX2.out.1.below hb3)
      · have el2 : decide (I < 0) = true := by rw [el]; simpa using hin
        have hI0 : I < 0 := by simpa using el2
        clear el el2
        have HX : Hid ((s.extract n s.size).data.toList = c :: s.data.toList.drop (n + 1)) := (ext_drop s n).trans HD.out
        cases hz : rcM (c :: s.data.toList.drop (n + 1)) with
        | none =>
          have HQ : Hid (∀ W, Calls Tryz.prog 122 #[.string (s.extract n s.size)] W fun e w' => e = .returned (.tuple #[.int .u8 0, .int .i64 0, .bool false]) ∧ ∃ k, w' = W.drewN k) := fun W => by
            have := coded122 _ _ _ HX.out W
            rw [hz] at this
            exact this
          have HRR : Hid (R = (false, acc, n - p)) := by
            have := HK.out
            rw [HD.out, pc_bad _ _ _ _ _ _ hin hz (by omega)] at this
            exact this.symm
          clear hz hin
          go_wp2
          go_quiet ((go_at_call 87; exact Calls.quiet_of_same (qi _)))
          obtain ⟨w2, hw2⟩ : ∃ v, wr.drewN nq = v := ⟨_, rfl⟩
          have b2 : Below wr.heap.size wr w2 := by rw [← hw2]; exact drewB _ _ _
          rw [hw2]
          clear hw2
          have hrow2 := hrow.kept b2
          have hrd2 : Hid (RdAt rb s n w2) := hrd.out.below b2
          have hfr2 : Fr (fun k => k = rb) w w2 := hfr.on (b2.mono hfr.size)
          clear hrow hrd hfr c0 c1 z1 b2
          have c0 := hrd2.out.c0
          have c1 := hrd2.out.c1
          have z1 := hrd2.out.fz 1
          go_wp2
          go_quiet ((go_at_call 122; exact Calls.quiet_of (HQ.out _)))
          go_wp2_with (go_at_call 33; refine (fault33 _ _ _ ⟨_, rfl⟩).mono ?_; rintro e w1 ⟨rfl, rfl⟩)
          go_ret2
          exact PcOut.bad (W := w2.drewN nq) (n := n) (by rw [HP.out, HRR.out, pieceF, Nat.add_sub_cancel' hpn]) (hfr2.on (drewB _ _ _)) (hrd2.out.below (drewB _ _ _))
        | some dz =>
          obtain ⟨d, z⟩ := dz
          have hzb := rc_bd hz
          have HQ : Hid (∀ W, Calls Tryz.prog 122 #[.string (s.extract n s.size)] W fun e w' => e = .returned (.tuple #[.int .u8 (d.toNat : Int), .int .i64 (z : Int), .bool true]) ∧ ∃ k, w' = W.drewN k) := fun W => by
            have := coded122 _ _ _ HX.out W
            rw [hz] at this
            exact this
          have hzn : n + z ≤ s.size := by
            have h1 := hzb.2
            rw [← HD.out, List.length_drop, ← HSZ.out] at h1
            omega
          have HK2 : Hid (pcM E.data.toList (s.size - (n + z)) (s.data.toList.drop (n + z)) (acc ++ [d]) (n + z - p) = R) := by
            have h1 := HK.out
            have h2 : (s.data.toList.drop (n + 1)).length < s.size - n := by rw [List.length_drop, ← HSZ.out]; omega
            rw [HD.out, pc_go _ _ _ _ _ _ hin hz h2, ← HD.out, List.drop_drop] at h1
            show _ = _
            rw [← h1]
            congr 1 <;> omega
          have hz0 := hzb.1
          clear hzb
          clear hz hin
          go_wp2
          go_quiet ((go_at_call 87; exact Calls.quiet_of_same (qi _)))
          obtain ⟨w2, hw2⟩ : ∃ v, wr.drewN nq = v := ⟨_, rfl⟩
          have b2 : Below wr.heap.size wr w2 := by rw [← hw2]; exact drewB _ _ _
          rw [hw2]
          clear hw2
          have hrow2 := hrow.kept b2
          have hrd2 : Hid (RdAt rb s n w2) := hrd.out.below b2
          have hfr2 : Fr (fun k => k = rb) w w2 := hfr.on (b2.mono hfr.size)
          clear hrow hrd hfr c0 c1 z1 b2
          have c0 := hrd2.out.c0
          have c1 := hrd2.out.c1
          have z1 := hrd2.out.fz 1
          go_wp2
          go_quiet ((go_at_call 122; exact Calls.quiet_of (HQ.out _)))
          obtain ⟨w4, hw4⟩ : ∃ v, w2.drewN nq = v := ⟨_, rfl⟩
          have b4 : Below w2.heap.size w2 w4 := by rw [← hw4]; exact drewB _ _ _
          rw [hw4]
          clear hw4
          have hrow4 := hrow2.kept b4
          have hrd4 := hrd2.out.below b4
          have hfr4 : Fr (fun k => k = rb) w w4 := hfr2.on (b4.mono hfr2.size)
          have hs4 := hfr4.size
          have ha := allocB' w4 (.cells #[.int .u8 (d.toNat : Int)] 5)
          have HX4 : Hid (RdAt rb s n w4 ∧ Fr (fun k => k = rb) w w4) := ⟨hrd4, hfr4⟩
          clear hrow2 hrd2 hfr2 c0 c1 z1 b4 hrd4 hfr4
          go_wp2_with (refine app_any rfl (.tmp 61) (.tmp 63) rfl w.heap.size _ acc rfl (hrow4.kept ha) (.slice (some ⟨w4.heap.size, 0, none⟩) 1 1) [d] rfl (one_sl w4 d) (by simp; omega) (by simp; omega) ?_; intro v' w3 hr hb; have hrd3 := (HX4.out.1.below ha).on hb hrb; have c1 := hrd3.c1; have z1 := hrd3.fz 1; obtain ⟨va, vl, vc, rfl⟩ : ∃ va vl vc, v' = .slice va vl vc := (by obtain ⟨a, c, e⟩ := hr.form; exact ⟨_, _, _, e⟩); have H3 : Hid _ := And.intro hr (And.intro hrd3 (Fr.on (HX4.out.2.on (ha.mono hs4)) hb)); clear hr hb hrd3)
          go_roundw
          case rel => exact ⟨n + z, acc ++ [d], by omega, hzn, by simp; omega, H3.out.1.other (fun k hk => Below.heap_setCell _ _ _ _ (by have := H3.out.1.lt k hk; simp; omega)), (by have := H3.out.2.1.set (n + z); rw [Int.natCast_add] at this; exact this), H3.out.2.2.and (Fr.setCell (S := fun k => k = rb) _ _ _ rfl) (fun _ _ x => x), HK2⟩
          case measure =>
            have h1 : RdAt rb s (n + z) (w3.setCell ⟨rb, 1, none⟩ (.int .i64 ((n : Int) + (z : Int)))) := by have := H3.out.2.1.set (n + z); rw [Int.natCast_add] at this; exact this
            rw [HM.out, h1.at]
            omega
    · have hlt' : ¬ (n : Int) < (s.size : Int) := by omega
      have HRR : Hid (R = (true, acc, n - p)) := by
        have := HK.out
        rw [List.drop_eq_nil_of_le (by rw [← HSZ.out]; omega), pc_end] at this
        exact this.symm
      go_wp2
      go_quiet (fail)
      obtain ⟨w2, hw2⟩ : ∃ v, wr.drewN nq = v := ⟨_, rfl⟩
      have b2 : Below wr.heap.size wr w2 := by rw [← hw2]; exact drewB _ _ _
      rw [hw2]
      clear hw2
      have hrow2 := hrow.kept b2
      have HX2 : Hid (RdAt rb s n w2 ∧ Fr (fun k => k = rb) w w2) := ⟨hrd.out.below b2, hfr.on (b2.mono hfr.size)⟩
      have hcv := conv_sl hrow2.slm
      have qs := sound123 ⟨acc.toArray⟩ w2 (by rw [Lib.size_eq]; simp; omega)
      obtain ⟨va, vl, vc, rfl⟩ : ∃ va vl vc, u7 = .slice va vl vc := by obtain ⟨a, c, e⟩ := hrow2.form; exact ⟨_, _, _, e⟩
      clear hrow hrd hfr c0 c1 z1 b2
      cases hsd : sndB acc with
      | true =>
        simp only [hsd] at qs
        have HC : Hid (∀ W, Below w2.heap.size w2 W → (convert 29 9 (.slice va vl vc)).run Tryz.prog W = .ok (.string ⟨acc.toArray⟩) W) := fun W hW => conv_sl (hrow2.kept hW).slm
        clear hrow2
        go_wp2_with (go_at_call 123; refine qs.mono ?_; rintro e w3 ⟨rfl, hb3⟩; have hcv3 := HC.out _ hb3)
        go_ret2
        exact PcOut.good (q := n) (by rw [HP.out, HRR.out, pieceF, if_pos hsd, Nat.add_sub_cancel' hpn]) (HX2.out.2.on (hb3.mono HX2.out.2.size)) (HX2.out.1.below hb3)
      | false =>
        simp only [hsd] at qs
        clear hrow2
        go_wp2_with (first
          | (go_at_call 123; refine qs.mono ?_; rintro e w3 ⟨rfl, hb3⟩)
          | (go_at_call 33; refine (fault33 _ _ _ ⟨_, rfl⟩).mono ?_; rintro e w1 ⟨rfl, rfl⟩))
        go_ret2
        exact PcOut.bad (n := n) (by rw [HP.out, HRR.out, pieceF, if_neg (by rw [hsd]; decide)]) (HX2.out.2.on (hb3.mono HX2.out.2.size)) (HX2.out.1.below hb3)
end
end Ht
end Go.Proofs.YtngfoghnopnbmaaGreatDoor

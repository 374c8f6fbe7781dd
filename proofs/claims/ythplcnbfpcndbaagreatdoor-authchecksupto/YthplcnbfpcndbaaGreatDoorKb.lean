/- made: a text of so many bytes at most, all of one kind. -/
import Derived.Test.YthplcnbfpcndbaaGreatDoorKa
namespace Go.Proofs.YthplcnbfpcndbaaGreatDoor
open Go.RowKit

/-- 1 to m bytes, all of a kind. -/
def madeL (m : Int) (p : Int → Bool) (l : List UInt8) : Bool := decide (l ≠ []) && decide ((l.length : Int) ≤ m) && l.all (fun b => p (b.toNat : Int))
theorem all_at (s : ByteArray) (q : UInt8 → Bool) (pos : Nat) (h : pos < s.size) : (s.data.toList.drop pos).all q = (q (s[pos]'h) && (s.data.toList.drop (pos + 1)).all q) := by
  rw [List.drop_eq_getElem_cons (by simpa using h), List.all_cons]
  rfl

set_option maxHeartbeats 4000000 in
theorem made_any (s : ByteArray) (m : Int) (v : Value) (p : Int → Bool) (w : World) (hk : KindAt v p w) (hp : Hid (∀ r, 128 ≤ r → p r = false)) (_hm : m ≤ 64) :
    Calls Tryz.prog 104 #[.string s, .int .i64 m, v] w fun e w' => e = .returned (.bool (madeL m p s.data.toList)) ∧ Below w.heap.size w w' := by
  obtain ⟨f, cap, rfl, hF, hk⟩ := hk
  by_cases h0 : s = ⟨#[]⟩
  · subst h0
    clear hk
    go_enter Tryz.func104, Tryz.ntmps104
    go_wp2
    go_ret
    exact ⟨rfl, Below.refl _ _⟩
  · have hne2 : Hid (s.data.toList ≠ []) := fun h => h0 (by cases s; simp_all)
    have hne : s.toList.isEmpty = false := by
      rw [Lib.toList_data]
      simpa using hne2.out
    clear h0
    by_cases h1 : m < (s.size : Int)
    · clear hk
      go_enter Tryz.func104, Tryz.ntmps104
      go_wp2
      go_ret
      refine ⟨ret_bool ?_, Below.refl _ _⟩
      have : ¬ ((s.data.toList.length : Int) ≤ m) := by simp; omega
      simp only [madeL, this, decide_false, Bool.and_false, Bool.false_and]
    · have HM : Hid (∀ q, s.data.toList.all (fun b => p (b.toNat : Int)) = q → madeL m p s.data.toList = q) := by
        intro q hq
        have h3 : (s.data.toList.length : Int) ≤ m := by simp; omega
        have h4 := hne2.out
        simp only [madeL, h3, hq, h4, ne_eq, not_false_eq_true, decide_true, Bool.true_and]
      go_enter Tryz.func104, Tryz.ntmps104
      go_wp2
      go_loopw [] (fun wr => ∃ pos : Nat, wr.heap[w.heap.size]? = some (.stringIter s pos) ∧ Below w.heap.size w wr ∧ Hid ((s.data.toList.drop pos).all (fun b => p (b.toNat : Int)) = s.data.toList.all (fun b => p (b.toNat : Int)))) (fun wr => s.size - wr.iterPos w.heap.size)
      case atStart => exact ⟨0, World.iter_heap w s 0, (Below.refl _ _).alloc (Nat.le_refl _) _, rfl⟩
      case round =>
        obtain ⟨pos, hit, hbw, HI⟩ := hrel
        have hpos0 := iterPos_of hit
        by_cases hpp : pos < s.size
        · have hnx : ∀ ty, (Instr.next (.pointer (some ⟨w.heap.size, 0, none⟩)) true ty).run Tryz.prog wr = _ := fun ty => Lib.run_next_any_at wr w.heap.size s pos ty hit hpp
          have hit2 := Lib.iterAt_heap wr w.heap.size s pos (pos + (Utf8.decode s pos).2) hit
          have hbw2 := Lib.below_iterAt hbw (k := w.heap.size) (Nat.le_refl _) s (pos + (Utf8.decode s pos).2)
          have hD : Hid (p ((Utf8.decode s pos).1 : Int) = true → (Utf8.decode s pos).2 = 1 ∧ (Utf8.decode s pos).1 = (s[pos]'hpp).toNat) := by
            intro hd
            by_cases ha : (s[pos]'hpp).toNat < 128
            · rw [decode_ascii s pos hpp ha]
              exact ⟨rfl, rfl⟩
            · have := (decode_high s pos hpp (by omega)).1
              rw [hp.out _ (by omega)] at hd
              cases hd
          have hD0 : Hid (p ((Utf8.decode s pos).1 : Int) = false → s.data.toList.all (fun b => p (b.toNat : Int)) = false) := by
            intro hd
            rw [← HI.out, all_at s _ pos hpp]
            by_cases ha : (s[pos]'hpp).toNat < 128
            · rw [decode_ascii s pos hpp ha] at hd
              rw [hd, Bool.false_and]
            · rw [hp.out _ (by omega), Bool.false_and]
          obtain ⟨W1, hW1⟩ : ∃ W1, W1 = wr.iterAt w.heap.size s (pos + (Utf8.decode s pos).2) := ⟨_, rfl⟩
          rw [← hW1] at hnx hit2 hbw2
          clear hW1 hit hbw
          have hq := hk W1 hbw2 ((Utf8.decode s pos).1 : Int) (by omega)
          obtain ⟨P, hP⟩ : ∃ P, p ((Utf8.decode s pos).1 : Int) = P := ⟨_, rfl⟩
          rw [hP] at hq hD hD0
          cases P
          · have HF : Hid (s.data.toList.all (fun b => p (b.toNat : Int)) = false) := hD0.out rfl
            clear hD hD0
            go_wp2_with (go_at_fn f; refine hq.mono ?_; rintro e w' ⟨rfl, hb⟩)
            go_ret
            exact ⟨ret_bool (HM.out _ HF.out).symm, hbw2.trans (hb.mono hbw2.size)⟩
          · obtain ⟨d2, d1⟩ := hD.out rfl
            have HJ : Hid ((s.data.toList.drop (pos + 1)).all (fun b => p (b.toNat : Int)) = s.data.toList.all (fun b => p (b.toNat : Int))) := by
              show _ = _
              rw [← HI.out, all_at s _ pos hpp, ← d1, hP, Bool.true_and]
            rw [d2] at hit2
            clear d1 d2 hD hD0
            have hlt : w.heap.size < W1.heap.size := (Array.getElem?_eq_some_iff.1 hit2).1
            go_wp2_with (go_at_fn f; refine hq.mono ?_; rintro e w' ⟨rfl, hb⟩)
            have hit3 : w'.heap[w.heap.size]? = some (.stringIter s (pos + 1)) := (hb.block _ hlt).trans hit2
            go_roundw
            case rel => exact ⟨pos + 1, hit3, hbw2.trans (hb.mono hbw2.size), HJ⟩
            case measure => rw [iterPos_of hit3, hpos0]; omega
        · have hnx : ∀ ty, (Instr.next (.pointer (some ⟨w.heap.size, 0, none⟩)) true ty).run Tryz.prog wr = _ := fun ty => Lib.run_next_end_at wr w.heap.size s pos ty hit hpp
          have e := HI.out
          rw [List.drop_eq_nil_of_le (by simp; omega)] at e
          go_wp2
          go_ret
          exact ⟨ret_bool (HM.out _ e.symm).symm, hbw⟩
end Go.Proofs.YthplcnbfpcndbaaGreatDoor

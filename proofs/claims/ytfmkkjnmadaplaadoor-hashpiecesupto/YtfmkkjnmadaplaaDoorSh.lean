/- The head of all statements of layer 5 ('shown') answers true. -/
import Derived.Test.YtfmkkjnmadaplaaDoorSuN
import Derived.Test.YtfmkkjnmadaplaaDoorSuW
namespace Go.Proofs.YtfmkkjnmadaplaaDoor
open Go.RowKit
namespace Hw
open Hs Rg

theorem s1 : (sum kn [])[0]? = some 227 ∧ (sum kn [])[31]? = some 85 := by decide +kernel
theorem s2 : (sum kw [97, 98, 99])[0]? = some 221 ∧ (sum kw [97, 98, 99])[63]? = some 159 := by decide +kernel
theorem cell_at {l : List UInt8} {i : Nat} {b : UInt8} (h : l[i]? = some b) : (Lib.byteCells l)[i]? = some (.int .u8 (b.toNat : Int)) := by
  obtain ⟨hi, rfl⟩ := List.getElem?_eq_some_iff.1 h
  simp [Lib.byteCells, hi]
theorem abc_at (W : World) : Bw.SlM (W.alloc (.cells #[.int .u8 97, .int .u8 98, .int .u8 99] 5)) (.slice (some ⟨W.heap.size, 0, none⟩) [97, 98, 99].length 3) [97, 98, 99] := by
  refine .inr ⟨W.heap.size, 0, 3, rfl, by decide, by decide, fun j hj => ?_⟩
  rw [Nat.zero_add]
  refine cell_new _ _ _ ?_
  have hj2 : j < 3 := hj
  match j, hj2 with
  | 0, _ => rfl
  | 1, _ => rfl
  | 2, _ => rfl
/-- Behind a variable that was made and filled. -/
theorem filled_new {w w1 : World} {Z : Array Value} {t : TypeId} {C : List Value} (hb : Below w.heap.size w w1) (hZ : ∀ j, j < C.length → (Z[j]?).isSome = true) :
    (w1.alloc (.cells Z t)).there w1.heap.size 0 C.length ∧ Below w1.heap.size w1 ((w1.alloc (.cells Z t)).setCells w1.heap.size 0 C) ∧ ((w1.alloc (.cells Z t)).setCells w1.heap.size 0 C).rangeAt w1.heap.size 0 C ∧ Below w.heap.size w ((w1.alloc (.cells Z t)).setCells w1.heap.size 0 C) ∧ ((w1.alloc (.cells Z t)).setCells w1.heap.size 0 C).heap.size = w1.heap.size + 1 := by
  have ht := there_new w1 Z t hZ
  exact ⟨ht, HN.below_setCells ((Below.refl _ _).alloc (Nat.le_refl _) _) (Nat.le_refl _), World.rangeAt_setCells_same _ _ _ _ ht, HN.below_setCells (hb.alloc hb.size _) hb.size, by rw [HN.size_setCells, size_alloc]⟩

set_option maxHeartbeats 4000000 in
set_option maxRecDepth 4000 in
theorem shown_any (w : World) (hT : Tabs w) : Calls Tryd.prog 6 #[] w fun e w' => e = .returned (.bool true) ∧ Below w.heap.size w w' := by
  have hz1 := HN.zeroOut
  have hz2 := HW.zeroOut
  obtain ⟨Z1, hZ1⟩ : ∃ Z, HN.zout = Z := ⟨_, rfl⟩
  obtain ⟨Z2, hZ2⟩ : ∃ Z, HW.zout = Z := ⟨_, rfl⟩
  have y1 : ∀ j, j < 32 → (Z1[j]?).isSome = true := fun j hj => by rw [← hZ1, HN.zout]; simp [hj]
  have y2 : ∀ j, j < 64 → (Z2[j]?).isSome = true := fun j hj => by rw [← hZ2, HW.zout]; simp [hj]
  rw [hZ1] at hz1
  rw [hZ2] at hz2
  have hTl := hT.lt
  have c7 : ∀ W : World, Below w.heap.size w W → Calls Tryd.prog 7 #[.slice none 0 0] W fun e w' => e = .returned (.agg (Lib.byteCells (sum kn [])).toArray) ∧ Below W.heap.size W w' := fun W hW =>
    HN.sum_any none 0 [] W (hT.below hW (by omega)) (by decide) (.inl ⟨rfl, .inl rfl⟩)
  have c8 : ∀ W : World, Below w.heap.size w W → Calls Tryd.prog 8 #[.slice (some ⟨W.heap.size, 0, none⟩) 3 3] (W.alloc (.cells #[.int .u8 97, .int .u8 98, .int .u8 99] 5)) fun e w' => e = .returned (.agg (Lib.byteCells (sum kw [97, 98, 99])).toArray) ∧ Below (W.heap.size + 1) (W.alloc (.cells #[.int .u8 97, .int .u8 98, .int .u8 99] 5)) w' := fun W hW => by
    have h := HW.sum_any (some ⟨W.heap.size, 0, none⟩) 3 [97, 98, 99] (W.alloc (.cells #[.int .u8 97, .int .u8 98, .int .u8 99] 5)) (hT.below (hW.alloc hW.size _) (by omega)) (by decide) (abc_at W)
    rw [size_alloc] at h
    exact h
  have d1 : (Lib.byteCells (sum kn [])).length = 32 := by rw [Lib.byteCells_length]; exact sum_len kn []
  have d2 : (Lib.byteCells (sum kw [97, 98, 99])).length = 64 := by rw [Lib.byteCells_length]; exact sum_len kw [97, 98, 99]
  have e1 := cell_at s1.1
  have e2 := cell_at s1.2
  have e3 := cell_at s2.1
  have e4 := cell_at s2.2
  have o1 := all_oneCell_toArray (Bw.one_byte (sum kn []))
  have o2 := all_oneCell_toArray (Bw.one_byte (sum kw [97, 98, 99]))
  obtain ⟨C1, hC1⟩ : ∃ C, Lib.byteCells (sum kn []) = C := ⟨_, rfl⟩
  obtain ⟨C2, hC2⟩ : ∃ C, Lib.byteCells (sum kw [97, 98, 99]) = C := ⟨_, rfl⟩
  rw [hC1] at c7 d1 e1 e2 o1
  rw [hC2] at c8 d2 e3 e4 o2
  have E1 : Hid (C1[0]? = some (.int .u8 227) ∧ C1[31]? = some (.int .u8 85)) := ⟨e1, e2⟩
  have E2 : Hid (C2[0]? = some (.int .u8 221) ∧ C2[63]? = some (.int .u8 159)) := ⟨e3, e4⟩
  have D1 : Hid (C1.length = 32) := d1
  have D2 : Hid (C2.length = 64) := d2
  have O1 : Hid (C1.toArray.all (·.oneCell') = true) := o1
  have O2 : Hid (C2.toArray.all (·.oneCell') = true) := o2
  have Y1 : Hid (∀ j, j < 32 → (Z1[j]?).isSome = true) := y1
  have Y2 : Hid (∀ j, j < 64 → (Z2[j]?).isSome = true) := y2
  clear hC1 hC2 d1 d2 e1 e2 e3 e4 o1 o2 y1 y2 hZ1 hZ2 hT
  go_enter Tryd.func6, Tryd.ntmps6
  go_wp2_with (first
    | (go_at_call 7; refine (c7 _ (Below.refl _ _)).mono ?_; rintro e w1 ⟨rfl, hb1⟩; have f1 := (show Hid (_ ∧ _ ∧ _ ∧ _ ∧ _) from filled_new (Z := Z1) (t := 24) (C := C1) hb1 (by rw [D1.out]; exact Y1.out)))
    | (refine wpList_store_mid rfl 24 (.tmp 1) (.tmp 3) rfl w1.heap.size 0 C1.toArray rfl rfl f1.out.1 (by rw [List.size_toArray, D1.out]; exact HN.infoOut) O1.out ?_; simp only; obtain ⟨w2, hw2⟩ : ∃ v, (w1.alloc (.cells Z1 24)).setCells w1.heap.size 0 C1 = v := ⟨_, rfl⟩; rw [hw2] at f1 ⊢; clear hw2)
    | (go_at_call 8; refine (c8 w2 f1.out.2.2.2.1).mono ?_; rintro e w3 ⟨rfl, hb3⟩; have hb3w : Below w.heap.size w w3 := (f1.out.2.2.2.1.alloc f1.out.2.2.2.1.size _).trans (hb3.mono (by have := f1.out.2.2.2.1.size; omega)); have f2 := (show Hid (_ ∧ _ ∧ _ ∧ _ ∧ _) from filled_new (Z := Z2) (t := 26) (C := C2) hb3w (by rw [D2.out]; exact Y2.out)))
    | (refine wpList_store_mid rfl 26 (.tmp 2) (.tmp 5) rfl w3.heap.size 0 C2.toArray rfl rfl f2.out.1 (by rw [List.size_toArray, D2.out]; exact HW.infoOut) O2.out ?_; simp only; obtain ⟨w4, hw4⟩ : ∃ v, (w3.alloc (.cells Z2 26)).setCells w3.heap.size 0 C2 = v := ⟨_, rfl⟩; rw [hw4] at f2 ⊢; clear hw4; have g1 : w4.rangeAt w1.heap.size 0 C1 := Below.range f2.out.2.1 (Below.range hb3 (World.rangeAt_alloc f1.out.2.2.1 _) (by have := f1.out.2.2.2.2; omega)) (by have := hb3.size; have := f1.out.2.2.2.2; simp at *; omega); have q1 := g1 0 _ E1.out.1; have q2 := g1 31 _ E1.out.2; have q3 := f2.out.2.2.1 0 _ E2.out.1; have q4 := f2.out.2.2.1 63 _ E2.out.2; simp only [Nat.zero_add] at q1 q2 q3 q4; have hbf := f2.out.2.2.2.1; clear f1 f2 g1))
  go_ret
  exact ⟨rfl, hbf⟩
end Hw
end Go.Proofs.YtfmkkjnmadaplaaDoor

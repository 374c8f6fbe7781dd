/- Kinds of letters: which runes the closures of lowOr and letterOr take. -/
import Derived.Test.YthplcnbfpcndbaaGreatDoorLay
import Derived.Test.YthplcnbfpcndbaaGreatDoorChecked
import Derived.Lib.RuneCount
import Derived.Lib.OthersKept
import Derived.Laws.Runes
import Derived.Lib.IndexLaws
import Derived.BigQuiet
import Derived.WalkMore
import Derived.WalkSmall
import Derived.Laws.EntriesVeiled
import Derived.OneCell
namespace Go.Proofs.YthplcnbfpcndbaaGreatDoor
open Go.RowKit

theorem noHit : ∀ (l : List UInt8) (c : UInt8), (∀ x ∈ l, x ≠ c) → Lib.indexByte l c = -1
  | [], _, _ => rfl
  | x :: r, c, h => by
    have hx := h x (List.mem_cons_self ..)
    have ih := noHit r c (fun y hy => h y (List.mem_cons_of_mem _ hy))
    simp [Lib.indexByte, ih, hx]
theorem below_drewN {n : Nat} {a w : World} (h : Below n a w) (m : Nat) : Below n a (w.drewN m) := h.trans ⟨rfl, rfl, rfl, Nat.le_refl _, fun _ _ => rfl⟩
/-- All bytes are below 128. -/
def Asc (s : ByteArray) : Prop := ∀ i, (h : i < s.size) → (s[i]'h).toNat < 128

set_option maxRecDepth 100000 in
set_option maxHeartbeats 4000000 in
theorem indexRune_err (s : ByteArray) (w : World) (_hs : s.size ≤ 16) (ha : Hid (Asc s)) :
    Calls Tryz.prog 116 #[.string s, .int .i32 65533] w fun e w' => e = .returned (.int .i64 (-1)) ∧ Below w.heap.size w w' := by
  go_enter Tryz.func116, Tryz.ntmps116
  go_wp2
  go_loopw [] (fun wr => ∃ pos : Nat, wr.heap[w.heap.size]? = some (.stringIter s pos) ∧ Below w.heap.size w wr) (fun wr => s.size - wr.iterPos w.heap.size)
  case atStart => exact ⟨0, World.iter_heap w s 0, (Below.refl _ _).alloc (Nat.le_refl _) _⟩
  case round =>
    obtain ⟨pos, hit, hbw⟩ := hrel
    have hpos0 := iterPos_of hit
    by_cases hp : pos < s.size
    · have hnx : ∀ ty, (Instr.next (.pointer (some ⟨w.heap.size, 0, none⟩)) true ty).run Tryz.prog wr = _ := fun ty => Lib.run_next_any_at wr w.heap.size s pos ty hit hp
      have hd := decode_ascii s pos hp (ha.out pos hp)
      have hlt := ha.out pos hp
      rw [hd] at hnx
      have hit2 := Lib.iterAt_heap wr w.heap.size s pos (pos + 1) hit
      have hbw2 := Lib.below_iterAt hbw (k := w.heap.size) (Nat.le_refl _) s (pos + 1)
      have hne : ((((s[pos]'hp).toNat : Nat) : Int) == 65533) = false := by simp; omega
      go_wp2
      go_roundw
      case rel => exact ⟨_, hit2, hbw2⟩
      case measure => rw [iterPos_of hit2, hpos0]; omega
    · have hnx : ∀ ty, (Instr.next (.pointer (some ⟨w.heap.size, 0, none⟩)) true ty).run Tryz.prog wr = _ := fun ty => Lib.run_next_end_at wr w.heap.size s pos ty hit hp
      go_wp2
      go_ret
      exact ⟨rfl, hbw⟩

set_option maxRecDepth 100000 in
set_option maxHeartbeats 4000000 in
theorem indexRune_none (s : ByteArray) (r : Int) (w : World) (h0 : 128 ≤ r) (h2 : (r == 65533) = false) (hv : Lib.validRune r = false) :
    Calls Tryz.prog 116 #[.string s, .int .i32 r] w fun e w' => e = .returned (.int .i64 (-1)) ∧ Below w.heap.size w w' := by
  go_enter Tryz.func116, Tryz.ntmps116
  go_wp2_with (go_at_call 120; refine (utf8_ValidRune _ _).mono ?_; rintro e w' ⟨rfl, rfl⟩)
  go_ret
  exact ⟨rfl, Below.refl _ _⟩

set_option maxRecDepth 100000 in
set_option maxHeartbeats 4000000 in
theorem indexRune_some (s : ByteArray) (r : Int) (w : World) (h0 : 128 ≤ r) (h2 : (r == 65533) = false) (_hs : s.size ≤ 16) (ha : Hid (Asc s)) (hv : Lib.validRune r = true) :
    Calls Tryz.prog 116 #[.string s, .int .i32 r] w fun e w' => e = .returned (.int .i64 (-1)) ∧ Below w.heap.size w w' := by
  have hf := encode_facts r (by simp [Utf8.valid]; simp [Lib.validRune] at hv; omega) h0
  obtain ⟨E, hE⟩ : ∃ E, Utf8.encode r = E := ⟨_, rfl⟩
  rw [hE] at hf
  obtain ⟨f1, f2, f3⟩ := hf
  have hlt : E.size - 1 < E.size := by omega
  have f4 := f3 hlt
  clear f3
  obtain ⟨L, hL⟩ : ∃ L : UInt8, E[E.size - 1]'hlt = L := ⟨_, rfl⟩
  rw [hL] at f4
  have hnn : (E.size : Int) - 1 = ((E.size - 1 : Nat) : Int) := by omega
  have hI : ∀ W, Calls Tryz.prog 119 #[.string (s.extract E.size s.size), .int .u8 (L.toNat : Int)] W fun e w' => e = .returned (.int .i64 (-1)) ∧ w' = W := fun W => by
    have h := strings_IndexByte (s.extract E.size s.size) (L.toNat : Int) W
    rw [noHit _ _ (fun x hx => ?_)] at h
    · exact h
    · rw [show ((L.toNat : Int).toNat.toUInt8) = L by simp]
      have hm : x ∈ s.data.toList := by
        simp only [ByteArray.data_extract, Array.toList_extract] at hx
        exact List.mem_of_mem_drop (List.mem_of_mem_take hx)
      obtain ⟨i, hi, rfl⟩ := List.getElem_of_mem hm
      have := ha.out i (by simpa using hi)
      rintro rfl
      simp only [Array.getElem_toList] at f4
      exact absurd this (by show ¬ (s.data[i]).toNat < 128; omega)
  go_enter Tryz.func116, Tryz.ntmps116
  go_wp2_with (go_at_call 120; refine (utf8_ValidRune _ _).mono ?_; rintro e w' ⟨rfl, rfl⟩)
  go_step3
  go_wp2
  go_loopw [9] (fun v wr => v = .int .i64 ((E.size - 1 : Nat) : Int) ∧ wr = w') (fun _ _ => 0)
  case atStart => exact ⟨rfl, rfl⟩
  case round =>
    obtain ⟨rfl, rfl⟩ := hrel
    by_cases hp : E.size - 1 < s.size
    · have hw1 : IntKind.i64.wrap (((E.size - 1 : Nat) : Int) + 1) = (E.size : Int) := by rw [wrap_small _ (by omega) (by omega)]; omega
      have hle : E.size ≤ s.size := by omega
      have hsl := ha.out (E.size - 1) hp
      have hne : ((((s[E.size - 1]'hp).toNat : Nat) : Int) != (L.toNat : Int)) = true := by simp; omega
      go_wp2
      go_step3
      go_wp2
      go_quiet (fail)
      go_wp2
      have hbw := below_drewN (Below.refl wr.heap.size wr) nq
      generalize wr.drewN nq = W at hbw ⊢
      go_quiet (first | (go_at_call 119; refine Calls.quiet_of_same (hI _)))
      go_wp2
      show bodyPost Tryz.prog Tryz.f116 (fun e w' => e = Ending.returned (Value.int IntKind.i64 (-1)) ∧ Below wr.heap.size wr w') Exit.ret _ _
      go_ret
      exact ⟨rfl, below_drewN hbw _⟩
    · go_wp2
      rw [Exit.noGoto_ret]
      go_ret
      exact ⟨rfl, Below.refl _ _⟩
theorem indexRune_high (s : ByteArray) (r : Int) (w : World) (h0 : 128 ≤ r) (hs : s.size ≤ 16) (ha : Hid (Asc s)) :
    Calls Tryz.prog 116 #[.string s, .int .i32 r] w fun e w' => e = .returned (.int .i64 (-1)) ∧ Below w.heap.size w w' := by
  by_cases h1 : r = 65533
  · subst h1
    exact indexRune_err s w hs ha
  · have h2 : (r == 65533) = false := by simpa using h1
    cases hv : Lib.validRune r
    · exact indexRune_none s r w h0 h2 hv
    · exact indexRune_some s r w h0 h2 hs ha hv

theorem ret_bool {p q : Bool} (h : p = q) : Ending.returned (.bool p) = .returned (.bool q) := by rw [h]
/-- Is a rune one of some letters? -/
def oneOf (l : List UInt8) (r : Int) : Bool := decide (r < 128) && decide (0 ≤ Lib.indexByte l r.toNat.toUInt8)

theorem containsRune_any (s : ByteArray) (r : Int) (w : World) (h0 : 0 ≤ r) (hs : s.size ≤ 16) (ha : Hid (Asc s)) :
    Calls Tryz.prog 110 #[.string s, .int .i32 r] w fun e w' => e = .returned (.bool (oneOf s.data.toList r)) ∧ Below w.heap.size w w' := by
  by_cases h1 : r < 128
  · refine (strings_ContainsRune_ascii s r w h0 h1).mono ?_
    rintro e w' ⟨rfl, rfl⟩
    refine ⟨?_, Below.refl _ _⟩
    simp [oneOf, h1]
  · have hc := fun W => indexRune_high s r W (by omega) hs ha
    go_enter Tryz.func110, Tryz.ntmps110
    go_wp2_with (go_at_call 116; refine (hc _).mono ?_; rintro e w' ⟨rfl, hb⟩)
    go_ret
    refine ⟨?_, hb⟩
    rw [oneOf, show decide (r < 128) = false by simpa using h1]
    rfl

/-- Small letters, digits, and some others. -/
def lowP (l : List UInt8) (r : Int) : Bool := (decide (97 ≤ r) && decide (r ≤ 122)) || (decide (48 ≤ r) && decide (r ≤ 57)) || oneOf l r
/-- All letters, digits, and some others. -/
def letP (l : List UInt8) (r : Int) : Bool := (decide (65 ≤ r) && decide (r ≤ 90)) || lowP l r

/-- A function value that tells of a rune what p says, whatever else is laid meanwhile. -/
def KindAt (v : Value) (p : Int → Bool) (w : World) : Prop :=
  ∃ f cap, v = .func (.func f) #[] #[cap] ∧ (∀ (args : Array Value) (w : World), Sem.run Tryz.prog (callFunc f args) w = .ok (.enter f args) w) ∧ ∀ w', Below w.heap.size w w' → ∀ r : Int, 0 ≤ r → Calls Tryz.prog f #[.int .i32 r, cap] w' fun e w2 => e = .returned (.bool (p r)) ∧ Below w'.heap.size w' w2
theorem KindAt.below {v : Value} {p : Int → Bool} {w w1 : World} (h : KindAt v p w) (hb : Below w.heap.size w w1) : KindAt v p w1 := by
  obtain ⟨f, cap, h1, h2, h3⟩ := h
  exact ⟨f, cap, h1, h2, fun w' hw' => h3 w' (hb.trans (hw'.mono hb.size))⟩

set_option maxHeartbeats 4000000 in
theorem low_call (s : ByteArray) (b : Nat) (w : World) (hc : w.cell? ⟨b, 0, none⟩ = some (.string s)) (hs : s.size ≤ 16) (ha : Hid (Asc s)) (r : Int) (h0 : 0 ≤ r) :
    Calls Tryz.prog 109 #[.int .i32 r, .pointer (some ⟨b, 0, none⟩)] w fun e w' => e = .returned (.bool (lowP s.data.toList r)) ∧ Below w.heap.size w w' := by
  have hq := fun W => containsRune_any s r W h0 hs ha
  go_enter Tryz.func109, Tryz.ntmps109
  go_wp2_with (go_at_call 110; refine (hq _).mono ?_; rintro e w' ⟨rfl, hb⟩)
  all_goals
    go_ret
    refine ⟨ret_bool ?_, by first | assumption | exact Below.refl _ _⟩
    unfold lowP
    generalize oneOf s.data.toList r = q
    rw [Bool.eq_iff_iff]
    cases q <;> simp <;> omega
theorem cell_alloc_new (w : World) (cs : Array Value) (t : TypeId) (v : Value) (h : cs[0]? = some v) : (w.alloc (.cells cs t)).cell? ⟨w.heap.size, 0, none⟩ = some v := by
  have e := heap_alloc_new w (.cells cs t)
  simp only [World.cell?]
  rw [e]
  exact h
theorem cell_below {w w' : World} {b : Nat} (h : Below w.heap.size w w') (hb : b < w.heap.size) : w'.cell? ⟨b, 0, none⟩ = w.cell? ⟨b, 0, none⟩ := by
  simp [World.cell?, h.block b hb]
theorem enter90 : ∀ (args : Array Value) (w : World), Sem.run Tryz.prog (callFunc 109 args) w = .ok (.enter 109 args) w := enters_of Tryz.func109 (by kernel_rfl) rfl
theorem enter92 : ∀ (args : Array Value) (w : World), Sem.run Tryz.prog (callFunc 111 args) w = .ok (.enter 111 args) w := enters_of Tryz.func111 (by kernel_rfl) rfl
theorem lowOr_any (s : ByteArray) (w : World) (hs : s.size ≤ 16) (ha : Hid (Asc s)) :
    Calls Tryz.prog 105 #[.string s] w fun e w' => ∃ v, e = .returned v ∧ KindAt v (lowP s.data.toList) w' ∧ Below w.heap.size w w' := by
  go_enter Tryz.func105, Tryz.ntmps105
  go_wp2
  go_ret
  have hb := (Below.refl w.heap.size w).alloc (Nat.le_refl _) (.cells #[.string s] 9)
  refine ⟨_, rfl, ⟨109, _, rfl, enter90, fun w' hw' r h0 => ?_⟩, hb⟩
  refine low_call s _ w' ?_ hs ha r h0
  rw [cell_below hw' (by simp)]
  exact cell_alloc_new w _ 9 _ rfl

set_option maxHeartbeats 4000000 in
theorem let_call {v : Value} {l : List UInt8} (b : Nat) (w : World) (hk : KindAt v (lowP l) w) (hc : w.cell? ⟨b, 0, none⟩ = some v) (r : Int) (h0 : 0 ≤ r) :
    Calls Tryz.prog 111 #[.int .i32 r, .pointer (some ⟨b, 0, none⟩)] w fun e w' => e = .returned (.bool (letP l r)) ∧ Below w.heap.size w w' := by
  obtain ⟨f, cap, rfl, hF, hk⟩ := hk
  have hq := hk w (Below.refl _ _) r h0
  go_enter Tryz.func111, Tryz.ntmps111
  go_wp2_with (go_at_fn f; refine hq.mono ?_; rintro e w' ⟨rfl, hb⟩)
  all_goals
    go_ret
    refine ⟨ret_bool ?_, by first | assumption | exact Below.refl _ _⟩
    unfold letP
    generalize lowP l r = q
    rw [Bool.eq_iff_iff]
    cases q <;> simp <;> omega
theorem letterOr_any (s : ByteArray) (w : World) (hs : s.size ≤ 16) (ha : Hid (Asc s)) :
    Calls Tryz.prog 106 #[.string s] w fun e w' => ∃ v, e = .returned v ∧ KindAt v (letP s.data.toList) w' ∧ Below w.heap.size w w' := by
  have hc := fun W => lowOr_any s W hs ha
  go_enter Tryz.func106, Tryz.ntmps106
  go_wp2_with (go_at_call 105; refine (hc _).mono ?_; rintro e w1 ⟨_, rfl, ⟨f, cap, rfl, hF, hk⟩, hb⟩)
  go_ret
  have hb2 := hb.alloc hb.size (.cells #[.func (.func f) #[] #[cap]] 117)
  refine ⟨_, rfl, ⟨111, _, rfl, enter92, fun w' hw' r h0 => ?_⟩, hb2⟩
  refine let_call _ w' ⟨f, cap, rfl, hF, fun w2 h2 r h0 => hk w2 ?_ r h0⟩ ?_ r h0
  · exact ((Below.refl w1.heap.size w1).alloc (Nat.le_refl _) _).trans ((hw'.mono (by simp)).trans (h2.mono (by have := hw'.size; simp at this; omega)))
  · rw [cell_below hw' (by simp)]
    exact cell_alloc_new w1 _ 117 _ rfl
end Go.Proofs.YthplcnbfpcndbaaGreatDoor

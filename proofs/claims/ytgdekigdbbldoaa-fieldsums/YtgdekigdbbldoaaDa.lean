/- Whole numbers as lists of digits of 24 bits, the lowest first: plain mathematics. -/
import Derived.Test.YtgdekigdbbldoaaFt
namespace Go.Proofs.Ytgdekigdbbldoaa
open Go.RowKit
namespace Dt

/-- The number that digits tell. -/
def ofD : List Nat → Nat
  | [] => 0
  | d :: l => d + 16777216 * ofD l
/-- Digits are below 2^24. -/
def Sm (L : List Nat) : Prop := ∀ i, L.getD i 0 < 16777216
theorem ofD_nil : ofD [] = 0 := rfl
theorem ofD_cons (d : Nat) (l : List Nat) : ofD (d :: l) = d + 16777216 * ofD l := rfl
theorem pow_s (k : Nat) : 16777216 ^ (k + 1) = 16777216 * 16777216 ^ k := by rw [Nat.pow_succ, Nat.mul_comm]
theorem pow_p (k : Nat) : 0 < 16777216 ^ k := Nat.pow_pos (by decide)
theorem ofD_app : ∀ (L M : List Nat), ofD (L ++ M) = ofD L + 16777216 ^ L.length * ofD M
  | [], M => by simp [ofD]
  | d :: L, M => by
    rw [List.cons_append, ofD_cons, ofD_cons, ofD_app L M, List.length_cons, pow_s, Nat.mul_add, Nat.mul_assoc, Nat.add_assoc]
theorem ofD_snoc (L : List Nat) (t : Nat) : ofD (L ++ [t]) = ofD L + 16777216 ^ L.length * t := by
  rw [ofD_app, ofD_cons, ofD_nil, Nat.mul_zero, Nat.add_zero]
theorem Sm.tail {d : Nat} {L : List Nat} (h : Sm (d :: L)) : Sm L := fun i => by have := h (i + 1); simpa using this
theorem Sm.nil : Sm [] := fun i => by simp
theorem ofD_lt : ∀ {L : List Nat}, Sm L → ofD L < 16777216 ^ L.length
  | [], _ => by simp [ofD]
  | d :: L, h => by
    have h1 := ofD_lt h.tail
    have h2 : d < 16777216 := by have := h 0; simpa using this
    rw [ofD_cons, List.length_cons, pow_s]
    omega
theorem drop_step (L : List Nat) (k : Nat) : ofD (L.drop k) = L.getD k 0 + 16777216 * ofD (L.drop (k + 1)) := by
  rcases Nat.lt_or_ge k L.length with h | h
  · rw [List.drop_eq_getElem_cons h, ofD_cons, List.getD_eq_getElem?_getD, List.getElem?_eq_getElem h]
    rfl
  · rw [List.drop_eq_nil_of_le h, List.drop_eq_nil_of_le (by omega), List.getD_eq_getElem?_getD, List.getElem?_eq_none h]
    rfl
theorem take_drop : ∀ (L : List Nat) (k : Nat), ofD L = ofD (L.take k) + 16777216 ^ k * ofD (L.drop k)
  | L, 0 => by simp [ofD]
  | [], k + 1 => by simp [ofD]
  | d :: L, k + 1 => by
    rw [List.take_succ_cons, List.drop_succ_cons, ofD_cons, ofD_cons, take_drop L k, pow_s, Nat.mul_add, Nat.mul_assoc, Nat.add_assoc]
theorem take_step (L : List Nat) (k : Nat) : ofD (L.take (k + 1)) = ofD (L.take k) + 16777216 ^ k * L.getD k 0 := by
  have h1 := take_drop L k
  have h2 := take_drop L (k + 1)
  rw [drop_step, Nat.mul_add, ← Nat.mul_assoc, Nat.mul_comm _ 16777216, ← pow_s] at h1
  omega
theorem Sm.take {L : List Nat} (h : Sm L) (k : Nat) : Sm (L.take k) := fun i => by
  rw [List.getD_eq_getElem?_getD]
  rcases Nat.lt_or_ge i k with h1 | h1
  · rw [List.getElem?_take_of_lt h1, ← List.getD_eq_getElem?_getD]
    exact h i
  · rw [List.getElem?_eq_none (by rw [List.length_take]; omega)]
    decide
theorem Sm.snoc {L : List Nat} (h : Sm L) {t : Nat} (ht : t < 16777216) : Sm (L ++ [t]) := fun i => by
  rw [List.getD_eq_getElem?_getD]
  rcases Nat.lt_or_ge i L.length with h1 | h1
  · rw [List.getElem?_append_left h1, ← List.getD_eq_getElem?_getD]
    exact h i
  · rw [List.getElem?_append_right h1]
    rcases Nat.eq_zero_or_pos (i - L.length) with h2 | h2
    · rw [h2]; exact ht
    · rw [List.getElem?_eq_none (by simp; omega)]; decide
theorem get_snoc (L : List Nat) (t : Nat) : (L ++ [t]).getD L.length 0 = t := by
  rw [List.getD_eq_getElem?_getD, List.getElem?_append_right (Nat.le_refl _), Nat.sub_self]
  rfl
theorem take_lt {L : List Nat} (h : Sm L) (k : Nat) : ofD (L.take k) < 16777216 ^ k := by
  refine Nat.lt_of_lt_of_le (ofD_lt (h.take k)) (Nat.pow_le_pow_right (by decide) ?_)
  rw [List.length_take]
  omega
/-- A digit, of the number. -/
theorem digit_eq {L : List Nat} (h : Sm L) (k : Nat) : L.getD k 0 = ofD L / 16777216 ^ k % 16777216 := by
  have h1 := take_lt h k
  rw [take_drop L k, Nat.add_comm, Nat.mul_add_div (pow_p k), Nat.div_eq_of_lt h1, Nat.add_zero, drop_step, Nat.add_mul_mod_self_left, Nat.mod_eq_of_lt (h k)]
theorem ofD_set : ∀ (L : List Nat) (j v : Nat), j < L.length → ofD (L.set j v) + 16777216 ^ j * L.getD j 0 = ofD L + 16777216 ^ j * v
  | [], _, _, h => absurd h (by simp)
  | d :: L, 0, v, _ => by
    simp [ofD]
    omega
  | d :: L, j + 1, v, h => by
    have ih := ofD_set L j v (by simpa using h)
    rw [List.set_cons_succ, ofD_cons, ofD_cons, pow_s, List.getD_cons_succ, Nat.mul_assoc, Nat.mul_assoc]
    omega
theorem get_set (L : List Nat) (j v i : Nat) (h : j < L.length) : (L.set j v).getD i 0 = if i = j then v else L.getD i 0 := by
  rw [List.getD_eq_getElem?_getD, List.getElem?_set]
  by_cases hij : j = i
  · subst hij
    simp [h]
  · rw [if_neg hij, if_neg (fun e => hij e.symm), ← List.getD_eq_getElem?_getD]
theorem Sm.set {L : List Nat} (h : Sm L) {j v : Nat} (hv : v < 16777216) (hj : j < L.length) : Sm (L.set j v) := fun i => by
  rw [get_set L j v i hj]
  split
  · exact hv
  · exact h i
/-- Digits of a number, without noughts at the end. -/
structure IsD (L : List Nat) (x : Nat) : Prop where
  v : ofD L = x
  s : Sm L
  t : L.length = 0 ∨ L.getD (L.length - 1) 0 ≠ 0
theorem IsD.ge {L : List Nat} {x : Nat} (h : IsD L x) (h0 : 0 < L.length) : 16777216 ^ (L.length - 1) ≤ x := by
  have h1 := take_drop L (L.length - 1)
  rw [h.v, drop_step] at h1
  rcases h.t with h2 | h2
  · omega
  · have h3 : 16777216 ^ (L.length - 1) * 1 ≤ 16777216 ^ (L.length - 1) * (L.getD (L.length - 1) 0 + 16777216 * ofD (L.drop (L.length - 1 + 1))) := Nat.mul_le_mul_left _ (by omega)
    omega
theorem IsD.lt {L : List Nat} {x : Nat} (h : IsD L x) : x < 16777216 ^ L.length := by
  rw [← h.v]; exact ofD_lt h.s
theorem IsD.len {L : List Nat} {x k : Nat} (h : IsD L x) (hx : x < 16777216 ^ k) : L.length ≤ k := by
  rcases Nat.lt_or_ge k L.length with h1 | h1
  · have h2 := h.ge (by omega)
    have h3 : 16777216 ^ k ≤ 16777216 ^ (L.length - 1) := Nat.pow_le_pow_right (by decide) (by omega)
    omega
  · exact h1
theorem IsD.nil_iff {L : List Nat} {x : Nat} (h : IsD L x) : L.length = 0 ↔ x = 0 := by
  constructor
  · intro h0
    rw [← h.v, List.eq_nil_of_length_eq_zero h0, ofD_nil]
  · intro h0
    subst h0
    have := h.len (k := 0) (by decide)
    omega
theorem IsD.uniq {L M : List Nat} {x : Nat} (h : IsD L x) (k : IsD M x) : L = M := by
  have h1 := h.len k.lt
  have h2 := k.len h.lt
  refine List.ext_getElem (by omega) fun i hi hj => ?_
  have h3 := digit_eq h.s i
  have h4 := digit_eq k.s i
  rw [h.v] at h3
  rw [k.v, ← h3] at h4
  rw [List.getD_eq_getElem?_getD, List.getD_eq_getElem?_getD, List.getElem?_eq_getElem hi, List.getElem?_eq_getElem hj] at h4
  exact h4.symm
theorem IsD.nil : IsD [] 0 := ⟨rfl, Sm.nil, .inl rfl⟩
/-- Noughts at the end are nothing. -/
theorem cut_val {L : List Nat} {n : Nat} (h0 : ∀ j, n ≤ j → L.getD j 0 = 0) : ofD (L.take n) = ofD L := by
  have h1 := take_drop L n
  have h2 : ∀ (M : List Nat), (∀ j, M.getD j 0 = 0) → ofD M = 0 := fun M => by
    induction M with
    | nil => intro _; rfl
    | cons d M ih =>
      intro h
      rw [ofD_cons, ih (fun j => by have := h (j + 1); simpa using this)]
      have := h 0
      simpa using this
  rw [h2 (L.drop n) (fun j => by
    rw [List.getD_eq_getElem?_getD, List.getElem?_drop, ← List.getD_eq_getElem?_getD]
    exact h0 (n + j) (by omega))] at h1
  omega
theorem cut_is {L : List Nat} {n : Nat} (hs : Sm L) (hn : n ≤ L.length) (h0 : ∀ j, n ≤ j → L.getD j 0 = 0) (ht : n = 0 ∨ L.getD (n - 1) 0 ≠ 0) : IsD (L.take n) (ofD L) := by
  refine ⟨cut_val h0, hs.take n, ?_⟩
  have hl : (L.take n).length = n := by rw [List.length_take]; omega
  rw [hl]
  rcases ht with h | h
  · exact .inl h
  · rcases Nat.eq_zero_or_pos n with h1 | h1
    · exact .inl h1
    · right
      rw [List.getD_eq_getElem?_getD, List.getElem?_take_of_lt (by omega), ← List.getD_eq_getElem?_getD]
      exact h
theorem IsD.pos {L : List Nat} {x : Nat} (h : IsD L x) (k : Nat) : L.getD k 0 = x / 16777216 ^ k % 16777216 := by
  rw [← h.v]; exact digit_eq h.s k
end Dt
end Go.Proofs.Ytgdekigdbbldoaa

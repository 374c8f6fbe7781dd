/- How 23 sums of digits are settled: plain mathematics. -/
import Derived.Test.YtgdekigdbbldoaaDl
namespace Go.Proofs.Ytgdekigdbbldoaa
open Go.RowKit
namespace Dt
open Rg Go.Proofs.Ytgdekigdbbldoaa.Fd

/-- 23 sums, not too great, the last two 0. -/
structure SeI (L : List Nat) : Prop where
  l : L.length = 23
  b : ∀ i, L.getD i 0 < 9007199254740992
  z1 : L.getD 21 0 = 0
  z2 : L.getD 22 0 = 0
/-- What is carried up to place i. -/
structure Ca (K L : List Nat) (i : Nat) : Prop where
  l : L.length = 23
  e : ofD L = ofD K
  s : ∀ j, j < i → L.getD j 0 < 16777216
  r : ∀ j, i < j → L.getD j 0 = K.getD j 0
  c : L.getD i 0 < K.getD i 0 + 1073741824
theorem Ca.start {K : List Nat} (h : SeI K) : Ca K K 0 := ⟨h.l, rfl, fun _ hj => by omega, fun _ _ => rfl, by omega⟩
theorem Ca.step {K L : List Nat} {i : Nat} (hK : SeI K) (h : Ca K L i) (hi : i < 22) : Ca K ((L.set (i + 1) (L.getD (i + 1) 0 + L.getD i 0 / 16777216)).set i (L.getD i 0 % 16777216)) (i + 1) := by
  have hl := h.l
  have hc := h.c
  have hb := hK.b i
  have h1 := ofD_set L (i + 1) (L.getD (i + 1) 0 + L.getD i 0 / 16777216) (by omega)
  have h2 := ofD_set (L.set (i + 1) (L.getD (i + 1) 0 + L.getD i 0 / 16777216)) i (L.getD i 0 % 16777216) (by rw [List.length_set]; omega)
  rw [get_set L (i + 1) _ i (by omega), if_neg (by omega)] at h2
  have hg : ∀ j, ((L.set (i + 1) (L.getD (i + 1) 0 + L.getD i 0 / 16777216)).set i (L.getD i 0 % 16777216)).getD j 0 = if j = i then L.getD i 0 % 16777216 else if j = i + 1 then L.getD (i + 1) 0 + L.getD i 0 / 16777216 else L.getD j 0 := fun j => by
    rw [get_set _ _ _ _ (by rw [List.length_set]; omega), get_set _ _ _ _ (by omega)]
  refine ⟨by rw [List.length_set, List.length_set]; exact hl, ?_, fun j hj => ?_, fun j hj => ?_, ?_⟩
  · rw [Nat.mul_add, pow_s, Nat.mul_assoc, Nat.mul_assoc] at h1
    have e3 : 16777216 ^ i * (L.getD i 0 % 16777216 + 16777216 * (L.getD i 0 / 16777216)) = 16777216 ^ i * L.getD i 0 := by rw [Nat.mod_add_div]
    rw [Nat.mul_add, Nat.mul_left_comm] at e3
    have := h.e
    omega
  · rw [hg]
    by_cases e : j = i
    · rw [if_pos e]; exact Nat.mod_lt _ (by decide)
    · rw [if_neg e, if_neg (by omega)]; exact h.s j (by omega)
  · rw [hg, if_neg (by omega), if_neg (by omega)]; exact h.r j (by omega)
  · rw [hg, if_neg (by omega), if_pos rfl, h.r (i + 1) (by omega)]
    omega
/-- What is folded up to place i; has anything been? -/
structure Fo (K L : List Nat) (i : Nat) (fl : Bool) : Prop where
  l : L.length = 23
  m : ofD L % p = ofD K % p
  d : fl = true → ofD L < ofD K
  n : fl = false → L = K
  r : ∀ j, i ≤ j → L.getD j 0 = K.getD j 0
  z : ∀ j, 12 ≤ j → j < i → L.getD j 0 = 0
  z1 : 11 < i → i ≤ 22 → L.getD 11 0 = 0
  z2 : fl = false → 11 < i → L.getD 11 0 = 0
  lo : ∀ j, i ≤ j + 11 → j < 11 → L.getD j 0 = K.getD j 0
  b : ∀ j, L.getD j 0 < 9007199254740992
/-- What is carried throughout. -/
structure Cd (K : List Nat) : Prop where
  l : K.length = 23
  s : ∀ j, j < 22 → K.getD j 0 < 16777216
  t : K.getD 22 0 < 1073741824
theorem Ca.done {K L : List Nat} (hK : SeI K) (h : Ca K L 22) : Cd L := ⟨h.l, h.s, by have := h.c; rw [hK.z2] at this; omega⟩
theorem get_out {L : List Nat} (h : L.length = 23) {j : Nat} (hj : 23 ≤ j) : L.getD j 0 = 0 := by
  rw [List.getD_eq_getElem?_getD, List.getElem?_eq_none (by omega)]; rfl
theorem Cd.b {K : List Nat} (h : Cd K) (j : Nat) : K.getD j 0 < 1073741824 := by
  rcases Nat.lt_or_ge j 22 with h1 | h1
  · have := h.s j h1; omega
  · rcases Nat.lt_or_ge j 23 with h2 | h2
    · have : j = 22 := by omega
      rw [this]; exact h.t
    · rw [get_out h.l h2]; decide
theorem Fo.start {K : List Nat} (h : Cd K) : Fo K K 11 false := ⟨h.l, rfl, fun e => (by cases e), fun _ => rfl, fun _ _ => rfl, fun _ _ _ => by omega, fun _ _ => by omega, fun _ _ => by omega, fun _ _ _ => rfl, fun j => by have := h.b j; omega⟩
theorem Fo.skip {K L : List Nat} {i : Nat} {fl : Bool} (h : Fo K L i fl) (hi : 11 ≤ i) (h0 : L.getD i 0 = 0) : Fo K L (i + 1) fl := by
  refine ⟨h.l, h.m, h.d, h.n, fun j hj => h.r j (by omega), fun j h1 h2 => ?_, fun h1 h2 => ?_, fun h1 h2 => ?_, fun j h1 h2 => h.lo j (by omega) h2, h.b⟩
  · by_cases e : j = i
    · rw [e]; exact h0
    · exact h.z j h1 (by omega)
  · by_cases e : i = 11
    · rw [← e]; exact h0
    · exact h.z1 (by omega) (by omega)
  · by_cases e : i = 11
    · rw [← e]; exact h0
    · exact h.z2 h1 (by omega)
theorem fold_pow (i : Nat) (hi : 11 ≤ i) : 16777216 ^ i = 16777216 ^ (i - 11) * (9728 + 512 * p) := by
  have e : 9728 + 512 * p = 16777216 ^ 11 := by decide +kernel
  rw [e, ← Nat.pow_add]
  congr 1
  omega
theorem Fo.fold {K L : List Nat} {i : Nat} {fl : Bool} (hK : Cd K) (h : Fo K L i fl) (h11 : 11 ≤ i) (hi : i < 23) (h0 : 0 < L.getD i 0) : Fo K ((L.set (i - 11) (L.getD (i - 11) 0 + L.getD i 0 * 19 * 512)).set i 0) (i + 1) true := by
  have hl := h.l
  have hxi := h.r i (Nat.le_refl _)
  have hbi := hK.b i
  have h1 := ofD_set L (i - 11) (L.getD (i - 11) 0 + L.getD i 0 * 19 * 512) (by omega)
  have h2 := ofD_set (L.set (i - 11) (L.getD (i - 11) 0 + L.getD i 0 * 19 * 512)) i 0 (by rw [List.length_set]; omega)
  rw [get_set L (i - 11) _ i (by omega), if_neg (by omega), Nat.mul_zero, Nat.add_zero] at h2
  have hg : ∀ j, ((L.set (i - 11) (L.getD (i - 11) 0 + L.getD i 0 * 19 * 512)).set i 0).getD j 0 = if j = i then 0 else if j = i - 11 then L.getD (i - 11) 0 + L.getD i 0 * 19 * 512 else L.getD j 0 := fun j => by
    rw [get_set _ _ _ _ (by rw [List.length_set]; omega), get_set _ _ _ _ (by omega)]
  have hlow : L.getD (i - 11) 0 < 16777216 := by
    by_cases e : i = 22
    · subst e
      have : L.getD 11 0 = 0 := h.z1 (by omega) (by omega)
      show L.getD 11 0 < _
      omega
    · rw [h.lo (i - 11) (by omega) (by omega)]
      exact hK.s _ (by omega)
  have hv : ofD ((L.set (i - 11) (L.getD (i - 11) 0 + L.getD i 0 * 19 * 512)).set i 0) + 16777216 ^ (i - 11) * L.getD i 0 * 512 * p = ofD L := by
    rw [fold_pow i h11] at h2
    obtain ⟨P, hP⟩ : ∃ P, 16777216 ^ (i - 11) = P := ⟨_, rfl⟩
    obtain ⟨X, hX⟩ : ∃ X, L.getD i 0 = X := ⟨_, rfl⟩
    rw [hP] at h1 h2 ⊢
    rw [hX] at h1 h2 ⊢
    rw [Nat.mul_add] at h1
    have e0 : X * 19 * 512 = X * 9728 := by omega
    have e1 : P * (9728 + 512 * p) * X = P * (X * 19 * 512) + P * X * 512 * p := by
      rw [Nat.mul_right_comm, Nat.mul_add, e0, Nat.mul_assoc (P * X) 512 p, Nat.mul_assoc P X 9728]
    rw [e1] at h2
    omega
  have hpos : 0 < 16777216 ^ (i - 11) * L.getD i 0 * 512 * p := Nat.mul_pos (Nat.mul_pos (Nat.mul_pos (pow_p _) h0) (by decide)) (by decide)
  have hle : ofD L ≤ ofD K := by
    cases fl with
    | false => rw [h.n rfl]; exact Nat.le_refl _
    | true => exact Nat.le_of_lt (h.d rfl)
  refine ⟨by rw [List.length_set, List.length_set]; exact hl, ?_, fun _ => by omega, fun e => (by cases e), fun j hj => ?_, fun j h3 h4 => ?_, fun h3 h4 => ?_, fun e => (by cases e), fun j h3 h4 => ?_, fun j => ?_⟩
  · rw [← h.m, ← hv, Nat.add_mul_mod_self_right]
  · rw [hg, if_neg (by omega), if_neg (by omega)]; exact h.r j (by omega)
  · rw [hg]
    by_cases e : j = i
    · rw [if_pos e]
    · rw [if_neg e, if_neg (by omega)]; exact h.z j h3 (by omega)
  · rw [hg]
    by_cases e : 11 = i
    · rw [if_pos e]
    · rw [if_neg e, if_neg (by omega)]; exact h.z1 (by omega) (by omega)
  · rw [hg, if_neg (by omega), if_neg (by omega)]; exact h.lo j (by omega) h4
  · rw [hg]
    have := h.b j
    split
    · decide
    · split <;> omega
/-- All is folded that was: on with it. -/
theorem Fo.again {K L : List Nat} (h : Fo K L 23 true) : SeI L := ⟨h.l, h.b, h.z 21 (by omega) (by omega), h.z 22 (by omega) (by omega)⟩
/-- A number below 2^255 in digits. -/
structure Fin_ (L : List Nat) : Prop where
  l : L.length = 23
  s : Sm L
  t : L.getD 10 0 < 32768
  z : ∀ j, 11 ≤ j → L.getD j 0 = 0
theorem Fo.fin {K L : List Nat} (hK : Cd K) (h : Fo K L 23 false) (ht : L.getD 10 0 < 32768) : Fin_ L ∧ SeI L := by
  have hz : ∀ j, 11 ≤ j → L.getD j 0 = 0 := fun j hj => by
    by_cases e : j = 11
    · rw [e]; exact h.z2 rfl (by omega)
    · rcases Nat.lt_or_ge j 23 with h2 | h2
      · exact h.z j (by omega) h2
      · exact get_out h.l h2
  refine ⟨⟨h.l, fun j => ?_, ht, hz⟩, ⟨h.l, h.b, hz 21 (by omega), hz 22 (by omega)⟩⟩
  rcases Nat.lt_or_ge j 11 with h1 | h1
  · rw [h.n rfl]; exact hK.s j (by omega)
  · rw [hz j h1]; decide
theorem Fo.top {K L : List Nat} (h : Fo K L 23 false) (hK : Cd K) (ht : 32768 ≤ L.getD 10 0) :
    SeI ((L.set 0 (L.getD 0 0 + 19 * (L.getD 10 0 / 32768))).set 10 (L.getD 10 0 % 32768)) ∧ ofD ((L.set 0 (L.getD 0 0 + 19 * (L.getD 10 0 / 32768))).set 10 (L.getD 10 0 % 32768)) % p = ofD K % p ∧ ofD ((L.set 0 (L.getD 0 0 + 19 * (L.getD 10 0 / 32768))).set 10 (L.getD 10 0 % 32768)) < ofD K := by
  have hl := h.l
  have h1 := ofD_set L 0 (L.getD 0 0 + 19 * (L.getD 10 0 / 32768)) (by omega)
  have h2 := ofD_set (L.set 0 (L.getD 0 0 + 19 * (L.getD 10 0 / 32768))) 10 (L.getD 10 0 % 32768) (by rw [List.length_set]; omega)
  rw [get_set L 0 _ 10 (by omega), if_neg (by omega)] at h2
  have hg : ∀ j, ((L.set 0 (L.getD 0 0 + 19 * (L.getD 10 0 / 32768))).set 10 (L.getD 10 0 % 32768)).getD j 0 = if j = 10 then L.getD 10 0 % 32768 else if j = 0 then L.getD 0 0 + 19 * (L.getD 10 0 / 32768) else L.getD j 0 := fun j => by
    rw [get_set _ _ _ _ (by rw [List.length_set]; omega), get_set _ _ _ _ (by omega)]
  have hb0 : L.getD 0 0 < 16777216 := by rw [h.n rfl]; exact hK.s 0 (by omega)
  have hb10 : L.getD 10 0 < 16777216 := by rw [h.n rfl]; exact hK.s 10 (by omega)
  have hv : ofD ((L.set 0 (L.getD 0 0 + 19 * (L.getD 10 0 / 32768))).set 10 (L.getD 10 0 % 32768)) + (L.getD 10 0 / 32768) * p = ofD L := by
    rw [pow10] at h2
    rw [Nat.pow_zero, Nat.one_mul, Nat.one_mul] at h1
    unfold p
    omega
  have hLK : L = K := h.n rfl
  have hpos : 0 < L.getD 10 0 / 32768 * p := Nat.mul_pos (by omega) (by decide)
  refine ⟨⟨by rw [List.length_set, List.length_set]; exact hl, fun j => ?_, ?_, ?_⟩, ?_, ?_⟩
  · rw [hg]
    have := h.b j
    split
    · omega
    · split <;> omega
  · rw [hg, if_neg (by omega), if_neg (by omega)]; exact h.z 21 (by omega) (by omega)
  · rw [hg, if_neg (by omega), if_neg (by omega)]; exact h.z 22 (by omega) (by omega)
  · rw [← hLK, ← hv, Nat.add_mul_mod_self_right]
  · rw [← hLK]; omega
theorem Fin_.val {L : List Nat} (h : Fin_ L) : ofD (L.take 11) = ofD L ∧ ofD L < 2 ^ 255 := by
  have e := cut_val (L := L) (n := 11) h.z
  refine ⟨e, ?_⟩
  have h1 := take_step L 10
  have h2 := take_lt h.s 10
  have h3 := h.t
  rw [← e, ← two255]
  show ofD (L.take (10 + 1)) < _
  rw [h1]
  rw [pow10] at h2 ⊢
  omega
end Dt
end Go.Proofs.Ytgdekigdbbldoaa

/- The curve in plain numbers: sums of points of the curve lie on it, and no denominator is 0. Points of the curve, their sum, and the fractions that stand for them. -/
import Derived.Test.YtgdekigdbbldoaaG31
namespace Go.Proofs.Ytgdekigdbbldoaa
open Go.RowKit
namespace Fd
namespace Cv
open Pratt

instance : NeZero p := ⟨by decide⟩
/-- The numbers modulo p. -/
abbrev F := Fin p
def tf (n : Nat) : F := Fin.ofNat p n
theorem tf_val (n : Nat) : (tf n).val = n % p := rfl
theorem val_lt (a : F) : a.val < p := a.isLt
theorem tf_eq {a b : Nat} : tf a = tf b ↔ a % p = b % p := by rw [Fin.ext_iff, tf_val, tf_val]
theorem tf_of (a : F) : tf a.val = a := by rw [Fin.ext_iff, tf_val, Nat.mod_eq_of_lt a.isLt]
theorem tf_mul (a b : Nat) : tf (mulp a b) = tf a * tf b := by
  rw [Fin.ext_iff, tf_val, Fin.val_mul, tf_val, tf_val]
  unfold mulp
  rw [Nat.mod_mod, ← Nat.mul_mod]
theorem tf_add (a b : Nat) : tf (addp a b) = tf a + tf b := by
  rw [Fin.ext_iff, tf_val, Fin.val_add, tf_val, tf_val]
  unfold addp
  rw [Nat.mod_mod]
theorem tf_sub (a b : Nat) : tf (subp a b) = tf a - tf b := by
  rw [Fin.ext_iff, tf_val, Fin.sub_def, tf_val, tf_val]
  unfold subp
  rw [Nat.mod_mod]
  congr 1
  have h := Nat.mod_lt b (show 0 < p by decide)
  omega
theorem tf_one : tf cone = 1 := by decide
theorem tf_zero : tf 0 = 0 := by decide
/-- The curve's number. -/
def D : F := tf factor
def On (x y : F) : Prop := y * y - x * x = 1 + D * (x * x) * (y * y)
theorem onC_on (x y : Nat) : OnC x y ↔ On (tf x) (tf y) := by
  have e : OnC x y ↔ subp (mulp y y) (mulp x x) = addp cone (mulp factor (mulp (mulp x x) (mulp y y))) := Iff.rfl
  have h1 : ∀ a b, subp a b % p = subp a b := fun a b => by unfold subp; rw [Nat.mod_mod]
  have h2 : ∀ a b, addp a b % p = addp a b := fun a b => by unfold addp; rw [Nat.mod_mod]
  rw [e, ← h1, ← h2, ← tf_eq]
  simp only [tf_sub, tf_add, tf_mul, tf_one]
  unfold On D
  have e2 : tf factor * (tf x * tf x * (tf y * tf y)) = tf factor * (tf x * tf x) * (tf y * tf y) := by grind
  rw [e2]
theorem mul_zero' {a b : F} (h : a * b = 0) : a = 0 ∨ b = 0 := by
  rcases Nat.eq_zero_or_pos a.val with h0 | h0
  · exact .inl (Fin.ext h0)
  · have h1 : a.val * b.val % p = 0 := by
      have := congrArg Fin.val h
      rwa [Fin.val_mul] at this
    have h2 := dvd_cancel h0 a.isLt (Nat.dvd_of_mod_eq_zero h1)
    exact .inr (Fin.ext (Nat.eq_zero_of_dvd_of_lt h2 b.isLt))
def inv (a : F) : F := tf (invp a.val)
theorem inv_val (a : F) : (inv a).val = a.val ^ (p - 2) % p := by
  unfold inv
  rw [tf_val]
  unfold invp
  rw [Nat.mod_mod, Nat.mod_eq_of_lt a.isLt, inverseExponent_eq]
theorem mul_inv {a : F} (h : a ≠ 0) : a * inv a = 1 := by
  have h0 : 0 < a.val := Nat.pos_of_ne_zero fun e => h (Fin.ext e)
  have h1 := inv_mul a.val h0 a.isLt
  have h2 : (1 : F).val = 1 := by decide
  rw [Fin.ext_iff, Fin.val_mul, inv_val, h1, h2]
theorem inv_tf (n : Nat) : tf (invp n) = inv (tf n) := by
  unfold inv
  rw [tf_val]
  unfold invp
  rw [Nat.mod_mod]
theorem d_pow : factor ^ ((p - 1) / 2) % p = p - 1 := by
  rw [← pm_eq p 256 factor ((p - 1) / 2) (by decide +kernel)]
  decide +kernel
theorem half_two : (p - 1) / 2 * 2 = p - 1 := by decide
/-- The curve's number is no square. -/
theorem nsq {s t : F} (h : s * s = D * (t * t)) : t = 0 := by
  rcases Nat.eq_zero_or_pos t.val with h0 | h0
  · exact Fin.ext h0
  · exfalso
    have h1 : s.val * s.val % p = factor * (t.val * t.val) % p := by
      have := congrArg Fin.val h
      rw [Fin.val_mul, Fin.val_mul, Fin.val_mul] at this
      unfold D at this
      rw [tf_val] at this
      rw [this, Nat.mul_mod_mod, Nat.mod_mul_mod]
    generalize hm : (p - 1) / 2 = m at *
    have hd := d_pow
    have h22 := half_two
    rw [hm] at hd h22
    have ht := fermat t.val h0 t.isLt
    have h3 : (s.val * s.val) ^ m % p = p - 1 := by
      rw [Nat.pow_mod, h1, ← Nat.pow_mod, Nat.mul_pow, Nat.mul_mod, hd, ← Nat.pow_two, ← Nat.pow_mul, Nat.mul_comm 2 m, h22, ht, Nat.mul_one]
      decide
    have h4 : (s.val * s.val) ^ m % p = 0 ∨ (s.val * s.val) ^ m % p = 1 := by
      rcases Nat.eq_zero_or_pos s.val with hs | hs
      · left
        rw [hs, Nat.zero_mul, Nat.zero_pow (by rw [← hm]; decide), Nat.zero_mod]
      · right
        rw [← Nat.pow_two, ← Nat.pow_mul, Nat.mul_comm 2 m, h22]
        exact fermat s.val hs s.isLt
    rw [h3] at h4
    revert h4
    decide
def I : F := tf rootOfMinusOne
theorem i_sq : I * I = -1 := by decide +kernel
section
open Lean.Grind
theorem den_a {R : Type} [CommRing R] (i d x1 y1 x2 y2 k : R) (hi : i * i = -1) (h1 : y1 * y1 - x1 * x1 = 1 + d * (x1 * x1) * (y1 * y1)) (h2 : y2 * y2 - x2 * x2 = 1 + d * (x2 * x2) * (y2 * y2)) (hk : k = d * x1 * x2 * y1 * y2) (hkk : k * k = 1) :
    (i * x1 + k * y1) * (i * x1 + k * y1) = d * ((x1 * y1 * (i * x2 + y2)) * (x1 * y1 * (i * x2 + y2))) := by grind
theorem den_b {R : Type} [CommRing R] (i d x1 y1 x2 y2 k : R) (hi : i * i = -1) (h1 : y1 * y1 - x1 * x1 = 1 + d * (x1 * x1) * (y1 * y1)) (h2 : y2 * y2 - x2 * x2 = 1 + d * (x2 * x2) * (y2 * y2)) (hk : k = d * x1 * x2 * y1 * y2) (hkk : k * k = 1) :
    (i * x1 - k * y1) * (i * x1 - k * y1) = d * ((x1 * y1 * (i * x2 - y2)) * (x1 * y1 * (i * x2 - y2))) := by grind
theorem clo0 {R : Type} [CommRing R] (d x1 y1 x2 y2 : R) (h1 : y1 * y1 - x1 * x1 = 1 + d * (x1 * x1) * (y1 * y1)) (h2 : y2 * y2 - x2 * x2 = 1 + d * (x2 * x2) * (y2 * y2)) :
    (y1 * y2 + x1 * x2) * (y1 * y2 + x1 * x2) * ((1 + d * x1 * x2 * y1 * y2) * (1 + d * x1 * x2 * y1 * y2)) - (x1 * y2 + x2 * y1) * (x1 * y2 + x2 * y1) * ((1 - d * x1 * x2 * y1 * y2) * (1 - d * x1 * x2 * y1 * y2)) = (1 - d * x1 * x2 * y1 * y2) * (1 - d * x1 * x2 * y1 * y2) * ((1 + d * x1 * x2 * y1 * y2) * (1 + d * x1 * x2 * y1 * y2)) + d * ((x1 * y2 + x2 * y1) * (x1 * y2 + x2 * y1) * ((y1 * y2 + x1 * x2) * (y1 * y2 + x1 * x2))) := by grind
theorem clo1 {R : Type} [CommRing R] (d a b x y s t : R) (h : (y * b) * (y * b) * (a * a) - (x * a) * (x * a) * (b * b) = b * b * (a * a) + d * ((x * a) * (x * a) * ((y * b) * (y * b)))) (ha : a * s = 1) (hb : b * t = 1) : y * y - x * x = 1 + d * (x * x) * (y * y) := by
  have e : (y * y - x * x - 1 - d * (x * x) * (y * y)) * (b * b * (a * a)) = 0 := by grind
  generalize hw : y * y - x * x - 1 - d * (x * x) * (y * y) = w at e
  have e2 : w = w * (b * b * (a * a)) * (s * s * (t * t)) := by grind
  rw [e] at e2
  grind
theorem clo {R : Type} [CommRing R] (d x1 y1 x2 y2 k s t x3 y3 : R) (h1 : y1 * y1 - x1 * x1 = 1 + d * (x1 * x1) * (y1 * y1)) (h2 : y2 * y2 - x2 * x2 = 1 + d * (x2 * x2) * (y2 * y2)) (hk : d * x1 * x2 * y1 * y2 = k) (hs : x1 * y2 + x2 * y1 = x3 * (1 + k)) (ht : y1 * y2 + x1 * x2 = y3 * (1 - k)) (ha : (1 + k) * s = 1) (hb : (1 - k) * t = 1) :
    y3 * y3 - x3 * x3 = 1 + d * (x3 * x3) * (y3 * y3) := by
  have h := clo0 d x1 y1 x2 y2 h1 h2
  rw [hk, hs, ht] at h
  exact clo1 d (1 + k) (1 - k) x3 y3 s t h ha hb
end
end Cv
end Fd
end Go.Proofs.Ytgdekigdbbldoaa

namespace Go.Proofs.Ytgdekigdbbldoaa
open Go.RowKit
namespace Fd
namespace Cv
open Pratt

theorem one_ne : (1 : F) ≠ 0 := by decide
theorem two_half : ∃ h : F, (1 + 1) * h = 1 := ⟨inv (1 + 1), mul_inv (by decide)⟩
/-- No denominator is 0. -/
theorem den {x1 y1 x2 y2 : F} (h1 : On x1 y1) (h2 : On x2 y2) : ¬ (D * x1 * x2 * y1 * y2) * (D * x1 * x2 * y1 * y2) = 1 := by
  intro hkk
  obtain ⟨k, hk⟩ : ∃ k, D * x1 * x2 * y1 * y2 = k := ⟨_, rfl⟩
  rw [hk] at hkk
  have ha := nsq (den_a I D x1 y1 x2 y2 k i_sq h1 h2 hk.symm hkk)
  have hb := nsq (den_b I D x1 y1 x2 y2 k i_sq h1 h2 hk.symm hkk)
  have hne : x1 * y1 ≠ 0 := by
    intro h
    have e : k = D * x2 * y2 * (x1 * y1) := by grind
    rw [h] at e
    have e2 : k = 0 := by grind
    rw [e2] at hkk
    exact one_ne (by grind)
  rcases mul_zero' ha with h | h
  · exact hne h
  rcases mul_zero' hb with h' | h'
  · exact hne h'
  obtain ⟨t, ht⟩ := two_half
  have hy : y2 = 0 := by grind
  have e2 : k = 0 := by rw [← hk, hy]; grind
  rw [e2] at hkk
  exact one_ne (by grind)
theorem den_p {x1 y1 x2 y2 : F} (h1 : On x1 y1) (h2 : On x2 y2) : 1 + D * x1 * x2 * y1 * y2 ≠ 0 := fun h => den h1 h2 (by grind)
theorem den_m {x1 y1 x2 y2 : F} (h1 : On x1 y1) (h2 : On x2 y2) : 1 - D * x1 * x2 * y1 * y2 ≠ 0 := fun h => den h1 h2 (by grind)
structure Pt where
  x : F
  y : F
deriving DecidableEq
def Pt.on (P : Pt) : Prop := On P.x P.y
/-- The sum of two points. -/
def add (P Q : Pt) : Pt := ⟨(P.x * Q.y + Q.x * P.y) * inv (1 + D * P.x * Q.x * P.y * Q.y), (P.y * Q.y + P.x * Q.x) * inv (1 - D * P.x * Q.x * P.y * Q.y)⟩
theorem add_x {P Q : Pt} (hP : P.on) (hQ : Q.on) : P.x * Q.y + Q.x * P.y = (add P Q).x * (1 + D * P.x * Q.x * P.y * Q.y) := by
  have h := mul_inv (den_p hP hQ)
  show _ = _ * inv _ * _
  grind
theorem add_y {P Q : Pt} (hP : P.on) (hQ : Q.on) : P.y * Q.y + P.x * Q.x = (add P Q).y * (1 - D * P.x * Q.x * P.y * Q.y) := by
  have h := mul_inv (den_m hP hQ)
  show _ = _ * inv _ * _
  grind
theorem add_on {P Q : Pt} (hP : P.on) (hQ : Q.on) : (add P Q).on :=
  clo D P.x P.y Q.x Q.y _ _ _ _ _ hP hQ rfl (add_x hP hQ) (add_y hP hQ) (mul_inv (den_p hP hQ)) (mul_inv (den_m hP hQ))
/-- A fraction stands for a point. -/
def Is (f : Frac) (P : Pt) : Prop := tf f.u ≠ 0 ∧ tf f.x = P.x * tf f.u ∧ tf f.y = P.y * tf f.u
theorem mul_ne {a b : F} (ha : a ≠ 0) (hb : b ≠ 0) : a * b ≠ 0 := fun h => (mul_zero' h).elim ha hb
section
open Lean.Grind
theorem sum_alg {R : Type} [CommRing R] (d x1 y1 u1 x2 y2 u2 X Y k : R) (hk : d * x1 * x2 * y1 * y2 = k) (hX : x1 * y2 + x2 * y1 = X * (1 + k)) (hY : y1 * y2 + x1 * x2 = Y * (1 - k)) :
    (u1 * u2 * ((x1 * u1) * (y2 * u2) + (x2 * u2) * (y1 * u1))) * (u1 * u2 * (u1 * u2) - d * ((x1 * u1) * (x2 * u2) * ((y1 * u1) * (y2 * u2)))) = X * ((u1 * u2 * (u1 * u2) + d * ((x1 * u1) * (x2 * u2) * ((y1 * u1) * (y2 * u2)))) * (u1 * u2 * (u1 * u2) - d * ((x1 * u1) * (x2 * u2) * ((y1 * u1) * (y2 * u2))))) ∧
    (u1 * u2 * ((y1 * u1) * (y2 * u2) + (x1 * u1) * (x2 * u2))) * (u1 * u2 * (u1 * u2) + d * ((x1 * u1) * (x2 * u2) * ((y1 * u1) * (y2 * u2)))) = Y * ((u1 * u2 * (u1 * u2) + d * ((x1 * u1) * (x2 * u2) * ((y1 * u1) * (y2 * u2)))) * (u1 * u2 * (u1 * u2) - d * ((x1 * u1) * (x2 * u2) * ((y1 * u1) * (y2 * u2))))) ∧
    (u1 * u2 * (u1 * u2) + d * ((x1 * u1) * (x2 * u2) * ((y1 * u1) * (y2 * u2)))) = u1 * u2 * (u1 * u2) * (1 + k) ∧ (u1 * u2 * (u1 * u2) - d * ((x1 * u1) * (x2 * u2) * ((y1 * u1) * (y2 * u2)))) = u1 * u2 * (u1 * u2) * (1 - k) := by
  have e1 : d * ((x1 * u1) * (x2 * u2) * ((y1 * u1) * (y2 * u2))) = k * (u1 * u2 * (u1 * u2)) := by grind
  rw [e1]
  generalize hc : u1 * u2 = c
  have e2 : (x1 * u1) * (y2 * u2) + (x2 * u2) * (y1 * u1) = X * (1 + k) * c := by grind
  have e3 : (y1 * u1) * (y2 * u2) + (x1 * u1) * (x2 * u2) = Y * (1 - k) * c := by grind
  rw [e2, e3]
  refine ⟨?_, ?_, ?_, ?_⟩ <;> grind
end
theorem sum_is {f g : Frac} {P Q : Pt} (hf : Is f P) (hg : Is g Q) (hP : P.on) (hQ : Q.on) : Is (sumF f g) (add P Q) := by
  obtain ⟨u1, x1, y1⟩ := hf
  obtain ⟨u2, x2, y2⟩ := hg
  have h := sum_alg D P.x P.y (tf f.u) Q.x Q.y (tf g.u) (add P Q).x (add P Q).y _ rfl (add_x hP hQ) (add_y hP hQ)
  unfold Is sumF
  simp only [tf_mul, tf_add, tf_sub, x1, y1, x2, y2]
  show _ ≠ _ ∧ _ ∧ _
  refine ⟨?_, h.1, h.2.1⟩
  show (_ + D * _) * (_ - D * _) ≠ 0
  rw [h.2.2.1, h.2.2.2]
  exact mul_ne (mul_ne (mul_ne (mul_ne u1 u2) (mul_ne u1 u2)) (den_p hP hQ)) (mul_ne (mul_ne (mul_ne u1 u2) (mul_ne u1 u2)) (den_m hP hQ))
/-- Twice a fraction, as the program reckons it. -/
def twiceF (a : Frac) : Frac :=
  let k15 := mulp a.x a.x
  let k22 := mulp a.y a.y
  let k37 := subp k22 k15
  let k34 := mulp a.u a.u
  let k42 := subp (addp k34 k34) k37
  let k29 := mulp a.x a.y
  ⟨mulp (addp k29 k29) k42, mulp (addp k22 k15) k37, mulp k37 k42⟩
theorem twiceF_lt (a : Frac) : (twiceF a).lt := ⟨mulp_lt _ _, mulp_lt _ _, mulp_lt _ _⟩
theorem twice_frac (a : Frac) (ha : a.lt) (w : World) : Calls Try.prog 104 #[a.val] w fun e w' => e = .returned (twiceF a).val ∧ Below w.heap.size w w' :=
  twice_at a.x a.y a.u _ _ _ _ _ _ _ _ _ _ _ _ rfl rfl rfl rfl rfl rfl rfl rfl rfl rfl rfl rfl ha.1 ha.2.1 ha.2.2 w
section
open Lean.Grind
theorem twice_alg {R : Type} [CommRing R] (d x y u X Y k : R) (ho : y * y - x * x = 1 + d * (x * x) * (y * y)) (hk : d * x * x * y * y = k) (hX : x * y + x * y = X * (1 + k)) (hY : y * y + x * x = Y * (1 - k)) :
    ((y * u) * (y * u) - (x * u) * (x * u)) = u * u * (1 + k) ∧ (u * u + u * u - ((y * u) * (y * u) - (x * u) * (x * u))) = u * u * (1 - k) ∧
    (((x * u) * (y * u) + (x * u) * (y * u)) * (u * u * (1 - k))) = X * (u * u * (1 + k) * (u * u * (1 - k))) ∧ (((y * u) * (y * u) + (x * u) * (x * u)) * (u * u * (1 + k))) = Y * (u * u * (1 + k) * (u * u * (1 - k))) := by
  have e0 : y * y - x * x = 1 + k := by grind
  refine ⟨by grind, by grind, ?_, ?_⟩
  · have e2 : (x * u) * (y * u) + (x * u) * (y * u) = X * (1 + k) * (u * u) := by grind
    rw [e2]
    grind
  · have e3 : (y * u) * (y * u) + (x * u) * (x * u) = Y * (1 - k) * (u * u) := by grind
    rw [e3]
    grind
end
theorem twice_is {f : Frac} {P : Pt} (hf : Is f P) (hP : P.on) : Is (twiceF f) (add P P) := by
  obtain ⟨u1, x1, y1⟩ := hf
  have h := twice_alg D P.x P.y (tf f.u) (add P P).x (add P P).y _ hP rfl (add_x hP hP) (add_y hP hP)
  unfold Is twiceF
  simp only [tf_mul, tf_add, tf_sub, x1, y1]
  rw [h.2.1, h.1]
  exact ⟨mul_ne (mul_ne (mul_ne u1 u1) (den_p hP hP)) (mul_ne (mul_ne u1 u1) (den_m hP hP)), h.2.2.1, h.2.2.2⟩
theorem one_is (x y : Nat) : Is ⟨x, y, cone⟩ ⟨tf x, tf y⟩ := by
  unfold Is
  rw [tf_one]
  exact ⟨one_ne, by grind, by grind⟩
/-- What a fraction comes to. -/
theorem div_is {f : Frac} {P : Pt} (h : Is f P) : mulp f.x (invp f.u) = P.x.val ∧ mulp f.y (invp f.u) = P.y.val ∧ ¬ f.u % p = 0 := by
  obtain ⟨hu, hx, hy⟩ := h
  have h1 := mul_inv hu
  have ex : tf (mulp f.x (invp f.u)) = P.x := by rw [tf_mul, inv_tf, hx]; grind
  have ey : tf (mulp f.y (invp f.u)) = P.y := by rw [tf_mul, inv_tf, hy]; grind
  have l : ∀ a b, mulp a b % p = mulp a b := fun a b => by unfold mulp; rw [Nat.mod_mod]
  refine ⟨by rw [← ex, tf_val, l], by rw [← ey, tf_val, l], fun h0 => hu ?_⟩
  rw [Fin.ext_iff, tf_val, h0]
  rfl
end Cv
end Fd
end Go.Proofs.Ytgdekigdbbldoaa

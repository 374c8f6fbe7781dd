/- So many times a point: by bits it is the sum of so many. The base point, taken as often as the order says, is nought: by reckoning. -/
import Derived.Test.YtgdekigdbbldoaaG43
import Derived.Test.YtgdekigdbbldoaaG37
import Derived.Test.YtgdekigdbbldoaaG41
namespace Go.Proofs.Ytgdekigdbbldoaa
open Go.RowKit
namespace Fd
namespace Cv
open Pratt

section
open Lean.Grind
theorem o_p {R : Type} [CommRing R] (d x y : R) : 1 + d * x * 0 * y * 1 = 1 := by grind
theorem o_m {R : Type} [CommRing R] (d x y : R) : 1 - d * x * 0 * y * 1 = 1 := by grind
end
/-- The nought. -/
def O : Pt := ⟨0, 1⟩
theorem O_on : O.on := nought_on
theorem inv_one : inv (1 : F) = 1 := by
  have h := mul_inv one_ne
  grind
theorem pt_ext {P Q : Pt} (hx : P.x = Q.x) (hy : P.y = Q.y) : P = Q := by
  cases P
  cases Q
  exact congr (congrArg Pt.mk hx) hy
theorem add_O (P : Pt) : add P O = P := by
  have e1 : 1 + D * P.x * O.x * P.y * O.y = 1 := o_p D P.x P.y
  have e2 : 1 - D * P.x * O.x * P.y * O.y = 1 := o_m D P.x P.y
  refine pt_ext ?_ ?_
  · show (P.x * O.y + O.x * P.y) * inv (1 + D * P.x * O.x * P.y * O.y) = P.x
    rw [e1, inv_one]
    show (P.x * 1 + 0 * P.y) * 1 = P.x
    grind
  · show (P.y * O.y + P.x * O.x) * inv (1 - D * P.x * O.x * P.y * O.y) = P.y
    rw [e2, inv_one]
    show (P.y * 1 + P.x * 0) * 1 = P.y
    grind
theorem O_add (P : Pt) : add O P = P := by rw [add_comm', add_O]
/-- The sum of so many. -/
def mulP (P : Pt) : Nat → Pt
  | 0 => O
  | n + 1 => add (mulP P n) P
theorem mulP_on {P : Pt} (hP : P.on) : ∀ n, (mulP P n).on
  | 0 => O_on
  | n + 1 => add_on (mulP_on hP n) hP
theorem mulP_one (P : Pt) : mulP P 1 = P := O_add P
theorem mulP_add {P : Pt} (hP : P.on) (a : Nat) : ∀ b, mulP P (a + b) = add (mulP P a) (mulP P b)
  | 0 => (add_O _).symm
  | b + 1 => by
    show add (mulP P (a + b)) P = add (mulP P a) (add (mulP P b) P)
    rw [mulP_add hP a b, add_assoc' (mulP_on hP a) (mulP_on hP b) hP]
theorem mulP_mul {P : Pt} (hP : P.on) (a : Nat) : ∀ b, mulP P (a * b) = mulP (mulP P a) b
  | 0 => rfl
  | b + 1 => by
    show mulP P (a * b + a) = add (mulP (mulP P a) b) (mulP P a)
    rw [mulP_add hP, mulP_mul hP a b]
theorem mulP_O : ∀ n, mulP O n = O
  | 0 => rfl
  | n + 1 => by
    show add (mulP O n) O = O
    rw [mulP_O n, add_O]
/-- By bits: after n of them, the number that they tell. -/
theorem ptm_mul {P : Pt} (hP : P.on) (e : Nat) (he : e < 2 ^ 256) : ∀ n, n ≤ 256 → ptm e P n = mulP P (e / 2 ^ (256 - n))
  | 0, _ => by
    rw [Nat.sub_zero, Nat.div_eq_of_lt he]
    rfl
  | n + 1, h => by
    have ih := ptm_mul hP e he n (by omega)
    have e0 : 256 - (n + 1) = 255 - n := by omega
    have e1 : 256 - n = 255 - n + 1 := by omega
    rw [e1, Nat.pow_succ, ← Nat.div_div_eq_div_mul] at ih
    rw [e0]
    unfold ptm
    rw [ih]
    generalize e / 2 ^ (255 - n) = q
    have hd := mulP_add hP (q / 2) (q / 2)
    split
    · rename_i hq
      rw [← hd]
      show mulP P (q / 2 + q / 2 + 1) = _
      rw [show q / 2 + q / 2 + 1 = q by omega]
    · rename_i hq
      rw [← hd, show q / 2 + q / 2 = q by omega]
theorem ptm_is {P : Pt} (hP : P.on) (e : Nat) (he : e < 2 ^ 256) : ptm e P 256 = mulP P e := by
  rw [ptm_mul hP e he 256 (Nat.le_refl _), Nat.sub_self, Nat.pow_zero, Nat.div_one]
/-- The opposite. -/
def negP (P : Pt) : Pt := ⟨-P.x, P.y⟩
theorem neg_on {P : Pt} (hP : P.on) : (negP P).on := by
  have h : P.y * P.y - P.x * P.x = 1 + D * (P.x * P.x) * (P.y * P.y) := hP
  show P.y * P.y - -P.x * -P.x = 1 + D * (-P.x * -P.x) * (P.y * P.y)
  grind
theorem add_neg {P : Pt} (hP : P.on) : add P (negP P) = O := by
  have h : P.y * P.y - P.x * P.x = 1 + D * (P.x * P.x) * (P.y * P.y) := hP
  have hd := mul_inv (den_m hP (neg_on hP))
  refine pt_ext ?_ ?_
  · show (P.x * P.y + -P.x * P.y) * inv _ = 0
    grind
  · have e : P.y * (negP P).y + P.x * (negP P).x = 1 - D * P.x * (negP P).x * P.y * (negP P).y := by
      show P.y * P.y + P.x * -P.x = 1 - D * P.x * -P.x * P.y * P.y
      grind
    show (P.y * (negP P).y + P.x * (negP P).x) * inv _ = 1
    rw [e]
    exact hd
end Cv
end Fd
end Go.Proofs.Ytgdekigdbbldoaa

namespace Go.Proofs.Ytgdekigdbbldoaa
open Go.RowKit
namespace Fd
namespace Cv
open Pratt

/-- A number that is reckoned before it is used. -/
def frc {α : Type} (n : Nat) (f : Nat → α) : α := match n with
  | 0 => f 0
  | k + 1 => f (k + 1)
theorem frc_eq {α : Type} (n : Nat) (f : Nat → α) : frc n f = f n := by cases n <;> rfl
/-- A number times a point, from the highest bit on, each fraction reckoned before the next. -/
def goK (e : Nat) (a : Frac) : Nat → Frac → Frac
  | 0, F => F
  | f + 1, F => match Nat.beq (e / 2 ^ f % 2) 1 with
    | true => frc (sumF (twiceF F) a).x fun x => frc (sumF (twiceF F) a).y fun y => frc (sumF (twiceF F) a).u fun u => goK e a f ⟨x, y, u⟩
    | false => frc (twiceF F).x fun x => frc (twiceF F).y fun y => frc (twiceF F).u fun u => goK e a f ⟨x, y, u⟩
theorem goK_one (e : Nat) (a : Frac) (f : Nat) (F : Frac) (h : e / 2 ^ f % 2 = 1) : goK e a (f + 1) F = goK e a f (sumF (twiceF F) a) := by
  show (match Nat.beq (e / 2 ^ f % 2) 1 with
    | true => frc (sumF (twiceF F) a).x fun x => frc (sumF (twiceF F) a).y fun y => frc (sumF (twiceF F) a).u fun u => goK e a f ⟨x, y, u⟩
    | false => frc (twiceF F).x fun x => frc (twiceF F).y fun y => frc (twiceF F).u fun u => goK e a f ⟨x, y, u⟩) = _
  rw [h]
  show (frc (sumF (twiceF F) a).x fun x => frc (sumF (twiceF F) a).y fun y => frc (sumF (twiceF F) a).u fun u => goK e a f ⟨x, y, u⟩) = _
  rw [frc_eq, frc_eq, frc_eq]
theorem goK_nil (e : Nat) (a : Frac) (f : Nat) (F : Frac) (h : e / 2 ^ f % 2 = 0) : goK e a (f + 1) F = goK e a f (twiceF F) := by
  show (match Nat.beq (e / 2 ^ f % 2) 1 with
    | true => frc (sumF (twiceF F) a).x fun x => frc (sumF (twiceF F) a).y fun y => frc (sumF (twiceF F) a).u fun u => goK e a f ⟨x, y, u⟩
    | false => frc (twiceF F).x fun x => frc (twiceF F).y fun y => frc (twiceF F).u fun u => goK e a f ⟨x, y, u⟩) = _
  rw [h]
  show (frc (twiceF F).x fun x => frc (twiceF F).y fun y => frc (twiceF F).u fun u => goK e a f ⟨x, y, u⟩) = _
  rw [frc_eq, frc_eq, frc_eq]
theorem goK_eq (e : Nat) (a : Frac) : ∀ f, f ≤ 256 → goK e a f (tmR e a (256 - f)) = tmR e a 256
  | 0, _ => rfl
  | f + 1, h => by
    have ih := goK_eq e a f (by omega)
    have e1 : 256 - f = 256 - (f + 1) + 1 := by omega
    have e2 : 255 - (256 - (f + 1)) = f := by omega
    rw [e1] at ih
    have e3 : tmR e a (256 - (f + 1) + 1) = if e / 2 ^ (255 - (256 - (f + 1))) % 2 = 1 then sumF (twiceF (tmR e a (256 - (f + 1)))) a else twiceF (tmR e a (256 - (f + 1))) := rfl
    rw [e3, e2] at ih
    rw [← ih]
    rcases Nat.mod_two_eq_zero_or_one (e / 2 ^ f) with h0 | h0
    · rw [goK_nil _ _ _ _ h0, h0]
      rfl
    · rw [goK_one _ _ _ _ h0, h0]
      rfl
def ordL : Nat := 7237005577332262213973186563042994240857116359379907606001950938285454250989
/-- Whether a fraction stands for nought. -/
def isO : Frac → Bool
  | ⟨x, y, u⟩ => Nat.beq x 0 && Nat.beq y u && !(Nat.beq (u % p) 0)
theorem isO_is {F : Frac} {P : Pt} (h : isO F = true) (hF : Is F P) : P = O := by
  obtain ⟨x, y, u⟩ := F
  obtain ⟨h1, h2, h3⟩ := hF
  have h' : (Nat.beq x 0 && Nat.beq y u && !(Nat.beq (u % p) 0)) = true := h
  rw [Bool.and_eq_true, Bool.and_eq_true] at h'
  have hx : x = 0 := Nat.eq_of_beq_eq_true h'.1.1
  have hy : y = u := Nat.eq_of_beq_eq_true h'.1.2
  subst hx
  subst hy
  refine pt_ext ?_ ?_
  · have e : P.x * tf y = 0 := by rw [← tf_zero]; exact h2.symm
    exact (mul_zero' e).resolve_right h1
  · refine cancel h1 ?_
    have e : tf y = P.y * tf y := h3
    rw [← e]
    show _ = (1 : F) * _
    grind
set_option maxRecDepth 100000 in
theorem order_run : isO (goK ordL ⟨baseX, baseY, cone⟩ 256 fNought) = true := by decide +kernel
theorem B_order : mulP B ordL = O := by
  rw [← ptm_is B_on ordL (by decide +kernel)]
  refine isO_is (F := tmR ordL ⟨baseX, baseY, cone⟩ 256) ?_ (tm_is ordL (one_is baseX baseY) B_on 256)
  rw [← goK_eq ordL ⟨baseX, baseY, cone⟩ 256 (Nat.le_refl _)]
  exact order_run
theorem B_mod (n : Nat) : mulP B (n % ordL) = mulP B n := by
  have h : mulP B (ordL * (n / ordL) + n % ordL) = mulP B (n % ordL) := by
    rw [mulP_add B_on, mulP_mul B_on, B_order, mulP_O, O_add]
  rw [← h, Nat.div_add_mod]
theorem B_sum (i j : Nat) : mulP B ((i + j) % ordL) = add (mulP B i) (mulP B j) := by rw [B_mod, mulP_add B_on]
end Cv
end Fd
end Go.Proofs.Ytgdekigdbbldoaa

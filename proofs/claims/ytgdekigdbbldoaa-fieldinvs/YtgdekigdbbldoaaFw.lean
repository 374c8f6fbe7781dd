/- Boxes of 32 bytes; what '==' says of two errors; numbers that the examples need. -/
import Derived.Test.YtgdekigdbbldoaaFv
namespace Go.Proofs.Ytgdekigdbbldoaa
open Go.RowKit
namespace Fd
open Rg Pratt

/-- A box of 32 bytes. -/
def Bo (w : World) (b : Nat) (R : List Value) : Prop := w.rangeAt b 0 R ∧ b < w.heap.size
theorem Bo.below {w w' : World} {b : Nat} {R : List Value} (h : Bo w b R) (hb : Below w.heap.size w w') : Bo w' b R := ⟨Rg.Below.range hb h.1 h.2, Nat.lt_of_lt_of_le h.2 hb.size⟩
theorem Bo.cl {w : World} {b : Nat} {R : List Value} (h : Bo w b R) : ∀ w', (∃ x : Cl w.heap.size w, w' = x.u) → w'.rangeAt b 0 R := fun _ ⟨x, hx⟩ => hx ▸ x.range h.1 h.2
theorem z22_there (W : World) : (W.alloc (.cells z22 22)).there W.heap.size 0 32 := there_new W z22 22 (m := 32) fun j hj => by simp [z22, hj]
theorem box_new (W : World) (R : List Value) (hR : R.length = 32) : Bo ((W.alloc (.cells z22 22)).setCells W.heap.size 0 R) W.heap.size R ∧ Below W.heap.size W ((W.alloc (.cells z22 22)).setCells W.heap.size 0 R) :=
  ⟨⟨World.rangeAt_setCells_same _ _ _ _ (by rw [hR]; exact z22_there W), by rw [size_setCells, size_alloc]; omega⟩, below_setCells ((Below.refl _ _).alloc (Nat.le_refl _) _) (Nat.le_refl _)⟩
/-- What the walk wants of a letter for 32 bytes. -/
structure L32 (R : List Value) : Prop where
  l : R.length = 32
  o : R.toArray.all (·.oneCell') = true
  i : (Try.prog.info? 22).map (·.size) = some R.length
  j : (Try.prog.info? 22).map (·.size) = some R.toArray.size
  t : ∀ W : World, (W.alloc (.cells z22 22)).there W.heap.size 0 R.toArray.size
theorem l32 (x : Nat) : L32 (bvc x) := ⟨bvc_len x, one32 x, info22l x, info22s x, fun W => by rw [show (bvc x).toArray.size = 32 by rw [List.size_toArray, bvc_len]]; exact z22_there W⟩
theorem eq_nil (W : World) : (Op.equalIn 10000 32 .nilIface .nilIface).run Try.prog W = .ok true W := by
  rw [show (10000 : Nat) = 9999 + 1 from rfl, Op.equalIn]
  simp only [Sem.run_bind, run_underlying Try.underlying32, Result.andThen_ok]
  rfl
theorem eq_err_nil (t : TypeId) (v : Value) (W : World) : (Op.equalIn 10000 32 (.iface t v) .nilIface).run Try.prog W = .ok false W := by
  rw [show (10000 : Nat) = 9999 + 1 from rfl, Op.equalIn]
  simp only [Sem.run_bind, run_underlying Try.underlying32, Result.andThen_ok]
  rfl
theorem comp35 : (Try.prog.info? 35).map (·.comparable) = some true := by kernel_rfl
theorem eq_err (a b : Int) (W : World) : (Op.equalIn 10000 32 (.iface 35 (.int .i64 a)) (.iface 35 (.int .i64 b))).run Try.prog W = .ok (a == b) W := by
  obtain ⟨i, hi, hc⟩ := Option.map_eq_some_iff.1 comp35
  rw [show (10000 : Nat) = 9999 + 1 from rfl, Op.equalIn]
  simp only [Sem.run_bind, run_underlying Try.underlying32, Result.andThen_ok]
  simp [typeInfo, hi, hc]
  rw [show (9999 : Nat) = 9998 + 1 from rfl]
  exact run_equalIn_int (P := Try.prog) W 9998 35 .i64 .i64 a b Try.underlying35

theorem bin_err (a b : Int) (W : World) : (binOp .eql 32 (.iface 35 (.int .i64 a)) (.iface 35 (.int .i64 b))).run Try.prog W = .ok (.bool (a == b)) W := by
  simp only [binOp]
  simp [Op.equal, Op.maxDepth, eq_err a b W]
theorem r0_pm (x : Nat) : r0 x = pm p 256 x rootExponent := (pm_eq p 256 x rootExponent (by decide +kernel)).symm
theorem rt4 : evn (rt 4) = 2 ∧ rt 4 * rt 4 % p = 4 := by
  have e : rt 4 = if pm p 256 4 rootExponent * pm p 256 4 rootExponent % p = 4 then pm p 256 4 rootExponent else pm p 256 4 rootExponent * rootOfMinusOne % p := by unfold rt; rw [r0_pm]
  rw [e]
  decide +kernel
theorem rt2 : ¬ rt 2 * rt 2 % p = 2 := by
  have e : rt 2 = if pm p 256 2 rootExponent * pm p 256 2 rootExponent % p = 2 then pm p 256 2 rootExponent else pm p 256 2 rootExponent * rootOfMinusOne % p := by unfold rt; rw [r0_pm]
  rw [e]
  decide +kernel
/-- Inv, where there is one. -/
theorem inv_at (a : Nat) (ha : a < 115792089237316195423570985008687907853269984665640564039457584007913129639936) (hz : ¬ a % p = 0) : ∃ i, i < p ∧ a * i % p = 1 ∧ i = (a % p) ^ (p - 2) % p ∧ ∀ w : World, Calls Try.prog 23 #[bv a] w fun e w' => e = .returned (.tuple #[bv i, .nilIface]) ∧ Below w.heap.size w w' := by
  refine ⟨(a % p) ^ inverseExponent % p, Nat.mod_lt _ (by decide), ?_, by rw [inverseExponent_eq], fun w => inv_some a w ha hz⟩
  have h := inv_mul (a % p) (Nat.pos_of_ne_zero hz) (Nat.mod_lt _ (by decide))
  rw [inverseExponent_eq, ← Nat.mod_mul_mod]
  exact h
theorem root_at (a r : Nat) (ha : a < 115792089237316195423570985008687907853269984665640564039457584007913129639936) (hr : evn (rt (a % p)) = r) (h : rt (a % p) * rt (a % p) % p = a % p) (w : World) : Calls Try.prog 26 #[bv a] w fun e w' => e = .returned (.tuple #[bv r, .nilIface]) ∧ Below w.heap.size w w' := by
  rw [← hr]
  exact proot_some a w ha h
theorem lt4 : 4 % p = 4 := by decide
theorem lt2 : 2 % p = 2 := by decide
theorem root4 (w : World) : Calls Try.prog 26 #[bv 4] w fun e w' => e = .returned (.tuple #[bv 2, .nilIface]) ∧ Below w.heap.size w w' := root_at 4 2 (by decide) (by rw [lt4]; exact rt4.1) (by rw [lt4]; exact rt4.2) w
theorem root2 (w : World) : Calls Try.prog 26 #[bv 2] w fun e w' => e = .returned (.tuple #[bv 0, .iface 35 (.int .i64 9)]) ∧ Below w.heap.size w w' := proot_none 2 w (by decide) (by rw [lt2]; exact rt2)
end Fd
end Go.Proofs.Ytgdekigdbbldoaa

/- What '==' says of two numbers. -/
import Derived.Test.YtgdekigdbbldoaaFr
namespace Go.Proofs.Ytgdekigdbbldoaa
open Go.RowKit
namespace Fd
open Rg

set_option maxHeartbeats 2000000 in
theorem eq48 (a b c d a' b' c' d' : Int) (w : World) : (Op.equalIn 10000 74 (.agg #[.int .u64 a, .int .u64 b, .int .u64 c, .int .u64 d]) (.agg #[.int .u64 a', .int .u64 b', .int .u64 c', .int .u64 d'])).run Try.prog w = .ok (decide (a = a' ∧ b = b' ∧ c = c' ∧ d = d')) w := by
  have u3 := Try.underlying72
  have hq : (Try.prog.info? 72).map (·.size) = some 1 := by kernel_rfl
  obtain ⟨t, ht⟩ : ∃ t, Try.prog.info? 72 = some t := by
    cases h : Try.prog.info? 72 with
    | none => simp [h] at hq
    | some t => exact ⟨t, rfl⟩
  have hs : t.size = 1 := by simpa [ht] using hq
  rw [show (10000 : Nat) = 9999 + 1 from rfl, Op.equalIn]
  simp only [Sem.run_bind, run_underlying Try.underlying74, Result.andThen_ok]
  simp only [Std.Legacy.Range.forIn_eq_forIn_range', Std.Legacy.Range.size, Nat.sub_zero, Nat.add_sub_cancel, Nat.div_one, List.range'_succ, List.range'_zero, List.forIn_cons, List.forIn_nil]
  simp only [sizeOf, typeInfo, part, isAgg]
  go_simp
  by_cases h1 : a = a' <;> by_cases h2 : b = b' <;> by_cases h3 : c = c' <;> by_cases h4 : d = d' <;> simp [h1, h2, h3, h4]
/-- Two numbers of four words are the same where their words are. -/
theorem same_words (x y : Nat) (hx : x < 115792089237316195423570985008687907853269984665640564039457584007913129639936) (hy : y < 115792089237316195423570985008687907853269984665640564039457584007913129639936) :
    ((l0 x : Int) = (l0 y : Int) ∧ (l1 x : Int) = (l1 y : Int) ∧ (l2 x : Int) = (l2 y : Int) ∧ (l3 x : Int) = (l3 y : Int)) ↔ x = y := by
  refine ⟨fun ⟨h0, h1, h2, h3⟩ => ?_, fun h => by rw [h]; exact ⟨rfl, rfl, rfl, rfl⟩⟩
  rw [← mk_l x hx, ← mk_l y hy, Int.ofNat.inj h0, Int.ofNat.inj h1, Int.ofNat.inj h2, Int.ofNat.inj h3]
end Fd
end Go.Proofs.Ytgdekigdbbldoaa

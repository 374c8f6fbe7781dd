/- What timesPlus does: a contract, by walking its text. -/
import Derived.Test.YtgdekigdbbldoaaFa
namespace Go.Proofs.Ytgdekigdbbldoaa
open Go.RowKit
namespace Fd

theorem mul_le (x y : Nat) (hx : x < 18446744073709551616) (hy : y < 18446744073709551616) : x * y ≤ 340282366920938463426481119284349108225 := by
  have h := Nat.mul_le_mul (show x ≤ 18446744073709551615 by omega) (show y ≤ 18446744073709551615 by omega)
  exact Nat.le_trans h (by decide)
theorem times_words (p c d lo hi l1 k1 l2 k2 : Nat) (hp : p ≤ 340282366920938463426481119284349108225) (hc : c < 18446744073709551616) (hd : d < 18446744073709551616) (h1 : lo = p % 18446744073709551616) (h2 : hi = p / 18446744073709551616) (h3 : l1 = (lo + c + 0) % 18446744073709551616) (h4 : k1 = (lo + c + 0) / 18446744073709551616) (h5 : l2 = (l1 + d + 0) % 18446744073709551616) (h6 : k2 = (l1 + d + 0) / 18446744073709551616) :
    l2 = (p + c + d) % 18446744073709551616 ∧ hi + k1 + k2 = (p + c + d) / 18446744073709551616 ∧ hi + k1 < 18446744073709551616 ∧ hi + k1 + k2 < 18446744073709551616 := by
  omega
set_option maxHeartbeats 2000000 in
theorem timesPlus_any (x y c d : Nat) (w : World) (hx : x < 18446744073709551616) (hy : y < 18446744073709551616) (hc : c < 18446744073709551616) (hd : d < 18446744073709551616) :
    Calls Try.prog 108 #[.int .u64 (x : Int), .int .u64 (y : Int), .int .u64 (c : Int), .int .u64 (d : Int)] w fun e w' => e = .returned (.tuple #[.int .u64 (((x * y + c + d) % 18446744073709551616 : Nat) : Int), .int .u64 (((x * y + c + d) / 18446744073709551616 : Nat) : Int)]) ∧ w' = w := by
  have cm := mul64 x y hx hy w
  have hp := mul_le x y hx hy
  obtain ⟨p, hpp⟩ : ∃ p, x * y = p := ⟨_, rfl⟩
  rw [hpp] at cm hp ⊢
  obtain ⟨lo, hlo⟩ : ∃ z, p % 18446744073709551616 = z := ⟨_, rfl⟩
  obtain ⟨hi, hhi⟩ : ∃ z, p / 18446744073709551616 = z := ⟨_, rfl⟩
  rw [hlo, hhi] at cm
  have r1 := add64 lo c 0 (by decide)
  obtain ⟨l1, hl1⟩ : ∃ z, (lo + c + 0) % 18446744073709551616 = z := ⟨_, rfl⟩
  obtain ⟨k1, hk1⟩ : ∃ z, (lo + c + 0) / 18446744073709551616 = z := ⟨_, rfl⟩
  rw [hl1, hk1, show ((0 : Nat) : Int) = 0 from rfl] at r1
  have r2 := add64 l1 d 0 (by decide)
  obtain ⟨l2, hl2⟩ : ∃ z, (l1 + d + 0) % 18446744073709551616 = z := ⟨_, rfl⟩
  obtain ⟨k2, hk2⟩ : ∃ z, (l1 + d + 0) / 18446744073709551616 = z := ⟨_, rfl⟩
  rw [hl2, hk2, show ((0 : Nat) : Int) = 0 from rfl] at r2
  obtain ⟨e1, e2, e3, e4⟩ := times_words p c d lo hi l1 k1 l2 k2 hp hc hd hlo.symm hhi.symm hl1.symm hk1.symm hl2.symm hk2.symm
  rw [← e1, ← e2]
  have w1 : IntKind.u64.wrap ((hi : Int) + (k1 : Int)) = ((hi + k1 : Nat) : Int) := by rw [IntKind.wrap_u64]; omega
  obtain ⟨h1, hh1⟩ : ∃ z, hi + k1 = z := ⟨_, rfl⟩
  rw [hh1] at w1 e4 ⊢
  have w2 : IntKind.u64.wrap ((h1 : Int) + (k2 : Int)) = ((h1 + k2 : Nat) : Int) := by rw [IntKind.wrap_u64]; omega
  obtain ⟨h2, hh2⟩ : ∃ z, h1 + k2 = z := ⟨_, rfl⟩
  rw [hh2] at w2 ⊢
  clear e1 e2 e3 e4 hlo hhi hl1 hk1 hl2 hk2 hh1 hh2 hpp hp
  go_enter Try.func108, Try.ntmps108
  go_wp2_with (go_at_call 109; refine cm.mono ?_; rintro e w' ⟨rfl, rfl⟩)
  go_ret2
  exact ⟨rfl, rfl⟩
end Fd
end Go.Proofs.Ytgdekigdbbldoaa

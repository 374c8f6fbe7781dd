/- What word does: a contract, by walking its text. -/
import Derived.Test.YtgdekigdbbldoaaFl
namespace Go.Proofs.Ytgdekigdbbldoaa
open Go.RowKit
namespace Fd
open Rg

theorem or_hi (A y i M : Nat) (hM : 2 ^ i = M) (hA : A < M) (hy : M * y < 18446744073709551616) (hM2 : M < 18446744073709551616) : bits .or .u64 (A : Int) ((y : Int) * (M : Int)) = ((A + M * y : Nat) : Int) := by
  have h1 : (y : Int) * (M : Int) = ((M * y : Nat) : Int) := by rw [Int.natCast_mul, Int.mul_comm]
  rw [h1, u64_or_nat _ _ (by omega) hy]
  subst hM
  have := Nat.shiftLeft_add_eq_or_of_lt (i := i) (b := A) hA y
  rw [Nat.shiftLeft_eq, Nat.mul_comm y] at this
  rw [Nat.or_comm, ← this, Nat.add_comm]

set_option maxHeartbeats 4000000 in
set_option maxRecDepth 4000 in
theorem word_any (b o cap : Nat) (y0 y1 y2 y3 y4 y5 y6 y7 : Nat) (w : World) (hb : b < w.heap.size) (h0 : y0 < 256) (h1 : y1 < 256) (h2 : y2 < 256) (h3 : y3 < 256) (h4 : y4 < 256) (h5 : y5 < 256) (h6 : y6 < 256) (h7 : y7 < 256)
    (r0 : w.cell? ⟨b, o, none⟩ = some (.int .u8 (y0 : Int))) (r1 : w.cell? ⟨b, o + 1, none⟩ = some (.int .u8 (y1 : Int))) (r2 : w.cell? ⟨b, o + 2, none⟩ = some (.int .u8 (y2 : Int))) (r3 : w.cell? ⟨b, o + 3, none⟩ = some (.int .u8 (y3 : Int)))
    (r4 : w.cell? ⟨b, o + 4, none⟩ = some (.int .u8 (y4 : Int))) (r5 : w.cell? ⟨b, o + 5, none⟩ = some (.int .u8 (y5 : Int))) (r6 : w.cell? ⟨b, o + 6, none⟩ = some (.int .u8 (y6 : Int))) (r7 : w.cell? ⟨b, o + 7, none⟩ = some (.int .u8 (y7 : Int))) :
    Calls Try.prog 98 #[.slice (some ⟨b, o, none⟩) 8 cap] w fun e w' => e = .returned (.int .u64 ((y0 + 256 * y1 + 65536 * y2 + 16777216 * y3 + 4294967296 * y4 + 1099511627776 * y5 + 281474976710656 * y6 + 72057594037927936 * y7 : Nat) : Int)) ∧ Below w.heap.size w w' := by
  have q0 : ∀ x : Cl w.heap.size w, x.u.cell? ⟨b, o, none⟩ = some (.int .u8 (y0 : Int)) := fun x => x.cell r0 hb
  have q1 : ∀ x : Cl w.heap.size w, x.u.cell? ⟨b, o + 1, none⟩ = some (.int .u8 (y1 : Int)) := fun x => x.cell r1 hb
  have q2 : ∀ x : Cl w.heap.size w, x.u.cell? ⟨b, o + 2, none⟩ = some (.int .u8 (y2 : Int)) := fun x => x.cell r2 hb
  have q3 : ∀ x : Cl w.heap.size w, x.u.cell? ⟨b, o + 3, none⟩ = some (.int .u8 (y3 : Int)) := fun x => x.cell r3 hb
  have q4 : ∀ x : Cl w.heap.size w, x.u.cell? ⟨b, o + 4, none⟩ = some (.int .u8 (y4 : Int)) := fun x => x.cell r4 hb
  have q5 : ∀ x : Cl w.heap.size w, x.u.cell? ⟨b, o + 5, none⟩ = some (.int .u8 (y5 : Int)) := fun x => x.cell r5 hb
  have q6 : ∀ x : Cl w.heap.size w, x.u.cell? ⟨b, o + 6, none⟩ = some (.int .u8 (y6 : Int)) := fun x => x.cell r6 hb
  have q7 : ∀ x : Cl w.heap.size w, x.u.cell? ⟨b, o + 7, none⟩ = some (.int .u8 (y7 : Int)) := fun x => x.cell r7 hb
  have hne := Cl.ne w.heap.size w
  clear r0 r1 r2 r3 r4 r5 r6 r7
  obtain ⟨v1, hv1⟩ : ∃ v, y0 + 256 * y1 = v := ⟨_, rfl⟩
  have f1 : bits .or .u64 (y0 : Int) ((y1 : Int) * 256) = ((y0 + 256 * y1 : Nat) : Int) := or_hi y0 y1 8 256 (by decide) (by omega) (by omega) (by decide)
  rw [hv1] at f1
  obtain ⟨v2, hv2⟩ : ∃ v, v1 + 65536 * y2 = v := ⟨_, rfl⟩
  have f2 : bits .or .u64 (v1 : Int) ((y2 : Int) * 65536) = ((v1 + 65536 * y2 : Nat) : Int) := or_hi v1 y2 16 65536 (by decide) (by omega) (by omega) (by decide)
  rw [hv2] at f2
  obtain ⟨v3, hv3⟩ : ∃ v, v2 + 16777216 * y3 = v := ⟨_, rfl⟩
  have f3 : bits .or .u64 (v2 : Int) ((y3 : Int) * 16777216) = ((v2 + 16777216 * y3 : Nat) : Int) := or_hi v2 y3 24 16777216 (by decide) (by omega) (by omega) (by decide)
  rw [hv3] at f3
  obtain ⟨v4, hv4⟩ : ∃ v, v3 + 4294967296 * y4 = v := ⟨_, rfl⟩
  have f4 : bits .or .u64 (v3 : Int) ((y4 : Int) * 4294967296) = ((v3 + 4294967296 * y4 : Nat) : Int) := or_hi v3 y4 32 4294967296 (by decide) (by omega) (by omega) (by decide)
  rw [hv4] at f4
  obtain ⟨v5, hv5⟩ : ∃ v, v4 + 1099511627776 * y5 = v := ⟨_, rfl⟩
  have f5 : bits .or .u64 (v4 : Int) ((y5 : Int) * 1099511627776) = ((v4 + 1099511627776 * y5 : Nat) : Int) := or_hi v4 y5 40 1099511627776 (by decide) (by omega) (by omega) (by decide)
  rw [hv5] at f5
  obtain ⟨v6, hv6⟩ : ∃ v, v5 + 281474976710656 * y6 = v := ⟨_, rfl⟩
  have f6 : bits .or .u64 (v5 : Int) ((y6 : Int) * 281474976710656) = ((v5 + 281474976710656 * y6 : Nat) : Int) := or_hi v5 y6 48 281474976710656 (by decide) (by omega) (by omega) (by decide)
  rw [hv6] at f6
  obtain ⟨v7, hv7⟩ : ∃ v, v6 + 72057594037927936 * y7 = v := ⟨_, rfl⟩
  have f7 : bits .or .u64 (v6 : Int) ((y7 : Int) * 72057594037927936) = ((v6 + 72057594037927936 * y7 : Nat) : Int) := or_hi v6 y7 56 72057594037927936 (by decide) (by omega) (by omega) (by decide)
  rw [hv7] at f7
  have hval : y0 + 256 * y1 + 65536 * y2 + 16777216 * y3 + 4294967296 * y4 + 1099511627776 * y5 + 281474976710656 * y6 + 72057594037927936 * y7 = v7 := by omega
  rw [hval]
  clear hval hv1 hv2 hv3 hv4 hv5 hv6 hv7
  go_enter Try.func98, Try.ntmps98
  go_wp2
  refine region_cl (N := w.heap.size) (W := w) (by kernel_rfl) (by kernel_rfl) (Below.refl _ _) ?_
  repeat (go_big_quiet_step (fail))
  refine wpQuiet_nil ?_
  rintro _ ⟨x, rfl⟩
  have hx := x.h
  go_wp2
  go_ret
  exact ⟨rfl, hx⟩
end Fd
end Go.Proofs.Ytgdekigdbbldoaa

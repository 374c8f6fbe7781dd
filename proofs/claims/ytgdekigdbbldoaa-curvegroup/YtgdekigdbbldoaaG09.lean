/- What the constants and even do: contracts, by walking their texts. What word does: a contract, by walking its text. -/
import Derived.Test.YtgdekigdbbldoaaG08
namespace Go.Proofs.Ytgdekigdbbldoaa
open Go.RowKit
namespace Fd
open Rg

def inverseExponent : Nat := 57896044618658097711785492504343953926634992332820282019728792003956564819947
theorem nv_inverseExponent : nv inverseExponent = .agg #[.int .u64 18446744073709551595, .int .u64 18446744073709551615, .int .u64 18446744073709551615, .int .u64 9223372036854775807] := by
  have h := nv_mk 18446744073709551595 18446744073709551615 18446744073709551615 9223372036854775807 (by decide) (by decide) (by decide) (by decide)
  have e : mk 18446744073709551595 18446744073709551615 18446744073709551615 9223372036854775807 = inverseExponent := by decide +kernel
  rw [e] at h
  exact h
theorem inverseExponent_any (w : World) : Calls Try.prog 67 #[] w fun e w' => e = .returned (nv inverseExponent) ∧ Below w.heap.size w w' := by
  rw [nv_inverseExponent]
  obtain ⟨n, hn⟩ : ∃ n, w.heap.size = n := ⟨_, rfl⟩
  go_enter Try.func67, Try.ntmps67
  go_wp2
  rw [hn]
  exact bodyPost_ret (results_cell Try.results67 rfl (load_at hn [.int .u64 18446744073709551595, .int .u64 18446744073709551615, .int .u64 18446744073709551615, .int .u64 9223372036854775807] rfl)) rfl ⟨rfl, (Below.refl _ _).alloc (by omega) _⟩
def rootExponent : Nat := 7237005577332262213973186563042994240829374041602535252466099000494570602494
theorem nv_rootExponent : nv rootExponent = .agg #[.int .u64 18446744073709551614, .int .u64 18446744073709551615, .int .u64 18446744073709551615, .int .u64 1152921504606846975] := by
  have h := nv_mk 18446744073709551614 18446744073709551615 18446744073709551615 1152921504606846975 (by decide) (by decide) (by decide) (by decide)
  have e : mk 18446744073709551614 18446744073709551615 18446744073709551615 1152921504606846975 = rootExponent := by decide +kernel
  rw [e] at h
  exact h
theorem rootExponent_any (w : World) : Calls Try.prog 70 #[] w fun e w' => e = .returned (nv rootExponent) ∧ Below w.heap.size w w' := by
  rw [nv_rootExponent]
  obtain ⟨n, hn⟩ : ∃ n, w.heap.size = n := ⟨_, rfl⟩
  go_enter Try.func70, Try.ntmps70
  go_wp2
  rw [hn]
  exact bodyPost_ret (results_cell Try.results70 rfl (load_at hn [.int .u64 18446744073709551614, .int .u64 18446744073709551615, .int .u64 18446744073709551615, .int .u64 1152921504606846975] rfl)) rfl ⟨rfl, (Below.refl _ _).alloc (by omega) _⟩
def rootOfMinusOne : Nat := 19681161376707505956807079304988542015446066515923890162744021073123829784752
theorem nv_rootOfMinusOne : nv rootOfMinusOne = .agg #[.int .u64 14190309331451158704, .int .u64 3405592160176694392, .int .u64 3120150775007532967, .int .u64 3135389899092516619] := by
  have h := nv_mk 14190309331451158704 3405592160176694392 3120150775007532967 3135389899092516619 (by decide) (by decide) (by decide) (by decide)
  have e : mk 14190309331451158704 3405592160176694392 3120150775007532967 3135389899092516619 = rootOfMinusOne := by decide +kernel
  rw [e] at h
  exact h
theorem rootOfMinusOne_any (w : World) : Calls Try.prog 71 #[] w fun e w' => e = .returned (nv rootOfMinusOne) ∧ Below w.heap.size w w' := by
  rw [nv_rootOfMinusOne]
  obtain ⟨n, hn⟩ : ∃ n, w.heap.size = n := ⟨_, rfl⟩
  go_enter Try.func71, Try.ntmps71
  go_wp2
  rw [hn]
  exact bodyPost_ret (results_cell Try.results71 rfl (load_at hn [.int .u64 14190309331451158704, .int .u64 3405592160176694392, .int .u64 3120150775007532967, .int .u64 3135389899092516619] rfl)) rfl ⟨rfl, (Below.refl _ _).alloc (by omega) _⟩
theorem inverseExponent_eq : inverseExponent = p - 2 := by decide +kernel
theorem rootExponent_eq : rootExponent = (p + 3) / 8 := by decide +kernel
/-- The even one of a number and its negative. -/
def evn (a : Nat) : Nat := if a % 2 = 1 then (0 + p - a) % p else a
theorem nv_0 : nv 0 = .agg (w4 0 0 0 0).toArray := rfl

set_option maxHeartbeats 4000000 in
set_option maxRecDepth 4000 in
theorem even_any (a : Nat) (w : World) (ha : a < p) : Calls Try.prog 72 #[nv a] w fun e w' => e = .returned (nv (evn a)) ∧ Below w.heap.size w w' := by
  have cd := fun W => difference_any 0 a W (by decide) ha
  have hl := (l_lt a).1
  have x1 := and1 (l0 a) hl
  have hpar : l0 a % 2 = a % 2 := by unfold l0; omega
  rw [hpar] at x1
  have hS0 := Rd.start w (l0 a) (l1 a) (l2 a) (l3 a)
  obtain ⟨n, hn⟩ : ∃ n, w.heap.size = n := ⟨_, rfl⟩
  rw [hn] at hS0
  by_cases hodd : a % 2 = 1
  · have e1 : evn a = (0 + p - a) % p := by unfold evn; rw [if_pos hodd]
    rw [e1]
    obtain ⟨r, hr⟩ : ∃ r, (0 + p - a) % p = r := ⟨_, rfl⟩
    rw [hr] at cd ⊢
    obtain ⟨r0, r1, r2, r3, er⟩ := nv_w r
    rw [er, nv_0, nv_w4 a] at cd
    rw [er, nv_w4 a]
    rw [hodd] at x1
    have z1 : ((1 : Nat) : Int) = 1 := rfl
    rw [z1] at x1
    obtain ⟨a0, ha0⟩ : ∃ x, l0 a = x := ⟨_, rfl⟩
    obtain ⟨a1, ha1⟩ : ∃ x, l1 a = x := ⟨_, rfl⟩
    obtain ⟨a2, ha2⟩ : ∃ x, l2 a = x := ⟨_, rfl⟩
    obtain ⟨a3, ha3⟩ : ∃ x, l3 a = x := ⟨_, rfl⟩
    rw [ha0, ha1, ha2, ha3] at cd hS0 ⊢
    rw [ha0] at x1
    have HS0 : Hid (Rd w _ n (w4 a0 a1 a2 a3)) := hS0
    clear hS0 z1 er hr e1 hodd hpar hl ha ha0 ha1 ha2 ha3
    unfold w4 at cd HS0 ⊢
    go_enter Try.func72, Try.ntmps72
    go_wp2_with (first
      | (go_at_call 64; refine (cd _).mono ?_; rintro e w1 ⟨rfl, hb1⟩; have HS1 := (show Hid (Rd w w1 n (w4 a0 a1 a2 a3)) from HS0.out.below hb1); clear hb1 cd HS0)
      | (refine wpList_store_mid rfl 74 (.tmp 2) (.tmp 9) rfl (n + 1) 0 (w4 r0 r1 r2 r3).toArray rfl rfl HS1.out.u info4 (one4 _ _ _ _) ?_; simp only))
    rw [hn]
    exact bodyPost_ret (results_cell Try.results72 rfl (HS1.out.end_ (w4 r0 r1 r2 r3) rfl).1) rfl ⟨rfl, (HS1.out.end_ (w4 r0 r1 r2 r3) rfl).2⟩
  · have e1 : evn a = a := by unfold evn; rw [if_neg hodd]
    rw [e1, nv_w4 a]
    have h0 : a % 2 = 0 := by omega
    rw [h0] at x1
    have z1 : ((0 : Nat) : Int) = 0 := rfl
    rw [z1] at x1
    obtain ⟨a0, ha0⟩ : ∃ x, l0 a = x := ⟨_, rfl⟩
    obtain ⟨a1, ha1⟩ : ∃ x, l1 a = x := ⟨_, rfl⟩
    obtain ⟨a2, ha2⟩ : ∃ x, l2 a = x := ⟨_, rfl⟩
    obtain ⟨a3, ha3⟩ : ∃ x, l3 a = x := ⟨_, rfl⟩
    rw [ha0, ha1, ha2, ha3] at hS0 ⊢
    rw [ha0] at x1
    clear z1 e1 hodd hpar hl ha ha0 ha1 ha2 ha3 cd h0
    have HS0 : Hid (Rd w _ n (w4 a0 a1 a2 a3)) := hS0
    clear hS0
    unfold w4 at HS0 ⊢
    go_enter Try.func72, Try.ntmps72
    go_wp2_with (refine wpList_store_mid rfl 74 (.tmp 2) (.tmp 10) rfl (n + 1) 0 (w4 a0 a1 a2 a3).toArray rfl rfl HS0.out.u info4 (one4 _ _ _ _) ?_; simp only)
    rw [hn]
    exact bodyPost_ret (results_cell Try.results72 rfl (HS0.out.end_ (w4 a0 a1 a2 a3) rfl).1) rfl ⟨rfl, (HS0.out.end_ (w4 a0 a1 a2 a3) rfl).2⟩
end Fd
end Go.Proofs.Ytgdekigdbbldoaa

namespace Go.Proofs.Ytgdekigdbbldoaa
open Go.RowKit
namespace Fd
open Rg

theorem or_hi (A y i M : Nat) (hM : 2 ^ i = M) (hA : A < M) (hy : M * y < 18446744073709551616) (hM2 : M < 18446744073709551616) : bits .or .u64 (A : Int) ((y : Int) * (M : Int)) = ((A + M * y : Nat) : Int) := by
  have h1 : (y : Int) * (M : Int) = ((M * y : Nat) : Int) := by rw [Int.natCast_mul, Int.mul_comm]
  rw [h1, u64_or_nat _ _ (by omega) hy]
  subst hM
  have := Nat.shiftLeft_add_eq_or_of_lt (i := i) (b := A) hA y
  rw [Nat.shiftLeft_eq, Nat.mul_comm y] at this
  rw [Nat.or_comm, ← this, Nat.add_comm]

set_option maxHeartbeats 4000000 in
set_option maxRecDepth 4000 in
theorem word_any (b o cap : Nat) (y0 y1 y2 y3 y4 y5 y6 y7 : Nat) (w : World) (hb : b < w.heap.size) (h0 : y0 < 256) (h1 : y1 < 256) (h2 : y2 < 256) (h3 : y3 < 256) (h4 : y4 < 256) (h5 : y5 < 256) (h6 : y6 < 256) (h7 : y7 < 256)
    (r0 : w.cell? ⟨b, o, none⟩ = some (.int .u8 (y0 : Int))) (r1 : w.cell? ⟨b, o + 1, none⟩ = some (.int .u8 (y1 : Int))) (r2 : w.cell? ⟨b, o + 2, none⟩ = some (.int .u8 (y2 : Int))) (r3 : w.cell? ⟨b, o + 3, none⟩ = some (.int .u8 (y3 : Int)))
    (r4 : w.cell? ⟨b, o + 4, none⟩ = some (.int .u8 (y4 : Int))) (r5 : w.cell? ⟨b, o + 5, none⟩ = some (.int .u8 (y5 : Int))) (r6 : w.cell? ⟨b, o + 6, none⟩ = some (.int .u8 (y6 : Int))) (r7 : w.cell? ⟨b, o + 7, none⟩ = some (.int .u8 (y7 : Int))) :
    Calls Try.prog 98 #[.slice (some ⟨b, o, none⟩) 8 cap] w fun e w' => e = .returned (.int .u64 ((y0 + 256 * y1 + 65536 * y2 + 16777216 * y3 + 4294967296 * y4 + 1099511627776 * y5 + 281474976710656 * y6 + 72057594037927936 * y7 : Nat) : Int)) ∧ Below w.heap.size w w' := by
  have q0 : ∀ x : Cl w.heap.size w, x.u.cell? ⟨b, o, none⟩ = some (.int .u8 (y0 : Int)) := fun x => x.cell r0 hb
  have q1 : ∀ x : Cl w.heap.size w, x.u.cell? ⟨b, o + 1, none⟩ = some (.int .u8 (y1 : Int)) := fun x => x.cell r1 hb
  have q2 : ∀ x : Cl w.heap.size w, x.u.cell? ⟨b, o + 2, none⟩ = some (.int .u8 (y2 : Int)) := fun x => x.cell r2 hb
  have q3 : ∀ x : Cl w.heap.size w, x.u.cell? ⟨b, o + 3, none⟩ = some (.int .u8 (y3 : Int)) := fun x => x.cell r3 hb
  have q4 : ∀ x : Cl w.heap.size w, x.u.cell? ⟨b, o + 4, none⟩ = some (.int .u8 (y4 : Int)) := fun x => x.cell r4 hb
  have q5 : ∀ x : Cl w.heap.size w, x.u.cell? ⟨b, o + 5, none⟩ = some (.int .u8 (y5 : Int)) := fun x => x.cell r5 hb
  have q6 : ∀ x : Cl w.heap.size w, x.u.cell? ⟨b, o + 6, none⟩ = some (.int .u8 (y6 : Int)) := fun x => x.cell r6 hb
  have q7 : ∀ x : Cl w.heap.size w, x.u.cell? ⟨b, o + 7, none⟩ = some (.int .u8 (y7 : Int)) := fun x => x.cell r7 hb
  have hne := Cl.ne w.heap.size w
  clear r0 r1 r2 r3 r4 r5 r6 r7
  obtain ⟨v1, hv1⟩ : ∃ v, y0 + 256 * y1 = v := ⟨_, rfl⟩
  have f1 : bits .or .u64 (y0 : Int) ((y1 : Int) * 256) = ((y0 + 256 * y1 : Nat) : Int) := or_hi y0 y1 8 256 (by decide) (by omega) (by omega) (by decide)
  rw [hv1] at f1
  obtain ⟨v2, hv2⟩ : ∃ v, v1 + 65536 * y2 = v := ⟨_, rfl⟩
  have f2 : bits .or .u64 (v1 : Int) ((y2 : Int) * 65536) = ((v1 + 65536 * y2 : Nat) : Int) := or_hi v1 y2 16 65536 (by decide) (by omega) (by omega) (by decide)
  rw [hv2] at f2
  obtain ⟨v3, hv3⟩ : ∃ v, v2 + 16777216 * y3 = v := ⟨_, rfl⟩
  have f3 : bits .or .u64 (v2 : Int) ((y3 : Int) * 16777216) = ((v2 + 16777216 * y3 : Nat) : Int) := or_hi v2 y3 24 16777216 (by decide) (by omega) (by omega) (by decide)
  rw [hv3] at f3
  obtain ⟨v4, hv4⟩ : ∃ v, v3 + 4294967296 * y4 = v := ⟨_, rfl⟩
  have f4 : bits .or .u64 (v3 : Int) ((y4 : Int) * 4294967296) = ((v3 + 4294967296 * y4 : Nat) : Int) := or_hi v3 y4 32 4294967296 (by decide) (by omega) (by omega) (by decide)
  rw [hv4] at f4
  obtain ⟨v5, hv5⟩ : ∃ v, v4 + 1099511627776 * y5 = v := ⟨_, rfl⟩
  have f5 : bits .or .u64 (v4 : Int) ((y5 : Int) * 1099511627776) = ((v4 + 1099511627776 * y5 : Nat) : Int) := or_hi v4 y5 40 1099511627776 (by decide) (by omega) (by omega) (by decide)
  rw [hv5] at f5
  obtain ⟨v6, hv6⟩ : ∃ v, v5 + 281474976710656 * y6 = v := ⟨_, rfl⟩
  have f6 : bits .or .u64 (v5 : Int) ((y6 : Int) * 281474976710656) = ((v5 + 281474976710656 * y6 : Nat) : Int) := or_hi v5 y6 48 281474976710656 (by decide) (by omega) (by omega) (by decide)
  rw [hv6] at f6
  obtain ⟨v7, hv7⟩ : ∃ v, v6 + 72057594037927936 * y7 = v := ⟨_, rfl⟩
  have f7 : bits .or .u64 (v6 : Int) ((y7 : Int) * 72057594037927936) = ((v6 + 72057594037927936 * y7 : Nat) : Int) := or_hi v6 y7 56 72057594037927936 (by decide) (by omega) (by omega) (by decide)
  rw [hv7] at f7
  have hval : y0 + 256 * y1 + 65536 * y2 + 16777216 * y3 + 4294967296 * y4 + 1099511627776 * y5 + 281474976710656 * y6 + 72057594037927936 * y7 = v7 := by omega
  rw [hval]
  clear hval hv1 hv2 hv3 hv4 hv5 hv6 hv7
  go_enter Try.func98, Try.ntmps98
  go_wp2
  refine region_cl (N := w.heap.size) (W := w) (by kernel_rfl) (by kernel_rfl) (Below.refl _ _) ?_
  repeat (go_big_quiet_step (fail))
  refine wpQuiet_nil ?_
  rintro _ ⟨x, rfl⟩
  have hx := x.h
  go_wp2
  go_ret
  exact ⟨rfl, hx⟩
end Fd
end Go.Proofs.Ytgdekigdbbldoaa

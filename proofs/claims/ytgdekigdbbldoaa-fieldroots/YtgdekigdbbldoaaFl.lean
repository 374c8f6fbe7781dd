/- What the constants and even do: contracts, by walking their texts. -/
import Derived.Test.YtgdekigdbbldoaaFk
namespace Go.Proofs.Ytgdekigdbbldoaa
open Go.RowKit
namespace Fd
open Rg

def inverseExponent : Nat := 57896044618658097711785492504343953926634992332820282019728792003956564819947
theorem nv_inverseExponent : nv inverseExponent = .agg #[.int .u64 18446744073709551595, .int .u64 18446744073709551615, .int .u64 18446744073709551615, .int .u64 9223372036854775807] := by
  have h := nv_mk 18446744073709551595 18446744073709551615 18446744073709551615 9223372036854775807 (by decide) (by decide) (by decide) (by decide)
  have e : mk 18446744073709551595 18446744073709551615 18446744073709551615 9223372036854775807 = inverseExponent := by decide +kernel
  rw [e] at h
  exact h
theorem inverseExponent_any (w : World) : Calls Try.prog 67 #[] w fun e w' => e = .returned (nv inverseExponent) ∧ Below w.heap.size w w' := by
  rw [nv_inverseExponent]
  obtain ⟨n, hn⟩ : ∃ n, w.heap.size = n := ⟨_, rfl⟩
  go_enter Try.func67, Try.ntmps67
  go_wp2
  rw [hn]
  exact bodyPost_ret (results_cell Try.results67 rfl (load_at hn [.int .u64 18446744073709551595, .int .u64 18446744073709551615, .int .u64 18446744073709551615, .int .u64 9223372036854775807] rfl)) rfl ⟨rfl, (Below.refl _ _).alloc (by omega) _⟩
def rootExponent : Nat := 7237005577332262213973186563042994240829374041602535252466099000494570602494
theorem nv_rootExponent : nv rootExponent = .agg #[.int .u64 18446744073709551614, .int .u64 18446744073709551615, .int .u64 18446744073709551615, .int .u64 1152921504606846975] := by
  have h := nv_mk 18446744073709551614 18446744073709551615 18446744073709551615 1152921504606846975 (by decide) (by decide) (by decide) (by decide)
  have e : mk 18446744073709551614 18446744073709551615 18446744073709551615 1152921504606846975 = rootExponent := by decide +kernel
  rw [e] at h
  exact h
theorem rootExponent_any (w : World) : Calls Try.prog 70 #[] w fun e w' => e = .returned (nv rootExponent) ∧ Below w.heap.size w w' := by
  rw [nv_rootExponent]
  obtain ⟨n, hn⟩ : ∃ n, w.heap.size = n := ⟨_, rfl⟩
  go_enter Try.func70, Try.ntmps70
  go_wp2
  rw [hn]
  exact bodyPost_ret (results_cell Try.results70 rfl (load_at hn [.int .u64 18446744073709551614, .int .u64 18446744073709551615, .int .u64 18446744073709551615, .int .u64 1152921504606846975] rfl)) rfl ⟨rfl, (Below.refl _ _).alloc (by omega) _⟩
def rootOfMinusOne : Nat := 19681161376707505956807079304988542015446066515923890162744021073123829784752
theorem nv_rootOfMinusOne : nv rootOfMinusOne = .agg #[.int .u64 14190309331451158704, .int .u64 3405592160176694392, .int .u64 3120150775007532967, .int .u64 3135389899092516619] := by
  have h := nv_mk 14190309331451158704 3405592160176694392 3120150775007532967 3135389899092516619 (by decide) (by decide) (by decide) (by decide)
  have e : mk 14190309331451158704 3405592160176694392 3120150775007532967 3135389899092516619 = rootOfMinusOne := by decide +kernel
  rw [e] at h
  exact h
theorem rootOfMinusOne_any (w : World) : Calls Try.prog 71 #[] w fun e w' => e = .returned (nv rootOfMinusOne) ∧ Below w.heap.size w w' := by
  rw [nv_rootOfMinusOne]
  obtain ⟨n, hn⟩ : ∃ n, w.heap.size = n := ⟨_, rfl⟩
  go_enter Try.func71, Try.ntmps71
  go_wp2
  rw [hn]
  exact bodyPost_ret (results_cell Try.results71 rfl (load_at hn [.int .u64 14190309331451158704, .int .u64 3405592160176694392, .int .u64 3120150775007532967, .int .u64 3135389899092516619] rfl)) rfl ⟨rfl, (Below.refl _ _).alloc (by omega) _⟩
theorem inverseExponent_eq : inverseExponent = p - 2 := by decide +kernel
theorem rootExponent_eq : rootExponent = (p + 3) / 8 := by decide +kernel
/-- The even one of a number and its negative. -/
def evn (a : Nat) : Nat := if a % 2 = 1 then (0 + p - a) % p else a
theorem nv_0 : nv 0 = .agg (w4 0 0 0 0).toArray := rfl

set_option maxHeartbeats 4000000 in
set_option maxRecDepth 4000 in
theorem even_any (a : Nat) (w : World) (ha : a < p) : Calls Try.prog 72 #[nv a] w fun e w' => e = .returned (nv (evn a)) ∧ Below w.heap.size w w' := by
  have cd := fun W => difference_any 0 a W (by decide) ha
  have hl := (l_lt a).1
  have x1 := and1 (l0 a) hl
  have hpar : l0 a % 2 = a % 2 := by unfold l0; omega
  rw [hpar] at x1
  have hS0 := Rd.start w (l0 a) (l1 a) (l2 a) (l3 a)
  obtain ⟨n, hn⟩ : ∃ n, w.heap.size = n := ⟨_, rfl⟩
  rw [hn] at hS0
  by_cases hodd : a % 2 = 1
  · have e1 : evn a = (0 + p - a) % p := by unfold evn; rw [if_pos hodd]
    rw [e1]
    obtain ⟨r, hr⟩ : ∃ r, (0 + p - a) % p = r := ⟨_, rfl⟩
    rw [hr] at cd ⊢
    obtain ⟨r0, r1, r2, r3, er⟩ := nv_w r
    rw [er, nv_0, nv_w4 a] at cd
    rw [er, nv_w4 a]
    rw [hodd] at x1
    have z1 : ((1 : Nat) : Int) = 1 := rfl
    rw [z1] at x1
    obtain ⟨a0, ha0⟩ : ∃ x, l0 a = x := ⟨_, rfl⟩
    obtain ⟨a1, ha1⟩ : ∃ x, l1 a = x := ⟨_, rfl⟩
    obtain ⟨a2, ha2⟩ : ∃ x, l2 a = x := ⟨_, rfl⟩
    obtain ⟨a3, ha3⟩ : ∃ x, l3 a = x := ⟨_, rfl⟩
    rw [ha0, ha1, ha2, ha3] at cd hS0 ⊢
    rw [ha0] at x1
    have HS0 : Hid (Rd w _ n (w4 a0 a1 a2 a3)) := hS0
    clear hS0 z1 er hr e1 hodd hpar hl ha ha0 ha1 ha2 ha3
    unfold w4 at cd HS0 ⊢
    go_enter Try.func72, Try.ntmps72
    go_wp2_with (first
      | (go_at_call 64; refine (cd _).mono ?_; rintro e w1 ⟨rfl, hb1⟩; have HS1 := (show Hid (Rd w w1 n (w4 a0 a1 a2 a3)) from HS0.out.below hb1); clear hb1 cd HS0)
      | (refine wpList_store_mid rfl 74 (.tmp 2) (.tmp 9) rfl (n + 1) 0 (w4 r0 r1 r2 r3).toArray rfl rfl HS1.out.u info4 (one4 _ _ _ _) ?_; simp only))
    rw [hn]
    exact bodyPost_ret (results_cell Try.results72 rfl (HS1.out.end_ (w4 r0 r1 r2 r3) rfl).1) rfl ⟨rfl, (HS1.out.end_ (w4 r0 r1 r2 r3) rfl).2⟩
  · have e1 : evn a = a := by unfold evn; rw [if_neg hodd]
    rw [e1, nv_w4 a]
    have h0 : a % 2 = 0 := by omega
    rw [h0] at x1
    have z1 : ((0 : Nat) : Int) = 0 := rfl
    rw [z1] at x1
    obtain ⟨a0, ha0⟩ : ∃ x, l0 a = x := ⟨_, rfl⟩
    obtain ⟨a1, ha1⟩ : ∃ x, l1 a = x := ⟨_, rfl⟩
    obtain ⟨a2, ha2⟩ : ∃ x, l2 a = x := ⟨_, rfl⟩
    obtain ⟨a3, ha3⟩ : ∃ x, l3 a = x := ⟨_, rfl⟩
    rw [ha0, ha1, ha2, ha3] at hS0 ⊢
    rw [ha0] at x1
    clear z1 e1 hodd hpar hl ha ha0 ha1 ha2 ha3 cd h0
    have HS0 : Hid (Rd w _ n (w4 a0 a1 a2 a3)) := hS0
    clear hS0
    unfold w4 at HS0 ⊢
    go_enter Try.func72, Try.ntmps72
    go_wp2_with (refine wpList_store_mid rfl 74 (.tmp 2) (.tmp 10) rfl (n + 1) 0 (w4 a0 a1 a2 a3).toArray rfl rfl HS0.out.u info4 (one4 _ _ _ _) ?_; simp only)
    rw [hn]
    exact bodyPost_ret (results_cell Try.results72 rfl (HS0.out.end_ (w4 a0 a1 a2 a3) rfl).1) rfl ⟨rfl, (HS0.out.end_ (w4 a0 a1 a2 a3) rfl).2⟩
end Fd
end Go.Proofs.Ytgdekigdbbldoaa

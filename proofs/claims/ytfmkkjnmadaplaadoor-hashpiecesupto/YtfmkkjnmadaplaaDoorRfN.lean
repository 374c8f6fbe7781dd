/- What the reference's rot, small and great do at words of 32 bits: contracts, by walking their text. -/
import Derived.Test.YtfmkkjnmadaplaaDoorHv
import Derived.Test.YtfmkkjnmadaplaaDoorRgt
namespace Go.Proofs.YtfmkkjnmadaplaaDoor
open Go.RowKit
namespace RN
open Hs Rg Bu

/-- A kind, as the reference has it: its lists lie in these blocks. -/
structure Kb where
  s0 : Nat
  s1 : Nat
  g0 : Nat
  g1 : Nat
  k : Nat
  bg : Nat
def kvc (B : Kb) : List Value := [.int .i64 32, .slice (some ⟨B.s0, 0, none⟩) 3 3, .slice (some ⟨B.s1, 0, none⟩) 3 3, .slice (some ⟨B.g0, 0, none⟩) 3 3, .slice (some ⟨B.g1, 0, none⟩) 3 3, .int .u64 4294967295, .slice (some ⟨B.k, 0, none⟩) 64 64, .slice (some ⟨B.bg, 0, none⟩) 8 8]
def kv (B : Kb) : Value := .agg #[.int .i64 32, .slice (some ⟨B.s0, 0, none⟩) 3 3, .slice (some ⟨B.s1, 0, none⟩) 3 3, .slice (some ⟨B.g0, 0, none⟩) 3 3, .slice (some ⟨B.g1, 0, none⟩) 3 3, .int .u64 4294967295, .slice (some ⟨B.k, 0, none⟩) 64 64, .slice (some ⟨B.bg, 0, none⟩) 8 8]
theorem info54 : (Tryd.prog.info? 54).map (·.size) = some 8 := by kernel_rfl
def ic3 (a b c : Nat) : List Value := [.int .i64 (a : Int), .int .i64 (b : Int), .int .i64 (c : Int)]

set_option maxHeartbeats 2000000 in
theorem rot_any (B : Kb) (x n : Nat) (w : World) (hn : n ≤ 32) (hx : x < 4294967296) : Calls Tryd.prog 49 #[kv B, .int .u64 (x : Int), .int .i64 (n : Int)] w fun e w' => e = .returned (.int .u64 ((rot 32 x n : Nat) : Int)) ∧ Below w.heap.size w w' := by
  have hR : (x / 2 ^ n ||| x * 2 ^ (32 - n) % 2 ^ 64) &&& (2 ^ 32 - 1) = rot 32 x n := rot_mask x n 32 (by decide) hx
  have e0 : 2 ^ 32 - 1 = 4294967295 := by decide
  rw [e0] at hR
  clear e0
  obtain ⟨m, hm⟩ : ∃ m, 32 - n = m := ⟨_, rfl⟩
  have hmi : (32 : Int) - (n : Int) = (m : Int) := by omega
  have h1 : (x : Int) / 2 ^ n = ((x / 2 ^ n : Nat) : Int) := by simp
  have h2 : IntKind.u64.wrap ((x : Int) * 2 ^ m) = ((x * 2 ^ m % 2 ^ 64 : Nat) : Int) := by rw [IntKind.wrap_u64]; simp
  have h3 : x / 2 ^ n < 18446744073709551616 := Nat.lt_of_le_of_lt (Nat.div_le_self _ _) (by omega)
  have h4 : x * 2 ^ m % 2 ^ 64 < 18446744073709551616 := Nat.mod_lt _ (Nat.two_pow_pos 64)
  rw [hm] at hR
  obtain ⟨A, hA⟩ : ∃ A, x / 2 ^ n = A := ⟨_, rfl⟩
  obtain ⟨D, hD⟩ : ∃ D, x * 2 ^ m % 2 ^ 64 = D := ⟨_, rfl⟩
  rw [hA] at h1 h3 hR
  rw [hD] at h2 h4 hR
  have h5 : bits .or .u64 (A : Int) (D : Int) = ((A ||| D : Nat) : Int) := u64_or_nat _ _ h3 h4
  have h6 : A ||| D < 18446744073709551616 := Nat.or_lt_two_pow (n := 64) h3 h4
  obtain ⟨E, hE⟩ : ∃ E, A ||| D = E := ⟨_, rfl⟩
  rw [hE] at h5 h6 hR
  have h7 : bits .and .u64 (E : Int) 4294967295 = ((rot 32 x n : Nat) : Int) := by
    rw [← hR]
    exact u64_and_nat E 4294967295 h6 (by decide)
  obtain ⟨R, hRR⟩ : ∃ R, rot 32 x n = R := ⟨_, rfl⟩
  rw [hRR] at h7 ⊢
  obtain ⟨N, hN⟩ : ∃ N, w.heap.size + 1 = N := ⟨_, rfl⟩
  obtain ⟨V, hV⟩ : ∃ V, w.alloc (.cells (kvc B).toArray 54) = V := ⟨_, rfl⟩
  have hbV : Below w.heap.size w V := by rw [← hV]; exact (Below.refl _ _).alloc (Nat.le_refl _) _
  have q0 : ∀ x : Cl N V, x.u.cell? ⟨w.heap.size, 0, none⟩ = some (.int .i64 32) := fun x => x.cell (by rw [← hV]; exact cell_new _ _ _ rfl) (by omega)
  have q5 : ∀ x : Cl N V, x.u.cell? ⟨w.heap.size, 5, none⟩ = some (.int .u64 4294967295) := fun x => x.cell (by rw [← hV]; exact cell_new _ _ _ rfl) (by omega)
  have hne := Cl.ne N V
  have hx64 : (x : Int) < 18446744073709551616 := by omega
  clear hA hD hE hRR hm hR
  unfold kv
  unfold kvc at hV
  go_enter Tryd.func49, Tryd.ntmps49
  go_wp2
  clear hV
  refine region_cl (N := N) (W := V) (by kernel_rfl) (by kernel_rfl) (Below.refl _ _) ?_
  repeat (go_big_quiet_step (fail))
  refine wpQuiet_nil ?_
  rintro _ ⟨x, rfl⟩
  have hx := x.h
  go_wp2
  go_ret
  exact ⟨rfl, hbV.trans (hx.mono (by omega))⟩
/-- The kind's box, as a class of worlds has it. -/
theorem box_at {w V : World} {N : Nat} (B : Kb) (hV : w.alloc (.cells (kvc B).toArray 54) = V) (hN : w.heap.size + 1 = N) : ∀ w', (∃ x : Cl N V, w' = x.u) → w'.rangeAt w.heap.size 0 (kvc B) := by
  rintro _ ⟨x, rfl⟩
  exact x.range (by rw [← hV]; exact range_new w _ 54) (by omega)
theorem three_at {w V : World} {N b a0 b0 c0 : Nat} (o : Obj) (hV : w.alloc o = V) (hN : w.heap.size + 1 = N) (hc : w.rangeAt b 0 (ic3 a0 b0 c0)) : (∀ x : Cl N V, x.u.cell? ⟨b, 0, none⟩ = some (.int .i64 (a0 : Int))) ∧ (∀ x : Cl N V, x.u.cell? ⟨b, 1, none⟩ = some (.int .i64 (b0 : Int))) ∧ (∀ x : Cl N V, x.u.cell? ⟨b, 2, none⟩ = some (.int .i64 (c0 : Int))) := by
  have hb : b < w.heap.size := Bw.cell_lt (hc 0 _ rfl)
  have h0 : w.cell? ⟨b, 0, none⟩ = some (.int .i64 (a0 : Int)) := hc 0 _ rfl
  have h1 : w.cell? ⟨b, 1, none⟩ = some (.int .i64 (b0 : Int)) := hc 1 _ rfl
  have h2 : w.cell? ⟨b, 2, none⟩ = some (.int .i64 (c0 : Int)) := hc 2 _ rfl
  refine ⟨fun x => x.cell (by rw [← hV]; exact cell_old _ h0) (by omega), fun x => x.cell (by rw [← hV]; exact cell_old _ h1) (by omega), fun x => x.cell (by rw [← hV]; exact cell_old _ h2) (by omega)⟩

set_option maxHeartbeats 2000000 in
theorem great_any (B : Kb) (x b0 b1 b2 p : Nat) (w : World) (h0 : b0 ≤ 32) (h1 : b1 ≤ 32) (h2 : b2 ≤ 32) (hx : x < 4294967296) (hc : w.rangeAt p 0 (ic3 b0 b1 b2)) :
    Calls Tryd.prog 44 #[kv B, .int .u64 (x : Int), .slice (some ⟨p, 0, none⟩) 3 3] w fun e w' => e = .returned (.int .u64 ((gr 32 x (b0, b1, b2) : Nat) : Int)) ∧ Below w.heap.size w w' := by
  have ca := fun W => rot_any B x b0 W h0 hx
  have cb := fun W => rot_any B x b1 W h1 hx
  have cc := fun W => rot_any B x b2 W h2 hx
  have la : rot 32 x b0 < 18446744073709551616 := Nat.lt_of_lt_of_le (rot_lt (W := 32) hx) (by decide)
  have lb : rot 32 x b1 < 18446744073709551616 := Nat.lt_of_lt_of_le (rot_lt (W := 32) hx) (by decide)
  have lc : rot 32 x b2 < 18446744073709551616 := Nat.lt_of_lt_of_le (rot_lt (W := 32) hx) (by decide)
  have e0 : gr 32 x (b0, b1, b2) = rot 32 x b0 ^^^ rot 32 x b1 ^^^ rot 32 x b2 := rfl
  rw [e0]
  obtain ⟨A, hA⟩ : ∃ A, rot 32 x b0 = A := ⟨_, rfl⟩
  obtain ⟨D, hD⟩ : ∃ D, rot 32 x b1 = D := ⟨_, rfl⟩
  obtain ⟨E, hE⟩ : ∃ E, rot 32 x b2 = E := ⟨_, rfl⟩
  rw [hA] at la ca
  rw [hD] at lb cb
  rw [hE] at lc cc
  rw [hA, hD, hE]
  have m1 : bits .xor .u64 (A : Int) (D : Int) = ((A ^^^ D : Nat) : Int) := u64_xor_nat _ _ la lb
  have l1 : A ^^^ D < 18446744073709551616 := Nat.xor_lt_two_pow (n := 64) la lb
  have m2 : bits .xor .u64 ((A ^^^ D : Nat) : Int) (E : Int) = ((A ^^^ D ^^^ E : Nat) : Int) := u64_xor_nat _ _ l1 lc
  obtain ⟨F, hF⟩ : ∃ F, A ^^^ D = F := ⟨_, rfl⟩
  obtain ⟨G, hG⟩ : ∃ G, F ^^^ E = G := ⟨_, rfl⟩
  rw [hF] at m1 m2 l1
  rw [hG] at m2
  rw [hF, hG]
  clear hA hD hE hF hG e0
  obtain ⟨N, hN⟩ : ∃ N, w.heap.size + 1 = N := ⟨_, rfl⟩
  obtain ⟨V, hV⟩ : ∃ V, w.alloc (.cells (kvc B).toArray 54) = V := ⟨_, rfl⟩
  have hNV : N ≤ V.heap.size := by rw [← hV, ← hN]; simp
  have hbV : Below w.heap.size w V := by rw [← hV]; exact (Below.refl _ _).alloc (Nat.le_refl _) _
  obtain ⟨q0, q1, q2⟩ := three_at _ hV hN hc
  have HS : Hid (∀ w', (∃ x : Cl N V, w' = x.u) → w'.rangeAt w.heap.size 0 (kvc B)) := box_at B hV hN
  have hne := Cl.ne N V
  unfold kv at *
  unfold kvc at hV
  clear hc
  go_enter Tryd.func44, Tryd.ntmps44
  go_wp2
  clear hV
  refine region_cl (N := N) (W := V) (by kernel_rfl) (by kernel_rfl) (Below.refl _ _) ?_
  repeat (first
    | (go_big_quiet_want; refine quiet_load 54 _ rfl w.heap.size 0 rfl (kvc B) _ HS.out Tryd.underlying54 rfl info54 ?_; simp only [kvc, Act.put, List.setIfInBounds_toArray, List.set_cons_zero, List.set_cons_succ]; go_big_quiet_on)
    | go_big_quiet_step (fail))
  go_big_quiet_step ((go_at_call 49; exact cl_of (ca _) hNV))
  repeat (first
    | (go_big_quiet_want; refine quiet_load 54 _ rfl w.heap.size 0 rfl (kvc B) _ HS.out Tryd.underlying54 rfl info54 ?_; simp only [kvc, Act.put, List.setIfInBounds_toArray, List.set_cons_zero, List.set_cons_succ]; go_big_quiet_on)
    | go_big_quiet_step (fail))
  go_big_quiet_step ((go_at_call 49; exact cl_of (cb _) hNV))
  repeat (first
    | (go_big_quiet_want; refine quiet_load 54 _ rfl w.heap.size 0 rfl (kvc B) _ HS.out Tryd.underlying54 rfl info54 ?_; simp only [kvc, Act.put, List.setIfInBounds_toArray, List.set_cons_zero, List.set_cons_succ]; go_big_quiet_on)
    | go_big_quiet_step (fail))
  go_big_quiet_step ((go_at_call 49; exact cl_of (cc _) hNV))
  repeat (go_big_quiet_step (fail))
  refine wpQuiet_nil ?_
  rintro _ ⟨x, rfl⟩
  have hx := x.h
  go_wp2
  go_ret
  exact ⟨rfl, hbV.trans (hx.mono (by omega))⟩
set_option maxHeartbeats 2000000 in
theorem small_any (B : Kb) (x b0 b1 b2 p : Nat) (w : World) (h0 : b0 ≤ 32) (h1 : b1 ≤ 32) (h2 : b2 ≤ 32) (hx : x < 4294967296) (hc : w.rangeAt p 0 (ic3 b0 b1 b2)) :
    Calls Tryd.prog 43 #[kv B, .int .u64 (x : Int), .slice (some ⟨p, 0, none⟩) 3 3] w fun e w' => e = .returned (.int .u64 ((sm 32 x (b0, b1, b2) : Nat) : Int)) ∧ Below w.heap.size w w' := by
  have ca := fun W => rot_any B x b0 W h0 hx
  have cb := fun W => rot_any B x b1 W h1 hx
  have la : rot 32 x b0 < 18446744073709551616 := Nat.lt_of_lt_of_le (rot_lt (W := 32) hx) (by decide)
  have lb : rot 32 x b1 < 18446744073709551616 := Nat.lt_of_lt_of_le (rot_lt (W := 32) hx) (by decide)
  have lc : x / 2 ^ b2 < 18446744073709551616 := Nat.lt_of_le_of_lt (Nat.div_le_self _ _) (by omega)
  have e0 : sm 32 x (b0, b1, b2) = rot 32 x b0 ^^^ rot 32 x b1 ^^^ x / 2 ^ b2 := rfl
  have e1 : (x : Int) / 2 ^ b2 = ((x / 2 ^ b2 : Nat) : Int) := by simp
  rw [e0]
  obtain ⟨A, hA⟩ : ∃ A, rot 32 x b0 = A := ⟨_, rfl⟩
  obtain ⟨D, hD⟩ : ∃ D, rot 32 x b1 = D := ⟨_, rfl⟩
  obtain ⟨E, hE⟩ : ∃ E, x / 2 ^ b2 = E := ⟨_, rfl⟩
  rw [hA] at la ca
  rw [hD] at lb cb
  rw [hE] at lc e1
  rw [hA, hD, hE]
  have m1 : bits .xor .u64 (A : Int) (D : Int) = ((A ^^^ D : Nat) : Int) := u64_xor_nat _ _ la lb
  have l1 : A ^^^ D < 18446744073709551616 := Nat.xor_lt_two_pow (n := 64) la lb
  have m2 : bits .xor .u64 ((A ^^^ D : Nat) : Int) (E : Int) = ((A ^^^ D ^^^ E : Nat) : Int) := u64_xor_nat _ _ l1 lc
  obtain ⟨F, hF⟩ : ∃ F, A ^^^ D = F := ⟨_, rfl⟩
  obtain ⟨G, hG⟩ : ∃ G, F ^^^ E = G := ⟨_, rfl⟩
  rw [hF] at m1 m2 l1
  rw [hG] at m2
  rw [hF, hG]
  clear hA hD hE hF hG e0
  obtain ⟨N, hN⟩ : ∃ N, w.heap.size + 1 = N := ⟨_, rfl⟩
  obtain ⟨V, hV⟩ : ∃ V, w.alloc (.cells (kvc B).toArray 54) = V := ⟨_, rfl⟩
  have hNV : N ≤ V.heap.size := by rw [← hV, ← hN]; simp
  have hbV : Below w.heap.size w V := by rw [← hV]; exact (Below.refl _ _).alloc (Nat.le_refl _) _
  obtain ⟨q0, q1, q2⟩ := three_at _ hV hN hc
  have HS : Hid (∀ w', (∃ x : Cl N V, w' = x.u) → w'.rangeAt w.heap.size 0 (kvc B)) := box_at B hV hN
  have hne := Cl.ne N V
  unfold kv at *
  unfold kvc at hV
  clear hc
  go_enter Tryd.func43, Tryd.ntmps43
  go_wp2
  clear hV
  refine region_cl (N := N) (W := V) (by kernel_rfl) (by kernel_rfl) (Below.refl _ _) ?_
  repeat (first
    | (go_big_quiet_want; refine quiet_load 54 _ rfl w.heap.size 0 rfl (kvc B) _ HS.out Tryd.underlying54 rfl info54 ?_; simp only [kvc, Act.put, List.setIfInBounds_toArray, List.set_cons_zero, List.set_cons_succ]; go_big_quiet_on)
    | go_big_quiet_step (fail))
  go_big_quiet_step ((go_at_call 49; exact cl_of (ca _) hNV))
  repeat (first
    | (go_big_quiet_want; refine quiet_load 54 _ rfl w.heap.size 0 rfl (kvc B) _ HS.out Tryd.underlying54 rfl info54 ?_; simp only [kvc, Act.put, List.setIfInBounds_toArray, List.set_cons_zero, List.set_cons_succ]; go_big_quiet_on)
    | go_big_quiet_step (fail))
  go_big_quiet_step ((go_at_call 49; exact cl_of (cb _) hNV))
  repeat (go_big_quiet_step (fail))
  refine wpQuiet_nil ?_
  rintro _ ⟨x, rfl⟩
  have hx := x.h
  go_wp2
  go_ret
  exact ⟨rfl, hbV.trans (hx.mono (by omega))⟩
end RN
end Go.Proofs.YtfmkkjnmadaplaaDoor

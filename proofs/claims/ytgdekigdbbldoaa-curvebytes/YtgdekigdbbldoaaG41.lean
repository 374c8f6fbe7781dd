/- The reference's MulAdd: a contract, by walking its text. The reference's Decode: a contract, by walking its text. -/
import Derived.Test.YtgdekigdbbldoaaG40
import Derived.Deep.RegionHeld
namespace Go.Proofs.Ytgdekigdbbldoaa
open Go.RowKit
namespace Dt
open Rg Go.Proofs.Ytgdekigdbbldoaa.Fd

theorem of32 (x b : Nat) (W : World) (hx : x < 115792089237316195423570985008687907853269984665640564039457584007913129639936) (hr : Rp W b 0 (bvc x)) : Calls Try.prog 52 #[.slice (some ⟨b, 0, none⟩) 32 32] W fun e w' => ∃ v, e = .returned v ∧ Num w' v x ∧ Below W.heap.size W w' := by
  have hv : ofB (bl x 32) = x := by rw [ofB_bl, b256, Nat.mod_eq_of_lt (by rw [← two256]; exact hx)]
  have h := of_any (some ⟨b, 0, none⟩) (bl x 32) 32 W (.inr ⟨_, _, rfl, hr.2, by rw [← bvc_bc]; exact hr.1⟩) (bl_lt x 32) (by rw [bl_len]; decide)
  rwa [hv, bl_len] at h
theorem mul_64 {x y z : Nat} (hx : x < 115792089237316195423570985008687907853269984665640564039457584007913129639936) (hy : y < 115792089237316195423570985008687907853269984665640564039457584007913129639936) (hz : z < 115792089237316195423570985008687907853269984665640564039457584007913129639936) : x * y + z < 16777216 ^ 64 := by
  have h := Nat.mul_le_mul (Nat.le_of_lt hx) (Nat.le_of_lt hy)
  have h2 : 115792089237316195423570985008687907853269984665640564039457584007913129639936 * 115792089237316195423570985008687907853269984665640564039457584007913129639936 + 115792089237316195423570985008687907853269984665640564039457584007913129639936 < 16777216 ^ 64 := by decide +kernel
  omega
set_option maxHeartbeats 1000000 in
set_option maxRecDepth 4000 in
theorem rmulAdd_any (x y z : Nat) (w : World) (hx : x < 115792089237316195423570985008687907853269984665640564039457584007913129639936) (hy : y < 115792089237316195423570985008687907853269984665640564039457584007913129639936) (hz : z < 115792089237316195423570985008687907853269984665640564039457584007913129639936) :
    Calls Try.prog 54 #[bv x, bv y, bv z] w fun e w' => e = .returned (bv ((x * y + z) % ell)) ∧ Below w.heap.size w w' := by
  obtain ⟨n, hn⟩ : ∃ n, w.heap.size = n := ⟨_, rfl⟩
  have CX : Hid (∀ W : World, Rp W n 0 (bvc x) → Calls Try.prog 52 #[.slice (some ⟨n, 0, none⟩) 32 32] W fun e w' => ∃ v, e = .returned v ∧ Num w' v x ∧ Below W.heap.size W w') := fun W h => of32 x n W hx h
  have CY : Hid (∀ W : World, Rp W (n + 1) 0 (bvc y) → Calls Try.prog 52 #[.slice (some ⟨n + 1, 0, none⟩) 32 32] W fun e w' => ∃ v, e = .returned v ∧ Num w' v y ∧ Below W.heap.size W w') := fun W h => of32 y (n + 1) W hy h
  have CZ : Hid (∀ W : World, Rp W (n + 2) 0 (bvc z) → Calls Try.prog 52 #[.slice (some ⟨n + 2, 0, none⟩) 32 32] W fun e w' => ∃ v, e = .returned v ∧ Num w' v z ∧ Below W.heap.size W w') := fun W h => of32 z (n + 2) W hz h
  have hxy := mul_64 hx hy hz
  have CM : Hid (∀ (W : World) (u v : Value), Num W u x → Num W v y → Calls Try.prog 93 #[u, v] W fun e w' => ∃ v, e = .returned v ∧ Num w' v (x * y) ∧ Below W.heap.size W w') := fun W u v h1 h2 => product_num h1 h2 (pow64 hx) (pow64 hy)
  have CP : Hid (∀ (W : World) (u v : Value), Num W u (x * y) → Num W v z → Calls Try.prog 73 #[u, v] W fun e w' => ∃ v, e = .returned v ∧ Num w' v (x * y + z) ∧ Below W.heap.size W w') := fun W u v h1 h2 => plus_num h1 h2 (by omega) (pow64 hz)
  have CR : Hid (∀ (W : World) (u : Value), Num W u (x * y + z) → Calls Try.prog 55 #[u] W fun e w' => ∃ v, e = .returned v ∧ Num w' v ((x * y + z) % ell) ∧ Below W.heap.size W w') := fun W u h1 => rest_num h1 hxy
  obtain ⟨m, hm⟩ : ∃ m, x * y = m := ⟨_, rfl⟩
  rw [hm] at CM CP CR ⊢
  obtain ⟨s, hs⟩ : ∃ s, m + z = s := ⟨_, rfl⟩
  rw [hs] at CP CR ⊢
  obtain ⟨r, hr⟩ : ∃ r, s % ell = r := ⟨_, rfl⟩
  rw [hr] at CR ⊢
  have CB : Hid (∀ (W : World) (u : Value), Num W u r → Calls Try.prog 16 #[u] W fun e w' => e = .returned (.agg (bvc r).toArray) ∧ Below W.heap.size W w') := fun W u h => bytes_num h
  unfold bv
  have LR : Hid (L32 (bvc r)) := l32 r
  have HS0 := (show Hid _ from start3 w (bvc x) (bvc y) (bvc z))
  obtain ⟨X, hX⟩ : ∃ R, bvc x = R := ⟨_, rfl⟩
  obtain ⟨Y, hY⟩ : ∃ R, bvc y = R := ⟨_, rfl⟩
  obtain ⟨Z, hZ⟩ : ∃ R, bvc z = R := ⟨_, rfl⟩
  obtain ⟨R, hR⟩ : ∃ R, bvc r = R := ⟨_, rfl⟩
  rw [hX] at CX HS0 ⊢
  rw [hY] at CY HS0 ⊢
  rw [hZ] at CZ HS0 ⊢
  rw [hR] at CB LR ⊢
  clear hX hY hZ hR hr hs hm hxy hx hy hz
  have hz22 := zero22
  obtain ⟨Z2, hZ2⟩ : ∃ Z, z22 = Z := ⟨_, rfl⟩
  rw [hZ2] at hz22 HS0
  clear hZ2
  have HN : Hid (w.heap.size = n) := hn
  obtain ⟨we, hwe⟩ : ∃ v, (((w.alloc (.cells X.toArray 22)).alloc (.cells Y.toArray 22)).alloc (.cells Z.toArray 22)).alloc (.cells Z2 22) = v := ⟨_, rfl⟩
  have HS1 : Hid (Rp we n 0 X ∧ Rp we (n + 1) 0 Y ∧ Rp we (n + 2) 0 Z ∧ Ao w.heap.size we (n + 3) 32 ∧ Below w.heap.size w we) := by
    have h := HS0.out
    rw [hwe, HN.out] at h
    show _ ∧ _
    rw [HN.out]
    exact h
  clear HS0
  have HX : Hid (Rp we n 0 X) := HS1.out.1
  have HY : Hid (Rp we (n + 1) 0 Y) := HS1.out.2.1
  have HZ : Hid (Rp we (n + 2) 0 Z) := HS1.out.2.2.1
  have HA : Hid (Ao w.heap.size we (n + 3) 32) := HS1.out.2.2.2.1
  have HBE : Hid (Below w.heap.size w we) := HS1.out.2.2.2.2
  clear HS1
  go_enter Try.func54, Try.ntmps54
  go_wp2
  clear hwe
  refine wp_region_held_drew (S := fun w' => Below we.heap.size we w') (by kernel_rfl) (drewB we) (fun hS => ?_)
  refine wpAnyH_take (i := 0) (v := .slice (some ⟨n, 0, none⟩) 32 32) rfl (by kernel_rfl) (by kernel_rfl) (by kernel_rfl) (fun _ _ _ h => h) (Or.inl ⟨by kernel_rfl, fun wq hS => by go_simp⟩) hS ?_
  try simp only [Act.put, List.setIfInBounds_toArray, List.set_cons_zero, List.set_cons_succ, List.getElem_toArray, List.getElem_cons_zero]
  refine wpAnyH_take (i := 2) (v := .slice (some ⟨n + 1, 0, none⟩) 32 32) rfl (by kernel_rfl) (by kernel_rfl) (by kernel_rfl) (fun _ _ _ h => h) (Or.inl ⟨by kernel_rfl, fun wq hS => by go_simp⟩) hS ?_
  try simp only [Act.put, List.setIfInBounds_toArray, List.set_cons_zero, List.set_cons_succ, List.getElem_toArray, List.getElem_cons_succ, List.getElem_cons_zero]
  refine wpAnyH_ready (rs := [1]) (by kernel_rfl) (by simp) ?_
  refine AllReadyH.cons rfl (fun K hK => ?_) AllReadyH.nil
  go_simp
  refine (CX.out _ (HX.out.below hS)).mono ?_
  rintro e wh1 ⟨vx, rfl, hn1, hb⟩
  have NX_1 := (show Hid (Num wh1 vx x) from hn1)
  have hS2 : Below we.heap.size we wh1 := hS.trans (hb.mono hS.size)
  refine hK.out _ _ hS2 (fun hS => ?_)
  clear hK K hb hS2  hn1
  try simp only [Act.put, List.setIfInBounds_toArray, List.set_cons_zero, List.set_cons_succ, List.getElem_toArray, List.getElem_cons_succ, List.getElem_cons_zero]
  refine wpAnyH_ready (rs := [3]) (by kernel_rfl) (by simp) ?_
  refine AllReadyH.cons rfl (fun K hK => ?_) AllReadyH.nil
  go_simp
  refine (CY.out _ (HY.out.below hS)).mono ?_
  rintro e wh2 ⟨vy, rfl, hn1, hb⟩
  have NX_2 := (show Hid (Num wh2 vx x) from NX_1.out.below hb)
  have NY_2 := (show Hid (Num wh2 vy y) from hn1)
  have hS2 : Below we.heap.size we wh2 := hS.trans (hb.mono hS.size)
  refine hK.out _ _ hS2 (fun hS => ?_)
  clear hK K hb hS2 NX_1 hn1
  try simp only [Act.put, List.setIfInBounds_toArray, List.set_cons_zero, List.set_cons_succ, List.getElem_toArray, List.getElem_cons_succ, List.getElem_cons_zero]
  refine wpAnyH_ready (rs := [4]) (by kernel_rfl) (by simp) ?_
  refine AllReadyH.cons rfl (fun K hK => ?_) AllReadyH.nil
  go_simp
  refine (CM.out _ _ _ (NX_2.out) (NY_2.out)).mono ?_
  rintro e wh3 ⟨vm, rfl, hn1, hb⟩
  have NX_3 := (show Hid (Num wh3 vx x) from NX_2.out.below hb)
  have NY_3 := (show Hid (Num wh3 vy y) from NY_2.out.below hb)
  have NM_3 := (show Hid (Num wh3 vm m) from hn1)
  have hS2 : Below we.heap.size we wh3 := hS.trans (hb.mono hS.size)
  refine hK.out _ _ hS2 (fun hS => ?_)
  clear hK K hb hS2 NX_2 NY_2 hn1
  try simp only [Act.put, List.setIfInBounds_toArray, List.set_cons_zero, List.set_cons_succ, List.getElem_toArray, List.getElem_cons_succ, List.getElem_cons_zero]
  refine wpAnyH_ready (rs := [5]) (by kernel_rfl) (by simp) ?_
  refine AllReadyH.cons rfl (fun K hK => ?_) AllReadyH.nil
  go_simp
  refine hK.out _ _ hS (fun hS => ?_)
  clear hK K
  try simp only [Act.put, List.setIfInBounds_toArray, List.set_cons_zero, List.set_cons_succ, List.getElem_toArray, List.getElem_cons_succ, List.getElem_cons_zero]
  refine wpAnyH_done (by kernel_rfl) ?_ _
  have HBF := (show Hid _ from HBE.out.trans (hS.mono HBE.out.size))
  have HZ1 := (show Hid (Rp wh3 (n + 2) 0 Z) from HZ.out.below hS)
  have HA1 := (show Hid (Ao w.heap.size wh3 (n + 3) 32) from HA.out.below hS)
  have HM1 := (show Hid (Num wh3 vm m) from NM_3.out)
  clear HX HY HZ HA NX_3 NY_3 NM_3 hS HBE
  have HZ1_0 := HZ1
  have HA1_0 := HA1
  have HM1_0 := HM1
  have HB_0 := (show Hid (Below wh3.heap.size wh3 wh3) from Below.refl _ _)
  have TK_0 := (show Hid True from trivial)
  clear HZ1 HA1 HM1
  go_wp2_with (first
    | (have hq := TK_0; go_at_call 52; refine (CZ.out _ (HZ1_0.out)).mono ?_; rintro e w1 ⟨vz, rfl, hn, hb⟩; have HB_1 := (show Hid (Below wh3.heap.size wh3 w1) from HB_0.out.trans (hb.mono HB_0.out.size)); have HZ1_1 := (show Hid (Rp w1 (n + 2) 0 Z) from HZ1_0.out.below hb); have HA1_1 := (show Hid (Ao w.heap.size w1 (n + 3) 32) from HA1_0.out.below hb); have HM1_1 := (show Hid (Num w1 vm m) from HM1_0.out.below hb); have NZ_1 := (show Hid (Num w1 vz z) from hn); have TK_1 := (show Hid True from trivial); clear hq TK_0 hb HB_0 HZ1_0 HA1_0 HM1_0 hn)
    | (have hq := TK_1; go_at_call 73; refine (CP.out _ _ _ (HM1_1.out) (NZ_1.out)).mono ?_; rintro e w2 ⟨vs, rfl, hn, hb⟩; have HB_2 := (show Hid (Below wh3.heap.size wh3 w2) from HB_1.out.trans (hb.mono HB_1.out.size)); have HA1_2 := (show Hid (Ao w.heap.size w2 (n + 3) 32) from HA1_1.out.below hb); have NS_2 := (show Hid (Num w2 vs s) from hn); have TK_2 := (show Hid True from trivial); clear hq TK_1 hb HB_1 HZ1_1 HA1_1 HM1_1 NZ_1 hn)
    | (have hq := TK_2; go_at_call 55; refine (CR.out _ _ (NS_2.out)).mono ?_; rintro e w3 ⟨vr, rfl, hn, hb⟩; have HB_3 := (show Hid (Below wh3.heap.size wh3 w3) from HB_2.out.trans (hb.mono HB_2.out.size)); have HA1_3 := (show Hid (Ao w.heap.size w3 (n + 3) 32) from HA1_2.out.below hb); have NR_3 := (show Hid (Num w3 vr r) from hn); have TK_3 := (show Hid True from trivial); clear hq TK_2 hb HB_2 HA1_2 NS_2 hn)
    | (have hq := TK_3; go_at_call 16; refine (CB.out _ _ (NR_3.out)).mono ?_; rintro e w4 ⟨rfl, hb⟩; have HB_4 := (show Hid (Below wh3.heap.size wh3 w4) from HB_3.out.trans (hb.mono HB_3.out.size)); have HA1_4 := (show Hid (Ao w.heap.size w4 (n + 3) 32) from HA1_3.out.below hb); have HT := (show Hid _ from LR.out.s HA1_4.out); have TK_4 := (show Hid True from trivial); clear hq TK_3 hb HB_3 HA1_3 NR_3)
    | (refine wpList_store_mid rfl 22 (.tmp 6) (.tmp 18) rfl (n + 3) 0 R.toArray rfl rfl HT.out LR.out.j LR.out.o ?_; simp only))
  exact bodyPost_ret (results_cell Try.results54 rfl (end22 LR.out HA1_4.out)) rfl ⟨rfl, below_setCells (HBF.out.trans (HB_4.out.mono HBF.out.size)) HA1_4.out.1⟩
end Dt
end Go.Proofs.Ytgdekigdbbldoaa

namespace Go.Proofs.Ytgdekigdbbldoaa
open Go.RowKit
namespace Dt
open Rg Go.Proofs.Ytgdekigdbbldoaa.Fd Go.Proofs.Ytgdekigdbbldoaa.Fd.Pratt

set_option maxHeartbeats 2000000 in
set_option maxRecDepth 8000 in
theorem rdecode_a0 (b c : Nat) (w : World) (hb : b < 115792089237316195423570985008687907853269984665640564039457584007913129639936) (hc : b % 57896044618658097711785492504343953926634992332820282019728792003956564819968 = c) (ho : b / 57896044618658097711785492504343953926634992332820282019728792003956564819968 = 0) (hp : ¬ c < p) :
    Calls Try.prog 44 #[bv b] w fun e w' => e = .returned (.tuple #[pv 0 0, .bool false]) ∧ Below w.heap.size w w' := by
  obtain ⟨n, hn⟩ : ∃ n, w.heap.size = n := ⟨_, rfl⟩
  obtain ⟨t1, t2, t3⟩ := top_bit b c 0 hc ho hb
  have lc : c < 115792089237316195423570985008687907853269984665640564039457584007913129639936 := by omega
  have hbl : by_ b 31 < 256 := Nat.mod_lt _ (by decide)
  have HEN : Hid (∀ j, j < 32 → upd (by_ b) 31 (by_ b 31 % 128) j = by_ c j) := t3
  have CO : Hid (∀ W : World, Rp W n 0 (bvc c) → Calls Try.prog 52 #[.slice (some ⟨n, 0, none⟩) 32 32] W fun e w' => ∃ v, e = .returned v ∧ Num w' v c ∧ Below W.heap.size W w') := fun W h => of32 c n W lc h
  have CC : Hid (∀ (W : World) (u v : Value), Num W u c → Num W v p → Calls Try.prog 51 #[u, v] W fun e w' => e = .returned (.int .i64 (cmpN c p)) ∧ Below W.heap.size W w') := fun W u v h1 h2 => cmp_num h1 h2 (pow64 lc) (by decide +kernel)
  have hc0 : (0 : Int) ≤ cmpN c p := by unfold cmpN; rw [if_neg hp]; split <;> omega
  obtain ⟨k, hk⟩ : ∃ k, cmpN c p = k := ⟨_, rfl⟩
  rw [hk] at CC hc0
  clear hk
  have HBP : Hid (Try.prog.built 43 [] = some (bvc 0 ++ bvc 0).toArray) := build_none
  have LE : Hid (L64 (bvc 0 ++ bvc 0)) := l64 _ _
  have HRA : Hid (∀ {W : World} {g : Nat} {M : Nat → Nat}, Cs .u8 32 w.heap.size w W g M → (∀ j, j < 32 → M j = by_ c j) → W.rangeAt g 0 (bvc c)) := fun h1 h2 => h1.range _ h2
  have HS := (show Hid _ from start22c w b)
  unfold pv
  unfold bv
  obtain ⟨E, hE⟩ : ∃ Z, bvc 0 ++ bvc 0 = Z := ⟨_, rfl⟩
  rw [hE] at HBP LE ⊢
  clear hE
  obtain ⟨C, hC⟩ : ∃ Z, bvc c = Z := ⟨_, rfl⟩
  rw [hC] at CO HRA
  obtain ⟨D, hD⟩ : ∃ Z, bvc b = Z := ⟨_, rfl⟩
  rw [hD] at HS ⊢
  obtain ⟨B, hB⟩ : ∃ Z, by_ b = Z := ⟨_, rfl⟩
  rw [hB] at HS HEN hbl t1
  obtain ⟨b31, hb3⟩ : ∃ Z, B 31 = Z := ⟨_, rfl⟩
  have HB31 : Hid (B 31 = b31) := hb3
  rw [hb3] at HEN hbl t1
  obtain ⟨m31, hm3⟩ : ∃ Z, b31 % 128 = Z := ⟨_, rfl⟩
  rw [hm3] at HEN
  have x1 : ¬ (128 : Int) ≤ (b31 : Int) := by omega
  have HMB : Hid (m31 = b31) := by show _ = _; omega
  clear hC hD hB hb3 hm3 t1 t2 t3 hbl hc ho hb lc hp
  have hz43 := zero43
  obtain ⟨Z43, hZ43⟩ : ∃ Z, z43 = Z := ⟨_, rfl⟩
  rw [hZ43] at hz43 HS
  clear hZ43
  have HN : Hid (w.heap.size = n) := hn
  obtain ⟨we, hwe⟩ : ∃ v, (w.alloc (.cells D.toArray 22)).alloc (.cells Z43 43) = v := ⟨_, rfl⟩
  have HC0 : Hid (Cs .u8 32 w.heap.size w we n B) := by have h := HS.out.1; rw [hwe] at h; show Cs _ _ _ _ _ _ _; rw [HN.out] at h ⊢; exact h
  have AO : Hid (Ao w.heap.size we (n + 1) 64) := by have h := HS.out.2; rw [hwe] at h; show Ao _ _ _ _; rw [HN.out] at h ⊢; exact h
  clear HS
  have r0 := HC0.out.c 31 (by decide)
  rw [HB31.out] at r0
  have BC := (show Hid (Rp we n 0 C) from ⟨HRA.out HC0.out (fun j hj => by rw [← HEN.out j hj]; unfold upd; split <;> simp_all [HMB.out, HB31.out]), HC0.out.l.2⟩)
  have AO1 := AO
  have HBE := (show Hid (Below w.heap.size w we) from HC0.out.b)
  obtain ⟨ws, hws⟩ : ∃ v, we = v := ⟨_, rfl⟩
  subst hws
  clear HC0 AO HRA HEN HB31 HMB
  have BC_0 := BC
  have AO1_0 := AO1
  have HB_0 := (show Hid (Below we.heap.size we we) from Below.refl _ _)
  have TK_0 := (show Hid True from trivial)
  clear BC AO1
  go_enter Try.func44, Try.ntmps44
  go_wp2_with (first
    | (have hq := TK_0; go_at_call 52; refine (CO.out _ (BC_0.out)).mono ?_; rintro e w1 ⟨vy, rfl, hn, hb⟩; have HB_1 := (show Hid (Below we.heap.size we w1) from HB_0.out.trans (hb.mono HB_0.out.size)); have BC_1 := (show Hid (Rp w1 n 0 C) from BC_0.out.below hb); have AO1_1 := (show Hid (Ao w.heap.size w1 (n + 1) 64) from AO1_0.out.below hb); have NY_1 := (show Hid (Num w1 vy c) from hn); have TK_1 := (show Hid True from trivial); clear hq TK_0 hb HB_0 BC_0 AO1_0 hn)
    | (have hq := TK_1; go_at_call 56; refine (p_num _).mono ?_; rintro e w2 ⟨vp, rfl, hn, hb⟩; have HB_2 := (show Hid (Below we.heap.size we w2) from HB_1.out.trans (hb.mono HB_1.out.size)); have BC_2 := (show Hid (Rp w2 n 0 C) from BC_1.out.below hb); have AO1_2 := (show Hid (Ao w.heap.size w2 (n + 1) 64) from AO1_1.out.below hb); have NY_2 := (show Hid (Num w2 vy c) from NY_1.out.below hb); have NP_2 := (show Hid (Num w2 vp p) from hn); have TK_2 := (show Hid True from trivial); clear hq TK_1 hb HB_1 BC_1 AO1_1 NY_1 hn)
    | (have hq := TK_2; go_at_call 51; refine (CC.out _ _ _ (NY_2.out) (NP_2.out)).mono ?_; rintro e w3 ⟨rfl, hb⟩; have HB_3 := (show Hid (Below we.heap.size we w3) from HB_2.out.trans (hb.mono HB_2.out.size)); have BC_3 := (show Hid (Rp w3 n 0 C) from BC_2.out.below hb); have AO1_3 := (show Hid (Ao w.heap.size w3 (n + 1) 64) from AO1_2.out.below hb); have NY_3 := (show Hid (Num w3 vy c) from NY_2.out.below hb); have TK_3 := (show Hid True from trivial); clear hq TK_2 hb HB_2 BC_2 AO1_2 NY_2 NP_2)
    | (refine build_to rfl 43 _ rfl (some 22) rfl [] (by kernel_rfl) E HBP.out ?_; simp only [Act.put, List.setIfInBounds_toArray, List.set_cons_zero, List.set_cons_succ])
    | (refine wpList_store_mid rfl 43 (.tmp 2) (.tmp 22) rfl (n + 1) 0 E.toArray rfl rfl (LE.out.t AO1_3.out) LE.out.j LE.out.o ?_; simp only))
  exact bodyPost_ret (res_ct Try.results44 rfl (end43 LE.out AO1_3.out) rfl) rfl ⟨rfl, below_setCells (HBE.out.trans (HB_3.out.mono HBE.out.size)) AO1_3.out.1⟩
set_option maxHeartbeats 2000000 in
set_option maxRecDepth 8000 in
theorem rdecode_a1 (b c : Nat) (w : World) (hb : b < 115792089237316195423570985008687907853269984665640564039457584007913129639936) (hc : b % 57896044618658097711785492504343953926634992332820282019728792003956564819968 = c) (ho : b / 57896044618658097711785492504343953926634992332820282019728792003956564819968 = 1) (hp : ¬ c < p) :
    Calls Try.prog 44 #[bv b] w fun e w' => e = .returned (.tuple #[pv 0 0, .bool false]) ∧ Below w.heap.size w w' := by
  obtain ⟨n, hn⟩ : ∃ n, w.heap.size = n := ⟨_, rfl⟩
  obtain ⟨t1, t2, t3⟩ := top_bit b c 1 hc ho hb
  have lc : c < 115792089237316195423570985008687907853269984665640564039457584007913129639936 := by omega
  have hbl : by_ b 31 < 256 := Nat.mod_lt _ (by decide)
  have HEN : Hid (∀ j, j < 32 → upd (by_ b) 31 (by_ b 31 % 128) j = by_ c j) := t3
  have CO : Hid (∀ W : World, Rp W n 0 (bvc c) → Calls Try.prog 52 #[.slice (some ⟨n, 0, none⟩) 32 32] W fun e w' => ∃ v, e = .returned v ∧ Num w' v c ∧ Below W.heap.size W w') := fun W h => of32 c n W lc h
  have CC : Hid (∀ (W : World) (u v : Value), Num W u c → Num W v p → Calls Try.prog 51 #[u, v] W fun e w' => e = .returned (.int .i64 (cmpN c p)) ∧ Below W.heap.size W w') := fun W u v h1 h2 => cmp_num h1 h2 (pow64 lc) (by decide +kernel)
  have hc0 : (0 : Int) ≤ cmpN c p := by unfold cmpN; rw [if_neg hp]; split <;> omega
  obtain ⟨k, hk⟩ : ∃ k, cmpN c p = k := ⟨_, rfl⟩
  rw [hk] at CC hc0
  clear hk
  have HBP : Hid (Try.prog.built 43 [] = some (bvc 0 ++ bvc 0).toArray) := build_none
  have LE : Hid (L64 (bvc 0 ++ bvc 0)) := l64 _ _
  have HRA : Hid (∀ {W : World} {g : Nat} {M : Nat → Nat}, Cs .u8 32 w.heap.size w W g M → (∀ j, j < 32 → M j = by_ c j) → W.rangeAt g 0 (bvc c)) := fun h1 h2 => h1.range _ h2
  have HS := (show Hid _ from start22c w b)
  unfold pv
  unfold bv
  obtain ⟨E, hE⟩ : ∃ Z, bvc 0 ++ bvc 0 = Z := ⟨_, rfl⟩
  rw [hE] at HBP LE ⊢
  clear hE
  obtain ⟨C, hC⟩ : ∃ Z, bvc c = Z := ⟨_, rfl⟩
  rw [hC] at CO HRA
  obtain ⟨D, hD⟩ : ∃ Z, bvc b = Z := ⟨_, rfl⟩
  rw [hD] at HS ⊢
  obtain ⟨B, hB⟩ : ∃ Z, by_ b = Z := ⟨_, rfl⟩
  rw [hB] at HS HEN hbl t1
  obtain ⟨b31, hb3⟩ : ∃ Z, B 31 = Z := ⟨_, rfl⟩
  have HB31 : Hid (B 31 = b31) := hb3
  rw [hb3] at HEN hbl t1
  obtain ⟨m31, hm3⟩ : ∃ Z, b31 % 128 = Z := ⟨_, rfl⟩
  rw [hm3] at HEN
  have x1 : (128 : Int) ≤ (b31 : Int) := by omega
  have x2 : (b31 : Int) - 128 = (m31 : Int) := by omega
  have x3 : IntKind.u8.wrap (m31 : Int) = (m31 : Int) := by rw [IntKind.wrap_u8]; omega
  clear hC hD hB hb3 hm3 t1 t2 t3 hbl hc ho hb lc hp
  have hz43 := zero43
  obtain ⟨Z43, hZ43⟩ : ∃ Z, z43 = Z := ⟨_, rfl⟩
  rw [hZ43] at hz43 HS
  clear hZ43
  have HN : Hid (w.heap.size = n) := hn
  obtain ⟨we, hwe⟩ : ∃ v, (w.alloc (.cells D.toArray 22)).alloc (.cells Z43 43) = v := ⟨_, rfl⟩
  have HC0 : Hid (Cs .u8 32 w.heap.size w we n B) := by have h := HS.out.1; rw [hwe] at h; show Cs _ _ _ _ _ _ _; rw [HN.out] at h ⊢; exact h
  have AO : Hid (Ao w.heap.size we (n + 1) 64) := by have h := HS.out.2; rw [hwe] at h; show Ao _ _ _ _; rw [HN.out] at h ⊢; exact h
  clear HS
  have r0 := HC0.out.c 31 (by decide)
  rw [HB31.out] at r0
  have r1 := (HC0.out.t 31 (by decide)).2
  simp only [Nat.zero_add] at r1
  have HC1 := (show Hid (Cs .u8 32 w.heap.size w (we.setCell ⟨n, 31, none⟩ (.int .u8 (m31 : Int))) n (upd B 31 m31)) from HC0.out.set (by decide) m31)
  have BC := (show Hid (Rp (we.setCell ⟨n, 31, none⟩ (.int .u8 (m31 : Int))) n 0 C) from ⟨HRA.out HC1.out HEN.out, HC1.out.l.2⟩)
  have AO1 := (show Hid (Ao w.heap.size (we.setCell ⟨n, 31, none⟩ (.int .u8 (m31 : Int))) (n + 1) 64) from AO.out.set1 _)
  have HBE := (show Hid (Below w.heap.size w (we.setCell ⟨n, 31, none⟩ (.int .u8 (m31 : Int)))) from HC1.out.b)
  obtain ⟨ws, hws⟩ : ∃ v, we.setCell ⟨n, 31, none⟩ (.int .u8 (m31 : Int)) = v := ⟨_, rfl⟩
  rw [hws] at BC AO1 HBE
  clear HC1
  clear HC0 AO HRA HEN HB31
  have BC_0 := BC
  have AO1_0 := AO1
  have HB_0 := (show Hid (Below ws.heap.size ws ws) from Below.refl _ _)
  have TK_0 := (show Hid True from trivial)
  clear BC AO1
  go_enter Try.func44, Try.ntmps44
  go_wp2_with (first
    | (have hq := TK_0; go_at_call 52; refine (CO.out _ (BC_0.out)).mono ?_; rintro e w1 ⟨vy, rfl, hn, hb⟩; have HB_1 := (show Hid (Below ws.heap.size ws w1) from HB_0.out.trans (hb.mono HB_0.out.size)); have BC_1 := (show Hid (Rp w1 n 0 C) from BC_0.out.below hb); have AO1_1 := (show Hid (Ao w.heap.size w1 (n + 1) 64) from AO1_0.out.below hb); have NY_1 := (show Hid (Num w1 vy c) from hn); have TK_1 := (show Hid True from trivial); clear hq TK_0 hb HB_0 BC_0 AO1_0 hn)
    | (have hq := TK_1; go_at_call 56; refine (p_num _).mono ?_; rintro e w2 ⟨vp, rfl, hn, hb⟩; have HB_2 := (show Hid (Below ws.heap.size ws w2) from HB_1.out.trans (hb.mono HB_1.out.size)); have BC_2 := (show Hid (Rp w2 n 0 C) from BC_1.out.below hb); have AO1_2 := (show Hid (Ao w.heap.size w2 (n + 1) 64) from AO1_1.out.below hb); have NY_2 := (show Hid (Num w2 vy c) from NY_1.out.below hb); have NP_2 := (show Hid (Num w2 vp p) from hn); have TK_2 := (show Hid True from trivial); clear hq TK_1 hb HB_1 BC_1 AO1_1 NY_1 hn)
    | (have hq := TK_2; go_at_call 51; refine (CC.out _ _ _ (NY_2.out) (NP_2.out)).mono ?_; rintro e w3 ⟨rfl, hb⟩; have HB_3 := (show Hid (Below ws.heap.size ws w3) from HB_2.out.trans (hb.mono HB_2.out.size)); have BC_3 := (show Hid (Rp w3 n 0 C) from BC_2.out.below hb); have AO1_3 := (show Hid (Ao w.heap.size w3 (n + 1) 64) from AO1_2.out.below hb); have NY_3 := (show Hid (Num w3 vy c) from NY_2.out.below hb); have TK_3 := (show Hid True from trivial); clear hq TK_2 hb HB_2 BC_2 AO1_2 NY_2 NP_2)
    | (refine build_to rfl 43 _ rfl (some 22) rfl [] (by kernel_rfl) E HBP.out ?_; simp only [Act.put, List.setIfInBounds_toArray, List.set_cons_zero, List.set_cons_succ])
    | (refine wpList_store_mid rfl 43 (.tmp 2) (.tmp 22) rfl (n + 1) 0 E.toArray rfl rfl (LE.out.t AO1_3.out) LE.out.j LE.out.o ?_; simp only))
  exact bodyPost_ret (res_ct Try.results44 rfl (end43 LE.out AO1_3.out) rfl) rfl ⟨rfl, below_setCells (HBE.out.trans (HB_3.out.mono HBE.out.size)) AO1_3.out.1⟩
set_option maxHeartbeats 2000000 in
set_option maxRecDepth 8000 in
theorem rdecode_b0 (b c : Nat) (w : World) (hb : b < 115792089237316195423570985008687907853269984665640564039457584007913129639936) (hc : b % 57896044618658097711785492504343953926634992332820282019728792003956564819968 = c) (ho : b / 57896044618658097711785492504343953926634992332820282019728792003956564819968 = 0) (hp : c < p) (hr : ¬ rt (xq c) * rt (xq c) % p = xq c) :
    Calls Try.prog 44 #[bv b] w fun e w' => e = .returned (.tuple #[pv 0 0, .bool false]) ∧ Below w.heap.size w w' := by
  obtain ⟨n, hn⟩ : ∃ n, w.heap.size = n := ⟨_, rfl⟩
  obtain ⟨t1, t2, t3⟩ := top_bit b c 0 hc ho hb
  have lc : c < 115792089237316195423570985008687907853269984665640564039457584007913129639936 := by omega
  have hbl : by_ b 31 < 256 := Nat.mod_lt _ (by decide)
  have HEN : Hid (∀ j, j < 32 → upd (by_ b) 31 (by_ b 31 % 128) j = by_ c j) := t3
  have CO : Hid (∀ W : World, Rp W n 0 (bvc c) → Calls Try.prog 52 #[.slice (some ⟨n, 0, none⟩) 32 32] W fun e w' => ∃ v, e = .returned v ∧ Num w' v c ∧ Below W.heap.size W w') := fun W h => of32 c n W lc h
  have CC : Hid (∀ (W : World) (u v : Value), Num W u c → Num W v p → Calls Try.prog 51 #[u, v] W fun e w' => e = .returned (.int .i64 (cmpN c p)) ∧ Below W.heap.size W w') := fun W u v h1 h2 => cmp_num h1 h2 (pow64 lc) (by decide +kernel)
  have hc0 : cmpN c p = -1 := by unfold cmpN; rw [if_pos hp]
  rw [hc0] at CC
  clear hc0
  have CX : Hid (∀ (W : World) (u : Value), Num W u c → Calls Try.prog 79 #[u] W fun e w' => e = .returned (.tuple #[.slice none 0 0, .bool false]) ∧ Below W.heap.size W w') := fun W u h => by
    have h2 := xOf_num h hp
    rw [decide_eq_false hr] at h2
    exact h2.mono fun e w' ⟨v, h3, h4, h5⟩ => ⟨by rw [h3, h4.2 hr], h5⟩
  have HBP : Hid (Try.prog.built 43 [] = some (bvc 0 ++ bvc 0).toArray) := build_none
  have LE : Hid (L64 (bvc 0 ++ bvc 0)) := l64 _ _
  have HRA : Hid (∀ {W : World} {g : Nat} {M : Nat → Nat}, Cs .u8 32 w.heap.size w W g M → (∀ j, j < 32 → M j = by_ c j) → W.rangeAt g 0 (bvc c)) := fun h1 h2 => h1.range _ h2
  have HS := (show Hid _ from start22c w b)
  unfold pv
  unfold bv
  obtain ⟨E, hE⟩ : ∃ Z, bvc 0 ++ bvc 0 = Z := ⟨_, rfl⟩
  rw [hE] at HBP LE ⊢
  clear hE
  obtain ⟨C, hC⟩ : ∃ Z, bvc c = Z := ⟨_, rfl⟩
  rw [hC] at CO HRA
  obtain ⟨D, hD⟩ : ∃ Z, bvc b = Z := ⟨_, rfl⟩
  rw [hD] at HS ⊢
  obtain ⟨B, hB⟩ : ∃ Z, by_ b = Z := ⟨_, rfl⟩
  rw [hB] at HS HEN hbl t1
  obtain ⟨b31, hb3⟩ : ∃ Z, B 31 = Z := ⟨_, rfl⟩
  have HB31 : Hid (B 31 = b31) := hb3
  rw [hb3] at HEN hbl t1
  obtain ⟨m31, hm3⟩ : ∃ Z, b31 % 128 = Z := ⟨_, rfl⟩
  rw [hm3] at HEN
  have x1 : ¬ (128 : Int) ≤ (b31 : Int) := by omega
  have HMB : Hid (m31 = b31) := by show _ = _; omega
  clear hC hD hB hb3 hm3 t1 t2 t3 hbl hc ho hb lc hp hr
  have hz43 := zero43
  obtain ⟨Z43, hZ43⟩ : ∃ Z, z43 = Z := ⟨_, rfl⟩
  rw [hZ43] at hz43 HS
  clear hZ43
  have HN : Hid (w.heap.size = n) := hn
  obtain ⟨we, hwe⟩ : ∃ v, (w.alloc (.cells D.toArray 22)).alloc (.cells Z43 43) = v := ⟨_, rfl⟩
  have HC0 : Hid (Cs .u8 32 w.heap.size w we n B) := by have h := HS.out.1; rw [hwe] at h; show Cs _ _ _ _ _ _ _; rw [HN.out] at h ⊢; exact h
  have AO : Hid (Ao w.heap.size we (n + 1) 64) := by have h := HS.out.2; rw [hwe] at h; show Ao _ _ _ _; rw [HN.out] at h ⊢; exact h
  clear HS
  have r0 := HC0.out.c 31 (by decide)
  rw [HB31.out] at r0
  have BC := (show Hid (Rp we n 0 C) from ⟨HRA.out HC0.out (fun j hj => by rw [← HEN.out j hj]; unfold upd; split <;> simp_all [HMB.out, HB31.out]), HC0.out.l.2⟩)
  have AO1 := AO
  have HBE := (show Hid (Below w.heap.size w we) from HC0.out.b)
  obtain ⟨ws, hws⟩ : ∃ v, we = v := ⟨_, rfl⟩
  subst hws
  clear HC0 AO HRA HEN HB31 HMB
  have BC_0 := BC
  have AO1_0 := AO1
  have HB_0 := (show Hid (Below we.heap.size we we) from Below.refl _ _)
  have TK_0 := (show Hid True from trivial)
  clear BC AO1
  go_enter Try.func44, Try.ntmps44
  go_wp2_with (first
    | (have hq := TK_0; go_at_call 52; refine (CO.out _ (BC_0.out)).mono ?_; rintro e w1 ⟨vy, rfl, hn, hb⟩; have HB_1 := (show Hid (Below we.heap.size we w1) from HB_0.out.trans (hb.mono HB_0.out.size)); have BC_1 := (show Hid (Rp w1 n 0 C) from BC_0.out.below hb); have AO1_1 := (show Hid (Ao w.heap.size w1 (n + 1) 64) from AO1_0.out.below hb); have NY_1 := (show Hid (Num w1 vy c) from hn); have TK_1 := (show Hid True from trivial); clear hq TK_0 hb HB_0 BC_0 AO1_0 hn)
    | (have hq := TK_1; go_at_call 56; refine (p_num _).mono ?_; rintro e w2 ⟨vp, rfl, hn, hb⟩; have HB_2 := (show Hid (Below we.heap.size we w2) from HB_1.out.trans (hb.mono HB_1.out.size)); have BC_2 := (show Hid (Rp w2 n 0 C) from BC_1.out.below hb); have AO1_2 := (show Hid (Ao w.heap.size w2 (n + 1) 64) from AO1_1.out.below hb); have NY_2 := (show Hid (Num w2 vy c) from NY_1.out.below hb); have NP_2 := (show Hid (Num w2 vp p) from hn); have TK_2 := (show Hid True from trivial); clear hq TK_1 hb HB_1 BC_1 AO1_1 NY_1 hn)
    | (have hq := TK_2; go_at_call 51; refine (CC.out _ _ _ (NY_2.out) (NP_2.out)).mono ?_; rintro e w3 ⟨rfl, hb⟩; have HB_3 := (show Hid (Below we.heap.size we w3) from HB_2.out.trans (hb.mono HB_2.out.size)); have BC_3 := (show Hid (Rp w3 n 0 C) from BC_2.out.below hb); have AO1_3 := (show Hid (Ao w.heap.size w3 (n + 1) 64) from AO1_2.out.below hb); have NY_3 := (show Hid (Num w3 vy c) from NY_2.out.below hb); have TK_3 := (show Hid True from trivial); clear hq TK_2 hb HB_2 BC_2 AO1_2 NY_2 NP_2)
    | (have hq := TK_3; go_at_call 79; refine (CX.out _ _ (NY_3.out)).mono ?_; rintro e w4 ⟨rfl, hb⟩; have HB_4 := (show Hid (Below we.heap.size we w4) from HB_3.out.trans (hb.mono HB_3.out.size)); have BC_4 := (show Hid (Rp w4 n 0 C) from BC_3.out.below hb); have AO1_4 := (show Hid (Ao w.heap.size w4 (n + 1) 64) from AO1_3.out.below hb); have NY_4 := (show Hid (Num w4 vy c) from NY_3.out.below hb); have TK_4 := (show Hid True from trivial); clear hq TK_3 hb HB_3 BC_3 AO1_3 NY_3)
    | (refine build_to rfl 43 _ rfl (some 38) rfl [] (by kernel_rfl) E HBP.out ?_; simp only [Act.put, List.setIfInBounds_toArray, List.set_cons_zero, List.set_cons_succ])
    | (refine wpList_store_mid rfl 43 (.tmp 2) (.tmp 38) rfl (n + 1) 0 E.toArray rfl rfl (LE.out.t AO1_4.out) LE.out.j LE.out.o ?_; simp only))
  exact bodyPost_ret (res_ct Try.results44 rfl (end43 LE.out AO1_4.out) rfl) rfl ⟨rfl, below_setCells (HBE.out.trans (HB_4.out.mono HBE.out.size)) AO1_4.out.1⟩
set_option maxHeartbeats 2000000 in
set_option maxRecDepth 8000 in
theorem rdecode_b1 (b c : Nat) (w : World) (hb : b < 115792089237316195423570985008687907853269984665640564039457584007913129639936) (hc : b % 57896044618658097711785492504343953926634992332820282019728792003956564819968 = c) (ho : b / 57896044618658097711785492504343953926634992332820282019728792003956564819968 = 1) (hp : c < p) (hr : ¬ rt (xq c) * rt (xq c) % p = xq c) :
    Calls Try.prog 44 #[bv b] w fun e w' => e = .returned (.tuple #[pv 0 0, .bool false]) ∧ Below w.heap.size w w' := by
  obtain ⟨n, hn⟩ : ∃ n, w.heap.size = n := ⟨_, rfl⟩
  obtain ⟨t1, t2, t3⟩ := top_bit b c 1 hc ho hb
  have lc : c < 115792089237316195423570985008687907853269984665640564039457584007913129639936 := by omega
  have hbl : by_ b 31 < 256 := Nat.mod_lt _ (by decide)
  have HEN : Hid (∀ j, j < 32 → upd (by_ b) 31 (by_ b 31 % 128) j = by_ c j) := t3
  have CO : Hid (∀ W : World, Rp W n 0 (bvc c) → Calls Try.prog 52 #[.slice (some ⟨n, 0, none⟩) 32 32] W fun e w' => ∃ v, e = .returned v ∧ Num w' v c ∧ Below W.heap.size W w') := fun W h => of32 c n W lc h
  have CC : Hid (∀ (W : World) (u v : Value), Num W u c → Num W v p → Calls Try.prog 51 #[u, v] W fun e w' => e = .returned (.int .i64 (cmpN c p)) ∧ Below W.heap.size W w') := fun W u v h1 h2 => cmp_num h1 h2 (pow64 lc) (by decide +kernel)
  have hc0 : cmpN c p = -1 := by unfold cmpN; rw [if_pos hp]
  rw [hc0] at CC
  clear hc0
  have CX : Hid (∀ (W : World) (u : Value), Num W u c → Calls Try.prog 79 #[u] W fun e w' => e = .returned (.tuple #[.slice none 0 0, .bool false]) ∧ Below W.heap.size W w') := fun W u h => by
    have h2 := xOf_num h hp
    rw [decide_eq_false hr] at h2
    exact h2.mono fun e w' ⟨v, h3, h4, h5⟩ => ⟨by rw [h3, h4.2 hr], h5⟩
  have HBP : Hid (Try.prog.built 43 [] = some (bvc 0 ++ bvc 0).toArray) := build_none
  have LE : Hid (L64 (bvc 0 ++ bvc 0)) := l64 _ _
  have HRA : Hid (∀ {W : World} {g : Nat} {M : Nat → Nat}, Cs .u8 32 w.heap.size w W g M → (∀ j, j < 32 → M j = by_ c j) → W.rangeAt g 0 (bvc c)) := fun h1 h2 => h1.range _ h2
  have HS := (show Hid _ from start22c w b)
  unfold pv
  unfold bv
  obtain ⟨E, hE⟩ : ∃ Z, bvc 0 ++ bvc 0 = Z := ⟨_, rfl⟩
  rw [hE] at HBP LE ⊢
  clear hE
  obtain ⟨C, hC⟩ : ∃ Z, bvc c = Z := ⟨_, rfl⟩
  rw [hC] at CO HRA
  obtain ⟨D, hD⟩ : ∃ Z, bvc b = Z := ⟨_, rfl⟩
  rw [hD] at HS ⊢
  obtain ⟨B, hB⟩ : ∃ Z, by_ b = Z := ⟨_, rfl⟩
  rw [hB] at HS HEN hbl t1
  obtain ⟨b31, hb3⟩ : ∃ Z, B 31 = Z := ⟨_, rfl⟩
  have HB31 : Hid (B 31 = b31) := hb3
  rw [hb3] at HEN hbl t1
  obtain ⟨m31, hm3⟩ : ∃ Z, b31 % 128 = Z := ⟨_, rfl⟩
  rw [hm3] at HEN
  have x1 : (128 : Int) ≤ (b31 : Int) := by omega
  have x2 : (b31 : Int) - 128 = (m31 : Int) := by omega
  have x3 : IntKind.u8.wrap (m31 : Int) = (m31 : Int) := by rw [IntKind.wrap_u8]; omega
  clear hC hD hB hb3 hm3 t1 t2 t3 hbl hc ho hb lc hp hr
  have hz43 := zero43
  obtain ⟨Z43, hZ43⟩ : ∃ Z, z43 = Z := ⟨_, rfl⟩
  rw [hZ43] at hz43 HS
  clear hZ43
  have HN : Hid (w.heap.size = n) := hn
  obtain ⟨we, hwe⟩ : ∃ v, (w.alloc (.cells D.toArray 22)).alloc (.cells Z43 43) = v := ⟨_, rfl⟩
  have HC0 : Hid (Cs .u8 32 w.heap.size w we n B) := by have h := HS.out.1; rw [hwe] at h; show Cs _ _ _ _ _ _ _; rw [HN.out] at h ⊢; exact h
  have AO : Hid (Ao w.heap.size we (n + 1) 64) := by have h := HS.out.2; rw [hwe] at h; show Ao _ _ _ _; rw [HN.out] at h ⊢; exact h
  clear HS
  have r0 := HC0.out.c 31 (by decide)
  rw [HB31.out] at r0
  have r1 := (HC0.out.t 31 (by decide)).2
  simp only [Nat.zero_add] at r1
  have HC1 := (show Hid (Cs .u8 32 w.heap.size w (we.setCell ⟨n, 31, none⟩ (.int .u8 (m31 : Int))) n (upd B 31 m31)) from HC0.out.set (by decide) m31)
  have BC := (show Hid (Rp (we.setCell ⟨n, 31, none⟩ (.int .u8 (m31 : Int))) n 0 C) from ⟨HRA.out HC1.out HEN.out, HC1.out.l.2⟩)
  have AO1 := (show Hid (Ao w.heap.size (we.setCell ⟨n, 31, none⟩ (.int .u8 (m31 : Int))) (n + 1) 64) from AO.out.set1 _)
  have HBE := (show Hid (Below w.heap.size w (we.setCell ⟨n, 31, none⟩ (.int .u8 (m31 : Int)))) from HC1.out.b)
  obtain ⟨ws, hws⟩ : ∃ v, we.setCell ⟨n, 31, none⟩ (.int .u8 (m31 : Int)) = v := ⟨_, rfl⟩
  rw [hws] at BC AO1 HBE
  clear HC1
  clear HC0 AO HRA HEN HB31
  have BC_0 := BC
  have AO1_0 := AO1
  have HB_0 := (show Hid (Below ws.heap.size ws ws) from Below.refl _ _)
  have TK_0 := (show Hid True from trivial)
  clear BC AO1
  go_enter Try.func44, Try.ntmps44
  go_wp2_with (first
    | (have hq := TK_0; go_at_call 52; refine (CO.out _ (BC_0.out)).mono ?_; rintro e w1 ⟨vy, rfl, hn, hb⟩; have HB_1 := (show Hid (Below ws.heap.size ws w1) from HB_0.out.trans (hb.mono HB_0.out.size)); have BC_1 := (show Hid (Rp w1 n 0 C) from BC_0.out.below hb); have AO1_1 := (show Hid (Ao w.heap.size w1 (n + 1) 64) from AO1_0.out.below hb); have NY_1 := (show Hid (Num w1 vy c) from hn); have TK_1 := (show Hid True from trivial); clear hq TK_0 hb HB_0 BC_0 AO1_0 hn)
    | (have hq := TK_1; go_at_call 56; refine (p_num _).mono ?_; rintro e w2 ⟨vp, rfl, hn, hb⟩; have HB_2 := (show Hid (Below ws.heap.size ws w2) from HB_1.out.trans (hb.mono HB_1.out.size)); have BC_2 := (show Hid (Rp w2 n 0 C) from BC_1.out.below hb); have AO1_2 := (show Hid (Ao w.heap.size w2 (n + 1) 64) from AO1_1.out.below hb); have NY_2 := (show Hid (Num w2 vy c) from NY_1.out.below hb); have NP_2 := (show Hid (Num w2 vp p) from hn); have TK_2 := (show Hid True from trivial); clear hq TK_1 hb HB_1 BC_1 AO1_1 NY_1 hn)
    | (have hq := TK_2; go_at_call 51; refine (CC.out _ _ _ (NY_2.out) (NP_2.out)).mono ?_; rintro e w3 ⟨rfl, hb⟩; have HB_3 := (show Hid (Below ws.heap.size ws w3) from HB_2.out.trans (hb.mono HB_2.out.size)); have BC_3 := (show Hid (Rp w3 n 0 C) from BC_2.out.below hb); have AO1_3 := (show Hid (Ao w.heap.size w3 (n + 1) 64) from AO1_2.out.below hb); have NY_3 := (show Hid (Num w3 vy c) from NY_2.out.below hb); have TK_3 := (show Hid True from trivial); clear hq TK_2 hb HB_2 BC_2 AO1_2 NY_2 NP_2)
    | (have hq := TK_3; go_at_call 79; refine (CX.out _ _ (NY_3.out)).mono ?_; rintro e w4 ⟨rfl, hb⟩; have HB_4 := (show Hid (Below ws.heap.size ws w4) from HB_3.out.trans (hb.mono HB_3.out.size)); have BC_4 := (show Hid (Rp w4 n 0 C) from BC_3.out.below hb); have AO1_4 := (show Hid (Ao w.heap.size w4 (n + 1) 64) from AO1_3.out.below hb); have NY_4 := (show Hid (Num w4 vy c) from NY_3.out.below hb); have TK_4 := (show Hid True from trivial); clear hq TK_3 hb HB_3 BC_3 AO1_3 NY_3)
    | (refine build_to rfl 43 _ rfl (some 38) rfl [] (by kernel_rfl) E HBP.out ?_; simp only [Act.put, List.setIfInBounds_toArray, List.set_cons_zero, List.set_cons_succ])
    | (refine wpList_store_mid rfl 43 (.tmp 2) (.tmp 38) rfl (n + 1) 0 E.toArray rfl rfl (LE.out.t AO1_4.out) LE.out.j LE.out.o ?_; simp only))
  exact bodyPost_ret (res_ct Try.results44 rfl (end43 LE.out AO1_4.out) rfl) rfl ⟨rfl, below_setCells (HBE.out.trans (HB_4.out.mono HBE.out.size)) AO1_4.out.1⟩
set_option maxHeartbeats 2000000 in
set_option maxRecDepth 8000 in
theorem rdecode_c0 (b c : Nat) (w : World) (hb : b < 115792089237316195423570985008687907853269984665640564039457584007913129639936) (hc : b % 57896044618658097711785492504343953926634992332820282019728792003956564819968 = c) (ho : b / 57896044618658097711785492504343953926634992332820282019728792003956564819968 = 0) (hp : c < p) (hr : rt (xq c) * rt (xq c) % p = xq c) :
    Calls Try.prog 44 #[bv b] w fun e w' => e = .returned (.tuple #[pv (evn (rt (xq c))) c, .bool true]) ∧ Below w.heap.size w w' := by
  obtain ⟨n, hn⟩ : ∃ n, w.heap.size = n := ⟨_, rfl⟩
  obtain ⟨t1, t2, t3⟩ := top_bit b c 0 hc ho hb
  have lc : c < 115792089237316195423570985008687907853269984665640564039457584007913129639936 := by omega
  have hbl : by_ b 31 < 256 := Nat.mod_lt _ (by decide)
  have HEN : Hid (∀ j, j < 32 → upd (by_ b) 31 (by_ b 31 % 128) j = by_ c j) := t3
  have CO : Hid (∀ W : World, Rp W n 0 (bvc c) → Calls Try.prog 52 #[.slice (some ⟨n, 0, none⟩) 32 32] W fun e w' => ∃ v, e = .returned v ∧ Num w' v c ∧ Below W.heap.size W w') := fun W h => of32 c n W lc h
  have CC : Hid (∀ (W : World) (u v : Value), Num W u c → Num W v p → Calls Try.prog 51 #[u, v] W fun e w' => e = .returned (.int .i64 (cmpN c p)) ∧ Below W.heap.size W w') := fun W u v h1 h2 => cmp_num h1 h2 (pow64 lc) (by decide +kernel)
  have hc0 : cmpN c p = -1 := by unfold cmpN; rw [if_pos hp]
  rw [hc0] at CC
  clear hc0
  have CX : Hid (∀ (W : World) (u : Value), Num W u c → Calls Try.prog 79 #[u] W fun e w' => ∃ (A : Option Addr) (m cap : Nat), e = .returned (.tuple #[.slice A m cap, .bool true]) ∧ (Num w' (.slice A m cap) (evn (rt (xq c))) ∧ (m = 0 ↔ evn (rt (xq c)) = 0)) ∧ Below W.heap.size W w') := fun W u h => by
    have h2 := xOf_num h hp
    rw [decide_eq_true hr] at h2
    refine h2.mono fun e w' ⟨v, h3, h4, h5⟩ => ?_
    have h6 := h4.1 hr
    have h7 := h6
    obtain ⟨A, L, cap, rfl, _, _, hL⟩ := h7
    exact ⟨A, L.length, cap, h3, ⟨h6, hL.nil_iff⟩, h5⟩
  obtain ⟨X, hX⟩ : ∃ X, evn (rt (xq c)) = X := ⟨_, rfl⟩
  rw [hX] at CX ⊢
  have C3 : Hid (∀ (W : World) (u : Value), Num W u X → Calls Try.prog 16 #[u] W fun e w' => e = .returned (.agg (bvc X).toArray) ∧ Below W.heap.size W w') := fun W u h => bytes_num h
  have C4 : Hid (∀ (W : World) (u : Value), Num W u c → Calls Try.prog 16 #[u] W fun e w' => e = .returned (.agg (bvc c).toArray) ∧ Below W.heap.size W w') := fun W u h => bytes_num h
  have HBP : Hid (Try.prog.built 43 [(0, .agg (bvc X).toArray), (1, .agg (bvc c).toArray)] = some (bvc X ++ bvc c).toArray) := build_point _ _ (bvc_len _) (bvc_len _)
  have LE : Hid (L64 (bvc X ++ bvc c)) := l64 _ _
  have HRA : Hid (∀ {W : World} {g : Nat} {M : Nat → Nat}, Cs .u8 32 w.heap.size w W g M → (∀ j, j < 32 → M j = by_ c j) → W.rangeAt g 0 (bvc c)) := fun h1 h2 => h1.range _ h2
  have HS := (show Hid _ from start22c w b)
  unfold pv
  unfold bv
  obtain ⟨E, hE⟩ : ∃ Z, bvc X ++ bvc c = Z := ⟨_, rfl⟩
  rw [hE] at HBP LE ⊢
  clear hE
  obtain ⟨C, hC⟩ : ∃ Z, bvc c = Z := ⟨_, rfl⟩
  rw [hC] at CO HRA C4 HBP
  obtain ⟨FX, hFX⟩ : ∃ Z, bvc X = Z := ⟨_, rfl⟩
  rw [hFX] at C3 HBP
  clear hFX
  obtain ⟨D, hD⟩ : ∃ Z, bvc b = Z := ⟨_, rfl⟩
  rw [hD] at HS ⊢
  obtain ⟨B, hB⟩ : ∃ Z, by_ b = Z := ⟨_, rfl⟩
  rw [hB] at HS HEN hbl t1
  obtain ⟨b31, hb3⟩ : ∃ Z, B 31 = Z := ⟨_, rfl⟩
  have HB31 : Hid (B 31 = b31) := hb3
  rw [hb3] at HEN hbl t1
  obtain ⟨m31, hm3⟩ : ∃ Z, b31 % 128 = Z := ⟨_, rfl⟩
  rw [hm3] at HEN
  have x1 : ¬ (128 : Int) ≤ (b31 : Int) := by omega
  have HMB : Hid (m31 = b31) := by show _ = _; omega
  clear hC hD hB hb3 hm3 t1 t2 t3 hbl hc ho hb lc hp hr hX
  have hz43 := zero43
  obtain ⟨Z43, hZ43⟩ : ∃ Z, z43 = Z := ⟨_, rfl⟩
  rw [hZ43] at hz43 HS
  clear hZ43
  have HN : Hid (w.heap.size = n) := hn
  obtain ⟨we, hwe⟩ : ∃ v, (w.alloc (.cells D.toArray 22)).alloc (.cells Z43 43) = v := ⟨_, rfl⟩
  have HC0 : Hid (Cs .u8 32 w.heap.size w we n B) := by have h := HS.out.1; rw [hwe] at h; show Cs _ _ _ _ _ _ _; rw [HN.out] at h ⊢; exact h
  have AO : Hid (Ao w.heap.size we (n + 1) 64) := by have h := HS.out.2; rw [hwe] at h; show Ao _ _ _ _; rw [HN.out] at h ⊢; exact h
  clear HS
  have r0 := HC0.out.c 31 (by decide)
  rw [HB31.out] at r0
  have BC := (show Hid (Rp we n 0 C) from ⟨HRA.out HC0.out (fun j hj => by rw [← HEN.out j hj]; unfold upd; split <;> simp_all [HMB.out, HB31.out]), HC0.out.l.2⟩)
  have AO1 := AO
  have HBE := (show Hid (Below w.heap.size w we) from HC0.out.b)
  obtain ⟨ws, hws⟩ : ∃ v, we = v := ⟨_, rfl⟩
  subst hws
  clear HC0 AO HRA HEN HB31 HMB
  have BC_0 := BC
  have AO1_0 := AO1
  have HB_0 := (show Hid (Below we.heap.size we we) from Below.refl _ _)
  have TK_0 := (show Hid True from trivial)
  clear BC AO1
  go_enter Try.func44, Try.ntmps44
  go_wp2_with (first
    | (have hq := TK_0; go_at_call 52; refine (CO.out _ (BC_0.out)).mono ?_; rintro e w1 ⟨vy, rfl, hn, hb⟩; have HB_1 := (show Hid (Below we.heap.size we w1) from HB_0.out.trans (hb.mono HB_0.out.size)); have BC_1 := (show Hid (Rp w1 n 0 C) from BC_0.out.below hb); have AO1_1 := (show Hid (Ao w.heap.size w1 (n + 1) 64) from AO1_0.out.below hb); have NY_1 := (show Hid (Num w1 vy c) from hn); have TK_1 := (show Hid True from trivial); clear hq TK_0 hb HB_0 BC_0 AO1_0 hn)
    | (have hq := TK_1; go_at_call 56; refine (p_num _).mono ?_; rintro e w2 ⟨vp, rfl, hn, hb⟩; have HB_2 := (show Hid (Below we.heap.size we w2) from HB_1.out.trans (hb.mono HB_1.out.size)); have BC_2 := (show Hid (Rp w2 n 0 C) from BC_1.out.below hb); have AO1_2 := (show Hid (Ao w.heap.size w2 (n + 1) 64) from AO1_1.out.below hb); have NY_2 := (show Hid (Num w2 vy c) from NY_1.out.below hb); have NP_2 := (show Hid (Num w2 vp p) from hn); have TK_2 := (show Hid True from trivial); clear hq TK_1 hb HB_1 BC_1 AO1_1 NY_1 hn)
    | (have hq := TK_2; go_at_call 51; refine (CC.out _ _ _ (NY_2.out) (NP_2.out)).mono ?_; rintro e w3 ⟨rfl, hb⟩; have HB_3 := (show Hid (Below we.heap.size we w3) from HB_2.out.trans (hb.mono HB_2.out.size)); have BC_3 := (show Hid (Rp w3 n 0 C) from BC_2.out.below hb); have AO1_3 := (show Hid (Ao w.heap.size w3 (n + 1) 64) from AO1_2.out.below hb); have NY_3 := (show Hid (Num w3 vy c) from NY_2.out.below hb); have TK_3 := (show Hid True from trivial); clear hq TK_2 hb HB_2 BC_2 AO1_2 NY_2 NP_2)
    | (have hq := TK_3; go_at_call 79; refine (CX.out _ _ (NY_3.out)).mono ?_; rintro e w4 ⟨xa, xm, xc, rfl, ⟨hn, hm0⟩, hb⟩; have HB_4 := (show Hid (Below we.heap.size we w4) from HB_3.out.trans (hb.mono HB_3.out.size)); have BC_4 := (show Hid (Rp w4 n 0 C) from BC_3.out.below hb); have AO1_4 := (show Hid (Ao w.heap.size w4 (n + 1) 64) from AO1_3.out.below hb); have NY_4 := (show Hid (Num w4 vy c) from NY_3.out.below hb); have NX_4 := (show Hid (Num w4 (.slice xa xm xc) X) from hn); clear hm0; have TK_4 := (show Hid True from trivial); clear hq TK_3 hb HB_3 BC_3 AO1_3 NY_3 hn)
    | (have hq := TK_4; go_at_call 16; refine (C3.out _ _ (NX_4.out)).mono ?_; rintro e w5 ⟨rfl, hb⟩; have HB_5 := (show Hid (Below we.heap.size we w5) from HB_4.out.trans (hb.mono HB_4.out.size)); have BC_5 := (show Hid (Rp w5 n 0 C) from BC_4.out.below hb); have AO1_5 := (show Hid (Ao w.heap.size w5 (n + 1) 64) from AO1_4.out.below hb); have NY_5 := (show Hid (Num w5 vy c) from NY_4.out.below hb); have TK_5 := (show Hid True from trivial); clear hq TK_4 hb HB_4 BC_4 AO1_4 NY_4 NX_4)
    | (have hq := TK_5; go_at_call 16; refine (C4.out _ _ (NY_5.out)).mono ?_; rintro e w6 ⟨rfl, hb⟩; have HB_6 := (show Hid (Below we.heap.size we w6) from HB_5.out.trans (hb.mono HB_5.out.size)); have BC_6 := (show Hid (Rp w6 n 0 C) from BC_5.out.below hb); have AO1_6 := (show Hid (Ao w.heap.size w6 (n + 1) 64) from AO1_5.out.below hb); have NY_6 := (show Hid (Num w6 vy c) from NY_5.out.below hb); have TK_6 := (show Hid True from trivial); clear hq TK_5 hb HB_5 BC_5 AO1_5 NY_5)
    | (refine build_to rfl 43 _ rfl (some 46) rfl [(0, .agg FX.toArray), (1, .agg C.toArray)] (by kernel_rfl) E HBP.out ?_; simp only [Act.put, List.setIfInBounds_toArray, List.set_cons_zero, List.set_cons_succ])
    | (refine wpList_store_mid rfl 43 (.tmp 2) (.tmp 46) rfl (n + 1) 0 E.toArray rfl rfl (LE.out.t AO1_6.out) LE.out.j LE.out.o ?_; simp only))
  exact bodyPost_ret (res_ct Try.results44 rfl (end43 LE.out AO1_6.out) rfl) rfl ⟨rfl, below_setCells (HBE.out.trans (HB_6.out.mono HBE.out.size)) AO1_6.out.1⟩
set_option maxHeartbeats 2000000 in
set_option maxRecDepth 8000 in
theorem rdecode_d1 (b c : Nat) (w : World) (hb : b < 115792089237316195423570985008687907853269984665640564039457584007913129639936) (hc : b % 57896044618658097711785492504343953926634992332820282019728792003956564819968 = c) (ho : b / 57896044618658097711785492504343953926634992332820282019728792003956564819968 = 1) (hp : c < p) (hr : rt (xq c) * rt (xq c) % p = xq c) (h0 : evn (rt (xq c)) = 0) :
    Calls Try.prog 44 #[bv b] w fun e w' => e = .returned (.tuple #[pv 0 0, .bool false]) ∧ Below w.heap.size w w' := by
  obtain ⟨n, hn⟩ : ∃ n, w.heap.size = n := ⟨_, rfl⟩
  obtain ⟨t1, t2, t3⟩ := top_bit b c 1 hc ho hb
  have lc : c < 115792089237316195423570985008687907853269984665640564039457584007913129639936 := by omega
  have hbl : by_ b 31 < 256 := Nat.mod_lt _ (by decide)
  have HEN : Hid (∀ j, j < 32 → upd (by_ b) 31 (by_ b 31 % 128) j = by_ c j) := t3
  have CO : Hid (∀ W : World, Rp W n 0 (bvc c) → Calls Try.prog 52 #[.slice (some ⟨n, 0, none⟩) 32 32] W fun e w' => ∃ v, e = .returned v ∧ Num w' v c ∧ Below W.heap.size W w') := fun W h => of32 c n W lc h
  have CC : Hid (∀ (W : World) (u v : Value), Num W u c → Num W v p → Calls Try.prog 51 #[u, v] W fun e w' => e = .returned (.int .i64 (cmpN c p)) ∧ Below W.heap.size W w') := fun W u v h1 h2 => cmp_num h1 h2 (pow64 lc) (by decide +kernel)
  have hc0 : cmpN c p = -1 := by unfold cmpN; rw [if_pos hp]
  rw [hc0] at CC
  clear hc0
  have CX : Hid (∀ (W : World) (u : Value), Num W u c → Calls Try.prog 79 #[u] W fun e w' => ∃ (A : Option Addr) (m cap : Nat), e = .returned (.tuple #[.slice A m cap, .bool true]) ∧ (Num w' (.slice A m cap) (evn (rt (xq c))) ∧ (m = 0 ↔ evn (rt (xq c)) = 0)) ∧ Below W.heap.size W w') := fun W u h => by
    have h2 := xOf_num h hp
    rw [decide_eq_true hr] at h2
    refine h2.mono fun e w' ⟨v, h3, h4, h5⟩ => ?_
    have h6 := h4.1 hr
    have h7 := h6
    obtain ⟨A, L, cap, rfl, _, _, hL⟩ := h7
    exact ⟨A, L.length, cap, h3, ⟨h6, hL.nil_iff⟩, h5⟩
  obtain ⟨X, hX⟩ : ∃ X, evn (rt (xq c)) = X := ⟨_, rfl⟩
  rw [hX] at CX h0
  have HBP : Hid (Try.prog.built 43 [] = some (bvc 0 ++ bvc 0).toArray) := build_none
  have LE : Hid (L64 (bvc 0 ++ bvc 0)) := l64 _ _
  subst h0
  have HRA : Hid (∀ {W : World} {g : Nat} {M : Nat → Nat}, Cs .u8 32 w.heap.size w W g M → (∀ j, j < 32 → M j = by_ c j) → W.rangeAt g 0 (bvc c)) := fun h1 h2 => h1.range _ h2
  have HS := (show Hid _ from start22c w b)
  unfold pv
  unfold bv
  obtain ⟨E, hE⟩ : ∃ Z, bvc 0 ++ bvc 0 = Z := ⟨_, rfl⟩
  rw [hE] at HBP LE ⊢
  clear hE
  obtain ⟨C, hC⟩ : ∃ Z, bvc c = Z := ⟨_, rfl⟩
  rw [hC] at CO HRA
  obtain ⟨D, hD⟩ : ∃ Z, bvc b = Z := ⟨_, rfl⟩
  rw [hD] at HS ⊢
  obtain ⟨B, hB⟩ : ∃ Z, by_ b = Z := ⟨_, rfl⟩
  rw [hB] at HS HEN hbl t1
  obtain ⟨b31, hb3⟩ : ∃ Z, B 31 = Z := ⟨_, rfl⟩
  have HB31 : Hid (B 31 = b31) := hb3
  rw [hb3] at HEN hbl t1
  obtain ⟨m31, hm3⟩ : ∃ Z, b31 % 128 = Z := ⟨_, rfl⟩
  rw [hm3] at HEN
  have x1 : (128 : Int) ≤ (b31 : Int) := by omega
  have x2 : (b31 : Int) - 128 = (m31 : Int) := by omega
  have x3 : IntKind.u8.wrap (m31 : Int) = (m31 : Int) := by rw [IntKind.wrap_u8]; omega
  clear hC hD hB hb3 hm3 t1 t2 t3 hbl hc ho hb lc hp hr hX
  have hz43 := zero43
  obtain ⟨Z43, hZ43⟩ : ∃ Z, z43 = Z := ⟨_, rfl⟩
  rw [hZ43] at hz43 HS
  clear hZ43
  have HN : Hid (w.heap.size = n) := hn
  obtain ⟨we, hwe⟩ : ∃ v, (w.alloc (.cells D.toArray 22)).alloc (.cells Z43 43) = v := ⟨_, rfl⟩
  have HC0 : Hid (Cs .u8 32 w.heap.size w we n B) := by have h := HS.out.1; rw [hwe] at h; show Cs _ _ _ _ _ _ _; rw [HN.out] at h ⊢; exact h
  have AO : Hid (Ao w.heap.size we (n + 1) 64) := by have h := HS.out.2; rw [hwe] at h; show Ao _ _ _ _; rw [HN.out] at h ⊢; exact h
  clear HS
  have r0 := HC0.out.c 31 (by decide)
  rw [HB31.out] at r0
  have r1 := (HC0.out.t 31 (by decide)).2
  simp only [Nat.zero_add] at r1
  have HC1 := (show Hid (Cs .u8 32 w.heap.size w (we.setCell ⟨n, 31, none⟩ (.int .u8 (m31 : Int))) n (upd B 31 m31)) from HC0.out.set (by decide) m31)
  have BC := (show Hid (Rp (we.setCell ⟨n, 31, none⟩ (.int .u8 (m31 : Int))) n 0 C) from ⟨HRA.out HC1.out HEN.out, HC1.out.l.2⟩)
  have AO1 := (show Hid (Ao w.heap.size (we.setCell ⟨n, 31, none⟩ (.int .u8 (m31 : Int))) (n + 1) 64) from AO.out.set1 _)
  have HBE := (show Hid (Below w.heap.size w (we.setCell ⟨n, 31, none⟩ (.int .u8 (m31 : Int)))) from HC1.out.b)
  obtain ⟨ws, hws⟩ : ∃ v, we.setCell ⟨n, 31, none⟩ (.int .u8 (m31 : Int)) = v := ⟨_, rfl⟩
  rw [hws] at BC AO1 HBE
  clear HC1
  clear HC0 AO HRA HEN HB31
  have BC_0 := BC
  have AO1_0 := AO1
  have HB_0 := (show Hid (Below ws.heap.size ws ws) from Below.refl _ _)
  have TK_0 := (show Hid True from trivial)
  clear BC AO1
  go_enter Try.func44, Try.ntmps44
  go_wp2_with (first
    | (have hq := TK_0; go_at_call 52; refine (CO.out _ (BC_0.out)).mono ?_; rintro e w1 ⟨vy, rfl, hn, hb⟩; have HB_1 := (show Hid (Below ws.heap.size ws w1) from HB_0.out.trans (hb.mono HB_0.out.size)); have BC_1 := (show Hid (Rp w1 n 0 C) from BC_0.out.below hb); have AO1_1 := (show Hid (Ao w.heap.size w1 (n + 1) 64) from AO1_0.out.below hb); have NY_1 := (show Hid (Num w1 vy c) from hn); have TK_1 := (show Hid True from trivial); clear hq TK_0 hb HB_0 BC_0 AO1_0 hn)
    | (have hq := TK_1; go_at_call 56; refine (p_num _).mono ?_; rintro e w2 ⟨vp, rfl, hn, hb⟩; have HB_2 := (show Hid (Below ws.heap.size ws w2) from HB_1.out.trans (hb.mono HB_1.out.size)); have BC_2 := (show Hid (Rp w2 n 0 C) from BC_1.out.below hb); have AO1_2 := (show Hid (Ao w.heap.size w2 (n + 1) 64) from AO1_1.out.below hb); have NY_2 := (show Hid (Num w2 vy c) from NY_1.out.below hb); have NP_2 := (show Hid (Num w2 vp p) from hn); have TK_2 := (show Hid True from trivial); clear hq TK_1 hb HB_1 BC_1 AO1_1 NY_1 hn)
    | (have hq := TK_2; go_at_call 51; refine (CC.out _ _ _ (NY_2.out) (NP_2.out)).mono ?_; rintro e w3 ⟨rfl, hb⟩; have HB_3 := (show Hid (Below ws.heap.size ws w3) from HB_2.out.trans (hb.mono HB_2.out.size)); have BC_3 := (show Hid (Rp w3 n 0 C) from BC_2.out.below hb); have AO1_3 := (show Hid (Ao w.heap.size w3 (n + 1) 64) from AO1_2.out.below hb); have NY_3 := (show Hid (Num w3 vy c) from NY_2.out.below hb); have TK_3 := (show Hid True from trivial); clear hq TK_2 hb HB_2 BC_2 AO1_2 NY_2 NP_2)
    | (have hq := TK_3; go_at_call 79; refine (CX.out _ _ (NY_3.out)).mono ?_; rintro e w4 ⟨xa, xm, xc, rfl, ⟨hn, hm0⟩, hb⟩; have HB_4 := (show Hid (Below ws.heap.size ws w4) from HB_3.out.trans (hb.mono HB_3.out.size)); have BC_4 := (show Hid (Rp w4 n 0 C) from BC_3.out.below hb); have AO1_4 := (show Hid (Ao w.heap.size w4 (n + 1) 64) from AO1_3.out.below hb); have NY_4 := (show Hid (Num w4 vy c) from NY_3.out.below hb); have NX_4 := (show Hid (Num w4 (.slice xa xm xc) 0) from hn); have xm0 : xm = 0 := hm0.2 trivial; subst xm0; clear hm0; have TK_4 := (show Hid True from trivial); clear hq TK_3 hb HB_3 BC_3 AO1_3 NY_3 hn)
    | (refine build_to rfl 43 _ rfl (some 38) rfl [] (by kernel_rfl) E HBP.out ?_; simp only [Act.put, List.setIfInBounds_toArray, List.set_cons_zero, List.set_cons_succ])
    | (refine wpList_store_mid rfl 43 (.tmp 2) (.tmp 38) rfl (n + 1) 0 E.toArray rfl rfl (LE.out.t AO1_4.out) LE.out.j LE.out.o ?_; simp only))
  exact bodyPost_ret (res_ct Try.results44 rfl (end43 LE.out AO1_4.out) rfl) rfl ⟨rfl, below_setCells (HBE.out.trans (HB_4.out.mono HBE.out.size)) AO1_4.out.1⟩
set_option maxHeartbeats 2000000 in
set_option maxRecDepth 8000 in
theorem rdecode_e1 (b c : Nat) (w : World) (hb : b < 115792089237316195423570985008687907853269984665640564039457584007913129639936) (hc : b % 57896044618658097711785492504343953926634992332820282019728792003956564819968 = c) (ho : b / 57896044618658097711785492504343953926634992332820282019728792003956564819968 = 1) (hp : c < p) (hr : rt (xq c) * rt (xq c) % p = xq c) (h0 : ¬ evn (rt (xq c)) = 0) (hxl : evn (rt (xq c)) < p) :
    Calls Try.prog 44 #[bv b] w fun e w' => e = .returned (.tuple #[pv ((0 + p - evn (rt (xq c))) % p) c, .bool true]) ∧ Below w.heap.size w w' := by
  obtain ⟨n, hn⟩ : ∃ n, w.heap.size = n := ⟨_, rfl⟩
  obtain ⟨t1, t2, t3⟩ := top_bit b c 1 hc ho hb
  have lc : c < 115792089237316195423570985008687907853269984665640564039457584007913129639936 := by omega
  have hbl : by_ b 31 < 256 := Nat.mod_lt _ (by decide)
  have HEN : Hid (∀ j, j < 32 → upd (by_ b) 31 (by_ b 31 % 128) j = by_ c j) := t3
  have CO : Hid (∀ W : World, Rp W n 0 (bvc c) → Calls Try.prog 52 #[.slice (some ⟨n, 0, none⟩) 32 32] W fun e w' => ∃ v, e = .returned v ∧ Num w' v c ∧ Below W.heap.size W w') := fun W h => of32 c n W lc h
  have CC : Hid (∀ (W : World) (u v : Value), Num W u c → Num W v p → Calls Try.prog 51 #[u, v] W fun e w' => e = .returned (.int .i64 (cmpN c p)) ∧ Below W.heap.size W w') := fun W u v h1 h2 => cmp_num h1 h2 (pow64 lc) (by decide +kernel)
  have hc0 : cmpN c p = -1 := by unfold cmpN; rw [if_pos hp]
  rw [hc0] at CC
  clear hc0
  have CX : Hid (∀ (W : World) (u : Value), Num W u c → Calls Try.prog 79 #[u] W fun e w' => ∃ (A : Option Addr) (m cap : Nat), e = .returned (.tuple #[.slice A m cap, .bool true]) ∧ (Num w' (.slice A m cap) (evn (rt (xq c))) ∧ (m = 0 ↔ evn (rt (xq c)) = 0)) ∧ Below W.heap.size W w') := fun W u h => by
    have h2 := xOf_num h hp
    rw [decide_eq_true hr] at h2
    refine h2.mono fun e w' ⟨v, h3, h4, h5⟩ => ?_
    have h6 := h4.1 hr
    have h7 := h6
    obtain ⟨A, L, cap, rfl, _, _, hL⟩ := h7
    exact ⟨A, L.length, cap, h3, ⟨h6, hL.nil_iff⟩, h5⟩
  obtain ⟨X, hX⟩ : ∃ X, evn (rt (xq c)) = X := ⟨_, rfl⟩
  rw [hX] at CX ⊢ h0 hxl
  have CS : Hid (∀ (W : World) (u v : Value), Num W u 0 → Num W v X → Calls Try.prog 19 #[u, v] W fun e w' => ∃ r, e = .returned r ∧ Num w' r ((0 + p - X) % p) ∧ Below W.heap.size W w') := fun W u v h1 h2 => sub_num h1 h2 (by decide) hxl
  obtain ⟨Y, hY⟩ : ∃ Y, (0 + p - X) % p = Y := ⟨_, rfl⟩
  rw [hY] at CS ⊢
  have C3 : Hid (∀ (W : World) (u : Value), Num W u Y → Calls Try.prog 16 #[u] W fun e w' => e = .returned (.agg (bvc Y).toArray) ∧ Below W.heap.size W w') := fun W u h => bytes_num h
  have C4 : Hid (∀ (W : World) (u : Value), Num W u c → Calls Try.prog 16 #[u] W fun e w' => e = .returned (.agg (bvc c).toArray) ∧ Below W.heap.size W w') := fun W u h => bytes_num h
  have HBP : Hid (Try.prog.built 43 [(0, .agg (bvc Y).toArray), (1, .agg (bvc c).toArray)] = some (bvc Y ++ bvc c).toArray) := build_point _ _ (bvc_len _) (bvc_len _)
  have LE : Hid (L64 (bvc Y ++ bvc c)) := l64 _ _
  have HRA : Hid (∀ {W : World} {g : Nat} {M : Nat → Nat}, Cs .u8 32 w.heap.size w W g M → (∀ j, j < 32 → M j = by_ c j) → W.rangeAt g 0 (bvc c)) := fun h1 h2 => h1.range _ h2
  have HS := (show Hid _ from start22c w b)
  unfold pv
  unfold bv
  obtain ⟨E, hE⟩ : ∃ Z, bvc Y ++ bvc c = Z := ⟨_, rfl⟩
  rw [hE] at HBP LE ⊢
  clear hE
  obtain ⟨C, hC⟩ : ∃ Z, bvc c = Z := ⟨_, rfl⟩
  rw [hC] at CO HRA C4 HBP
  obtain ⟨FX, hFX⟩ : ∃ Z, bvc Y = Z := ⟨_, rfl⟩
  rw [hFX] at C3 HBP
  clear hFX
  obtain ⟨D, hD⟩ : ∃ Z, bvc b = Z := ⟨_, rfl⟩
  rw [hD] at HS ⊢
  obtain ⟨B, hB⟩ : ∃ Z, by_ b = Z := ⟨_, rfl⟩
  rw [hB] at HS HEN hbl t1
  obtain ⟨b31, hb3⟩ : ∃ Z, B 31 = Z := ⟨_, rfl⟩
  have HB31 : Hid (B 31 = b31) := hb3
  rw [hb3] at HEN hbl t1
  obtain ⟨m31, hm3⟩ : ∃ Z, b31 % 128 = Z := ⟨_, rfl⟩
  rw [hm3] at HEN
  have x1 : (128 : Int) ≤ (b31 : Int) := by omega
  have x2 : (b31 : Int) - 128 = (m31 : Int) := by omega
  have x3 : IntKind.u8.wrap (m31 : Int) = (m31 : Int) := by rw [IntKind.wrap_u8]; omega
  clear hC hD hB hb3 hm3 t1 t2 t3 hbl hc ho hb lc hp hr hX hY hxl
  have hz43 := zero43
  obtain ⟨Z43, hZ43⟩ : ∃ Z, z43 = Z := ⟨_, rfl⟩
  rw [hZ43] at hz43 HS
  clear hZ43
  have HN : Hid (w.heap.size = n) := hn
  obtain ⟨we, hwe⟩ : ∃ v, (w.alloc (.cells D.toArray 22)).alloc (.cells Z43 43) = v := ⟨_, rfl⟩
  have HC0 : Hid (Cs .u8 32 w.heap.size w we n B) := by have h := HS.out.1; rw [hwe] at h; show Cs _ _ _ _ _ _ _; rw [HN.out] at h ⊢; exact h
  have AO : Hid (Ao w.heap.size we (n + 1) 64) := by have h := HS.out.2; rw [hwe] at h; show Ao _ _ _ _; rw [HN.out] at h ⊢; exact h
  clear HS
  have r0 := HC0.out.c 31 (by decide)
  rw [HB31.out] at r0
  have r1 := (HC0.out.t 31 (by decide)).2
  simp only [Nat.zero_add] at r1
  have HC1 := (show Hid (Cs .u8 32 w.heap.size w (we.setCell ⟨n, 31, none⟩ (.int .u8 (m31 : Int))) n (upd B 31 m31)) from HC0.out.set (by decide) m31)
  have BC := (show Hid (Rp (we.setCell ⟨n, 31, none⟩ (.int .u8 (m31 : Int))) n 0 C) from ⟨HRA.out HC1.out HEN.out, HC1.out.l.2⟩)
  have AO1 := (show Hid (Ao w.heap.size (we.setCell ⟨n, 31, none⟩ (.int .u8 (m31 : Int))) (n + 1) 64) from AO.out.set1 _)
  have HBE := (show Hid (Below w.heap.size w (we.setCell ⟨n, 31, none⟩ (.int .u8 (m31 : Int)))) from HC1.out.b)
  obtain ⟨ws, hws⟩ : ∃ v, we.setCell ⟨n, 31, none⟩ (.int .u8 (m31 : Int)) = v := ⟨_, rfl⟩
  rw [hws] at BC AO1 HBE
  clear HC1
  clear HC0 AO HRA HEN HB31
  have BC_0 := BC
  have AO1_0 := AO1
  have HB_0 := (show Hid (Below ws.heap.size ws ws) from Below.refl _ _)
  have TK_0 := (show Hid True from trivial)
  clear BC AO1
  go_enter Try.func44, Try.ntmps44
  go_wp2_with (first
    | (have hq := TK_0; go_at_call 52; refine (CO.out _ (BC_0.out)).mono ?_; rintro e w1 ⟨vy, rfl, hn, hb⟩; have HB_1 := (show Hid (Below ws.heap.size ws w1) from HB_0.out.trans (hb.mono HB_0.out.size)); have BC_1 := (show Hid (Rp w1 n 0 C) from BC_0.out.below hb); have AO1_1 := (show Hid (Ao w.heap.size w1 (n + 1) 64) from AO1_0.out.below hb); have NY_1 := (show Hid (Num w1 vy c) from hn); have TK_1 := (show Hid True from trivial); clear hq TK_0 hb HB_0 BC_0 AO1_0 hn)
    | (have hq := TK_1; go_at_call 56; refine (p_num _).mono ?_; rintro e w2 ⟨vp, rfl, hn, hb⟩; have HB_2 := (show Hid (Below ws.heap.size ws w2) from HB_1.out.trans (hb.mono HB_1.out.size)); have BC_2 := (show Hid (Rp w2 n 0 C) from BC_1.out.below hb); have AO1_2 := (show Hid (Ao w.heap.size w2 (n + 1) 64) from AO1_1.out.below hb); have NY_2 := (show Hid (Num w2 vy c) from NY_1.out.below hb); have NP_2 := (show Hid (Num w2 vp p) from hn); have TK_2 := (show Hid True from trivial); clear hq TK_1 hb HB_1 BC_1 AO1_1 NY_1 hn)
    | (have hq := TK_2; go_at_call 51; refine (CC.out _ _ _ (NY_2.out) (NP_2.out)).mono ?_; rintro e w3 ⟨rfl, hb⟩; have HB_3 := (show Hid (Below ws.heap.size ws w3) from HB_2.out.trans (hb.mono HB_2.out.size)); have BC_3 := (show Hid (Rp w3 n 0 C) from BC_2.out.below hb); have AO1_3 := (show Hid (Ao w.heap.size w3 (n + 1) 64) from AO1_2.out.below hb); have NY_3 := (show Hid (Num w3 vy c) from NY_2.out.below hb); have TK_3 := (show Hid True from trivial); clear hq TK_2 hb HB_2 BC_2 AO1_2 NY_2 NP_2)
    | (have hq := TK_3; go_at_call 79; refine (CX.out _ _ (NY_3.out)).mono ?_; rintro e w4 ⟨xa, xm, xc, rfl, ⟨hn, hm0⟩, hb⟩; have HB_4 := (show Hid (Below ws.heap.size ws w4) from HB_3.out.trans (hb.mono HB_3.out.size)); have BC_4 := (show Hid (Rp w4 n 0 C) from BC_3.out.below hb); have AO1_4 := (show Hid (Ao w.heap.size w4 (n + 1) 64) from AO1_3.out.below hb); have NY_4 := (show Hid (Num w4 vy c) from NY_3.out.below hb); have NX_4 := (show Hid (Num w4 (.slice xa xm xc) X) from hn); have xm0 : ¬ xm = 0 := fun h => h0 (hm0.1 h); have xm1 : ¬ (xm : Int) = 0 := (by omega); clear hm0; have TK_4 := (show Hid True from trivial); clear hq TK_3 hb HB_3 BC_3 AO1_3 NY_3 hn)
    | (have hq := TK_4; go_at_call 19; refine (CS.out _ _ _ (Num.zero _) (NX_4.out)).mono ?_; rintro e w5 ⟨vf, rfl, hn, hb⟩; have HB_5 := (show Hid (Below ws.heap.size ws w5) from HB_4.out.trans (hb.mono HB_4.out.size)); have BC_5 := (show Hid (Rp w5 n 0 C) from BC_4.out.below hb); have AO1_5 := (show Hid (Ao w.heap.size w5 (n + 1) 64) from AO1_4.out.below hb); have NY_5 := (show Hid (Num w5 vy c) from NY_4.out.below hb); have NF_5 := (show Hid (Num w5 vf Y) from hn); have TK_5 := (show Hid True from trivial); clear hq TK_4 hb HB_4 BC_4 AO1_4 NY_4 NX_4 hn)
    | (have hq := TK_5; go_at_call 16; refine (C3.out _ _ (NF_5.out)).mono ?_; rintro e w6 ⟨rfl, hb⟩; have HB_6 := (show Hid (Below ws.heap.size ws w6) from HB_5.out.trans (hb.mono HB_5.out.size)); have BC_6 := (show Hid (Rp w6 n 0 C) from BC_5.out.below hb); have AO1_6 := (show Hid (Ao w.heap.size w6 (n + 1) 64) from AO1_5.out.below hb); have NY_6 := (show Hid (Num w6 vy c) from NY_5.out.below hb); have TK_6 := (show Hid True from trivial); clear hq TK_5 hb HB_5 BC_5 AO1_5 NY_5 NF_5)
    | (have hq := TK_6; go_at_call 16; refine (C4.out _ _ (NY_6.out)).mono ?_; rintro e w7 ⟨rfl, hb⟩; have HB_7 := (show Hid (Below ws.heap.size ws w7) from HB_6.out.trans (hb.mono HB_6.out.size)); have BC_7 := (show Hid (Rp w7 n 0 C) from BC_6.out.below hb); have AO1_7 := (show Hid (Ao w.heap.size w7 (n + 1) 64) from AO1_6.out.below hb); have NY_7 := (show Hid (Num w7 vy c) from NY_6.out.below hb); have TK_7 := (show Hid True from trivial); clear hq TK_6 hb HB_6 BC_6 AO1_6 NY_6)
    | (refine build_to rfl 43 _ rfl (some 46) rfl [(0, .agg FX.toArray), (1, .agg C.toArray)] (by kernel_rfl) E HBP.out ?_; simp only [Act.put, List.setIfInBounds_toArray, List.set_cons_zero, List.set_cons_succ])
    | (refine wpList_store_mid rfl 43 (.tmp 2) (.tmp 46) rfl (n + 1) 0 E.toArray rfl rfl (LE.out.t AO1_7.out) LE.out.j LE.out.o ?_; simp only))
  exact bodyPost_ret (res_ct Try.results44 rfl (end43 LE.out AO1_7.out) rfl) rfl ⟨rfl, below_setCells (HBE.out.trans (HB_7.out.mono HBE.out.size)) AO1_7.out.1⟩
end Dt
end Go.Proofs.Ytgdekigdbbldoaa

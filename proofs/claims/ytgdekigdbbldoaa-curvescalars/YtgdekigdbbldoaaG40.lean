/- The reference's MulAdd: a contract, by walking its text. CurveScalars: the walk. -/
import Derived.Test.YtgdekigdbbldoaaG39
import Derived.Deep.RegionHeld
namespace Go.Proofs.Ytgdekigdbbldoaa
open Go.RowKit
namespace Dt
open Rg Go.Proofs.Ytgdekigdbbldoaa.Fd

theorem of32 (x b : Nat) (W : World) (hx : x < 115792089237316195423570985008687907853269984665640564039457584007913129639936) (hr : Rp W b 0 (bvc x)) : Calls Try.prog 52 #[.slice (some ⟨b, 0, none⟩) 32 32] W fun e w' => ∃ v, e = .returned v ∧ Num w' v x ∧ Below W.heap.size W w' := by
  have hv : ofB (bl x 32) = x := by rw [ofB_bl, b256, Nat.mod_eq_of_lt (by rw [← two256]; exact hx)]
  have h := of_any (some ⟨b, 0, none⟩) (bl x 32) 32 W (.inr ⟨_, _, rfl, hr.2, by rw [← bvc_bc]; exact hr.1⟩) (bl_lt x 32) (by rw [bl_len]; decide)
  rwa [hv, bl_len] at h
theorem mul_64 {x y z : Nat} (hx : x < 115792089237316195423570985008687907853269984665640564039457584007913129639936) (hy : y < 115792089237316195423570985008687907853269984665640564039457584007913129639936) (hz : z < 115792089237316195423570985008687907853269984665640564039457584007913129639936) : x * y + z < 16777216 ^ 64 := by
  have h := Nat.mul_le_mul (Nat.le_of_lt hx) (Nat.le_of_lt hy)
  have h2 : 115792089237316195423570985008687907853269984665640564039457584007913129639936 * 115792089237316195423570985008687907853269984665640564039457584007913129639936 + 115792089237316195423570985008687907853269984665640564039457584007913129639936 < 16777216 ^ 64 := by decide +kernel
  omega
set_option maxHeartbeats 1000000 in
set_option maxRecDepth 4000 in
theorem rmulAdd_any (x y z : Nat) (w : World) (hx : x < 115792089237316195423570985008687907853269984665640564039457584007913129639936) (hy : y < 115792089237316195423570985008687907853269984665640564039457584007913129639936) (hz : z < 115792089237316195423570985008687907853269984665640564039457584007913129639936) :
    Calls Try.prog 54 #[bv x, bv y, bv z] w fun e w' => e = .returned (bv ((x * y + z) % ell)) ∧ Below w.heap.size w w' := by
  obtain ⟨n, hn⟩ : ∃ n, w.heap.size = n := ⟨_, rfl⟩
  have CX : Hid (∀ W : World, Rp W n 0 (bvc x) → Calls Try.prog 52 #[.slice (some ⟨n, 0, none⟩) 32 32] W fun e w' => ∃ v, e = .returned v ∧ Num w' v x ∧ Below W.heap.size W w') := fun W h => of32 x n W hx h
  have CY : Hid (∀ W : World, Rp W (n + 1) 0 (bvc y) → Calls Try.prog 52 #[.slice (some ⟨n + 1, 0, none⟩) 32 32] W fun e w' => ∃ v, e = .returned v ∧ Num w' v y ∧ Below W.heap.size W w') := fun W h => of32 y (n + 1) W hy h
  have CZ : Hid (∀ W : World, Rp W (n + 2) 0 (bvc z) → Calls Try.prog 52 #[.slice (some ⟨n + 2, 0, none⟩) 32 32] W fun e w' => ∃ v, e = .returned v ∧ Num w' v z ∧ Below W.heap.size W w') := fun W h => of32 z (n + 2) W hz h
  have hxy := mul_64 hx hy hz
  have CM : Hid (∀ (W : World) (u v : Value), Num W u x → Num W v y → Calls Try.prog 93 #[u, v] W fun e w' => ∃ v, e = .returned v ∧ Num w' v (x * y) ∧ Below W.heap.size W w') := fun W u v h1 h2 => product_num h1 h2 (pow64 hx) (pow64 hy)
  have CP : Hid (∀ (W : World) (u v : Value), Num W u (x * y) → Num W v z → Calls Try.prog 73 #[u, v] W fun e w' => ∃ v, e = .returned v ∧ Num w' v (x * y + z) ∧ Below W.heap.size W w') := fun W u v h1 h2 => plus_num h1 h2 (by omega) (pow64 hz)
  have CR : Hid (∀ (W : World) (u : Value), Num W u (x * y + z) → Calls Try.prog 55 #[u] W fun e w' => ∃ v, e = .returned v ∧ Num w' v ((x * y + z) % ell) ∧ Below W.heap.size W w') := fun W u h1 => rest_num h1 hxy
  obtain ⟨m, hm⟩ : ∃ m, x * y = m := ⟨_, rfl⟩
  rw [hm] at CM CP CR ⊢
  obtain ⟨s, hs⟩ : ∃ s, m + z = s := ⟨_, rfl⟩
  rw [hs] at CP CR ⊢
  obtain ⟨r, hr⟩ : ∃ r, s % ell = r := ⟨_, rfl⟩
  rw [hr] at CR ⊢
  have CB : Hid (∀ (W : World) (u : Value), Num W u r → Calls Try.prog 16 #[u] W fun e w' => e = .returned (.agg (bvc r).toArray) ∧ Below W.heap.size W w') := fun W u h => bytes_num h
  unfold bv
  have LR : Hid (L32 (bvc r)) := l32 r
  have HS0 := (show Hid _ from start3 w (bvc x) (bvc y) (bvc z))
  obtain ⟨X, hX⟩ : ∃ R, bvc x = R := ⟨_, rfl⟩
  obtain ⟨Y, hY⟩ : ∃ R, bvc y = R := ⟨_, rfl⟩
  obtain ⟨Z, hZ⟩ : ∃ R, bvc z = R := ⟨_, rfl⟩
  obtain ⟨R, hR⟩ : ∃ R, bvc r = R := ⟨_, rfl⟩
  rw [hX] at CX HS0 ⊢
  rw [hY] at CY HS0 ⊢
  rw [hZ] at CZ HS0 ⊢
  rw [hR] at CB LR ⊢
  clear hX hY hZ hR hr hs hm hxy hx hy hz
  have hz22 := zero22
  obtain ⟨Z2, hZ2⟩ : ∃ Z, z22 = Z := ⟨_, rfl⟩
  rw [hZ2] at hz22 HS0
  clear hZ2
  have HN : Hid (w.heap.size = n) := hn
  obtain ⟨we, hwe⟩ : ∃ v, (((w.alloc (.cells X.toArray 22)).alloc (.cells Y.toArray 22)).alloc (.cells Z.toArray 22)).alloc (.cells Z2 22) = v := ⟨_, rfl⟩
  have HS1 : Hid (Rp we n 0 X ∧ Rp we (n + 1) 0 Y ∧ Rp we (n + 2) 0 Z ∧ Ao w.heap.size we (n + 3) 32 ∧ Below w.heap.size w we) := by
    have h := HS0.out
    rw [hwe, HN.out] at h
    show _ ∧ _
    rw [HN.out]
    exact h
  clear HS0
  have HX : Hid (Rp we n 0 X) := HS1.out.1
  have HY : Hid (Rp we (n + 1) 0 Y) := HS1.out.2.1
  have HZ : Hid (Rp we (n + 2) 0 Z) := HS1.out.2.2.1
  have HA : Hid (Ao w.heap.size we (n + 3) 32) := HS1.out.2.2.2.1
  have HBE : Hid (Below w.heap.size w we) := HS1.out.2.2.2.2
  clear HS1
  go_enter Try.func54, Try.ntmps54
  go_wp2
  clear hwe
  refine wp_region_held_drew (S := fun w' => Below we.heap.size we w') (by kernel_rfl) (drewB we) (fun hS => ?_)
  refine wpAnyH_take (i := 0) (v := .slice (some ⟨n, 0, none⟩) 32 32) rfl (by kernel_rfl) (by kernel_rfl) (by kernel_rfl) (fun _ _ _ h => h) (Or.inl ⟨by kernel_rfl, fun wq hS => by go_simp⟩) hS ?_
  try simp only [Act.put, List.setIfInBounds_toArray, List.set_cons_zero, List.set_cons_succ, List.getElem_toArray, List.getElem_cons_zero]
  refine wpAnyH_take (i := 2) (v := .slice (some ⟨n + 1, 0, none⟩) 32 32) rfl (by kernel_rfl) (by kernel_rfl) (by kernel_rfl) (fun _ _ _ h => h) (Or.inl ⟨by kernel_rfl, fun wq hS => by go_simp⟩) hS ?_
  try simp only [Act.put, List.setIfInBounds_toArray, List.set_cons_zero, List.set_cons_succ, List.getElem_toArray, List.getElem_cons_succ, List.getElem_cons_zero]
  refine wpAnyH_ready (rs := [1]) (by kernel_rfl) (by simp) ?_
  refine AllReadyH.cons rfl (fun K hK => ?_) AllReadyH.nil
  go_simp
  refine (CX.out _ (HX.out.below hS)).mono ?_
  rintro e wh1 ⟨vx, rfl, hn1, hb⟩
  have NX_1 := (show Hid (Num wh1 vx x) from hn1)
  have hS2 : Below we.heap.size we wh1 := hS.trans (hb.mono hS.size)
  refine hK.out _ _ hS2 (fun hS => ?_)
  clear hK K hb hS2  hn1
  try simp only [Act.put, List.setIfInBounds_toArray, List.set_cons_zero, List.set_cons_succ, List.getElem_toArray, List.getElem_cons_succ, List.getElem_cons_zero]
  refine wpAnyH_ready (rs := [3]) (by kernel_rfl) (by simp) ?_
  refine AllReadyH.cons rfl (fun K hK => ?_) AllReadyH.nil
  go_simp
  refine (CY.out _ (HY.out.below hS)).mono ?_
  rintro e wh2 ⟨vy, rfl, hn1, hb⟩
  have NX_2 := (show Hid (Num wh2 vx x) from NX_1.out.below hb)
  have NY_2 := (show Hid (Num wh2 vy y) from hn1)
  have hS2 : Below we.heap.size we wh2 := hS.trans (hb.mono hS.size)
  refine hK.out _ _ hS2 (fun hS => ?_)
  clear hK K hb hS2 NX_1 hn1
  try simp only [Act.put, List.setIfInBounds_toArray, List.set_cons_zero, List.set_cons_succ, List.getElem_toArray, List.getElem_cons_succ, List.getElem_cons_zero]
  refine wpAnyH_ready (rs := [4]) (by kernel_rfl) (by simp) ?_
  refine AllReadyH.cons rfl (fun K hK => ?_) AllReadyH.nil
  go_simp
  refine (CM.out _ _ _ (NX_2.out) (NY_2.out)).mono ?_
  rintro e wh3 ⟨vm, rfl, hn1, hb⟩
  have NX_3 := (show Hid (Num wh3 vx x) from NX_2.out.below hb)
  have NY_3 := (show Hid (Num wh3 vy y) from NY_2.out.below hb)
  have NM_3 := (show Hid (Num wh3 vm m) from hn1)
  have hS2 : Below we.heap.size we wh3 := hS.trans (hb.mono hS.size)
  refine hK.out _ _ hS2 (fun hS => ?_)
  clear hK K hb hS2 NX_2 NY_2 hn1
  try simp only [Act.put, List.setIfInBounds_toArray, List.set_cons_zero, List.set_cons_succ, List.getElem_toArray, List.getElem_cons_succ, List.getElem_cons_zero]
  refine wpAnyH_ready (rs := [5]) (by kernel_rfl) (by simp) ?_
  refine AllReadyH.cons rfl (fun K hK => ?_) AllReadyH.nil
  go_simp
  refine hK.out _ _ hS (fun hS => ?_)
  clear hK K
  try simp only [Act.put, List.setIfInBounds_toArray, List.set_cons_zero, List.set_cons_succ, List.getElem_toArray, List.getElem_cons_succ, List.getElem_cons_zero]
  refine wpAnyH_done (by kernel_rfl) ?_ _
  have HBF := (show Hid _ from HBE.out.trans (hS.mono HBE.out.size))
  have HZ1 := (show Hid (Rp wh3 (n + 2) 0 Z) from HZ.out.below hS)
  have HA1 := (show Hid (Ao w.heap.size wh3 (n + 3) 32) from HA.out.below hS)
  have HM1 := (show Hid (Num wh3 vm m) from NM_3.out)
  clear HX HY HZ HA NX_3 NY_3 NM_3 hS HBE
  have HZ1_0 := HZ1
  have HA1_0 := HA1
  have HM1_0 := HM1
  have HB_0 := (show Hid (Below wh3.heap.size wh3 wh3) from Below.refl _ _)
  have TK_0 := (show Hid True from trivial)
  clear HZ1 HA1 HM1
  go_wp2_with (first
    | (have hq := TK_0; go_at_call 52; refine (CZ.out _ (HZ1_0.out)).mono ?_; rintro e w1 ⟨vz, rfl, hn, hb⟩; have HB_1 := (show Hid (Below wh3.heap.size wh3 w1) from HB_0.out.trans (hb.mono HB_0.out.size)); have HZ1_1 := (show Hid (Rp w1 (n + 2) 0 Z) from HZ1_0.out.below hb); have HA1_1 := (show Hid (Ao w.heap.size w1 (n + 3) 32) from HA1_0.out.below hb); have HM1_1 := (show Hid (Num w1 vm m) from HM1_0.out.below hb); have NZ_1 := (show Hid (Num w1 vz z) from hn); have TK_1 := (show Hid True from trivial); clear hq TK_0 hb HB_0 HZ1_0 HA1_0 HM1_0 hn)
    | (have hq := TK_1; go_at_call 73; refine (CP.out _ _ _ (HM1_1.out) (NZ_1.out)).mono ?_; rintro e w2 ⟨vs, rfl, hn, hb⟩; have HB_2 := (show Hid (Below wh3.heap.size wh3 w2) from HB_1.out.trans (hb.mono HB_1.out.size)); have HA1_2 := (show Hid (Ao w.heap.size w2 (n + 3) 32) from HA1_1.out.below hb); have NS_2 := (show Hid (Num w2 vs s) from hn); have TK_2 := (show Hid True from trivial); clear hq TK_1 hb HB_1 HZ1_1 HA1_1 HM1_1 NZ_1 hn)
    | (have hq := TK_2; go_at_call 55; refine (CR.out _ _ (NS_2.out)).mono ?_; rintro e w3 ⟨vr, rfl, hn, hb⟩; have HB_3 := (show Hid (Below wh3.heap.size wh3 w3) from HB_2.out.trans (hb.mono HB_2.out.size)); have HA1_3 := (show Hid (Ao w.heap.size w3 (n + 3) 32) from HA1_2.out.below hb); have NR_3 := (show Hid (Num w3 vr r) from hn); have TK_3 := (show Hid True from trivial); clear hq TK_2 hb HB_2 HA1_2 NS_2 hn)
    | (have hq := TK_3; go_at_call 16; refine (CB.out _ _ (NR_3.out)).mono ?_; rintro e w4 ⟨rfl, hb⟩; have HB_4 := (show Hid (Below wh3.heap.size wh3 w4) from HB_3.out.trans (hb.mono HB_3.out.size)); have HA1_4 := (show Hid (Ao w.heap.size w4 (n + 3) 32) from HA1_3.out.below hb); have HT := (show Hid _ from LR.out.s HA1_4.out); have TK_4 := (show Hid True from trivial); clear hq TK_3 hb HB_3 HA1_3 NR_3)
    | (refine wpList_store_mid rfl 22 (.tmp 6) (.tmp 18) rfl (n + 3) 0 R.toArray rfl rfl HT.out LR.out.j LR.out.o ?_; simp only))
  exact bodyPost_ret (results_cell Try.results54 rfl (end22 LR.out HA1_4.out)) rfl ⟨rfl, below_setCells (HBF.out.trans (HB_4.out.mono HBF.out.size)) HA1_4.out.1⟩
end Dt
end Go.Proofs.Ytgdekigdbbldoaa

namespace Go.Proofs.Ytgdekigdbbldoaa
open Go.RowKit
namespace Fd
open Rg

/-- Two boxes of 32 bytes. -/
theorem start2b (w : World) (X Y : List Value) :
    let e := (w.alloc (.cells X.toArray 22)).alloc (.cells Y.toArray 22)
    Rp e w.heap.size 0 X ∧ Rp e (w.heap.size + 1) 0 Y ∧ Below w.heap.size w e := by
  intro e
  have s2 : e.heap.size = w.heap.size + 2 := by show (World.alloc _ _).heap.size = _; rw [size_alloc, size_alloc]
  exact ⟨⟨World.rangeAt_alloc (Rg.range_new w X 22) _, by omega⟩, ⟨range_new1 w _ Y 22, by omega⟩, ((Below.refl _ _).alloc (Nat.le_refl _) _).alloc (by simp) _⟩
theorem eq22_same (x : Nat) (hx : x < 115792089237316195423570985008687907853269984665640564039457584007913129639936) (W : World) : (Op.equalIn 10000 22 (.agg (bvc x).toArray) (.agg (bvc x).toArray)).run Try.prog W = .ok true W := by have h := eq22 x x W hx hx; rwa [decide_eq_true rfl] at h
theorem mod_ell (x : Nat) : x % ell < 115792089237316195423570985008687907853269984665640564039457584007913129639936 := Nat.lt_trans (Nat.mod_lt _ (by decide)) ell_lt
set_option maxHeartbeats 4000000 in
set_option maxRecDepth 8000 in
theorem scal_long_low (A : Option Addr) (m cap x y : Nat) (hm : 64 < m) (lx : x < 115792089237316195423570985008687907853269984665640564039457584007913129639936) (ly : y < 115792089237316195423570985008687907853269984665640564039457584007913129639936) (hlow : x < ell) (w : World) :
    Calls Try.prog 11 #[.slice A m cap, bv x, bv y] w fun e w' => e = .returned (.bool true) ∧ Below w.heap.size w w' := by
  obtain ⟨n, hn⟩ : ∃ n, w.heap.size = n := ⟨_, rfl⟩
  obtain ⟨s, hs⟩ : ∃ s, 0 = s := ⟨_, rfl⟩
  have ls : s < 115792089237316195423570985008687907853269984665640564039457584007913129639936 := by rw [← hs]; decide
  have CS : Hid (∀ W : World, Calls Try.prog 48 #[.slice A m cap] W fun e w' => e = .returned (.tuple #[bv s, .iface 35 (.int .i64 2)]) ∧ Below W.heap.size W w') := fun W => by rw [← hs]; exact scalar_long A m cap W hm
  have cz : ∀ W : World, Calls Try.prog 46 #[.int .u8 0] W fun e w' => e = .returned (bv s) ∧ Below W.heap.size W w' := fun W => by rw [← hs]; exact small7_any 0 W (by decide)
  have e2 : ∀ W : World, (binOp .eql 32 (.iface 35 (.int .i64 2)) (.iface 35 (.int .i64 2))).run Try.prog W = .ok (.bool true) W := fun W => bin_err 2 2 W
  have cS := shown7_any
  have cL : ∀ W : World, Calls Try.prog 49 #[bv x] W fun e w' => e = .returned (.bool true) ∧ Below W.heap.size W w' := fun W => by have h := low_any x W lx; rwa [decide_eq_true hlow] at h
  have cM : ∀ W : World, Calls Try.prog 50 #[bv x, bv y, bv s] W fun e w' => e = .returned (bv ((x * y + s) % ell)) ∧ Below W.heap.size W w' := fun W => mulAdd_any x y s W lx ly ls
  have cN : ∀ W : World, Calls Try.prog 54 #[bv x, bv y, bv s] W fun e w' => e = .returned (bv ((x * y + s) % ell)) ∧ Below W.heap.size W w' := fun W => Dt.rmulAdd_any x y s W lx ly ls
  have CX : Hid (∀ W : World, Rp W n 0 (bvc x) → Calls Try.prog 52 #[.slice (some ⟨n, 0, none⟩) 32 32] W fun e w' => ∃ v, e = .returned v ∧ Dt.Num w' v x ∧ Below W.heap.size W w') := fun W h => Dt.of32 x n W lx h
  have CC : Hid (∀ (W : World) (u v : Value), Dt.Num W u x → Dt.Num W v ell → Calls Try.prog 51 #[u, v] W fun e w' => e = .returned (.int .i64 (Dt.cmpN x ell)) ∧ Below W.heap.size W w') := fun W u v h1 h2 => Dt.cmp_num h1 h2 (Dt.pow64 lx) (Dt.pow64 ell_lt)
  have hc : Dt.cmpN x ell = -1 := by unfold Dt.cmpN; rw [if_pos hlow]
  rw [hc] at CC
  obtain ⟨r, hr⟩ : ∃ r, (x * y + s) % ell = r := ⟨_, rfl⟩
  have lr : r < 115792089237316195423570985008687907853269984665640564039457584007913129639936 := by rw [← hr]; exact mod_ell _
  rw [hr] at cM cN
  have qR := eq22_same r lr
  have qS := eq22_same s ls
  have LX : Hid (L32 (bvc x)) := l32 x
  have LY : Hid (L32 (bvc y)) := l32 y
  have LS : Hid (L32 (bvc s)) := l32 s
  have LR : Hid (L32 (bvc r)) := l32 r
  unfold bv at CS cL cM cN cz ⊢
  have HS0 := (show Hid _ from start2b w (bvc x) (bvc y))
  obtain ⟨X, hX⟩ : ∃ X, bvc x = X := ⟨_, rfl⟩
  rw [hX] at cL cM cN CX LX HS0 ⊢
  obtain ⟨Y, hY⟩ : ∃ X, bvc y = X := ⟨_, rfl⟩
  rw [hY] at cM cN LY HS0 ⊢
  obtain ⟨S, hS⟩ : ∃ X, bvc s = X := ⟨_, rfl⟩
  rw [hS] at CS cM cN LS qS cz
  obtain ⟨R, hR⟩ : ∃ X, bvc r = X := ⟨_, rfl⟩
  rw [hR] at cM cN LR qR
  clear hX hY hS hR hr lr ls hs lx ly hlow hc
  have hz22 := zero22
  have HBN22 : Hid _ := box22
  have HTH22 : Hid _ := th22
  obtain ⟨Z22, hZ22⟩ : ∃ Z, z22 = Z := ⟨_, rfl⟩
  rw [hZ22] at hz22 HBN22 HTH22
  clear hZ22
  have hm' : (64 : Int) < (m : Int) := by omega
  have HN : Hid (w.heap.size = n) := hn
  obtain ⟨we, hwe⟩ : ∃ v, (w.alloc (.cells X.toArray 22)).alloc (.cells Y.toArray 22) = v := ⟨_, rfl⟩
  have BX : Hid (Rp we n 0 X) := by have h := HS0.out.1; rw [hwe, HN.out] at h; exact h
  have BY : Hid (Rp we (n + 1) 0 Y) := by have h := HS0.out.2.1; rw [hwe, HN.out] at h; exact h
  have HBE : Hid (Below w.heap.size w we) := by have h := HS0.out.2.2; rw [hwe] at h; exact h
  clear HS0
  have BX_0 := BX
  have BY_0 := BY
  have HB_0 := (show Hid (Below we.heap.size we we) from Below.refl _ _)
  have TK_0 := (show Hid True from trivial)
  clear BX BY
  go_enter Try.func11, Try.ntmps11
  go_wp2_with (first
    | (refine wpList_load_mid rfl 22 (.tmp 4) rfl n 0 rfl X _ BX_0.out.1 Try.underlying22 rfl LX.out.i ?_)
    | (refine wpList_load_mid rfl 22 (.tmp 5) rfl (n + 1) 0 rfl Y _ BY_0.out.1 Try.underlying22 rfl LY.out.i ?_)
    | (refine wpList_load_mid rfl 22 (.tmp 4) rfl n 0 rfl X _ BX_1.out.1 Try.underlying22 rfl LX.out.i ?_)
    | (refine wpList_load_mid rfl 22 (.tmp 5) rfl (n + 1) 0 rfl Y _ BY_1.out.1 Try.underlying22 rfl LY.out.i ?_)
    | (refine wpList_load_mid rfl 22 (.tmp 4) rfl n 0 rfl X _ BX_2.out.1 Try.underlying22 rfl LX.out.i ?_)
    | (refine wpList_load_mid rfl 22 (.tmp 5) rfl (n + 1) 0 rfl Y _ BY_2.out.1 Try.underlying22 rfl LY.out.i ?_)
    | (refine wpList_load_mid rfl 22 (.tmp 4) rfl n 0 rfl X _ BX_3.out.1 Try.underlying22 rfl LX.out.i ?_)
    | (refine wpList_load_mid rfl 22 (.tmp 5) rfl (n + 1) 0 rfl Y _ BY_3.out.1 Try.underlying22 rfl LY.out.i ?_)
    | (refine wpList_load_mid rfl 22 (.tmp 8) rfl bBS 0 rfl S _ BS_3.out.1 Try.underlying22 rfl LS.out.i ?_)
    | (refine wpList_load_mid rfl 22 (.tmp 4) rfl n 0 rfl X _ BX_4.out.1 Try.underlying22 rfl LX.out.i ?_)
    | (refine wpList_load_mid rfl 22 (.tmp 5) rfl (n + 1) 0 rfl Y _ BY_4.out.1 Try.underlying22 rfl LY.out.i ?_)
    | (refine wpList_load_mid rfl 22 (.tmp 8) rfl bBS 0 rfl S _ BS_4.out.1 Try.underlying22 rfl LS.out.i ?_)
    | (refine wpList_load_mid rfl 22 (.tmp 4) rfl n 0 rfl X _ BX_5.out.1 Try.underlying22 rfl LX.out.i ?_)
    | (refine wpList_load_mid rfl 22 (.tmp 5) rfl (n + 1) 0 rfl Y _ BY_5.out.1 Try.underlying22 rfl LY.out.i ?_)
    | (refine wpList_load_mid rfl 22 (.tmp 8) rfl bBS 0 rfl S _ BS_5.out.1 Try.underlying22 rfl LS.out.i ?_)
    | (refine wpList_load_mid rfl 22 (.tmp 4) rfl n 0 rfl X _ BX_6.out.1 Try.underlying22 rfl LX.out.i ?_)
    | (refine wpList_load_mid rfl 22 (.tmp 5) rfl (n + 1) 0 rfl Y _ BY_6.out.1 Try.underlying22 rfl LY.out.i ?_)
    | (refine wpList_load_mid rfl 22 (.tmp 8) rfl bBS 0 rfl S _ BS_6.out.1 Try.underlying22 rfl LS.out.i ?_)
    | (refine wpList_load_mid rfl 22 (.tmp 11) rfl bBM 0 rfl R _ BM_6.out.1 Try.underlying22 rfl LR.out.i ?_)
    | (have hq := TK_0; go_at_call 28; refine (cS _).mono ?_; rintro e w1 ⟨rfl, hb⟩; have HB_1 := (show Hid (Below we.heap.size we w1) from HB_0.out.trans (hb.mono HB_0.out.size)); have BX_1 := (show Hid (Rp w1 n 0 X) from BX_0.out.below hb); have BY_1 := (show Hid (Rp w1 (n + 1) 0 Y) from BY_0.out.below hb); have TK_1 := (show Hid True from trivial); clear hq TK_0 hb HB_0 BX_0 BY_0)
    | (have hq := TK_1; go_at_call 48; refine (CS.out _).mono ?_; rintro e w2 ⟨rfl, hb⟩; have HB_2 := (show Hid (Below we.heap.size we w2) from HB_1.out.trans (hb.mono HB_1.out.size)); have BX_2 := (show Hid (Rp w2 n 0 X) from BX_1.out.below hb); have BY_2 := (show Hid (Rp w2 (n + 1) 0 Y) from BY_1.out.below hb); have TK_2 := (show Hid True from trivial); clear hq TK_1 hb HB_1 BX_1 BY_1)
    | (have hq := TK_2; refine wpList_store_mid rfl 22 (.tmp 8) (.tmp 16) rfl w2.heap.size 0 S.toArray rfl rfl (HTH22.out S LS.out w2) LS.out.j LS.out.o ?_; simp only; have hbx := HBN22.out S LS.out w2; obtain ⟨w3, hw3⟩ : ∃ v, (w2.alloc (.cells Z22 22)).setCells w2.heap.size 0 S = v := ⟨_, rfl⟩; rw [hw3] at hbx ⊢; clear hw3; have hb := hbx.2; replace hbx := hbx.1; obtain ⟨bBS, hbBS⟩ : ∃ b, w2.heap.size = b := ⟨_, rfl⟩; rw [hbBS] at hbx ⊢; clear hbBS; have HB_3 := (show Hid (Below we.heap.size we w3) from HB_2.out.trans (hb.mono HB_2.out.size)); have BX_3 := (show Hid (Rp w3 n 0 X) from BX_2.out.below hb); have BY_3 := (show Hid (Rp w3 (n + 1) 0 Y) from BY_2.out.below hb); have BS_3 := (show Hid (Rp w3 bBS 0 S) from hbx); have TK_3 := (show Hid True from trivial); clear hq TK_2 hb hbx HB_2 BX_2 BY_2)
    | (have hq := TK_3; go_at_call 49; refine (cL _).mono ?_; rintro e w4 ⟨rfl, hb⟩; have HB_4 := (show Hid (Below we.heap.size we w4) from HB_3.out.trans (hb.mono HB_3.out.size)); have BX_4 := (show Hid (Rp w4 n 0 X) from BX_3.out.below hb); have BY_4 := (show Hid (Rp w4 (n + 1) 0 Y) from BY_3.out.below hb); have BS_4 := (show Hid (Rp w4 bBS 0 S) from BS_3.out.below hb); have TK_4 := (show Hid True from trivial); clear hq TK_3 hb HB_3 BX_3 BY_3 BS_3)
    | (have hq := TK_4; go_at_call 50; refine (cM _).mono ?_; rintro e w5 ⟨rfl, hb⟩; have HB_5 := (show Hid (Below we.heap.size we w5) from HB_4.out.trans (hb.mono HB_4.out.size)); have BX_5 := (show Hid (Rp w5 n 0 X) from BX_4.out.below hb); have BY_5 := (show Hid (Rp w5 (n + 1) 0 Y) from BY_4.out.below hb); have BS_5 := (show Hid (Rp w5 bBS 0 S) from BS_4.out.below hb); have TK_5 := (show Hid True from trivial); clear hq TK_4 hb HB_4 BX_4 BY_4 BS_4)
    | (have hq := TK_5; refine wpList_store_mid rfl 22 (.tmp 11) (.tmp 23) rfl w5.heap.size 0 R.toArray rfl rfl (HTH22.out R LR.out w5) LR.out.j LR.out.o ?_; simp only [Act.put]; have hbx := HBN22.out R LR.out w5; obtain ⟨w6, hw6⟩ : ∃ v, (w5.alloc (.cells Z22 22)).setCells w5.heap.size 0 R = v := ⟨_, rfl⟩; rw [hw6] at hbx ⊢; clear hw6; have hb := hbx.2; replace hbx := hbx.1; obtain ⟨bBM, hbBM⟩ : ∃ b, w5.heap.size = b := ⟨_, rfl⟩; rw [hbBM] at hbx ⊢; clear hbBM; have HB_6 := (show Hid (Below we.heap.size we w6) from HB_5.out.trans (hb.mono HB_5.out.size)); have BX_6 := (show Hid (Rp w6 n 0 X) from BX_5.out.below hb); have BY_6 := (show Hid (Rp w6 (n + 1) 0 Y) from BY_5.out.below hb); have BS_6 := (show Hid (Rp w6 bBS 0 S) from BS_5.out.below hb); have BM_6 := (show Hid (Rp w6 bBM 0 R) from hbx); have TK_6 := (show Hid True from trivial); clear hq TK_5 hb hbx HB_5 BX_5 BY_5 BS_5))
  have BX := BX_6
  have BY := BY_6
  have BS := BS_6
  have BM := BM_6
  have HBW := (show Hid (Below w.heap.size w w6) from HBE.out.trans (HB_6.out.mono HBE.out.size))
  refine wp_region_held_drew (S := fun w' => Below w6.heap.size w6 w') (by kernel_rfl) (drewB w6) (fun hS => ?_)
  refine wpAnyH_take (i := 0) (v := .bool true) rfl (by kernel_rfl) (by kernel_rfl) (by kernel_rfl) (fun _ _ _ h => h) (Or.inl ⟨by kernel_rfl, fun wq hS => by go_simp⟩) hS ?_
  try simp only [Act.put, List.setIfInBounds_toArray, List.set_cons_zero, List.set_cons_succ, List.getElem_toArray, List.getElem_cons_zero]
  refine wpAnyH_take (i := 1) (v := .slice (some ⟨n, 0, none⟩) 32 32) rfl (by kernel_rfl) (by kernel_rfl) (by kernel_rfl) (fun _ _ _ h => h) (Or.inl ⟨by kernel_rfl, fun wq hS => by go_simp⟩) hS ?_
  try simp only [Act.put, List.setIfInBounds_toArray, List.set_cons_zero, List.set_cons_succ, List.getElem_toArray, List.getElem_cons_succ, List.getElem_cons_zero]
  refine wpAnyH_ready (rs := [2]) (by kernel_rfl) (by simp) ?_
  refine AllReadyH.cons rfl (fun K hK => ?_) AllReadyH.nil
  go_simp
  refine (CX.out _ (BX.out.below hS)).mono ?_
  rintro e wh1 ⟨vx, rfl, hn1, hb⟩
  have NX_1 := (show Hid (Dt.Num wh1 vx x) from hn1)
  have hS2 : Below w6.heap.size w6 wh1 := hS.trans (hb.mono hS.size)
  refine hK.out _ _ hS2 (fun hS => ?_)
  clear hK K hb hS2  hn1
  try simp only [Act.put, List.setIfInBounds_toArray, List.set_cons_zero, List.set_cons_succ, List.getElem_toArray, List.getElem_cons_succ, List.getElem_cons_zero]
  refine wpAnyH_ready (rs := [3]) (by kernel_rfl) (by simp) ?_
  refine AllReadyH.cons rfl (fun K hK => ?_) AllReadyH.nil
  go_simp
  refine (Dt.order_num _).mono ?_
  rintro e wh2 ⟨vo, rfl, hn1, hb⟩
  have NX_2 := (show Hid (Dt.Num wh2 vx x) from NX_1.out.below hb)
  have NO_2 := (show Hid (Dt.Num wh2 vo ell) from hn1)
  have hS2 : Below w6.heap.size w6 wh2 := hS.trans (hb.mono hS.size)
  refine hK.out _ _ hS2 (fun hS => ?_)
  clear hK K hb hS2 NX_1 hn1
  try simp only [Act.put, List.setIfInBounds_toArray, List.set_cons_zero, List.set_cons_succ, List.getElem_toArray, List.getElem_cons_succ, List.getElem_cons_zero]
  refine wpAnyH_ready (rs := [4]) (by kernel_rfl) (by simp) ?_
  refine AllReadyH.cons rfl (fun K hK => ?_) AllReadyH.nil
  go_simp
  refine (CC.out _ _ _ (NX_2.out) (NO_2.out)).mono ?_
  rintro e wh3 ⟨rfl, hb⟩
  have NX_3 := (show Hid (Dt.Num wh3 vx x) from NX_2.out.below hb)
  have NO_3 := (show Hid (Dt.Num wh3 vo ell) from NO_2.out.below hb)
  have hS2 : Below w6.heap.size w6 wh3 := hS.trans (hb.mono hS.size)
  refine hK.out _ _ hS2 (fun hS => ?_)
  clear hK K hb hS2 NX_2 NO_2
  try simp only [Act.put, List.setIfInBounds_toArray, List.set_cons_zero, List.set_cons_succ, List.getElem_toArray, List.getElem_cons_succ, List.getElem_cons_zero]
  refine wpAnyH_take (i := 5) (v := .bool true) rfl (by kernel_rfl) (by kernel_rfl) (by kernel_rfl) (fun _ _ _ h => h) (Or.inl ⟨by kernel_rfl, fun wq hS => by go_simp⟩) hS ?_
  try simp only [Act.put, List.setIfInBounds_toArray, List.set_cons_zero, List.set_cons_succ, List.getElem_toArray, List.getElem_cons_succ, List.getElem_cons_zero]
  refine wpAnyH_take (i := 6) (v := .bool false) rfl (by kernel_rfl) (by kernel_rfl) (by kernel_rfl) (fun _ _ _ h => h) (Or.inl ⟨by kernel_rfl, fun wq hS => by go_simp⟩) hS ?_
  try simp only [Act.put, List.setIfInBounds_toArray, List.set_cons_zero, List.set_cons_succ, List.getElem_toArray, List.getElem_cons_succ, List.getElem_cons_zero]
  refine wpAnyH_take (i := 7) (v := .bool false) rfl (by kernel_rfl) (by kernel_rfl) (by kernel_rfl) (fun _ _ _ h => h) (Or.inl ⟨by kernel_rfl, fun wq hS => by go_simp⟩) hS ?_
  try simp only [Act.put, List.setIfInBounds_toArray, List.set_cons_zero, List.set_cons_succ, List.getElem_toArray, List.getElem_cons_succ, List.getElem_cons_zero]
  refine wpAnyH_take (i := 8) (v := .agg R.toArray) rfl (by kernel_rfl) (by kernel_rfl) (by kernel_rfl) (fun _ _ _ h => h) (yieldsIf_load_mid (by kernel_rfl) 22 (.tmp 11) rfl bBM 0 rfl R _ (fun wq hq => Rg.Below.range hq BM.out.1 BM.out.2) Try.underlying22 rfl LR.out.i) hS ?_
  try simp only [Act.put, List.setIfInBounds_toArray, List.set_cons_zero, List.set_cons_succ, List.getElem_toArray, List.getElem_cons_succ, List.getElem_cons_zero]
  refine wpAnyH_take (i := 9) (v := .agg X.toArray) rfl (by kernel_rfl) (by kernel_rfl) (by kernel_rfl) (fun _ _ _ h => h) (yieldsIf_load_mid (by kernel_rfl) 22 (.tmp 4) rfl n 0 rfl X _ (fun wq hq => Rg.Below.range hq BX.out.1 BX.out.2) Try.underlying22 rfl LX.out.i) hS ?_
  try simp only [Act.put, List.setIfInBounds_toArray, List.set_cons_zero, List.set_cons_succ, List.getElem_toArray, List.getElem_cons_succ, List.getElem_cons_zero]
  refine wpAnyH_take (i := 10) (v := .agg Y.toArray) rfl (by kernel_rfl) (by kernel_rfl) (by kernel_rfl) (fun _ _ _ h => h) (yieldsIf_load_mid (by kernel_rfl) 22 (.tmp 5) rfl (n + 1) 0 rfl Y _ (fun wq hq => Rg.Below.range hq BY.out.1 BY.out.2) Try.underlying22 rfl LY.out.i) hS ?_
  try simp only [Act.put, List.setIfInBounds_toArray, List.set_cons_zero, List.set_cons_succ, List.getElem_toArray, List.getElem_cons_succ, List.getElem_cons_zero]
  refine wpAnyH_take (i := 11) (v := .agg S.toArray) rfl (by kernel_rfl) (by kernel_rfl) (by kernel_rfl) (fun _ _ _ h => h) (yieldsIf_load_mid (by kernel_rfl) 22 (.tmp 8) rfl bBS 0 rfl S _ (fun wq hq => Rg.Below.range hq BS.out.1 BS.out.2) Try.underlying22 rfl LS.out.i) hS ?_
  try simp only [Act.put, List.setIfInBounds_toArray, List.set_cons_zero, List.set_cons_succ, List.getElem_toArray, List.getElem_cons_succ, List.getElem_cons_zero]
  refine wpAnyH_ready (rs := [12]) (by kernel_rfl) (by simp) ?_
  refine AllReadyH.cons rfl (fun K hK => ?_) AllReadyH.nil
  go_simp
  refine (cN _).mono ?_
  rintro e wh4 ⟨rfl, hb⟩
  have NX_4 := (show Hid (Dt.Num wh4 vx x) from NX_3.out.below hb)
  have NO_4 := (show Hid (Dt.Num wh4 vo ell) from NO_3.out.below hb)
  have hS2 : Below w6.heap.size w6 wh4 := hS.trans (hb.mono hS.size)
  refine hK.out _ _ hS2 (fun hS => ?_)
  clear hK K hb hS2 NX_3 NO_3
  try simp only [Act.put, List.setIfInBounds_toArray, List.set_cons_zero, List.set_cons_succ, List.getElem_toArray, List.getElem_cons_succ, List.getElem_cons_zero]
  refine wpAnyH_take (i := 13) (v := .bool false) rfl (by kernel_rfl) (by kernel_rfl) (by kernel_rfl) (fun _ _ _ h => h) (Or.inl ⟨by kernel_rfl, fun wq hS => by go_simp⟩) hS ?_
  try simp only [Act.put, List.setIfInBounds_toArray, List.set_cons_zero, List.set_cons_succ, List.getElem_toArray, List.getElem_cons_succ, List.getElem_cons_zero]
  refine wpAnyH_take (i := 14) (v := .bool false) rfl (by kernel_rfl) (by kernel_rfl) (by kernel_rfl) (fun _ _ _ h => h) (Or.inl ⟨by kernel_rfl, fun wq hS => by go_simp⟩) hS ?_
  try simp only [Act.put, List.setIfInBounds_toArray, List.set_cons_zero, List.set_cons_succ, List.getElem_toArray, List.getElem_cons_succ, List.getElem_cons_zero]
  refine wpAnyH_done (by kernel_rfl) ?_ _
  have HBF := (show Hid _ from HBW.out.trans (hS.mono HBW.out.size))
  have BS2 := (show Hid (Rp wh4 bBS 0 S) from BS.out.below hS)
  clear BX BY BS BM BX_6 BY_6 BS_6 BM_6 NX_4 NO_4 hS HBE HBW CX CC
  go_wp2
  have BS2_q0 := BS2
  have HB_q0 := (show Hid (Below wh4.heap.size wh4 wh4) from Below.refl _ _)
  have TK_q0 := (show Hid True from trivial)
  clear BS2
  have HBG := HBF
  have HQBS2 := (show Hid _ from BS2_q0.out.cl)
  have hneq := Cl.ne wh4.heap.size wh4
  refine region_cl (N := wh4.heap.size) (W := wh4) (by kernel_rfl) (by kernel_rfl) (Below.refl _ _) ?_
  go_big_quiet_step (fail)
  go_big_quiet_step (fail)
  go_big_quiet_step (fail)
  go_big_quiet_step (fail)
  go_big_quiet_step (fail)
  go_big_quiet_step (fail)
  go_big_quiet_step (fail)
  go_big_quiet_want
  refine quiet_load 22 _ rfl bBS 0 rfl S _ HQBS2.out Try.underlying22 rfl LS.out.i ?_
  simp only [Act.put, List.setIfInBounds_toArray, List.set_cons_zero, List.set_cons_succ]
  go_big_quiet_on
  go_big_quiet_step ((go_at_call 46; exact cl_of (cz _) (Nat.le_refl _)))
  go_big_quiet_step (fail)
  go_big_quiet_step (fail)
  go_big_quiet_step (fail)
  refine wpQuiet_nil ?_
  rintro _ ⟨xq, rfl⟩
  have hb := xq.h
  have HBF := (show Hid (Below wh4.heap.size wh4 xq.u) from HB_q0.out.trans (hb.mono HB_q0.out.size))
  go_wp2
  go_ret
  exact ⟨rfl, HBG.out.trans (HBF.out.mono HBG.out.size)⟩
set_option maxHeartbeats 4000000 in
set_option maxRecDepth 8000 in
theorem scal_long_high (A : Option Addr) (m cap x y : Nat) (hm : 64 < m) (lx : x < 115792089237316195423570985008687907853269984665640564039457584007913129639936) (ly : y < 115792089237316195423570985008687907853269984665640564039457584007913129639936) (hlow : ¬ x < ell) (w : World) :
    Calls Try.prog 11 #[.slice A m cap, bv x, bv y] w fun e w' => e = .returned (.bool true) ∧ Below w.heap.size w w' := by
  obtain ⟨n, hn⟩ : ∃ n, w.heap.size = n := ⟨_, rfl⟩
  obtain ⟨s, hs⟩ : ∃ s, 0 = s := ⟨_, rfl⟩
  have ls : s < 115792089237316195423570985008687907853269984665640564039457584007913129639936 := by rw [← hs]; decide
  have CS : Hid (∀ W : World, Calls Try.prog 48 #[.slice A m cap] W fun e w' => e = .returned (.tuple #[bv s, .iface 35 (.int .i64 2)]) ∧ Below W.heap.size W w') := fun W => by rw [← hs]; exact scalar_long A m cap W hm
  have cz : ∀ W : World, Calls Try.prog 46 #[.int .u8 0] W fun e w' => e = .returned (bv s) ∧ Below W.heap.size W w' := fun W => by rw [← hs]; exact small7_any 0 W (by decide)
  have e2 : ∀ W : World, (binOp .eql 32 (.iface 35 (.int .i64 2)) (.iface 35 (.int .i64 2))).run Try.prog W = .ok (.bool true) W := fun W => bin_err 2 2 W
  have cS := shown7_any
  have cL : ∀ W : World, Calls Try.prog 49 #[bv x] W fun e w' => e = .returned (.bool false) ∧ Below W.heap.size W w' := fun W => by have h := low_any x W lx; rwa [decide_eq_false hlow] at h
  have cM : ∀ W : World, Calls Try.prog 50 #[bv x, bv y, bv s] W fun e w' => e = .returned (bv ((x * y + s) % ell)) ∧ Below W.heap.size W w' := fun W => mulAdd_any x y s W lx ly ls
  have cN : ∀ W : World, Calls Try.prog 54 #[bv x, bv y, bv s] W fun e w' => e = .returned (bv ((x * y + s) % ell)) ∧ Below W.heap.size W w' := fun W => Dt.rmulAdd_any x y s W lx ly ls
  have CX : Hid (∀ W : World, Rp W n 0 (bvc x) → Calls Try.prog 52 #[.slice (some ⟨n, 0, none⟩) 32 32] W fun e w' => ∃ v, e = .returned v ∧ Dt.Num w' v x ∧ Below W.heap.size W w') := fun W h => Dt.of32 x n W lx h
  have CC : Hid (∀ (W : World) (u v : Value), Dt.Num W u x → Dt.Num W v ell → Calls Try.prog 51 #[u, v] W fun e w' => e = .returned (.int .i64 (Dt.cmpN x ell)) ∧ Below W.heap.size W w') := fun W u v h1 h2 => Dt.cmp_num h1 h2 (Dt.pow64 lx) (Dt.pow64 ell_lt)
  have hc : ¬ Dt.cmpN x ell < 0 := by unfold Dt.cmpN; rw [if_neg hlow]; split <;> omega
  obtain ⟨c, hcc⟩ : ∃ c, Dt.cmpN x ell = c := ⟨_, rfl⟩
  rw [hcc] at CC hc
  obtain ⟨r, hr⟩ : ∃ r, (x * y + s) % ell = r := ⟨_, rfl⟩
  have lr : r < 115792089237316195423570985008687907853269984665640564039457584007913129639936 := by rw [← hr]; exact mod_ell _
  rw [hr] at cM cN
  have qR := eq22_same r lr
  have qS := eq22_same s ls
  have LX : Hid (L32 (bvc x)) := l32 x
  have LY : Hid (L32 (bvc y)) := l32 y
  have LS : Hid (L32 (bvc s)) := l32 s
  have LR : Hid (L32 (bvc r)) := l32 r
  unfold bv at CS cL cM cN cz ⊢
  have HS0 := (show Hid _ from start2b w (bvc x) (bvc y))
  obtain ⟨X, hX⟩ : ∃ X, bvc x = X := ⟨_, rfl⟩
  rw [hX] at cL cM cN CX LX HS0 ⊢
  obtain ⟨Y, hY⟩ : ∃ X, bvc y = X := ⟨_, rfl⟩
  rw [hY] at cM cN LY HS0 ⊢
  obtain ⟨S, hS⟩ : ∃ X, bvc s = X := ⟨_, rfl⟩
  rw [hS] at CS cM cN LS qS cz
  obtain ⟨R, hR⟩ : ∃ X, bvc r = X := ⟨_, rfl⟩
  rw [hR] at cM cN LR qR
  clear hX hY hS hR hr lr ls hs lx ly hlow hcc
  have hz22 := zero22
  have HBN22 : Hid _ := box22
  have HTH22 : Hid _ := th22
  obtain ⟨Z22, hZ22⟩ : ∃ Z, z22 = Z := ⟨_, rfl⟩
  rw [hZ22] at hz22 HBN22 HTH22
  clear hZ22
  have hm' : (64 : Int) < (m : Int) := by omega
  have HN : Hid (w.heap.size = n) := hn
  obtain ⟨we, hwe⟩ : ∃ v, (w.alloc (.cells X.toArray 22)).alloc (.cells Y.toArray 22) = v := ⟨_, rfl⟩
  have BX : Hid (Rp we n 0 X) := by have h := HS0.out.1; rw [hwe, HN.out] at h; exact h
  have BY : Hid (Rp we (n + 1) 0 Y) := by have h := HS0.out.2.1; rw [hwe, HN.out] at h; exact h
  have HBE : Hid (Below w.heap.size w we) := by have h := HS0.out.2.2; rw [hwe] at h; exact h
  clear HS0
  have BX_0 := BX
  have BY_0 := BY
  have HB_0 := (show Hid (Below we.heap.size we we) from Below.refl _ _)
  have TK_0 := (show Hid True from trivial)
  clear BX BY
  go_enter Try.func11, Try.ntmps11
  go_wp2_with (first
    | (refine wpList_load_mid rfl 22 (.tmp 4) rfl n 0 rfl X _ BX_0.out.1 Try.underlying22 rfl LX.out.i ?_)
    | (refine wpList_load_mid rfl 22 (.tmp 5) rfl (n + 1) 0 rfl Y _ BY_0.out.1 Try.underlying22 rfl LY.out.i ?_)
    | (refine wpList_load_mid rfl 22 (.tmp 4) rfl n 0 rfl X _ BX_1.out.1 Try.underlying22 rfl LX.out.i ?_)
    | (refine wpList_load_mid rfl 22 (.tmp 5) rfl (n + 1) 0 rfl Y _ BY_1.out.1 Try.underlying22 rfl LY.out.i ?_)
    | (refine wpList_load_mid rfl 22 (.tmp 4) rfl n 0 rfl X _ BX_2.out.1 Try.underlying22 rfl LX.out.i ?_)
    | (refine wpList_load_mid rfl 22 (.tmp 5) rfl (n + 1) 0 rfl Y _ BY_2.out.1 Try.underlying22 rfl LY.out.i ?_)
    | (refine wpList_load_mid rfl 22 (.tmp 4) rfl n 0 rfl X _ BX_3.out.1 Try.underlying22 rfl LX.out.i ?_)
    | (refine wpList_load_mid rfl 22 (.tmp 5) rfl (n + 1) 0 rfl Y _ BY_3.out.1 Try.underlying22 rfl LY.out.i ?_)
    | (refine wpList_load_mid rfl 22 (.tmp 8) rfl bBS 0 rfl S _ BS_3.out.1 Try.underlying22 rfl LS.out.i ?_)
    | (refine wpList_load_mid rfl 22 (.tmp 4) rfl n 0 rfl X _ BX_4.out.1 Try.underlying22 rfl LX.out.i ?_)
    | (refine wpList_load_mid rfl 22 (.tmp 5) rfl (n + 1) 0 rfl Y _ BY_4.out.1 Try.underlying22 rfl LY.out.i ?_)
    | (refine wpList_load_mid rfl 22 (.tmp 8) rfl bBS 0 rfl S _ BS_4.out.1 Try.underlying22 rfl LS.out.i ?_)
    | (refine wpList_load_mid rfl 22 (.tmp 4) rfl n 0 rfl X _ BX_5.out.1 Try.underlying22 rfl LX.out.i ?_)
    | (refine wpList_load_mid rfl 22 (.tmp 5) rfl (n + 1) 0 rfl Y _ BY_5.out.1 Try.underlying22 rfl LY.out.i ?_)
    | (refine wpList_load_mid rfl 22 (.tmp 8) rfl bBS 0 rfl S _ BS_5.out.1 Try.underlying22 rfl LS.out.i ?_)
    | (refine wpList_load_mid rfl 22 (.tmp 4) rfl n 0 rfl X _ BX_6.out.1 Try.underlying22 rfl LX.out.i ?_)
    | (refine wpList_load_mid rfl 22 (.tmp 5) rfl (n + 1) 0 rfl Y _ BY_6.out.1 Try.underlying22 rfl LY.out.i ?_)
    | (refine wpList_load_mid rfl 22 (.tmp 8) rfl bBS 0 rfl S _ BS_6.out.1 Try.underlying22 rfl LS.out.i ?_)
    | (refine wpList_load_mid rfl 22 (.tmp 11) rfl bBM 0 rfl R _ BM_6.out.1 Try.underlying22 rfl LR.out.i ?_)
    | (have hq := TK_0; go_at_call 28; refine (cS _).mono ?_; rintro e w1 ⟨rfl, hb⟩; have HB_1 := (show Hid (Below we.heap.size we w1) from HB_0.out.trans (hb.mono HB_0.out.size)); have BX_1 := (show Hid (Rp w1 n 0 X) from BX_0.out.below hb); have BY_1 := (show Hid (Rp w1 (n + 1) 0 Y) from BY_0.out.below hb); have TK_1 := (show Hid True from trivial); clear hq TK_0 hb HB_0 BX_0 BY_0)
    | (have hq := TK_1; go_at_call 48; refine (CS.out _).mono ?_; rintro e w2 ⟨rfl, hb⟩; have HB_2 := (show Hid (Below we.heap.size we w2) from HB_1.out.trans (hb.mono HB_1.out.size)); have BX_2 := (show Hid (Rp w2 n 0 X) from BX_1.out.below hb); have BY_2 := (show Hid (Rp w2 (n + 1) 0 Y) from BY_1.out.below hb); have TK_2 := (show Hid True from trivial); clear hq TK_1 hb HB_1 BX_1 BY_1)
    | (have hq := TK_2; refine wpList_store_mid rfl 22 (.tmp 8) (.tmp 16) rfl w2.heap.size 0 S.toArray rfl rfl (HTH22.out S LS.out w2) LS.out.j LS.out.o ?_; simp only; have hbx := HBN22.out S LS.out w2; obtain ⟨w3, hw3⟩ : ∃ v, (w2.alloc (.cells Z22 22)).setCells w2.heap.size 0 S = v := ⟨_, rfl⟩; rw [hw3] at hbx ⊢; clear hw3; have hb := hbx.2; replace hbx := hbx.1; obtain ⟨bBS, hbBS⟩ : ∃ b, w2.heap.size = b := ⟨_, rfl⟩; rw [hbBS] at hbx ⊢; clear hbBS; have HB_3 := (show Hid (Below we.heap.size we w3) from HB_2.out.trans (hb.mono HB_2.out.size)); have BX_3 := (show Hid (Rp w3 n 0 X) from BX_2.out.below hb); have BY_3 := (show Hid (Rp w3 (n + 1) 0 Y) from BY_2.out.below hb); have BS_3 := (show Hid (Rp w3 bBS 0 S) from hbx); have TK_3 := (show Hid True from trivial); clear hq TK_2 hb hbx HB_2 BX_2 BY_2)
    | (have hq := TK_3; go_at_call 49; refine (cL _).mono ?_; rintro e w4 ⟨rfl, hb⟩; have HB_4 := (show Hid (Below we.heap.size we w4) from HB_3.out.trans (hb.mono HB_3.out.size)); have BX_4 := (show Hid (Rp w4 n 0 X) from BX_3.out.below hb); have BY_4 := (show Hid (Rp w4 (n + 1) 0 Y) from BY_3.out.below hb); have BS_4 := (show Hid (Rp w4 bBS 0 S) from BS_3.out.below hb); have TK_4 := (show Hid True from trivial); clear hq TK_3 hb HB_3 BX_3 BY_3 BS_3)
    | (have hq := TK_4; go_at_call 50; refine (cM _).mono ?_; rintro e w5 ⟨rfl, hb⟩; have HB_5 := (show Hid (Below we.heap.size we w5) from HB_4.out.trans (hb.mono HB_4.out.size)); have BX_5 := (show Hid (Rp w5 n 0 X) from BX_4.out.below hb); have BY_5 := (show Hid (Rp w5 (n + 1) 0 Y) from BY_4.out.below hb); have BS_5 := (show Hid (Rp w5 bBS 0 S) from BS_4.out.below hb); have TK_5 := (show Hid True from trivial); clear hq TK_4 hb HB_4 BX_4 BY_4 BS_4)
    | (have hq := TK_5; refine wpList_store_mid rfl 22 (.tmp 11) (.tmp 23) rfl w5.heap.size 0 R.toArray rfl rfl (HTH22.out R LR.out w5) LR.out.j LR.out.o ?_; simp only [Act.put]; have hbx := HBN22.out R LR.out w5; obtain ⟨w6, hw6⟩ : ∃ v, (w5.alloc (.cells Z22 22)).setCells w5.heap.size 0 R = v := ⟨_, rfl⟩; rw [hw6] at hbx ⊢; clear hw6; have hb := hbx.2; replace hbx := hbx.1; obtain ⟨bBM, hbBM⟩ : ∃ b, w5.heap.size = b := ⟨_, rfl⟩; rw [hbBM] at hbx ⊢; clear hbBM; have HB_6 := (show Hid (Below we.heap.size we w6) from HB_5.out.trans (hb.mono HB_5.out.size)); have BX_6 := (show Hid (Rp w6 n 0 X) from BX_5.out.below hb); have BY_6 := (show Hid (Rp w6 (n + 1) 0 Y) from BY_5.out.below hb); have BS_6 := (show Hid (Rp w6 bBS 0 S) from BS_5.out.below hb); have BM_6 := (show Hid (Rp w6 bBM 0 R) from hbx); have TK_6 := (show Hid True from trivial); clear hq TK_5 hb hbx HB_5 BX_5 BY_5 BS_5))
  have BX := BX_6
  have BY := BY_6
  have BS := BS_6
  have BM := BM_6
  have HBW := (show Hid (Below w.heap.size w w6) from HBE.out.trans (HB_6.out.mono HBE.out.size))
  refine wp_region_held_drew (S := fun w' => Below w6.heap.size w6 w') (by kernel_rfl) (drewB w6) (fun hS => ?_)
  refine wpAnyH_take (i := 0) (v := .bool false) rfl (by kernel_rfl) (by kernel_rfl) (by kernel_rfl) (fun _ _ _ h => h) (Or.inl ⟨by kernel_rfl, fun wq hS => by go_simp⟩) hS ?_
  try simp only [Act.put, List.setIfInBounds_toArray, List.set_cons_zero, List.set_cons_succ, List.getElem_toArray, List.getElem_cons_zero]
  refine wpAnyH_take (i := 1) (v := .slice (some ⟨n, 0, none⟩) 32 32) rfl (by kernel_rfl) (by kernel_rfl) (by kernel_rfl) (fun _ _ _ h => h) (Or.inl ⟨by kernel_rfl, fun wq hS => by go_simp⟩) hS ?_
  try simp only [Act.put, List.setIfInBounds_toArray, List.set_cons_zero, List.set_cons_succ, List.getElem_toArray, List.getElem_cons_succ, List.getElem_cons_zero]
  refine wpAnyH_ready (rs := [2]) (by kernel_rfl) (by simp) ?_
  refine AllReadyH.cons rfl (fun K hK => ?_) AllReadyH.nil
  go_simp
  refine (CX.out _ (BX.out.below hS)).mono ?_
  rintro e wh1 ⟨vx, rfl, hn1, hb⟩
  have NX_1 := (show Hid (Dt.Num wh1 vx x) from hn1)
  have hS2 : Below w6.heap.size w6 wh1 := hS.trans (hb.mono hS.size)
  refine hK.out _ _ hS2 (fun hS => ?_)
  clear hK K hb hS2  hn1
  try simp only [Act.put, List.setIfInBounds_toArray, List.set_cons_zero, List.set_cons_succ, List.getElem_toArray, List.getElem_cons_succ, List.getElem_cons_zero]
  refine wpAnyH_ready (rs := [3]) (by kernel_rfl) (by simp) ?_
  refine AllReadyH.cons rfl (fun K hK => ?_) AllReadyH.nil
  go_simp
  refine (Dt.order_num _).mono ?_
  rintro e wh2 ⟨vo, rfl, hn1, hb⟩
  have NX_2 := (show Hid (Dt.Num wh2 vx x) from NX_1.out.below hb)
  have NO_2 := (show Hid (Dt.Num wh2 vo ell) from hn1)
  have hS2 : Below w6.heap.size w6 wh2 := hS.trans (hb.mono hS.size)
  refine hK.out _ _ hS2 (fun hS => ?_)
  clear hK K hb hS2 NX_1 hn1
  try simp only [Act.put, List.setIfInBounds_toArray, List.set_cons_zero, List.set_cons_succ, List.getElem_toArray, List.getElem_cons_succ, List.getElem_cons_zero]
  refine wpAnyH_ready (rs := [4]) (by kernel_rfl) (by simp) ?_
  refine AllReadyH.cons rfl (fun K hK => ?_) AllReadyH.nil
  go_simp
  refine (CC.out _ _ _ (NX_2.out) (NO_2.out)).mono ?_
  rintro e wh3 ⟨rfl, hb⟩
  have NX_3 := (show Hid (Dt.Num wh3 vx x) from NX_2.out.below hb)
  have NO_3 := (show Hid (Dt.Num wh3 vo ell) from NO_2.out.below hb)
  have hS2 : Below w6.heap.size w6 wh3 := hS.trans (hb.mono hS.size)
  refine hK.out _ _ hS2 (fun hS => ?_)
  clear hK K hb hS2 NX_2 NO_2
  try simp only [Act.put, List.setIfInBounds_toArray, List.set_cons_zero, List.set_cons_succ, List.getElem_toArray, List.getElem_cons_succ, List.getElem_cons_zero]
  refine wpAnyH_take (i := 5) (v := .bool false) rfl (by kernel_rfl) (by kernel_rfl) (by kernel_rfl) (fun _ _ _ h => h) (Or.inl ⟨by kernel_rfl, fun wq hS => by go_simp⟩) hS ?_
  try simp only [Act.put, List.setIfInBounds_toArray, List.set_cons_zero, List.set_cons_succ, List.getElem_toArray, List.getElem_cons_succ, List.getElem_cons_zero]
  refine wpAnyH_take (i := 6) (v := .bool false) rfl (by kernel_rfl) (by kernel_rfl) (by kernel_rfl) (fun _ _ _ h => h) (Or.inl ⟨by kernel_rfl, fun wq hS => by go_simp⟩) hS ?_
  try simp only [Act.put, List.setIfInBounds_toArray, List.set_cons_zero, List.set_cons_succ, List.getElem_toArray, List.getElem_cons_succ, List.getElem_cons_zero]
  refine wpAnyH_take (i := 7) (v := .bool false) rfl (by kernel_rfl) (by kernel_rfl) (by kernel_rfl) (fun _ _ _ h => h) (Or.inl ⟨by kernel_rfl, fun wq hS => by go_simp⟩) hS ?_
  try simp only [Act.put, List.setIfInBounds_toArray, List.set_cons_zero, List.set_cons_succ, List.getElem_toArray, List.getElem_cons_succ, List.getElem_cons_zero]
  refine wpAnyH_take (i := 8) (v := .agg R.toArray) rfl (by kernel_rfl) (by kernel_rfl) (by kernel_rfl) (fun _ _ _ h => h) (yieldsIf_load_mid (by kernel_rfl) 22 (.tmp 11) rfl bBM 0 rfl R _ (fun wq hq => Rg.Below.range hq BM.out.1 BM.out.2) Try.underlying22 rfl LR.out.i) hS ?_
  try simp only [Act.put, List.setIfInBounds_toArray, List.set_cons_zero, List.set_cons_succ, List.getElem_toArray, List.getElem_cons_succ, List.getElem_cons_zero]
  refine wpAnyH_take (i := 9) (v := .agg X.toArray) rfl (by kernel_rfl) (by kernel_rfl) (by kernel_rfl) (fun _ _ _ h => h) (yieldsIf_load_mid (by kernel_rfl) 22 (.tmp 4) rfl n 0 rfl X _ (fun wq hq => Rg.Below.range hq BX.out.1 BX.out.2) Try.underlying22 rfl LX.out.i) hS ?_
  try simp only [Act.put, List.setIfInBounds_toArray, List.set_cons_zero, List.set_cons_succ, List.getElem_toArray, List.getElem_cons_succ, List.getElem_cons_zero]
  refine wpAnyH_take (i := 10) (v := .agg Y.toArray) rfl (by kernel_rfl) (by kernel_rfl) (by kernel_rfl) (fun _ _ _ h => h) (yieldsIf_load_mid (by kernel_rfl) 22 (.tmp 5) rfl (n + 1) 0 rfl Y _ (fun wq hq => Rg.Below.range hq BY.out.1 BY.out.2) Try.underlying22 rfl LY.out.i) hS ?_
  try simp only [Act.put, List.setIfInBounds_toArray, List.set_cons_zero, List.set_cons_succ, List.getElem_toArray, List.getElem_cons_succ, List.getElem_cons_zero]
  refine wpAnyH_take (i := 11) (v := .agg S.toArray) rfl (by kernel_rfl) (by kernel_rfl) (by kernel_rfl) (fun _ _ _ h => h) (yieldsIf_load_mid (by kernel_rfl) 22 (.tmp 8) rfl bBS 0 rfl S _ (fun wq hq => Rg.Below.range hq BS.out.1 BS.out.2) Try.underlying22 rfl LS.out.i) hS ?_
  try simp only [Act.put, List.setIfInBounds_toArray, List.set_cons_zero, List.set_cons_succ, List.getElem_toArray, List.getElem_cons_succ, List.getElem_cons_zero]
  refine wpAnyH_ready (rs := [12]) (by kernel_rfl) (by simp) ?_
  refine AllReadyH.cons rfl (fun K hK => ?_) AllReadyH.nil
  go_simp
  refine (cN _).mono ?_
  rintro e wh4 ⟨rfl, hb⟩
  have NX_4 := (show Hid (Dt.Num wh4 vx x) from NX_3.out.below hb)
  have NO_4 := (show Hid (Dt.Num wh4 vo ell) from NO_3.out.below hb)
  have hS2 : Below w6.heap.size w6 wh4 := hS.trans (hb.mono hS.size)
  refine hK.out _ _ hS2 (fun hS => ?_)
  clear hK K hb hS2 NX_3 NO_3
  try simp only [Act.put, List.setIfInBounds_toArray, List.set_cons_zero, List.set_cons_succ, List.getElem_toArray, List.getElem_cons_succ, List.getElem_cons_zero]
  refine wpAnyH_take (i := 13) (v := .bool false) rfl (by kernel_rfl) (by kernel_rfl) (by kernel_rfl) (fun _ _ _ h => h) (Or.inl ⟨by kernel_rfl, fun wq hS => by go_simp⟩) hS ?_
  try simp only [Act.put, List.setIfInBounds_toArray, List.set_cons_zero, List.set_cons_succ, List.getElem_toArray, List.getElem_cons_succ, List.getElem_cons_zero]
  refine wpAnyH_take (i := 14) (v := .bool false) rfl (by kernel_rfl) (by kernel_rfl) (by kernel_rfl) (fun _ _ _ h => h) (Or.inl ⟨by kernel_rfl, fun wq hS => by go_simp⟩) hS ?_
  try simp only [Act.put, List.setIfInBounds_toArray, List.set_cons_zero, List.set_cons_succ, List.getElem_toArray, List.getElem_cons_succ, List.getElem_cons_zero]
  refine wpAnyH_done (by kernel_rfl) ?_ _
  have HBF := (show Hid _ from HBW.out.trans (hS.mono HBW.out.size))
  have BS2 := (show Hid (Rp wh4 bBS 0 S) from BS.out.below hS)
  clear BX BY BS BM BX_6 BY_6 BS_6 BM_6 NX_4 NO_4 hS HBE HBW CX CC
  go_wp2
  have BS2_q0 := BS2
  have HB_q0 := (show Hid (Below wh4.heap.size wh4 wh4) from Below.refl _ _)
  have TK_q0 := (show Hid True from trivial)
  clear BS2
  have HBG := HBF
  have HQBS2 := (show Hid _ from BS2_q0.out.cl)
  have hneq := Cl.ne wh4.heap.size wh4
  refine region_cl (N := wh4.heap.size) (W := wh4) (by kernel_rfl) (by kernel_rfl) (Below.refl _ _) ?_
  go_big_quiet_step (fail)
  go_big_quiet_step (fail)
  go_big_quiet_step (fail)
  go_big_quiet_step (fail)
  go_big_quiet_step (fail)
  go_big_quiet_step (fail)
  go_big_quiet_step (fail)
  go_big_quiet_want
  refine quiet_load 22 _ rfl bBS 0 rfl S _ HQBS2.out Try.underlying22 rfl LS.out.i ?_
  simp only [Act.put, List.setIfInBounds_toArray, List.set_cons_zero, List.set_cons_succ]
  go_big_quiet_on
  go_big_quiet_step ((go_at_call 46; exact cl_of (cz _) (Nat.le_refl _)))
  go_big_quiet_step (fail)
  go_big_quiet_step (fail)
  go_big_quiet_step (fail)
  refine wpQuiet_nil ?_
  rintro _ ⟨xq, rfl⟩
  have hb := xq.h
  have HBF := (show Hid (Below wh4.heap.size wh4 xq.u) from HB_q0.out.trans (hb.mono HB_q0.out.size))
  go_wp2
  go_ret
  exact ⟨rfl, HBG.out.trans (HBF.out.mono HBG.out.size)⟩
set_option maxHeartbeats 4000000 in
set_option maxRecDepth 8000 in
theorem scal_low (A : Option Addr) (L : List Nat) (m cap x y : Nat) (hm : m ≤ 64) (hLm : L.length = m) (hLb : ∀ b ∈ L, b < 256) (lx : x < 115792089237316195423570985008687907853269984665640564039457584007913129639936) (ly : y < 115792089237316195423570985008687907853269984665640564039457584007913129639936) (hlow : x < ell) (w : World) (hA : Dt.Db w A L) :
    Calls Try.prog 11 #[.slice A m cap, bv x, bv y] w fun e w' => e = .returned (.bool true) ∧ Below w.heap.size w w' := by
  obtain ⟨n, hn⟩ : ∃ n, w.heap.size = n := ⟨_, rfl⟩
  obtain ⟨s, hs⟩ : ∃ s, (Dt.ofB L % ell) = s := ⟨_, rfl⟩
  have ls : s < 115792089237316195423570985008687907853269984665640564039457584007913129639936 := by rw [← hs]; exact mod_ell _
  have CS : Hid (∀ W : World, Dt.Db W A L → Calls Try.prog 48 #[.slice A m cap] W fun e w' => e = .returned (.tuple #[bv s, .nilIface]) ∧ Below W.heap.size W w') := fun W h => by rw [← hs, ← hLm]; exact scalar_any A L cap W h hLb (by omega)
  have CO : Hid (∀ W : World, Dt.Db W A L → Calls Try.prog 52 #[.slice A m cap] W fun e w' => ∃ v, e = .returned v ∧ Dt.Num w' v (Dt.ofB L) ∧ Below W.heap.size W w') := fun W h => by rw [← hLm]; exact Dt.of_any A L cap W h (fun j => by rw [← Wit.by_ofB L hLb]; exact Nat.mod_lt _ (by decide)) (by omega)
  have hob : Dt.ofB L < 16777216 ^ 64 := Nat.lt_of_lt_of_le (Wit.ofB_lt L hLb) (Nat.le_trans (Nat.pow_le_pow_right (by decide) (show L.length ≤ 64 by omega)) (by decide +kernel))
  have CT : Hid (∀ (W : World) (u : Value), Dt.Num W u (Dt.ofB L) → Calls Try.prog 55 #[u] W fun e w' => ∃ v, e = .returned v ∧ Dt.Num w' v s ∧ Below W.heap.size W w') := fun W u h => by rw [← hs]; exact Dt.rest_num h hob
  have CB : Hid (∀ (W : World) (u : Value), Dt.Num W u s → Calls Try.prog 16 #[u] W fun e w' => e = .returned (.agg (bvc s).toArray) ∧ Below W.heap.size W w') := fun W u h => Dt.bytes_num h
  have en := eq_nil
  have HD : Hid (Dt.Db w A L) := hA
  have cS := shown7_any
  have cL : ∀ W : World, Calls Try.prog 49 #[bv x] W fun e w' => e = .returned (.bool true) ∧ Below W.heap.size W w' := fun W => by have h := low_any x W lx; rwa [decide_eq_true hlow] at h
  have cM : ∀ W : World, Calls Try.prog 50 #[bv x, bv y, bv s] W fun e w' => e = .returned (bv ((x * y + s) % ell)) ∧ Below W.heap.size W w' := fun W => mulAdd_any x y s W lx ly ls
  have cN : ∀ W : World, Calls Try.prog 54 #[bv x, bv y, bv s] W fun e w' => e = .returned (bv ((x * y + s) % ell)) ∧ Below W.heap.size W w' := fun W => Dt.rmulAdd_any x y s W lx ly ls
  have CX : Hid (∀ W : World, Rp W n 0 (bvc x) → Calls Try.prog 52 #[.slice (some ⟨n, 0, none⟩) 32 32] W fun e w' => ∃ v, e = .returned v ∧ Dt.Num w' v x ∧ Below W.heap.size W w') := fun W h => Dt.of32 x n W lx h
  have CC : Hid (∀ (W : World) (u v : Value), Dt.Num W u x → Dt.Num W v ell → Calls Try.prog 51 #[u, v] W fun e w' => e = .returned (.int .i64 (Dt.cmpN x ell)) ∧ Below W.heap.size W w') := fun W u v h1 h2 => Dt.cmp_num h1 h2 (Dt.pow64 lx) (Dt.pow64 ell_lt)
  have hc : Dt.cmpN x ell = -1 := by unfold Dt.cmpN; rw [if_pos hlow]
  rw [hc] at CC
  obtain ⟨r, hr⟩ : ∃ r, (x * y + s) % ell = r := ⟨_, rfl⟩
  have lr : r < 115792089237316195423570985008687907853269984665640564039457584007913129639936 := by rw [← hr]; exact mod_ell _
  rw [hr] at cM cN
  have qR := eq22_same r lr
  have qS := eq22_same s ls
  have LX : Hid (L32 (bvc x)) := l32 x
  have LY : Hid (L32 (bvc y)) := l32 y
  have LS : Hid (L32 (bvc s)) := l32 s
  have LR : Hid (L32 (bvc r)) := l32 r
  unfold bv at CS cL cM cN ⊢
  have HS0 := (show Hid _ from start2b w (bvc x) (bvc y))
  obtain ⟨X, hX⟩ : ∃ X, bvc x = X := ⟨_, rfl⟩
  rw [hX] at cL cM cN CX LX HS0 ⊢
  obtain ⟨Y, hY⟩ : ∃ X, bvc y = X := ⟨_, rfl⟩
  rw [hY] at cM cN LY HS0 ⊢
  obtain ⟨S, hS⟩ : ∃ X, bvc s = X := ⟨_, rfl⟩
  rw [hS] at CS cM cN LS qS CB
  obtain ⟨R, hR⟩ : ∃ X, bvc r = X := ⟨_, rfl⟩
  rw [hR] at cM cN LR qR
  clear hX hY hS hR hr lr ls hs lx ly hlow hc hA hLb hLm hob
  have hz22 := zero22
  have HBN22 : Hid _ := box22
  have HTH22 : Hid _ := th22
  obtain ⟨Z22, hZ22⟩ : ∃ Z, z22 = Z := ⟨_, rfl⟩
  rw [hZ22] at hz22 HBN22 HTH22
  clear hZ22
  have hm' : ¬ (64 : Int) < (m : Int) := by omega
  have HN : Hid (w.heap.size = n) := hn
  obtain ⟨we, hwe⟩ : ∃ v, (w.alloc (.cells X.toArray 22)).alloc (.cells Y.toArray 22) = v := ⟨_, rfl⟩
  have BX : Hid (Rp we n 0 X) := by have h := HS0.out.1; rw [hwe, HN.out] at h; exact h
  have BY : Hid (Rp we (n + 1) 0 Y) := by have h := HS0.out.2.1; rw [hwe, HN.out] at h; exact h
  have HBE : Hid (Below w.heap.size w we) := by have h := HS0.out.2.2; rw [hwe] at h; exact h
  have HDB : Hid (Dt.Db we A L) := HD.out.below HBE.out
  clear HS0
  have BX_0 := BX
  have BY_0 := BY
  have HDB_0 := HDB
  have HB_0 := (show Hid (Below we.heap.size we we) from Below.refl _ _)
  have TK_0 := (show Hid True from trivial)
  clear BX BY HDB
  go_enter Try.func11, Try.ntmps11
  go_wp2_with (first
    | (refine wpList_load_mid rfl 22 (.tmp 4) rfl n 0 rfl X _ BX_0.out.1 Try.underlying22 rfl LX.out.i ?_)
    | (refine wpList_load_mid rfl 22 (.tmp 5) rfl (n + 1) 0 rfl Y _ BY_0.out.1 Try.underlying22 rfl LY.out.i ?_)
    | (refine wpList_load_mid rfl 22 (.tmp 4) rfl n 0 rfl X _ BX_1.out.1 Try.underlying22 rfl LX.out.i ?_)
    | (refine wpList_load_mid rfl 22 (.tmp 5) rfl (n + 1) 0 rfl Y _ BY_1.out.1 Try.underlying22 rfl LY.out.i ?_)
    | (refine wpList_load_mid rfl 22 (.tmp 4) rfl n 0 rfl X _ BX_2.out.1 Try.underlying22 rfl LX.out.i ?_)
    | (refine wpList_load_mid rfl 22 (.tmp 5) rfl (n + 1) 0 rfl Y _ BY_2.out.1 Try.underlying22 rfl LY.out.i ?_)
    | (refine wpList_load_mid rfl 22 (.tmp 4) rfl n 0 rfl X _ BX_3.out.1 Try.underlying22 rfl LX.out.i ?_)
    | (refine wpList_load_mid rfl 22 (.tmp 5) rfl (n + 1) 0 rfl Y _ BY_3.out.1 Try.underlying22 rfl LY.out.i ?_)
    | (refine wpList_load_mid rfl 22 (.tmp 8) rfl bBS 0 rfl S _ BS_3.out.1 Try.underlying22 rfl LS.out.i ?_)
    | (refine wpList_load_mid rfl 22 (.tmp 4) rfl n 0 rfl X _ BX_4.out.1 Try.underlying22 rfl LX.out.i ?_)
    | (refine wpList_load_mid rfl 22 (.tmp 5) rfl (n + 1) 0 rfl Y _ BY_4.out.1 Try.underlying22 rfl LY.out.i ?_)
    | (refine wpList_load_mid rfl 22 (.tmp 8) rfl bBS 0 rfl S _ BS_4.out.1 Try.underlying22 rfl LS.out.i ?_)
    | (refine wpList_load_mid rfl 22 (.tmp 4) rfl n 0 rfl X _ BX_5.out.1 Try.underlying22 rfl LX.out.i ?_)
    | (refine wpList_load_mid rfl 22 (.tmp 5) rfl (n + 1) 0 rfl Y _ BY_5.out.1 Try.underlying22 rfl LY.out.i ?_)
    | (refine wpList_load_mid rfl 22 (.tmp 8) rfl bBS 0 rfl S _ BS_5.out.1 Try.underlying22 rfl LS.out.i ?_)
    | (refine wpList_load_mid rfl 22 (.tmp 4) rfl n 0 rfl X _ BX_6.out.1 Try.underlying22 rfl LX.out.i ?_)
    | (refine wpList_load_mid rfl 22 (.tmp 5) rfl (n + 1) 0 rfl Y _ BY_6.out.1 Try.underlying22 rfl LY.out.i ?_)
    | (refine wpList_load_mid rfl 22 (.tmp 8) rfl bBS 0 rfl S _ BS_6.out.1 Try.underlying22 rfl LS.out.i ?_)
    | (refine wpList_load_mid rfl 22 (.tmp 11) rfl bBM 0 rfl R _ BM_6.out.1 Try.underlying22 rfl LR.out.i ?_)
    | (have hq := TK_0; go_at_call 28; refine (cS _).mono ?_; rintro e w1 ⟨rfl, hb⟩; have HB_1 := (show Hid (Below we.heap.size we w1) from HB_0.out.trans (hb.mono HB_0.out.size)); have BX_1 := (show Hid (Rp w1 n 0 X) from BX_0.out.below hb); have BY_1 := (show Hid (Rp w1 (n + 1) 0 Y) from BY_0.out.below hb); have HDB_1 := (show Hid (Dt.Db w1 A L) from HDB_0.out.below hb); have TK_1 := (show Hid True from trivial); clear hq TK_0 hb HB_0 BX_0 BY_0 HDB_0)
    | (have hq := TK_1; go_at_call 48; refine (CS.out _ (HDB_1.out)).mono ?_; rintro e w2 ⟨rfl, hb⟩; have HB_2 := (show Hid (Below we.heap.size we w2) from HB_1.out.trans (hb.mono HB_1.out.size)); have BX_2 := (show Hid (Rp w2 n 0 X) from BX_1.out.below hb); have BY_2 := (show Hid (Rp w2 (n + 1) 0 Y) from BY_1.out.below hb); have HDB_2 := (show Hid (Dt.Db w2 A L) from HDB_1.out.below hb); have TK_2 := (show Hid True from trivial); clear hq TK_1 hb HB_1 BX_1 BY_1 HDB_1)
    | (have hq := TK_2; refine wpList_store_mid rfl 22 (.tmp 8) (.tmp 16) rfl w2.heap.size 0 S.toArray rfl rfl (HTH22.out S LS.out w2) LS.out.j LS.out.o ?_; simp only; have hbx := HBN22.out S LS.out w2; obtain ⟨w3, hw3⟩ : ∃ v, (w2.alloc (.cells Z22 22)).setCells w2.heap.size 0 S = v := ⟨_, rfl⟩; rw [hw3] at hbx ⊢; clear hw3; have hb := hbx.2; replace hbx := hbx.1; obtain ⟨bBS, hbBS⟩ : ∃ b, w2.heap.size = b := ⟨_, rfl⟩; rw [hbBS] at hbx ⊢; clear hbBS; have HB_3 := (show Hid (Below we.heap.size we w3) from HB_2.out.trans (hb.mono HB_2.out.size)); have BX_3 := (show Hid (Rp w3 n 0 X) from BX_2.out.below hb); have BY_3 := (show Hid (Rp w3 (n + 1) 0 Y) from BY_2.out.below hb); have HDB_3 := (show Hid (Dt.Db w3 A L) from HDB_2.out.below hb); have BS_3 := (show Hid (Rp w3 bBS 0 S) from hbx); have TK_3 := (show Hid True from trivial); clear hq TK_2 hb hbx HB_2 BX_2 BY_2 HDB_2)
    | (have hq := TK_3; go_at_call 49; refine (cL _).mono ?_; rintro e w4 ⟨rfl, hb⟩; have HB_4 := (show Hid (Below we.heap.size we w4) from HB_3.out.trans (hb.mono HB_3.out.size)); have BX_4 := (show Hid (Rp w4 n 0 X) from BX_3.out.below hb); have BY_4 := (show Hid (Rp w4 (n + 1) 0 Y) from BY_3.out.below hb); have HDB_4 := (show Hid (Dt.Db w4 A L) from HDB_3.out.below hb); have BS_4 := (show Hid (Rp w4 bBS 0 S) from BS_3.out.below hb); have TK_4 := (show Hid True from trivial); clear hq TK_3 hb HB_3 BX_3 BY_3 HDB_3 BS_3)
    | (have hq := TK_4; go_at_call 50; refine (cM _).mono ?_; rintro e w5 ⟨rfl, hb⟩; have HB_5 := (show Hid (Below we.heap.size we w5) from HB_4.out.trans (hb.mono HB_4.out.size)); have BX_5 := (show Hid (Rp w5 n 0 X) from BX_4.out.below hb); have BY_5 := (show Hid (Rp w5 (n + 1) 0 Y) from BY_4.out.below hb); have HDB_5 := (show Hid (Dt.Db w5 A L) from HDB_4.out.below hb); have BS_5 := (show Hid (Rp w5 bBS 0 S) from BS_4.out.below hb); have TK_5 := (show Hid True from trivial); clear hq TK_4 hb HB_4 BX_4 BY_4 HDB_4 BS_4)
    | (have hq := TK_5; refine wpList_store_mid rfl 22 (.tmp 11) (.tmp 23) rfl w5.heap.size 0 R.toArray rfl rfl (HTH22.out R LR.out w5) LR.out.j LR.out.o ?_; simp only [Act.put]; have hbx := HBN22.out R LR.out w5; obtain ⟨w6, hw6⟩ : ∃ v, (w5.alloc (.cells Z22 22)).setCells w5.heap.size 0 R = v := ⟨_, rfl⟩; rw [hw6] at hbx ⊢; clear hw6; have hb := hbx.2; replace hbx := hbx.1; obtain ⟨bBM, hbBM⟩ : ∃ b, w5.heap.size = b := ⟨_, rfl⟩; rw [hbBM] at hbx ⊢; clear hbBM; have HB_6 := (show Hid (Below we.heap.size we w6) from HB_5.out.trans (hb.mono HB_5.out.size)); have BX_6 := (show Hid (Rp w6 n 0 X) from BX_5.out.below hb); have BY_6 := (show Hid (Rp w6 (n + 1) 0 Y) from BY_5.out.below hb); have HDB_6 := (show Hid (Dt.Db w6 A L) from HDB_5.out.below hb); have BS_6 := (show Hid (Rp w6 bBS 0 S) from BS_5.out.below hb); have BM_6 := (show Hid (Rp w6 bBM 0 R) from hbx); have TK_6 := (show Hid True from trivial); clear hq TK_5 hb hbx HB_5 BX_5 BY_5 HDB_5 BS_5))
  have BX := BX_6
  have BY := BY_6
  have HDB := HDB_6
  have BS := BS_6
  have BM := BM_6
  have HBW := (show Hid (Below w.heap.size w w6) from HBE.out.trans (HB_6.out.mono HBE.out.size))
  refine wp_region_held_drew (S := fun w' => Below w6.heap.size w6 w') (by kernel_rfl) (drewB w6) (fun hS => ?_)
  refine wpAnyH_take (i := 0) (v := .bool true) rfl (by kernel_rfl) (by kernel_rfl) (by kernel_rfl) (fun _ _ _ h => h) (Or.inl ⟨by kernel_rfl, fun wq hS => by go_simp⟩) hS ?_
  try simp only [Act.put, List.setIfInBounds_toArray, List.set_cons_zero, List.set_cons_succ, List.getElem_toArray, List.getElem_cons_zero]
  refine wpAnyH_take (i := 1) (v := .slice (some ⟨n, 0, none⟩) 32 32) rfl (by kernel_rfl) (by kernel_rfl) (by kernel_rfl) (fun _ _ _ h => h) (Or.inl ⟨by kernel_rfl, fun wq hS => by go_simp⟩) hS ?_
  try simp only [Act.put, List.setIfInBounds_toArray, List.set_cons_zero, List.set_cons_succ, List.getElem_toArray, List.getElem_cons_succ, List.getElem_cons_zero]
  refine wpAnyH_ready (rs := [2]) (by kernel_rfl) (by simp) ?_
  refine AllReadyH.cons rfl (fun K hK => ?_) AllReadyH.nil
  go_simp
  refine (CX.out _ (BX.out.below hS)).mono ?_
  rintro e wh1 ⟨vx, rfl, hn1, hb⟩
  have NX_1 := (show Hid (Dt.Num wh1 vx x) from hn1)
  have hS2 : Below w6.heap.size w6 wh1 := hS.trans (hb.mono hS.size)
  refine hK.out _ _ hS2 (fun hS => ?_)
  clear hK K hb hS2  hn1
  try simp only [Act.put, List.setIfInBounds_toArray, List.set_cons_zero, List.set_cons_succ, List.getElem_toArray, List.getElem_cons_succ, List.getElem_cons_zero]
  refine wpAnyH_ready (rs := [3]) (by kernel_rfl) (by simp) ?_
  refine AllReadyH.cons rfl (fun K hK => ?_) AllReadyH.nil
  go_simp
  refine (Dt.order_num _).mono ?_
  rintro e wh2 ⟨vo, rfl, hn1, hb⟩
  have NX_2 := (show Hid (Dt.Num wh2 vx x) from NX_1.out.below hb)
  have NO_2 := (show Hid (Dt.Num wh2 vo ell) from hn1)
  have hS2 : Below w6.heap.size w6 wh2 := hS.trans (hb.mono hS.size)
  refine hK.out _ _ hS2 (fun hS => ?_)
  clear hK K hb hS2 NX_1 hn1
  try simp only [Act.put, List.setIfInBounds_toArray, List.set_cons_zero, List.set_cons_succ, List.getElem_toArray, List.getElem_cons_succ, List.getElem_cons_zero]
  refine wpAnyH_ready (rs := [4]) (by kernel_rfl) (by simp) ?_
  refine AllReadyH.cons rfl (fun K hK => ?_) AllReadyH.nil
  go_simp
  refine (CC.out _ _ _ (NX_2.out) (NO_2.out)).mono ?_
  rintro e wh3 ⟨rfl, hb⟩
  have NX_3 := (show Hid (Dt.Num wh3 vx x) from NX_2.out.below hb)
  have NO_3 := (show Hid (Dt.Num wh3 vo ell) from NO_2.out.below hb)
  have hS2 : Below w6.heap.size w6 wh3 := hS.trans (hb.mono hS.size)
  refine hK.out _ _ hS2 (fun hS => ?_)
  clear hK K hb hS2 NX_2 NO_2
  try simp only [Act.put, List.setIfInBounds_toArray, List.set_cons_zero, List.set_cons_succ, List.getElem_toArray, List.getElem_cons_succ, List.getElem_cons_zero]
  refine wpAnyH_take (i := 5) (v := .bool true) rfl (by kernel_rfl) (by kernel_rfl) (by kernel_rfl) (fun _ _ _ h => h) (Or.inl ⟨by kernel_rfl, fun wq hS => by go_simp⟩) hS ?_
  try simp only [Act.put, List.setIfInBounds_toArray, List.set_cons_zero, List.set_cons_succ, List.getElem_toArray, List.getElem_cons_succ, List.getElem_cons_zero]
  refine wpAnyH_take (i := 6) (v := .bool false) rfl (by kernel_rfl) (by kernel_rfl) (by kernel_rfl) (fun _ _ _ h => h) (Or.inl ⟨by kernel_rfl, fun wq hS => by go_simp⟩) hS ?_
  try simp only [Act.put, List.setIfInBounds_toArray, List.set_cons_zero, List.set_cons_succ, List.getElem_toArray, List.getElem_cons_succ, List.getElem_cons_zero]
  refine wpAnyH_take (i := 7) (v := .bool false) rfl (by kernel_rfl) (by kernel_rfl) (by kernel_rfl) (fun _ _ _ h => h) (Or.inl ⟨by kernel_rfl, fun wq hS => by go_simp⟩) hS ?_
  try simp only [Act.put, List.setIfInBounds_toArray, List.set_cons_zero, List.set_cons_succ, List.getElem_toArray, List.getElem_cons_succ, List.getElem_cons_zero]
  refine wpAnyH_take (i := 8) (v := .agg R.toArray) rfl (by kernel_rfl) (by kernel_rfl) (by kernel_rfl) (fun _ _ _ h => h) (yieldsIf_load_mid (by kernel_rfl) 22 (.tmp 11) rfl bBM 0 rfl R _ (fun wq hq => Rg.Below.range hq BM.out.1 BM.out.2) Try.underlying22 rfl LR.out.i) hS ?_
  try simp only [Act.put, List.setIfInBounds_toArray, List.set_cons_zero, List.set_cons_succ, List.getElem_toArray, List.getElem_cons_succ, List.getElem_cons_zero]
  refine wpAnyH_take (i := 9) (v := .agg X.toArray) rfl (by kernel_rfl) (by kernel_rfl) (by kernel_rfl) (fun _ _ _ h => h) (yieldsIf_load_mid (by kernel_rfl) 22 (.tmp 4) rfl n 0 rfl X _ (fun wq hq => Rg.Below.range hq BX.out.1 BX.out.2) Try.underlying22 rfl LX.out.i) hS ?_
  try simp only [Act.put, List.setIfInBounds_toArray, List.set_cons_zero, List.set_cons_succ, List.getElem_toArray, List.getElem_cons_succ, List.getElem_cons_zero]
  refine wpAnyH_take (i := 10) (v := .agg Y.toArray) rfl (by kernel_rfl) (by kernel_rfl) (by kernel_rfl) (fun _ _ _ h => h) (yieldsIf_load_mid (by kernel_rfl) 22 (.tmp 5) rfl (n + 1) 0 rfl Y _ (fun wq hq => Rg.Below.range hq BY.out.1 BY.out.2) Try.underlying22 rfl LY.out.i) hS ?_
  try simp only [Act.put, List.setIfInBounds_toArray, List.set_cons_zero, List.set_cons_succ, List.getElem_toArray, List.getElem_cons_succ, List.getElem_cons_zero]
  refine wpAnyH_take (i := 11) (v := .agg S.toArray) rfl (by kernel_rfl) (by kernel_rfl) (by kernel_rfl) (fun _ _ _ h => h) (yieldsIf_load_mid (by kernel_rfl) 22 (.tmp 8) rfl bBS 0 rfl S _ (fun wq hq => Rg.Below.range hq BS.out.1 BS.out.2) Try.underlying22 rfl LS.out.i) hS ?_
  try simp only [Act.put, List.setIfInBounds_toArray, List.set_cons_zero, List.set_cons_succ, List.getElem_toArray, List.getElem_cons_succ, List.getElem_cons_zero]
  refine wpAnyH_ready (rs := [12]) (by kernel_rfl) (by simp) ?_
  refine AllReadyH.cons rfl (fun K hK => ?_) AllReadyH.nil
  go_simp
  refine (cN _).mono ?_
  rintro e wh4 ⟨rfl, hb⟩
  have NX_4 := (show Hid (Dt.Num wh4 vx x) from NX_3.out.below hb)
  have NO_4 := (show Hid (Dt.Num wh4 vo ell) from NO_3.out.below hb)
  have hS2 : Below w6.heap.size w6 wh4 := hS.trans (hb.mono hS.size)
  refine hK.out _ _ hS2 (fun hS => ?_)
  clear hK K hb hS2 NX_3 NO_3
  try simp only [Act.put, List.setIfInBounds_toArray, List.set_cons_zero, List.set_cons_succ, List.getElem_toArray, List.getElem_cons_succ, List.getElem_cons_zero]
  refine wpAnyH_take (i := 13) (v := .bool false) rfl (by kernel_rfl) (by kernel_rfl) (by kernel_rfl) (fun _ _ _ h => h) (Or.inl ⟨by kernel_rfl, fun wq hS => by go_simp⟩) hS ?_
  try simp only [Act.put, List.setIfInBounds_toArray, List.set_cons_zero, List.set_cons_succ, List.getElem_toArray, List.getElem_cons_succ, List.getElem_cons_zero]
  refine wpAnyH_take (i := 14) (v := .bool false) rfl (by kernel_rfl) (by kernel_rfl) (by kernel_rfl) (fun _ _ _ h => h) (Or.inl ⟨by kernel_rfl, fun wq hS => by go_simp⟩) hS ?_
  try simp only [Act.put, List.setIfInBounds_toArray, List.set_cons_zero, List.set_cons_succ, List.getElem_toArray, List.getElem_cons_succ, List.getElem_cons_zero]
  refine wpAnyH_done (by kernel_rfl) ?_ _
  have HBF := (show Hid _ from HBW.out.trans (hS.mono HBW.out.size))
  have BS2 := (show Hid (Rp wh4 bBS 0 S) from BS.out.below hS)
  have HD2 := (show Hid (Dt.Db wh4 A L) from HDB.out.below hS)
  clear BX BY HDB BS BM BX_6 BY_6 HDB_6 BS_6 BM_6 NX_4 NO_4 hS HBE HBW CX CC
  go_wp2
  have HBG := HBF
  refine wp_region_held_drew (S := fun w' => Below wh4.heap.size wh4 w') (by kernel_rfl) (drewB wh4) (fun hS => ?_)
  refine wpAnyH_take (i := 0) (v := .bool true) rfl (by kernel_rfl) (by kernel_rfl) (by kernel_rfl) (fun _ _ _ h => h) (Or.inl ⟨by kernel_rfl, fun wq hS => by go_simp⟩) hS ?_
  try simp only [Act.put, List.setIfInBounds_toArray, List.set_cons_zero, List.set_cons_succ, List.getElem_toArray, List.getElem_cons_zero]
  refine wpAnyH_take (i := 1) (v := .bool true) rfl (by kernel_rfl) (by kernel_rfl) (by kernel_rfl) (fun _ _ _ h => h) (Or.inl ⟨by kernel_rfl, fun wq hS => by go_simp⟩) hS ?_
  try simp only [Act.put, List.setIfInBounds_toArray, List.set_cons_zero, List.set_cons_succ, List.getElem_toArray, List.getElem_cons_succ, List.getElem_cons_zero]
  refine wpAnyH_take (i := 2) (v := .nilIface) rfl (by kernel_rfl) (by kernel_rfl) (by kernel_rfl) (fun _ _ _ h => h) (Or.inl ⟨by kernel_rfl, fun wq hS => by go_simp⟩) hS ?_
  try simp only [Act.put, List.setIfInBounds_toArray, List.set_cons_zero, List.set_cons_succ, List.getElem_toArray, List.getElem_cons_succ, List.getElem_cons_zero]
  refine wpAnyH_take (i := 3) (v := .bool true) rfl (by kernel_rfl) (by kernel_rfl) (by kernel_rfl) (fun _ _ _ h => h) (Or.inl ⟨by kernel_rfl, fun wq hS => by go_simp⟩) hS ?_
  try simp only [Act.put, List.setIfInBounds_toArray, List.set_cons_zero, List.set_cons_succ, List.getElem_toArray, List.getElem_cons_succ, List.getElem_cons_zero]
  refine wpAnyH_take (i := 4) (v := .bool true) rfl (by kernel_rfl) (by kernel_rfl) (by kernel_rfl) (fun _ _ _ h => h) (Or.inl ⟨by kernel_rfl, fun wq hS => by go_simp⟩) hS ?_
  try simp only [Act.put, List.setIfInBounds_toArray, List.set_cons_zero, List.set_cons_succ, List.getElem_toArray, List.getElem_cons_succ, List.getElem_cons_zero]
  refine wpAnyH_take (i := 5) (v := .bool true) rfl (by kernel_rfl) (by kernel_rfl) (by kernel_rfl) (fun _ _ _ h => h) (Or.inl ⟨by kernel_rfl, fun wq hS => by go_simp⟩) hS ?_
  try simp only [Act.put, List.setIfInBounds_toArray, List.set_cons_zero, List.set_cons_succ, List.getElem_toArray, List.getElem_cons_succ, List.getElem_cons_zero]
  refine wpAnyH_take (i := 6) (v := .agg S.toArray) rfl (by kernel_rfl) (by kernel_rfl) (by kernel_rfl) (fun _ _ _ h => h) (yieldsIf_load_mid (by kernel_rfl) 22 (.tmp 8) rfl bBS 0 rfl S _ (fun wq hq => Rg.Below.range hq BS2.out.1 BS2.out.2) Try.underlying22 rfl LS.out.i) hS ?_
  try simp only [Act.put, List.setIfInBounds_toArray, List.set_cons_zero, List.set_cons_succ, List.getElem_toArray, List.getElem_cons_succ, List.getElem_cons_zero]
  refine wpAnyH_take (i := 7) (v := .slice A m cap) rfl (by kernel_rfl) (by kernel_rfl) (by kernel_rfl) (fun _ _ _ h => h) (Or.inl ⟨by kernel_rfl, fun wq hS => by go_simp⟩) hS ?_
  try simp only [Act.put, List.setIfInBounds_toArray, List.set_cons_zero, List.set_cons_succ, List.getElem_toArray, List.getElem_cons_succ, List.getElem_cons_zero]
  refine wpAnyH_ready (rs := [8]) (by kernel_rfl) (by simp) ?_
  refine AllReadyH.cons rfl (fun K hK => ?_) AllReadyH.nil
  go_simp
  refine (CO.out _ (HD2.out.below hS)).mono ?_
  rintro e wh11 ⟨vp, rfl, hn1, hb⟩
  have NP_11 := (show Hid (Dt.Num wh11 vp (Dt.ofB L)) from hn1)
  have hS2 : Below wh4.heap.size wh4 wh11 := hS.trans (hb.mono hS.size)
  refine hK.out _ _ hS2 (fun hS => ?_)
  clear hK K hb hS2  hn1
  try simp only [Act.put, List.setIfInBounds_toArray, List.set_cons_zero, List.set_cons_succ, List.getElem_toArray, List.getElem_cons_succ, List.getElem_cons_zero]
  refine wpAnyH_ready (rs := [9]) (by kernel_rfl) (by simp) ?_
  refine AllReadyH.cons rfl (fun K hK => ?_) AllReadyH.nil
  go_simp
  refine (CT.out _ _ (NP_11.out)).mono ?_
  rintro e wh12 ⟨vq, rfl, hn1, hb⟩
  have NP_12 := (show Hid (Dt.Num wh12 vp (Dt.ofB L)) from NP_11.out.below hb)
  have NQ_12 := (show Hid (Dt.Num wh12 vq s) from hn1)
  have hS2 : Below wh4.heap.size wh4 wh12 := hS.trans (hb.mono hS.size)
  refine hK.out _ _ hS2 (fun hS => ?_)
  clear hK K hb hS2 NP_11 hn1
  try simp only [Act.put, List.setIfInBounds_toArray, List.set_cons_zero, List.set_cons_succ, List.getElem_toArray, List.getElem_cons_succ, List.getElem_cons_zero]
  refine wpAnyH_ready (rs := [10]) (by kernel_rfl) (by simp) ?_
  refine AllReadyH.cons rfl (fun K hK => ?_) AllReadyH.nil
  go_simp
  refine (CB.out _ _ (NQ_12.out)).mono ?_
  rintro e wh13 ⟨rfl, hb⟩
  have NP_13 := (show Hid (Dt.Num wh13 vp (Dt.ofB L)) from NP_12.out.below hb)
  have NQ_13 := (show Hid (Dt.Num wh13 vq s) from NQ_12.out.below hb)
  have hS2 : Below wh4.heap.size wh4 wh13 := hS.trans (hb.mono hS.size)
  refine hK.out _ _ hS2 (fun hS => ?_)
  clear hK K hb hS2 NP_12 NQ_12
  try simp only [Act.put, List.setIfInBounds_toArray, List.set_cons_zero, List.set_cons_succ, List.getElem_toArray, List.getElem_cons_succ, List.getElem_cons_zero]
  refine wpAnyH_take (i := 11) (v := .bool true) rfl (by kernel_rfl) (by kernel_rfl) (by kernel_rfl) (fun _ _ _ h => h) (Or.inl ⟨by kernel_rfl, fun wq hS => by go_simp⟩) hS ?_
  try simp only [Act.put, List.setIfInBounds_toArray, List.set_cons_zero, List.set_cons_succ, List.getElem_toArray, List.getElem_cons_succ, List.getElem_cons_zero]
  refine wpAnyH_take (i := 12) (v := .bool true) rfl (by kernel_rfl) (by kernel_rfl) (by kernel_rfl) (fun _ _ _ h => h) (Or.inl ⟨by kernel_rfl, fun wq hS => by go_simp⟩) hS ?_
  try simp only [Act.put, List.setIfInBounds_toArray, List.set_cons_zero, List.set_cons_succ, List.getElem_toArray, List.getElem_cons_succ, List.getElem_cons_zero]
  refine wpAnyH_ready (rs := [13]) (by kernel_rfl) (by simp) ?_
  refine AllReadyH.cons rfl (fun K hK => ?_) AllReadyH.nil
  go_simp
  refine hK.out _ _ hS (fun hS => ?_)
  clear hK K
  try simp only [Act.put, List.setIfInBounds_toArray, List.set_cons_zero, List.set_cons_succ, List.getElem_toArray, List.getElem_cons_succ, List.getElem_cons_zero]
  refine wpAnyH_done (by kernel_rfl) ?_ _
  have HBK := (show Hid _ from HBG.out.trans (hS.mono HBG.out.size))
  go_wp2
  go_ret
  exact ⟨rfl, HBK.out⟩
set_option maxHeartbeats 4000000 in
set_option maxRecDepth 8000 in
theorem scal_high (A : Option Addr) (L : List Nat) (m cap x y : Nat) (hm : m ≤ 64) (hLm : L.length = m) (hLb : ∀ b ∈ L, b < 256) (lx : x < 115792089237316195423570985008687907853269984665640564039457584007913129639936) (ly : y < 115792089237316195423570985008687907853269984665640564039457584007913129639936) (hlow : ¬ x < ell) (w : World) (hA : Dt.Db w A L) :
    Calls Try.prog 11 #[.slice A m cap, bv x, bv y] w fun e w' => e = .returned (.bool true) ∧ Below w.heap.size w w' := by
  obtain ⟨n, hn⟩ : ∃ n, w.heap.size = n := ⟨_, rfl⟩
  obtain ⟨s, hs⟩ : ∃ s, (Dt.ofB L % ell) = s := ⟨_, rfl⟩
  have ls : s < 115792089237316195423570985008687907853269984665640564039457584007913129639936 := by rw [← hs]; exact mod_ell _
  have CS : Hid (∀ W : World, Dt.Db W A L → Calls Try.prog 48 #[.slice A m cap] W fun e w' => e = .returned (.tuple #[bv s, .nilIface]) ∧ Below W.heap.size W w') := fun W h => by rw [← hs, ← hLm]; exact scalar_any A L cap W h hLb (by omega)
  have CO : Hid (∀ W : World, Dt.Db W A L → Calls Try.prog 52 #[.slice A m cap] W fun e w' => ∃ v, e = .returned v ∧ Dt.Num w' v (Dt.ofB L) ∧ Below W.heap.size W w') := fun W h => by rw [← hLm]; exact Dt.of_any A L cap W h (fun j => by rw [← Wit.by_ofB L hLb]; exact Nat.mod_lt _ (by decide)) (by omega)
  have hob : Dt.ofB L < 16777216 ^ 64 := Nat.lt_of_lt_of_le (Wit.ofB_lt L hLb) (Nat.le_trans (Nat.pow_le_pow_right (by decide) (show L.length ≤ 64 by omega)) (by decide +kernel))
  have CT : Hid (∀ (W : World) (u : Value), Dt.Num W u (Dt.ofB L) → Calls Try.prog 55 #[u] W fun e w' => ∃ v, e = .returned v ∧ Dt.Num w' v s ∧ Below W.heap.size W w') := fun W u h => by rw [← hs]; exact Dt.rest_num h hob
  have CB : Hid (∀ (W : World) (u : Value), Dt.Num W u s → Calls Try.prog 16 #[u] W fun e w' => e = .returned (.agg (bvc s).toArray) ∧ Below W.heap.size W w') := fun W u h => Dt.bytes_num h
  have en := eq_nil
  have HD : Hid (Dt.Db w A L) := hA
  have cS := shown7_any
  have cL : ∀ W : World, Calls Try.prog 49 #[bv x] W fun e w' => e = .returned (.bool false) ∧ Below W.heap.size W w' := fun W => by have h := low_any x W lx; rwa [decide_eq_false hlow] at h
  have cM : ∀ W : World, Calls Try.prog 50 #[bv x, bv y, bv s] W fun e w' => e = .returned (bv ((x * y + s) % ell)) ∧ Below W.heap.size W w' := fun W => mulAdd_any x y s W lx ly ls
  have cN : ∀ W : World, Calls Try.prog 54 #[bv x, bv y, bv s] W fun e w' => e = .returned (bv ((x * y + s) % ell)) ∧ Below W.heap.size W w' := fun W => Dt.rmulAdd_any x y s W lx ly ls
  have CX : Hid (∀ W : World, Rp W n 0 (bvc x) → Calls Try.prog 52 #[.slice (some ⟨n, 0, none⟩) 32 32] W fun e w' => ∃ v, e = .returned v ∧ Dt.Num w' v x ∧ Below W.heap.size W w') := fun W h => Dt.of32 x n W lx h
  have CC : Hid (∀ (W : World) (u v : Value), Dt.Num W u x → Dt.Num W v ell → Calls Try.prog 51 #[u, v] W fun e w' => e = .returned (.int .i64 (Dt.cmpN x ell)) ∧ Below W.heap.size W w') := fun W u v h1 h2 => Dt.cmp_num h1 h2 (Dt.pow64 lx) (Dt.pow64 ell_lt)
  have hc : ¬ Dt.cmpN x ell < 0 := by unfold Dt.cmpN; rw [if_neg hlow]; split <;> omega
  obtain ⟨c, hcc⟩ : ∃ c, Dt.cmpN x ell = c := ⟨_, rfl⟩
  rw [hcc] at CC hc
  obtain ⟨r, hr⟩ : ∃ r, (x * y + s) % ell = r := ⟨_, rfl⟩
  have lr : r < 115792089237316195423570985008687907853269984665640564039457584007913129639936 := by rw [← hr]; exact mod_ell _
  rw [hr] at cM cN
  have qR := eq22_same r lr
  have qS := eq22_same s ls
  have LX : Hid (L32 (bvc x)) := l32 x
  have LY : Hid (L32 (bvc y)) := l32 y
  have LS : Hid (L32 (bvc s)) := l32 s
  have LR : Hid (L32 (bvc r)) := l32 r
  unfold bv at CS cL cM cN ⊢
  have HS0 := (show Hid _ from start2b w (bvc x) (bvc y))
  obtain ⟨X, hX⟩ : ∃ X, bvc x = X := ⟨_, rfl⟩
  rw [hX] at cL cM cN CX LX HS0 ⊢
  obtain ⟨Y, hY⟩ : ∃ X, bvc y = X := ⟨_, rfl⟩
  rw [hY] at cM cN LY HS0 ⊢
  obtain ⟨S, hS⟩ : ∃ X, bvc s = X := ⟨_, rfl⟩
  rw [hS] at CS cM cN LS qS CB
  obtain ⟨R, hR⟩ : ∃ X, bvc r = X := ⟨_, rfl⟩
  rw [hR] at cM cN LR qR
  clear hX hY hS hR hr lr ls hs lx ly hlow hcc hA hLb hLm hob
  have hz22 := zero22
  have HBN22 : Hid _ := box22
  have HTH22 : Hid _ := th22
  obtain ⟨Z22, hZ22⟩ : ∃ Z, z22 = Z := ⟨_, rfl⟩
  rw [hZ22] at hz22 HBN22 HTH22
  clear hZ22
  have hm' : ¬ (64 : Int) < (m : Int) := by omega
  have HN : Hid (w.heap.size = n) := hn
  obtain ⟨we, hwe⟩ : ∃ v, (w.alloc (.cells X.toArray 22)).alloc (.cells Y.toArray 22) = v := ⟨_, rfl⟩
  have BX : Hid (Rp we n 0 X) := by have h := HS0.out.1; rw [hwe, HN.out] at h; exact h
  have BY : Hid (Rp we (n + 1) 0 Y) := by have h := HS0.out.2.1; rw [hwe, HN.out] at h; exact h
  have HBE : Hid (Below w.heap.size w we) := by have h := HS0.out.2.2; rw [hwe] at h; exact h
  have HDB : Hid (Dt.Db we A L) := HD.out.below HBE.out
  clear HS0
  have BX_0 := BX
  have BY_0 := BY
  have HDB_0 := HDB
  have HB_0 := (show Hid (Below we.heap.size we we) from Below.refl _ _)
  have TK_0 := (show Hid True from trivial)
  clear BX BY HDB
  go_enter Try.func11, Try.ntmps11
  go_wp2_with (first
    | (refine wpList_load_mid rfl 22 (.tmp 4) rfl n 0 rfl X _ BX_0.out.1 Try.underlying22 rfl LX.out.i ?_)
    | (refine wpList_load_mid rfl 22 (.tmp 5) rfl (n + 1) 0 rfl Y _ BY_0.out.1 Try.underlying22 rfl LY.out.i ?_)
    | (refine wpList_load_mid rfl 22 (.tmp 4) rfl n 0 rfl X _ BX_1.out.1 Try.underlying22 rfl LX.out.i ?_)
    | (refine wpList_load_mid rfl 22 (.tmp 5) rfl (n + 1) 0 rfl Y _ BY_1.out.1 Try.underlying22 rfl LY.out.i ?_)
    | (refine wpList_load_mid rfl 22 (.tmp 4) rfl n 0 rfl X _ BX_2.out.1 Try.underlying22 rfl LX.out.i ?_)
    | (refine wpList_load_mid rfl 22 (.tmp 5) rfl (n + 1) 0 rfl Y _ BY_2.out.1 Try.underlying22 rfl LY.out.i ?_)
    | (refine wpList_load_mid rfl 22 (.tmp 4) rfl n 0 rfl X _ BX_3.out.1 Try.underlying22 rfl LX.out.i ?_)
    | (refine wpList_load_mid rfl 22 (.tmp 5) rfl (n + 1) 0 rfl Y _ BY_3.out.1 Try.underlying22 rfl LY.out.i ?_)
    | (refine wpList_load_mid rfl 22 (.tmp 8) rfl bBS 0 rfl S _ BS_3.out.1 Try.underlying22 rfl LS.out.i ?_)
    | (refine wpList_load_mid rfl 22 (.tmp 4) rfl n 0 rfl X _ BX_4.out.1 Try.underlying22 rfl LX.out.i ?_)
    | (refine wpList_load_mid rfl 22 (.tmp 5) rfl (n + 1) 0 rfl Y _ BY_4.out.1 Try.underlying22 rfl LY.out.i ?_)
    | (refine wpList_load_mid rfl 22 (.tmp 8) rfl bBS 0 rfl S _ BS_4.out.1 Try.underlying22 rfl LS.out.i ?_)
    | (refine wpList_load_mid rfl 22 (.tmp 4) rfl n 0 rfl X _ BX_5.out.1 Try.underlying22 rfl LX.out.i ?_)
    | (refine wpList_load_mid rfl 22 (.tmp 5) rfl (n + 1) 0 rfl Y _ BY_5.out.1 Try.underlying22 rfl LY.out.i ?_)
    | (refine wpList_load_mid rfl 22 (.tmp 8) rfl bBS 0 rfl S _ BS_5.out.1 Try.underlying22 rfl LS.out.i ?_)
    | (refine wpList_load_mid rfl 22 (.tmp 4) rfl n 0 rfl X _ BX_6.out.1 Try.underlying22 rfl LX.out.i ?_)
    | (refine wpList_load_mid rfl 22 (.tmp 5) rfl (n + 1) 0 rfl Y _ BY_6.out.1 Try.underlying22 rfl LY.out.i ?_)
    | (refine wpList_load_mid rfl 22 (.tmp 8) rfl bBS 0 rfl S _ BS_6.out.1 Try.underlying22 rfl LS.out.i ?_)
    | (refine wpList_load_mid rfl 22 (.tmp 11) rfl bBM 0 rfl R _ BM_6.out.1 Try.underlying22 rfl LR.out.i ?_)
    | (have hq := TK_0; go_at_call 28; refine (cS _).mono ?_; rintro e w1 ⟨rfl, hb⟩; have HB_1 := (show Hid (Below we.heap.size we w1) from HB_0.out.trans (hb.mono HB_0.out.size)); have BX_1 := (show Hid (Rp w1 n 0 X) from BX_0.out.below hb); have BY_1 := (show Hid (Rp w1 (n + 1) 0 Y) from BY_0.out.below hb); have HDB_1 := (show Hid (Dt.Db w1 A L) from HDB_0.out.below hb); have TK_1 := (show Hid True from trivial); clear hq TK_0 hb HB_0 BX_0 BY_0 HDB_0)
    | (have hq := TK_1; go_at_call 48; refine (CS.out _ (HDB_1.out)).mono ?_; rintro e w2 ⟨rfl, hb⟩; have HB_2 := (show Hid (Below we.heap.size we w2) from HB_1.out.trans (hb.mono HB_1.out.size)); have BX_2 := (show Hid (Rp w2 n 0 X) from BX_1.out.below hb); have BY_2 := (show Hid (Rp w2 (n + 1) 0 Y) from BY_1.out.below hb); have HDB_2 := (show Hid (Dt.Db w2 A L) from HDB_1.out.below hb); have TK_2 := (show Hid True from trivial); clear hq TK_1 hb HB_1 BX_1 BY_1 HDB_1)
    | (have hq := TK_2; refine wpList_store_mid rfl 22 (.tmp 8) (.tmp 16) rfl w2.heap.size 0 S.toArray rfl rfl (HTH22.out S LS.out w2) LS.out.j LS.out.o ?_; simp only; have hbx := HBN22.out S LS.out w2; obtain ⟨w3, hw3⟩ : ∃ v, (w2.alloc (.cells Z22 22)).setCells w2.heap.size 0 S = v := ⟨_, rfl⟩; rw [hw3] at hbx ⊢; clear hw3; have hb := hbx.2; replace hbx := hbx.1; obtain ⟨bBS, hbBS⟩ : ∃ b, w2.heap.size = b := ⟨_, rfl⟩; rw [hbBS] at hbx ⊢; clear hbBS; have HB_3 := (show Hid (Below we.heap.size we w3) from HB_2.out.trans (hb.mono HB_2.out.size)); have BX_3 := (show Hid (Rp w3 n 0 X) from BX_2.out.below hb); have BY_3 := (show Hid (Rp w3 (n + 1) 0 Y) from BY_2.out.below hb); have HDB_3 := (show Hid (Dt.Db w3 A L) from HDB_2.out.below hb); have BS_3 := (show Hid (Rp w3 bBS 0 S) from hbx); have TK_3 := (show Hid True from trivial); clear hq TK_2 hb hbx HB_2 BX_2 BY_2 HDB_2)
    | (have hq := TK_3; go_at_call 49; refine (cL _).mono ?_; rintro e w4 ⟨rfl, hb⟩; have HB_4 := (show Hid (Below we.heap.size we w4) from HB_3.out.trans (hb.mono HB_3.out.size)); have BX_4 := (show Hid (Rp w4 n 0 X) from BX_3.out.below hb); have BY_4 := (show Hid (Rp w4 (n + 1) 0 Y) from BY_3.out.below hb); have HDB_4 := (show Hid (Dt.Db w4 A L) from HDB_3.out.below hb); have BS_4 := (show Hid (Rp w4 bBS 0 S) from BS_3.out.below hb); have TK_4 := (show Hid True from trivial); clear hq TK_3 hb HB_3 BX_3 BY_3 HDB_3 BS_3)
    | (have hq := TK_4; go_at_call 50; refine (cM _).mono ?_; rintro e w5 ⟨rfl, hb⟩; have HB_5 := (show Hid (Below we.heap.size we w5) from HB_4.out.trans (hb.mono HB_4.out.size)); have BX_5 := (show Hid (Rp w5 n 0 X) from BX_4.out.below hb); have BY_5 := (show Hid (Rp w5 (n + 1) 0 Y) from BY_4.out.below hb); have HDB_5 := (show Hid (Dt.Db w5 A L) from HDB_4.out.below hb); have BS_5 := (show Hid (Rp w5 bBS 0 S) from BS_4.out.below hb); have TK_5 := (show Hid True from trivial); clear hq TK_4 hb HB_4 BX_4 BY_4 HDB_4 BS_4)
    | (have hq := TK_5; refine wpList_store_mid rfl 22 (.tmp 11) (.tmp 23) rfl w5.heap.size 0 R.toArray rfl rfl (HTH22.out R LR.out w5) LR.out.j LR.out.o ?_; simp only [Act.put]; have hbx := HBN22.out R LR.out w5; obtain ⟨w6, hw6⟩ : ∃ v, (w5.alloc (.cells Z22 22)).setCells w5.heap.size 0 R = v := ⟨_, rfl⟩; rw [hw6] at hbx ⊢; clear hw6; have hb := hbx.2; replace hbx := hbx.1; obtain ⟨bBM, hbBM⟩ : ∃ b, w5.heap.size = b := ⟨_, rfl⟩; rw [hbBM] at hbx ⊢; clear hbBM; have HB_6 := (show Hid (Below we.heap.size we w6) from HB_5.out.trans (hb.mono HB_5.out.size)); have BX_6 := (show Hid (Rp w6 n 0 X) from BX_5.out.below hb); have BY_6 := (show Hid (Rp w6 (n + 1) 0 Y) from BY_5.out.below hb); have HDB_6 := (show Hid (Dt.Db w6 A L) from HDB_5.out.below hb); have BS_6 := (show Hid (Rp w6 bBS 0 S) from BS_5.out.below hb); have BM_6 := (show Hid (Rp w6 bBM 0 R) from hbx); have TK_6 := (show Hid True from trivial); clear hq TK_5 hb hbx HB_5 BX_5 BY_5 HDB_5 BS_5))
  have BX := BX_6
  have BY := BY_6
  have HDB := HDB_6
  have BS := BS_6
  have BM := BM_6
  have HBW := (show Hid (Below w.heap.size w w6) from HBE.out.trans (HB_6.out.mono HBE.out.size))
  refine wp_region_held_drew (S := fun w' => Below w6.heap.size w6 w') (by kernel_rfl) (drewB w6) (fun hS => ?_)
  refine wpAnyH_take (i := 0) (v := .bool false) rfl (by kernel_rfl) (by kernel_rfl) (by kernel_rfl) (fun _ _ _ h => h) (Or.inl ⟨by kernel_rfl, fun wq hS => by go_simp⟩) hS ?_
  try simp only [Act.put, List.setIfInBounds_toArray, List.set_cons_zero, List.set_cons_succ, List.getElem_toArray, List.getElem_cons_zero]
  refine wpAnyH_take (i := 1) (v := .slice (some ⟨n, 0, none⟩) 32 32) rfl (by kernel_rfl) (by kernel_rfl) (by kernel_rfl) (fun _ _ _ h => h) (Or.inl ⟨by kernel_rfl, fun wq hS => by go_simp⟩) hS ?_
  try simp only [Act.put, List.setIfInBounds_toArray, List.set_cons_zero, List.set_cons_succ, List.getElem_toArray, List.getElem_cons_succ, List.getElem_cons_zero]
  refine wpAnyH_ready (rs := [2]) (by kernel_rfl) (by simp) ?_
  refine AllReadyH.cons rfl (fun K hK => ?_) AllReadyH.nil
  go_simp
  refine (CX.out _ (BX.out.below hS)).mono ?_
  rintro e wh1 ⟨vx, rfl, hn1, hb⟩
  have NX_1 := (show Hid (Dt.Num wh1 vx x) from hn1)
  have hS2 : Below w6.heap.size w6 wh1 := hS.trans (hb.mono hS.size)
  refine hK.out _ _ hS2 (fun hS => ?_)
  clear hK K hb hS2  hn1
  try simp only [Act.put, List.setIfInBounds_toArray, List.set_cons_zero, List.set_cons_succ, List.getElem_toArray, List.getElem_cons_succ, List.getElem_cons_zero]
  refine wpAnyH_ready (rs := [3]) (by kernel_rfl) (by simp) ?_
  refine AllReadyH.cons rfl (fun K hK => ?_) AllReadyH.nil
  go_simp
  refine (Dt.order_num _).mono ?_
  rintro e wh2 ⟨vo, rfl, hn1, hb⟩
  have NX_2 := (show Hid (Dt.Num wh2 vx x) from NX_1.out.below hb)
  have NO_2 := (show Hid (Dt.Num wh2 vo ell) from hn1)
  have hS2 : Below w6.heap.size w6 wh2 := hS.trans (hb.mono hS.size)
  refine hK.out _ _ hS2 (fun hS => ?_)
  clear hK K hb hS2 NX_1 hn1
  try simp only [Act.put, List.setIfInBounds_toArray, List.set_cons_zero, List.set_cons_succ, List.getElem_toArray, List.getElem_cons_succ, List.getElem_cons_zero]
  refine wpAnyH_ready (rs := [4]) (by kernel_rfl) (by simp) ?_
  refine AllReadyH.cons rfl (fun K hK => ?_) AllReadyH.nil
  go_simp
  refine (CC.out _ _ _ (NX_2.out) (NO_2.out)).mono ?_
  rintro e wh3 ⟨rfl, hb⟩
  have NX_3 := (show Hid (Dt.Num wh3 vx x) from NX_2.out.below hb)
  have NO_3 := (show Hid (Dt.Num wh3 vo ell) from NO_2.out.below hb)
  have hS2 : Below w6.heap.size w6 wh3 := hS.trans (hb.mono hS.size)
  refine hK.out _ _ hS2 (fun hS => ?_)
  clear hK K hb hS2 NX_2 NO_2
  try simp only [Act.put, List.setIfInBounds_toArray, List.set_cons_zero, List.set_cons_succ, List.getElem_toArray, List.getElem_cons_succ, List.getElem_cons_zero]
  refine wpAnyH_take (i := 5) (v := .bool false) rfl (by kernel_rfl) (by kernel_rfl) (by kernel_rfl) (fun _ _ _ h => h) (Or.inl ⟨by kernel_rfl, fun wq hS => by go_simp⟩) hS ?_
  try simp only [Act.put, List.setIfInBounds_toArray, List.set_cons_zero, List.set_cons_succ, List.getElem_toArray, List.getElem_cons_succ, List.getElem_cons_zero]
  refine wpAnyH_take (i := 6) (v := .bool false) rfl (by kernel_rfl) (by kernel_rfl) (by kernel_rfl) (fun _ _ _ h => h) (Or.inl ⟨by kernel_rfl, fun wq hS => by go_simp⟩) hS ?_
  try simp only [Act.put, List.setIfInBounds_toArray, List.set_cons_zero, List.set_cons_succ, List.getElem_toArray, List.getElem_cons_succ, List.getElem_cons_zero]
  refine wpAnyH_take (i := 7) (v := .bool false) rfl (by kernel_rfl) (by kernel_rfl) (by kernel_rfl) (fun _ _ _ h => h) (Or.inl ⟨by kernel_rfl, fun wq hS => by go_simp⟩) hS ?_
  try simp only [Act.put, List.setIfInBounds_toArray, List.set_cons_zero, List.set_cons_succ, List.getElem_toArray, List.getElem_cons_succ, List.getElem_cons_zero]
  refine wpAnyH_take (i := 8) (v := .agg R.toArray) rfl (by kernel_rfl) (by kernel_rfl) (by kernel_rfl) (fun _ _ _ h => h) (yieldsIf_load_mid (by kernel_rfl) 22 (.tmp 11) rfl bBM 0 rfl R _ (fun wq hq => Rg.Below.range hq BM.out.1 BM.out.2) Try.underlying22 rfl LR.out.i) hS ?_
  try simp only [Act.put, List.setIfInBounds_toArray, List.set_cons_zero, List.set_cons_succ, List.getElem_toArray, List.getElem_cons_succ, List.getElem_cons_zero]
  refine wpAnyH_take (i := 9) (v := .agg X.toArray) rfl (by kernel_rfl) (by kernel_rfl) (by kernel_rfl) (fun _ _ _ h => h) (yieldsIf_load_mid (by kernel_rfl) 22 (.tmp 4) rfl n 0 rfl X _ (fun wq hq => Rg.Below.range hq BX.out.1 BX.out.2) Try.underlying22 rfl LX.out.i) hS ?_
  try simp only [Act.put, List.setIfInBounds_toArray, List.set_cons_zero, List.set_cons_succ, List.getElem_toArray, List.getElem_cons_succ, List.getElem_cons_zero]
  refine wpAnyH_take (i := 10) (v := .agg Y.toArray) rfl (by kernel_rfl) (by kernel_rfl) (by kernel_rfl) (fun _ _ _ h => h) (yieldsIf_load_mid (by kernel_rfl) 22 (.tmp 5) rfl (n + 1) 0 rfl Y _ (fun wq hq => Rg.Below.range hq BY.out.1 BY.out.2) Try.underlying22 rfl LY.out.i) hS ?_
  try simp only [Act.put, List.setIfInBounds_toArray, List.set_cons_zero, List.set_cons_succ, List.getElem_toArray, List.getElem_cons_succ, List.getElem_cons_zero]
  refine wpAnyH_take (i := 11) (v := .agg S.toArray) rfl (by kernel_rfl) (by kernel_rfl) (by kernel_rfl) (fun _ _ _ h => h) (yieldsIf_load_mid (by kernel_rfl) 22 (.tmp 8) rfl bBS 0 rfl S _ (fun wq hq => Rg.Below.range hq BS.out.1 BS.out.2) Try.underlying22 rfl LS.out.i) hS ?_
  try simp only [Act.put, List.setIfInBounds_toArray, List.set_cons_zero, List.set_cons_succ, List.getElem_toArray, List.getElem_cons_succ, List.getElem_cons_zero]
  refine wpAnyH_ready (rs := [12]) (by kernel_rfl) (by simp) ?_
  refine AllReadyH.cons rfl (fun K hK => ?_) AllReadyH.nil
  go_simp
  refine (cN _).mono ?_
  rintro e wh4 ⟨rfl, hb⟩
  have NX_4 := (show Hid (Dt.Num wh4 vx x) from NX_3.out.below hb)
  have NO_4 := (show Hid (Dt.Num wh4 vo ell) from NO_3.out.below hb)
  have hS2 : Below w6.heap.size w6 wh4 := hS.trans (hb.mono hS.size)
  refine hK.out _ _ hS2 (fun hS => ?_)
  clear hK K hb hS2 NX_3 NO_3
  try simp only [Act.put, List.setIfInBounds_toArray, List.set_cons_zero, List.set_cons_succ, List.getElem_toArray, List.getElem_cons_succ, List.getElem_cons_zero]
  refine wpAnyH_take (i := 13) (v := .bool false) rfl (by kernel_rfl) (by kernel_rfl) (by kernel_rfl) (fun _ _ _ h => h) (Or.inl ⟨by kernel_rfl, fun wq hS => by go_simp⟩) hS ?_
  try simp only [Act.put, List.setIfInBounds_toArray, List.set_cons_zero, List.set_cons_succ, List.getElem_toArray, List.getElem_cons_succ, List.getElem_cons_zero]
  refine wpAnyH_take (i := 14) (v := .bool false) rfl (by kernel_rfl) (by kernel_rfl) (by kernel_rfl) (fun _ _ _ h => h) (Or.inl ⟨by kernel_rfl, fun wq hS => by go_simp⟩) hS ?_
  try simp only [Act.put, List.setIfInBounds_toArray, List.set_cons_zero, List.set_cons_succ, List.getElem_toArray, List.getElem_cons_succ, List.getElem_cons_zero]
  refine wpAnyH_done (by kernel_rfl) ?_ _
  have HBF := (show Hid _ from HBW.out.trans (hS.mono HBW.out.size))
  have BS2 := (show Hid (Rp wh4 bBS 0 S) from BS.out.below hS)
  have HD2 := (show Hid (Dt.Db wh4 A L) from HDB.out.below hS)
  clear BX BY HDB BS BM BX_6 BY_6 HDB_6 BS_6 BM_6 NX_4 NO_4 hS HBE HBW CX CC
  go_wp2
  have HBG := HBF
  refine wp_region_held_drew (S := fun w' => Below wh4.heap.size wh4 w') (by kernel_rfl) (drewB wh4) (fun hS => ?_)
  refine wpAnyH_take (i := 0) (v := .bool true) rfl (by kernel_rfl) (by kernel_rfl) (by kernel_rfl) (fun _ _ _ h => h) (Or.inl ⟨by kernel_rfl, fun wq hS => by go_simp⟩) hS ?_
  try simp only [Act.put, List.setIfInBounds_toArray, List.set_cons_zero, List.set_cons_succ, List.getElem_toArray, List.getElem_cons_zero]
  refine wpAnyH_take (i := 1) (v := .bool true) rfl (by kernel_rfl) (by kernel_rfl) (by kernel_rfl) (fun _ _ _ h => h) (Or.inl ⟨by kernel_rfl, fun wq hS => by go_simp⟩) hS ?_
  try simp only [Act.put, List.setIfInBounds_toArray, List.set_cons_zero, List.set_cons_succ, List.getElem_toArray, List.getElem_cons_succ, List.getElem_cons_zero]
  refine wpAnyH_take (i := 2) (v := .nilIface) rfl (by kernel_rfl) (by kernel_rfl) (by kernel_rfl) (fun _ _ _ h => h) (Or.inl ⟨by kernel_rfl, fun wq hS => by go_simp⟩) hS ?_
  try simp only [Act.put, List.setIfInBounds_toArray, List.set_cons_zero, List.set_cons_succ, List.getElem_toArray, List.getElem_cons_succ, List.getElem_cons_zero]
  refine wpAnyH_take (i := 3) (v := .bool true) rfl (by kernel_rfl) (by kernel_rfl) (by kernel_rfl) (fun _ _ _ h => h) (Or.inl ⟨by kernel_rfl, fun wq hS => by go_simp⟩) hS ?_
  try simp only [Act.put, List.setIfInBounds_toArray, List.set_cons_zero, List.set_cons_succ, List.getElem_toArray, List.getElem_cons_succ, List.getElem_cons_zero]
  refine wpAnyH_take (i := 4) (v := .bool true) rfl (by kernel_rfl) (by kernel_rfl) (by kernel_rfl) (fun _ _ _ h => h) (Or.inl ⟨by kernel_rfl, fun wq hS => by go_simp⟩) hS ?_
  try simp only [Act.put, List.setIfInBounds_toArray, List.set_cons_zero, List.set_cons_succ, List.getElem_toArray, List.getElem_cons_succ, List.getElem_cons_zero]
  refine wpAnyH_take (i := 5) (v := .bool true) rfl (by kernel_rfl) (by kernel_rfl) (by kernel_rfl) (fun _ _ _ h => h) (Or.inl ⟨by kernel_rfl, fun wq hS => by go_simp⟩) hS ?_
  try simp only [Act.put, List.setIfInBounds_toArray, List.set_cons_zero, List.set_cons_succ, List.getElem_toArray, List.getElem_cons_succ, List.getElem_cons_zero]
  refine wpAnyH_take (i := 6) (v := .agg S.toArray) rfl (by kernel_rfl) (by kernel_rfl) (by kernel_rfl) (fun _ _ _ h => h) (yieldsIf_load_mid (by kernel_rfl) 22 (.tmp 8) rfl bBS 0 rfl S _ (fun wq hq => Rg.Below.range hq BS2.out.1 BS2.out.2) Try.underlying22 rfl LS.out.i) hS ?_
  try simp only [Act.put, List.setIfInBounds_toArray, List.set_cons_zero, List.set_cons_succ, List.getElem_toArray, List.getElem_cons_succ, List.getElem_cons_zero]
  refine wpAnyH_take (i := 7) (v := .slice A m cap) rfl (by kernel_rfl) (by kernel_rfl) (by kernel_rfl) (fun _ _ _ h => h) (Or.inl ⟨by kernel_rfl, fun wq hS => by go_simp⟩) hS ?_
  try simp only [Act.put, List.setIfInBounds_toArray, List.set_cons_zero, List.set_cons_succ, List.getElem_toArray, List.getElem_cons_succ, List.getElem_cons_zero]
  refine wpAnyH_ready (rs := [8]) (by kernel_rfl) (by simp) ?_
  refine AllReadyH.cons rfl (fun K hK => ?_) AllReadyH.nil
  go_simp
  refine (CO.out _ (HD2.out.below hS)).mono ?_
  rintro e wh11 ⟨vp, rfl, hn1, hb⟩
  have NP_11 := (show Hid (Dt.Num wh11 vp (Dt.ofB L)) from hn1)
  have hS2 : Below wh4.heap.size wh4 wh11 := hS.trans (hb.mono hS.size)
  refine hK.out _ _ hS2 (fun hS => ?_)
  clear hK K hb hS2  hn1
  try simp only [Act.put, List.setIfInBounds_toArray, List.set_cons_zero, List.set_cons_succ, List.getElem_toArray, List.getElem_cons_succ, List.getElem_cons_zero]
  refine wpAnyH_ready (rs := [9]) (by kernel_rfl) (by simp) ?_
  refine AllReadyH.cons rfl (fun K hK => ?_) AllReadyH.nil
  go_simp
  refine (CT.out _ _ (NP_11.out)).mono ?_
  rintro e wh12 ⟨vq, rfl, hn1, hb⟩
  have NP_12 := (show Hid (Dt.Num wh12 vp (Dt.ofB L)) from NP_11.out.below hb)
  have NQ_12 := (show Hid (Dt.Num wh12 vq s) from hn1)
  have hS2 : Below wh4.heap.size wh4 wh12 := hS.trans (hb.mono hS.size)
  refine hK.out _ _ hS2 (fun hS => ?_)
  clear hK K hb hS2 NP_11 hn1
  try simp only [Act.put, List.setIfInBounds_toArray, List.set_cons_zero, List.set_cons_succ, List.getElem_toArray, List.getElem_cons_succ, List.getElem_cons_zero]
  refine wpAnyH_ready (rs := [10]) (by kernel_rfl) (by simp) ?_
  refine AllReadyH.cons rfl (fun K hK => ?_) AllReadyH.nil
  go_simp
  refine (CB.out _ _ (NQ_12.out)).mono ?_
  rintro e wh13 ⟨rfl, hb⟩
  have NP_13 := (show Hid (Dt.Num wh13 vp (Dt.ofB L)) from NP_12.out.below hb)
  have NQ_13 := (show Hid (Dt.Num wh13 vq s) from NQ_12.out.below hb)
  have hS2 : Below wh4.heap.size wh4 wh13 := hS.trans (hb.mono hS.size)
  refine hK.out _ _ hS2 (fun hS => ?_)
  clear hK K hb hS2 NP_12 NQ_12
  try simp only [Act.put, List.setIfInBounds_toArray, List.set_cons_zero, List.set_cons_succ, List.getElem_toArray, List.getElem_cons_succ, List.getElem_cons_zero]
  refine wpAnyH_take (i := 11) (v := .bool true) rfl (by kernel_rfl) (by kernel_rfl) (by kernel_rfl) (fun _ _ _ h => h) (Or.inl ⟨by kernel_rfl, fun wq hS => by go_simp⟩) hS ?_
  try simp only [Act.put, List.setIfInBounds_toArray, List.set_cons_zero, List.set_cons_succ, List.getElem_toArray, List.getElem_cons_succ, List.getElem_cons_zero]
  refine wpAnyH_take (i := 12) (v := .bool true) rfl (by kernel_rfl) (by kernel_rfl) (by kernel_rfl) (fun _ _ _ h => h) (Or.inl ⟨by kernel_rfl, fun wq hS => by go_simp⟩) hS ?_
  try simp only [Act.put, List.setIfInBounds_toArray, List.set_cons_zero, List.set_cons_succ, List.getElem_toArray, List.getElem_cons_succ, List.getElem_cons_zero]
  refine wpAnyH_ready (rs := [13]) (by kernel_rfl) (by simp) ?_
  refine AllReadyH.cons rfl (fun K hK => ?_) AllReadyH.nil
  go_simp
  refine hK.out _ _ hS (fun hS => ?_)
  clear hK K
  try simp only [Act.put, List.setIfInBounds_toArray, List.set_cons_zero, List.set_cons_succ, List.getElem_toArray, List.getElem_cons_succ, List.getElem_cons_zero]
  refine wpAnyH_done (by kernel_rfl) ?_ _
  have HBK := (show Hid _ from HBG.out.trans (hS.mono HBG.out.size))
  go_wp2
  go_ret
  exact ⟨rfl, HBK.out⟩
end Fd
end Go.Proofs.Ytgdekigdbbldoaa

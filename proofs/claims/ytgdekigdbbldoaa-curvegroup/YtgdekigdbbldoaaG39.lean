/- The reference's Is and Base: contracts, by walking their texts. The reference's Order; the statements' small: contracts, by walking their texts. -/
import Derived.Test.YtgdekigdbbldoaaG38
import Derived.Test.YtgdekigdbbldoaaG30
import Derived.Deep.RegionHeld
import Derived.Test.YtgdekigdbbldoaaG37
namespace Go.Proofs.Ytgdekigdbbldoaa
open Go.RowKit
namespace Dt
open Rg Go.Proofs.Ytgdekigdbbldoaa.Fd Go.Proofs.Ytgdekigdbbldoaa.Fd.Pratt

theorem two256' {x : Nat} (h : x < 115792089237316195423570985008687907853269984665640564039457584007913129639936) : x < 2 ^ 256 := by rw [← two256]; exact h
theorem onr_on (x y : Nat) : onr (x % p) (y % p) factor = decide (OnC x y) := by
  have e1 : x % p * (x % p) % p = x * x % p := (Nat.mul_mod x x p).symm
  have e2 : y % p * (y % p) % p = y * y % p := (Nat.mul_mod y y p).symm
  have e3 : cone % p = 1 := by decide
  unfold onr
  rw [e1, e2]
  refine decide_eq_decide.2 ?_
  unfold OnC
  rw [e3, Nat.mod_mod, Nat.mod_mod, Nat.mod_mod]
set_option maxHeartbeats 1000000 in
set_option maxRecDepth 4000 in
theorem ris_any (x y : Nat) (w : World) (hx : x < 115792089237316195423570985008687907853269984665640564039457584007913129639936) (hy : y < 115792089237316195423570985008687907853269984665640564039457584007913129639936) :
    Calls Try.prog 31 #[pv x y] w fun e w' => e = .returned (.bool (decide (OnC x y))) ∧ Below w.heap.size w w' := by
  have CX : Hid (∀ W : World, Calls Try.prog 14 #[.agg (bvc x).toArray] W fun e w' => ∃ r, e = .returned r ∧ Num w' r (x % p) ∧ Below W.heap.size W w') := fun W => in_any x W (two256' hx)
  have CY : Hid (∀ W : World, Calls Try.prog 14 #[.agg (bvc y).toArray] W fun e w' => ∃ r, e = .returned r ∧ Num w' r (y % p) ∧ Below W.heap.size W w') := fun W => in_any y W (two256' hy)
  have CO : Hid (∀ (W : World) (u v z : Value), Num W u (x % p) → Num W v (y % p) → Num W z factor → Calls Try.prog 77 #[u, v, z] W fun e w' => e = .returned (.bool (decide (OnC x y))) ∧ Below W.heap.size W w') := fun W u v z h1 h2 h3 => by have h := on_num h1 h2 h3 (modp _) (modp _) (by decide); rwa [onr_on] at h
  unfold pv
  have LX : Hid (L32 (bvc x)) := l32 x
  have LY : Hid (L32 (bvc y)) := l32 y
  have HRX : Hid (Rp (w.alloc (.cells (bvc x ++ bvc y).toArray 43)) w.heap.size 0 (bvc x)) := ⟨range_left (range_new _ _ _), by rw [size_alloc]; omega⟩
  have HRY : Hid (Rp (w.alloc (.cells (bvc x ++ bvc y).toArray 43)) w.heap.size 32 (bvc y)) := ⟨by have h := range_right (m := 32) (range_new w (bvc x ++ bvc y) 43) (bvc_len x); rwa [Nat.zero_add] at h, by rw [size_alloc]; omega⟩
  have HB1 : Hid (Below w.heap.size w (w.alloc (.cells (bvc x ++ bvc y).toArray 43))) := (Below.refl _ _).alloc (Nat.le_refl _) _
  obtain ⟨V, hV⟩ : ∃ V, bvc x ++ bvc y = V := ⟨_, rfl⟩
  obtain ⟨X, hX⟩ : ∃ V, bvc x = V := ⟨_, rfl⟩
  obtain ⟨Y, hY⟩ : ∃ V, bvc y = V := ⟨_, rfl⟩
  rw [hV] at HRX HRY HB1 ⊢
  rw [hX] at CX HRX LX
  rw [hY] at CY HRY LY
  obtain ⟨a, ha⟩ : ∃ a, x % p = a := ⟨_, rfl⟩
  obtain ⟨b, hb⟩ : ∃ a, y % p = a := ⟨_, rfl⟩
  obtain ⟨d, hd⟩ : ∃ d, decide (OnC x y) = d := ⟨_, rfl⟩
  rw [ha] at CX CO
  rw [hb] at CY CO
  rw [hd] at CO ⊢
  clear hV hX hY ha hb hd hx hy x y
  obtain ⟨n, hn⟩ : ∃ n, w.heap.size = n := ⟨_, rfl⟩
  have HN : Hid (w.heap.size = n) := hn
  obtain ⟨w1, hw1⟩ : ∃ v, w.alloc (.cells V.toArray 43) = v := ⟨_, rfl⟩
  rw [hw1] at HRX HRY HB1
  rw [hn] at HRX HRY
  go_enter Try.func31, Try.ntmps31
  go_wp2
  clear hw1
  refine wp_region_held_drew (S := fun w' => Below w1.heap.size w1 w') (by kernel_rfl) (drewB w1) (fun hS => ?_)
  refine wpAnyH_take (i := 0) (v := .pointer (some ⟨n, 0, none⟩)) rfl (by kernel_rfl) (by kernel_rfl) (by kernel_rfl) (fun _ _ _ h => h) (Or.inl ⟨by kernel_rfl, fun wq hS => by go_simp⟩) hS ?_
  try simp only [Act.put, List.setIfInBounds_toArray, List.set_cons_zero, List.set_cons_succ, List.getElem_toArray, List.getElem_cons_zero]
  refine wpAnyH_take (i := 1) (v := .agg X.toArray) rfl (by kernel_rfl) (by kernel_rfl) (by kernel_rfl) (fun _ _ _ h => h) (yieldsIf_load_mid (by kernel_rfl) 22 (.tmp 3) rfl n 0 rfl X _ (fun wq hq => Rg.Below.range hq HRX.out.1 HRX.out.2) Try.underlying22 rfl LX.out.i) hS ?_
  try simp only [Act.put, List.setIfInBounds_toArray, List.set_cons_zero, List.set_cons_succ, List.getElem_toArray, List.getElem_cons_succ, List.getElem_cons_zero]
  refine wpAnyH_take (i := 3) (v := .pointer (some ⟨n, 32, none⟩)) rfl (by kernel_rfl) (by kernel_rfl) (by kernel_rfl) (fun _ _ _ h => h) (Or.inl ⟨by kernel_rfl, fun wq hS => by go_simp⟩) hS ?_
  try simp only [Act.put, List.setIfInBounds_toArray, List.set_cons_zero, List.set_cons_succ, List.getElem_toArray, List.getElem_cons_succ, List.getElem_cons_zero]
  refine wpAnyH_take (i := 4) (v := .agg Y.toArray) rfl (by kernel_rfl) (by kernel_rfl) (by kernel_rfl) (fun _ _ _ h => h) (yieldsIf_load_mid (by kernel_rfl) 22 (.tmp 6) rfl n 32 rfl Y _ (fun wq hq => Rg.Below.range hq HRY.out.1 HRY.out.2) Try.underlying22 rfl LY.out.i) hS ?_
  try simp only [Act.put, List.setIfInBounds_toArray, List.set_cons_zero, List.set_cons_succ, List.getElem_toArray, List.getElem_cons_succ, List.getElem_cons_zero]
  refine wpAnyH_ready (rs := [2]) (by kernel_rfl) (by simp) ?_
  refine AllReadyH.cons rfl (fun K hK => ?_) AllReadyH.nil
  go_simp
  refine (CX.out _).mono ?_
  rintro e wh1 ⟨va, rfl, hn1, hb⟩
  have NA_1 := (show Hid (Num wh1 va a) from hn1)
  have hS2 : Below w1.heap.size w1 wh1 := hS.trans (hb.mono hS.size)
  refine hK.out _ _ hS2 (fun hS => ?_)
  clear hK K hb hS2  hn1
  try simp only [Act.put, List.setIfInBounds_toArray, List.set_cons_zero, List.set_cons_succ, List.getElem_toArray, List.getElem_cons_succ, List.getElem_cons_zero]
  refine wpAnyH_ready (rs := [5]) (by kernel_rfl) (by simp) ?_
  refine AllReadyH.cons rfl (fun K hK => ?_) AllReadyH.nil
  go_simp
  refine (CY.out _).mono ?_
  rintro e wh2 ⟨vb, rfl, hn1, hb⟩
  have NA_2 := (show Hid (Num wh2 va a) from NA_1.out.below hb)
  have NB_2 := (show Hid (Num wh2 vb b) from hn1)
  have hS2 : Below w1.heap.size w1 wh2 := hS.trans (hb.mono hS.size)
  refine hK.out _ _ hS2 (fun hS => ?_)
  clear hK K hb hS2 NA_1 hn1
  try simp only [Act.put, List.setIfInBounds_toArray, List.set_cons_zero, List.set_cons_succ, List.getElem_toArray, List.getElem_cons_succ, List.getElem_cons_zero]
  refine wpAnyH_ready (rs := [6]) (by kernel_rfl) (by simp) ?_
  refine AllReadyH.cons rfl (fun K hK => ?_) AllReadyH.nil
  go_simp
  refine (d_num _).mono ?_
  rintro e wh3 ⟨vd, rfl, hn1, hb⟩
  have NA_3 := (show Hid (Num wh3 va a) from NA_2.out.below hb)
  have NB_3 := (show Hid (Num wh3 vb b) from NB_2.out.below hb)
  have ND_3 := (show Hid (Num wh3 vd factor) from hn1)
  have hS2 : Below w1.heap.size w1 wh3 := hS.trans (hb.mono hS.size)
  refine hK.out _ _ hS2 (fun hS => ?_)
  clear hK K hb hS2 NA_2 NB_2 hn1
  try simp only [Act.put, List.setIfInBounds_toArray, List.set_cons_zero, List.set_cons_succ, List.getElem_toArray, List.getElem_cons_succ, List.getElem_cons_zero]
  refine wpAnyH_ready (rs := [7]) (by kernel_rfl) (by simp) ?_
  refine AllReadyH.cons rfl (fun K hK => ?_) AllReadyH.nil
  go_simp
  refine (CO.out _ _ _ _ (NA_3.out) (NB_3.out) (ND_3.out)).mono ?_
  rintro e wh4 ⟨rfl, hb⟩
  have NA_4 := (show Hid (Num wh4 va a) from NA_3.out.below hb)
  have NB_4 := (show Hid (Num wh4 vb b) from NB_3.out.below hb)
  have ND_4 := (show Hid (Num wh4 vd factor) from ND_3.out.below hb)
  have hS2 : Below w1.heap.size w1 wh4 := hS.trans (hb.mono hS.size)
  refine hK.out _ _ hS2 (fun hS => ?_)
  clear hK K hb hS2 NA_3 NB_3 ND_3
  try simp only [Act.put, List.setIfInBounds_toArray, List.set_cons_zero, List.set_cons_succ, List.getElem_toArray, List.getElem_cons_succ, List.getElem_cons_zero]
  refine wpAnyH_ready (rs := [8]) (by kernel_rfl) (by simp) ?_
  refine AllReadyH.cons rfl (fun K hK => ?_) AllReadyH.nil
  go_simp
  refine hK.out _ _ hS (fun hS => ?_)
  clear hK K
  try simp only [Act.put, List.setIfInBounds_toArray, List.set_cons_zero, List.set_cons_succ, List.getElem_toArray, List.getElem_cons_succ, List.getElem_cons_zero]
  refine wpAnyH_done (by kernel_rfl) ?_ _
  have HBF := (show Hid _ from HB1.out.trans (hS.mono HB1.out.size))
  go_wp2
  go_ret
  exact ⟨rfl, HBF.out⟩
theorem base_y : 4 * (5 ^ (p - 2) % p) % p = baseY := by
  rw [← pm_eq p 256 5 (p - 2) (by decide +kernel)]
  decide +kernel
theorem xq_pm (y : Nat) : xq y = (y * y % p + p - 1) % p * pm p 256 ((factor * (y * y % p) % p + 1) % p) (p - 2) % p := by
  unfold xq
  rw [pm_eq p 256 _ (p - 2) (by decide +kernel)]
theorem base_x : rt (xq baseY) * rt (xq baseY) % p = xq baseY ∧ evn (rt (xq baseY)) = baseX := by
  have e2 : ∀ q, rt q = if pm p 256 q rootExponent * pm p 256 q rootExponent % p = q then pm p 256 q rootExponent else pm p 256 q rootExponent * rootOfMinusOne % p := fun q => by unfold rt; rw [r0_pm]
  rw [e2, xq_pm]
  decide +kernel
set_option maxHeartbeats 1000000 in
set_option maxRecDepth 4000 in
theorem rbase_any (w : World) : Calls Try.prog 32 #[] w fun e w' => e = .returned (pv baseX baseY) ∧ Below w.heap.size w w' := by
  have C1 : Hid (∀ (W : World) (u v : Value), Num W u 4 → Num W v 5 → Calls Try.prog 78 #[u, v] W fun e w' => ∃ r, e = .returned r ∧ Num w' r baseY ∧ Below W.heap.size W w') := fun W u v h1 h2 => by have h := ratio_num h1 h2 (by decide) (by decide); rwa [base_y] at h
  have C2 : Hid (∀ (W : World) (u : Value), Num W u baseY → Calls Try.prog 79 #[u] W fun e w' => ∃ r, e = .returned (.tuple #[r, .bool true]) ∧ Num w' r baseX ∧ Below W.heap.size W w') := fun W u h1 => by
    have h := xOf_num h1 (by decide)
    rw [decide_eq_true base_x.1] at h
    exact h.mono fun e w' ⟨v, h1, h2, h3⟩ => ⟨v, h1, by have h5 := h2.1 base_x.1; rwa [base_x.2] at h5, h3⟩
  have C3 : Hid (∀ (W : World) (u : Value), Num W u baseX → Calls Try.prog 16 #[u] W fun e w' => e = .returned (.agg (bvc baseX).toArray) ∧ Below W.heap.size W w') := fun W u h => bytes_num h
  have C4 : Hid (∀ (W : World) (u : Value), Num W u baseY → Calls Try.prog 16 #[u] W fun e w' => e = .returned (.agg (bvc baseY).toArray) ∧ Below W.heap.size W w') := fun W u h => bytes_num h
  unfold pv
  have HBP : Hid (Try.prog.built 43 [(0, .agg (bvc baseX).toArray), (1, .agg (bvc baseY).toArray)] = some (bvc baseX ++ bvc baseY).toArray) := build_point _ _ (bvc_len _) (bvc_len _)
  have LE : Hid (L64 (bvc baseX ++ bvc baseY)) := l64 _ _
  obtain ⟨E, hE⟩ : ∃ V, bvc baseX ++ bvc baseY = V := ⟨_, rfl⟩
  obtain ⟨X, hX⟩ : ∃ V, bvc baseX = V := ⟨_, rfl⟩
  obtain ⟨Y, hY⟩ : ∃ V, bvc baseY = V := ⟨_, rfl⟩
  rw [hE] at HBP LE ⊢
  rw [hX] at HBP C3
  rw [hY] at HBP C4
  clear hE hX hY
  have hz2 := zero43
  have AO : Hid (Ao w.heap.size (w.alloc (.cells z43 43)) w.heap.size 64) := ⟨Nat.le_refl _, by rw [size_alloc]; omega, there43 w⟩
  have HB1 : Hid (Below w.heap.size w (w.alloc (.cells z43 43))) := (Below.refl _ _).alloc (Nat.le_refl _) _
  obtain ⟨Z2, hZ2⟩ : ∃ Z, z43 = Z := ⟨_, rfl⟩
  rw [hZ2] at hz2 AO HB1
  clear hZ2
  obtain ⟨n, hn⟩ : ∃ n, w.heap.size = n := ⟨_, rfl⟩
  obtain ⟨wb, hwb⟩ : ∃ v, w.alloc (.cells Z2 43) = v := ⟨_, rfl⟩
  rw [hwb] at AO HB1
  replace AO : Hid (Ao w.heap.size wb n 64) := by have h := AO.out; rw [hn] at h; show Ao _ _ _ _; rw [hn]; exact h
  have AO_0 := AO
  have HB_0 := (show Hid (Below wb.heap.size wb wb) from Below.refl _ _)
  have TK_0 := (show Hid True from trivial)
  clear AO
  go_enter Try.func32, Try.ntmps32
  go_wp2_with (first
    | (have hq := TK_0; go_at_call 78; refine (C1.out _ _ _ ((show Num (wb.alloc (.cells #[.int .i64 4] 3)) (.slice (some ⟨wb.heap.size, 0, none⟩) 1 1) 4 from lit_num wb 4 (by decide) (by decide)).below ((Below.refl _ _).alloc (Nat.le_refl _) _)) ((show Num ((wb.alloc (.cells #[.int .i64 4] 3)).alloc (.cells #[.int .i64 5] 3)) (.slice (some ⟨(wb.heap.size + 1), 0, none⟩) 1 1) 5 from lit_num1 wb _ 5 (by decide) (by decide)))).mono ?_; rintro e w1 ⟨vy, rfl, hn, hb⟩; replace hb := lift1 hb; replace hb := lift1 hb; have HB_1 := (show Hid (Below wb.heap.size wb w1) from HB_0.out.trans (hb.mono HB_0.out.size)); have AO_1 := (show Hid (Ao w.heap.size w1 n 64) from AO_0.out.below hb); have NY_1 := (show Hid (Num w1 vy baseY) from hn); have TK_1 := (show Hid True from trivial); clear hq TK_0 hb HB_0 AO_0 hn)
    | (have hq := TK_1; go_at_call 79; refine (C2.out _ _ (NY_1.out)).mono ?_; rintro e w2 ⟨vx, rfl, hn, hb⟩; have HB_2 := (show Hid (Below wb.heap.size wb w2) from HB_1.out.trans (hb.mono HB_1.out.size)); have AO_2 := (show Hid (Ao w.heap.size w2 n 64) from AO_1.out.below hb); have NY_2 := (show Hid (Num w2 vy baseY) from NY_1.out.below hb); have NX_2 := (show Hid (Num w2 vx baseX) from hn); have TK_2 := (show Hid True from trivial); clear hq TK_1 hb HB_1 AO_1 NY_1 hn)
    | (have hq := TK_2; go_at_call 16; refine (C3.out _ _ (NX_2.out)).mono ?_; rintro e w3 ⟨rfl, hb⟩; have HB_3 := (show Hid (Below wb.heap.size wb w3) from HB_2.out.trans (hb.mono HB_2.out.size)); have AO_3 := (show Hid (Ao w.heap.size w3 n 64) from AO_2.out.below hb); have NY_3 := (show Hid (Num w3 vy baseY) from NY_2.out.below hb); have NX_3 := (show Hid (Num w3 vx baseX) from NX_2.out.below hb); have TK_3 := (show Hid True from trivial); clear hq TK_2 hb HB_2 AO_2 NY_2 NX_2)
    | (have hq := TK_3; go_at_call 16; refine (C4.out _ _ (NY_3.out)).mono ?_; rintro e w4 ⟨rfl, hb⟩; have HB_4 := (show Hid (Below wb.heap.size wb w4) from HB_3.out.trans (hb.mono HB_3.out.size)); have AO_4 := (show Hid (Ao w.heap.size w4 n 64) from AO_3.out.below hb); have NY_4 := (show Hid (Num w4 vy baseY) from NY_3.out.below hb); have NX_4 := (show Hid (Num w4 vx baseX) from NX_3.out.below hb); have HT := (show Hid _ from LE.out.t AO_4.out); have TK_4 := (show Hid True from trivial); clear hq TK_3 hb HB_3 AO_3 NY_3 NX_3)
    | (refine build_to rfl 43 _ rfl (some 16) rfl [(0, .agg X.toArray), (1, .agg Y.toArray)] (by kernel_rfl) E HBP.out ?_; simp only [Act.put, List.setIfInBounds_toArray, List.set_cons_zero, List.set_cons_succ])
    | (refine wpList_store_mid rfl 43 (.tmp 0) (.tmp 16) rfl n 0 E.toArray rfl rfl HT.out LE.out.j LE.out.o ?_; simp only))
  exact bodyPost_ret (results_cell Try.results32 rfl (end43 LE.out AO_4.out)) rfl ⟨rfl, below_setCells (HB1.out.trans (HB_4.out.mono HB1.out.size)) AO_4.out.1⟩
end Dt
end Go.Proofs.Ytgdekigdbbldoaa

namespace Go.Proofs.Ytgdekigdbbldoaa
open Go.RowKit
namespace Dt
open Rg Go.Proofs.Ytgdekigdbbldoaa.Fd

/-- What Order begins with. -/
theorem order_start (w : World) :
    let e := (w.alloc (.cells (Array.replicate 32 (.int .u8 0)) 22)).alloc (.cells #[.int .u8 237, .int .u8 211, .int .u8 245, .int .u8 92, .int .u8 26, .int .u8 99, .int .u8 18, .int .u8 88, .int .u8 214, .int .u8 156, .int .u8 247, .int .u8 162, .int .u8 222, .int .u8 249, .int .u8 222, .int .u8 20] 5)
    Cs .u8 32 w.heap.size w e w.heap.size (fun _ => 0) ∧ ∀ j, j < 16 → e.cell? ⟨w.heap.size + 1, j, none⟩ = some (.int .u8 ((by_ ell j : Nat) : Int)) := by
  intro e
  have hb : Below (w.alloc (.cells (Array.replicate 32 (.int .u8 0)) 22)).heap.size (w.alloc (.cells (Array.replicate 32 (.int .u8 0)) 22)) e := (Below.refl _ _).alloc (Nat.le_refl _) _
  have h0 : Cs .u8 32 w.heap.size w (w.alloc (.cells (Array.replicate 32 (.int .u8 0)) 22)) w.heap.size (fun _ => 0) :=
    ⟨(Below.refl _ _).alloc (Nat.le_refl _) _, fun j hj => cell_new w (Array.replicate 32 (.int .u8 0)) 22 (i := j) (v := .int .u8 0) (by simp [hj]), there_new w (Array.replicate 32 (.int .u8 0)) 22 (m := 32) fun j hj => by simp [hj], Nat.le_refl _, by rw [size_alloc]; omega⟩
  refine ⟨h0.below hb, fun j hj => ?_⟩
  have h2 := cell_new (w.alloc (.cells (Array.replicate 32 (.int .u8 0)) 22)) #[.int .u8 237, .int .u8 211, .int .u8 245, .int .u8 92, .int .u8 26, .int .u8 99, .int .u8 18, .int .u8 88, .int .u8 214, .int .u8 156, .int .u8 247, .int .u8 162, .int .u8 222, .int .u8 249, .int .u8 222, .int .u8 20] 5 (i := j) (v := .int .u8 ((by_ ell j : Nat) : Int)) (by
    match j, hj with
    | 0, _ => rfl
    | 1, _ => rfl
    | 2, _ => rfl
    | 3, _ => rfl
    | 4, _ => rfl
    | 5, _ => rfl
    | 6, _ => rfl
    | 7, _ => rfl
    | 8, _ => rfl
    | 9, _ => rfl
    | 10, _ => rfl
    | 11, _ => rfl
    | 12, _ => rfl
    | 13, _ => rfl
    | 14, _ => rfl
    | 15, _ => rfl
    | i + 16, h => exact absurd h (by omega))
  rw [size_alloc] at h2
  exact h2
theorem order_bytes : ∀ j, j < 32 → upd (tabs (by_ ell) 16) 31 16 j = by_ ell j := by decide +kernel

set_option maxHeartbeats 1000000 in
set_option maxRecDepth 4000 in
theorem order_num (w : World) : Calls Try.prog 53 #[] w fun e w' => ∃ v, e = .returned v ∧ Num w' v ell ∧ Below w.heap.size w w' := by
  obtain ⟨n, hn⟩ : ∃ n, w.heap.size = n := ⟨_, rfl⟩
  have hS := order_start w
  rw [hn, ← tabs_zero (by_ ell)] at hS
  have HS : Hid (_ ∧ _) := hS
  have HOB : Hid (∀ j, j < 32 → upd (tabs (by_ ell) 16) 31 16 j = by_ ell j) := order_bytes
  have hv : ofB (bl ell 32) = ell := by rw [ofB_bl, b256, Nat.mod_eq_of_lt (by rw [← two256]; exact ell_lt)]
  have CO : Hid (∀ W : World, W.rangeAt n 0 (bvc ell) → n < W.heap.size → Calls Try.prog 52 #[.slice (some ⟨n, 0, none⟩) 32 32] W fun e w' => ∃ v, e = .returned v ∧ Num w' v ell ∧ Below W.heap.size W w') := fun W hr hl => by
    have h := of_any (some ⟨n, 0, none⟩) (bl ell 32) 32 W (.inr ⟨_, _, rfl, hl, by rw [← bvc_bc]; exact hr⟩) (bl_lt ell 32) (by rw [bl_len]; decide)
    rwa [hv, bl_len] at h
  have HEL : Hid (∀ j, by_ ell j < 256) := fun j => Nat.mod_lt _ (by decide)
  obtain ⟨B, hB⟩ : ∃ B, by_ ell = B := ⟨_, rfl⟩
  have HRG : Hid (∀ {W : World} {M : Nat → Nat}, Cs .u8 32 n w W n M → (∀ j, j < 32 → M j = B j) → W.rangeAt n 0 (bvc ell)) := fun h1 h2 => h1.range ell (by rw [hB]; exact h2)
  rw [hB] at HS HOB HEL
  clear hS hv hB
  go_enter Try.func53, Try.ntmps53
  go_wp2
  go_loopw [3] (fun y wr => ∃ k : Nat, y = .int .i64 (k : Int) ∧ k ≤ 16 ∧ Hid (Cs .u8 32 n w wr n (tabs B k) ∧ n + 1 < wr.heap.size ∧ ∀ j, j < 16 → wr.cell? ⟨n + 1, j, none⟩ = some (.int .u8 ((B j : Nat) : Int)))) (fun y _ => 16 - numOf y)
  case atStart => exact ⟨0, rfl, Nat.zero_le _, ⟨HS.out.1, by simp [hn], HS.out.2⟩⟩
  case round =>
    clear HS
    obtain ⟨k, rfl, hk, HR⟩ := hrel
    by_cases hlt : k < 16
    · have hlt' : (k : Int) < 16 := by omega
      have hlt0 : (0 : Int) ≤ (k : Int) := by omega
      have hlt3 : (k : Int) < 32 := by omega
      have pk := HR.out.2.2 k hlt
      have HV : Hid (Cs .u8 32 n w (wr.setCell ⟨n, k, none⟩ (.int .u8 ((B k : Nat) : Int))) n (tabs B (k + 1)) ∧ n + 1 < (wr.setCell ⟨n, k, none⟩ (.int .u8 ((B k : Nat) : Int))).heap.size ∧ ∀ j, j < 16 → (wr.setCell ⟨n, k, none⟩ (.int .u8 ((B k : Nat) : Int))).cell? ⟨n + 1, j, none⟩ = some (.int .u8 ((B j : Nat) : Int))) := by
        have h := HR.out.1.set (show k < 32 by omega) (B k)
        rw [tabs_succ] at h
        refine ⟨h, by simpa using HR.out.2.1, fun j hj => ?_⟩
        rw [World.cell?_setCell_other _ _ _ _ (fun e => by cases e)]
        exact HR.out.2.2 j hj
      have r0 := HR.out.1.c k (by omega)
      have r1 := (HR.out.1.t k (by omega)).2
      simp only [Nat.zero_add] at r1
      obtain ⟨b, hb⟩ : ∃ b, B k = b := ⟨_, rfl⟩
      rw [hb] at pk HV
      clear hb HR HOB CO HEL HRG
      go_wp2
      go_roundw
      case rel => exact ⟨k + 1, by go_num, hlt, HV⟩
      case measure => simp [numOf]; omega
    · have hk4 : k = 16 := by omega
      subst hk4
      have hlt' : ¬ ((16 : Nat) : Int) < 16 := by omega
      have r0 := HR.out.1.c 31 (by decide)
      have r1 := (HR.out.1.t 31 (by decide)).2
      simp only [Nat.zero_add] at r1
      have HC := (show Hid (Cs .u8 32 n w (wr.setCell ⟨n, 31, none⟩ (.int .u8 16)) n (upd (tabs B 16) 31 16)) from HR.out.1.set (by decide) 16)
      have c1 := CO.out _ (HRG.out HC.out HOB.out) HC.out.l.2
      clear HR HOB CO HEL HRG
      go_wp2_with (go_at_call 52; refine c1.mono ?_; rintro e w1 ⟨v1, rfl, hn1, hb1⟩; have HN1 := (show Hid (Num w1 v1 ell) from hn1); have HB1 := (show Hid (Below n w w1) from HC.out.b.trans (hb1.mono (Nat.le_of_lt HC.out.l.2))); clear hn1 hb1 c1)
      go_ret
      exact ⟨_, rfl, HN1.out, by rw [hn]; exact HB1.out⟩
end Dt
namespace Fd
open Rg
set_option maxHeartbeats 1000000 in
set_option maxRecDepth 4000 in
theorem small7_any (k : Nat) (w : World) (hk : k < 256) : Calls Try.prog 46 #[.int .u8 (k : Int)] w fun e w' => e = .returned (bv k) ∧ Below w.heap.size w w' := by
  have hz := zero22
  have e1 : (w.alloc (.cells z22 22)).heap.size = w.heap.size + 1 := size_alloc _ _
  have hR : ((w.alloc (.cells z22 22)).alloc (.cells (z22.setIfInBounds 0 (.int .u8 (k : Int))) 22)).rangeAt (w.heap.size + 1) 0 (bvc k) := by
    rw [z22_set hk]
    exact range_new1 _ _ _ _
  have hT : ((w.alloc (.cells z22 22)).alloc (.cells (z22.setIfInBounds 0 (.int .u8 (k : Int))) 22)).there w.heap.size 0 32 := World.there_alloc (there_new w z22 22 (m := 32) fun j hj => by simp [z22, hj]) _
  have hB : Below w.heap.size w ((w.alloc (.cells z22 22)).alloc (.cells (z22.setIfInBounds 0 (.int .u8 (k : Int))) 22)) := ((Below.refl _ _).alloc (Nat.le_refl _) _).alloc (by simp) _
  have hc : ((w.alloc (.cells z22 22)).alloc (.cells z22 22)).cell? ⟨w.heap.size + 1, 0, none⟩ = some (.int .u8 0) := cell_new1 w _ z22 22 (i := 0) (by simp [z22])
  have hf := ((there_new (w.alloc (.cells z22 22)) z22 22 (m := 32) fun j hj => by simp [z22, hj]) 0 (by decide)).2
  rw [Nat.zero_add, e1] at hf
  obtain ⟨Z, hZ⟩ : ∃ Z, z22 = Z := ⟨_, rfl⟩
  rw [hZ] at hz hR hT hB hc hf
  obtain ⟨n, hn⟩ : ∃ n, w.heap.size = n := ⟨_, rfl⟩
  rw [hn] at hR hT hB hc hf
  have HB := (show Hid (Below n w _) from hB)
  have HT := (show Hid (World.there _ n 0 32) from hT)
  have HR := (show Hid (World.rangeAt _ (n + 1) 0 (bvc k)) from hR)
  have HN : Hid (w.heap.size = n) := hn
  clear hR hT hB hZ e1
  unfold bv
  have HI : Hid ((Try.prog.info? 22).map (·.size) = some (bvc k).length) := info22l k
  have HI2 : Hid ((Try.prog.info? 22).map (·.size) = some (bvc k).toArray.size) := info22s k
  have H32 : Hid ((bvc k).toArray.all (·.oneCell') = true) := one32 k
  have HLN : Hid ((bvc k).toArray.size = 32) := by show _ = _; rw [List.size_toArray, bvc_len]
  obtain ⟨R, hRR⟩ : ∃ R, bvc k = R := ⟨_, rfl⟩
  rw [hRR] at HR HI HI2 H32 HLN ⊢
  rw [← HLN.out] at HT
  clear hRR
  go_enter Try.func46, Try.ntmps46
  go_wp2_with (first
    | (refine wpList_load_mid rfl 22 (.tmp 3) rfl (n + 1) 0 rfl R _ HR.out Try.underlying22 rfl HI.out ?_)
    | (refine wpList_store_mid rfl 22 (.tmp 2) (.tmp 6) rfl n 0 R.toArray rfl rfl HT.out HI2.out H32.out ?_; simp only))
  exact bodyPost_ret (results_cell Try.results46 rfl (run_loadVar_mid (P := Try.prog) _ n 0 22 R _ (World.rangeAt_setCells_same _ _ _ _ (by rw [← List.size_toArray]; exact HT.out)) Try.underlying22 rfl HI.out)) rfl ⟨rfl, by first | exact below_setCells HB.out (Nat.le_refl _) | (rw [HN.out]; exact below_setCells HB.out (Nat.le_refl _))⟩
end Fd
end Go.Proofs.Ytgdekigdbbldoaa

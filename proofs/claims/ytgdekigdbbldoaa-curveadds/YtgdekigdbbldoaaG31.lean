/- The reference's Is and Base: contracts, by walking their texts. A contract of a function of curve over fractions, by walking its text (printed by a program). -/
import Derived.Test.YtgdekigdbbldoaaG28
import Derived.Test.YtgdekigdbbldoaaG29
import Derived.Test.YtgdekigdbbldoaaG30
import Derived.Deep.RegionHeld
namespace Go.Proofs.Ytgdekigdbbldoaa
open Go.RowKit
namespace Dt
open Rg Go.Proofs.Ytgdekigdbbldoaa.Fd Go.Proofs.Ytgdekigdbbldoaa.Fd.Pratt

theorem two256' {x : Nat} (h : x < 115792089237316195423570985008687907853269984665640564039457584007913129639936) : x < 2 ^ 256 := by rw [← two256]; exact h
theorem onr_on (x y : Nat) : onr (x % p) (y % p) factor = decide (OnC x y) := by
  have e1 : x % p * (x % p) % p = x * x % p := (Nat.mul_mod x x p).symm
  have e2 : y % p * (y % p) % p = y * y % p := (Nat.mul_mod y y p).symm
  have e3 : cone % p = 1 := by decide
  unfold onr
  rw [e1, e2]
  refine decide_eq_decide.2 ?_
  unfold OnC
  rw [e3, Nat.mod_mod, Nat.mod_mod, Nat.mod_mod]
set_option maxHeartbeats 1000000 in
set_option maxRecDepth 4000 in
theorem ris_any (x y : Nat) (w : World) (hx : x < 115792089237316195423570985008687907853269984665640564039457584007913129639936) (hy : y < 115792089237316195423570985008687907853269984665640564039457584007913129639936) :
    Calls Try.prog 31 #[pv x y] w fun e w' => e = .returned (.bool (decide (OnC x y))) ∧ Below w.heap.size w w' := by
  have CX : Hid (∀ W : World, Calls Try.prog 14 #[.agg (bvc x).toArray] W fun e w' => ∃ r, e = .returned r ∧ Num w' r (x % p) ∧ Below W.heap.size W w') := fun W => in_any x W (two256' hx)
  have CY : Hid (∀ W : World, Calls Try.prog 14 #[.agg (bvc y).toArray] W fun e w' => ∃ r, e = .returned r ∧ Num w' r (y % p) ∧ Below W.heap.size W w') := fun W => in_any y W (two256' hy)
  have CO : Hid (∀ (W : World) (u v z : Value), Num W u (x % p) → Num W v (y % p) → Num W z factor → Calls Try.prog 77 #[u, v, z] W fun e w' => e = .returned (.bool (decide (OnC x y))) ∧ Below W.heap.size W w') := fun W u v z h1 h2 h3 => by have h := on_num h1 h2 h3 (modp _) (modp _) (by decide); rwa [onr_on] at h
  unfold pv
  have LX : Hid (L32 (bvc x)) := l32 x
  have LY : Hid (L32 (bvc y)) := l32 y
  have HRX : Hid (Rp (w.alloc (.cells (bvc x ++ bvc y).toArray 43)) w.heap.size 0 (bvc x)) := ⟨range_left (range_new _ _ _), by rw [size_alloc]; omega⟩
  have HRY : Hid (Rp (w.alloc (.cells (bvc x ++ bvc y).toArray 43)) w.heap.size 32 (bvc y)) := ⟨by have h := range_right (m := 32) (range_new w (bvc x ++ bvc y) 43) (bvc_len x); rwa [Nat.zero_add] at h, by rw [size_alloc]; omega⟩
  have HB1 : Hid (Below w.heap.size w (w.alloc (.cells (bvc x ++ bvc y).toArray 43))) := (Below.refl _ _).alloc (Nat.le_refl _) _
  obtain ⟨V, hV⟩ : ∃ V, bvc x ++ bvc y = V := ⟨_, rfl⟩
  obtain ⟨X, hX⟩ : ∃ V, bvc x = V := ⟨_, rfl⟩
  obtain ⟨Y, hY⟩ : ∃ V, bvc y = V := ⟨_, rfl⟩
  rw [hV] at HRX HRY HB1 ⊢
  rw [hX] at CX HRX LX
  rw [hY] at CY HRY LY
  obtain ⟨a, ha⟩ : ∃ a, x % p = a := ⟨_, rfl⟩
  obtain ⟨b, hb⟩ : ∃ a, y % p = a := ⟨_, rfl⟩
  obtain ⟨d, hd⟩ : ∃ d, decide (OnC x y) = d := ⟨_, rfl⟩
  rw [ha] at CX CO
  rw [hb] at CY CO
  rw [hd] at CO ⊢
  clear hV hX hY ha hb hd hx hy x y
  obtain ⟨n, hn⟩ : ∃ n, w.heap.size = n := ⟨_, rfl⟩
  have HN : Hid (w.heap.size = n) := hn
  obtain ⟨w1, hw1⟩ : ∃ v, w.alloc (.cells V.toArray 43) = v := ⟨_, rfl⟩
  rw [hw1] at HRX HRY HB1
  rw [hn] at HRX HRY
  go_enter Try.func31, Try.ntmps31
  go_wp2
  clear hw1
  refine wp_region_held_drew (S := fun w' => Below w1.heap.size w1 w') (by kernel_rfl) (drewB w1) (fun hS => ?_)
  refine wpAnyH_take (i := 0) (v := .pointer (some ⟨n, 0, none⟩)) rfl (by kernel_rfl) (by kernel_rfl) (by kernel_rfl) (fun _ _ _ h => h) (Or.inl ⟨by kernel_rfl, fun wq hS => by go_simp⟩) hS ?_
  try simp only [Act.put, List.setIfInBounds_toArray, List.set_cons_zero, List.set_cons_succ, List.getElem_toArray, List.getElem_cons_zero]
  refine wpAnyH_take (i := 1) (v := .agg X.toArray) rfl (by kernel_rfl) (by kernel_rfl) (by kernel_rfl) (fun _ _ _ h => h) (yieldsIf_load_mid (by kernel_rfl) 22 (.tmp 3) rfl n 0 rfl X _ (fun wq hq => Rg.Below.range hq HRX.out.1 HRX.out.2) Try.underlying22 rfl LX.out.i) hS ?_
  try simp only [Act.put, List.setIfInBounds_toArray, List.set_cons_zero, List.set_cons_succ, List.getElem_toArray, List.getElem_cons_succ, List.getElem_cons_zero]
  refine wpAnyH_take (i := 3) (v := .pointer (some ⟨n, 32, none⟩)) rfl (by kernel_rfl) (by kernel_rfl) (by kernel_rfl) (fun _ _ _ h => h) (Or.inl ⟨by kernel_rfl, fun wq hS => by go_simp⟩) hS ?_
  try simp only [Act.put, List.setIfInBounds_toArray, List.set_cons_zero, List.set_cons_succ, List.getElem_toArray, List.getElem_cons_succ, List.getElem_cons_zero]
  refine wpAnyH_take (i := 4) (v := .agg Y.toArray) rfl (by kernel_rfl) (by kernel_rfl) (by kernel_rfl) (fun _ _ _ h => h) (yieldsIf_load_mid (by kernel_rfl) 22 (.tmp 6) rfl n 32 rfl Y _ (fun wq hq => Rg.Below.range hq HRY.out.1 HRY.out.2) Try.underlying22 rfl LY.out.i) hS ?_
  try simp only [Act.put, List.setIfInBounds_toArray, List.set_cons_zero, List.set_cons_succ, List.getElem_toArray, List.getElem_cons_succ, List.getElem_cons_zero]
  refine wpAnyH_ready (rs := [2]) (by kernel_rfl) (by simp) ?_
  refine AllReadyH.cons rfl (fun K hK => ?_) AllReadyH.nil
  go_simp
  refine (CX.out _).mono ?_
  rintro e wh1 ⟨va, rfl, hn1, hb⟩
  have NA_1 := (show Hid (Num wh1 va a) from hn1)
  have hS2 : Below w1.heap.size w1 wh1 := hS.trans (hb.mono hS.size)
  refine hK.out _ _ hS2 (fun hS => ?_)
  clear hK K hb hS2  hn1
  try simp only [Act.put, List.setIfInBounds_toArray, List.set_cons_zero, List.set_cons_succ, List.getElem_toArray, List.getElem_cons_succ, List.getElem_cons_zero]
  refine wpAnyH_ready (rs := [5]) (by kernel_rfl) (by simp) ?_
  refine AllReadyH.cons rfl (fun K hK => ?_) AllReadyH.nil
  go_simp
  refine (CY.out _).mono ?_
  rintro e wh2 ⟨vb, rfl, hn1, hb⟩
  have NA_2 := (show Hid (Num wh2 va a) from NA_1.out.below hb)
  have NB_2 := (show Hid (Num wh2 vb b) from hn1)
  have hS2 : Below w1.heap.size w1 wh2 := hS.trans (hb.mono hS.size)
  refine hK.out _ _ hS2 (fun hS => ?_)
  clear hK K hb hS2 NA_1 hn1
  try simp only [Act.put, List.setIfInBounds_toArray, List.set_cons_zero, List.set_cons_succ, List.getElem_toArray, List.getElem_cons_succ, List.getElem_cons_zero]
  refine wpAnyH_ready (rs := [6]) (by kernel_rfl) (by simp) ?_
  refine AllReadyH.cons rfl (fun K hK => ?_) AllReadyH.nil
  go_simp
  refine (d_num _).mono ?_
  rintro e wh3 ⟨vd, rfl, hn1, hb⟩
  have NA_3 := (show Hid (Num wh3 va a) from NA_2.out.below hb)
  have NB_3 := (show Hid (Num wh3 vb b) from NB_2.out.below hb)
  have ND_3 := (show Hid (Num wh3 vd factor) from hn1)
  have hS2 : Below w1.heap.size w1 wh3 := hS.trans (hb.mono hS.size)
  refine hK.out _ _ hS2 (fun hS => ?_)
  clear hK K hb hS2 NA_2 NB_2 hn1
  try simp only [Act.put, List.setIfInBounds_toArray, List.set_cons_zero, List.set_cons_succ, List.getElem_toArray, List.getElem_cons_succ, List.getElem_cons_zero]
  refine wpAnyH_ready (rs := [7]) (by kernel_rfl) (by simp) ?_
  refine AllReadyH.cons rfl (fun K hK => ?_) AllReadyH.nil
  go_simp
  refine (CO.out _ _ _ _ (NA_3.out) (NB_3.out) (ND_3.out)).mono ?_
  rintro e wh4 ⟨rfl, hb⟩
  have NA_4 := (show Hid (Num wh4 va a) from NA_3.out.below hb)
  have NB_4 := (show Hid (Num wh4 vb b) from NB_3.out.below hb)
  have ND_4 := (show Hid (Num wh4 vd factor) from ND_3.out.below hb)
  have hS2 : Below w1.heap.size w1 wh4 := hS.trans (hb.mono hS.size)
  refine hK.out _ _ hS2 (fun hS => ?_)
  clear hK K hb hS2 NA_3 NB_3 ND_3
  try simp only [Act.put, List.setIfInBounds_toArray, List.set_cons_zero, List.set_cons_succ, List.getElem_toArray, List.getElem_cons_succ, List.getElem_cons_zero]
  refine wpAnyH_ready (rs := [8]) (by kernel_rfl) (by simp) ?_
  refine AllReadyH.cons rfl (fun K hK => ?_) AllReadyH.nil
  go_simp
  refine hK.out _ _ hS (fun hS => ?_)
  clear hK K
  try simp only [Act.put, List.setIfInBounds_toArray, List.set_cons_zero, List.set_cons_succ, List.getElem_toArray, List.getElem_cons_succ, List.getElem_cons_zero]
  refine wpAnyH_done (by kernel_rfl) ?_ _
  have HBF := (show Hid _ from HB1.out.trans (hS.mono HB1.out.size))
  go_wp2
  go_ret
  exact ⟨rfl, HBF.out⟩
theorem base_y : 4 * (5 ^ (p - 2) % p) % p = baseY := by
  rw [← pm_eq p 256 5 (p - 2) (by decide +kernel)]
  decide +kernel
theorem xq_pm (y : Nat) : xq y = (y * y % p + p - 1) % p * pm p 256 ((factor * (y * y % p) % p + 1) % p) (p - 2) % p := by
  unfold xq
  rw [pm_eq p 256 _ (p - 2) (by decide +kernel)]
theorem base_x : rt (xq baseY) * rt (xq baseY) % p = xq baseY ∧ evn (rt (xq baseY)) = baseX := by
  have e2 : ∀ q, rt q = if pm p 256 q rootExponent * pm p 256 q rootExponent % p = q then pm p 256 q rootExponent else pm p 256 q rootExponent * rootOfMinusOne % p := fun q => by unfold rt; rw [r0_pm]
  rw [e2, xq_pm]
  decide +kernel
set_option maxHeartbeats 1000000 in
set_option maxRecDepth 4000 in
theorem rbase_any (w : World) : Calls Try.prog 32 #[] w fun e w' => e = .returned (pv baseX baseY) ∧ Below w.heap.size w w' := by
  have C1 : Hid (∀ (W : World) (u v : Value), Num W u 4 → Num W v 5 → Calls Try.prog 78 #[u, v] W fun e w' => ∃ r, e = .returned r ∧ Num w' r baseY ∧ Below W.heap.size W w') := fun W u v h1 h2 => by have h := ratio_num h1 h2 (by decide) (by decide); rwa [base_y] at h
  have C2 : Hid (∀ (W : World) (u : Value), Num W u baseY → Calls Try.prog 79 #[u] W fun e w' => ∃ r, e = .returned (.tuple #[r, .bool true]) ∧ Num w' r baseX ∧ Below W.heap.size W w') := fun W u h1 => by
    have h := xOf_num h1 (by decide)
    rw [decide_eq_true base_x.1] at h
    exact h.mono fun e w' ⟨v, h1, h2, h3⟩ => ⟨v, h1, by have h5 := h2.1 base_x.1; rwa [base_x.2] at h5, h3⟩
  have C3 : Hid (∀ (W : World) (u : Value), Num W u baseX → Calls Try.prog 16 #[u] W fun e w' => e = .returned (.agg (bvc baseX).toArray) ∧ Below W.heap.size W w') := fun W u h => bytes_num h
  have C4 : Hid (∀ (W : World) (u : Value), Num W u baseY → Calls Try.prog 16 #[u] W fun e w' => e = .returned (.agg (bvc baseY).toArray) ∧ Below W.heap.size W w') := fun W u h => bytes_num h
  unfold pv
  have HBP : Hid (Try.prog.built 43 [(0, .agg (bvc baseX).toArray), (1, .agg (bvc baseY).toArray)] = some (bvc baseX ++ bvc baseY).toArray) := build_point _ _ (bvc_len _) (bvc_len _)
  have LE : Hid (L64 (bvc baseX ++ bvc baseY)) := l64 _ _
  obtain ⟨E, hE⟩ : ∃ V, bvc baseX ++ bvc baseY = V := ⟨_, rfl⟩
  obtain ⟨X, hX⟩ : ∃ V, bvc baseX = V := ⟨_, rfl⟩
  obtain ⟨Y, hY⟩ : ∃ V, bvc baseY = V := ⟨_, rfl⟩
  rw [hE] at HBP LE ⊢
  rw [hX] at HBP C3
  rw [hY] at HBP C4
  clear hE hX hY
  have hz2 := zero43
  have AO : Hid (Ao w.heap.size (w.alloc (.cells z43 43)) w.heap.size 64) := ⟨Nat.le_refl _, by rw [size_alloc]; omega, there43 w⟩
  have HB1 : Hid (Below w.heap.size w (w.alloc (.cells z43 43))) := (Below.refl _ _).alloc (Nat.le_refl _) _
  obtain ⟨Z2, hZ2⟩ : ∃ Z, z43 = Z := ⟨_, rfl⟩
  rw [hZ2] at hz2 AO HB1
  clear hZ2
  obtain ⟨n, hn⟩ : ∃ n, w.heap.size = n := ⟨_, rfl⟩
  obtain ⟨wb, hwb⟩ : ∃ v, w.alloc (.cells Z2 43) = v := ⟨_, rfl⟩
  rw [hwb] at AO HB1
  replace AO : Hid (Ao w.heap.size wb n 64) := by have h := AO.out; rw [hn] at h; show Ao _ _ _ _; rw [hn]; exact h
  have AO_0 := AO
  have HB_0 := (show Hid (Below wb.heap.size wb wb) from Below.refl _ _)
  have TK_0 := (show Hid True from trivial)
  clear AO
  go_enter Try.func32, Try.ntmps32
  go_wp2_with (first
    | (have hq := TK_0; go_at_call 78; refine (C1.out _ _ _ ((show Num (wb.alloc (.cells #[.int .i64 4] 3)) (.slice (some ⟨wb.heap.size, 0, none⟩) 1 1) 4 from lit_num wb 4 (by decide) (by decide)).below ((Below.refl _ _).alloc (Nat.le_refl _) _)) ((show Num ((wb.alloc (.cells #[.int .i64 4] 3)).alloc (.cells #[.int .i64 5] 3)) (.slice (some ⟨(wb.heap.size + 1), 0, none⟩) 1 1) 5 from lit_num1 wb _ 5 (by decide) (by decide)))).mono ?_; rintro e w1 ⟨vy, rfl, hn, hb⟩; replace hb := lift1 hb; replace hb := lift1 hb; have HB_1 := (show Hid (Below wb.heap.size wb w1) from HB_0.out.trans (hb.mono HB_0.out.size)); have AO_1 := (show Hid (Ao w.heap.size w1 n 64) from AO_0.out.below hb); have NY_1 := (show Hid (Num w1 vy baseY) from hn); have TK_1 := (show Hid True from trivial); clear hq TK_0 hb HB_0 AO_0 hn)
    | (have hq := TK_1; go_at_call 79; refine (C2.out _ _ (NY_1.out)).mono ?_; rintro e w2 ⟨vx, rfl, hn, hb⟩; have HB_2 := (show Hid (Below wb.heap.size wb w2) from HB_1.out.trans (hb.mono HB_1.out.size)); have AO_2 := (show Hid (Ao w.heap.size w2 n 64) from AO_1.out.below hb); have NY_2 := (show Hid (Num w2 vy baseY) from NY_1.out.below hb); have NX_2 := (show Hid (Num w2 vx baseX) from hn); have TK_2 := (show Hid True from trivial); clear hq TK_1 hb HB_1 AO_1 NY_1 hn)
    | (have hq := TK_2; go_at_call 16; refine (C3.out _ _ (NX_2.out)).mono ?_; rintro e w3 ⟨rfl, hb⟩; have HB_3 := (show Hid (Below wb.heap.size wb w3) from HB_2.out.trans (hb.mono HB_2.out.size)); have AO_3 := (show Hid (Ao w.heap.size w3 n 64) from AO_2.out.below hb); have NY_3 := (show Hid (Num w3 vy baseY) from NY_2.out.below hb); have NX_3 := (show Hid (Num w3 vx baseX) from NX_2.out.below hb); have TK_3 := (show Hid True from trivial); clear hq TK_2 hb HB_2 AO_2 NY_2 NX_2)
    | (have hq := TK_3; go_at_call 16; refine (C4.out _ _ (NY_3.out)).mono ?_; rintro e w4 ⟨rfl, hb⟩; have HB_4 := (show Hid (Below wb.heap.size wb w4) from HB_3.out.trans (hb.mono HB_3.out.size)); have AO_4 := (show Hid (Ao w.heap.size w4 n 64) from AO_3.out.below hb); have NY_4 := (show Hid (Num w4 vy baseY) from NY_3.out.below hb); have NX_4 := (show Hid (Num w4 vx baseX) from NX_3.out.below hb); have HT := (show Hid _ from LE.out.t AO_4.out); have TK_4 := (show Hid True from trivial); clear hq TK_3 hb HB_3 AO_3 NY_3 NX_3)
    | (refine build_to rfl 43 _ rfl (some 16) rfl [(0, .agg X.toArray), (1, .agg Y.toArray)] (by kernel_rfl) E HBP.out ?_; simp only [Act.put, List.setIfInBounds_toArray, List.set_cons_zero, List.set_cons_succ])
    | (refine wpList_store_mid rfl 43 (.tmp 0) (.tmp 16) rfl n 0 E.toArray rfl rfl HT.out LE.out.j LE.out.o ?_; simp only))
  exact bodyPost_ret (results_cell Try.results32 rfl (end43 LE.out AO_4.out)) rfl ⟨rfl, below_setCells (HB1.out.trans (HB_4.out.mono HB1.out.size)) AO_4.out.1⟩
end Dt
end Go.Proofs.Ytgdekigdbbldoaa

namespace Go.Proofs.Ytgdekigdbbldoaa
open Go.RowKit
namespace Fd
open Rg

set_option maxHeartbeats 4000000 in
set_option maxRecDepth 4000 in
theorem sum_at (a0 a1 a2 b0 b1 b2 k18 k21 k28 k35 k36 k39 k40 k43 k46 k53 k60 k61 k64 k67 k69 k72 k74 k78 : Nat) (h_k18 : mulp a2 b2 = k18) (h_k21 : mulp k18 k18 = k21) (h_k28 : mulp a0 b0 = k28) (h_k35 : mulp a1 b1 = k35) (h_k36 : factor = k36) (h_k39 : mulp k28 k35 = k39) (h_k40 : mulp k36 k39 = k40) (h_k43 : addp k21 k40 = k43) (h_k46 : subp k21 k40 = k46) (h_k53 : mulp a0 b1 = k53) (h_k60 : mulp b0 a1 = k60) (h_k61 : addp k53 k60 = k61) (h_k64 : addp k35 k28 = k64) (h_k67 : mulp k18 k61 = k67) (h_k69 : mulp k67 k46 = k69) (h_k72 : mulp k18 k64 = k72) (h_k74 : mulp k72 k43 = k74) (h_k78 : mulp k43 k46 = k78) (l_a0 : a0 < 115792089237316195423570985008687907853269984665640564039457584007913129639936) (l_a1 : a1 < 115792089237316195423570985008687907853269984665640564039457584007913129639936) (l_a2 : a2 < 115792089237316195423570985008687907853269984665640564039457584007913129639936) (l_b0 : b0 < 115792089237316195423570985008687907853269984665640564039457584007913129639936) (l_b1 : b1 < 115792089237316195423570985008687907853269984665640564039457584007913129639936) (l_b2 : b2 < 115792089237316195423570985008687907853269984665640564039457584007913129639936) (w : World) :
    Calls Try.prog 81 #[fv a0 a1 a2, fv b0 b1 b2] w fun e w' => e = .returned (fv k69 k74 k78) ∧ Below w.heap.size w w' := by
  have l_k18 : k18 < 115792089237316195423570985008687907853269984665640564039457584007913129639936 := h_k18 ▸ mulp_lt _ _
  have c_k18 : ∀ W : World, Calls Try.prog 20 #[.agg (bvc a2).toArray, .agg (bvc b2).toArray] W fun e w' => e = .returned (.agg (bvc k18).toArray) ∧ Below W.heap.size W w' := fun W => by have h := mul_any a2 b2 W l_a2 l_b2; rw [← h_k18]; exact h
  have l_k21 : k21 < 115792089237316195423570985008687907853269984665640564039457584007913129639936 := h_k21 ▸ mulp_lt _ _
  have c_k21 : ∀ W : World, Calls Try.prog 20 #[.agg (bvc k18).toArray, .agg (bvc k18).toArray] W fun e w' => e = .returned (.agg (bvc k21).toArray) ∧ Below W.heap.size W w' := fun W => by have h := mul_any k18 k18 W l_k18 l_k18; rw [← h_k21]; exact h
  have l_k28 : k28 < 115792089237316195423570985008687907853269984665640564039457584007913129639936 := h_k28 ▸ mulp_lt _ _
  have c_k28 : ∀ W : World, Calls Try.prog 20 #[.agg (bvc a0).toArray, .agg (bvc b0).toArray] W fun e w' => e = .returned (.agg (bvc k28).toArray) ∧ Below W.heap.size W w' := fun W => by have h := mul_any a0 b0 W l_a0 l_b0; rw [← h_k28]; exact h
  have l_k35 : k35 < 115792089237316195423570985008687907853269984665640564039457584007913129639936 := h_k35 ▸ mulp_lt _ _
  have c_k35 : ∀ W : World, Calls Try.prog 20 #[.agg (bvc a1).toArray, .agg (bvc b1).toArray] W fun e w' => e = .returned (.agg (bvc k35).toArray) ∧ Below W.heap.size W w' := fun W => by have h := mul_any a1 b1 W l_a1 l_b1; rw [← h_k35]; exact h
  have l_k36 : k36 < 115792089237316195423570985008687907853269984665640564039457584007913129639936 := h_k36 ▸ (by decide)
  have c_k36 : ∀ W : World, Calls Try.prog 76 #[] W fun e w' => e = .returned (.agg (bvc k36).toArray) ∧ Below W.heap.size W w' := fun W => by rw [← h_k36]; exact factor_any W
  have l_k39 : k39 < 115792089237316195423570985008687907853269984665640564039457584007913129639936 := h_k39 ▸ mulp_lt _ _
  have c_k39 : ∀ W : World, Calls Try.prog 20 #[.agg (bvc k28).toArray, .agg (bvc k35).toArray] W fun e w' => e = .returned (.agg (bvc k39).toArray) ∧ Below W.heap.size W w' := fun W => by have h := mul_any k28 k35 W l_k28 l_k35; rw [← h_k39]; exact h
  have l_k40 : k40 < 115792089237316195423570985008687907853269984665640564039457584007913129639936 := h_k40 ▸ mulp_lt _ _
  have c_k40 : ∀ W : World, Calls Try.prog 20 #[.agg (bvc k36).toArray, .agg (bvc k39).toArray] W fun e w' => e = .returned (.agg (bvc k40).toArray) ∧ Below W.heap.size W w' := fun W => by have h := mul_any k36 k39 W l_k36 l_k39; rw [← h_k40]; exact h
  have l_k43 : k43 < 115792089237316195423570985008687907853269984665640564039457584007913129639936 := h_k43 ▸ addp_lt _ _
  have c_k43 : ∀ W : World, Calls Try.prog 15 #[.agg (bvc k21).toArray, .agg (bvc k40).toArray] W fun e w' => e = .returned (.agg (bvc k43).toArray) ∧ Below W.heap.size W w' := fun W => by have h := add_any k21 k40 W l_k21 l_k40; rw [← h_k43]; exact h
  have l_k46 : k46 < 115792089237316195423570985008687907853269984665640564039457584007913129639936 := h_k46 ▸ subp_lt _ _
  have c_k46 : ∀ W : World, Calls Try.prog 18 #[.agg (bvc k21).toArray, .agg (bvc k40).toArray] W fun e w' => e = .returned (.agg (bvc k46).toArray) ∧ Below W.heap.size W w' := fun W => by have h := sub_any k21 k40 W l_k21 l_k40; rw [← h_k46]; exact h
  have l_k53 : k53 < 115792089237316195423570985008687907853269984665640564039457584007913129639936 := h_k53 ▸ mulp_lt _ _
  have c_k53 : ∀ W : World, Calls Try.prog 20 #[.agg (bvc a0).toArray, .agg (bvc b1).toArray] W fun e w' => e = .returned (.agg (bvc k53).toArray) ∧ Below W.heap.size W w' := fun W => by have h := mul_any a0 b1 W l_a0 l_b1; rw [← h_k53]; exact h
  have l_k60 : k60 < 115792089237316195423570985008687907853269984665640564039457584007913129639936 := h_k60 ▸ mulp_lt _ _
  have c_k60 : ∀ W : World, Calls Try.prog 20 #[.agg (bvc b0).toArray, .agg (bvc a1).toArray] W fun e w' => e = .returned (.agg (bvc k60).toArray) ∧ Below W.heap.size W w' := fun W => by have h := mul_any b0 a1 W l_b0 l_a1; rw [← h_k60]; exact h
  have l_k61 : k61 < 115792089237316195423570985008687907853269984665640564039457584007913129639936 := h_k61 ▸ addp_lt _ _
  have c_k61 : ∀ W : World, Calls Try.prog 15 #[.agg (bvc k53).toArray, .agg (bvc k60).toArray] W fun e w' => e = .returned (.agg (bvc k61).toArray) ∧ Below W.heap.size W w' := fun W => by have h := add_any k53 k60 W l_k53 l_k60; rw [← h_k61]; exact h
  have l_k64 : k64 < 115792089237316195423570985008687907853269984665640564039457584007913129639936 := h_k64 ▸ addp_lt _ _
  have c_k64 : ∀ W : World, Calls Try.prog 15 #[.agg (bvc k35).toArray, .agg (bvc k28).toArray] W fun e w' => e = .returned (.agg (bvc k64).toArray) ∧ Below W.heap.size W w' := fun W => by have h := add_any k35 k28 W l_k35 l_k28; rw [← h_k64]; exact h
  have l_k67 : k67 < 115792089237316195423570985008687907853269984665640564039457584007913129639936 := h_k67 ▸ mulp_lt _ _
  have c_k67 : ∀ W : World, Calls Try.prog 20 #[.agg (bvc k18).toArray, .agg (bvc k61).toArray] W fun e w' => e = .returned (.agg (bvc k67).toArray) ∧ Below W.heap.size W w' := fun W => by have h := mul_any k18 k61 W l_k18 l_k61; rw [← h_k67]; exact h
  have l_k69 : k69 < 115792089237316195423570985008687907853269984665640564039457584007913129639936 := h_k69 ▸ mulp_lt _ _
  have c_k69 : ∀ W : World, Calls Try.prog 20 #[.agg (bvc k67).toArray, .agg (bvc k46).toArray] W fun e w' => e = .returned (.agg (bvc k69).toArray) ∧ Below W.heap.size W w' := fun W => by have h := mul_any k67 k46 W l_k67 l_k46; rw [← h_k69]; exact h
  have l_k72 : k72 < 115792089237316195423570985008687907853269984665640564039457584007913129639936 := h_k72 ▸ mulp_lt _ _
  have c_k72 : ∀ W : World, Calls Try.prog 20 #[.agg (bvc k18).toArray, .agg (bvc k64).toArray] W fun e w' => e = .returned (.agg (bvc k72).toArray) ∧ Below W.heap.size W w' := fun W => by have h := mul_any k18 k64 W l_k18 l_k64; rw [← h_k72]; exact h
  have l_k74 : k74 < 115792089237316195423570985008687907853269984665640564039457584007913129639936 := h_k74 ▸ mulp_lt _ _
  have c_k74 : ∀ W : World, Calls Try.prog 20 #[.agg (bvc k72).toArray, .agg (bvc k43).toArray] W fun e w' => e = .returned (.agg (bvc k74).toArray) ∧ Below W.heap.size W w' := fun W => by have h := mul_any k72 k43 W l_k72 l_k43; rw [← h_k74]; exact h
  have l_k78 : k78 < 115792089237316195423570985008687907853269984665640564039457584007913129639936 := h_k78 ▸ mulp_lt _ _
  have c_k78 : ∀ W : World, Calls Try.prog 20 #[.agg (bvc k43).toArray, .agg (bvc k46).toArray] W fun e w' => e = .returned (.agg (bvc k78).toArray) ∧ Below W.heap.size W w' := fun W => by have h := mul_any k43 k46 W l_k43 l_k46; rw [← h_k78]; exact h
  clear h_k18 h_k21 h_k28 h_k35 h_k36 h_k39 h_k40 h_k43 h_k46 h_k53 h_k60 h_k61 h_k64 h_k67 h_k69 h_k72 h_k74 h_k78 l_a0 l_a1 l_a2 l_b0 l_b1 l_b2 l_k18 l_k21 l_k28 l_k35 l_k36 l_k39 l_k40 l_k43 l_k46 l_k53 l_k60 l_k61 l_k64 l_k67 l_k69 l_k72 l_k74 l_k78
  unfold fv
  have LA0 : Hid (L32 (bvc a0)) := l32 a0
  have LA1 : Hid (L32 (bvc a1)) := l32 a1
  have LA2 : Hid (L32 (bvc a2)) := l32 a2
  have LB0 : Hid (L32 (bvc b0)) := l32 b0
  have LB1 : Hid (L32 (bvc b1)) := l32 b1
  have LB2 : Hid (L32 (bvc b2)) := l32 b2
  have LK18 : Hid (L32 (bvc k18)) := l32 k18
  have LK21 : Hid (L32 (bvc k21)) := l32 k21
  have LK28 : Hid (L32 (bvc k28)) := l32 k28
  have LK35 : Hid (L32 (bvc k35)) := l32 k35
  have LK36 : Hid (L32 (bvc k36)) := l32 k36
  have LK39 : Hid (L32 (bvc k39)) := l32 k39
  have LK40 : Hid (L32 (bvc k40)) := l32 k40
  have LK43 : Hid (L32 (bvc k43)) := l32 k43
  have LK46 : Hid (L32 (bvc k46)) := l32 k46
  have LK53 : Hid (L32 (bvc k53)) := l32 k53
  have LK60 : Hid (L32 (bvc k60)) := l32 k60
  have LK61 : Hid (L32 (bvc k61)) := l32 k61
  have LK64 : Hid (L32 (bvc k64)) := l32 k64
  have LK67 : Hid (L32 (bvc k67)) := l32 k67
  have LK69 : Hid (L32 (bvc k69)) := l32 k69
  have LK72 : Hid (L32 (bvc k72)) := l32 k72
  have LK74 : Hid (L32 (bvc k74)) := l32 k74
  have LK78 : Hid (L32 (bvc k78)) := l32 k78
  obtain ⟨A0, hA0⟩ : ∃ Z, bvc a0 = Z := ⟨_, rfl⟩
  obtain ⟨A1, hA1⟩ : ∃ Z, bvc a1 = Z := ⟨_, rfl⟩
  obtain ⟨A2, hA2⟩ : ∃ Z, bvc a2 = Z := ⟨_, rfl⟩
  obtain ⟨B0, hB0⟩ : ∃ Z, bvc b0 = Z := ⟨_, rfl⟩
  obtain ⟨B1, hB1⟩ : ∃ Z, bvc b1 = Z := ⟨_, rfl⟩
  obtain ⟨B2, hB2⟩ : ∃ Z, bvc b2 = Z := ⟨_, rfl⟩
  obtain ⟨K18, hK18⟩ : ∃ Z, bvc k18 = Z := ⟨_, rfl⟩
  obtain ⟨K21, hK21⟩ : ∃ Z, bvc k21 = Z := ⟨_, rfl⟩
  obtain ⟨K28, hK28⟩ : ∃ Z, bvc k28 = Z := ⟨_, rfl⟩
  obtain ⟨K35, hK35⟩ : ∃ Z, bvc k35 = Z := ⟨_, rfl⟩
  obtain ⟨K36, hK36⟩ : ∃ Z, bvc k36 = Z := ⟨_, rfl⟩
  obtain ⟨K39, hK39⟩ : ∃ Z, bvc k39 = Z := ⟨_, rfl⟩
  obtain ⟨K40, hK40⟩ : ∃ Z, bvc k40 = Z := ⟨_, rfl⟩
  obtain ⟨K43, hK43⟩ : ∃ Z, bvc k43 = Z := ⟨_, rfl⟩
  obtain ⟨K46, hK46⟩ : ∃ Z, bvc k46 = Z := ⟨_, rfl⟩
  obtain ⟨K53, hK53⟩ : ∃ Z, bvc k53 = Z := ⟨_, rfl⟩
  obtain ⟨K60, hK60⟩ : ∃ Z, bvc k60 = Z := ⟨_, rfl⟩
  obtain ⟨K61, hK61⟩ : ∃ Z, bvc k61 = Z := ⟨_, rfl⟩
  obtain ⟨K64, hK64⟩ : ∃ Z, bvc k64 = Z := ⟨_, rfl⟩
  obtain ⟨K67, hK67⟩ : ∃ Z, bvc k67 = Z := ⟨_, rfl⟩
  obtain ⟨K69, hK69⟩ : ∃ Z, bvc k69 = Z := ⟨_, rfl⟩
  obtain ⟨K72, hK72⟩ : ∃ Z, bvc k72 = Z := ⟨_, rfl⟩
  obtain ⟨K74, hK74⟩ : ∃ Z, bvc k74 = Z := ⟨_, rfl⟩
  obtain ⟨K78, hK78⟩ : ∃ Z, bvc k78 = Z := ⟨_, rfl⟩
  rw [hA0] at LA0 c_k28 c_k53
  rw [hA1] at LA1 c_k35 c_k60
  rw [hA2] at LA2 c_k18
  rw [hB0] at LB0 c_k28 c_k60
  rw [hB1] at LB1 c_k35 c_k53
  rw [hB2] at LB2 c_k18
  rw [hK18] at LK18 c_k18 c_k21 c_k67 c_k72
  rw [hK21] at LK21 c_k21 c_k43 c_k46
  rw [hK28] at LK28 c_k28 c_k39 c_k64
  rw [hK35] at LK35 c_k35 c_k39 c_k64
  rw [hK36] at LK36 c_k36 c_k40
  rw [hK39] at LK39 c_k39 c_k40
  rw [hK40] at LK40 c_k40 c_k43 c_k46
  rw [hK43] at LK43 c_k43 c_k74 c_k78
  rw [hK46] at LK46 c_k46 c_k69 c_k78
  rw [hK53] at LK53 c_k53 c_k61
  rw [hK60] at LK60 c_k60 c_k61
  rw [hK61] at LK61 c_k61 c_k67
  rw [hK64] at LK64 c_k64 c_k72
  rw [hK67] at LK67 c_k67 c_k69
  rw [hK69] at LK69 c_k69
  rw [hK72] at LK72 c_k72 c_k74
  rw [hK74] at LK74 c_k74
  rw [hK78] at LK78 c_k78
  rw [hA0, hA1, hA2, hB0, hB1, hB2, hK69, hK74, hK78]
  clear hA0 hA1 hA2 hB0 hB1 hB2 hK18 hK21 hK28 hK35 hK36 hK39 hK40 hK43 hK46 hK53 hK60 hK61 hK64 hK67 hK69 hK72 hK74 hK78 a0 a1 a2 b0 b1 b2 k18 k21 k28 k35 k36 k39 k40 k43 k46 k53 k60 k61 k64 k67 k69 k72 k74 k78
  have HBP : Hid (Try.prog.built 43 [(0, .agg K69.toArray), (1, .agg K74.toArray)] = some (K69 ++ K74).toArray) := build_point K69 K74 LK69.out.l LK74.out.l
  have HBF : Hid (Try.prog.built 84 [(0, .agg (K69 ++ K74).toArray), (1, .agg K78.toArray)] = some ((K69 ++ K74) ++ K78).toArray) := build_frac (K69 ++ K74) K78 (by rw [List.length_append, LK69.out.l, LK74.out.l]) LK78.out.l
  have HVL : Hid (((K69 ++ K74) ++ K78).length = 96) := by show _ = _; rw [List.length_append, List.length_append, LK69.out.l, LK74.out.l, LK78.out.l]
  have HVO : Hid (((K69 ++ K74) ++ K78).toArray.all (·.oneCell') = true) := one_app (one_app LK69.out.o LK74.out.o) LK78.out.o
  obtain ⟨VP, hVP⟩ : ∃ V, K69 ++ K74 = V := ⟨_, rfl⟩
  rw [hVP] at HBP HBF HVL HVO ⊢
  obtain ⟨VF, hVF⟩ : ∃ V, VP ++ K78 = V := ⟨_, rfl⟩
  rw [hVF] at HBF HVL HVO ⊢
  clear hVP hVF
  have HS0 := (show Hid _ from start2 w A0 A1 A2 B0 B1 B2 LA0.out.l LA1.out.l LB0.out.l LB1.out.l)
  have hz := zero22
  have HBN : Hid (∀ (W : World) (R : List Value), R.length = 32 → Bo ((W.alloc (.cells z22 22)).setCells W.heap.size 0 R) W.heap.size R ∧ Below W.heap.size W ((W.alloc (.cells z22 22)).setCells W.heap.size 0 R)) := box_new
  have HLT : Hid (∀ (R : List Value), L32 R → ∀ W : World, (W.alloc (.cells z22 22)).there W.heap.size 0 R.toArray.size) := fun R h => h.t
  obtain ⟨Z, hZ⟩ : ∃ Z, z22 = Z := ⟨_, rfl⟩
  rw [hZ] at hz HBN HLT
  clear hZ
  have hz2 := zero84
  obtain ⟨Z2, hZ2⟩ : ∃ Z, z84 = Z := ⟨_, rfl⟩
  rw [hZ2] at hz2 HS0
  clear hZ2
  obtain ⟨VA, hVA⟩ : ∃ V, (A0 ++ A1) ++ A2 = V := ⟨_, rfl⟩
  obtain ⟨VB, hVB⟩ : ∃ V, (B0 ++ B1) ++ B2 = V := ⟨_, rfl⟩
  rw [hVA, hVB] at HS0 ⊢
  clear hVA hVB
  obtain ⟨n, hn⟩ : ∃ n, w.heap.size = n := ⟨_, rfl⟩
  have HN : Hid (w.heap.size = n) := hn
  have HS1 : Hid (Rp (((w.alloc (.cells VA.toArray 84)).alloc (.cells VB.toArray 84)).alloc (.cells Z2 84)) n 0 A0 ∧ Rp (((w.alloc (.cells VA.toArray 84)).alloc (.cells VB.toArray 84)).alloc (.cells Z2 84)) n 32 A1 ∧ Rp (((w.alloc (.cells VA.toArray 84)).alloc (.cells VB.toArray 84)).alloc (.cells Z2 84)) n 64 A2 ∧ Rp (((w.alloc (.cells VA.toArray 84)).alloc (.cells VB.toArray 84)).alloc (.cells Z2 84)) (n + 1) 0 B0 ∧ Rp (((w.alloc (.cells VA.toArray 84)).alloc (.cells VB.toArray 84)).alloc (.cells Z2 84)) (n + 1) 32 B1 ∧ Rp (((w.alloc (.cells VA.toArray 84)).alloc (.cells VB.toArray 84)).alloc (.cells Z2 84)) (n + 1) 64 B2 ∧ Ao w.heap.size (((w.alloc (.cells VA.toArray 84)).alloc (.cells VB.toArray 84)).alloc (.cells Z2 84)) (n + 2) 96 ∧ Below w.heap.size w (((w.alloc (.cells VA.toArray 84)).alloc (.cells VB.toArray 84)).alloc (.cells Z2 84))) := by
    have h := HS0.out
    rw [HN.out] at h
    show _ ∧ _
    rw [HN.out]
    exact h
  clear HS0
  have Pn_0_0 := (show Hid (Rp (((w.alloc (.cells VA.toArray 84)).alloc (.cells VB.toArray 84)).alloc (.cells Z2 84)) n 0 A0) from HS1.out.1)
  have Pn_32_0 := (show Hid (Rp (((w.alloc (.cells VA.toArray 84)).alloc (.cells VB.toArray 84)).alloc (.cells Z2 84)) n 32 A1) from HS1.out.2.1)
  have Pn_64_0 := (show Hid (Rp (((w.alloc (.cells VA.toArray 84)).alloc (.cells VB.toArray 84)).alloc (.cells Z2 84)) n 64 A2) from HS1.out.2.2.1)
  have Pn_1_0_0 := (show Hid (Rp (((w.alloc (.cells VA.toArray 84)).alloc (.cells VB.toArray 84)).alloc (.cells Z2 84)) (n + 1) 0 B0) from HS1.out.2.2.2.1)
  have Pn_1_32_0 := (show Hid (Rp (((w.alloc (.cells VA.toArray 84)).alloc (.cells VB.toArray 84)).alloc (.cells Z2 84)) (n + 1) 32 B1) from HS1.out.2.2.2.2.1)
  have Pn_1_64_0 := (show Hid (Rp (((w.alloc (.cells VA.toArray 84)).alloc (.cells VB.toArray 84)).alloc (.cells Z2 84)) (n + 1) 64 B2) from HS1.out.2.2.2.2.2.1)
  have AN_0 := (show Hid (Ao w.heap.size (((w.alloc (.cells VA.toArray 84)).alloc (.cells VB.toArray 84)).alloc (.cells Z2 84)) (n + 2) 96) from HS1.out.2.2.2.2.2.2.1)
  have HB_0 := (show Hid (Below w.heap.size w (((w.alloc (.cells VA.toArray 84)).alloc (.cells VB.toArray 84)).alloc (.cells Z2 84))) from HS1.out.2.2.2.2.2.2.2)
  have TK_0 := (show Hid True from trivial)
  clear HS1
  go_enter Try.func81, Try.ntmps81
  go_wp2_with (first
    | (refine wpList_load_mid rfl 22 (.tmp 14) rfl n 64 rfl A2 _ Pn_64_0.out.1 Try.underlying22 rfl LA2.out.i ?_)
    | (refine wpList_load_mid rfl 22 (.tmp 16) rfl (n + 1) 64 rfl B2 _ Pn_1_64_0.out.1 Try.underlying22 rfl LB2.out.i ?_)
    | (refine wpList_load_mid rfl 22 (.tmp 5) rfl b5 0 rfl K18 _ Pb5_0_2.out.1 Try.underlying22 rfl LK18.out.i ?_)
    | (refine wpList_load_mid rfl 22 (.tmp 5) rfl b5 0 rfl K18 _ Pb5_0_2.out.1 Try.underlying22 rfl LK18.out.i ?_)
    | (have hq := TK_0; go_at_call 20; refine (c_k18 _).mono ?_; rintro e wv1 ⟨rfl, hb⟩; have HB_1 := (show Hid (Below w.heap.size w wv1) from HB_0.out.trans (hb.mono HB_0.out.size)); have Pn_0_1 := (show Hid (Rp wv1 n 0 A0) from Pn_0_0.out.below hb); have Pn_32_1 := (show Hid (Rp wv1 n 32 A1) from Pn_32_0.out.below hb); have Pn_64_1 := (show Hid (Rp wv1 n 64 A2) from Pn_64_0.out.below hb); have Pn_1_0_1 := (show Hid (Rp wv1 (n + 1) 0 B0) from Pn_1_0_0.out.below hb); have Pn_1_32_1 := (show Hid (Rp wv1 (n + 1) 32 B1) from Pn_1_32_0.out.below hb); have Pn_1_64_1 := (show Hid (Rp wv1 (n + 1) 64 B2) from Pn_1_64_0.out.below hb); have AN_1 := (show Hid (Ao w.heap.size wv1 (n + 2) 96) from AN_0.out.below hb); clear HB_0 AN_0 Pn_0_0 Pn_32_0 Pn_64_0 Pn_1_0_0 Pn_1_32_0 Pn_1_64_0 hb; have TK_1 := (show Hid True from trivial); clear hq TK_0)
    | (have hq := TK_1; refine wpList_store_mid rfl 22 (.tmp 5) (.tmp 18) rfl wv1.heap.size 0 K18.toArray rfl rfl (HLT.out K18 LK18.out wv1) LK18.out.j LK18.out.o ?_; simp only [Act.put]; have hbx := HBN.out wv1 K18 LK18.out.l; obtain ⟨wv2, hwv2⟩ : ∃ v, (wv1.alloc (.cells Z 22)).setCells wv1.heap.size 0 K18 = v := ⟨_, rfl⟩; rw [hwv2] at hbx ⊢; clear hwv2; have hb := hbx.2; replace hbx := hbx.1; obtain ⟨b5, hb5⟩ : ∃ b, wv1.heap.size = b := ⟨_, rfl⟩; rw [hb5] at hbx ⊢; clear hb5; have HB_2 := (show Hid (Below w.heap.size w wv2) from HB_1.out.trans (hb.mono HB_1.out.size)); have Pn_0_2 := (show Hid (Rp wv2 n 0 A0) from Pn_0_1.out.below hb); have Pn_32_2 := (show Hid (Rp wv2 n 32 A1) from Pn_32_1.out.below hb); have Pn_64_2 := (show Hid (Rp wv2 n 64 A2) from Pn_64_1.out.below hb); have Pn_1_0_2 := (show Hid (Rp wv2 (n + 1) 0 B0) from Pn_1_0_1.out.below hb); have Pn_1_32_2 := (show Hid (Rp wv2 (n + 1) 32 B1) from Pn_1_32_1.out.below hb); have Pn_1_64_2 := (show Hid (Rp wv2 (n + 1) 64 B2) from Pn_1_64_1.out.below hb); have AN_2 := (show Hid (Ao w.heap.size wv2 (n + 2) 96) from AN_1.out.below hb); have Pb5_0_2 := (show Hid (Rp wv2 b5 0 K18) from hbx.rp); clear HB_1 AN_1 Pn_0_1 Pn_32_1 Pn_64_1 Pn_1_0_1 Pn_1_32_1 Pn_1_64_1 hb; have TK_2 := (show Hid True from trivial); clear hq TK_1 hbx)
    | (have hq := TK_2; go_at_call 20; refine (c_k21 _).mono ?_; rintro e wv3 ⟨rfl, hb⟩; have HB_3 := (show Hid (Below w.heap.size w wv3) from HB_2.out.trans (hb.mono HB_2.out.size)); have Pn_0_3 := (show Hid (Rp wv3 n 0 A0) from Pn_0_2.out.below hb); have Pn_32_3 := (show Hid (Rp wv3 n 32 A1) from Pn_32_2.out.below hb); have Pn_64_3 := (show Hid (Rp wv3 n 64 A2) from Pn_64_2.out.below hb); have Pn_1_0_3 := (show Hid (Rp wv3 (n + 1) 0 B0) from Pn_1_0_2.out.below hb); have Pn_1_32_3 := (show Hid (Rp wv3 (n + 1) 32 B1) from Pn_1_32_2.out.below hb); have Pn_1_64_3 := (show Hid (Rp wv3 (n + 1) 64 B2) from Pn_1_64_2.out.below hb); have Pb5_0_3 := (show Hid (Rp wv3 b5 0 K18) from Pb5_0_2.out.below hb); have AN_3 := (show Hid (Ao w.heap.size wv3 (n + 2) 96) from AN_2.out.below hb); clear HB_2 AN_2 Pn_0_2 Pn_32_2 Pn_64_2 Pn_1_0_2 Pn_1_32_2 Pn_1_64_2 Pb5_0_2 hb; have TK_3 := (show Hid True from trivial); clear hq TK_2)
    | (have hq := TK_3; refine wpList_store_mid rfl 22 (.tmp 6) (.tmp 21) rfl wv3.heap.size 0 K21.toArray rfl rfl (HLT.out K21 LK21.out wv3) LK21.out.j LK21.out.o ?_; simp only [Act.put]; have hbx := HBN.out wv3 K21 LK21.out.l; obtain ⟨wv4, hwv4⟩ : ∃ v, (wv3.alloc (.cells Z 22)).setCells wv3.heap.size 0 K21 = v := ⟨_, rfl⟩; rw [hwv4] at hbx ⊢; clear hwv4; have hb := hbx.2; replace hbx := hbx.1; obtain ⟨b6, hb6⟩ : ∃ b, wv3.heap.size = b := ⟨_, rfl⟩; rw [hb6] at hbx ⊢; clear hb6; have HB_4 := (show Hid (Below w.heap.size w wv4) from HB_3.out.trans (hb.mono HB_3.out.size)); have Pn_0_4 := (show Hid (Rp wv4 n 0 A0) from Pn_0_3.out.below hb); have Pn_32_4 := (show Hid (Rp wv4 n 32 A1) from Pn_32_3.out.below hb); have Pn_64_4 := (show Hid (Rp wv4 n 64 A2) from Pn_64_3.out.below hb); have Pn_1_0_4 := (show Hid (Rp wv4 (n + 1) 0 B0) from Pn_1_0_3.out.below hb); have Pn_1_32_4 := (show Hid (Rp wv4 (n + 1) 32 B1) from Pn_1_32_3.out.below hb); have Pn_1_64_4 := (show Hid (Rp wv4 (n + 1) 64 B2) from Pn_1_64_3.out.below hb); have Pb5_0_4 := (show Hid (Rp wv4 b5 0 K18) from Pb5_0_3.out.below hb); have AN_4 := (show Hid (Ao w.heap.size wv4 (n + 2) 96) from AN_3.out.below hb); have Pb6_0_4 := (show Hid (Rp wv4 b6 0 K21) from hbx.rp); clear HB_3 AN_3 Pn_0_3 Pn_32_3 Pn_64_3 Pn_1_0_3 Pn_1_32_3 Pn_1_64_3 Pb5_0_3 hb; have TK_4 := (show Hid True from trivial); clear hq TK_3 hbx))
  apply region_float (N := wv4.heap.size) (W := wv4) (ty := 22) [7, 8] 16 16 (by kernel_rfl) (Below.refl _ _) (Nat.le_refl _) alloc22 there22
  case hl => simp only [List.take_succ_cons, List.take_zero]; rfl
  case ht => simp only [List.drop_succ_cons, List.drop_zero]; rfl
  case hB => kernel_rfl
  case hT => kernel_rfl
  case hF => kernel_rfl
  case hS => kernel_rfl
  case h =>
    apply Exists.intro
    constructor
    case left =>
      intro N2 W2 q1 q2 q3
      have HQPn_0 := (show Hid _ from Pn_0_4.out.cl2 q1 q2)
      have HQPn_1_0 := (show Hid _ from Pn_1_0_4.out.cl2 q1 q2)
      have HQPn_32 := (show Hid _ from Pn_32_4.out.cl2 q1 q2)
      have HQPn_1_32 := (show Hid _ from Pn_1_32_4.out.cl2 q1 q2)
      have hne := Cl.ne N2 W2
      have HC1 : Hid (N2 ≤ W2.heap.size) := q3
      clear q1 q2 q3
      simp only [List.map_cons, List.map_nil, hush, isAl, beq_self_eq_true, if_true, Bool.false_eq_true, if_false]
      go_big_quiet_step (fail)
      go_big_quiet_step (fail)
      go_big_quiet_want
      refine quiet_load 22 _ rfl n 0 rfl A0 _ HQPn_0.out Try.underlying22 rfl LA0.out.i ?_
      simp only [Act.put, List.setIfInBounds_toArray, List.set_cons_zero, List.set_cons_succ]
      go_big_quiet_on
      go_big_quiet_step (fail)
      go_big_quiet_step (fail)
      go_big_quiet_want
      refine quiet_load 22 _ rfl (n + 1) 0 rfl B0 _ HQPn_1_0.out Try.underlying22 rfl LB0.out.i ?_
      simp only [Act.put, List.setIfInBounds_toArray, List.set_cons_zero, List.set_cons_succ]
      go_big_quiet_on
      go_big_quiet_step ((go_at_call 20; exact cl_of (c_k28 _) HC1.out))
      go_big_quiet_step (fail)
      go_big_quiet_step (fail)
      go_big_quiet_want
      refine quiet_load 22 _ rfl n 32 rfl A1 _ HQPn_32.out Try.underlying22 rfl LA1.out.i ?_
      simp only [Act.put, List.setIfInBounds_toArray, List.set_cons_zero, List.set_cons_succ]
      go_big_quiet_on
      go_big_quiet_step (fail)
      go_big_quiet_step (fail)
      go_big_quiet_want
      refine quiet_load 22 _ rfl (n + 1) 32 rfl B1 _ HQPn_1_32.out Try.underlying22 rfl LB1.out.i ?_
      simp only [Act.put, List.setIfInBounds_toArray, List.set_cons_zero, List.set_cons_succ]
      go_big_quiet_on
      go_big_quiet_step ((go_at_call 20; exact cl_of (c_k35 _) HC1.out))
      go_big_quiet_step (fail)
      go_big_quiet_step (fail)
      refine wpQuiet_nil ?_
      rfl
    case right =>
      intro g wv5 hb hf hd
      have h7 := hf 7 (by decide)
      have h8 := hf 8 (by decide)
      have hne := hd 7 (by decide) 8 (by decide) (by decide)
      clear hf hd
      simp only [putsT, List.foldl_cons, List.foldl_nil, Act.put, List.setIfInBounds_toArray, List.set_cons_zero, List.set_cons_succ]
      obtain ⟨b7, hb7⟩ : ∃ b, g 7 = b := ⟨_, rfl⟩
      rw [hb7] at h7 hne ⊢
      obtain ⟨b8, hb8⟩ : ∃ b, g 8 = b := ⟨_, rfl⟩
      rw [hb8] at h8 hne ⊢
      clear hb7 hb8 g
      have HT := (show Hid _ from two_boxes hb h7 h8 hne LK28.out.l LK35.out.l)
      have HT1 : Hid (wv5.there b7 0 K28.toArray.size) := by show World.there _ _ _ _; rw [List.size_toArray, LK28.out.l]; exact h7.2.2
      have HT2 : Hid ((wv5.setCells b7 0 K28).there b8 0 K35.toArray.size) := by show World.there _ _ _ _; rw [List.size_toArray, LK35.out.l]; exact World.there_setCells h8.2.2 _ _ _
      clear h7 h8 hne hb
      go_wp2_with (first
        | (refine wpList_store_mid rfl 22 (.tmp 7) (.tmp 28) rfl b7 0 K28.toArray rfl rfl HT1.out LK28.out.j LK28.out.o ?_; simp only)
        | (refine wpList_store_mid rfl 22 (.tmp 8) (.tmp 35) rfl b8 0 K35.toArray rfl rfl HT2.out LK35.out.j LK35.out.o ?_; simp only [Act.put]; obtain ⟨wv6, hwv6⟩ : ∃ v, (wv5.setCells b7 0 K28).setCells b8 0 K35 = v := ⟨_, rfl⟩; rw [hwv6] at HT ⊢; clear hwv6; have hb := HT.out.2.2; have HB_5 := (show Hid (Below w.heap.size w wv6) from HB_4.out.trans (hb.mono HB_4.out.size)); have Pn_0_5 := (show Hid (Rp wv6 n 0 A0) from Pn_0_4.out.below hb); have Pn_32_5 := (show Hid (Rp wv6 n 32 A1) from Pn_32_4.out.below hb); have Pn_64_5 := (show Hid (Rp wv6 n 64 A2) from Pn_64_4.out.below hb); have Pn_1_0_5 := (show Hid (Rp wv6 (n + 1) 0 B0) from Pn_1_0_4.out.below hb); have Pn_1_32_5 := (show Hid (Rp wv6 (n + 1) 32 B1) from Pn_1_32_4.out.below hb); have Pn_1_64_5 := (show Hid (Rp wv6 (n + 1) 64 B2) from Pn_1_64_4.out.below hb); have Pb5_0_5 := (show Hid (Rp wv6 b5 0 K18) from Pb5_0_4.out.below hb); have Pb6_0_5 := (show Hid (Rp wv6 b6 0 K21) from Pb6_0_4.out.below hb); have AN_5 := (show Hid (Ao w.heap.size wv6 (n + 2) 96) from AN_4.out.below hb); have Pb7_0_5 := (show Hid (Rp wv6 b7 0 K28) from (HT.out.1).rp); have Pb8_0_5 := (show Hid (Rp wv6 b8 0 K35) from (HT.out.2.1).rp); clear HB_4 AN_4 Pn_0_4 Pn_32_4 Pn_64_4 Pn_1_0_4 Pn_1_32_4 Pn_1_64_4 Pb5_0_4 Pb6_0_4 hb; have TK_5 := (show Hid True from trivial); clear TK_4 HT HT1 HT2 wv5))
      apply region_float (N := wv6.heap.size) (W := wv6) (ty := 22) [9] 6 6 (by kernel_rfl) (Below.refl _ _) (Nat.le_refl _) alloc22 there22
      case hl => simp only [List.take_succ_cons, List.take_zero]; rfl
      case ht => simp only [List.drop_succ_cons, List.drop_zero]; rfl
      case hB => kernel_rfl
      case hT => kernel_rfl
      case hF => kernel_rfl
      case hS => kernel_rfl
      case h =>
        apply Exists.intro
        constructor
        case left =>
          intro N2 W2 q1 q2 q3
          have HQPb7_0 := (show Hid _ from Pb7_0_5.out.cl2 q1 q2)
          have HQPb8_0 := (show Hid _ from Pb8_0_5.out.cl2 q1 q2)
          have hne := Cl.ne N2 W2
          have HC1 : Hid (N2 ≤ W2.heap.size) := q3
          clear q1 q2 q3
          simp only [List.map_cons, List.map_nil, hush, isAl, beq_self_eq_true, if_true, Bool.false_eq_true, if_false]
          go_big_quiet_step ((go_at_call 76; exact cl_of (c_k36 _) HC1.out))
          go_big_quiet_want
          refine quiet_load 22 _ rfl b7 0 rfl K28 _ HQPb7_0.out Try.underlying22 rfl LK28.out.i ?_
          simp only [Act.put, List.setIfInBounds_toArray, List.set_cons_zero, List.set_cons_succ]
          go_big_quiet_on
          go_big_quiet_want
          refine quiet_load 22 _ rfl b8 0 rfl K35 _ HQPb8_0.out Try.underlying22 rfl LK35.out.i ?_
          simp only [Act.put, List.setIfInBounds_toArray, List.set_cons_zero, List.set_cons_succ]
          go_big_quiet_on
          go_big_quiet_step ((go_at_call 20; exact cl_of (c_k39 _) HC1.out))
          go_big_quiet_step ((go_at_call 20; exact cl_of (c_k40 _) HC1.out))
          go_big_quiet_step (fail)
          refine wpQuiet_nil ?_
          rfl
        case right =>
          intro g wv7 hb hf hd
          have h9 := hf 9 (by decide)
          clear hf hd
          simp only [putsT, List.foldl_cons, List.foldl_nil, Act.put, List.setIfInBounds_toArray, List.set_cons_zero, List.set_cons_succ]
          obtain ⟨b9, hb9⟩ : ∃ b, g 9 = b := ⟨_, rfl⟩
          rw [hb9] at h9 ⊢
          clear hb9 g
          have HT := (show Hid _ from one_box hb h9 LK40.out.l)
          have HT1 : Hid (wv7.there b9 0 K40.toArray.size) := by show World.there _ _ _ _; rw [List.size_toArray, LK40.out.l]; exact h9.2.2
          clear h9 hb
          go_wp2_with (first
            | (have hq := HT1; clear hq; refine wpList_store_mid rfl 22 (.tmp 9) (.tmp 40) rfl b9 0 K40.toArray rfl rfl HT1.out LK40.out.j LK40.out.o ?_; simp only [Act.put]; obtain ⟨wv8, hwv8⟩ : ∃ v, wv7.setCells b9 0 K40 = v := ⟨_, rfl⟩; rw [hwv8] at HT ⊢; clear hwv8; have hb := HT.out.2; have HB_6 := (show Hid (Below w.heap.size w wv8) from HB_5.out.trans (hb.mono HB_5.out.size)); have Pn_0_6 := (show Hid (Rp wv8 n 0 A0) from Pn_0_5.out.below hb); have Pn_32_6 := (show Hid (Rp wv8 n 32 A1) from Pn_32_5.out.below hb); have Pn_64_6 := (show Hid (Rp wv8 n 64 A2) from Pn_64_5.out.below hb); have Pn_1_0_6 := (show Hid (Rp wv8 (n + 1) 0 B0) from Pn_1_0_5.out.below hb); have Pn_1_32_6 := (show Hid (Rp wv8 (n + 1) 32 B1) from Pn_1_32_5.out.below hb); have Pn_1_64_6 := (show Hid (Rp wv8 (n + 1) 64 B2) from Pn_1_64_5.out.below hb); have Pb5_0_6 := (show Hid (Rp wv8 b5 0 K18) from Pb5_0_5.out.below hb); have Pb6_0_6 := (show Hid (Rp wv8 b6 0 K21) from Pb6_0_5.out.below hb); have Pb7_0_6 := (show Hid (Rp wv8 b7 0 K28) from Pb7_0_5.out.below hb); have Pb8_0_6 := (show Hid (Rp wv8 b8 0 K35) from Pb8_0_5.out.below hb); have AN_6 := (show Hid (Ao w.heap.size wv8 (n + 2) 96) from AN_5.out.below hb); have Pb9_0_6 := (show Hid (Rp wv8 b9 0 K40) from (HT.out.1).rp); clear HB_5 AN_5 Pn_0_5 Pn_32_5 Pn_64_5 Pn_1_0_5 Pn_1_32_5 Pn_1_64_5 Pb5_0_5 Pb6_0_5 Pb7_0_5 Pb8_0_5 hb; have TK_6 := (show Hid True from trivial); clear TK_5 HT HT1 wv7))
          apply region_float (N := wv8.heap.size) (W := wv8) (ty := 22) [10, 11] 8 8 (by kernel_rfl) (Below.refl _ _) (Nat.le_refl _) alloc22 there22
          case hl => simp only [List.take_succ_cons, List.take_zero]; rfl
          case ht => simp only [List.drop_succ_cons, List.drop_zero]; rfl
          case hB => kernel_rfl
          case hT => kernel_rfl
          case hF => kernel_rfl
          case hS => kernel_rfl
          case h =>
            apply Exists.intro
            constructor
            case left =>
              intro N2 W2 q1 q2 q3
              have HQPb6_0 := (show Hid _ from Pb6_0_6.out.cl2 q1 q2)
              have HQPb9_0 := (show Hid _ from Pb9_0_6.out.cl2 q1 q2)
              have hne := Cl.ne N2 W2
              have HC1 : Hid (N2 ≤ W2.heap.size) := q3
              clear q1 q2 q3
              simp only [List.map_cons, List.map_nil, hush, isAl, beq_self_eq_true, if_true, Bool.false_eq_true, if_false]
              go_big_quiet_want
              refine quiet_load 22 _ rfl b6 0 rfl K21 _ HQPb6_0.out Try.underlying22 rfl LK21.out.i ?_
              simp only [Act.put, List.setIfInBounds_toArray, List.set_cons_zero, List.set_cons_succ]
              go_big_quiet_on
              go_big_quiet_want
              refine quiet_load 22 _ rfl b9 0 rfl K40 _ HQPb9_0.out Try.underlying22 rfl LK40.out.i ?_
              simp only [Act.put, List.setIfInBounds_toArray, List.set_cons_zero, List.set_cons_succ]
              go_big_quiet_on
              go_big_quiet_step ((go_at_call 15; exact cl_of (c_k43 _) HC1.out))
              go_big_quiet_want
              refine quiet_load 22 _ rfl b6 0 rfl K21 _ HQPb6_0.out Try.underlying22 rfl LK21.out.i ?_
              simp only [Act.put, List.setIfInBounds_toArray, List.set_cons_zero, List.set_cons_succ]
              go_big_quiet_on
              go_big_quiet_want
              refine quiet_load 22 _ rfl b9 0 rfl K40 _ HQPb9_0.out Try.underlying22 rfl LK40.out.i ?_
              simp only [Act.put, List.setIfInBounds_toArray, List.set_cons_zero, List.set_cons_succ]
              go_big_quiet_on
              go_big_quiet_step ((go_at_call 18; exact cl_of (c_k46 _) HC1.out))
              go_big_quiet_step (fail)
              go_big_quiet_step (fail)
              refine wpQuiet_nil ?_
              rfl
            case right =>
              intro g wv9 hb hf hd
              have h10 := hf 10 (by decide)
              have h11 := hf 11 (by decide)
              have hne := hd 10 (by decide) 11 (by decide) (by decide)
              clear hf hd
              simp only [putsT, List.foldl_cons, List.foldl_nil, Act.put, List.setIfInBounds_toArray, List.set_cons_zero, List.set_cons_succ]
              obtain ⟨b10, hb10⟩ : ∃ b, g 10 = b := ⟨_, rfl⟩
              rw [hb10] at h10 hne ⊢
              obtain ⟨b11, hb11⟩ : ∃ b, g 11 = b := ⟨_, rfl⟩
              rw [hb11] at h11 hne ⊢
              clear hb10 hb11 g
              have HT := (show Hid _ from two_boxes hb h10 h11 hne LK43.out.l LK46.out.l)
              have HT1 : Hid (wv9.there b10 0 K43.toArray.size) := by show World.there _ _ _ _; rw [List.size_toArray, LK43.out.l]; exact h10.2.2
              have HT2 : Hid ((wv9.setCells b10 0 K43).there b11 0 K46.toArray.size) := by show World.there _ _ _ _; rw [List.size_toArray, LK46.out.l]; exact World.there_setCells h11.2.2 _ _ _
              clear h10 h11 hne hb
              go_wp2_with (first
                | (refine wpList_store_mid rfl 22 (.tmp 10) (.tmp 43) rfl b10 0 K43.toArray rfl rfl HT1.out LK43.out.j LK43.out.o ?_; simp only)
                | (refine wpList_store_mid rfl 22 (.tmp 11) (.tmp 46) rfl b11 0 K46.toArray rfl rfl HT2.out LK46.out.j LK46.out.o ?_; simp only [Act.put]; obtain ⟨wv10, hwv10⟩ : ∃ v, (wv9.setCells b10 0 K43).setCells b11 0 K46 = v := ⟨_, rfl⟩; rw [hwv10] at HT ⊢; clear hwv10; have hb := HT.out.2.2; have HB_7 := (show Hid (Below w.heap.size w wv10) from HB_6.out.trans (hb.mono HB_6.out.size)); have Pn_0_7 := (show Hid (Rp wv10 n 0 A0) from Pn_0_6.out.below hb); have Pn_32_7 := (show Hid (Rp wv10 n 32 A1) from Pn_32_6.out.below hb); have Pn_64_7 := (show Hid (Rp wv10 n 64 A2) from Pn_64_6.out.below hb); have Pn_1_0_7 := (show Hid (Rp wv10 (n + 1) 0 B0) from Pn_1_0_6.out.below hb); have Pn_1_32_7 := (show Hid (Rp wv10 (n + 1) 32 B1) from Pn_1_32_6.out.below hb); have Pn_1_64_7 := (show Hid (Rp wv10 (n + 1) 64 B2) from Pn_1_64_6.out.below hb); have Pb5_0_7 := (show Hid (Rp wv10 b5 0 K18) from Pb5_0_6.out.below hb); have Pb6_0_7 := (show Hid (Rp wv10 b6 0 K21) from Pb6_0_6.out.below hb); have Pb7_0_7 := (show Hid (Rp wv10 b7 0 K28) from Pb7_0_6.out.below hb); have Pb8_0_7 := (show Hid (Rp wv10 b8 0 K35) from Pb8_0_6.out.below hb); have Pb9_0_7 := (show Hid (Rp wv10 b9 0 K40) from Pb9_0_6.out.below hb); have AN_7 := (show Hid (Ao w.heap.size wv10 (n + 2) 96) from AN_6.out.below hb); have Pb10_0_7 := (show Hid (Rp wv10 b10 0 K43) from (HT.out.1).rp); have Pb11_0_7 := (show Hid (Rp wv10 b11 0 K46) from (HT.out.2.1).rp); clear HB_6 AN_6 Pn_0_6 Pn_32_6 Pn_64_6 Pn_1_0_6 Pn_1_32_6 Pn_1_64_6 Pb5_0_6 Pb6_0_6 Pb7_0_6 Pb8_0_6 Pb9_0_6 hb; have TK_7 := (show Hid True from trivial); clear TK_6 HT HT1 HT2 wv9))
              apply region_float (N := wv10.heap.size) (W := wv10) (ty := 22) [12] 16 16 (by kernel_rfl) (Below.refl _ _) (Nat.le_refl _) alloc22 there22
              case hl => simp only [List.take_succ_cons, List.take_zero]; rfl
              case ht => simp only [List.drop_succ_cons, List.drop_zero]; rfl
              case hB => kernel_rfl
              case hT => kernel_rfl
              case hF => kernel_rfl
              case hS => kernel_rfl
              case h =>
                apply Exists.intro
                constructor
                case left =>
                  intro N2 W2 q1 q2 q3
                  have HQPn_0 := (show Hid _ from Pn_0_7.out.cl2 q1 q2)
                  have HQPn_1_32 := (show Hid _ from Pn_1_32_7.out.cl2 q1 q2)
                  have HQPn_1_0 := (show Hid _ from Pn_1_0_7.out.cl2 q1 q2)
                  have HQPn_32 := (show Hid _ from Pn_32_7.out.cl2 q1 q2)
                  have hne := Cl.ne N2 W2
                  have HC1 : Hid (N2 ≤ W2.heap.size) := q3
                  clear q1 q2 q3
                  simp only [List.map_cons, List.map_nil, hush, isAl, beq_self_eq_true, if_true, Bool.false_eq_true, if_false]
                  go_big_quiet_step (fail)
                  go_big_quiet_step (fail)
                  go_big_quiet_want
                  refine quiet_load 22 _ rfl n 0 rfl A0 _ HQPn_0.out Try.underlying22 rfl LA0.out.i ?_
                  simp only [Act.put, List.setIfInBounds_toArray, List.set_cons_zero, List.set_cons_succ]
                  go_big_quiet_on
                  go_big_quiet_step (fail)
                  go_big_quiet_step (fail)
                  go_big_quiet_want
                  refine quiet_load 22 _ rfl (n + 1) 32 rfl B1 _ HQPn_1_32.out Try.underlying22 rfl LB1.out.i ?_
                  simp only [Act.put, List.setIfInBounds_toArray, List.set_cons_zero, List.set_cons_succ]
                  go_big_quiet_on
                  go_big_quiet_step ((go_at_call 20; exact cl_of (c_k53 _) HC1.out))
                  go_big_quiet_step (fail)
                  go_big_quiet_step (fail)
                  go_big_quiet_want
                  refine quiet_load 22 _ rfl (n + 1) 0 rfl B0 _ HQPn_1_0.out Try.underlying22 rfl LB0.out.i ?_
                  simp only [Act.put, List.setIfInBounds_toArray, List.set_cons_zero, List.set_cons_succ]
                  go_big_quiet_on
                  go_big_quiet_step (fail)
                  go_big_quiet_step (fail)
                  go_big_quiet_want
                  refine quiet_load 22 _ rfl n 32 rfl A1 _ HQPn_32.out Try.underlying22 rfl LA1.out.i ?_
                  simp only [Act.put, List.setIfInBounds_toArray, List.set_cons_zero, List.set_cons_succ]
                  go_big_quiet_on
                  go_big_quiet_step ((go_at_call 20; exact cl_of (c_k60 _) HC1.out))
                  go_big_quiet_step ((go_at_call 15; exact cl_of (c_k61 _) HC1.out))
                  go_big_quiet_step (fail)
                  refine wpQuiet_nil ?_
                  rfl
                case right =>
                  intro g wv11 hb hf hd
                  have h12 := hf 12 (by decide)
                  clear hf hd
                  simp only [putsT, List.foldl_cons, List.foldl_nil, Act.put, List.setIfInBounds_toArray, List.set_cons_zero, List.set_cons_succ]
                  obtain ⟨b12, hb12⟩ : ∃ b, g 12 = b := ⟨_, rfl⟩
                  rw [hb12] at h12 ⊢
                  clear hb12 g
                  have HT := (show Hid _ from one_box hb h12 LK61.out.l)
                  have HT1 : Hid (wv11.there b12 0 K61.toArray.size) := by show World.there _ _ _ _; rw [List.size_toArray, LK61.out.l]; exact h12.2.2
                  clear h12 hb
                  go_wp2_with (first
                    | (refine wpList_load_mid rfl 22 (.tmp 8) rfl b8 0 rfl K35 _ Pb8_0_8.out.1 Try.underlying22 rfl LK35.out.i ?_)
                    | (refine wpList_load_mid rfl 22 (.tmp 7) rfl b7 0 rfl K28 _ Pb7_0_8.out.1 Try.underlying22 rfl LK28.out.i ?_)
                    | (have hq := HT1; clear hq; refine wpList_store_mid rfl 22 (.tmp 12) (.tmp 61) rfl b12 0 K61.toArray rfl rfl HT1.out LK61.out.j LK61.out.o ?_; simp only [Act.put]; obtain ⟨wv12, hwv12⟩ : ∃ v, wv11.setCells b12 0 K61 = v := ⟨_, rfl⟩; rw [hwv12] at HT ⊢; clear hwv12; have hb := HT.out.2; have HB_8 := (show Hid (Below w.heap.size w wv12) from HB_7.out.trans (hb.mono HB_7.out.size)); have Pn_0_8 := (show Hid (Rp wv12 n 0 A0) from Pn_0_7.out.below hb); have Pn_32_8 := (show Hid (Rp wv12 n 32 A1) from Pn_32_7.out.below hb); have Pn_64_8 := (show Hid (Rp wv12 n 64 A2) from Pn_64_7.out.below hb); have Pn_1_0_8 := (show Hid (Rp wv12 (n + 1) 0 B0) from Pn_1_0_7.out.below hb); have Pn_1_32_8 := (show Hid (Rp wv12 (n + 1) 32 B1) from Pn_1_32_7.out.below hb); have Pn_1_64_8 := (show Hid (Rp wv12 (n + 1) 64 B2) from Pn_1_64_7.out.below hb); have Pb5_0_8 := (show Hid (Rp wv12 b5 0 K18) from Pb5_0_7.out.below hb); have Pb6_0_8 := (show Hid (Rp wv12 b6 0 K21) from Pb6_0_7.out.below hb); have Pb7_0_8 := (show Hid (Rp wv12 b7 0 K28) from Pb7_0_7.out.below hb); have Pb8_0_8 := (show Hid (Rp wv12 b8 0 K35) from Pb8_0_7.out.below hb); have Pb9_0_8 := (show Hid (Rp wv12 b9 0 K40) from Pb9_0_7.out.below hb); have Pb10_0_8 := (show Hid (Rp wv12 b10 0 K43) from Pb10_0_7.out.below hb); have Pb11_0_8 := (show Hid (Rp wv12 b11 0 K46) from Pb11_0_7.out.below hb); have AN_8 := (show Hid (Ao w.heap.size wv12 (n + 2) 96) from AN_7.out.below hb); have Pb12_0_8 := (show Hid (Rp wv12 b12 0 K61) from (HT.out.1).rp); clear HB_7 AN_7 Pn_0_7 Pn_32_7 Pn_64_7 Pn_1_0_7 Pn_1_32_7 Pn_1_64_7 Pb5_0_7 Pb6_0_7 Pb7_0_7 Pb8_0_7 Pb9_0_7 Pb10_0_7 Pb11_0_7 hb; have TK_8 := (show Hid True from trivial); clear TK_7 HT HT1 wv11)
                    | (have hq := TK_8; go_at_call 15; refine (c_k64 _).mono ?_; rintro e wv13 ⟨rfl, hb⟩; have HB_9 := (show Hid (Below w.heap.size w wv13) from HB_8.out.trans (hb.mono HB_8.out.size)); have Pn_0_9 := (show Hid (Rp wv13 n 0 A0) from Pn_0_8.out.below hb); have Pn_32_9 := (show Hid (Rp wv13 n 32 A1) from Pn_32_8.out.below hb); have Pn_64_9 := (show Hid (Rp wv13 n 64 A2) from Pn_64_8.out.below hb); have Pn_1_0_9 := (show Hid (Rp wv13 (n + 1) 0 B0) from Pn_1_0_8.out.below hb); have Pn_1_32_9 := (show Hid (Rp wv13 (n + 1) 32 B1) from Pn_1_32_8.out.below hb); have Pn_1_64_9 := (show Hid (Rp wv13 (n + 1) 64 B2) from Pn_1_64_8.out.below hb); have Pb5_0_9 := (show Hid (Rp wv13 b5 0 K18) from Pb5_0_8.out.below hb); have Pb6_0_9 := (show Hid (Rp wv13 b6 0 K21) from Pb6_0_8.out.below hb); have Pb7_0_9 := (show Hid (Rp wv13 b7 0 K28) from Pb7_0_8.out.below hb); have Pb8_0_9 := (show Hid (Rp wv13 b8 0 K35) from Pb8_0_8.out.below hb); have Pb9_0_9 := (show Hid (Rp wv13 b9 0 K40) from Pb9_0_8.out.below hb); have Pb10_0_9 := (show Hid (Rp wv13 b10 0 K43) from Pb10_0_8.out.below hb); have Pb11_0_9 := (show Hid (Rp wv13 b11 0 K46) from Pb11_0_8.out.below hb); have Pb12_0_9 := (show Hid (Rp wv13 b12 0 K61) from Pb12_0_8.out.below hb); have AN_9 := (show Hid (Ao w.heap.size wv13 (n + 2) 96) from AN_8.out.below hb); clear HB_8 AN_8 Pn_0_8 Pn_32_8 Pn_64_8 Pn_1_0_8 Pn_1_32_8 Pn_1_64_8 Pb5_0_8 Pb6_0_8 Pb7_0_8 Pb8_0_8 Pb9_0_8 Pb10_0_8 Pb11_0_8 Pb12_0_8 hb; have TK_9 := (show Hid True from trivial); clear hq TK_8)
                    | (have hq := TK_9; refine wpList_store_mid rfl 22 (.tmp 13) (.tmp 64) rfl wv13.heap.size 0 K64.toArray rfl rfl (HLT.out K64 LK64.out wv13) LK64.out.j LK64.out.o ?_; simp only [Act.put]; have hbx := HBN.out wv13 K64 LK64.out.l; obtain ⟨wv14, hwv14⟩ : ∃ v, (wv13.alloc (.cells Z 22)).setCells wv13.heap.size 0 K64 = v := ⟨_, rfl⟩; rw [hwv14] at hbx ⊢; clear hwv14; have hb := hbx.2; replace hbx := hbx.1; obtain ⟨b13, hb13⟩ : ∃ b, wv13.heap.size = b := ⟨_, rfl⟩; rw [hb13] at hbx ⊢; clear hb13; have HB_10 := (show Hid (Below w.heap.size w wv14) from HB_9.out.trans (hb.mono HB_9.out.size)); have Pn_0_10 := (show Hid (Rp wv14 n 0 A0) from Pn_0_9.out.below hb); have Pn_32_10 := (show Hid (Rp wv14 n 32 A1) from Pn_32_9.out.below hb); have Pn_64_10 := (show Hid (Rp wv14 n 64 A2) from Pn_64_9.out.below hb); have Pn_1_0_10 := (show Hid (Rp wv14 (n + 1) 0 B0) from Pn_1_0_9.out.below hb); have Pn_1_32_10 := (show Hid (Rp wv14 (n + 1) 32 B1) from Pn_1_32_9.out.below hb); have Pn_1_64_10 := (show Hid (Rp wv14 (n + 1) 64 B2) from Pn_1_64_9.out.below hb); have Pb5_0_10 := (show Hid (Rp wv14 b5 0 K18) from Pb5_0_9.out.below hb); have Pb6_0_10 := (show Hid (Rp wv14 b6 0 K21) from Pb6_0_9.out.below hb); have Pb7_0_10 := (show Hid (Rp wv14 b7 0 K28) from Pb7_0_9.out.below hb); have Pb8_0_10 := (show Hid (Rp wv14 b8 0 K35) from Pb8_0_9.out.below hb); have Pb9_0_10 := (show Hid (Rp wv14 b9 0 K40) from Pb9_0_9.out.below hb); have Pb10_0_10 := (show Hid (Rp wv14 b10 0 K43) from Pb10_0_9.out.below hb); have Pb11_0_10 := (show Hid (Rp wv14 b11 0 K46) from Pb11_0_9.out.below hb); have Pb12_0_10 := (show Hid (Rp wv14 b12 0 K61) from Pb12_0_9.out.below hb); have AN_10 := (show Hid (Ao w.heap.size wv14 (n + 2) 96) from AN_9.out.below hb); have Pb13_0_10 := (show Hid (Rp wv14 b13 0 K64) from hbx.rp); clear HB_9 AN_9 Pn_0_9 Pn_32_9 Pn_64_9 Pn_1_0_9 Pn_1_32_9 Pn_1_64_9 Pb5_0_9 Pb6_0_9 Pb7_0_9 Pb8_0_9 Pb9_0_9 Pb10_0_9 Pb11_0_9 Pb12_0_9 hb; have TK_10 := (show Hid True from trivial); clear hq TK_9 hbx))
                  have HQPb5_0 := (show Hid _ from Pb5_0_10.out.cl)
                  have HQPb12_0 := (show Hid _ from Pb12_0_10.out.cl)
                  have HQPb11_0 := (show Hid _ from Pb11_0_10.out.cl)
                  have HQPb13_0 := (show Hid _ from Pb13_0_10.out.cl)
                  have HQPb10_0 := (show Hid _ from Pb10_0_10.out.cl)
                  have hne := Cl.ne wv14.heap.size wv14
                  apply region_cl_tail (N := wv14.heap.size) (W := wv14) 14 14 (by kernel_rfl) (Below.refl _ _)
                  case hl => simp only [List.take_succ_cons, List.take_zero]; rfl
                  case ht => simp only [List.drop_succ_cons, List.drop_zero]; rfl
                  case hB => kernel_rfl
                  case hT => kernel_rfl
                  case h =>
                    go_big_quiet_want
                    refine quiet_load 22 _ rfl b5 0 rfl K18 _ HQPb5_0.out Try.underlying22 rfl LK18.out.i ?_
                    simp only [Act.put, List.setIfInBounds_toArray, List.set_cons_zero, List.set_cons_succ]
                    go_big_quiet_on
                    go_big_quiet_want
                    refine quiet_load 22 _ rfl b12 0 rfl K61 _ HQPb12_0.out Try.underlying22 rfl LK61.out.i ?_
                    simp only [Act.put, List.setIfInBounds_toArray, List.set_cons_zero, List.set_cons_succ]
                    go_big_quiet_on
                    go_big_quiet_step ((go_at_call 20; exact cl_of (c_k67 _) (Nat.le_refl _)))
                    go_big_quiet_want
                    refine quiet_load 22 _ rfl b11 0 rfl K46 _ HQPb11_0.out Try.underlying22 rfl LK46.out.i ?_
                    simp only [Act.put, List.setIfInBounds_toArray, List.set_cons_zero, List.set_cons_succ]
                    go_big_quiet_on
                    go_big_quiet_step ((go_at_call 20; exact cl_of (c_k69 _) (Nat.le_refl _)))
                    go_big_quiet_want
                    refine quiet_load 22 _ rfl b5 0 rfl K18 _ HQPb5_0.out Try.underlying22 rfl LK18.out.i ?_
                    simp only [Act.put, List.setIfInBounds_toArray, List.set_cons_zero, List.set_cons_succ]
                    go_big_quiet_on
                    go_big_quiet_want
                    refine quiet_load 22 _ rfl b13 0 rfl K64 _ HQPb13_0.out Try.underlying22 rfl LK64.out.i ?_
                    simp only [Act.put, List.setIfInBounds_toArray, List.set_cons_zero, List.set_cons_succ]
                    go_big_quiet_on
                    go_big_quiet_step ((go_at_call 20; exact cl_of (c_k72 _) (Nat.le_refl _)))
                    go_big_quiet_want
                    refine quiet_load 22 _ rfl b10 0 rfl K43 _ HQPb10_0.out Try.underlying22 rfl LK43.out.i ?_
                    simp only [Act.put, List.setIfInBounds_toArray, List.set_cons_zero, List.set_cons_succ]
                    go_big_quiet_on
                    go_big_quiet_step ((go_at_call 20; exact cl_of (c_k74 _) (Nat.le_refl _)))
                    go_big_quiet_want
                    refine quiet_build 43 _ rfl [(0, .agg K69.toArray), (1, .agg K74.toArray)] (by kernel_rfl) VP HBP.out ?_
                    simp only [Act.put, List.setIfInBounds_toArray, List.set_cons_zero, List.set_cons_succ]
                    go_big_quiet_on
                    go_big_quiet_want
                    refine quiet_load 22 _ rfl b10 0 rfl K43 _ HQPb10_0.out Try.underlying22 rfl LK43.out.i ?_
                    simp only [Act.put, List.setIfInBounds_toArray, List.set_cons_zero, List.set_cons_succ]
                    go_big_quiet_on
                    go_big_quiet_want
                    refine quiet_load 22 _ rfl b11 0 rfl K46 _ HQPb11_0.out Try.underlying22 rfl LK46.out.i ?_
                    simp only [Act.put, List.setIfInBounds_toArray, List.set_cons_zero, List.set_cons_succ]
                    go_big_quiet_on
                    go_big_quiet_step ((go_at_call 20; exact cl_of (c_k78 _) (Nat.le_refl _)))
                    refine wpQuiet_nil ?_
                    rintro _ ⟨xq, rfl⟩
                    have hb := xq.h
                    have HBE := (show Hid (Below w.heap.size w xq.u) from HB_10.out.trans (hb.mono HB_10.out.size))
                    have AE := (show Hid (Ao w.heap.size xq.u (n + 2) 96) from AN_10.out.below hb)
                    have HTE : Hid (xq.u.there (n + 2) 0 VF.toArray.size) := by have e : VF.toArray.size = 96 := (List.size_toArray ..).trans HVL.out; show World.there _ _ _ _; rw [e]; exact AE.out.2.2
                    have HI : Hid ((Try.prog.info? 84).map (·.size) = some VF.toArray.size) := by have e : VF.toArray.size = 96 := (List.size_toArray ..).trans HVL.out; show _ = _; rw [e]; exact info84
                    clear hb
                    go_wp2_with (first
                      | (refine build_to rfl 84 _ rfl (some 79) rfl [(0, .agg VP.toArray), (1, .agg K78.toArray)] (by kernel_rfl) VF HBF.out ?_; simp only [Act.put, List.setIfInBounds_toArray, List.set_cons_zero, List.set_cons_succ])
                      | (refine wpList_store_mid rfl 84 (.tmp 4) (.tmp 79) rfl (n + 2) 0 VF.toArray rfl rfl HTE.out HI.out HVO.out ?_; simp only [Act.put]))
                    exact bodyPost_ret (results_cell Try.results81 rfl (run_loadVar_mid (P := Try.prog) _ (n + 2) 0 84 VF _ (World.rangeAt_setCells_same _ _ _ _ (by have e : VF.length = VF.toArray.size := (List.size_toArray ..).symm; rw [e]; exact HTE.out)) Try.underlying84 rfl (by have e : VF.length = VF.toArray.size := (List.size_toArray ..).symm; rw [e]; exact HI.out))) rfl ⟨rfl, below_setCells HBE.out AE.out.1⟩
end Fd
end Go.Proofs.Ytgdekigdbbldoaa

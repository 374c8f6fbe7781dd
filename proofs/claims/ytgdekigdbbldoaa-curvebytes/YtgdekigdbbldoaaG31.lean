/- The reference's Is and Base: contracts, by walking their texts. The order, and a number less the order: contracts, by walking their texts. -/
import Derived.Test.YtgdekigdbbldoaaG28
import Derived.Test.YtgdekigdbbldoaaG29
import Derived.Test.YtgdekigdbbldoaaG30
import Derived.Deep.RegionHeld
import Derived.Test.YtgdekigdbbldoaaG11
namespace Go.Proofs.Ytgdekigdbbldoaa
open Go.RowKit
namespace Dt
open Rg Go.Proofs.Ytgdekigdbbldoaa.Fd Go.Proofs.Ytgdekigdbbldoaa.Fd.Pratt

theorem two256' {x : Nat} (h : x < 115792089237316195423570985008687907853269984665640564039457584007913129639936) : x < 2 ^ 256 := by rw [← two256]; exact h
theorem onr_on (x y : Nat) : onr (x % p) (y % p) factor = decide (OnC x y) := by
  have e1 : x % p * (x % p) % p = x * x % p := (Nat.mul_mod x x p).symm
  have e2 : y % p * (y % p) % p = y * y % p := (Nat.mul_mod y y p).symm
  have e3 : cone % p = 1 := by decide
  unfold onr
  rw [e1, e2]
  refine decide_eq_decide.2 ?_
  unfold OnC
  rw [e3, Nat.mod_mod, Nat.mod_mod, Nat.mod_mod]
set_option maxHeartbeats 1000000 in
set_option maxRecDepth 4000 in
theorem ris_any (x y : Nat) (w : World) (hx : x < 115792089237316195423570985008687907853269984665640564039457584007913129639936) (hy : y < 115792089237316195423570985008687907853269984665640564039457584007913129639936) :
    Calls Try.prog 31 #[pv x y] w fun e w' => e = .returned (.bool (decide (OnC x y))) ∧ Below w.heap.size w w' := by
  have CX : Hid (∀ W : World, Calls Try.prog 14 #[.agg (bvc x).toArray] W fun e w' => ∃ r, e = .returned r ∧ Num w' r (x % p) ∧ Below W.heap.size W w') := fun W => in_any x W (two256' hx)
  have CY : Hid (∀ W : World, Calls Try.prog 14 #[.agg (bvc y).toArray] W fun e w' => ∃ r, e = .returned r ∧ Num w' r (y % p) ∧ Below W.heap.size W w') := fun W => in_any y W (two256' hy)
  have CO : Hid (∀ (W : World) (u v z : Value), Num W u (x % p) → Num W v (y % p) → Num W z factor → Calls Try.prog 77 #[u, v, z] W fun e w' => e = .returned (.bool (decide (OnC x y))) ∧ Below W.heap.size W w') := fun W u v z h1 h2 h3 => by have h := on_num h1 h2 h3 (modp _) (modp _) (by decide); rwa [onr_on] at h
  unfold pv
  have LX : Hid (L32 (bvc x)) := l32 x
  have LY : Hid (L32 (bvc y)) := l32 y
  have HRX : Hid (Rp (w.alloc (.cells (bvc x ++ bvc y).toArray 43)) w.heap.size 0 (bvc x)) := ⟨range_left (range_new _ _ _), by rw [size_alloc]; omega⟩
  have HRY : Hid (Rp (w.alloc (.cells (bvc x ++ bvc y).toArray 43)) w.heap.size 32 (bvc y)) := ⟨by have h := range_right (m := 32) (range_new w (bvc x ++ bvc y) 43) (bvc_len x); rwa [Nat.zero_add] at h, by rw [size_alloc]; omega⟩
  have HB1 : Hid (Below w.heap.size w (w.alloc (.cells (bvc x ++ bvc y).toArray 43))) := (Below.refl _ _).alloc (Nat.le_refl _) _
  obtain ⟨V, hV⟩ : ∃ V, bvc x ++ bvc y = V := ⟨_, rfl⟩
  obtain ⟨X, hX⟩ : ∃ V, bvc x = V := ⟨_, rfl⟩
  obtain ⟨Y, hY⟩ : ∃ V, bvc y = V := ⟨_, rfl⟩
  rw [hV] at HRX HRY HB1 ⊢
  rw [hX] at CX HRX LX
  rw [hY] at CY HRY LY
  obtain ⟨a, ha⟩ : ∃ a, x % p = a := ⟨_, rfl⟩
  obtain ⟨b, hb⟩ : ∃ a, y % p = a := ⟨_, rfl⟩
  obtain ⟨d, hd⟩ : ∃ d, decide (OnC x y) = d := ⟨_, rfl⟩
  rw [ha] at CX CO
  rw [hb] at CY CO
  rw [hd] at CO ⊢
  clear hV hX hY ha hb hd hx hy x y
  obtain ⟨n, hn⟩ : ∃ n, w.heap.size = n := ⟨_, rfl⟩
  have HN : Hid (w.heap.size = n) := hn
  obtain ⟨w1, hw1⟩ : ∃ v, w.alloc (.cells V.toArray 43) = v := ⟨_, rfl⟩
  rw [hw1] at HRX HRY HB1
  rw [hn] at HRX HRY
  go_enter Try.func31, Try.ntmps31
  go_wp2
  clear hw1
  refine wp_region_held_drew (S := fun w' => Below w1.heap.size w1 w') (by kernel_rfl) (drewB w1) (fun hS => ?_)
  refine wpAnyH_take (i := 0) (v := .pointer (some ⟨n, 0, none⟩)) rfl (by kernel_rfl) (by kernel_rfl) (by kernel_rfl) (fun _ _ _ h => h) (Or.inl ⟨by kernel_rfl, fun wq hS => by go_simp⟩) hS ?_
  try simp only [Act.put, List.setIfInBounds_toArray, List.set_cons_zero, List.set_cons_succ, List.getElem_toArray, List.getElem_cons_zero]
  refine wpAnyH_take (i := 1) (v := .agg X.toArray) rfl (by kernel_rfl) (by kernel_rfl) (by kernel_rfl) (fun _ _ _ h => h) (yieldsIf_load_mid (by kernel_rfl) 22 (.tmp 3) rfl n 0 rfl X _ (fun wq hq => Rg.Below.range hq HRX.out.1 HRX.out.2) Try.underlying22 rfl LX.out.i) hS ?_
  try simp only [Act.put, List.setIfInBounds_toArray, List.set_cons_zero, List.set_cons_succ, List.getElem_toArray, List.getElem_cons_succ, List.getElem_cons_zero]
  refine wpAnyH_take (i := 3) (v := .pointer (some ⟨n, 32, none⟩)) rfl (by kernel_rfl) (by kernel_rfl) (by kernel_rfl) (fun _ _ _ h => h) (Or.inl ⟨by kernel_rfl, fun wq hS => by go_simp⟩) hS ?_
  try simp only [Act.put, List.setIfInBounds_toArray, List.set_cons_zero, List.set_cons_succ, List.getElem_toArray, List.getElem_cons_succ, List.getElem_cons_zero]
  refine wpAnyH_take (i := 4) (v := .agg Y.toArray) rfl (by kernel_rfl) (by kernel_rfl) (by kernel_rfl) (fun _ _ _ h => h) (yieldsIf_load_mid (by kernel_rfl) 22 (.tmp 6) rfl n 32 rfl Y _ (fun wq hq => Rg.Below.range hq HRY.out.1 HRY.out.2) Try.underlying22 rfl LY.out.i) hS ?_
  try simp only [Act.put, List.setIfInBounds_toArray, List.set_cons_zero, List.set_cons_succ, List.getElem_toArray, List.getElem_cons_succ, List.getElem_cons_zero]
  refine wpAnyH_ready (rs := [2]) (by kernel_rfl) (by simp) ?_
  refine AllReadyH.cons rfl (fun K hK => ?_) AllReadyH.nil
  go_simp
  refine (CX.out _).mono ?_
  rintro e wh1 ⟨va, rfl, hn1, hb⟩
  have NA_1 := (show Hid (Num wh1 va a) from hn1)
  have hS2 : Below w1.heap.size w1 wh1 := hS.trans (hb.mono hS.size)
  refine hK.out _ _ hS2 (fun hS => ?_)
  clear hK K hb hS2  hn1
  try simp only [Act.put, List.setIfInBounds_toArray, List.set_cons_zero, List.set_cons_succ, List.getElem_toArray, List.getElem_cons_succ, List.getElem_cons_zero]
  refine wpAnyH_ready (rs := [5]) (by kernel_rfl) (by simp) ?_
  refine AllReadyH.cons rfl (fun K hK => ?_) AllReadyH.nil
  go_simp
  refine (CY.out _).mono ?_
  rintro e wh2 ⟨vb, rfl, hn1, hb⟩
  have NA_2 := (show Hid (Num wh2 va a) from NA_1.out.below hb)
  have NB_2 := (show Hid (Num wh2 vb b) from hn1)
  have hS2 : Below w1.heap.size w1 wh2 := hS.trans (hb.mono hS.size)
  refine hK.out _ _ hS2 (fun hS => ?_)
  clear hK K hb hS2 NA_1 hn1
  try simp only [Act.put, List.setIfInBounds_toArray, List.set_cons_zero, List.set_cons_succ, List.getElem_toArray, List.getElem_cons_succ, List.getElem_cons_zero]
  refine wpAnyH_ready (rs := [6]) (by kernel_rfl) (by simp) ?_
  refine AllReadyH.cons rfl (fun K hK => ?_) AllReadyH.nil
  go_simp
  refine (d_num _).mono ?_
  rintro e wh3 ⟨vd, rfl, hn1, hb⟩
  have NA_3 := (show Hid (Num wh3 va a) from NA_2.out.below hb)
  have NB_3 := (show Hid (Num wh3 vb b) from NB_2.out.below hb)
  have ND_3 := (show Hid (Num wh3 vd factor) from hn1)
  have hS2 : Below w1.heap.size w1 wh3 := hS.trans (hb.mono hS.size)
  refine hK.out _ _ hS2 (fun hS => ?_)
  clear hK K hb hS2 NA_2 NB_2 hn1
  try simp only [Act.put, List.setIfInBounds_toArray, List.set_cons_zero, List.set_cons_succ, List.getElem_toArray, List.getElem_cons_succ, List.getElem_cons_zero]
  refine wpAnyH_ready (rs := [7]) (by kernel_rfl) (by simp) ?_
  refine AllReadyH.cons rfl (fun K hK => ?_) AllReadyH.nil
  go_simp
  refine (CO.out _ _ _ _ (NA_3.out) (NB_3.out) (ND_3.out)).mono ?_
  rintro e wh4 ⟨rfl, hb⟩
  have NA_4 := (show Hid (Num wh4 va a) from NA_3.out.below hb)
  have NB_4 := (show Hid (Num wh4 vb b) from NB_3.out.below hb)
  have ND_4 := (show Hid (Num wh4 vd factor) from ND_3.out.below hb)
  have hS2 : Below w1.heap.size w1 wh4 := hS.trans (hb.mono hS.size)
  refine hK.out _ _ hS2 (fun hS => ?_)
  clear hK K hb hS2 NA_3 NB_3 ND_3
  try simp only [Act.put, List.setIfInBounds_toArray, List.set_cons_zero, List.set_cons_succ, List.getElem_toArray, List.getElem_cons_succ, List.getElem_cons_zero]
  refine wpAnyH_ready (rs := [8]) (by kernel_rfl) (by simp) ?_
  refine AllReadyH.cons rfl (fun K hK => ?_) AllReadyH.nil
  go_simp
  refine hK.out _ _ hS (fun hS => ?_)
  clear hK K
  try simp only [Act.put, List.setIfInBounds_toArray, List.set_cons_zero, List.set_cons_succ, List.getElem_toArray, List.getElem_cons_succ, List.getElem_cons_zero]
  refine wpAnyH_done (by kernel_rfl) ?_ _
  have HBF := (show Hid _ from HB1.out.trans (hS.mono HB1.out.size))
  go_wp2
  go_ret
  exact ⟨rfl, HBF.out⟩
theorem base_y : 4 * (5 ^ (p - 2) % p) % p = baseY := by
  rw [← pm_eq p 256 5 (p - 2) (by decide +kernel)]
  decide +kernel
theorem xq_pm (y : Nat) : xq y = (y * y % p + p - 1) % p * pm p 256 ((factor * (y * y % p) % p + 1) % p) (p - 2) % p := by
  unfold xq
  rw [pm_eq p 256 _ (p - 2) (by decide +kernel)]
theorem base_x : rt (xq baseY) * rt (xq baseY) % p = xq baseY ∧ evn (rt (xq baseY)) = baseX := by
  have e2 : ∀ q, rt q = if pm p 256 q rootExponent * pm p 256 q rootExponent % p = q then pm p 256 q rootExponent else pm p 256 q rootExponent * rootOfMinusOne % p := fun q => by unfold rt; rw [r0_pm]
  rw [e2, xq_pm]
  decide +kernel
set_option maxHeartbeats 1000000 in
set_option maxRecDepth 4000 in
theorem rbase_any (w : World) : Calls Try.prog 32 #[] w fun e w' => e = .returned (pv baseX baseY) ∧ Below w.heap.size w w' := by
  have C1 : Hid (∀ (W : World) (u v : Value), Num W u 4 → Num W v 5 → Calls Try.prog 78 #[u, v] W fun e w' => ∃ r, e = .returned r ∧ Num w' r baseY ∧ Below W.heap.size W w') := fun W u v h1 h2 => by have h := ratio_num h1 h2 (by decide) (by decide); rwa [base_y] at h
  have C2 : Hid (∀ (W : World) (u : Value), Num W u baseY → Calls Try.prog 79 #[u] W fun e w' => ∃ r, e = .returned (.tuple #[r, .bool true]) ∧ Num w' r baseX ∧ Below W.heap.size W w') := fun W u h1 => by
    have h := xOf_num h1 (by decide)
    rw [decide_eq_true base_x.1] at h
    exact h.mono fun e w' ⟨v, h1, h2, h3⟩ => ⟨v, h1, by have h5 := h2.1 base_x.1; rwa [base_x.2] at h5, h3⟩
  have C3 : Hid (∀ (W : World) (u : Value), Num W u baseX → Calls Try.prog 16 #[u] W fun e w' => e = .returned (.agg (bvc baseX).toArray) ∧ Below W.heap.size W w') := fun W u h => bytes_num h
  have C4 : Hid (∀ (W : World) (u : Value), Num W u baseY → Calls Try.prog 16 #[u] W fun e w' => e = .returned (.agg (bvc baseY).toArray) ∧ Below W.heap.size W w') := fun W u h => bytes_num h
  unfold pv
  have HBP : Hid (Try.prog.built 43 [(0, .agg (bvc baseX).toArray), (1, .agg (bvc baseY).toArray)] = some (bvc baseX ++ bvc baseY).toArray) := build_point _ _ (bvc_len _) (bvc_len _)
  have LE : Hid (L64 (bvc baseX ++ bvc baseY)) := l64 _ _
  obtain ⟨E, hE⟩ : ∃ V, bvc baseX ++ bvc baseY = V := ⟨_, rfl⟩
  obtain ⟨X, hX⟩ : ∃ V, bvc baseX = V := ⟨_, rfl⟩
  obtain ⟨Y, hY⟩ : ∃ V, bvc baseY = V := ⟨_, rfl⟩
  rw [hE] at HBP LE ⊢
  rw [hX] at HBP C3
  rw [hY] at HBP C4
  clear hE hX hY
  have hz2 := zero43
  have AO : Hid (Ao w.heap.size (w.alloc (.cells z43 43)) w.heap.size 64) := ⟨Nat.le_refl _, by rw [size_alloc]; omega, there43 w⟩
  have HB1 : Hid (Below w.heap.size w (w.alloc (.cells z43 43))) := (Below.refl _ _).alloc (Nat.le_refl _) _
  obtain ⟨Z2, hZ2⟩ : ∃ Z, z43 = Z := ⟨_, rfl⟩
  rw [hZ2] at hz2 AO HB1
  clear hZ2
  obtain ⟨n, hn⟩ : ∃ n, w.heap.size = n := ⟨_, rfl⟩
  obtain ⟨wb, hwb⟩ : ∃ v, w.alloc (.cells Z2 43) = v := ⟨_, rfl⟩
  rw [hwb] at AO HB1
  replace AO : Hid (Ao w.heap.size wb n 64) := by have h := AO.out; rw [hn] at h; show Ao _ _ _ _; rw [hn]; exact h
  have AO_0 := AO
  have HB_0 := (show Hid (Below wb.heap.size wb wb) from Below.refl _ _)
  have TK_0 := (show Hid True from trivial)
  clear AO
  go_enter Try.func32, Try.ntmps32
  go_wp2_with (first
    | (have hq := TK_0; go_at_call 78; refine (C1.out _ _ _ ((show Num (wb.alloc (.cells #[.int .i64 4] 3)) (.slice (some ⟨wb.heap.size, 0, none⟩) 1 1) 4 from lit_num wb 4 (by decide) (by decide)).below ((Below.refl _ _).alloc (Nat.le_refl _) _)) ((show Num ((wb.alloc (.cells #[.int .i64 4] 3)).alloc (.cells #[.int .i64 5] 3)) (.slice (some ⟨(wb.heap.size + 1), 0, none⟩) 1 1) 5 from lit_num1 wb _ 5 (by decide) (by decide)))).mono ?_; rintro e w1 ⟨vy, rfl, hn, hb⟩; replace hb := lift1 hb; replace hb := lift1 hb; have HB_1 := (show Hid (Below wb.heap.size wb w1) from HB_0.out.trans (hb.mono HB_0.out.size)); have AO_1 := (show Hid (Ao w.heap.size w1 n 64) from AO_0.out.below hb); have NY_1 := (show Hid (Num w1 vy baseY) from hn); have TK_1 := (show Hid True from trivial); clear hq TK_0 hb HB_0 AO_0 hn)
    | (have hq := TK_1; go_at_call 79; refine (C2.out _ _ (NY_1.out)).mono ?_; rintro e w2 ⟨vx, rfl, hn, hb⟩; have HB_2 := (show Hid (Below wb.heap.size wb w2) from HB_1.out.trans (hb.mono HB_1.out.size)); have AO_2 := (show Hid (Ao w.heap.size w2 n 64) from AO_1.out.below hb); have NY_2 := (show Hid (Num w2 vy baseY) from NY_1.out.below hb); have NX_2 := (show Hid (Num w2 vx baseX) from hn); have TK_2 := (show Hid True from trivial); clear hq TK_1 hb HB_1 AO_1 NY_1 hn)
    | (have hq := TK_2; go_at_call 16; refine (C3.out _ _ (NX_2.out)).mono ?_; rintro e w3 ⟨rfl, hb⟩; have HB_3 := (show Hid (Below wb.heap.size wb w3) from HB_2.out.trans (hb.mono HB_2.out.size)); have AO_3 := (show Hid (Ao w.heap.size w3 n 64) from AO_2.out.below hb); have NY_3 := (show Hid (Num w3 vy baseY) from NY_2.out.below hb); have NX_3 := (show Hid (Num w3 vx baseX) from NX_2.out.below hb); have TK_3 := (show Hid True from trivial); clear hq TK_2 hb HB_2 AO_2 NY_2 NX_2)
    | (have hq := TK_3; go_at_call 16; refine (C4.out _ _ (NY_3.out)).mono ?_; rintro e w4 ⟨rfl, hb⟩; have HB_4 := (show Hid (Below wb.heap.size wb w4) from HB_3.out.trans (hb.mono HB_3.out.size)); have AO_4 := (show Hid (Ao w.heap.size w4 n 64) from AO_3.out.below hb); have NY_4 := (show Hid (Num w4 vy baseY) from NY_3.out.below hb); have NX_4 := (show Hid (Num w4 vx baseX) from NX_3.out.below hb); have HT := (show Hid _ from LE.out.t AO_4.out); have TK_4 := (show Hid True from trivial); clear hq TK_3 hb HB_3 AO_3 NY_3 NX_3)
    | (refine build_to rfl 43 _ rfl (some 16) rfl [(0, .agg X.toArray), (1, .agg Y.toArray)] (by kernel_rfl) E HBP.out ?_; simp only [Act.put, List.setIfInBounds_toArray, List.set_cons_zero, List.set_cons_succ])
    | (refine wpList_store_mid rfl 43 (.tmp 0) (.tmp 16) rfl n 0 E.toArray rfl rfl HT.out LE.out.j LE.out.o ?_; simp only))
  exact bodyPost_ret (results_cell Try.results32 rfl (end43 LE.out AO_4.out)) rfl ⟨rfl, below_setCells (HB1.out.trans (HB_4.out.mono HB1.out.size)) AO_4.out.1⟩
end Dt
end Go.Proofs.Ytgdekigdbbldoaa

namespace Go.Proofs.Ytgdekigdbbldoaa
open Go.RowKit
namespace Fd
open Rg

/-- A block of numbers of one kind that the call has made. -/
structure Cs (kd : IntKind) (m N : Nat) (w wr : World) (g : Nat) (M : Nat → Nat) : Prop where
  b : Below N w wr
  c : ∀ j, j < m → wr.cell? ⟨g, j, none⟩ = some (.int kd ((M j : Nat) : Int))
  t : wr.there g 0 m
  l : N ≤ g ∧ g < wr.heap.size
theorem Cs.below {kd : IntKind} {m N : Nat} {w wr w' : World} {g : Nat} {M : Nat → Nat} (h : Cs kd m N w wr g M) (hb : Below wr.heap.size wr w') : Cs kd m N w w' g M :=
  ⟨h.b.trans (hb.mono (Nat.le_of_lt (Nat.lt_of_le_of_lt h.l.1 h.l.2))), fun j hj => (hb.cell (p := ⟨g, j, none⟩) h.l.2).trans (h.c j hj), there_below hb h.t h.l.2, h.l.1, Nat.lt_of_lt_of_le h.l.2 hb.size⟩
theorem Cs.set {kd : IntKind} {m N : Nat} {w wr : World} {g : Nat} {M : Nat → Nat} (h : Cs kd m N w wr g M) {k : Nat} (hk : k < m) (x : Nat) : Cs kd m N w (wr.setCell ⟨g, k, none⟩ (.int kd (x : Int))) g (upd M k x) := by
  refine ⟨h.b.setCell (by show N ≤ g; exact h.l.1) _, fun j hj => ?_, fun j hj => ?_, h.l.1, by simpa using h.l.2⟩
  · unfold upd
    by_cases hj2 : j = k
    · subst hj2
      rw [World.cell?_setCell_same _ _ _ (h.c _ hk), if_pos rfl]
    · rw [World.cell?_setCell_other _ _ _ _ (fun e => hj2 (by cases e; rfl)), h.c j hj, if_neg hj2]
  · obtain ⟨h1, h2⟩ := h.t j hj
    refine ⟨?_, by rw [World.frozen?_setCell]; exact h2⟩
    by_cases hj2 : j = k
    · subst hj2
      rw [show (0 + j) = j by omega, World.cell?_setCell_same _ _ _ (h.c _ hk)]
      rfl
    · rw [World.cell?_setCell_other _ _ _ _ (fun e => hj2 (by simpa using e.symm))]
      exact h1
/-- An old block stays where a cell of a new one is set. -/
theorem range_set {wr : World} {b o g k : Nat} {R : List Value} (h : wr.rangeAt b o R) (hb : b ≠ g) (v : Value) : (wr.setCell ⟨g, k, none⟩ v).rangeAt b o R := fun j x hx => (World.cell?_setCell_other _ _ _ _ (fun e => hb (by cases e; rfl))).trans (h j x hx)
/-- The first k of a row, then noughts. -/
def tabs (S : Nat → Nat) (k : Nat) : Nat → Nat := fun j => if j < k then S j else 0
theorem tabs_succ (S : Nat → Nat) (k : Nat) : upd (tabs S k) k (S k) = tabs S (k + 1) := by
  funext j
  unfold upd tabs
  by_cases h : j = k
  · subst h
    rw [if_pos rfl, if_pos (by omega)]
  · rw [if_neg h]
    by_cases h2 : j < k
    · rw [if_pos h2, if_pos (by omega)]
    · rw [if_neg h2, if_neg (by omega)]
theorem tabs_zero (S : Nat → Nat) : tabs S 0 = fun _ => 0 := by
  funext j
  unfold tabs
  rw [if_neg (by omega)]
theorem Cs.all4 {N : Nat} {w wr : World} {g : Nat} {S : Nat → Nat} (h : Cs .u64 4 N w wr g (tabs S 4)) : wr.rangeAt g 0 (w4 (S 0) (S 1) (S 2) (S 3)) := fun j v hv => by
  rw [Nat.zero_add]
  match j, hv with
  | 0, hv => cases hv; exact h.c 0 (by decide)
  | 1, hv => cases hv; exact h.c 1 (by decide)
  | 2, hv => cases hv; exact h.c 2 (by decide)
  | 3, hv => cases hv; exact h.c 3 (by decide)
  | j + 4, hv => simp [w4] at hv
theorem cell4 {wr : World} {b : Nat} {a0 a1 a2 a3 : Nat} (h : wr.rangeAt b 0 (w4 a0 a1 a2 a3)) {k : Nat} (hk : k < 4) : wr.cell? ⟨b, k, none⟩ = some (.int .u64 ((pick4 a0 a1 a2 a3 k : Nat) : Int)) := by
  have h2 := h k (.int .u64 ((pick4 a0 a1 a2 a3 k : Nat) : Int)) (by
    match k, hk with
    | 0, _ => rfl
    | 1, _ => rfl
    | 2, _ => rfl
    | 3, _ => rfl)
  rwa [Nat.zero_add] at h2
theorem info91 : (Try.prog.info? 91).map (·.size) = some 4 := by kernel_rfl
theorem index91 (cs : Array Value) (i : Nat) (v : Value) (hi : i < 4) (hv : cs[i]? = some v) (W : World) : (Instr.index 91 (.agg cs) (.int .i64 (i : Int))).run Try.prog W = .ok v W := by
  have hq : (Try.prog.info? 72).map (·.size) = some 1 := by kernel_rfl
  obtain ⟨t, ht⟩ : ∃ t, Try.prog.info? 72 = some t := by
    cases h : Try.prog.info? 72 with
    | none => simp [h] at hq
    | some t => exact ⟨t, rfl⟩
  have hs : t.size = 1 := by simpa [ht] using hq
  have hu : Try.prog.underlying 72 = some (.int .u64) := Try.underlying72
  have h0 : (0 : Int) ≤ (i : Int) ∧ (i : Int) < 4 := by omega
  obtain ⟨hi2, rfl⟩ := Array.getElem?_eq_some_iff.1 hv
  simp [Instr.index, asIntOf, Sem.run_bind, run_underlying Try.underlying91, sizeOf, typeInfo, ht, hs, part, run_underlying hu, isAgg, h0, hi2, hi]
/-- The order. -/
def ell : Nat := 7237005577332262213973186563042994240857116359379907606001950938285454250989
theorem ell_lt : ell < 115792089237316195423570985008687907853269984665640564039457584007913129639936 := by decide
theorem load91_at {w : World} {n : Nat} (hn : w.heap.size = n) (a b c d : Nat) : (loadVar 91 ⟨n, 0, none⟩).run Try.prog (w.alloc (.cells (w4 a b c d).toArray 91)) = .ok (.agg (w4 a b c d).toArray) (w.alloc (.cells (w4 a b c d).toArray 91)) := by
  subst hn
  exact run_loadVar_mid (P := Try.prog) _ w.heap.size 0 91 (w4 a b c d) _ (Rg.range_new w _ 91) Try.underlying91 rfl info91
set_option maxHeartbeats 400000 in
theorem order_any (w : World) : Calls Try.prog 105 #[] w fun e w' => e = .returned (.agg (w4 6346243789798364141 1503914060200516822 0 1152921504606846976).toArray) ∧ Below w.heap.size w w' := by
  go_enter Try.func105, Try.ntmps105
  go_wp2
  exact bodyPost_ret (results_cell Try.results105 rfl (load91_at rfl 6346243789798364141 1503914060200516822 0 1152921504606846976)) rfl ⟨rfl, (Below.refl _ _).alloc (Nat.le_refl _) _⟩
/-- What is owed behind the first words of a difference; its words. -/
def sbc (A O : Nat → Nat) : Nat → Nat
  | 0 => 0
  | k + 1 => if A k < O k + sbc A O k then 1 else 0
def sbw (A O : Nat → Nat) (k : Nat) : Nat := (A k + 18446744073709551616 - O k - sbc A O k) % 18446744073709551616
theorem sbc_le (A O : Nat → Nat) : ∀ k, sbc A O k ≤ 1
  | 0 => Nat.zero_le _
  | k + 1 => by unfold sbc; split <;> omega
end Fd
end Go.Proofs.Ytgdekigdbbldoaa

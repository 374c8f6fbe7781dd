/- CurveIs: the walk. -/
import Derived.Test.YtgdekigdbbldoaaG38
namespace Go.Proofs.Ytgdekigdbbldoaa
open Go.RowKit
namespace Fd
open Rg

set_option maxHeartbeats 2000000 in
set_option maxRecDepth 8000 in
theorem curveIs_law (x y : Nat) (lx : x < 115792089237316195423570985008687907853269984665640564039457584007913129639936) (ly : y < 115792089237316195423570985008687907853269984665640564039457584007913129639936) (w : World) : Calls Try.prog 7 #[pv x y] w fun e w' => e = .returned (.bool true) ∧ Below w.heap.size w w' := by
  have cS := shown7_any
  have cI : ∀ W : World, Calls Try.prog 29 #[pv x y] W fun e w' => e = .returned (.bool (decide (OnC x y))) ∧ Below W.heap.size W w' := fun W => is_any x y W lx ly
  have cJ : ∀ W : World, Calls Try.prog 31 #[pv x y] W fun e w' => e = .returned (.bool (decide (OnC x y))) ∧ Below W.heap.size W w' := fun W => Dt.ris_any x y W lx ly
  have cB : ∀ W : World, Calls Try.prog 30 #[] W fun e w' => e = .returned (pv baseX baseY) ∧ Below W.heap.size W w' := base_any
  have cC : ∀ W : World, Calls Try.prog 32 #[] W fun e w' => e = .returned (pv baseX baseY) ∧ Below W.heap.size W w' := Dt.rbase_any
  have q43 : ∀ W : World, (Op.equalIn 10000 43 (.agg (bvc baseX ++ bvc baseY).toArray) (.agg (bvc baseX ++ bvc baseY).toArray)).run Try.prog W = .ok true W := fun W => by have h := eq43 baseX baseY baseX baseY W bx_lt by_lt' bx_lt by_lt'; rwa [decide_eq_true (show baseX = baseX ∧ baseY = baseY from ⟨rfl, rfl⟩)] at h
  obtain ⟨d, hd⟩ : ∃ d, decide (OnC x y) = d := ⟨_, rfl⟩
  rw [hd] at cI cJ
  have LV : Hid (L64 (bvc x ++ bvc y)) := l64 _ _
  have LB : Hid (L64 (bvc baseX ++ bvc baseY)) := l64 _ _
  unfold pv at cI cJ cB cC ⊢
  obtain ⟨V, hV⟩ : ∃ X, bvc x ++ bvc y = X := ⟨_, rfl⟩
  rw [hV] at cI cJ LV ⊢
  obtain ⟨B, hB⟩ : ∃ X, bvc baseX ++ bvc baseY = X := ⟨_, rfl⟩
  rw [hB] at cB cC q43 LB
  have HP : Hid (Rp (w.alloc (.cells V.toArray 43)) w.heap.size 0 V) := ⟨Rg.range_new w V 43, by rw [size_alloc]; omega⟩
  have HBW : Hid (Below w.heap.size w (w.alloc (.cells V.toArray 43))) := (Below.refl _ _).alloc (Nat.le_refl _) _
  obtain ⟨n, hn⟩ : ∃ n, w.heap.size = n := ⟨_, rfl⟩
  obtain ⟨wb, hwb⟩ : ∃ v, w.alloc (.cells V.toArray 43) = v := ⟨_, rfl⟩
  rw [hwb] at HBW HP
  have BP : Hid (Rp wb n 0 V) := by have h := HP.out; rwa [hn] at h
  clear hd hV hB lx ly x y HP
  have hz43 := zero43
  have HBN43 : Hid _ := box43
  have HTH43 : Hid _ := th43
  obtain ⟨Z43, hZ43⟩ : ∃ Z, z43 = Z := ⟨_, rfl⟩
  rw [hZ43] at hz43 HBN43 HTH43
  clear hZ43
  have BP_0 := BP
  have HB_0 := (show Hid (Below wb.heap.size wb wb) from Below.refl _ _)
  have TK_0 := (show Hid True from trivial)
  clear BP
  cases d
  · go_enter Try.func7, Try.ntmps7
    go_wp2_with (first
      | (refine wpList_load_mid rfl 43 (.tmp 1) rfl n 0 rfl V _ BP_0.out.1 Try.underlying43 rfl LV.out.i ?_)
      | (refine wpList_load_mid rfl 43 (.tmp 1) rfl n 0 rfl V _ BP_1.out.1 Try.underlying43 rfl LV.out.i ?_)
      | (refine wpList_load_mid rfl 43 (.tmp 1) rfl n 0 rfl V _ BP_2.out.1 Try.underlying43 rfl LV.out.i ?_)
      | (refine wpList_load_mid rfl 43 (.tmp 1) rfl n 0 rfl V _ BP_3.out.1 Try.underlying43 rfl LV.out.i ?_)
      | (refine wpList_load_mid rfl 43 (.tmp 1) rfl n 0 rfl V _ BP_4.out.1 Try.underlying43 rfl LV.out.i ?_)
      | (refine wpList_load_mid rfl 43 (.tmp 5) rfl bBB 0 rfl B _ BB_4.out.1 Try.underlying43 rfl LB.out.i ?_)
      | (have hq := TK_0; go_at_call 28; refine (cS _).mono ?_; rintro e w1 ⟨rfl, hb⟩; have HB_1 := (show Hid (Below wb.heap.size wb w1) from HB_0.out.trans (hb.mono HB_0.out.size)); have BP_1 := (show Hid (Rp w1 n 0 V) from BP_0.out.below hb); have TK_1 := (show Hid True from trivial); clear hq TK_0 hb HB_0 BP_0)
      | (have hq := TK_1; go_at_call 29; refine (cI _).mono ?_; rintro e w2 ⟨rfl, hb⟩; have HB_2 := (show Hid (Below wb.heap.size wb w2) from HB_1.out.trans (hb.mono HB_1.out.size)); have BP_2 := (show Hid (Rp w2 n 0 V) from BP_1.out.below hb); have TK_2 := (show Hid True from trivial); clear hq TK_1 hb HB_1 BP_1)
      | (have hq := TK_2; go_at_call 30; refine (cB _).mono ?_; rintro e w3 ⟨rfl, hb⟩; have HB_3 := (show Hid (Below wb.heap.size wb w3) from HB_2.out.trans (hb.mono HB_2.out.size)); have BP_3 := (show Hid (Rp w3 n 0 V) from BP_2.out.below hb); have TK_3 := (show Hid True from trivial); clear hq TK_2 hb HB_2 BP_2)
      | (have hq := TK_3; refine wpList_store_mid rfl 43 (.tmp 5) (.tmp 9) rfl w3.heap.size 0 B.toArray rfl rfl (HTH43.out B LB.out w3) LB.out.j LB.out.o ?_; simp only [Act.put]; have hbx := HBN43.out B LB.out w3; obtain ⟨w4, hw4⟩ : ∃ v, (w3.alloc (.cells Z43 43)).setCells w3.heap.size 0 B = v := ⟨_, rfl⟩; rw [hw4] at hbx ⊢; clear hw4; have hb := hbx.2; replace hbx := hbx.1; obtain ⟨bBB, hbBB⟩ : ∃ b, w3.heap.size = b := ⟨_, rfl⟩; rw [hbBB] at hbx ⊢; clear hbBB; have HB_4 := (show Hid (Below wb.heap.size wb w4) from HB_3.out.trans (hb.mono HB_3.out.size)); have BP_4 := (show Hid (Rp w4 n 0 V) from BP_3.out.below hb); have BB_4 := (show Hid (Rp w4 bBB 0 B) from hbx); have TK_4 := (show Hid True from trivial); clear hq TK_3 hb hbx HB_3 BP_3))
    have HQBP := (show Hid _ from BP_4.out.cl)
    have HQBB := (show Hid _ from BB_4.out.cl)
    have hne := Cl.ne w4.heap.size w4
    refine region_cl (N := w4.heap.size) (W := w4) (by kernel_rfl) (by kernel_rfl) (Below.refl _ _) ?_
    go_big_quiet_step (fail)
    go_big_quiet_step (fail)
    go_big_quiet_step (fail)
    go_big_quiet_want
    refine quiet_load 43 _ rfl n 0 rfl V _ HQBP.out Try.underlying43 rfl LV.out.i ?_
    simp only [Act.put, List.setIfInBounds_toArray, List.set_cons_zero, List.set_cons_succ]
    go_big_quiet_on
    go_big_quiet_step ((go_at_call 31; exact cl_of (cJ _) (Nat.le_refl _)))
    go_big_quiet_step (fail)
    go_big_quiet_step (fail)
    go_big_quiet_step (fail)
    go_big_quiet_want
    refine quiet_load 43 _ rfl bBB 0 rfl B _ HQBB.out Try.underlying43 rfl LB.out.i ?_
    simp only [Act.put, List.setIfInBounds_toArray, List.set_cons_zero, List.set_cons_succ]
    go_big_quiet_on
    go_big_quiet_step ((go_at_call 32; exact cl_of (cC _) (Nat.le_refl _)))
    go_big_quiet_step (fail)
    go_big_quiet_step (fail)
    go_big_quiet_step (fail)
    refine wpQuiet_nil ?_
    rintro _ ⟨xq, rfl⟩
    have hb := xq.h
    have HBF := (show Hid (Below wb.heap.size wb xq.u) from HB_4.out.trans (hb.mono HB_4.out.size))
    go_wp2
    go_ret
    exact ⟨rfl, HBW.out.trans (HBF.out.mono HBW.out.size)⟩
  · go_enter Try.func7, Try.ntmps7
    go_wp2_with (first
      | (refine wpList_load_mid rfl 43 (.tmp 1) rfl n 0 rfl V _ BP_0.out.1 Try.underlying43 rfl LV.out.i ?_)
      | (refine wpList_load_mid rfl 43 (.tmp 1) rfl n 0 rfl V _ BP_1.out.1 Try.underlying43 rfl LV.out.i ?_)
      | (refine wpList_load_mid rfl 43 (.tmp 1) rfl n 0 rfl V _ BP_2.out.1 Try.underlying43 rfl LV.out.i ?_)
      | (refine wpList_load_mid rfl 43 (.tmp 1) rfl n 0 rfl V _ BP_3.out.1 Try.underlying43 rfl LV.out.i ?_)
      | (refine wpList_load_mid rfl 43 (.tmp 1) rfl n 0 rfl V _ BP_4.out.1 Try.underlying43 rfl LV.out.i ?_)
      | (refine wpList_load_mid rfl 43 (.tmp 5) rfl bBB 0 rfl B _ BB_4.out.1 Try.underlying43 rfl LB.out.i ?_)
      | (have hq := TK_0; go_at_call 28; refine (cS _).mono ?_; rintro e w1 ⟨rfl, hb⟩; have HB_1 := (show Hid (Below wb.heap.size wb w1) from HB_0.out.trans (hb.mono HB_0.out.size)); have BP_1 := (show Hid (Rp w1 n 0 V) from BP_0.out.below hb); have TK_1 := (show Hid True from trivial); clear hq TK_0 hb HB_0 BP_0)
      | (have hq := TK_1; go_at_call 29; refine (cI _).mono ?_; rintro e w2 ⟨rfl, hb⟩; have HB_2 := (show Hid (Below wb.heap.size wb w2) from HB_1.out.trans (hb.mono HB_1.out.size)); have BP_2 := (show Hid (Rp w2 n 0 V) from BP_1.out.below hb); have TK_2 := (show Hid True from trivial); clear hq TK_1 hb HB_1 BP_1)
      | (have hq := TK_2; go_at_call 30; refine (cB _).mono ?_; rintro e w3 ⟨rfl, hb⟩; have HB_3 := (show Hid (Below wb.heap.size wb w3) from HB_2.out.trans (hb.mono HB_2.out.size)); have BP_3 := (show Hid (Rp w3 n 0 V) from BP_2.out.below hb); have TK_3 := (show Hid True from trivial); clear hq TK_2 hb HB_2 BP_2)
      | (have hq := TK_3; refine wpList_store_mid rfl 43 (.tmp 5) (.tmp 9) rfl w3.heap.size 0 B.toArray rfl rfl (HTH43.out B LB.out w3) LB.out.j LB.out.o ?_; simp only [Act.put]; have hbx := HBN43.out B LB.out w3; obtain ⟨w4, hw4⟩ : ∃ v, (w3.alloc (.cells Z43 43)).setCells w3.heap.size 0 B = v := ⟨_, rfl⟩; rw [hw4] at hbx ⊢; clear hw4; have hb := hbx.2; replace hbx := hbx.1; obtain ⟨bBB, hbBB⟩ : ∃ b, w3.heap.size = b := ⟨_, rfl⟩; rw [hbBB] at hbx ⊢; clear hbBB; have HB_4 := (show Hid (Below wb.heap.size wb w4) from HB_3.out.trans (hb.mono HB_3.out.size)); have BP_4 := (show Hid (Rp w4 n 0 V) from BP_3.out.below hb); have BB_4 := (show Hid (Rp w4 bBB 0 B) from hbx); have TK_4 := (show Hid True from trivial); clear hq TK_3 hb hbx HB_3 BP_3))
    have HQBP := (show Hid _ from BP_4.out.cl)
    have HQBB := (show Hid _ from BB_4.out.cl)
    have hne := Cl.ne w4.heap.size w4
    refine region_cl (N := w4.heap.size) (W := w4) (by kernel_rfl) (by kernel_rfl) (Below.refl _ _) ?_
    go_big_quiet_step (fail)
    go_big_quiet_step (fail)
    go_big_quiet_step (fail)
    go_big_quiet_want
    refine quiet_load 43 _ rfl n 0 rfl V _ HQBP.out Try.underlying43 rfl LV.out.i ?_
    simp only [Act.put, List.setIfInBounds_toArray, List.set_cons_zero, List.set_cons_succ]
    go_big_quiet_on
    go_big_quiet_step ((go_at_call 31; exact cl_of (cJ _) (Nat.le_refl _)))
    go_big_quiet_step (fail)
    go_big_quiet_step (fail)
    go_big_quiet_step (fail)
    go_big_quiet_want
    refine quiet_load 43 _ rfl bBB 0 rfl B _ HQBB.out Try.underlying43 rfl LB.out.i ?_
    simp only [Act.put, List.setIfInBounds_toArray, List.set_cons_zero, List.set_cons_succ]
    go_big_quiet_on
    go_big_quiet_step ((go_at_call 32; exact cl_of (cC _) (Nat.le_refl _)))
    go_big_quiet_step (fail)
    go_big_quiet_step (fail)
    go_big_quiet_step (fail)
    refine wpQuiet_nil ?_
    rintro _ ⟨xq, rfl⟩
    have hb := xq.h
    have HBF := (show Hid (Below wb.heap.size wb xq.u) from HB_4.out.trans (hb.mono HB_4.out.size))
    go_wp2
    go_ret
    exact ⟨rfl, HBW.out.trans (HBF.out.mono HBW.out.size)⟩
end Fd
end Go.Proofs.Ytgdekigdbbldoaa

/- CurveTimes: what both sides reckon; the walk. CurveTimes: what both sides reckon; the walk. -/
import Derived.Test.YtgdekigdbbldoaaG44
import Derived.Test.YtgdekigdbbldoaaG45
namespace Go.Proofs.Ytgdekigdbbldoaa
open Go.RowKit
namespace Fd
open Rg Cv Bx

theorem rt_is (e : Nat) {a : Frac} {P : Pt} (ha : Is a P) (hP : P.on) : ∀ n, Is (Dt.rtR e a n) (ptm e P n)
  | 0 => nought_is
  | n + 1 => by
    have h := rt_is e ha hP n
    have ho := ptm_on e hP n
    unfold Dt.rtR ptm
    split
    · exact addR_is (addR_is h h ho ho) ha (add_on ho ho) hP
    · exact addR_is h h ho ho
/-- The reference's In, its parts told as slices. -/
theorem in_n (x y : Nat) (W : World) (hx : x < 115792089237316195423570985008687907853269984665640564039457584007913129639936) (hy : y < 115792089237316195423570985008687907853269984665640564039457584007913129639936) : Calls Try.prog 39 #[pv x y] W fun e w' => ∃ a1 a2 a3 am1 am2 am3 ac1 ac2 ac3, e = .returned (.agg #[.slice a1 am1 ac1, .slice a2 am2 ac2, .slice a3 am3 ac3]) ∧ Dt.N3 w' a1 a2 a3 am1 am2 am3 ac1 ac2 ac3 (fr1 x y) ∧ Below W.heap.size W w' :=
  (Dt.rin_any x y W hx hy).mono fun e w' ⟨rx, ry, rz, h1, h2, h3⟩ => by
    obtain ⟨d1, dm1, dc1, rfl⟩ := h2.1.sl
    obtain ⟨d2, dm2, dc2, rfl⟩ := h2.2.1.sl
    obtain ⟨d3, dm3, dc3, rfl⟩ := h2.2.2.sl
    exact ⟨_, _, _, _, _, _, _, _, _, h1, h2, h3⟩
set_option maxHeartbeats 8000000 in
set_option maxRecDepth 8000 in
theorem times_off (j k x y : Nat) (lx : x < 115792089237316195423570985008687907853269984665640564039457584007913129639936) (ly : y < 115792089237316195423570985008687907853269984665640564039457584007913129639936) (hon : ¬ OnC x y) (w : World) :
    Calls Try.prog 9 #[bv j, bv k, pv x y] w fun e w' => e = .returned (.bool true) ∧ Below w.heap.size w w' := by
  obtain ⟨n, hn⟩ : ∃ n, w.heap.size = n := ⟨_, rfl⟩
  have HP := someP_on j
  have cP : ∀ W : World, Calls Try.prog 33 #[bv j] W fun e w' => e = .returned (.tuple #[pv (someP j).x.val (someP j).y.val, .bool true]) ∧ Below W.heap.size W w' := some_any j
  have hPC := pt_C HP
  have lpx := big (someP j).x
  have lpy := big (someP j).y
  obtain ⟨PP, hPP⟩ : ∃ f, someP j = f := ⟨_, rfl⟩
  rw [hPP] at cP HP hPC lpx lpy
  have cT : ∀ W : World, Calls Try.prog 41 #[bv k, pv PP.x.val PP.y.val] W fun e w' => e = .returned (.tuple #[pv (ptm k PP 256).x.val (ptm k PP 256).y.val, .nilIface]) ∧ Below W.heap.size W w' := fun W => by
    have h := times_pt k PP.x.val PP.y.val W lpx lpy hPC
    rw [tf_of, tf_of] at h
    exact h
  have iP := fr1_is PP.x.val PP.y.val
  rw [tf_of, tf_of] at iP
  have CIP : Hid (∀ W : World, Calls Try.prog 39 #[pv PP.x.val PP.y.val] W fun e w' => ∃ a1 a2 a3 am1 am2 am3 ac1 ac2 ac3, e = .returned (.agg #[.slice a1 am1 ac1, .slice a2 am2 ac2, .slice a3 am3 ac3]) ∧ Dt.N3 w' a1 a2 a3 am1 am2 am3 ac1 ac2 ac3 (fr1 PP.x.val PP.y.val) ∧ Below W.heap.size W w') := fun W => in_n _ _ W lpx lpy
  have lfP := fr1_lt PP.x.val PP.y.val
  obtain ⟨fP, hfP⟩ : ∃ f, fr1 PP.x.val PP.y.val = f := ⟨_, rfl⟩
  rw [hfP] at CIP iP lfP
  have iT := rt_is k iP HP 256
  obtain ⟨PT, hPT⟩ : ∃ f, ptm k PP 256 = f := ⟨_, rfl⟩
  rw [hPT] at cT iT
  have ltx := big PT.x
  have lty := big PT.y
  have CTP : Hid (∀ (W : World) {p1 p2 p3 : Option Addr} {pm1 pm2 pm3 pc1 pc2 pc3 : Nat} (vd : Value), Rp W (n + 1) 0 (bvc k) → Dt.N3 W p1 p2 p3 pm1 pm2 pm3 pc1 pc2 pc3 fP → Dt.Num W vd factor → Calls Try.prog 42 #[.slice (some ⟨n + 1, 0, none⟩) 32 32, .agg #[.slice p1 pm1 pc1, .slice p2 pm2 pc2, .slice p3 pm3 pc3], vd] W fun e w' => ∃ r1 r2 r3 rm1 rm2 rm3 rc1 rc2 rc3, e = .returned (.agg #[.slice r1 rm1 rc1, .slice r2 rm2 rc2, .slice r3 rm3 rc3]) ∧ Dt.N3 w' r1 r2 r3 rm1 rm2 rm3 rc1 rc2 rc3 (Dt.rtR k fP 256) ∧ Below W.heap.size W w') := @fun W _ _ _ _ _ _ _ _ _ vd h1 h2 h3 => Dt.rtimes_any k (n + 1) fP _ _ _ _ _ _ _ _ _ vd W h1 h2 h3 lfP
  have COP : Hid (∀ (W : World) {p1 p2 p3 : Option Addr} {pm1 pm2 pm3 pc1 pc2 pc3 : Nat}, Dt.N3 W p1 p2 p3 pm1 pm2 pm3 pc1 pc2 pc3 (Dt.rtR k fP 256) → Calls Try.prog 37 #[.agg #[.slice p1 pm1 pc1, .slice p2 pm2 pc2, .slice p3 pm3 pc3]] W fun e w' => e = .returned (pv PT.x.val PT.y.val) ∧ Below W.heap.size W w') := @fun W _ _ _ _ _ _ _ _ _ h => out_pt h.1 h.2.1 h.2.2 (Dt.rtR_lt _ _ _) iT
  obtain ⟨fT, hfT⟩ : ∃ f, Dt.rtR k fP 256 = f := ⟨_, rfl⟩
  rw [hfT] at CTP COP
  have q_T := eq43_same PT.x.val PT.y.val ltx lty
  have cU : ∀ W : World, Calls Try.prog 41 #[bv k, pv x y] W fun e w' => e = .returned (.tuple #[pv 0 0, .iface 35 (.int .i64 29)]) ∧ Below W.heap.size W w' := fun W => times_no k x y W lx ly hon
  have q_0 := eq43_same 0 0 (by decide) (by decide)
  have HBN : Hid (Try.prog.built 43 [] = some (bvc 0 ++ bvc 0).toArray) := build_none
  have e29 : ∀ W : World, (binOp .eql 32 (.iface 35 (.int .i64 29)) (.iface 35 (.int .i64 29))).run Try.prog W = .ok (.bool true) W := fun W => bin_err 29 29 W
  have cJ : ∀ W : World, Calls Try.prog 31 #[pv x y] W fun e w' => e = .returned (.bool false) ∧ Below W.heap.size W w' := fun W => by have h := Dt.ris_any x y W lx ly; rwa [decide_eq_false hon] at h
  have cH := shown7_any
  have en := eq_nil
  have LJ : Hid (L32 (bvc j)) := l32 j
  have LKk : Hid (L32 (bvc k)) := l32 k
  have LR : Hid (L64 (bvc x ++ bvc y)) := l64 x y
  have LP : Hid (L64 (bvc PP.x.val ++ bvc PP.y.val)) := l64 _ _
  have LT : Hid (L64 (bvc PT.x.val ++ bvc PT.y.val)) := l64 _ _
  have LE : Hid (L64 (bvc 0 ++ bvc 0)) := l64 _ _
  unfold pv at cP cT cU cJ CIP COP ⊢
  unfold bv at cP cT cU ⊢
  have HS := (show Hid _ from start3p w (bvc j) (bvc k) (bvc x ++ bvc y))
  obtain ⟨R, hR⟩ : ∃ X, bvc x ++ bvc y = X := ⟨_, rfl⟩
  rw [hR] at cU cJ LR HS ⊢
  obtain ⟨P, hP⟩ : ∃ X, bvc PP.x.val ++ bvc PP.y.val = X := ⟨_, rfl⟩
  rw [hP] at cP cT CIP LP
  obtain ⟨T, hT⟩ : ∃ X, bvc PT.x.val ++ bvc PT.y.val = X := ⟨_, rfl⟩
  rw [hT] at cT COP q_T LT
  obtain ⟨E, hE⟩ : ∃ X, bvc 0 ++ bvc 0 = X := ⟨_, rfl⟩
  rw [hE] at cU q_0 HBN LE
  obtain ⟨J, hJ⟩ : ∃ X, bvc j = X := ⟨_, rfl⟩
  rw [hJ] at cP LJ HS ⊢
  obtain ⟨Kk, hKk⟩ : ∃ X, bvc k = X := ⟨_, rfl⟩
  rw [hKk] at cT cU LKk HS CTP ⊢
  clear hR hP hT hE hJ hKk hPP hPT hfP hfT iP iT lfP lpx lpy ltx lty HP hPC hon lx ly
  have hz43 := zero43
  have HBN43 : Hid _ := box43
  have HTH43 : Hid _ := th43
  obtain ⟨Z43, hZ43⟩ : ∃ Z, z43 = Z := ⟨_, rfl⟩
  rw [hZ43] at hz43 HBN43 HTH43
  clear hZ43
  have HN : Hid (w.heap.size = n) := hn
  obtain ⟨we, hwe⟩ : ∃ v, ((w.alloc (.cells J.toArray 22)).alloc (.cells Kk.toArray 22)).alloc (.cells R.toArray 43) = v := ⟨_, rfl⟩
  have BJ : Hid (Rp we n 0 J) := by have h := HS.out.1; rw [hwe, HN.out] at h; exact h
  have BK : Hid (Rp we (n + 1) 0 Kk) := by have h := HS.out.2.1; rw [hwe, HN.out] at h; exact h
  have BR : Hid (Rp we (n + 2) 0 R) := by have h := HS.out.2.2.1; rw [hwe, HN.out] at h; exact h
  have HBE : Hid (Below w.heap.size w we) := by have h := HS.out.2.2.2; rw [hwe] at h; exact h
  clear HS
  have BJ_0 := BJ
  have BK_0 := BK
  have BR_0 := BR
  have HB_0 := (show Hid (Below we.heap.size we we) from Below.refl _ _)
  have TK_0 := (show Hid True from trivial)
  clear BJ BK BR
  go_enter Try.func9, Try.ntmps9
  go_wp2_with (first
    | (refine wpList_load_mid rfl 22 (.tmp 3) rfl n 0 rfl J _ BJ_0.out.1 Try.underlying22 rfl LJ.out.i ?_)
    | (refine wpList_load_mid rfl 22 (.tmp 4) rfl (n + 1) 0 rfl Kk _ BK_0.out.1 Try.underlying22 rfl LKk.out.i ?_)
    | (refine wpList_load_mid rfl 43 (.tmp 5) rfl (n + 2) 0 rfl R _ BR_0.out.1 Try.underlying43 rfl LR.out.i ?_)
    | (refine wpList_load_mid rfl 22 (.tmp 3) rfl n 0 rfl J _ BJ_1.out.1 Try.underlying22 rfl LJ.out.i ?_)
    | (refine wpList_load_mid rfl 22 (.tmp 4) rfl (n + 1) 0 rfl Kk _ BK_1.out.1 Try.underlying22 rfl LKk.out.i ?_)
    | (refine wpList_load_mid rfl 43 (.tmp 5) rfl (n + 2) 0 rfl R _ BR_1.out.1 Try.underlying43 rfl LR.out.i ?_)
    | (refine wpList_load_mid rfl 22 (.tmp 3) rfl n 0 rfl J _ BJ_2.out.1 Try.underlying22 rfl LJ.out.i ?_)
    | (refine wpList_load_mid rfl 22 (.tmp 4) rfl (n + 1) 0 rfl Kk _ BK_2.out.1 Try.underlying22 rfl LKk.out.i ?_)
    | (refine wpList_load_mid rfl 43 (.tmp 5) rfl (n + 2) 0 rfl R _ BR_2.out.1 Try.underlying43 rfl LR.out.i ?_)
    | (refine wpList_load_mid rfl 22 (.tmp 3) rfl n 0 rfl J _ BJ_3.out.1 Try.underlying22 rfl LJ.out.i ?_)
    | (refine wpList_load_mid rfl 22 (.tmp 4) rfl (n + 1) 0 rfl Kk _ BK_3.out.1 Try.underlying22 rfl LKk.out.i ?_)
    | (refine wpList_load_mid rfl 43 (.tmp 5) rfl (n + 2) 0 rfl R _ BR_3.out.1 Try.underlying43 rfl LR.out.i ?_)
    | (refine wpList_load_mid rfl 43 (.tmp 8) rfl bBP 0 rfl P _ BP_3.out.1 Try.underlying43 rfl LP.out.i ?_)
    | (refine wpList_load_mid rfl 22 (.tmp 3) rfl n 0 rfl J _ BJ_4.out.1 Try.underlying22 rfl LJ.out.i ?_)
    | (refine wpList_load_mid rfl 22 (.tmp 4) rfl (n + 1) 0 rfl Kk _ BK_4.out.1 Try.underlying22 rfl LKk.out.i ?_)
    | (refine wpList_load_mid rfl 43 (.tmp 5) rfl (n + 2) 0 rfl R _ BR_4.out.1 Try.underlying43 rfl LR.out.i ?_)
    | (refine wpList_load_mid rfl 43 (.tmp 8) rfl bBP 0 rfl P _ BP_4.out.1 Try.underlying43 rfl LP.out.i ?_)
    | (refine wpList_load_mid rfl 22 (.tmp 3) rfl n 0 rfl J _ BJ_5.out.1 Try.underlying22 rfl LJ.out.i ?_)
    | (refine wpList_load_mid rfl 22 (.tmp 4) rfl (n + 1) 0 rfl Kk _ BK_5.out.1 Try.underlying22 rfl LKk.out.i ?_)
    | (refine wpList_load_mid rfl 43 (.tmp 5) rfl (n + 2) 0 rfl R _ BR_5.out.1 Try.underlying43 rfl LR.out.i ?_)
    | (refine wpList_load_mid rfl 43 (.tmp 8) rfl bBP 0 rfl P _ BP_5.out.1 Try.underlying43 rfl LP.out.i ?_)
    | (refine wpList_load_mid rfl 43 (.tmp 10) rfl bBT 0 rfl T _ BT_5.out.1 Try.underlying43 rfl LT.out.i ?_)
    | (have hq := TK_0; go_at_call 28; refine (cH _).mono ?_; rintro e w1 ⟨rfl, hb⟩; have HB_1 := (show Hid (Below we.heap.size we w1) from HB_0.out.trans (hb.mono HB_0.out.size)); have BJ_1 := (show Hid (Rp w1 n 0 J) from BJ_0.out.below hb); have BK_1 := (show Hid (Rp w1 (n + 1) 0 Kk) from BK_0.out.below hb); have BR_1 := (show Hid (Rp w1 (n + 2) 0 R) from BR_0.out.below hb); have TK_1 := (show Hid True from trivial); clear hq TK_0 hb HB_0 BJ_0 BK_0 BR_0)
    | (have hq := TK_1; go_at_call 33; refine (cP _).mono ?_; rintro e w2 ⟨rfl, hb⟩; have HB_2 := (show Hid (Below we.heap.size we w2) from HB_1.out.trans (hb.mono HB_1.out.size)); have BJ_2 := (show Hid (Rp w2 n 0 J) from BJ_1.out.below hb); have BK_2 := (show Hid (Rp w2 (n + 1) 0 Kk) from BK_1.out.below hb); have BR_2 := (show Hid (Rp w2 (n + 2) 0 R) from BR_1.out.below hb); have TK_2 := (show Hid True from trivial); clear hq TK_1 hb HB_1 BJ_1 BK_1 BR_1)
    | (have hq := TK_2; refine wpList_store_mid rfl 43 (.tmp 8) (.tmp 19) rfl w2.heap.size 0 P.toArray rfl rfl (HTH43.out P LP.out w2) LP.out.j LP.out.o ?_; simp only; have hbx := HBN43.out P LP.out w2; obtain ⟨w3, hw3⟩ : ∃ v, (w2.alloc (.cells Z43 43)).setCells w2.heap.size 0 P = v := ⟨_, rfl⟩; rw [hw3] at hbx ⊢; clear hw3; have hb := hbx.2; replace hbx := hbx.1; obtain ⟨bBP, hbBP⟩ : ∃ b, w2.heap.size = b := ⟨_, rfl⟩; rw [hbBP] at hbx ⊢; clear hbBP; have HB_3 := (show Hid (Below we.heap.size we w3) from HB_2.out.trans (hb.mono HB_2.out.size)); have BJ_3 := (show Hid (Rp w3 n 0 J) from BJ_2.out.below hb); have BK_3 := (show Hid (Rp w3 (n + 1) 0 Kk) from BK_2.out.below hb); have BR_3 := (show Hid (Rp w3 (n + 2) 0 R) from BR_2.out.below hb); have BP_3 := (show Hid (Rp w3 bBP 0 P) from hbx); have TK_3 := (show Hid True from trivial); clear hq TK_2 hb hbx HB_2 BJ_2 BK_2 BR_2)
    | (have hq := TK_3; go_at_call 41; refine (cT _).mono ?_; rintro e w4 ⟨rfl, hb⟩; have HB_4 := (show Hid (Below we.heap.size we w4) from HB_3.out.trans (hb.mono HB_3.out.size)); have BJ_4 := (show Hid (Rp w4 n 0 J) from BJ_3.out.below hb); have BK_4 := (show Hid (Rp w4 (n + 1) 0 Kk) from BK_3.out.below hb); have BR_4 := (show Hid (Rp w4 (n + 2) 0 R) from BR_3.out.below hb); have BP_4 := (show Hid (Rp w4 bBP 0 P) from BP_3.out.below hb); have TK_4 := (show Hid True from trivial); clear hq TK_3 hb HB_3 BJ_3 BK_3 BR_3 BP_3)
    | (have hq := TK_4; refine wpList_store_mid rfl 43 (.tmp 10) (.tmp 27) rfl w4.heap.size 0 T.toArray rfl rfl (HTH43.out T LT.out w4) LT.out.j LT.out.o ?_; simp only; have hbx := HBN43.out T LT.out w4; obtain ⟨w5, hw5⟩ : ∃ v, (w4.alloc (.cells Z43 43)).setCells w4.heap.size 0 T = v := ⟨_, rfl⟩; rw [hw5] at hbx ⊢; clear hw5; have hb := hbx.2; replace hbx := hbx.1; obtain ⟨bBT, hbBT⟩ : ∃ b, w4.heap.size = b := ⟨_, rfl⟩; rw [hbBT] at hbx ⊢; clear hbBT; have HB_5 := (show Hid (Below we.heap.size we w5) from HB_4.out.trans (hb.mono HB_4.out.size)); have BJ_5 := (show Hid (Rp w5 n 0 J) from BJ_4.out.below hb); have BK_5 := (show Hid (Rp w5 (n + 1) 0 Kk) from BK_4.out.below hb); have BR_5 := (show Hid (Rp w5 (n + 2) 0 R) from BR_4.out.below hb); have BP_5 := (show Hid (Rp w5 bBP 0 P) from BP_4.out.below hb); have BT_5 := (show Hid (Rp w5 bBT 0 T) from hbx); have TK_5 := (show Hid True from trivial); clear hq TK_4 hb hbx HB_4 BJ_4 BK_4 BR_4 BP_4))
  have HBW := (show Hid (Below w.heap.size w w5) from HBE.out.trans (HB_5.out.mono HBE.out.size))
  clear HBE HB_5 hwe
  have BJ := BJ_5
  have BK := BK_5
  have BR := BR_5
  have BP := BP_5
  have BT := BT_5
  clear BJ_5 BK_5 BR_5 BP_5 BT_5
  refine wp_region_held_drew (S := fun w' => Below w5.heap.size w5 w') (by kernel_rfl) (drewB w5) (fun hS => ?_)
  refine wpAnyH_take (i := 0) (v := .nilIface) rfl (by kernel_rfl) (by kernel_rfl) (by kernel_rfl) (fun _ _ _ h => h) (Or.inl ⟨by kernel_rfl, fun wq hS => by go_simp⟩) hS ?_
  try simp only [Act.put, List.setIfInBounds_toArray, List.set_cons_zero, List.set_cons_succ, List.getElem_toArray, List.getElem_cons_zero]
  refine wpAnyH_take (i := 1) (v := .bool false) rfl (by kernel_rfl) (by kernel_rfl) (by kernel_rfl) (fun _ _ _ h => h) (Or.inl ⟨by kernel_rfl, fun wq hS => by go_simp⟩) hS ?_
  try simp only [Act.put, List.setIfInBounds_toArray, List.set_cons_zero, List.set_cons_succ, List.getElem_toArray, List.getElem_cons_succ, List.getElem_cons_zero]
  refine wpAnyH_take (i := 2) (v := .bool false) rfl (by kernel_rfl) (by kernel_rfl) (by kernel_rfl) (fun _ _ _ h => h) (Or.inl ⟨by kernel_rfl, fun wq hS => by go_simp⟩) hS ?_
  try simp only [Act.put, List.setIfInBounds_toArray, List.set_cons_zero, List.set_cons_succ, List.getElem_toArray, List.getElem_cons_succ, List.getElem_cons_zero]
  refine wpAnyH_take (i := 3) (v := .agg T.toArray) rfl (by kernel_rfl) (by kernel_rfl) (by kernel_rfl) (fun _ _ _ h => h) (yieldsIf_load_mid (by kernel_rfl) 43 (.tmp 10) rfl bBT 0 rfl T _ (fun wq hq => Rg.Below.range hq BT.out.1 BT.out.2) Try.underlying43 rfl LT.out.i) hS ?_
  try simp only [Act.put, List.setIfInBounds_toArray, List.set_cons_zero, List.set_cons_succ, List.getElem_toArray, List.getElem_cons_succ, List.getElem_cons_zero]
  refine wpAnyH_take (i := 5) (v := .agg P.toArray) rfl (by kernel_rfl) (by kernel_rfl) (by kernel_rfl) (fun _ _ _ h => h) (yieldsIf_load_mid (by kernel_rfl) 43 (.tmp 8) rfl bBP 0 rfl P _ (fun wq hq => Rg.Below.range hq BP.out.1 BP.out.2) Try.underlying43 rfl LP.out.i) hS ?_
  try simp only [Act.put, List.setIfInBounds_toArray, List.set_cons_zero, List.set_cons_succ, List.getElem_toArray, List.getElem_cons_succ, List.getElem_cons_zero]
  refine wpAnyH_take (i := 4) (v := .slice (some ⟨n + 1, 0, none⟩) 32 32) rfl (by kernel_rfl) (by kernel_rfl) (by kernel_rfl) (fun _ _ _ h => h) (Or.inl ⟨by kernel_rfl, fun wq hS => by go_simp⟩) hS ?_
  try simp only [Act.put, List.setIfInBounds_toArray, List.set_cons_zero, List.set_cons_succ, List.getElem_toArray, List.getElem_cons_succ, List.getElem_cons_zero]
  refine wpAnyH_ready (rs := [6]) (by kernel_rfl) (by simp) ?_
  refine AllReadyH.cons rfl (fun K hK => ?_) AllReadyH.nil
  go_simp
  refine (CIP.out _).mono ?_
  rintro e wh1 ⟨a1, a2, a3, am1, am2, am3, ac1, ac2, ac3, rfl, hn1, hb⟩
  have NIa_1 := (show Hid (Dt.N3 wh1 a1 a2 a3 am1 am2 am3 ac1 ac2 ac3 fP) from hn1)
  have hS2 : Below w5.heap.size w5 wh1 := hS.trans (hb.mono hS.size)
  refine hK.out _ _ hS2 (fun hS => ?_)
  clear hK K hb hS2  hn1
  try simp only [Act.put, List.setIfInBounds_toArray, List.set_cons_zero, List.set_cons_succ, List.getElem_toArray, List.getElem_cons_succ, List.getElem_cons_zero]
  refine wpAnyH_ready (rs := [7]) (by kernel_rfl) (by simp) ?_
  refine AllReadyH.cons rfl (fun K hK => ?_) AllReadyH.nil
  go_simp
  refine (Dt.d_num _).mono ?_
  rintro e wh2 ⟨vd, rfl, hn1, hb⟩
  have NIa_2 := (show Hid (Dt.N3 wh2 a1 a2 a3 am1 am2 am3 ac1 ac2 ac3 fP) from NIa_1.out.below hb)
  have NDa_2 := (show Hid (Dt.Num wh2 vd factor) from hn1)
  have hS2 : Below w5.heap.size w5 wh2 := hS.trans (hb.mono hS.size)
  refine hK.out _ _ hS2 (fun hS => ?_)
  clear hK K hb hS2 NIa_1 hn1
  try simp only [Act.put, List.setIfInBounds_toArray, List.set_cons_zero, List.set_cons_succ, List.getElem_toArray, List.getElem_cons_succ, List.getElem_cons_zero]
  refine wpAnyH_ready (rs := [8]) (by kernel_rfl) (by simp) ?_
  refine AllReadyH.cons rfl (fun K hK => ?_) AllReadyH.nil
  go_simp
  refine (CTP.out _ _ (BK.out.below hS) (NIa_2.out) (NDa_2.out)).mono ?_
  rintro e wh3 ⟨r1, r2, r3, rm1, rm2, rm3, rc1, rc2, rc3, rfl, hn1, hb⟩
  have NIa_3 := (show Hid (Dt.N3 wh3 a1 a2 a3 am1 am2 am3 ac1 ac2 ac3 fP) from NIa_2.out.below hb)
  have NDa_3 := (show Hid (Dt.Num wh3 vd factor) from NDa_2.out.below hb)
  have NRa_3 := (show Hid (Dt.N3 wh3 r1 r2 r3 rm1 rm2 rm3 rc1 rc2 rc3 fT) from hn1)
  have hS2 : Below w5.heap.size w5 wh3 := hS.trans (hb.mono hS.size)
  refine hK.out _ _ hS2 (fun hS => ?_)
  clear hK K hb hS2 NIa_2 NDa_2 hn1
  try simp only [Act.put, List.setIfInBounds_toArray, List.set_cons_zero, List.set_cons_succ, List.getElem_toArray, List.getElem_cons_succ, List.getElem_cons_zero]
  refine wpAnyH_ready (rs := [9]) (by kernel_rfl) (by simp) ?_
  refine AllReadyH.cons rfl (fun K hK => ?_) AllReadyH.nil
  go_simp
  refine (COP.out _ (NRa_3.out)).mono ?_
  rintro e wh4 ⟨rfl, hb⟩
  have NIa_4 := (show Hid (Dt.N3 wh4 a1 a2 a3 am1 am2 am3 ac1 ac2 ac3 fP) from NIa_3.out.below hb)
  have NDa_4 := (show Hid (Dt.Num wh4 vd factor) from NDa_3.out.below hb)
  have NRa_4 := (show Hid (Dt.N3 wh4 r1 r2 r3 rm1 rm2 rm3 rc1 rc2 rc3 fT) from NRa_3.out.below hb)
  have hS2 : Below w5.heap.size w5 wh4 := hS.trans (hb.mono hS.size)
  refine hK.out _ _ hS2 (fun hS => ?_)
  clear hK K hb hS2 NIa_3 NDa_3 NRa_3
  try simp only [Act.put, List.setIfInBounds_toArray, List.set_cons_zero, List.set_cons_succ, List.getElem_toArray, List.getElem_cons_succ, List.getElem_cons_zero]
  refine wpAnyH_take (i := 10) (v := .bool false) rfl (by kernel_rfl) (by kernel_rfl) (by kernel_rfl) (fun _ _ _ h => h) (Or.inl ⟨by kernel_rfl, fun wq hS => by go_simp⟩) hS ?_
  try simp only [Act.put, List.setIfInBounds_toArray, List.set_cons_zero, List.set_cons_succ, List.getElem_toArray, List.getElem_cons_succ, List.getElem_cons_zero]
  refine wpAnyH_take (i := 11) (v := .bool false) rfl (by kernel_rfl) (by kernel_rfl) (by kernel_rfl) (fun _ _ _ h => h) (Or.inl ⟨by kernel_rfl, fun wq hS => by go_simp⟩) hS ?_
  try simp only [Act.put, List.setIfInBounds_toArray, List.set_cons_zero, List.set_cons_succ, List.getElem_toArray, List.getElem_cons_succ, List.getElem_cons_zero]
  refine wpAnyH_done (by kernel_rfl) ?_ _
  have HBF := (show Hid _ from HBW.out.trans (hS.mono HBW.out.size))
  have BKq := (show Hid (Rp wh4 (n + 1) 0 Kk) from BK.out.below hS)
  have BRq := (show Hid (Rp wh4 (n + 2) 0 R) from BR.out.below hS)
  clear BJ BK BR BP BT NIa_4 NDa_4 NRa_4 hS HBW
  have BKq_z0 := BKq
  have BRq_z0 := BRq
  have HB_z0 := (show Hid (Below wh4.heap.size wh4 wh4) from Below.refl _ _)
  have TK_z0 := (show Hid True from trivial)
  clear BKq BRq
  go_wp2_with (first
    | (refine wpList_load_mid rfl 22 (.tmp 4) rfl (n + 1) 0 rfl Kk _ BKq_z0.out.1 Try.underlying22 rfl LKk.out.i ?_)
    | (refine wpList_load_mid rfl 43 (.tmp 5) rfl (n + 2) 0 rfl R _ BRq_z0.out.1 Try.underlying43 rfl LR.out.i ?_)
    | (refine wpList_load_mid rfl 22 (.tmp 4) rfl (n + 1) 0 rfl Kk _ BKq_z1.out.1 Try.underlying22 rfl LKk.out.i ?_)
    | (refine wpList_load_mid rfl 43 (.tmp 5) rfl (n + 2) 0 rfl R _ BRq_z1.out.1 Try.underlying43 rfl LR.out.i ?_)
    | (refine wpList_load_mid rfl 22 (.tmp 4) rfl (n + 1) 0 rfl Kk _ BKq_z2.out.1 Try.underlying22 rfl LKk.out.i ?_)
    | (refine wpList_load_mid rfl 43 (.tmp 5) rfl (n + 2) 0 rfl R _ BRq_z2.out.1 Try.underlying43 rfl LR.out.i ?_)
    | (refine wpList_load_mid rfl 22 (.tmp 4) rfl (n + 1) 0 rfl Kk _ BKq_z3.out.1 Try.underlying22 rfl LKk.out.i ?_)
    | (refine wpList_load_mid rfl 43 (.tmp 5) rfl (n + 2) 0 rfl R _ BRq_z3.out.1 Try.underlying43 rfl LR.out.i ?_)
    | (refine wpList_load_mid rfl 43 (.tmp 13) rfl bBU 0 rfl E _ BU_z3.out.1 Try.underlying43 rfl LE.out.i ?_)
    | (refine wpList_loadw (by rfl) 43 (.tmp 13) rfl bBU 0 rfl E _ BU_z3.out.1 Try.underlying43 rfl LE.out.i ?_)
    | (have hq := TK_z0; go_at_call 31; refine (cJ _).mono ?_; rintro e zw1 ⟨rfl, hb⟩; have HB_z1 := (show Hid (Below wh4.heap.size wh4 zw1) from HB_z0.out.trans (hb.mono HB_z0.out.size)); have BKq_z1 := (show Hid (Rp zw1 (n + 1) 0 Kk) from BKq_z0.out.below hb); have BRq_z1 := (show Hid (Rp zw1 (n + 2) 0 R) from BRq_z0.out.below hb); have TK_z1 := (show Hid True from trivial); clear hq TK_z0 hb HB_z0 BKq_z0 BRq_z0)
    | (have hq := TK_z1; go_at_call 41; refine (cU _).mono ?_; rintro e zw2 ⟨rfl, hb⟩; have HB_z2 := (show Hid (Below wh4.heap.size wh4 zw2) from HB_z1.out.trans (hb.mono HB_z1.out.size)); have BKq_z2 := (show Hid (Rp zw2 (n + 1) 0 Kk) from BKq_z1.out.below hb); have BRq_z2 := (show Hid (Rp zw2 (n + 2) 0 R) from BRq_z1.out.below hb); have TK_z2 := (show Hid True from trivial); clear hq TK_z1 hb HB_z1 BKq_z1 BRq_z1)
    | (have hq := TK_z2; refine wpList_store_mid rfl 43 (.tmp 13) (.tmp 47) rfl zw2.heap.size 0 E.toArray rfl rfl (HTH43.out E LE.out zw2) LE.out.j LE.out.o ?_; simp only; have hbx := HBN43.out E LE.out zw2; obtain ⟨zw3, hzw3⟩ : ∃ v, (zw2.alloc (.cells Z43 43)).setCells zw2.heap.size 0 E = v := ⟨_, rfl⟩; rw [hzw3] at hbx ⊢; clear hzw3; have hb := hbx.2; replace hbx := hbx.1; obtain ⟨bBU, hbBU⟩ : ∃ b, zw2.heap.size = b := ⟨_, rfl⟩; rw [hbBU] at hbx ⊢; clear hbBU; have HB_z3 := (show Hid (Below wh4.heap.size wh4 zw3) from HB_z2.out.trans (hb.mono HB_z2.out.size)); have BKq_z3 := (show Hid (Rp zw3 (n + 1) 0 Kk) from BKq_z2.out.below hb); have BRq_z3 := (show Hid (Rp zw3 (n + 2) 0 R) from BRq_z2.out.below hb); have BU_z3 := (show Hid (Rp zw3 bBU 0 E) from hbx); have TK_z3 := (show Hid True from trivial); clear hq TK_z2 hb hbx HB_z2 BKq_z2 BRq_z2)
    | (refine build_tow (by rfl) 43 _ rfl [] (by kernel_rfl) E HBN.out ?_; simp only [Act.put, List.setIfInBounds_toArray, List.set_cons_zero, List.set_cons_succ]))
  go_ret
  exact ⟨rfl, HBF.out.trans (HB_z3.out.mono HBF.out.size)⟩
end Fd
end Go.Proofs.Ytgdekigdbbldoaa

namespace Go.Proofs.Ytgdekigdbbldoaa
open Go.RowKit
namespace Fd
open Rg Cv Bx

set_option maxHeartbeats 8000000 in
set_option maxRecDepth 8000 in
theorem times_on (j k x y : Nat) (lx : x < 115792089237316195423570985008687907853269984665640564039457584007913129639936) (ly : y < 115792089237316195423570985008687907853269984665640564039457584007913129639936) (hon : OnC x y) (w : World) :
    Calls Try.prog 9 #[bv j, bv k, pv x y] w fun e w' => e = .returned (.bool true) ∧ Below w.heap.size w w' := by
  obtain ⟨n, hn⟩ : ∃ n, w.heap.size = n := ⟨_, rfl⟩
  have HP := someP_on j
  have cP : ∀ W : World, Calls Try.prog 33 #[bv j] W fun e w' => e = .returned (.tuple #[pv (someP j).x.val (someP j).y.val, .bool true]) ∧ Below W.heap.size W w' := some_any j
  have hPC := pt_C HP
  have lpx := big (someP j).x
  have lpy := big (someP j).y
  obtain ⟨PP, hPP⟩ : ∃ f, someP j = f := ⟨_, rfl⟩
  rw [hPP] at cP HP hPC lpx lpy
  have cT : ∀ W : World, Calls Try.prog 41 #[bv k, pv PP.x.val PP.y.val] W fun e w' => e = .returned (.tuple #[pv (ptm k PP 256).x.val (ptm k PP 256).y.val, .nilIface]) ∧ Below W.heap.size W w' := fun W => by
    have h := times_pt k PP.x.val PP.y.val W lpx lpy hPC
    rw [tf_of, tf_of] at h
    exact h
  have iP := fr1_is PP.x.val PP.y.val
  rw [tf_of, tf_of] at iP
  have CIP : Hid (∀ W : World, Calls Try.prog 39 #[pv PP.x.val PP.y.val] W fun e w' => ∃ a1 a2 a3 am1 am2 am3 ac1 ac2 ac3, e = .returned (.agg #[.slice a1 am1 ac1, .slice a2 am2 ac2, .slice a3 am3 ac3]) ∧ Dt.N3 w' a1 a2 a3 am1 am2 am3 ac1 ac2 ac3 (fr1 PP.x.val PP.y.val) ∧ Below W.heap.size W w') := fun W => in_n _ _ W lpx lpy
  have lfP := fr1_lt PP.x.val PP.y.val
  obtain ⟨fP, hfP⟩ : ∃ f, fr1 PP.x.val PP.y.val = f := ⟨_, rfl⟩
  rw [hfP] at CIP iP lfP
  have iT := rt_is k iP HP 256
  obtain ⟨PT, hPT⟩ : ∃ f, ptm k PP 256 = f := ⟨_, rfl⟩
  rw [hPT] at cT iT
  have ltx := big PT.x
  have lty := big PT.y
  have CTP : Hid (∀ (W : World) {p1 p2 p3 : Option Addr} {pm1 pm2 pm3 pc1 pc2 pc3 : Nat} (vd : Value), Rp W (n + 1) 0 (bvc k) → Dt.N3 W p1 p2 p3 pm1 pm2 pm3 pc1 pc2 pc3 fP → Dt.Num W vd factor → Calls Try.prog 42 #[.slice (some ⟨n + 1, 0, none⟩) 32 32, .agg #[.slice p1 pm1 pc1, .slice p2 pm2 pc2, .slice p3 pm3 pc3], vd] W fun e w' => ∃ r1 r2 r3 rm1 rm2 rm3 rc1 rc2 rc3, e = .returned (.agg #[.slice r1 rm1 rc1, .slice r2 rm2 rc2, .slice r3 rm3 rc3]) ∧ Dt.N3 w' r1 r2 r3 rm1 rm2 rm3 rc1 rc2 rc3 (Dt.rtR k fP 256) ∧ Below W.heap.size W w') := @fun W _ _ _ _ _ _ _ _ _ vd h1 h2 h3 => Dt.rtimes_any k (n + 1) fP _ _ _ _ _ _ _ _ _ vd W h1 h2 h3 lfP
  have COP : Hid (∀ (W : World) {p1 p2 p3 : Option Addr} {pm1 pm2 pm3 pc1 pc2 pc3 : Nat}, Dt.N3 W p1 p2 p3 pm1 pm2 pm3 pc1 pc2 pc3 (Dt.rtR k fP 256) → Calls Try.prog 37 #[.agg #[.slice p1 pm1 pc1, .slice p2 pm2 pc2, .slice p3 pm3 pc3]] W fun e w' => e = .returned (pv PT.x.val PT.y.val) ∧ Below W.heap.size W w') := @fun W _ _ _ _ _ _ _ _ _ h => out_pt h.1 h.2.1 h.2.2 (Dt.rtR_lt _ _ _) iT
  obtain ⟨fT, hfT⟩ : ∃ f, Dt.rtR k fP 256 = f := ⟨_, rfl⟩
  rw [hfT] at CTP COP
  have q_T := eq43_same PT.x.val PT.y.val ltx lty
  have hRon := (onC_on x y).1 hon
  have iR := fr1_is x y
  have lfR := fr1_lt x y
  have CIR : Hid (∀ W : World, Calls Try.prog 39 #[pv x y] W fun e w' => ∃ a1 a2 a3 am1 am2 am3 ac1 ac2 ac3, e = .returned (.agg #[.slice a1 am1 ac1, .slice a2 am2 ac2, .slice a3 am3 ac3]) ∧ Dt.N3 w' a1 a2 a3 am1 am2 am3 ac1 ac2 ac3 (fr1 x y) ∧ Below W.heap.size W w') := fun W => in_n _ _ W lx ly
  have cU : ∀ W : World, Calls Try.prog 41 #[bv k, pv x y] W fun e w' => e = .returned (.tuple #[pv (ptm k ⟨tf x, tf y⟩ 256).x.val (ptm k ⟨tf x, tf y⟩ 256).y.val, .nilIface]) ∧ Below W.heap.size W w' := fun W => times_pt k x y W lx ly hon
  obtain ⟨fR, hfR⟩ : ∃ f, fr1 x y = f := ⟨_, rfl⟩
  rw [hfR] at CIR iR lfR
  have iU := rt_is k iR hRon 256
  obtain ⟨PU, hPU⟩ : ∃ f, ptm k ⟨tf x, tf y⟩ 256 = f := ⟨_, rfl⟩
  rw [hPU] at cU iU
  have lux := big PU.x
  have luy := big PU.y
  have CTR : Hid (∀ (W : World) {p1 p2 p3 : Option Addr} {pm1 pm2 pm3 pc1 pc2 pc3 : Nat} (vd : Value), Rp W (n + 1) 0 (bvc k) → Dt.N3 W p1 p2 p3 pm1 pm2 pm3 pc1 pc2 pc3 fR → Dt.Num W vd factor → Calls Try.prog 42 #[.slice (some ⟨n + 1, 0, none⟩) 32 32, .agg #[.slice p1 pm1 pc1, .slice p2 pm2 pc2, .slice p3 pm3 pc3], vd] W fun e w' => ∃ r1 r2 r3 rm1 rm2 rm3 rc1 rc2 rc3, e = .returned (.agg #[.slice r1 rm1 rc1, .slice r2 rm2 rc2, .slice r3 rm3 rc3]) ∧ Dt.N3 w' r1 r2 r3 rm1 rm2 rm3 rc1 rc2 rc3 (Dt.rtR k fR 256) ∧ Below W.heap.size W w') := @fun W _ _ _ _ _ _ _ _ _ vd h1 h2 h3 => Dt.rtimes_any k (n + 1) fR _ _ _ _ _ _ _ _ _ vd W h1 h2 h3 lfR
  have COR : Hid (∀ (W : World) {p1 p2 p3 : Option Addr} {pm1 pm2 pm3 pc1 pc2 pc3 : Nat}, Dt.N3 W p1 p2 p3 pm1 pm2 pm3 pc1 pc2 pc3 (Dt.rtR k fR 256) → Calls Try.prog 37 #[.agg #[.slice p1 pm1 pc1, .slice p2 pm2 pc2, .slice p3 pm3 pc3]] W fun e w' => e = .returned (pv PU.x.val PU.y.val) ∧ Below W.heap.size W w') := @fun W _ _ _ _ _ _ _ _ _ h => out_pt h.1 h.2.1 h.2.2 (Dt.rtR_lt _ _ _) iU
  obtain ⟨fU, hfU⟩ : ∃ f, Dt.rtR k fR 256 = f := ⟨_, rfl⟩
  rw [hfU] at CTR COR
  have q_U := eq43_same PU.x.val PU.y.val lux luy
  have cJ : ∀ W : World, Calls Try.prog 31 #[pv x y] W fun e w' => e = .returned (.bool true) ∧ Below W.heap.size W w' := fun W => by have h := Dt.ris_any x y W lx ly; rwa [decide_eq_true hon] at h
  have cH := shown7_any
  have en := eq_nil
  have LJ : Hid (L32 (bvc j)) := l32 j
  have LKk : Hid (L32 (bvc k)) := l32 k
  have LR : Hid (L64 (bvc x ++ bvc y)) := l64 x y
  have LP : Hid (L64 (bvc PP.x.val ++ bvc PP.y.val)) := l64 _ _
  have LT : Hid (L64 (bvc PT.x.val ++ bvc PT.y.val)) := l64 _ _
  have LU : Hid (L64 (bvc PU.x.val ++ bvc PU.y.val)) := l64 _ _
  unfold pv at cP cT cU cJ CIP COP CIR COR ⊢
  unfold bv at cP cT cU ⊢
  have HS := (show Hid _ from start3p w (bvc j) (bvc k) (bvc x ++ bvc y))
  obtain ⟨R, hR⟩ : ∃ X, bvc x ++ bvc y = X := ⟨_, rfl⟩
  rw [hR] at cU cJ LR HS CIR ⊢
  obtain ⟨P, hP⟩ : ∃ X, bvc PP.x.val ++ bvc PP.y.val = X := ⟨_, rfl⟩
  rw [hP] at cP cT CIP LP
  obtain ⟨T, hT⟩ : ∃ X, bvc PT.x.val ++ bvc PT.y.val = X := ⟨_, rfl⟩
  rw [hT] at cT COP q_T LT
  obtain ⟨U, hU⟩ : ∃ X, bvc PU.x.val ++ bvc PU.y.val = X := ⟨_, rfl⟩
  rw [hU] at cU COR q_U LU
  obtain ⟨J, hJ⟩ : ∃ X, bvc j = X := ⟨_, rfl⟩
  rw [hJ] at cP LJ HS ⊢
  obtain ⟨Kk, hKk⟩ : ∃ X, bvc k = X := ⟨_, rfl⟩
  rw [hKk] at cT cU LKk HS CTP CTR ⊢
  clear hR hP hT hU hJ hKk hPP hPT hfP hfT iP iT lfP lpx lpy ltx lty HP hPC hon lx ly hRon iR lfR hfR iU hPU lux luy hfU
  have hz43 := zero43
  have HBN43 : Hid _ := box43
  have HTH43 : Hid _ := th43
  obtain ⟨Z43, hZ43⟩ : ∃ Z, z43 = Z := ⟨_, rfl⟩
  rw [hZ43] at hz43 HBN43 HTH43
  clear hZ43
  have HN : Hid (w.heap.size = n) := hn
  obtain ⟨we, hwe⟩ : ∃ v, ((w.alloc (.cells J.toArray 22)).alloc (.cells Kk.toArray 22)).alloc (.cells R.toArray 43) = v := ⟨_, rfl⟩
  have BJ : Hid (Rp we n 0 J) := by have h := HS.out.1; rw [hwe, HN.out] at h; exact h
  have BK : Hid (Rp we (n + 1) 0 Kk) := by have h := HS.out.2.1; rw [hwe, HN.out] at h; exact h
  have BR : Hid (Rp we (n + 2) 0 R) := by have h := HS.out.2.2.1; rw [hwe, HN.out] at h; exact h
  have HBE : Hid (Below w.heap.size w we) := by have h := HS.out.2.2.2; rw [hwe] at h; exact h
  clear HS
  have BJ_0 := BJ
  have BK_0 := BK
  have BR_0 := BR
  have HB_0 := (show Hid (Below we.heap.size we we) from Below.refl _ _)
  have TK_0 := (show Hid True from trivial)
  clear BJ BK BR
  go_enter Try.func9, Try.ntmps9
  go_wp2_with (first
    | (refine wpList_load_mid rfl 22 (.tmp 3) rfl n 0 rfl J _ BJ_0.out.1 Try.underlying22 rfl LJ.out.i ?_)
    | (refine wpList_load_mid rfl 22 (.tmp 4) rfl (n + 1) 0 rfl Kk _ BK_0.out.1 Try.underlying22 rfl LKk.out.i ?_)
    | (refine wpList_load_mid rfl 43 (.tmp 5) rfl (n + 2) 0 rfl R _ BR_0.out.1 Try.underlying43 rfl LR.out.i ?_)
    | (refine wpList_load_mid rfl 22 (.tmp 3) rfl n 0 rfl J _ BJ_1.out.1 Try.underlying22 rfl LJ.out.i ?_)
    | (refine wpList_load_mid rfl 22 (.tmp 4) rfl (n + 1) 0 rfl Kk _ BK_1.out.1 Try.underlying22 rfl LKk.out.i ?_)
    | (refine wpList_load_mid rfl 43 (.tmp 5) rfl (n + 2) 0 rfl R _ BR_1.out.1 Try.underlying43 rfl LR.out.i ?_)
    | (refine wpList_load_mid rfl 22 (.tmp 3) rfl n 0 rfl J _ BJ_2.out.1 Try.underlying22 rfl LJ.out.i ?_)
    | (refine wpList_load_mid rfl 22 (.tmp 4) rfl (n + 1) 0 rfl Kk _ BK_2.out.1 Try.underlying22 rfl LKk.out.i ?_)
    | (refine wpList_load_mid rfl 43 (.tmp 5) rfl (n + 2) 0 rfl R _ BR_2.out.1 Try.underlying43 rfl LR.out.i ?_)
    | (refine wpList_load_mid rfl 22 (.tmp 3) rfl n 0 rfl J _ BJ_3.out.1 Try.underlying22 rfl LJ.out.i ?_)
    | (refine wpList_load_mid rfl 22 (.tmp 4) rfl (n + 1) 0 rfl Kk _ BK_3.out.1 Try.underlying22 rfl LKk.out.i ?_)
    | (refine wpList_load_mid rfl 43 (.tmp 5) rfl (n + 2) 0 rfl R _ BR_3.out.1 Try.underlying43 rfl LR.out.i ?_)
    | (refine wpList_load_mid rfl 43 (.tmp 8) rfl bBP 0 rfl P _ BP_3.out.1 Try.underlying43 rfl LP.out.i ?_)
    | (refine wpList_load_mid rfl 22 (.tmp 3) rfl n 0 rfl J _ BJ_4.out.1 Try.underlying22 rfl LJ.out.i ?_)
    | (refine wpList_load_mid rfl 22 (.tmp 4) rfl (n + 1) 0 rfl Kk _ BK_4.out.1 Try.underlying22 rfl LKk.out.i ?_)
    | (refine wpList_load_mid rfl 43 (.tmp 5) rfl (n + 2) 0 rfl R _ BR_4.out.1 Try.underlying43 rfl LR.out.i ?_)
    | (refine wpList_load_mid rfl 43 (.tmp 8) rfl bBP 0 rfl P _ BP_4.out.1 Try.underlying43 rfl LP.out.i ?_)
    | (refine wpList_load_mid rfl 22 (.tmp 3) rfl n 0 rfl J _ BJ_5.out.1 Try.underlying22 rfl LJ.out.i ?_)
    | (refine wpList_load_mid rfl 22 (.tmp 4) rfl (n + 1) 0 rfl Kk _ BK_5.out.1 Try.underlying22 rfl LKk.out.i ?_)
    | (refine wpList_load_mid rfl 43 (.tmp 5) rfl (n + 2) 0 rfl R _ BR_5.out.1 Try.underlying43 rfl LR.out.i ?_)
    | (refine wpList_load_mid rfl 43 (.tmp 8) rfl bBP 0 rfl P _ BP_5.out.1 Try.underlying43 rfl LP.out.i ?_)
    | (refine wpList_load_mid rfl 43 (.tmp 10) rfl bBT 0 rfl T _ BT_5.out.1 Try.underlying43 rfl LT.out.i ?_)
    | (have hq := TK_0; go_at_call 28; refine (cH _).mono ?_; rintro e w1 ⟨rfl, hb⟩; have HB_1 := (show Hid (Below we.heap.size we w1) from HB_0.out.trans (hb.mono HB_0.out.size)); have BJ_1 := (show Hid (Rp w1 n 0 J) from BJ_0.out.below hb); have BK_1 := (show Hid (Rp w1 (n + 1) 0 Kk) from BK_0.out.below hb); have BR_1 := (show Hid (Rp w1 (n + 2) 0 R) from BR_0.out.below hb); have TK_1 := (show Hid True from trivial); clear hq TK_0 hb HB_0 BJ_0 BK_0 BR_0)
    | (have hq := TK_1; go_at_call 33; refine (cP _).mono ?_; rintro e w2 ⟨rfl, hb⟩; have HB_2 := (show Hid (Below we.heap.size we w2) from HB_1.out.trans (hb.mono HB_1.out.size)); have BJ_2 := (show Hid (Rp w2 n 0 J) from BJ_1.out.below hb); have BK_2 := (show Hid (Rp w2 (n + 1) 0 Kk) from BK_1.out.below hb); have BR_2 := (show Hid (Rp w2 (n + 2) 0 R) from BR_1.out.below hb); have TK_2 := (show Hid True from trivial); clear hq TK_1 hb HB_1 BJ_1 BK_1 BR_1)
    | (have hq := TK_2; refine wpList_store_mid rfl 43 (.tmp 8) (.tmp 19) rfl w2.heap.size 0 P.toArray rfl rfl (HTH43.out P LP.out w2) LP.out.j LP.out.o ?_; simp only; have hbx := HBN43.out P LP.out w2; obtain ⟨w3, hw3⟩ : ∃ v, (w2.alloc (.cells Z43 43)).setCells w2.heap.size 0 P = v := ⟨_, rfl⟩; rw [hw3] at hbx ⊢; clear hw3; have hb := hbx.2; replace hbx := hbx.1; obtain ⟨bBP, hbBP⟩ : ∃ b, w2.heap.size = b := ⟨_, rfl⟩; rw [hbBP] at hbx ⊢; clear hbBP; have HB_3 := (show Hid (Below we.heap.size we w3) from HB_2.out.trans (hb.mono HB_2.out.size)); have BJ_3 := (show Hid (Rp w3 n 0 J) from BJ_2.out.below hb); have BK_3 := (show Hid (Rp w3 (n + 1) 0 Kk) from BK_2.out.below hb); have BR_3 := (show Hid (Rp w3 (n + 2) 0 R) from BR_2.out.below hb); have BP_3 := (show Hid (Rp w3 bBP 0 P) from hbx); have TK_3 := (show Hid True from trivial); clear hq TK_2 hb hbx HB_2 BJ_2 BK_2 BR_2)
    | (have hq := TK_3; go_at_call 41; refine (cT _).mono ?_; rintro e w4 ⟨rfl, hb⟩; have HB_4 := (show Hid (Below we.heap.size we w4) from HB_3.out.trans (hb.mono HB_3.out.size)); have BJ_4 := (show Hid (Rp w4 n 0 J) from BJ_3.out.below hb); have BK_4 := (show Hid (Rp w4 (n + 1) 0 Kk) from BK_3.out.below hb); have BR_4 := (show Hid (Rp w4 (n + 2) 0 R) from BR_3.out.below hb); have BP_4 := (show Hid (Rp w4 bBP 0 P) from BP_3.out.below hb); have TK_4 := (show Hid True from trivial); clear hq TK_3 hb HB_3 BJ_3 BK_3 BR_3 BP_3)
    | (have hq := TK_4; refine wpList_store_mid rfl 43 (.tmp 10) (.tmp 27) rfl w4.heap.size 0 T.toArray rfl rfl (HTH43.out T LT.out w4) LT.out.j LT.out.o ?_; simp only; have hbx := HBN43.out T LT.out w4; obtain ⟨w5, hw5⟩ : ∃ v, (w4.alloc (.cells Z43 43)).setCells w4.heap.size 0 T = v := ⟨_, rfl⟩; rw [hw5] at hbx ⊢; clear hw5; have hb := hbx.2; replace hbx := hbx.1; obtain ⟨bBT, hbBT⟩ : ∃ b, w4.heap.size = b := ⟨_, rfl⟩; rw [hbBT] at hbx ⊢; clear hbBT; have HB_5 := (show Hid (Below we.heap.size we w5) from HB_4.out.trans (hb.mono HB_4.out.size)); have BJ_5 := (show Hid (Rp w5 n 0 J) from BJ_4.out.below hb); have BK_5 := (show Hid (Rp w5 (n + 1) 0 Kk) from BK_4.out.below hb); have BR_5 := (show Hid (Rp w5 (n + 2) 0 R) from BR_4.out.below hb); have BP_5 := (show Hid (Rp w5 bBP 0 P) from BP_4.out.below hb); have BT_5 := (show Hid (Rp w5 bBT 0 T) from hbx); have TK_5 := (show Hid True from trivial); clear hq TK_4 hb hbx HB_4 BJ_4 BK_4 BR_4 BP_4))
  have HBW := (show Hid (Below w.heap.size w w5) from HBE.out.trans (HB_5.out.mono HBE.out.size))
  clear HBE HB_5 hwe
  have BJ := BJ_5
  have BK := BK_5
  have BR := BR_5
  have BP := BP_5
  have BT := BT_5
  clear BJ_5 BK_5 BR_5 BP_5 BT_5
  refine wp_region_held_drew (S := fun w' => Below w5.heap.size w5 w') (by kernel_rfl) (drewB w5) (fun hS => ?_)
  refine wpAnyH_take (i := 0) (v := .nilIface) rfl (by kernel_rfl) (by kernel_rfl) (by kernel_rfl) (fun _ _ _ h => h) (Or.inl ⟨by kernel_rfl, fun wq hS => by go_simp⟩) hS ?_
  try simp only [Act.put, List.setIfInBounds_toArray, List.set_cons_zero, List.set_cons_succ, List.getElem_toArray, List.getElem_cons_zero]
  refine wpAnyH_take (i := 1) (v := .bool false) rfl (by kernel_rfl) (by kernel_rfl) (by kernel_rfl) (fun _ _ _ h => h) (Or.inl ⟨by kernel_rfl, fun wq hS => by go_simp⟩) hS ?_
  try simp only [Act.put, List.setIfInBounds_toArray, List.set_cons_zero, List.set_cons_succ, List.getElem_toArray, List.getElem_cons_succ, List.getElem_cons_zero]
  refine wpAnyH_take (i := 2) (v := .bool false) rfl (by kernel_rfl) (by kernel_rfl) (by kernel_rfl) (fun _ _ _ h => h) (Or.inl ⟨by kernel_rfl, fun wq hS => by go_simp⟩) hS ?_
  try simp only [Act.put, List.setIfInBounds_toArray, List.set_cons_zero, List.set_cons_succ, List.getElem_toArray, List.getElem_cons_succ, List.getElem_cons_zero]
  refine wpAnyH_take (i := 3) (v := .agg T.toArray) rfl (by kernel_rfl) (by kernel_rfl) (by kernel_rfl) (fun _ _ _ h => h) (yieldsIf_load_mid (by kernel_rfl) 43 (.tmp 10) rfl bBT 0 rfl T _ (fun wq hq => Rg.Below.range hq BT.out.1 BT.out.2) Try.underlying43 rfl LT.out.i) hS ?_
  try simp only [Act.put, List.setIfInBounds_toArray, List.set_cons_zero, List.set_cons_succ, List.getElem_toArray, List.getElem_cons_succ, List.getElem_cons_zero]
  refine wpAnyH_take (i := 5) (v := .agg P.toArray) rfl (by kernel_rfl) (by kernel_rfl) (by kernel_rfl) (fun _ _ _ h => h) (yieldsIf_load_mid (by kernel_rfl) 43 (.tmp 8) rfl bBP 0 rfl P _ (fun wq hq => Rg.Below.range hq BP.out.1 BP.out.2) Try.underlying43 rfl LP.out.i) hS ?_
  try simp only [Act.put, List.setIfInBounds_toArray, List.set_cons_zero, List.set_cons_succ, List.getElem_toArray, List.getElem_cons_succ, List.getElem_cons_zero]
  refine wpAnyH_take (i := 4) (v := .slice (some ⟨n + 1, 0, none⟩) 32 32) rfl (by kernel_rfl) (by kernel_rfl) (by kernel_rfl) (fun _ _ _ h => h) (Or.inl ⟨by kernel_rfl, fun wq hS => by go_simp⟩) hS ?_
  try simp only [Act.put, List.setIfInBounds_toArray, List.set_cons_zero, List.set_cons_succ, List.getElem_toArray, List.getElem_cons_succ, List.getElem_cons_zero]
  refine wpAnyH_ready (rs := [6]) (by kernel_rfl) (by simp) ?_
  refine AllReadyH.cons rfl (fun K hK => ?_) AllReadyH.nil
  go_simp
  refine (CIP.out _).mono ?_
  rintro e wh1 ⟨a1, a2, a3, am1, am2, am3, ac1, ac2, ac3, rfl, hn1, hb⟩
  have NIa_1 := (show Hid (Dt.N3 wh1 a1 a2 a3 am1 am2 am3 ac1 ac2 ac3 fP) from hn1)
  have hS2 : Below w5.heap.size w5 wh1 := hS.trans (hb.mono hS.size)
  refine hK.out _ _ hS2 (fun hS => ?_)
  clear hK K hb hS2  hn1
  try simp only [Act.put, List.setIfInBounds_toArray, List.set_cons_zero, List.set_cons_succ, List.getElem_toArray, List.getElem_cons_succ, List.getElem_cons_zero]
  refine wpAnyH_ready (rs := [7]) (by kernel_rfl) (by simp) ?_
  refine AllReadyH.cons rfl (fun K hK => ?_) AllReadyH.nil
  go_simp
  refine (Dt.d_num _).mono ?_
  rintro e wh2 ⟨vd, rfl, hn1, hb⟩
  have NIa_2 := (show Hid (Dt.N3 wh2 a1 a2 a3 am1 am2 am3 ac1 ac2 ac3 fP) from NIa_1.out.below hb)
  have NDa_2 := (show Hid (Dt.Num wh2 vd factor) from hn1)
  have hS2 : Below w5.heap.size w5 wh2 := hS.trans (hb.mono hS.size)
  refine hK.out _ _ hS2 (fun hS => ?_)
  clear hK K hb hS2 NIa_1 hn1
  try simp only [Act.put, List.setIfInBounds_toArray, List.set_cons_zero, List.set_cons_succ, List.getElem_toArray, List.getElem_cons_succ, List.getElem_cons_zero]
  refine wpAnyH_ready (rs := [8]) (by kernel_rfl) (by simp) ?_
  refine AllReadyH.cons rfl (fun K hK => ?_) AllReadyH.nil
  go_simp
  refine (CTP.out _ _ (BK.out.below hS) (NIa_2.out) (NDa_2.out)).mono ?_
  rintro e wh3 ⟨r1, r2, r3, rm1, rm2, rm3, rc1, rc2, rc3, rfl, hn1, hb⟩
  have NIa_3 := (show Hid (Dt.N3 wh3 a1 a2 a3 am1 am2 am3 ac1 ac2 ac3 fP) from NIa_2.out.below hb)
  have NDa_3 := (show Hid (Dt.Num wh3 vd factor) from NDa_2.out.below hb)
  have NRa_3 := (show Hid (Dt.N3 wh3 r1 r2 r3 rm1 rm2 rm3 rc1 rc2 rc3 fT) from hn1)
  have hS2 : Below w5.heap.size w5 wh3 := hS.trans (hb.mono hS.size)
  refine hK.out _ _ hS2 (fun hS => ?_)
  clear hK K hb hS2 NIa_2 NDa_2 hn1
  try simp only [Act.put, List.setIfInBounds_toArray, List.set_cons_zero, List.set_cons_succ, List.getElem_toArray, List.getElem_cons_succ, List.getElem_cons_zero]
  refine wpAnyH_ready (rs := [9]) (by kernel_rfl) (by simp) ?_
  refine AllReadyH.cons rfl (fun K hK => ?_) AllReadyH.nil
  go_simp
  refine (COP.out _ (NRa_3.out)).mono ?_
  rintro e wh4 ⟨rfl, hb⟩
  have NIa_4 := (show Hid (Dt.N3 wh4 a1 a2 a3 am1 am2 am3 ac1 ac2 ac3 fP) from NIa_3.out.below hb)
  have NDa_4 := (show Hid (Dt.Num wh4 vd factor) from NDa_3.out.below hb)
  have NRa_4 := (show Hid (Dt.N3 wh4 r1 r2 r3 rm1 rm2 rm3 rc1 rc2 rc3 fT) from NRa_3.out.below hb)
  have hS2 : Below w5.heap.size w5 wh4 := hS.trans (hb.mono hS.size)
  refine hK.out _ _ hS2 (fun hS => ?_)
  clear hK K hb hS2 NIa_3 NDa_3 NRa_3
  try simp only [Act.put, List.setIfInBounds_toArray, List.set_cons_zero, List.set_cons_succ, List.getElem_toArray, List.getElem_cons_succ, List.getElem_cons_zero]
  refine wpAnyH_take (i := 10) (v := .bool false) rfl (by kernel_rfl) (by kernel_rfl) (by kernel_rfl) (fun _ _ _ h => h) (Or.inl ⟨by kernel_rfl, fun wq hS => by go_simp⟩) hS ?_
  try simp only [Act.put, List.setIfInBounds_toArray, List.set_cons_zero, List.set_cons_succ, List.getElem_toArray, List.getElem_cons_succ, List.getElem_cons_zero]
  refine wpAnyH_take (i := 11) (v := .bool false) rfl (by kernel_rfl) (by kernel_rfl) (by kernel_rfl) (fun _ _ _ h => h) (Or.inl ⟨by kernel_rfl, fun wq hS => by go_simp⟩) hS ?_
  try simp only [Act.put, List.setIfInBounds_toArray, List.set_cons_zero, List.set_cons_succ, List.getElem_toArray, List.getElem_cons_succ, List.getElem_cons_zero]
  refine wpAnyH_done (by kernel_rfl) ?_ _
  have HBF := (show Hid _ from HBW.out.trans (hS.mono HBW.out.size))
  have BKq := (show Hid (Rp wh4 (n + 1) 0 Kk) from BK.out.below hS)
  have BRq := (show Hid (Rp wh4 (n + 2) 0 R) from BR.out.below hS)
  clear BJ BK BR BP BT NIa_4 NDa_4 NRa_4 hS HBW
  have BKq_z0 := BKq
  have BRq_z0 := BRq
  have HB_z0 := (show Hid (Below wh4.heap.size wh4 wh4) from Below.refl _ _)
  have TK_z0 := (show Hid True from trivial)
  clear BKq BRq
  go_wp2_with (first
    | (refine wpList_load_mid rfl 22 (.tmp 4) rfl (n + 1) 0 rfl Kk _ BKq_z0.out.1 Try.underlying22 rfl LKk.out.i ?_)
    | (refine wpList_load_mid rfl 43 (.tmp 5) rfl (n + 2) 0 rfl R _ BRq_z0.out.1 Try.underlying43 rfl LR.out.i ?_)
    | (refine wpList_load_mid rfl 22 (.tmp 4) rfl (n + 1) 0 rfl Kk _ BKq_z1.out.1 Try.underlying22 rfl LKk.out.i ?_)
    | (refine wpList_load_mid rfl 43 (.tmp 5) rfl (n + 2) 0 rfl R _ BRq_z1.out.1 Try.underlying43 rfl LR.out.i ?_)
    | (refine wpList_load_mid rfl 22 (.tmp 4) rfl (n + 1) 0 rfl Kk _ BKq_z2.out.1 Try.underlying22 rfl LKk.out.i ?_)
    | (refine wpList_load_mid rfl 43 (.tmp 5) rfl (n + 2) 0 rfl R _ BRq_z2.out.1 Try.underlying43 rfl LR.out.i ?_)
    | (refine wpList_load_mid rfl 22 (.tmp 4) rfl (n + 1) 0 rfl Kk _ BKq_z3.out.1 Try.underlying22 rfl LKk.out.i ?_)
    | (refine wpList_load_mid rfl 43 (.tmp 5) rfl (n + 2) 0 rfl R _ BRq_z3.out.1 Try.underlying43 rfl LR.out.i ?_)
    | (refine wpList_load_mid rfl 43 (.tmp 13) rfl bBU 0 rfl U _ BU_z3.out.1 Try.underlying43 rfl LU.out.i ?_)
    | (have hq := TK_z0; go_at_call 31; refine (cJ _).mono ?_; rintro e zw1 ⟨rfl, hb⟩; have HB_z1 := (show Hid (Below wh4.heap.size wh4 zw1) from HB_z0.out.trans (hb.mono HB_z0.out.size)); have BKq_z1 := (show Hid (Rp zw1 (n + 1) 0 Kk) from BKq_z0.out.below hb); have BRq_z1 := (show Hid (Rp zw1 (n + 2) 0 R) from BRq_z0.out.below hb); have TK_z1 := (show Hid True from trivial); clear hq TK_z0 hb HB_z0 BKq_z0 BRq_z0)
    | (have hq := TK_z1; go_at_call 41; refine (cU _).mono ?_; rintro e zw2 ⟨rfl, hb⟩; have HB_z2 := (show Hid (Below wh4.heap.size wh4 zw2) from HB_z1.out.trans (hb.mono HB_z1.out.size)); have BKq_z2 := (show Hid (Rp zw2 (n + 1) 0 Kk) from BKq_z1.out.below hb); have BRq_z2 := (show Hid (Rp zw2 (n + 2) 0 R) from BRq_z1.out.below hb); have TK_z2 := (show Hid True from trivial); clear hq TK_z1 hb HB_z1 BKq_z1 BRq_z1)
    | (have hq := TK_z2; refine wpList_store_mid rfl 43 (.tmp 13) (.tmp 47) rfl zw2.heap.size 0 U.toArray rfl rfl (HTH43.out U LU.out zw2) LU.out.j LU.out.o ?_; simp only; have hbx := HBN43.out U LU.out zw2; obtain ⟨zw3, hzw3⟩ : ∃ v, (zw2.alloc (.cells Z43 43)).setCells zw2.heap.size 0 U = v := ⟨_, rfl⟩; rw [hzw3] at hbx ⊢; clear hzw3; have hb := hbx.2; replace hbx := hbx.1; obtain ⟨bBU, hbBU⟩ : ∃ b, zw2.heap.size = b := ⟨_, rfl⟩; rw [hbBU] at hbx ⊢; clear hbBU; have HB_z3 := (show Hid (Below wh4.heap.size wh4 zw3) from HB_z2.out.trans (hb.mono HB_z2.out.size)); have BKq_z3 := (show Hid (Rp zw3 (n + 1) 0 Kk) from BKq_z2.out.below hb); have BRq_z3 := (show Hid (Rp zw3 (n + 2) 0 R) from BRq_z2.out.below hb); have BU_z3 := (show Hid (Rp zw3 bBU 0 U) from hbx); have TK_z3 := (show Hid True from trivial); clear hq TK_z2 hb hbx HB_z2 BKq_z2 BRq_z2))
  have HB5 := (show Hid (Below w.heap.size w zw3) from HBF.out.trans (HB_z3.out.mono HBF.out.size))
  clear HBF HB_z3
  have BK := BKq_z3
  have BR := BRq_z3
  have BU := BU_z3
  clear BKq_z3 BRq_z3 BU_z3
  refine wp_region_held_drew (S := fun w' => Below zw3.heap.size zw3 w') (by kernel_rfl) (drewB zw3) (fun hS => ?_)
  refine wpAnyH_take (i := 0) (v := .bool true) rfl (by kernel_rfl) (by kernel_rfl) (by kernel_rfl) (fun _ _ _ h => h) (Or.inl ⟨by kernel_rfl, fun wq hS => by go_simp⟩) hS ?_
  try simp only [Act.put, List.setIfInBounds_toArray, List.set_cons_zero, List.set_cons_succ, List.getElem_toArray, List.getElem_cons_zero]
  refine wpAnyH_take (i := 1) (v := .bool true) rfl (by kernel_rfl) (by kernel_rfl) (by kernel_rfl) (fun _ _ _ h => h) (Or.inl ⟨by kernel_rfl, fun wq hS => by go_simp⟩) hS ?_
  try simp only [Act.put, List.setIfInBounds_toArray, List.set_cons_zero, List.set_cons_succ, List.getElem_toArray, List.getElem_cons_succ, List.getElem_cons_zero]
  refine wpAnyH_take (i := 2) (v := .nilIface) rfl (by kernel_rfl) (by kernel_rfl) (by kernel_rfl) (fun _ _ _ h => h) (Or.inl ⟨by kernel_rfl, fun wq hS => by go_simp⟩) hS ?_
  try simp only [Act.put, List.setIfInBounds_toArray, List.set_cons_zero, List.set_cons_succ, List.getElem_toArray, List.getElem_cons_succ, List.getElem_cons_zero]
  refine wpAnyH_take (i := 3) (v := .bool true) rfl (by kernel_rfl) (by kernel_rfl) (by kernel_rfl) (fun _ _ _ h => h) (Or.inl ⟨by kernel_rfl, fun wq hS => by go_simp⟩) hS ?_
  try simp only [Act.put, List.setIfInBounds_toArray, List.set_cons_zero, List.set_cons_succ, List.getElem_toArray, List.getElem_cons_succ, List.getElem_cons_zero]
  refine wpAnyH_take (i := 4) (v := .bool true) rfl (by kernel_rfl) (by kernel_rfl) (by kernel_rfl) (fun _ _ _ h => h) (Or.inl ⟨by kernel_rfl, fun wq hS => by go_simp⟩) hS ?_
  try simp only [Act.put, List.setIfInBounds_toArray, List.set_cons_zero, List.set_cons_succ, List.getElem_toArray, List.getElem_cons_succ, List.getElem_cons_zero]
  refine wpAnyH_take (i := 5) (v := .bool true) rfl (by kernel_rfl) (by kernel_rfl) (by kernel_rfl) (fun _ _ _ h => h) (Or.inl ⟨by kernel_rfl, fun wq hS => by go_simp⟩) hS ?_
  try simp only [Act.put, List.setIfInBounds_toArray, List.set_cons_zero, List.set_cons_succ, List.getElem_toArray, List.getElem_cons_succ, List.getElem_cons_zero]
  refine wpAnyH_take (i := 6) (v := .agg U.toArray) rfl (by kernel_rfl) (by kernel_rfl) (by kernel_rfl) (fun _ _ _ h => h) (yieldsIf_load_mid (by kernel_rfl) 43 (.tmp 13) rfl bBU 0 rfl U _ (fun wq hq => Rg.Below.range hq BU.out.1 BU.out.2) Try.underlying43 rfl LU.out.i) hS ?_
  try simp only [Act.put, List.setIfInBounds_toArray, List.set_cons_zero, List.set_cons_succ, List.getElem_toArray, List.getElem_cons_succ, List.getElem_cons_zero]
  refine wpAnyH_take (i := 8) (v := .agg R.toArray) rfl (by kernel_rfl) (by kernel_rfl) (by kernel_rfl) (fun _ _ _ h => h) (yieldsIf_load_mid (by kernel_rfl) 43 (.tmp 5) rfl (n + 2) 0 rfl R _ (fun wq hq => Rg.Below.range hq BR.out.1 BR.out.2) Try.underlying43 rfl LR.out.i) hS ?_
  try simp only [Act.put, List.setIfInBounds_toArray, List.set_cons_zero, List.set_cons_succ, List.getElem_toArray, List.getElem_cons_succ, List.getElem_cons_zero]
  refine wpAnyH_take (i := 7) (v := .slice (some ⟨n + 1, 0, none⟩) 32 32) rfl (by kernel_rfl) (by kernel_rfl) (by kernel_rfl) (fun _ _ _ h => h) (Or.inl ⟨by kernel_rfl, fun wq hS => by go_simp⟩) hS ?_
  try simp only [Act.put, List.setIfInBounds_toArray, List.set_cons_zero, List.set_cons_succ, List.getElem_toArray, List.getElem_cons_succ, List.getElem_cons_zero]
  refine wpAnyH_ready (rs := [9]) (by kernel_rfl) (by simp) ?_
  refine AllReadyH.cons rfl (fun K hK => ?_) AllReadyH.nil
  go_simp
  refine (CIR.out _).mono ?_
  rintro e wh21 ⟨a1, a2, a3, am1, am2, am3, ac1, ac2, ac3, rfl, hn1, hb⟩
  have NIb_21 := (show Hid (Dt.N3 wh21 a1 a2 a3 am1 am2 am3 ac1 ac2 ac3 fR) from hn1)
  have hS2 : Below zw3.heap.size zw3 wh21 := hS.trans (hb.mono hS.size)
  refine hK.out _ _ hS2 (fun hS => ?_)
  clear hK K hb hS2  hn1
  try simp only [Act.put, List.setIfInBounds_toArray, List.set_cons_zero, List.set_cons_succ, List.getElem_toArray, List.getElem_cons_succ, List.getElem_cons_zero]
  refine wpAnyH_ready (rs := [10]) (by kernel_rfl) (by simp) ?_
  refine AllReadyH.cons rfl (fun K hK => ?_) AllReadyH.nil
  go_simp
  refine (Dt.d_num _).mono ?_
  rintro e wh22 ⟨vd, rfl, hn1, hb⟩
  have NIb_22 := (show Hid (Dt.N3 wh22 a1 a2 a3 am1 am2 am3 ac1 ac2 ac3 fR) from NIb_21.out.below hb)
  have NDb_22 := (show Hid (Dt.Num wh22 vd factor) from hn1)
  have hS2 : Below zw3.heap.size zw3 wh22 := hS.trans (hb.mono hS.size)
  refine hK.out _ _ hS2 (fun hS => ?_)
  clear hK K hb hS2 NIb_21 hn1
  try simp only [Act.put, List.setIfInBounds_toArray, List.set_cons_zero, List.set_cons_succ, List.getElem_toArray, List.getElem_cons_succ, List.getElem_cons_zero]
  refine wpAnyH_ready (rs := [11]) (by kernel_rfl) (by simp) ?_
  refine AllReadyH.cons rfl (fun K hK => ?_) AllReadyH.nil
  go_simp
  refine (CTR.out _ _ (BK.out.below hS) (NIb_22.out) (NDb_22.out)).mono ?_
  rintro e wh23 ⟨r1, r2, r3, rm1, rm2, rm3, rc1, rc2, rc3, rfl, hn1, hb⟩
  have NIb_23 := (show Hid (Dt.N3 wh23 a1 a2 a3 am1 am2 am3 ac1 ac2 ac3 fR) from NIb_22.out.below hb)
  have NDb_23 := (show Hid (Dt.Num wh23 vd factor) from NDb_22.out.below hb)
  have NRb_23 := (show Hid (Dt.N3 wh23 r1 r2 r3 rm1 rm2 rm3 rc1 rc2 rc3 fU) from hn1)
  have hS2 : Below zw3.heap.size zw3 wh23 := hS.trans (hb.mono hS.size)
  refine hK.out _ _ hS2 (fun hS => ?_)
  clear hK K hb hS2 NIb_22 NDb_22 hn1
  try simp only [Act.put, List.setIfInBounds_toArray, List.set_cons_zero, List.set_cons_succ, List.getElem_toArray, List.getElem_cons_succ, List.getElem_cons_zero]
  refine wpAnyH_ready (rs := [12]) (by kernel_rfl) (by simp) ?_
  refine AllReadyH.cons rfl (fun K hK => ?_) AllReadyH.nil
  go_simp
  refine (COR.out _ (NRb_23.out)).mono ?_
  rintro e wh24 ⟨rfl, hb⟩
  have NIb_24 := (show Hid (Dt.N3 wh24 a1 a2 a3 am1 am2 am3 ac1 ac2 ac3 fR) from NIb_23.out.below hb)
  have NDb_24 := (show Hid (Dt.Num wh24 vd factor) from NDb_23.out.below hb)
  have NRb_24 := (show Hid (Dt.N3 wh24 r1 r2 r3 rm1 rm2 rm3 rc1 rc2 rc3 fU) from NRb_23.out.below hb)
  have hS2 : Below zw3.heap.size zw3 wh24 := hS.trans (hb.mono hS.size)
  refine hK.out _ _ hS2 (fun hS => ?_)
  clear hK K hb hS2 NIb_23 NDb_23 NRb_23
  try simp only [Act.put, List.setIfInBounds_toArray, List.set_cons_zero, List.set_cons_succ, List.getElem_toArray, List.getElem_cons_succ, List.getElem_cons_zero]
  refine wpAnyH_take (i := 13) (v := .bool true) rfl (by kernel_rfl) (by kernel_rfl) (by kernel_rfl) (fun _ _ _ h => h) (Or.inl ⟨by kernel_rfl, fun wq hS => by go_simp⟩) hS ?_
  try simp only [Act.put, List.setIfInBounds_toArray, List.set_cons_zero, List.set_cons_succ, List.getElem_toArray, List.getElem_cons_succ, List.getElem_cons_zero]
  refine wpAnyH_take (i := 14) (v := .bool true) rfl (by kernel_rfl) (by kernel_rfl) (by kernel_rfl) (fun _ _ _ h => h) (Or.inl ⟨by kernel_rfl, fun wq hS => by go_simp⟩) hS ?_
  try simp only [Act.put, List.setIfInBounds_toArray, List.set_cons_zero, List.set_cons_succ, List.getElem_toArray, List.getElem_cons_succ, List.getElem_cons_zero]
  refine wpAnyH_ready (rs := [15]) (by kernel_rfl) (by simp) ?_
  refine AllReadyH.cons rfl (fun K hK => ?_) AllReadyH.nil
  go_simp
  refine hK.out _ _ hS (fun hS => ?_)
  clear hK K
  try simp only [Act.put, List.setIfInBounds_toArray, List.set_cons_zero, List.set_cons_succ, List.getElem_toArray, List.getElem_cons_succ, List.getElem_cons_zero]
  refine wpAnyH_done (by kernel_rfl) ?_ _
  have HBF := (show Hid _ from HB5.out.trans (hS.mono HB5.out.size))
  go_wp2
  go_ret
  exact ⟨rfl, HBF.out⟩
end Fd
end Go.Proofs.Ytgdekigdbbldoaa

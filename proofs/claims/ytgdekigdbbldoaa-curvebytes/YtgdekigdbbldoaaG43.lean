/- CurveBytes: the walk, where there is no point. CurveBytes: the walk, put together. -/
import Derived.Test.YtgdekigdbbldoaaG42
namespace Go.Proofs.Ytgdekigdbbldoaa
open Go.RowKit
namespace Fd
open Rg Pratt

set_option maxHeartbeats 2000000 in
set_option maxRecDepth 8000 in
theorem bytes_none_on (b x y px py : Nat) (cD : ∀ W : World, Calls Try.prog 43 #[bv b] W fun e w' => e = .returned (.tuple #[pv px py, .iface 35 (.int .i64 29)]) ∧ Below W.heap.size W w') (cR : ∀ W : World, Calls Try.prog 44 #[bv b] W fun e w' => e = .returned (.tuple #[pv px py, .bool false]) ∧ Below W.heap.size W w') (lpx : px < 115792089237316195423570985008687907853269984665640564039457584007913129639936) (lpy : py < 115792089237316195423570985008687907853269984665640564039457584007913129639936) (hp0 : px = 0 ∧ py = 0) (lx : x < 115792089237316195423570985008687907853269984665640564039457584007913129639936) (ly : y < 115792089237316195423570985008687907853269984665640564039457584007913129639936) (hon : OnC x y) (w : World) :
    Calls Try.prog 10 #[bv b, pv x y] w fun e w' => e = .returned (.bool true) ∧ Below w.heap.size w w' := by
  have cE : ∀ W : World, Calls Try.prog 45 #[pv x y] W fun e w' => e = .returned (.tuple #[bv (encp x y), .nilIface]) ∧ Below W.heap.size W w' := fun W => encode_ok x y W lx ly hon
  have cG : ∀ W : World, Calls Try.prog 47 #[pv x y] W fun e w' => e = .returned (bv (encp x y)) ∧ Below W.heap.size W w' := fun W => Dt.rencode_any x y W lx ly
  have le : encp x y < 115792089237316195423570985008687907853269984665640564039457584007913129639936 := by have h1 := redp_255 y; have h2 := Nat.mod_lt (redp x) (show 0 < 2 by decide); unfold encp; omega
  obtain ⟨ec, he⟩ : ∃ e, encp x y = e := ⟨_, rfl⟩
  rw [he] at cE cG le
  have cJ : ∀ W : World, Calls Try.prog 31 #[pv x y] W fun e w' => e = .returned (.bool true) ∧ Below W.heap.size W w' := fun W => by have h := Dt.ris_any x y W lx ly; rwa [decide_eq_true hon] at h
  have qE := eq22_same' ec le
  have cS := shown7_any
  have en := eq_nil
  have ex := eq_err_nil
  have e29 : ∀ W : World, (binOp .eql 32 (.iface 35 (.int .i64 29)) (.iface 35 (.int .i64 29))).run Try.prog W = .ok (.bool true) W := fun W => bin_err 29 29 W
  have n29 := ne_err 29
  have q43 := eq43_same px py lpx lpy
  have LB : Hid (L32 (bvc b)) := l32 b
  have LV : Hid (L64 (bvc x ++ bvc y)) := l64 x y
  have LP : Hid (L64 (bvc px ++ bvc py)) := l64 _ _
  have LE : Hid (L32 (bvc ec)) := l32 ec
  have HBN : Hid (Try.prog.built 43 [] = some (bvc px ++ bvc py).toArray) := by show _ = _; rw [hp0.1, hp0.2]; exact build_none
  unfold pv at cD cR cE cJ cG ⊢
  unfold bv at cD cR cE cG ⊢
  have HS := (show Hid _ from start22_43 w (bvc b) (bvc x ++ bvc y))
  obtain ⟨V, hV⟩ : ∃ X, bvc x ++ bvc y = X := ⟨_, rfl⟩
  rw [hV] at cE cJ LV HS cG ⊢
  obtain ⟨P, hP⟩ : ∃ X, bvc px ++ bvc py = X := ⟨_, rfl⟩
  rw [hP] at cD cR q43 LP HBN
  obtain ⟨B, hB⟩ : ∃ X, bvc b = X := ⟨_, rfl⟩
  rw [hB] at cD cR LB HS ⊢
  obtain ⟨E, hE⟩ : ∃ X, bvc ec = X := ⟨_, rfl⟩
  rw [hE] at cE qE LE cG
  clear hV hP hB hE he le hon lx ly lpx lpy hp0
  have hz22 := zero22
  have hz43 := zero43
  have HBN22 : Hid _ := box22
  have HTH22 : Hid _ := th22
  have HBN43 : Hid _ := box43
  have HTH43 : Hid _ := th43
  obtain ⟨Z22, hZ22⟩ : ∃ Z, z22 = Z := ⟨_, rfl⟩
  rw [hZ22] at hz22 HBN22 HTH22
  obtain ⟨Z43, hZ43⟩ : ∃ Z, z43 = Z := ⟨_, rfl⟩
  rw [hZ43] at hz43 HBN43 HTH43
  clear hZ22 hZ43
  obtain ⟨n, hn⟩ : ∃ n, w.heap.size = n := ⟨_, rfl⟩
  have HN : Hid (w.heap.size = n) := hn
  obtain ⟨we, hwe⟩ : ∃ v, (w.alloc (.cells B.toArray 22)).alloc (.cells V.toArray 43) = v := ⟨_, rfl⟩
  have BB : Hid (Rp we n 0 B) := by have h := HS.out.1; rw [hwe, HN.out] at h; exact h
  have BV : Hid (Rp we (n + 1) 0 V) := by have h := HS.out.2.1; rw [hwe, HN.out] at h; exact h
  have HBE : Hid (Below w.heap.size w we) := by have h := HS.out.2.2; rw [hwe] at h; exact h
  clear HS
  have BB_0 := BB
  have BV_0 := BV
  have HB_0 := (show Hid (Below we.heap.size we we) from Below.refl _ _)
  have TK_0 := (show Hid True from trivial)
  clear BB BV
  go_enter Try.func10, Try.ntmps10
  go_wp2_with (first
    | (refine wpList_load_mid rfl 22 (.tmp 2) rfl n 0 rfl B _ BB_0.out.1 Try.underlying22 rfl LB.out.i ?_)
    | (refine wpList_load_mid rfl 43 (.tmp 3) rfl (n + 1) 0 rfl V _ BV_0.out.1 Try.underlying43 rfl LV.out.i ?_)
    | (refine wpList_load_mid rfl 22 (.tmp 2) rfl n 0 rfl B _ BB_1.out.1 Try.underlying22 rfl LB.out.i ?_)
    | (refine wpList_load_mid rfl 43 (.tmp 3) rfl (n + 1) 0 rfl V _ BV_1.out.1 Try.underlying43 rfl LV.out.i ?_)
    | (refine wpList_load_mid rfl 22 (.tmp 2) rfl n 0 rfl B _ BB_2.out.1 Try.underlying22 rfl LB.out.i ?_)
    | (refine wpList_load_mid rfl 43 (.tmp 3) rfl (n + 1) 0 rfl V _ BV_2.out.1 Try.underlying43 rfl LV.out.i ?_)
    | (refine wpList_load_mid rfl 22 (.tmp 2) rfl n 0 rfl B _ BB_3.out.1 Try.underlying22 rfl LB.out.i ?_)
    | (refine wpList_load_mid rfl 43 (.tmp 3) rfl (n + 1) 0 rfl V _ BV_3.out.1 Try.underlying43 rfl LV.out.i ?_)
    | (refine wpList_load_mid rfl 43 (.tmp 6) rfl bBP 0 rfl P _ BP_3.out.1 Try.underlying43 rfl LP.out.i ?_)
    | (refine wpList_load_mid rfl 22 (.tmp 2) rfl n 0 rfl B _ BB_4.out.1 Try.underlying22 rfl LB.out.i ?_)
    | (refine wpList_load_mid rfl 43 (.tmp 3) rfl (n + 1) 0 rfl V _ BV_4.out.1 Try.underlying43 rfl LV.out.i ?_)
    | (refine wpList_load_mid rfl 43 (.tmp 6) rfl bBP 0 rfl P _ BP_4.out.1 Try.underlying43 rfl LP.out.i ?_)
    | (refine wpList_load_mid rfl 22 (.tmp 2) rfl n 0 rfl B _ BB_5.out.1 Try.underlying22 rfl LB.out.i ?_)
    | (refine wpList_load_mid rfl 43 (.tmp 3) rfl (n + 1) 0 rfl V _ BV_5.out.1 Try.underlying43 rfl LV.out.i ?_)
    | (refine wpList_load_mid rfl 43 (.tmp 6) rfl bBP 0 rfl P _ BP_5.out.1 Try.underlying43 rfl LP.out.i ?_)
    | (refine wpList_load_mid rfl 43 (.tmp 8) rfl bBQ 0 rfl P _ BQ_5.out.1 Try.underlying43 rfl LP.out.i ?_)
    | (refine wpList_loadw (by rfl) 43 (.tmp 6) rfl bBP 0 rfl P _ BP_5.out.1 Try.underlying43 rfl LP.out.i ?_)
    | (refine wpList_load_mid rfl 22 (.tmp 2) rfl n 0 rfl B _ BB_6.out.1 Try.underlying22 rfl LB.out.i ?_)
    | (refine wpList_load_mid rfl 43 (.tmp 3) rfl (n + 1) 0 rfl V _ BV_6.out.1 Try.underlying43 rfl LV.out.i ?_)
    | (refine wpList_load_mid rfl 43 (.tmp 6) rfl bBP 0 rfl P _ BP_6.out.1 Try.underlying43 rfl LP.out.i ?_)
    | (refine wpList_load_mid rfl 43 (.tmp 8) rfl bBQ 0 rfl P _ BQ_6.out.1 Try.underlying43 rfl LP.out.i ?_)
    | (refine wpList_load_mid rfl 22 (.tmp 2) rfl n 0 rfl B _ BB_7.out.1 Try.underlying22 rfl LB.out.i ?_)
    | (refine wpList_load_mid rfl 43 (.tmp 3) rfl (n + 1) 0 rfl V _ BV_7.out.1 Try.underlying43 rfl LV.out.i ?_)
    | (refine wpList_load_mid rfl 43 (.tmp 6) rfl bBP 0 rfl P _ BP_7.out.1 Try.underlying43 rfl LP.out.i ?_)
    | (refine wpList_load_mid rfl 43 (.tmp 8) rfl bBQ 0 rfl P _ BQ_7.out.1 Try.underlying43 rfl LP.out.i ?_)
    | (refine wpList_load_mid rfl 22 (.tmp 10) rfl bBE 0 rfl E _ BE_7.out.1 Try.underlying22 rfl LE.out.i ?_)
    | (refine wpList_load_mid rfl 22 (.tmp 2) rfl n 0 rfl B _ BB_8.out.1 Try.underlying22 rfl LB.out.i ?_)
    | (refine wpList_load_mid rfl 43 (.tmp 3) rfl (n + 1) 0 rfl V _ BV_8.out.1 Try.underlying43 rfl LV.out.i ?_)
    | (refine wpList_load_mid rfl 43 (.tmp 6) rfl bBP 0 rfl P _ BP_8.out.1 Try.underlying43 rfl LP.out.i ?_)
    | (refine wpList_load_mid rfl 43 (.tmp 8) rfl bBQ 0 rfl P _ BQ_8.out.1 Try.underlying43 rfl LP.out.i ?_)
    | (refine wpList_load_mid rfl 22 (.tmp 10) rfl bBE 0 rfl E _ BE_8.out.1 Try.underlying22 rfl LE.out.i ?_)
    | (have hq := TK_0; go_at_call 28; refine (cS _).mono ?_; rintro e w1 ⟨rfl, hb⟩; have HB_1 := (show Hid (Below we.heap.size we w1) from HB_0.out.trans (hb.mono HB_0.out.size)); have BB_1 := (show Hid (Rp w1 n 0 B) from BB_0.out.below hb); have BV_1 := (show Hid (Rp w1 (n + 1) 0 V) from BV_0.out.below hb); have TK_1 := (show Hid True from trivial); clear hq TK_0 hb HB_0 BB_0 BV_0)
    | (have hq := TK_1; go_at_call 43; refine (cD _).mono ?_; rintro e w2 ⟨rfl, hb⟩; have HB_2 := (show Hid (Below we.heap.size we w2) from HB_1.out.trans (hb.mono HB_1.out.size)); have BB_2 := (show Hid (Rp w2 n 0 B) from BB_1.out.below hb); have BV_2 := (show Hid (Rp w2 (n + 1) 0 V) from BV_1.out.below hb); have TK_2 := (show Hid True from trivial); clear hq TK_1 hb HB_1 BB_1 BV_1)
    | (have hq := TK_2; refine wpList_store_mid rfl 43 (.tmp 6) (.tmp 17) rfl w2.heap.size 0 P.toArray rfl rfl (HTH43.out P LP.out w2) LP.out.j LP.out.o ?_; simp only; have hbx := HBN43.out P LP.out w2; obtain ⟨w3, hw3⟩ : ∃ v, (w2.alloc (.cells Z43 43)).setCells w2.heap.size 0 P = v := ⟨_, rfl⟩; rw [hw3] at hbx ⊢; clear hw3; have hb := hbx.2; replace hbx := hbx.1; obtain ⟨bBP, hbBP⟩ : ∃ b, w2.heap.size = b := ⟨_, rfl⟩; rw [hbBP] at hbx ⊢; clear hbBP; have HB_3 := (show Hid (Below we.heap.size we w3) from HB_2.out.trans (hb.mono HB_2.out.size)); have BB_3 := (show Hid (Rp w3 n 0 B) from BB_2.out.below hb); have BV_3 := (show Hid (Rp w3 (n + 1) 0 V) from BV_2.out.below hb); have BP_3 := (show Hid (Rp w3 bBP 0 P) from hbx); have TK_3 := (show Hid True from trivial); clear hq TK_2 hb hbx HB_2 BB_2 BV_2)
    | (have hq := TK_3; go_at_call 44; refine (cR _).mono ?_; rintro e w4 ⟨rfl, hb⟩; have HB_4 := (show Hid (Below we.heap.size we w4) from HB_3.out.trans (hb.mono HB_3.out.size)); have BB_4 := (show Hid (Rp w4 n 0 B) from BB_3.out.below hb); have BV_4 := (show Hid (Rp w4 (n + 1) 0 V) from BV_3.out.below hb); have BP_4 := (show Hid (Rp w4 bBP 0 P) from BP_3.out.below hb); have TK_4 := (show Hid True from trivial); clear hq TK_3 hb HB_3 BB_3 BV_3 BP_3)
    | (have hq := TK_4; refine wpList_store_mid rfl 43 (.tmp 8) (.tmp 22) rfl w4.heap.size 0 P.toArray rfl rfl (HTH43.out P LP.out w4) LP.out.j LP.out.o ?_; simp only; have hbx := HBN43.out P LP.out w4; obtain ⟨w5, hw5⟩ : ∃ v, (w4.alloc (.cells Z43 43)).setCells w4.heap.size 0 P = v := ⟨_, rfl⟩; rw [hw5] at hbx ⊢; clear hw5; have hb := hbx.2; replace hbx := hbx.1; obtain ⟨bBQ, hbBQ⟩ : ∃ b, w4.heap.size = b := ⟨_, rfl⟩; rw [hbBQ] at hbx ⊢; clear hbBQ; have HB_5 := (show Hid (Below we.heap.size we w5) from HB_4.out.trans (hb.mono HB_4.out.size)); have BB_5 := (show Hid (Rp w5 n 0 B) from BB_4.out.below hb); have BV_5 := (show Hid (Rp w5 (n + 1) 0 V) from BV_4.out.below hb); have BP_5 := (show Hid (Rp w5 bBP 0 P) from BP_4.out.below hb); have BQ_5 := (show Hid (Rp w5 bBQ 0 P) from hbx); have TK_5 := (show Hid True from trivial); clear hq TK_4 hb hbx HB_4 BB_4 BV_4 BP_4)
    | (refine build_tow (by rfl) 43 _ rfl [] (by kernel_rfl) P HBN.out ?_; simp only [Act.put, List.setIfInBounds_toArray, List.set_cons_zero, List.set_cons_succ])
    | (have hq := TK_5; go_at_call 45; refine (cE _).mono ?_; rintro e w6 ⟨rfl, hb⟩; have HB_6 := (show Hid (Below we.heap.size we w6) from HB_5.out.trans (hb.mono HB_5.out.size)); have BB_6 := (show Hid (Rp w6 n 0 B) from BB_5.out.below hb); have BV_6 := (show Hid (Rp w6 (n + 1) 0 V) from BV_5.out.below hb); have BP_6 := (show Hid (Rp w6 bBP 0 P) from BP_5.out.below hb); have BQ_6 := (show Hid (Rp w6 bBQ 0 P) from BQ_5.out.below hb); have TK_6 := (show Hid True from trivial); clear hq TK_5 hb HB_5 BB_5 BV_5 BP_5 BQ_5)
    | (have hq := TK_6; refine wpList_store_mid rfl 22 (.tmp 10) (.tmp 53) rfl w6.heap.size 0 E.toArray rfl rfl (HTH22.out E LE.out w6) LE.out.j LE.out.o ?_; simp only; have hbx := HBN22.out E LE.out w6; obtain ⟨w7, hw7⟩ : ∃ v, (w6.alloc (.cells Z22 22)).setCells w6.heap.size 0 E = v := ⟨_, rfl⟩; rw [hw7] at hbx ⊢; clear hw7; have hb := hbx.2; replace hbx := hbx.1; obtain ⟨bBE, hbBE⟩ : ∃ b, w6.heap.size = b := ⟨_, rfl⟩; rw [hbBE] at hbx ⊢; clear hbBE; have HB_7 := (show Hid (Below we.heap.size we w7) from HB_6.out.trans (hb.mono HB_6.out.size)); have BB_7 := (show Hid (Rp w7 n 0 B) from BB_6.out.below hb); have BV_7 := (show Hid (Rp w7 (n + 1) 0 V) from BV_6.out.below hb); have BP_7 := (show Hid (Rp w7 bBP 0 P) from BP_6.out.below hb); have BQ_7 := (show Hid (Rp w7 bBQ 0 P) from BQ_6.out.below hb); have BE_7 := (show Hid (Rp w7 bBE 0 E) from hbx); have TK_7 := (show Hid True from trivial); clear hq TK_6 hb hbx HB_6 BB_6 BV_6 BP_6 BQ_6)
    | (have hq := TK_7; go_at_call 31; refine (cJ _).mono ?_; rintro e w8 ⟨rfl, hb⟩; have HB_8 := (show Hid (Below we.heap.size we w8) from HB_7.out.trans (hb.mono HB_7.out.size)); have BB_8 := (show Hid (Rp w8 n 0 B) from BB_7.out.below hb); have BV_8 := (show Hid (Rp w8 (n + 1) 0 V) from BV_7.out.below hb); have BP_8 := (show Hid (Rp w8 bBP 0 P) from BP_7.out.below hb); have BQ_8 := (show Hid (Rp w8 bBQ 0 P) from BQ_7.out.below hb); have BE_8 := (show Hid (Rp w8 bBE 0 E) from BE_7.out.below hb); have TK_8 := (show Hid True from trivial); clear hq TK_7 hb HB_7 BB_7 BV_7 BP_7 BQ_7 BE_7))
  have HQBE := (show Hid _ from BE_8.out.cl)
  have HQBV := (show Hid _ from BV_8.out.cl)
  have hne := Cl.ne w8.heap.size w8
  refine region_cl (N := w8.heap.size) (W := w8) (by kernel_rfl) (by kernel_rfl) (Below.refl _ _) ?_
  go_big_quiet_step (fail)
  go_big_quiet_step (fail)
  go_big_quiet_step (fail)
  go_big_quiet_step (fail)
  go_big_quiet_step (fail)
  go_big_quiet_step (fail)
  go_big_quiet_want
  refine quiet_load 22 _ rfl bBE 0 rfl E _ HQBE.out Try.underlying22 rfl LE.out.i ?_
  simp only [Act.put, List.setIfInBounds_toArray, List.set_cons_zero, List.set_cons_succ]
  go_big_quiet_on
  go_big_quiet_want
  refine quiet_load 43 _ rfl (n + 1) 0 rfl V _ HQBV.out Try.underlying43 rfl LV.out.i ?_
  simp only [Act.put, List.setIfInBounds_toArray, List.set_cons_zero, List.set_cons_succ]
  go_big_quiet_on
  go_big_quiet_step ((go_at_call 47; exact cl_of (cG _) (Nat.le_refl _)))
  go_big_quiet_step (fail)
  go_big_quiet_step (fail)
  go_big_quiet_step (fail)
  refine wpQuiet_nil ?_
  rintro _ ⟨xq, rfl⟩
  have hb := xq.h
  have HBF := (show Hid (Below we.heap.size we xq.u) from HB_8.out.trans (hb.mono HB_8.out.size))
  go_wp2
  go_ret
  exact ⟨rfl, HBE.out.trans (HBF.out.mono HBE.out.size)⟩
set_option maxHeartbeats 2000000 in
set_option maxRecDepth 8000 in
theorem bytes_none_off (b x y px py : Nat) (cD : ∀ W : World, Calls Try.prog 43 #[bv b] W fun e w' => e = .returned (.tuple #[pv px py, .iface 35 (.int .i64 29)]) ∧ Below W.heap.size W w') (cR : ∀ W : World, Calls Try.prog 44 #[bv b] W fun e w' => e = .returned (.tuple #[pv px py, .bool false]) ∧ Below W.heap.size W w') (lpx : px < 115792089237316195423570985008687907853269984665640564039457584007913129639936) (lpy : py < 115792089237316195423570985008687907853269984665640564039457584007913129639936) (hp0 : px = 0 ∧ py = 0) (lx : x < 115792089237316195423570985008687907853269984665640564039457584007913129639936) (ly : y < 115792089237316195423570985008687907853269984665640564039457584007913129639936) (hon : ¬ OnC x y) (w : World) :
    Calls Try.prog 10 #[bv b, pv x y] w fun e w' => e = .returned (.bool true) ∧ Below w.heap.size w w' := by
  have cE : ∀ W : World, Calls Try.prog 45 #[pv x y] W fun e w' => e = .returned (.tuple #[bv 0, .iface 35 (.int .i64 29)]) ∧ Below W.heap.size W w' := fun W => encode_no x y W lx ly hon
  have cZ : ∀ W : World, Calls Try.prog 46 #[.int .u8 0] W fun e w' => e = .returned (bv 0) ∧ Below W.heap.size W w' := fun W => small7_any 0 W (by decide)
  have le : 0 < 115792089237316195423570985008687907853269984665640564039457584007913129639936 := by decide
  obtain ⟨ec, he⟩ : ∃ e : Nat, 0 = e := ⟨_, rfl⟩
  rw [he] at le
  replace cE : ∀ W : World, Calls Try.prog 45 #[pv x y] W fun e w' => e = .returned (.tuple #[bv ec, .iface 35 (.int .i64 29)]) ∧ Below W.heap.size W w' := fun W => by rw [← he]; exact cE W
  replace cZ : ∀ W : World, Calls Try.prog 46 #[.int .u8 0] W fun e w' => e = .returned (bv ec) ∧ Below W.heap.size W w' := fun W => by rw [← he]; exact cZ W
  have cJ : ∀ W : World, Calls Try.prog 31 #[pv x y] W fun e w' => e = .returned (.bool false) ∧ Below W.heap.size W w' := fun W => by have h := Dt.ris_any x y W lx ly; rwa [decide_eq_false hon] at h
  have qE := eq22_same' ec le
  have cS := shown7_any
  have en := eq_nil
  have ex := eq_err_nil
  have e29 : ∀ W : World, (binOp .eql 32 (.iface 35 (.int .i64 29)) (.iface 35 (.int .i64 29))).run Try.prog W = .ok (.bool true) W := fun W => bin_err 29 29 W
  have n29 := ne_err 29
  have q43 := eq43_same px py lpx lpy
  have LB : Hid (L32 (bvc b)) := l32 b
  have LV : Hid (L64 (bvc x ++ bvc y)) := l64 x y
  have LP : Hid (L64 (bvc px ++ bvc py)) := l64 _ _
  have LE : Hid (L32 (bvc ec)) := l32 ec
  have HBN : Hid (Try.prog.built 43 [] = some (bvc px ++ bvc py).toArray) := by show _ = _; rw [hp0.1, hp0.2]; exact build_none
  unfold pv at cD cR cE cJ ⊢
  unfold bv at cD cR cE cZ ⊢
  have HS := (show Hid _ from start22_43 w (bvc b) (bvc x ++ bvc y))
  obtain ⟨V, hV⟩ : ∃ X, bvc x ++ bvc y = X := ⟨_, rfl⟩
  rw [hV] at cE cJ LV HS ⊢
  obtain ⟨P, hP⟩ : ∃ X, bvc px ++ bvc py = X := ⟨_, rfl⟩
  rw [hP] at cD cR q43 LP HBN
  obtain ⟨B, hB⟩ : ∃ X, bvc b = X := ⟨_, rfl⟩
  rw [hB] at cD cR LB HS ⊢
  obtain ⟨E, hE⟩ : ∃ X, bvc ec = X := ⟨_, rfl⟩
  rw [hE] at cE qE LE cZ
  clear hV hP hB hE he le hon lx ly lpx lpy hp0
  have hz22 := zero22
  have hz43 := zero43
  have HBN22 : Hid _ := box22
  have HTH22 : Hid _ := th22
  have HBN43 : Hid _ := box43
  have HTH43 : Hid _ := th43
  obtain ⟨Z22, hZ22⟩ : ∃ Z, z22 = Z := ⟨_, rfl⟩
  rw [hZ22] at hz22 HBN22 HTH22
  obtain ⟨Z43, hZ43⟩ : ∃ Z, z43 = Z := ⟨_, rfl⟩
  rw [hZ43] at hz43 HBN43 HTH43
  clear hZ22 hZ43
  obtain ⟨n, hn⟩ : ∃ n, w.heap.size = n := ⟨_, rfl⟩
  have HN : Hid (w.heap.size = n) := hn
  obtain ⟨we, hwe⟩ : ∃ v, (w.alloc (.cells B.toArray 22)).alloc (.cells V.toArray 43) = v := ⟨_, rfl⟩
  have BB : Hid (Rp we n 0 B) := by have h := HS.out.1; rw [hwe, HN.out] at h; exact h
  have BV : Hid (Rp we (n + 1) 0 V) := by have h := HS.out.2.1; rw [hwe, HN.out] at h; exact h
  have HBE : Hid (Below w.heap.size w we) := by have h := HS.out.2.2; rw [hwe] at h; exact h
  clear HS
  have BB_0 := BB
  have BV_0 := BV
  have HB_0 := (show Hid (Below we.heap.size we we) from Below.refl _ _)
  have TK_0 := (show Hid True from trivial)
  clear BB BV
  go_enter Try.func10, Try.ntmps10
  go_wp2_with (first
    | (refine wpList_load_mid rfl 22 (.tmp 2) rfl n 0 rfl B _ BB_0.out.1 Try.underlying22 rfl LB.out.i ?_)
    | (refine wpList_load_mid rfl 43 (.tmp 3) rfl (n + 1) 0 rfl V _ BV_0.out.1 Try.underlying43 rfl LV.out.i ?_)
    | (refine wpList_load_mid rfl 22 (.tmp 2) rfl n 0 rfl B _ BB_1.out.1 Try.underlying22 rfl LB.out.i ?_)
    | (refine wpList_load_mid rfl 43 (.tmp 3) rfl (n + 1) 0 rfl V _ BV_1.out.1 Try.underlying43 rfl LV.out.i ?_)
    | (refine wpList_load_mid rfl 22 (.tmp 2) rfl n 0 rfl B _ BB_2.out.1 Try.underlying22 rfl LB.out.i ?_)
    | (refine wpList_load_mid rfl 43 (.tmp 3) rfl (n + 1) 0 rfl V _ BV_2.out.1 Try.underlying43 rfl LV.out.i ?_)
    | (refine wpList_load_mid rfl 22 (.tmp 2) rfl n 0 rfl B _ BB_3.out.1 Try.underlying22 rfl LB.out.i ?_)
    | (refine wpList_load_mid rfl 43 (.tmp 3) rfl (n + 1) 0 rfl V _ BV_3.out.1 Try.underlying43 rfl LV.out.i ?_)
    | (refine wpList_load_mid rfl 43 (.tmp 6) rfl bBP 0 rfl P _ BP_3.out.1 Try.underlying43 rfl LP.out.i ?_)
    | (refine wpList_load_mid rfl 22 (.tmp 2) rfl n 0 rfl B _ BB_4.out.1 Try.underlying22 rfl LB.out.i ?_)
    | (refine wpList_load_mid rfl 43 (.tmp 3) rfl (n + 1) 0 rfl V _ BV_4.out.1 Try.underlying43 rfl LV.out.i ?_)
    | (refine wpList_load_mid rfl 43 (.tmp 6) rfl bBP 0 rfl P _ BP_4.out.1 Try.underlying43 rfl LP.out.i ?_)
    | (refine wpList_load_mid rfl 22 (.tmp 2) rfl n 0 rfl B _ BB_5.out.1 Try.underlying22 rfl LB.out.i ?_)
    | (refine wpList_load_mid rfl 43 (.tmp 3) rfl (n + 1) 0 rfl V _ BV_5.out.1 Try.underlying43 rfl LV.out.i ?_)
    | (refine wpList_load_mid rfl 43 (.tmp 6) rfl bBP 0 rfl P _ BP_5.out.1 Try.underlying43 rfl LP.out.i ?_)
    | (refine wpList_load_mid rfl 43 (.tmp 8) rfl bBQ 0 rfl P _ BQ_5.out.1 Try.underlying43 rfl LP.out.i ?_)
    | (refine wpList_loadw (by rfl) 43 (.tmp 6) rfl bBP 0 rfl P _ BP_5.out.1 Try.underlying43 rfl LP.out.i ?_)
    | (refine wpList_load_mid rfl 22 (.tmp 2) rfl n 0 rfl B _ BB_6.out.1 Try.underlying22 rfl LB.out.i ?_)
    | (refine wpList_load_mid rfl 43 (.tmp 3) rfl (n + 1) 0 rfl V _ BV_6.out.1 Try.underlying43 rfl LV.out.i ?_)
    | (refine wpList_load_mid rfl 43 (.tmp 6) rfl bBP 0 rfl P _ BP_6.out.1 Try.underlying43 rfl LP.out.i ?_)
    | (refine wpList_load_mid rfl 43 (.tmp 8) rfl bBQ 0 rfl P _ BQ_6.out.1 Try.underlying43 rfl LP.out.i ?_)
    | (refine wpList_load_mid rfl 22 (.tmp 2) rfl n 0 rfl B _ BB_7.out.1 Try.underlying22 rfl LB.out.i ?_)
    | (refine wpList_load_mid rfl 43 (.tmp 3) rfl (n + 1) 0 rfl V _ BV_7.out.1 Try.underlying43 rfl LV.out.i ?_)
    | (refine wpList_load_mid rfl 43 (.tmp 6) rfl bBP 0 rfl P _ BP_7.out.1 Try.underlying43 rfl LP.out.i ?_)
    | (refine wpList_load_mid rfl 43 (.tmp 8) rfl bBQ 0 rfl P _ BQ_7.out.1 Try.underlying43 rfl LP.out.i ?_)
    | (refine wpList_load_mid rfl 22 (.tmp 10) rfl bBE 0 rfl E _ BE_7.out.1 Try.underlying22 rfl LE.out.i ?_)
    | (refine wpList_load_mid rfl 22 (.tmp 2) rfl n 0 rfl B _ BB_8.out.1 Try.underlying22 rfl LB.out.i ?_)
    | (refine wpList_load_mid rfl 43 (.tmp 3) rfl (n + 1) 0 rfl V _ BV_8.out.1 Try.underlying43 rfl LV.out.i ?_)
    | (refine wpList_load_mid rfl 43 (.tmp 6) rfl bBP 0 rfl P _ BP_8.out.1 Try.underlying43 rfl LP.out.i ?_)
    | (refine wpList_load_mid rfl 43 (.tmp 8) rfl bBQ 0 rfl P _ BQ_8.out.1 Try.underlying43 rfl LP.out.i ?_)
    | (refine wpList_load_mid rfl 22 (.tmp 10) rfl bBE 0 rfl E _ BE_8.out.1 Try.underlying22 rfl LE.out.i ?_)
    | (have hq := TK_0; go_at_call 28; refine (cS _).mono ?_; rintro e w1 ⟨rfl, hb⟩; have HB_1 := (show Hid (Below we.heap.size we w1) from HB_0.out.trans (hb.mono HB_0.out.size)); have BB_1 := (show Hid (Rp w1 n 0 B) from BB_0.out.below hb); have BV_1 := (show Hid (Rp w1 (n + 1) 0 V) from BV_0.out.below hb); have TK_1 := (show Hid True from trivial); clear hq TK_0 hb HB_0 BB_0 BV_0)
    | (have hq := TK_1; go_at_call 43; refine (cD _).mono ?_; rintro e w2 ⟨rfl, hb⟩; have HB_2 := (show Hid (Below we.heap.size we w2) from HB_1.out.trans (hb.mono HB_1.out.size)); have BB_2 := (show Hid (Rp w2 n 0 B) from BB_1.out.below hb); have BV_2 := (show Hid (Rp w2 (n + 1) 0 V) from BV_1.out.below hb); have TK_2 := (show Hid True from trivial); clear hq TK_1 hb HB_1 BB_1 BV_1)
    | (have hq := TK_2; refine wpList_store_mid rfl 43 (.tmp 6) (.tmp 17) rfl w2.heap.size 0 P.toArray rfl rfl (HTH43.out P LP.out w2) LP.out.j LP.out.o ?_; simp only; have hbx := HBN43.out P LP.out w2; obtain ⟨w3, hw3⟩ : ∃ v, (w2.alloc (.cells Z43 43)).setCells w2.heap.size 0 P = v := ⟨_, rfl⟩; rw [hw3] at hbx ⊢; clear hw3; have hb := hbx.2; replace hbx := hbx.1; obtain ⟨bBP, hbBP⟩ : ∃ b, w2.heap.size = b := ⟨_, rfl⟩; rw [hbBP] at hbx ⊢; clear hbBP; have HB_3 := (show Hid (Below we.heap.size we w3) from HB_2.out.trans (hb.mono HB_2.out.size)); have BB_3 := (show Hid (Rp w3 n 0 B) from BB_2.out.below hb); have BV_3 := (show Hid (Rp w3 (n + 1) 0 V) from BV_2.out.below hb); have BP_3 := (show Hid (Rp w3 bBP 0 P) from hbx); have TK_3 := (show Hid True from trivial); clear hq TK_2 hb hbx HB_2 BB_2 BV_2)
    | (have hq := TK_3; go_at_call 44; refine (cR _).mono ?_; rintro e w4 ⟨rfl, hb⟩; have HB_4 := (show Hid (Below we.heap.size we w4) from HB_3.out.trans (hb.mono HB_3.out.size)); have BB_4 := (show Hid (Rp w4 n 0 B) from BB_3.out.below hb); have BV_4 := (show Hid (Rp w4 (n + 1) 0 V) from BV_3.out.below hb); have BP_4 := (show Hid (Rp w4 bBP 0 P) from BP_3.out.below hb); have TK_4 := (show Hid True from trivial); clear hq TK_3 hb HB_3 BB_3 BV_3 BP_3)
    | (have hq := TK_4; refine wpList_store_mid rfl 43 (.tmp 8) (.tmp 22) rfl w4.heap.size 0 P.toArray rfl rfl (HTH43.out P LP.out w4) LP.out.j LP.out.o ?_; simp only; have hbx := HBN43.out P LP.out w4; obtain ⟨w5, hw5⟩ : ∃ v, (w4.alloc (.cells Z43 43)).setCells w4.heap.size 0 P = v := ⟨_, rfl⟩; rw [hw5] at hbx ⊢; clear hw5; have hb := hbx.2; replace hbx := hbx.1; obtain ⟨bBQ, hbBQ⟩ : ∃ b, w4.heap.size = b := ⟨_, rfl⟩; rw [hbBQ] at hbx ⊢; clear hbBQ; have HB_5 := (show Hid (Below we.heap.size we w5) from HB_4.out.trans (hb.mono HB_4.out.size)); have BB_5 := (show Hid (Rp w5 n 0 B) from BB_4.out.below hb); have BV_5 := (show Hid (Rp w5 (n + 1) 0 V) from BV_4.out.below hb); have BP_5 := (show Hid (Rp w5 bBP 0 P) from BP_4.out.below hb); have BQ_5 := (show Hid (Rp w5 bBQ 0 P) from hbx); have TK_5 := (show Hid True from trivial); clear hq TK_4 hb hbx HB_4 BB_4 BV_4 BP_4)
    | (refine build_tow (by rfl) 43 _ rfl [] (by kernel_rfl) P HBN.out ?_; simp only [Act.put, List.setIfInBounds_toArray, List.set_cons_zero, List.set_cons_succ])
    | (have hq := TK_5; go_at_call 45; refine (cE _).mono ?_; rintro e w6 ⟨rfl, hb⟩; have HB_6 := (show Hid (Below we.heap.size we w6) from HB_5.out.trans (hb.mono HB_5.out.size)); have BB_6 := (show Hid (Rp w6 n 0 B) from BB_5.out.below hb); have BV_6 := (show Hid (Rp w6 (n + 1) 0 V) from BV_5.out.below hb); have BP_6 := (show Hid (Rp w6 bBP 0 P) from BP_5.out.below hb); have BQ_6 := (show Hid (Rp w6 bBQ 0 P) from BQ_5.out.below hb); have TK_6 := (show Hid True from trivial); clear hq TK_5 hb HB_5 BB_5 BV_5 BP_5 BQ_5)
    | (have hq := TK_6; refine wpList_store_mid rfl 22 (.tmp 10) (.tmp 53) rfl w6.heap.size 0 E.toArray rfl rfl (HTH22.out E LE.out w6) LE.out.j LE.out.o ?_; simp only; have hbx := HBN22.out E LE.out w6; obtain ⟨w7, hw7⟩ : ∃ v, (w6.alloc (.cells Z22 22)).setCells w6.heap.size 0 E = v := ⟨_, rfl⟩; rw [hw7] at hbx ⊢; clear hw7; have hb := hbx.2; replace hbx := hbx.1; obtain ⟨bBE, hbBE⟩ : ∃ b, w6.heap.size = b := ⟨_, rfl⟩; rw [hbBE] at hbx ⊢; clear hbBE; have HB_7 := (show Hid (Below we.heap.size we w7) from HB_6.out.trans (hb.mono HB_6.out.size)); have BB_7 := (show Hid (Rp w7 n 0 B) from BB_6.out.below hb); have BV_7 := (show Hid (Rp w7 (n + 1) 0 V) from BV_6.out.below hb); have BP_7 := (show Hid (Rp w7 bBP 0 P) from BP_6.out.below hb); have BQ_7 := (show Hid (Rp w7 bBQ 0 P) from BQ_6.out.below hb); have BE_7 := (show Hid (Rp w7 bBE 0 E) from hbx); have TK_7 := (show Hid True from trivial); clear hq TK_6 hb hbx HB_6 BB_6 BV_6 BP_6 BQ_6)
    | (have hq := TK_7; go_at_call 31; refine (cJ _).mono ?_; rintro e w8 ⟨rfl, hb⟩; have HB_8 := (show Hid (Below we.heap.size we w8) from HB_7.out.trans (hb.mono HB_7.out.size)); have BB_8 := (show Hid (Rp w8 n 0 B) from BB_7.out.below hb); have BV_8 := (show Hid (Rp w8 (n + 1) 0 V) from BV_7.out.below hb); have BP_8 := (show Hid (Rp w8 bBP 0 P) from BP_7.out.below hb); have BQ_8 := (show Hid (Rp w8 bBQ 0 P) from BQ_7.out.below hb); have BE_8 := (show Hid (Rp w8 bBE 0 E) from BE_7.out.below hb); have TK_8 := (show Hid True from trivial); clear hq TK_7 hb HB_7 BB_7 BV_7 BP_7 BQ_7 BE_7))
  have HQBE := (show Hid _ from BE_8.out.cl)
  have hne := Cl.ne w8.heap.size w8
  refine region_cl (N := w8.heap.size) (W := w8) (by kernel_rfl) (by kernel_rfl) (Below.refl _ _) ?_
  go_big_quiet_step (fail)
  go_big_quiet_step (fail)
  go_big_quiet_step (fail)
  go_big_quiet_step (fail)
  go_big_quiet_step (fail)
  go_big_quiet_step (fail)
  go_big_quiet_step (fail)
  go_big_quiet_want
  refine quiet_load 22 _ rfl bBE 0 rfl E _ HQBE.out Try.underlying22 rfl LE.out.i ?_
  simp only [Act.put, List.setIfInBounds_toArray, List.set_cons_zero, List.set_cons_succ]
  go_big_quiet_on
  go_big_quiet_step ((go_at_call 46; exact cl_of (cZ _) (Nat.le_refl _)))
  go_big_quiet_step (fail)
  go_big_quiet_step (fail)
  go_big_quiet_step (fail)
  refine wpQuiet_nil ?_
  rintro _ ⟨xq, rfl⟩
  have hb := xq.h
  have HBF := (show Hid (Below we.heap.size we xq.u) from HB_8.out.trans (hb.mono HB_8.out.size))
  go_wp2
  go_ret
  exact ⟨rfl, HBE.out.trans (HBF.out.mono HBE.out.size)⟩
end Fd
end Go.Proofs.Ytgdekigdbbldoaa

namespace Go.Proofs.Ytgdekigdbbldoaa
open Go.RowKit
namespace Fd
open Rg Pratt

/-- Both sides reckon the same. -/
theorem wq_xq (y : Nat) : wq y = Dt.xq y := by
  have e1 : mulp y y = y * y % p := rfl
  have e2 : cone % p = 1 := by decide
  unfold wq
  rw [e1]
  generalize hb : y * y % p = b
  have lb : b < p := by rw [← hb]; exact Nat.mod_lt _ (by decide)
  have e3 : subp b cone = (b + p - 1) % p := by unfold subp; rw [e2, Nat.mod_eq_of_lt lb]
  have e4 : addp cone (mulp factor b) = (factor * b % p + 1) % p := by
    unfold addp mulp
    rw [e2, Nat.mod_mod, Nat.add_comm]
  have e5 : Dt.xq y = (b + p - 1) % p * (((factor * b % p + 1) % p) ^ (p - 2) % p) % p := by unfold Dt.xq; rw [hb]
  have lo : (factor * b % p + 1) % p < p := Nat.mod_lt _ (by decide)
  rw [e3, e4, e5]
  generalize (factor * b % p + 1) % p = o at lo ⊢
  have e6 : invp o = o ^ (p - 2) % p := by unfold invp; rw [Nat.mod_eq_of_lt lo, inverseExponent_eq]
  rw [e6]
  unfold mulp
  with_reducible rfl
theorem evn_ltp (a : Nat) (h : a < p) : evn a < p := by
  unfold evn
  split
  · exact Nat.mod_lt _ (by decide)
  · exact h
theorem sub_self (X : Nat) (h : X < p) : subp 0 X = X ↔ X = 0 := by
  unfold subp
  rw [Nat.mod_eq_of_lt h, Nat.zero_mod, Nat.zero_add]
  have hodd : p % 2 = 1 := by decide
  rcases Nat.eq_zero_or_pos X with h0 | h0
  · rw [h0, Nat.sub_zero, Nat.mod_self]
  · rw [Nat.mod_eq_of_lt (Nat.sub_lt (Nat.lt_of_le_of_lt (Nat.zero_le _) h) h0)]
    omega
/-- CurveBytes answers true. -/
theorem curveBytes_law (b x y : Nat) (lb : b < 115792089237316195423570985008687907853269984665640564039457584007913129639936) (lx : x < 115792089237316195423570985008687907853269984665640564039457584007913129639936) (ly : y < 115792089237316195423570985008687907853269984665640564039457584007913129639936) (w : World) :
    Calls Try.prog 10 #[bv b, pv x y] w fun e w' => e = .returned (.bool true) ∧ Below w.heap.size w w' := by
  obtain ⟨c, hc⟩ : ∃ c, b % 57896044618658097711785492504343953926634992332820282019728792003956564819968 = c := ⟨_, rfl⟩
  obtain ⟨o, ho⟩ : ∃ o, b / 57896044618658097711785492504343953926634992332820282019728792003956564819968 = o := ⟨_, rfl⟩
  have ol : o = 0 ∨ o = 1 := by omega
  have lc : c < 115792089237316195423570985008687907853269984665640564039457584007913129639936 := by omega
  have nn : ∀ (cD : ∀ W : World, Calls Try.prog 43 #[bv b] W fun e w' => e = .returned (.tuple #[pv 0 0, .iface 35 (.int .i64 29)]) ∧ Below W.heap.size W w') (cR : ∀ W : World, Calls Try.prog 44 #[bv b] W fun e w' => e = .returned (.tuple #[pv 0 0, .bool false]) ∧ Below W.heap.size W w'), Calls Try.prog 10 #[bv b, pv x y] w fun e w' => e = .returned (.bool true) ∧ Below w.heap.size w w' := fun cD cR =>
    if hon : OnC x y then bytes_none_on b x y 0 0 cD cR (by decide) (by decide) ⟨rfl, rfl⟩ lx ly hon w else bytes_none_off b x y 0 0 cD cR (by decide) (by decide) ⟨rfl, rfl⟩ lx ly hon w
  have ss : ∀ (px py : Nat) (_ : px < 115792089237316195423570985008687907853269984665640564039457584007913129639936) (_ : py < 115792089237316195423570985008687907853269984665640564039457584007913129639936) (cD : ∀ W : World, Calls Try.prog 43 #[bv b] W fun e w' => e = .returned (.tuple #[pv px py, .nilIface]) ∧ Below W.heap.size W w') (cR : ∀ W : World, Calls Try.prog 44 #[bv b] W fun e w' => e = .returned (.tuple #[pv px py, .bool true]) ∧ Below W.heap.size W w'), Calls Try.prog 10 #[bv b, pv x y] w fun e w' => e = .returned (.bool true) ∧ Below w.heap.size w w' := fun px py lp lq cD cR =>
    if hon : OnC x y then bytes_some_on b x y px py cD cR lp lq lx ly hon w else bytes_some_off b x y px py cD cR lp lq lx ly hon w
  by_cases hp : c < p
  · have hw := wq_xq c
    have hrt := rt_lt (wq c)
    by_cases hr : rt (wq c) * rt (wq c) % p = wq c
    · have hr2 := hr
      rw [hw] at hr2
      have hX := evn_ltp _ hrt
      have hXb := evn_lt _ hrt
      rcases ol with rfl | rfl
      · refine ss (evn (rt (wq c))) c hXb lc (fun W => decode_c b c 0 W lb hc ho hp hr rfl hrt) (fun W => ?_)
        rw [hw]
        exact Dt.rdecode_c0 b c W lb hc ho hp hr2
      · by_cases h0 : evn (rt (wq c)) = 0
        · refine nn (fun W => decode_d b c 1 W lb hc ho hp hr rfl ((sub_self _ hX).2 h0) hrt) (fun W => ?_)
          rw [hw] at h0
          exact Dt.rdecode_d1 b c W lb hc ho hp hr2 h0
        · have e1 : redp c = c := Nat.mod_eq_of_lt hp
          have e2 : subp 0 (evn (rt (wq c))) = (0 + p - evn (rt (Dt.xq c))) % p := by
            unfold subp
            rw [Nat.mod_eq_of_lt hX, Nat.zero_mod, hw]
          refine ss ((0 + p - evn (rt (Dt.xq c))) % p) c (Nat.lt_trans (Nat.mod_lt _ (by decide)) (by decide : p < _)) lc (fun W => ?_) (fun W => ?_)
          · have h := decode_e b c 1 W lb hc ho hp hr rfl (fun h => h0 ((sub_self _ hX).1 h)) hrt
            rwa [e1, e2] at h
          · rw [hw] at h0 hX
            exact Dt.rdecode_e1 b c W lb hc ho hp hr2 h0 hX
    · have hr2 := hr
      rw [hw] at hr2
      refine nn (fun W => decode_b b c o W lb hc ho hp hr) (fun W => ?_)
      rcases ol with rfl | rfl
      · exact Dt.rdecode_b0 b c W lb hc ho hp hr2
      · exact Dt.rdecode_b1 b c W lb hc ho hp hr2
  · refine nn (fun W => decode_a b c o W lb hc ho hp) (fun W => ?_)
    rcases ol with rfl | rfl
    · exact Dt.rdecode_a0 b c W lb hc ho hp
    · exact Dt.rdecode_a1 b c W lb hc ho hp
end Fd
end Go.Proofs.Ytgdekigdbbldoaa

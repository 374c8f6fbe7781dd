/- What the statements' shown answers: true. -/
import Derived.Test.YtgdekigdbbldoaaFw
namespace Go.Proofs.Ytgdekigdbbldoaa
open Go.RowKit
namespace Fd
open Rg Pratt

set_option maxHeartbeats 8000000 in
set_option maxRecDepth 8000 in
theorem shown_any (w : World) : Calls Try.prog 13 #[] w fun e w' => e = .returned (.bool true) ∧ Below w.heap.size w w' := by
  have c0 : ∀ W : World, Calls Try.prog 24 #[.int .u8 0] W fun e w' => e = .returned (bv 0) ∧ Below W.heap.size W w' := fun W => small_any 0 W (by decide)
  have c1 : ∀ W : World, Calls Try.prog 24 #[.int .u8 1] W fun e w' => e = .returned (bv 1) ∧ Below W.heap.size W w' := fun W => small_any 1 W (by decide)
  have c2 : ∀ W : World, Calls Try.prog 24 #[.int .u8 2] W fun e w' => e = .returned (bv 2) ∧ Below W.heap.size W w' := fun W => small_any 2 W (by decide)
  have c4 : ∀ W : World, Calls Try.prog 24 #[.int .u8 4] W fun e w' => e = .returned (bv 4) ∧ Below W.heap.size W w' := fun W => small_any 4 W (by decide)
  obtain ⟨i2, hi2l, hi2m, _, cI⟩ := inv_at 2 (by decide) (by decide)
  have cZ : ∀ W : World, Calls Try.prog 23 #[bv p] W fun e w' => e = .returned (.tuple #[bv 0, .iface 35 (.int .i64 28)]) ∧ Below W.heap.size W w' := fun W => inv_zero p W (by decide) (Nat.mod_self p)
  have cR4 := root4
  have cR2 := root2
  have cRed : ∀ W : World, Calls Try.prog 22 #[bv p] W fun e w' => e = .returned (bv 0) ∧ Below W.heap.size W w' := fun W => by have h := reduce_any p W (by decide); rwa [Nat.mod_self] at h
  have cM : ∀ W : World, Calls Try.prog 20 #[bv 2, bv i2] W fun e w' => e = .returned (bv 1) ∧ Below W.heap.size W w' := fun W => by have h := mul_any 2 i2 W (by decide) (Nat.lt_trans hi2l (by decide)); rwa [hi2m] at h
  have HBY : Hid (∀ (W : World) (v : Value), Dt.Num W v p → Calls Try.prog 16 #[v] W fun e w' => e = .returned (bv p) ∧ Below W.heap.size W w') := fun W v h => Dt.bytes_num h
  have q0 : ∀ W : World, (Op.equalIn 10000 22 (.agg (bvc 0).toArray) (.agg (bvc 0).toArray)).run Try.prog W = .ok true W := fun W => by have h := eq22 0 0 W (by decide) (by decide); rwa [decide_eq_true rfl] at h
  have q1 : ∀ W : World, (Op.equalIn 10000 22 (.agg (bvc 1).toArray) (.agg (bvc 1).toArray)).run Try.prog W = .ok true W := fun W => by have h := eq22 1 1 W (by decide) (by decide); rwa [decide_eq_true rfl] at h
  have q2 : ∀ W : World, (Op.equalIn 10000 22 (.agg (bvc 2).toArray) (.agg (bvc 2).toArray)).run Try.prog W = .ok true W := fun W => by have h := eq22 2 2 W (by decide) (by decide); rwa [decide_eq_true rfl] at h
  have en := eq_nil
  have e28 : ∀ W : World, (binOp .eql 32 (.iface 35 (.int .i64 28)) (.iface 35 (.int .i64 28))).run Try.prog W = .ok (.bool true) W := fun W => bin_err 28 28 W
  have e9 : ∀ W : World, (binOp .eql 32 (.iface 35 (.int .i64 9)) (.iface 35 (.int .i64 9))).run Try.prog W = .ok (.bool true) W := fun W => bin_err 9 9 W
  have LX0 : Hid (L32 (bvc 0)) := l32 0
  have LX2 : Hid (L32 (bvc 2)) := l32 2
  have LXP : Hid (L32 (bvc p)) := l32 p
  have LXI : Hid (L32 (bvc i2)) := l32 i2
  unfold bv at c0 c1 c2 c4 cI cZ cR4 cR2 cRed cM HBY
  obtain ⟨X0, h0⟩ : ∃ X, bvc 0 = X := ⟨_, rfl⟩
  obtain ⟨X1, h1⟩ : ∃ X, bvc 1 = X := ⟨_, rfl⟩
  obtain ⟨X2, h2⟩ : ∃ X, bvc 2 = X := ⟨_, rfl⟩
  obtain ⟨X4, h4⟩ : ∃ X, bvc 4 = X := ⟨_, rfl⟩
  obtain ⟨XP, hP⟩ : ∃ X, bvc p = X := ⟨_, rfl⟩
  obtain ⟨XI, hI⟩ : ∃ X, bvc i2 = X := ⟨_, rfl⟩
  rw [h0] at c0 cZ cR2 cRed q0 LX0
  rw [h1] at c1 cM q1
  rw [h2] at c2 cI cR4 cR2 cM q2 LX2
  rw [h4] at c4 cR4
  rw [hP] at cZ cRed HBY LXP
  rw [hI] at cI cM LXI
  have hz := zero22
  have HBN : Hid (∀ (W : World) (R : List Value), R.length = 32 → Bo ((W.alloc (.cells z22 22)).setCells W.heap.size 0 R) W.heap.size R ∧ Below W.heap.size W ((W.alloc (.cells z22 22)).setCells W.heap.size 0 R)) := box_new
  have HLT : Hid (∀ (R : List Value), L32 R → ∀ W : World, (W.alloc (.cells z22 22)).there W.heap.size 0 R.toArray.size) := fun R h => h.t
  obtain ⟨Z, hZ⟩ : ∃ Z, z22 = Z := ⟨_, rfl⟩
  rw [hZ] at hz HBN HLT
  clear h0 h1 h2 h4 hP hI hZ hi2l hi2m
  have HB_0 := (show Hid (Below w.heap.size w w) from Below.refl _ _)
  have TK_0 := (show Hid True from trivial)
  go_enter Try.func13, Try.ntmps13
  go_wp2_with (first
    | (refine wpList_load_mid rfl 22 (.tmp 1) rfl bBP 0 rfl XP _ BP_3.out.1 Try.underlying22 rfl LXP.out.i ?_)
    | (refine wpList_load_mid rfl 22 (.tmp 1) rfl bBP 0 rfl XP _ BP_4.out.1 Try.underlying22 rfl LXP.out.i ?_)
    | (refine wpList_load_mid rfl 22 (.tmp 1) rfl bBP 0 rfl XP _ BP_5.out.1 Try.underlying22 rfl LXP.out.i ?_)
    | (refine wpList_load_mid rfl 22 (.tmp 1) rfl bBP 0 rfl XP _ BP_6.out.1 Try.underlying22 rfl LXP.out.i ?_)
    | (refine wpList_load_mid rfl 22 (.tmp 2) rfl bBI 0 rfl XI _ BI_6.out.1 Try.underlying22 rfl LXI.out.i ?_)
    | (refine wpList_load_mid rfl 22 (.tmp 1) rfl bBP 0 rfl XP _ BP_7.out.1 Try.underlying22 rfl LXP.out.i ?_)
    | (refine wpList_load_mid rfl 22 (.tmp 2) rfl bBI 0 rfl XI _ BI_7.out.1 Try.underlying22 rfl LXI.out.i ?_)
    | (refine wpList_load_mid rfl 22 (.tmp 1) rfl bBP 0 rfl XP _ BP_8.out.1 Try.underlying22 rfl LXP.out.i ?_)
    | (refine wpList_load_mid rfl 22 (.tmp 2) rfl bBI 0 rfl XI _ BI_8.out.1 Try.underlying22 rfl LXI.out.i ?_)
    | (refine wpList_load_mid rfl 22 (.tmp 4) rfl bBZ 0 rfl X0 _ BZ_8.out.1 Try.underlying22 rfl LX0.out.i ?_)
    | (refine wpList_load_mid rfl 22 (.tmp 1) rfl bBP 0 rfl XP _ BP_9.out.1 Try.underlying22 rfl LXP.out.i ?_)
    | (refine wpList_load_mid rfl 22 (.tmp 2) rfl bBI 0 rfl XI _ BI_9.out.1 Try.underlying22 rfl LXI.out.i ?_)
    | (refine wpList_load_mid rfl 22 (.tmp 4) rfl bBZ 0 rfl X0 _ BZ_9.out.1 Try.underlying22 rfl LX0.out.i ?_)
    | (refine wpList_load_mid rfl 22 (.tmp 1) rfl bBP 0 rfl XP _ BP_10.out.1 Try.underlying22 rfl LXP.out.i ?_)
    | (refine wpList_load_mid rfl 22 (.tmp 2) rfl bBI 0 rfl XI _ BI_10.out.1 Try.underlying22 rfl LXI.out.i ?_)
    | (refine wpList_load_mid rfl 22 (.tmp 4) rfl bBZ 0 rfl X0 _ BZ_10.out.1 Try.underlying22 rfl LX0.out.i ?_)
    | (refine wpList_load_mid rfl 22 (.tmp 1) rfl bBP 0 rfl XP _ BP_11.out.1 Try.underlying22 rfl LXP.out.i ?_)
    | (refine wpList_load_mid rfl 22 (.tmp 2) rfl bBI 0 rfl XI _ BI_11.out.1 Try.underlying22 rfl LXI.out.i ?_)
    | (refine wpList_load_mid rfl 22 (.tmp 4) rfl bBZ 0 rfl X0 _ BZ_11.out.1 Try.underlying22 rfl LX0.out.i ?_)
    | (refine wpList_load_mid rfl 22 (.tmp 6) rfl bBR 0 rfl X2 _ BR_11.out.1 Try.underlying22 rfl LX2.out.i ?_)
    | (refine wpList_load_mid rfl 22 (.tmp 1) rfl bBP 0 rfl XP _ BP_12.out.1 Try.underlying22 rfl LXP.out.i ?_)
    | (refine wpList_load_mid rfl 22 (.tmp 2) rfl bBI 0 rfl XI _ BI_12.out.1 Try.underlying22 rfl LXI.out.i ?_)
    | (refine wpList_load_mid rfl 22 (.tmp 4) rfl bBZ 0 rfl X0 _ BZ_12.out.1 Try.underlying22 rfl LX0.out.i ?_)
    | (refine wpList_load_mid rfl 22 (.tmp 6) rfl bBR 0 rfl X2 _ BR_12.out.1 Try.underlying22 rfl LX2.out.i ?_)
    | (refine wpList_load_mid rfl 22 (.tmp 1) rfl bBP 0 rfl XP _ BP_13.out.1 Try.underlying22 rfl LXP.out.i ?_)
    | (refine wpList_load_mid rfl 22 (.tmp 2) rfl bBI 0 rfl XI _ BI_13.out.1 Try.underlying22 rfl LXI.out.i ?_)
    | (refine wpList_load_mid rfl 22 (.tmp 4) rfl bBZ 0 rfl X0 _ BZ_13.out.1 Try.underlying22 rfl LX0.out.i ?_)
    | (refine wpList_load_mid rfl 22 (.tmp 6) rfl bBR 0 rfl X2 _ BR_13.out.1 Try.underlying22 rfl LX2.out.i ?_)
    | (refine wpList_load_mid rfl 22 (.tmp 1) rfl bBP 0 rfl XP _ BP_14.out.1 Try.underlying22 rfl LXP.out.i ?_)
    | (refine wpList_load_mid rfl 22 (.tmp 2) rfl bBI 0 rfl XI _ BI_14.out.1 Try.underlying22 rfl LXI.out.i ?_)
    | (refine wpList_load_mid rfl 22 (.tmp 4) rfl bBZ 0 rfl X0 _ BZ_14.out.1 Try.underlying22 rfl LX0.out.i ?_)
    | (refine wpList_load_mid rfl 22 (.tmp 6) rfl bBR 0 rfl X2 _ BR_14.out.1 Try.underlying22 rfl LX2.out.i ?_)
    | (refine wpList_load_mid rfl 22 (.tmp 8) rfl bBS 0 rfl X0 _ BS_14.out.1 Try.underlying22 rfl LX0.out.i ?_)
    | (have hq := TK_0; go_at_call 56; refine (Dt.p_num w).mono ?_; rintro e w1 ⟨vp, rfl, hn, hb⟩; have HB_1 := (show Hid (Below w.heap.size w w1) from HB_0.out.trans (hb.mono HB_0.out.size)); have HP_1 := (show Hid (Dt.Num w1 vp p) from hn); have TK_1 := (show Hid True from trivial); clear hq TK_0 hb HB_0  hn)
    | (have hq := TK_1; go_at_call 16; refine (HBY.out _ _ (HP_1.out)).mono ?_; rintro e w2 ⟨rfl, hb⟩; have HB_2 := (show Hid (Below w.heap.size w w2) from HB_1.out.trans (hb.mono HB_1.out.size)); have TK_2 := (show Hid True from trivial); clear hq TK_1 hb HB_1 HP_1)
    | (have hq := TK_2; refine wpList_store_mid rfl 22 (.tmp 1) (.tmp 11) rfl w2.heap.size 0 XP.toArray rfl rfl (HLT.out XP LXP.out w2) LXP.out.j LXP.out.o ?_; simp only; have hbx := HBN.out w2 XP LXP.out.l; obtain ⟨w3, hw3⟩ : ∃ v, (w2.alloc (.cells Z 22)).setCells w2.heap.size 0 XP = v := ⟨_, rfl⟩; rw [hw3] at hbx ⊢; clear hw3; have hb := hbx.2; replace hbx := hbx.1; obtain ⟨bBP, hbBP⟩ : ∃ b, w2.heap.size = b := ⟨_, rfl⟩; rw [hbBP] at hbx ⊢; clear hbBP; have HB_3 := (show Hid (Below w.heap.size w w3) from HB_2.out.trans (hb.mono HB_2.out.size)); have BP_3 := (show Hid (Bo w3 bBP XP) from hbx); have TK_3 := (show Hid True from trivial); clear hq TK_2 hb HB_2  hbx)
    | (have hq := TK_3; go_at_call 24; refine (c2 _).mono ?_; rintro e w4 ⟨rfl, hb⟩; have HB_4 := (show Hid (Below w.heap.size w w4) from HB_3.out.trans (hb.mono HB_3.out.size)); have BP_4 := (show Hid (Bo w4 bBP XP) from BP_3.out.below hb); have TK_4 := (show Hid True from trivial); clear hq TK_3 hb HB_3 BP_3)
    | (have hq := TK_4; go_at_call 23; refine (cI _).mono ?_; rintro e w5 ⟨rfl, hb⟩; have HB_5 := (show Hid (Below w.heap.size w w5) from HB_4.out.trans (hb.mono HB_4.out.size)); have BP_5 := (show Hid (Bo w5 bBP XP) from BP_4.out.below hb); have TK_5 := (show Hid True from trivial); clear hq TK_4 hb HB_4 BP_4)
    | (have hq := TK_5; refine wpList_store_mid rfl 22 (.tmp 2) (.tmp 15) rfl w5.heap.size 0 XI.toArray rfl rfl (HLT.out XI LXI.out w5) LXI.out.j LXI.out.o ?_; simp only; have hbx := HBN.out w5 XI LXI.out.l; obtain ⟨w6, hw6⟩ : ∃ v, (w5.alloc (.cells Z 22)).setCells w5.heap.size 0 XI = v := ⟨_, rfl⟩; rw [hw6] at hbx ⊢; clear hw6; have hb := hbx.2; replace hbx := hbx.1; obtain ⟨bBI, hbBI⟩ : ∃ b, w5.heap.size = b := ⟨_, rfl⟩; rw [hbBI] at hbx ⊢; clear hbBI; have HB_6 := (show Hid (Below w.heap.size w w6) from HB_5.out.trans (hb.mono HB_5.out.size)); have BP_6 := (show Hid (Bo w6 bBP XP) from BP_5.out.below hb); have BI_6 := (show Hid (Bo w6 bBI XI) from hbx); have TK_6 := (show Hid True from trivial); clear hq TK_5 hb HB_5 BP_5 hbx)
    | (have hq := TK_6; go_at_call 23; refine (cZ _).mono ?_; rintro e w7 ⟨rfl, hb⟩; have HB_7 := (show Hid (Below w.heap.size w w7) from HB_6.out.trans (hb.mono HB_6.out.size)); have BP_7 := (show Hid (Bo w7 bBP XP) from BP_6.out.below hb); have BI_7 := (show Hid (Bo w7 bBI XI) from BI_6.out.below hb); have TK_7 := (show Hid True from trivial); clear hq TK_6 hb HB_6 BP_6 BI_6)
    | (have hq := TK_7; refine wpList_store_mid rfl 22 (.tmp 4) (.tmp 20) rfl w7.heap.size 0 X0.toArray rfl rfl (HLT.out X0 LX0.out w7) LX0.out.j LX0.out.o ?_; simp only; have hbx := HBN.out w7 X0 LX0.out.l; obtain ⟨w8, hw8⟩ : ∃ v, (w7.alloc (.cells Z 22)).setCells w7.heap.size 0 X0 = v := ⟨_, rfl⟩; rw [hw8] at hbx ⊢; clear hw8; have hb := hbx.2; replace hbx := hbx.1; obtain ⟨bBZ, hbBZ⟩ : ∃ b, w7.heap.size = b := ⟨_, rfl⟩; rw [hbBZ] at hbx ⊢; clear hbBZ; have HB_8 := (show Hid (Below w.heap.size w w8) from HB_7.out.trans (hb.mono HB_7.out.size)); have BP_8 := (show Hid (Bo w8 bBP XP) from BP_7.out.below hb); have BI_8 := (show Hid (Bo w8 bBI XI) from BI_7.out.below hb); have BZ_8 := (show Hid (Bo w8 bBZ X0) from hbx); have TK_8 := (show Hid True from trivial); clear hq TK_7 hb HB_7 BP_7 BI_7 hbx)
    | (have hq := TK_8; go_at_call 24; refine (c4 _).mono ?_; rintro e w9 ⟨rfl, hb⟩; have HB_9 := (show Hid (Below w.heap.size w w9) from HB_8.out.trans (hb.mono HB_8.out.size)); have BP_9 := (show Hid (Bo w9 bBP XP) from BP_8.out.below hb); have BI_9 := (show Hid (Bo w9 bBI XI) from BI_8.out.below hb); have BZ_9 := (show Hid (Bo w9 bBZ X0) from BZ_8.out.below hb); have TK_9 := (show Hid True from trivial); clear hq TK_8 hb HB_8 BP_8 BI_8 BZ_8)
    | (have hq := TK_9; go_at_call 26; refine (cR4 _).mono ?_; rintro e w10 ⟨rfl, hb⟩; have HB_10 := (show Hid (Below w.heap.size w w10) from HB_9.out.trans (hb.mono HB_9.out.size)); have BP_10 := (show Hid (Bo w10 bBP XP) from BP_9.out.below hb); have BI_10 := (show Hid (Bo w10 bBI XI) from BI_9.out.below hb); have BZ_10 := (show Hid (Bo w10 bBZ X0) from BZ_9.out.below hb); have TK_10 := (show Hid True from trivial); clear hq TK_9 hb HB_9 BP_9 BI_9 BZ_9)
    | (have hq := TK_10; refine wpList_store_mid rfl 22 (.tmp 6) (.tmp 25) rfl w10.heap.size 0 X2.toArray rfl rfl (HLT.out X2 LX2.out w10) LX2.out.j LX2.out.o ?_; simp only; have hbx := HBN.out w10 X2 LX2.out.l; obtain ⟨w11, hw11⟩ : ∃ v, (w10.alloc (.cells Z 22)).setCells w10.heap.size 0 X2 = v := ⟨_, rfl⟩; rw [hw11] at hbx ⊢; clear hw11; have hb := hbx.2; replace hbx := hbx.1; obtain ⟨bBR, hbBR⟩ : ∃ b, w10.heap.size = b := ⟨_, rfl⟩; rw [hbBR] at hbx ⊢; clear hbBR; have HB_11 := (show Hid (Below w.heap.size w w11) from HB_10.out.trans (hb.mono HB_10.out.size)); have BP_11 := (show Hid (Bo w11 bBP XP) from BP_10.out.below hb); have BI_11 := (show Hid (Bo w11 bBI XI) from BI_10.out.below hb); have BZ_11 := (show Hid (Bo w11 bBZ X0) from BZ_10.out.below hb); have BR_11 := (show Hid (Bo w11 bBR X2) from hbx); have TK_11 := (show Hid True from trivial); clear hq TK_10 hb HB_10 BP_10 BI_10 BZ_10 hbx)
    | (have hq := TK_11; go_at_call 24; refine (c2 _).mono ?_; rintro e w12 ⟨rfl, hb⟩; have HB_12 := (show Hid (Below w.heap.size w w12) from HB_11.out.trans (hb.mono HB_11.out.size)); have BP_12 := (show Hid (Bo w12 bBP XP) from BP_11.out.below hb); have BI_12 := (show Hid (Bo w12 bBI XI) from BI_11.out.below hb); have BZ_12 := (show Hid (Bo w12 bBZ X0) from BZ_11.out.below hb); have BR_12 := (show Hid (Bo w12 bBR X2) from BR_11.out.below hb); have TK_12 := (show Hid True from trivial); clear hq TK_11 hb HB_11 BP_11 BI_11 BZ_11 BR_11)
    | (have hq := TK_12; go_at_call 26; refine (cR2 _).mono ?_; rintro e w13 ⟨rfl, hb⟩; have HB_13 := (show Hid (Below w.heap.size w w13) from HB_12.out.trans (hb.mono HB_12.out.size)); have BP_13 := (show Hid (Bo w13 bBP XP) from BP_12.out.below hb); have BI_13 := (show Hid (Bo w13 bBI XI) from BI_12.out.below hb); have BZ_13 := (show Hid (Bo w13 bBZ X0) from BZ_12.out.below hb); have BR_13 := (show Hid (Bo w13 bBR X2) from BR_12.out.below hb); have TK_13 := (show Hid True from trivial); clear hq TK_12 hb HB_12 BP_12 BI_12 BZ_12 BR_12)
    | (have hq := TK_13; refine wpList_store_mid rfl 22 (.tmp 8) (.tmp 30) rfl w13.heap.size 0 X0.toArray rfl rfl (HLT.out X0 LX0.out w13) LX0.out.j LX0.out.o ?_; simp only; have hbx := HBN.out w13 X0 LX0.out.l; obtain ⟨w14, hw14⟩ : ∃ v, (w13.alloc (.cells Z 22)).setCells w13.heap.size 0 X0 = v := ⟨_, rfl⟩; rw [hw14] at hbx ⊢; clear hw14; have hb := hbx.2; replace hbx := hbx.1; obtain ⟨bBS, hbBS⟩ : ∃ b, w13.heap.size = b := ⟨_, rfl⟩; rw [hbBS] at hbx ⊢; clear hbBS; have HB_14 := (show Hid (Below w.heap.size w w14) from HB_13.out.trans (hb.mono HB_13.out.size)); have BP_14 := (show Hid (Bo w14 bBP XP) from BP_13.out.below hb); have BI_14 := (show Hid (Bo w14 bBI XI) from BI_13.out.below hb); have BZ_14 := (show Hid (Bo w14 bBZ X0) from BZ_13.out.below hb); have BR_14 := (show Hid (Bo w14 bBR X2) from BR_13.out.below hb); have BS_14 := (show Hid (Bo w14 bBS X0) from hbx); have TK_14 := (show Hid True from trivial); clear hq TK_13 hb HB_13 BP_13 BI_13 BZ_13 BR_13 hbx))
  have HQBP := (show Hid _ from BP_14.out.cl)
  have HQBI := (show Hid _ from BI_14.out.cl)
  have HQBZ := (show Hid _ from BZ_14.out.cl)
  have HQBR := (show Hid _ from BR_14.out.cl)
  have HQBS := (show Hid _ from BS_14.out.cl)
  have hne := Cl.ne w14.heap.size w14
  refine region_cl (N := w14.heap.size) (W := w14) (by kernel_rfl) (by kernel_rfl) (Below.refl _ _) ?_
  repeat (first
    | (go_big_quiet_want; (first | (refine quiet_load 22 _ rfl bBP 0 rfl XP _ HQBP.out Try.underlying22 rfl LXP.out.i ?_) | (refine quiet_load 22 _ rfl bBI 0 rfl XI _ HQBI.out Try.underlying22 rfl LXI.out.i ?_) | (refine quiet_load 22 _ rfl bBZ 0 rfl X0 _ HQBZ.out Try.underlying22 rfl LX0.out.i ?_) | (refine quiet_load 22 _ rfl bBR 0 rfl X2 _ HQBR.out Try.underlying22 rfl LX2.out.i ?_) | (refine quiet_load 22 _ rfl bBS 0 rfl X0 _ HQBS.out Try.underlying22 rfl LX0.out.i ?_)); simp only [Act.put, List.setIfInBounds_toArray, List.set_cons_zero, List.set_cons_succ]; go_big_quiet_on)
    | go_big_quiet_step ((first | (go_at_call 22; exact cl_of (cRed _) (Nat.le_refl _)) | (go_at_call 24; exact cl_of (c0 _) (Nat.le_refl _)) | (go_at_call 24; exact cl_of (c1 _) (Nat.le_refl _)) | (go_at_call 24; exact cl_of (c2 _) (Nat.le_refl _)) | (go_at_call 20; exact cl_of (cM _) (Nat.le_refl _)))))
  refine wpQuiet_nil ?_
  rintro _ ⟨xq, rfl⟩
  have hb := xq.h
  have HB_15 := (show Hid (Below w.heap.size w xq.u) from HB_14.out.trans (hb.mono HB_14.out.size))
  have BP_15 := (show Hid (Bo xq.u bBP XP) from BP_14.out.below hb)
  have BI_15 := (show Hid (Bo xq.u bBI XI) from BI_14.out.below hb)
  have BZ_15 := (show Hid (Bo xq.u bBZ X0) from BZ_14.out.below hb)
  have BR_15 := (show Hid (Bo xq.u bBR X2) from BR_14.out.below hb)
  have BS_15 := (show Hid (Bo xq.u bBS X0) from BS_14.out.below hb)
  obtain ⟨w15, hw15⟩ : ∃ v, xq.u = v := ⟨_, rfl⟩
  rw [hw15] at HB_15 BP_15 BI_15 BZ_15 BR_15 BS_15 ⊢
  clear hw15 hb xq hne HB_14 BP_14 BI_14 BZ_14 BR_14 BS_14 HQBP HQBI HQBZ HQBR HQBS
  go_wp2
  go_ret
  exact ⟨rfl, HB_15.out⟩
end Fd
end Go.Proofs.Ytgdekigdbbldoaa

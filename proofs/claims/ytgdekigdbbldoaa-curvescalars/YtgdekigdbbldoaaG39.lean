/- What shown of layer 7 answers: true. The reference's Rest: a contract, by walking its text. -/
import Derived.Test.YtgdekigdbbldoaaG31
import Derived.Test.YtgdekigdbbldoaaG36
import Derived.Test.YtgdekigdbbldoaaG38
namespace Go.Proofs.Ytgdekigdbbldoaa
open Go.RowKit
namespace Fd
open Rg Pratt

theorem box43 (R : List Value) (h : L64 R) (W : World) : Rp ((W.alloc (.cells z43 43)).setCells W.heap.size 0 R) W.heap.size 0 R ∧ Below W.heap.size W ((W.alloc (.cells z43 43)).setCells W.heap.size 0 R) :=
  ⟨⟨World.rangeAt_setCells_same _ _ _ _ (by rw [h.l]; exact there43 W), by rw [size_setCells, size_alloc]; omega⟩, below_setCells ((Below.refl _ _).alloc (Nat.le_refl _) _) (Nat.le_refl _)⟩
theorem box22 (R : List Value) (h : L32 R) (W : World) : Rp ((W.alloc (.cells z22 22)).setCells W.heap.size 0 R) W.heap.size 0 R ∧ Below W.heap.size W ((W.alloc (.cells z22 22)).setCells W.heap.size 0 R) := box_new W R h.l
theorem th43 (R : List Value) (h : L64 R) (W : World) : (W.alloc (.cells z43 43)).there W.heap.size 0 R.toArray.size := by have e : R.toArray.size = 64 := (List.size_toArray ..).trans h.l; rw [e]; exact there43 W
theorem th22 (R : List Value) (h : L32 R) (W : World) : (W.alloc (.cells z22 22)).there W.heap.size 0 R.toArray.size := h.t W
theorem base_on : OnC baseX baseY := by decide +kernel
theorem nbase_on : OnC (subp 0 baseX) (redp baseY) := by decide +kernel
theorem bx_lt : baseX < 115792089237316195423570985008687907853269984665640564039457584007913129639936 := by decide
theorem by_lt' : baseY < 115792089237316195423570985008687907853269984665640564039457584007913129639936 := by decide
/-- What the base point and its negative come to. -/
theorem base_sum (s : Frac) (hs : sumF ⟨baseX, baseY, cone⟩ ⟨subp 0 baseX, redp baseY, cone⟩ = s) : ¬ s.u % p = 0 ∧ mulp s.x (invp s.u) = 0 ∧ mulp s.y (invp s.u) = 1 := by
  have h1 : s.x = 0 := by rw [← hs]; decide +kernel
  have h2 : s.y = s.u := by rw [← hs]; decide +kernel
  have h3 : s.u < p ∧ 0 < s.u := by rw [← hs]; decide +kernel
  have h4 : s.u % p = s.u := Nat.mod_eq_of_lt h3.1
  refine ⟨by rw [h4]; omega, by rw [h1]; unfold mulp; rw [Nat.zero_mul]; rfl, ?_⟩
  rw [h2]
  unfold mulp invp
  rw [h4, inverseExponent_eq]
  exact inv_mul s.u h3.2 h3.1
theorem enc_base : by_ (encp baseX baseY) 0 = 88 ∧ by_ (encp baseX baseY) 1 = 102 ∧ by_ (encp baseX baseY) 31 = 102 := by decide +kernel
set_option maxHeartbeats 4000000 in
set_option maxRecDepth 8000 in
theorem shown7_any (w : World) : Calls Try.prog 28 #[] w fun e w' => e = .returned (.bool true) ∧ Below w.heap.size w w' := by
  have cB : ∀ W : World, Calls Try.prog 30 #[] W fun e w' => e = .returned (pv baseX baseY) ∧ Below W.heap.size W w' := base_any
  have cE : ∀ W : World, Calls Try.prog 45 #[pv baseX baseY] W fun e w' => e = .returned (.tuple #[bv (encp baseX baseY), .nilIface]) ∧ Below W.heap.size W w' := fun W => encode_ok baseX baseY W bx_lt by_lt' base_on
  have cN : ∀ W : World, Calls Try.prog 36 #[pv baseX baseY] W fun e w' => e = .returned (.tuple #[pv (subp 0 baseX) (redp baseY), .nilIface]) ∧ Below W.heap.size W w' := fun W => neg_ok baseX baseY W bx_lt by_lt' base_on
  obtain ⟨s, hs⟩ : ∃ s, sumF ⟨baseX, baseY, cone⟩ ⟨subp 0 baseX, redp baseY, cone⟩ = s := ⟨_, rfl⟩
  obtain ⟨hs1, hs2, hs3⟩ := base_sum s hs
  have cA : ∀ W : World, Calls Try.prog 35 #[pv baseX baseY, pv (subp 0 baseX) (redp baseY)] W fun e w' => e = .returned (.tuple #[pv 0 1, .nilIface]) ∧ Below W.heap.size W w' := fun W => by
    have h := add_ok baseX baseY (subp 0 baseX) (redp baseY) W bx_lt by_lt' (subp_lt _ _) (redp_lt _) base_on nbase_on s hs hs1
    rwa [hs2, hs3] at h
  clear hs hs1 hs2 hs3 s
  have HO : Hid (∀ W : World, Calls Try.prog 53 #[] W fun e w' => ∃ v, e = .returned v ∧ Dt.Num w' v ell ∧ Below W.heap.size W w') := Dt.order_num
  have HBY : Hid (∀ (W : World) (v : Value), Dt.Num W v ell → Calls Try.prog 16 #[v] W fun e w' => e = .returned (bv ell) ∧ Below W.heap.size W w') := fun W v h => Dt.bytes_num h
  have cL : ∀ W : World, Calls Try.prog 49 #[bv ell] W fun e w' => e = .returned (.bool false) ∧ Below W.heap.size W w' := fun W => by have h := low_any ell W ell_lt; rwa [decide_eq_false (Nat.lt_irrefl _)] at h
  have cM : ∀ W : World, Calls Try.prog 50 #[bv 2, bv 3, bv 4] W fun e w' => e = .returned (bv 10) ∧ Below W.heap.size W w' := fun W => by have h := mulAdd_any 2 3 4 W (by decide) (by decide) (by decide); rwa [show (2 * 3 + 4) % ell = 10 from by decide] at h
  have c1 : ∀ W : World, Calls Try.prog 46 #[.int .u8 1] W fun e w' => e = .returned (bv 1) ∧ Below W.heap.size W w' := fun W => small7_any 1 W (by decide)
  have c2 : ∀ W : World, Calls Try.prog 46 #[.int .u8 2] W fun e w' => e = .returned (bv 2) ∧ Below W.heap.size W w' := fun W => small7_any 2 W (by decide)
  have c3 : ∀ W : World, Calls Try.prog 46 #[.int .u8 3] W fun e w' => e = .returned (bv 3) ∧ Below W.heap.size W w' := fun W => small7_any 3 W (by decide)
  have c4 : ∀ W : World, Calls Try.prog 46 #[.int .u8 4] W fun e w' => e = .returned (bv 4) ∧ Below W.heap.size W w' := fun W => small7_any 4 W (by decide)
  have c10 : ∀ W : World, Calls Try.prog 46 #[.int .u8 10] W fun e w' => e = .returned (bv 10) ∧ Below W.heap.size W w' := fun W => small7_any 10 W (by decide)
  have q43 : ∀ W : World, (Op.equalIn 10000 43 (.agg (bvc 0 ++ bvc 1).toArray) (.agg (bvc 0 ++ bvc 1).toArray)).run Try.prog W = .ok true W := fun W => by have h := eq43 0 1 0 1 W (by decide) (by decide) (by decide) (by decide); rwa [decide_eq_true (show 0 = 0 ∧ 1 = 1 from ⟨rfl, rfl⟩)] at h
  have q22 : ∀ W : World, (Op.equalIn 10000 22 (.agg (bvc 10).toArray) (.agg (bvc 10).toArray)).run Try.prog W = .ok true W := fun W => by have h := eq22 10 10 W (by decide) (by decide); rwa [decide_eq_true rfl] at h
  have en := eq_nil
  have ez : zl 32 = bvc 0 := by rfl
  have HBP : Hid (Try.prog.built 43 [(1, .agg (bvc 1).toArray)] = some (bvc 0 ++ bvc 1).toArray) := by have h := build_pointY (bvc 1) (bvc_len 1); rwa [ez] at h
  have LV : Hid (L64 (bvc baseX ++ bvc baseY)) := l64 _ _
  have LVN : Hid (L64 (bvc (subp 0 baseX) ++ bvc (redp baseY))) := l64 _ _
  have LVZ : Hid (L64 (bvc 0 ++ bvc 1)) := l64 _ _
  have LE : Hid (L32 (bvc (encp baseX baseY))) := l32 _
  have LL : Hid (L32 (bvc ell)) := l32 _
  have HCE : Hid (∀ {W : World} {b : Nat}, Rp W b 0 (bvc (encp baseX baseY)) → (∀ x : Cl W.heap.size W, x.u.cell? ⟨b, 0, none⟩ = some (.int .u8 88)) ∧ (∀ x : Cl W.heap.size W, x.u.cell? ⟨b, 1, none⟩ = some (.int .u8 102)) ∧ (∀ x : Cl W.heap.size W, x.u.cell? ⟨b, 31, none⟩ = some (.int .u8 102))) := fun {W b} h => by
    have g0 := h.1 0 _ (bvc_at _ 0 (by decide))
    have g1 := h.1 1 _ (bvc_at _ 1 (by decide))
    have g2 := h.1 31 _ (bvc_at _ 31 (by decide))
    rw [enc_base.1, Nat.zero_add] at g0
    rw [enc_base.2.1, Nat.zero_add] at g1
    rw [enc_base.2.2, Nat.zero_add] at g2
    exact ⟨fun x => x.cell g0 h.2, fun x => x.cell g1 h.2, fun x => x.cell g2 h.2⟩
  unfold pv at cB cE cN cA
  unfold bv at cE HBY cL cM c1 c2 c3 c4 c10
  obtain ⟨V, hV⟩ : ∃ X, bvc baseX ++ bvc baseY = X := ⟨_, rfl⟩
  rw [hV] at cB cE cN cA LV
  obtain ⟨VN, hVN⟩ : ∃ X, bvc (subp 0 baseX) ++ bvc (redp baseY) = X := ⟨_, rfl⟩
  rw [hVN] at cN cA LVN
  obtain ⟨VZ, hVZ⟩ : ∃ X, bvc 0 ++ bvc 1 = X := ⟨_, rfl⟩
  rw [hVZ] at cA q43 HBP LVZ
  obtain ⟨E, hE⟩ : ∃ X, bvc (encp baseX baseY) = X := ⟨_, rfl⟩
  rw [hE] at cE LE HCE
  obtain ⟨L, hL⟩ : ∃ X, bvc ell = X := ⟨_, rfl⟩
  rw [hL] at HBY cL LL
  obtain ⟨X1, hX1⟩ : ∃ X, bvc 1 = X := ⟨_, rfl⟩
  rw [hX1] at c1 HBP
  obtain ⟨X2, hX2⟩ : ∃ X, bvc 2 = X := ⟨_, rfl⟩
  rw [hX2] at c2 cM
  obtain ⟨X3, hX3⟩ : ∃ X, bvc 3 = X := ⟨_, rfl⟩
  rw [hX3] at c3 cM
  obtain ⟨X4, hX4⟩ : ∃ X, bvc 4 = X := ⟨_, rfl⟩
  rw [hX4] at c4 cM
  obtain ⟨X10, hX10⟩ : ∃ X, bvc 10 = X := ⟨_, rfl⟩
  rw [hX10] at c10 cM q22
  clear hV hVN hVZ hE hL hX1 hX2 hX3 hX4 hX10 ez
  have hz43 := zero43
  have hz22 := zero22
  have HBN43 : Hid _ := box43
  have HBN22 : Hid _ := box22
  have HTH43 : Hid _ := th43
  have HTH22 : Hid _ := th22
  obtain ⟨Z43, hZ43⟩ : ∃ Z, z43 = Z := ⟨_, rfl⟩
  obtain ⟨Z22, hZ22⟩ : ∃ Z, z22 = Z := ⟨_, rfl⟩
  rw [hZ43] at hz43 HBN43 HTH43
  rw [hZ22] at hz22 HBN22 HTH22
  clear hZ43 hZ22
  have HB_0 := (show Hid (Below w.heap.size w w) from Below.refl _ _)
  have TK_0 := (show Hid True from trivial)
  go_enter Try.func28, Try.ntmps28
  go_wp2_with (first
    | (refine wpList_load_mid rfl 43 (.tmp 1) rfl bBB 0 rfl V _ BB_2.out.1 Try.underlying43 rfl LV.out.i ?_)
    | (refine wpList_load_mid rfl 43 (.tmp 1) rfl bBB 0 rfl V _ BB_3.out.1 Try.underlying43 rfl LV.out.i ?_)
    | (refine wpList_load_mid rfl 43 (.tmp 1) rfl bBB 0 rfl V _ BB_4.out.1 Try.underlying43 rfl LV.out.i ?_)
    | (refine wpList_load_mid rfl 22 (.tmp 2) rfl bBE 0 rfl E _ BE_4.out.1 Try.underlying22 rfl LE.out.i ?_)
    | (refine wpList_load_mid rfl 43 (.tmp 1) rfl bBB 0 rfl V _ BB_5.out.1 Try.underlying43 rfl LV.out.i ?_)
    | (refine wpList_load_mid rfl 22 (.tmp 2) rfl bBE 0 rfl E _ BE_5.out.1 Try.underlying22 rfl LE.out.i ?_)
    | (refine wpList_load_mid rfl 43 (.tmp 1) rfl bBB 0 rfl V _ BB_6.out.1 Try.underlying43 rfl LV.out.i ?_)
    | (refine wpList_load_mid rfl 22 (.tmp 2) rfl bBE 0 rfl E _ BE_6.out.1 Try.underlying22 rfl LE.out.i ?_)
    | (refine wpList_load_mid rfl 43 (.tmp 4) rfl bBN 0 rfl VN _ BN_6.out.1 Try.underlying43 rfl LVN.out.i ?_)
    | (refine wpList_load_mid rfl 43 (.tmp 1) rfl bBB 0 rfl V _ BB_7.out.1 Try.underlying43 rfl LV.out.i ?_)
    | (refine wpList_load_mid rfl 22 (.tmp 2) rfl bBE 0 rfl E _ BE_7.out.1 Try.underlying22 rfl LE.out.i ?_)
    | (refine wpList_load_mid rfl 43 (.tmp 4) rfl bBN 0 rfl VN _ BN_7.out.1 Try.underlying43 rfl LVN.out.i ?_)
    | (refine wpList_load_mid rfl 43 (.tmp 1) rfl bBB 0 rfl V _ BB_8.out.1 Try.underlying43 rfl LV.out.i ?_)
    | (refine wpList_load_mid rfl 22 (.tmp 2) rfl bBE 0 rfl E _ BE_8.out.1 Try.underlying22 rfl LE.out.i ?_)
    | (refine wpList_load_mid rfl 43 (.tmp 4) rfl bBN 0 rfl VN _ BN_8.out.1 Try.underlying43 rfl LVN.out.i ?_)
    | (refine wpList_load_mid rfl 43 (.tmp 6) rfl bBZ 0 rfl VZ _ BZ_8.out.1 Try.underlying43 rfl LVZ.out.i ?_)
    | (refine wpList_load_mid rfl 43 (.tmp 1) rfl bBB 0 rfl V _ BB_9.out.1 Try.underlying43 rfl LV.out.i ?_)
    | (refine wpList_load_mid rfl 22 (.tmp 2) rfl bBE 0 rfl E _ BE_9.out.1 Try.underlying22 rfl LE.out.i ?_)
    | (refine wpList_load_mid rfl 43 (.tmp 4) rfl bBN 0 rfl VN _ BN_9.out.1 Try.underlying43 rfl LVN.out.i ?_)
    | (refine wpList_load_mid rfl 43 (.tmp 6) rfl bBZ 0 rfl VZ _ BZ_9.out.1 Try.underlying43 rfl LVZ.out.i ?_)
    | (refine wpList_load_mid rfl 43 (.tmp 1) rfl bBB 0 rfl V _ BB_10.out.1 Try.underlying43 rfl LV.out.i ?_)
    | (refine wpList_load_mid rfl 22 (.tmp 2) rfl bBE 0 rfl E _ BE_10.out.1 Try.underlying22 rfl LE.out.i ?_)
    | (refine wpList_load_mid rfl 43 (.tmp 4) rfl bBN 0 rfl VN _ BN_10.out.1 Try.underlying43 rfl LVN.out.i ?_)
    | (refine wpList_load_mid rfl 43 (.tmp 6) rfl bBZ 0 rfl VZ _ BZ_10.out.1 Try.underlying43 rfl LVZ.out.i ?_)
    | (refine wpList_load_mid rfl 43 (.tmp 1) rfl bBB 0 rfl V _ BB_11.out.1 Try.underlying43 rfl LV.out.i ?_)
    | (refine wpList_load_mid rfl 22 (.tmp 2) rfl bBE 0 rfl E _ BE_11.out.1 Try.underlying22 rfl LE.out.i ?_)
    | (refine wpList_load_mid rfl 43 (.tmp 4) rfl bBN 0 rfl VN _ BN_11.out.1 Try.underlying43 rfl LVN.out.i ?_)
    | (refine wpList_load_mid rfl 43 (.tmp 6) rfl bBZ 0 rfl VZ _ BZ_11.out.1 Try.underlying43 rfl LVZ.out.i ?_)
    | (refine wpList_load_mid rfl 22 (.tmp 8) rfl bBL 0 rfl L _ BL_11.out.1 Try.underlying22 rfl LL.out.i ?_)
    | (have hq := TK_0; go_at_call 30; refine (cB _).mono ?_; rintro e w1 ⟨rfl, hb⟩; have HB_1 := (show Hid (Below w.heap.size w w1) from HB_0.out.trans (hb.mono HB_0.out.size)); have TK_1 := (show Hid True from trivial); clear hq TK_0 hb HB_0 )
    | (have hq := TK_1; refine wpList_store_mid rfl 43 (.tmp 1) (.tmp 9) rfl w1.heap.size 0 V.toArray rfl rfl (HTH43.out V LV.out w1) LV.out.j LV.out.o ?_; simp only; have hbx := HBN43.out V LV.out w1; obtain ⟨w2, hw2⟩ : ∃ v, (w1.alloc (.cells Z43 43)).setCells w1.heap.size 0 V = v := ⟨_, rfl⟩; rw [hw2] at hbx ⊢; clear hw2; have hb := hbx.2; replace hbx := hbx.1; obtain ⟨bBB, hbBB⟩ : ∃ b, w1.heap.size = b := ⟨_, rfl⟩; rw [hbBB] at hbx ⊢; clear hbBB; have HB_2 := (show Hid (Below w.heap.size w w2) from HB_1.out.trans (hb.mono HB_1.out.size)); have BB_2 := (show Hid (Rp w2 bBB 0 V) from hbx); have TK_2 := (show Hid True from trivial); clear hq TK_1 hb hbx HB_1 )
    | (have hq := TK_2; go_at_call 45; refine (cE _).mono ?_; rintro e w3 ⟨rfl, hb⟩; have HB_3 := (show Hid (Below w.heap.size w w3) from HB_2.out.trans (hb.mono HB_2.out.size)); have BB_3 := (show Hid (Rp w3 bBB 0 V) from BB_2.out.below hb); have TK_3 := (show Hid True from trivial); clear hq TK_2 hb HB_2 BB_2)
    | (have hq := TK_3; refine wpList_store_mid rfl 22 (.tmp 2) (.tmp 13) rfl w3.heap.size 0 E.toArray rfl rfl (HTH22.out E LE.out w3) LE.out.j LE.out.o ?_; simp only; have hbx := HBN22.out E LE.out w3; obtain ⟨w4, hw4⟩ : ∃ v, (w3.alloc (.cells Z22 22)).setCells w3.heap.size 0 E = v := ⟨_, rfl⟩; rw [hw4] at hbx ⊢; clear hw4; have hb := hbx.2; replace hbx := hbx.1; obtain ⟨bBE, hbBE⟩ : ∃ b, w3.heap.size = b := ⟨_, rfl⟩; rw [hbBE] at hbx ⊢; clear hbBE; have HB_4 := (show Hid (Below w.heap.size w w4) from HB_3.out.trans (hb.mono HB_3.out.size)); have BB_4 := (show Hid (Rp w4 bBB 0 V) from BB_3.out.below hb); have BE_4 := (show Hid (Rp w4 bBE 0 E) from hbx); have TK_4 := (show Hid True from trivial); clear hq TK_3 hb hbx HB_3 BB_3)
    | (have hq := TK_4; go_at_call 36; refine (cN _).mono ?_; rintro e w5 ⟨rfl, hb⟩; have HB_5 := (show Hid (Below w.heap.size w w5) from HB_4.out.trans (hb.mono HB_4.out.size)); have BB_5 := (show Hid (Rp w5 bBB 0 V) from BB_4.out.below hb); have BE_5 := (show Hid (Rp w5 bBE 0 E) from BE_4.out.below hb); have TK_5 := (show Hid True from trivial); clear hq TK_4 hb HB_4 BB_4 BE_4)
    | (have hq := TK_5; refine wpList_store_mid rfl 43 (.tmp 4) (.tmp 18) rfl w5.heap.size 0 VN.toArray rfl rfl (HTH43.out VN LVN.out w5) LVN.out.j LVN.out.o ?_; simp only; have hbx := HBN43.out VN LVN.out w5; obtain ⟨w6, hw6⟩ : ∃ v, (w5.alloc (.cells Z43 43)).setCells w5.heap.size 0 VN = v := ⟨_, rfl⟩; rw [hw6] at hbx ⊢; clear hw6; have hb := hbx.2; replace hbx := hbx.1; obtain ⟨bBN, hbBN⟩ : ∃ b, w5.heap.size = b := ⟨_, rfl⟩; rw [hbBN] at hbx ⊢; clear hbBN; have HB_6 := (show Hid (Below w.heap.size w w6) from HB_5.out.trans (hb.mono HB_5.out.size)); have BB_6 := (show Hid (Rp w6 bBB 0 V) from BB_5.out.below hb); have BE_6 := (show Hid (Rp w6 bBE 0 E) from BE_5.out.below hb); have BN_6 := (show Hid (Rp w6 bBN 0 VN) from hbx); have TK_6 := (show Hid True from trivial); clear hq TK_5 hb hbx HB_5 BB_5 BE_5)
    | (have hq := TK_6; go_at_call 35; refine (cA _).mono ?_; rintro e w7 ⟨rfl, hb⟩; have HB_7 := (show Hid (Below w.heap.size w w7) from HB_6.out.trans (hb.mono HB_6.out.size)); have BB_7 := (show Hid (Rp w7 bBB 0 V) from BB_6.out.below hb); have BE_7 := (show Hid (Rp w7 bBE 0 E) from BE_6.out.below hb); have BN_7 := (show Hid (Rp w7 bBN 0 VN) from BN_6.out.below hb); have TK_7 := (show Hid True from trivial); clear hq TK_6 hb HB_6 BB_6 BE_6 BN_6)
    | (have hq := TK_7; refine wpList_store_mid rfl 43 (.tmp 6) (.tmp 24) rfl w7.heap.size 0 VZ.toArray rfl rfl (HTH43.out VZ LVZ.out w7) LVZ.out.j LVZ.out.o ?_; simp only; have hbx := HBN43.out VZ LVZ.out w7; obtain ⟨w8, hw8⟩ : ∃ v, (w7.alloc (.cells Z43 43)).setCells w7.heap.size 0 VZ = v := ⟨_, rfl⟩; rw [hw8] at hbx ⊢; clear hw8; have hb := hbx.2; replace hbx := hbx.1; obtain ⟨bBZ, hbBZ⟩ : ∃ b, w7.heap.size = b := ⟨_, rfl⟩; rw [hbBZ] at hbx ⊢; clear hbBZ; have HB_8 := (show Hid (Below w.heap.size w w8) from HB_7.out.trans (hb.mono HB_7.out.size)); have BB_8 := (show Hid (Rp w8 bBB 0 V) from BB_7.out.below hb); have BE_8 := (show Hid (Rp w8 bBE 0 E) from BE_7.out.below hb); have BN_8 := (show Hid (Rp w8 bBN 0 VN) from BN_7.out.below hb); have BZ_8 := (show Hid (Rp w8 bBZ 0 VZ) from hbx); have TK_8 := (show Hid True from trivial); clear hq TK_7 hb hbx HB_7 BB_7 BE_7 BN_7)
    | (have hq := TK_8; go_at_call 53; refine (HO.out _).mono ?_; rintro e w9 ⟨vo, rfl, hn, hb⟩; have HB_9 := (show Hid (Below w.heap.size w w9) from HB_8.out.trans (hb.mono HB_8.out.size)); have BB_9 := (show Hid (Rp w9 bBB 0 V) from BB_8.out.below hb); have BE_9 := (show Hid (Rp w9 bBE 0 E) from BE_8.out.below hb); have BN_9 := (show Hid (Rp w9 bBN 0 VN) from BN_8.out.below hb); have BZ_9 := (show Hid (Rp w9 bBZ 0 VZ) from BZ_8.out.below hb); have NO_9 := (show Hid (Dt.Num w9 vo ell) from hn); have TK_9 := (show Hid True from trivial); clear hq TK_8 hb HB_8 BB_8 BE_8 BN_8 BZ_8 hn)
    | (have hq := TK_9; go_at_call 16; refine (HBY.out _ _ (NO_9.out)).mono ?_; rintro e w10 ⟨rfl, hb⟩; have HB_10 := (show Hid (Below w.heap.size w w10) from HB_9.out.trans (hb.mono HB_9.out.size)); have BB_10 := (show Hid (Rp w10 bBB 0 V) from BB_9.out.below hb); have BE_10 := (show Hid (Rp w10 bBE 0 E) from BE_9.out.below hb); have BN_10 := (show Hid (Rp w10 bBN 0 VN) from BN_9.out.below hb); have BZ_10 := (show Hid (Rp w10 bBZ 0 VZ) from BZ_9.out.below hb); have TK_10 := (show Hid True from trivial); clear hq TK_9 hb HB_9 BB_9 BE_9 BN_9 BZ_9 NO_9)
    | (have hq := TK_10; refine wpList_store_mid rfl 22 (.tmp 8) (.tmp 27) rfl w10.heap.size 0 L.toArray rfl rfl (HTH22.out L LL.out w10) LL.out.j LL.out.o ?_; simp only [Act.put]; have hbx := HBN22.out L LL.out w10; obtain ⟨w11, hw11⟩ : ∃ v, (w10.alloc (.cells Z22 22)).setCells w10.heap.size 0 L = v := ⟨_, rfl⟩; rw [hw11] at hbx ⊢; clear hw11; have hb := hbx.2; replace hbx := hbx.1; obtain ⟨bBL, hbBL⟩ : ∃ b, w10.heap.size = b := ⟨_, rfl⟩; rw [hbBL] at hbx ⊢; clear hbBL; have HB_11 := (show Hid (Below w.heap.size w w11) from HB_10.out.trans (hb.mono HB_10.out.size)); have BB_11 := (show Hid (Rp w11 bBB 0 V) from BB_10.out.below hb); have BE_11 := (show Hid (Rp w11 bBE 0 E) from BE_10.out.below hb); have BN_11 := (show Hid (Rp w11 bBN 0 VN) from BN_10.out.below hb); have BZ_11 := (show Hid (Rp w11 bBZ 0 VZ) from BZ_10.out.below hb); have BL_11 := (show Hid (Rp w11 bBL 0 L) from hbx); have TK_11 := (show Hid True from trivial); clear hq TK_10 hb hbx HB_10 BB_10 BE_10 BN_10 BZ_10))
  have HQBZ := (show Hid _ from BZ_11.out.cl)
  have HQBL := (show Hid _ from BL_11.out.cl)
  obtain ⟨g0, g1, g2⟩ := HCE.out BE_11.out
  have hne := Cl.ne w11.heap.size w11
  refine region_cl (N := w11.heap.size) (W := w11) (by kernel_rfl) (by kernel_rfl) (Below.refl _ _) ?_
  go_big_quiet_step (fail)
  go_big_quiet_step (fail)
  go_big_quiet_step (fail)
  go_big_quiet_step (fail)
  go_big_quiet_step (fail)
  go_big_quiet_step (fail)
  go_big_quiet_step (fail)
  go_big_quiet_step (fail)
  go_big_quiet_step (fail)
  go_big_quiet_step (fail)
  go_big_quiet_step (fail)
  go_big_quiet_step (fail)
  go_big_quiet_step (fail)
  go_big_quiet_step (fail)
  go_big_quiet_step (fail)
  go_big_quiet_step (fail)
  go_big_quiet_step (fail)
  go_big_quiet_step (fail)
  go_big_quiet_step (fail)
  go_big_quiet_step (fail)
  go_big_quiet_step (fail)
  go_big_quiet_step (fail)
  go_big_quiet_step (fail)
  go_big_quiet_step (fail)
  go_big_quiet_step (fail)
  go_big_quiet_step (fail)
  go_big_quiet_want
  refine quiet_load 43 _ rfl bBZ 0 rfl VZ _ HQBZ.out Try.underlying43 rfl LVZ.out.i ?_
  simp only [Act.put, List.setIfInBounds_toArray, List.set_cons_zero, List.set_cons_succ]
  go_big_quiet_on
  go_big_quiet_step ((go_at_call 46; exact cl_of (c1 _) (Nat.le_refl _)))
  go_big_quiet_want
  refine quiet_build 43 _ rfl [(1, .agg X1.toArray)] (by kernel_rfl) VZ HBP.out ?_
  simp only [Act.put, List.setIfInBounds_toArray, List.set_cons_zero, List.set_cons_succ]
  go_big_quiet_on
  go_big_quiet_step (fail)
  go_big_quiet_step (fail)
  go_big_quiet_step (fail)
  go_big_quiet_want
  refine quiet_load 22 _ rfl bBL 0 rfl L _ HQBL.out Try.underlying22 rfl LL.out.i ?_
  simp only [Act.put, List.setIfInBounds_toArray, List.set_cons_zero, List.set_cons_succ]
  go_big_quiet_on
  go_big_quiet_step ((go_at_call 49; exact cl_of (cL _) (Nat.le_refl _)))
  go_big_quiet_step (fail)
  go_big_quiet_step (fail)
  go_big_quiet_step (fail)
  go_big_quiet_step ((go_at_call 46; exact cl_of (c2 _) (Nat.le_refl _)))
  go_big_quiet_step ((go_at_call 46; exact cl_of (c3 _) (Nat.le_refl _)))
  go_big_quiet_step ((go_at_call 46; exact cl_of (c4 _) (Nat.le_refl _)))
  go_big_quiet_step ((go_at_call 50; exact cl_of (cM _) (Nat.le_refl _)))
  go_big_quiet_step ((go_at_call 46; exact cl_of (c10 _) (Nat.le_refl _)))
  go_big_quiet_step (fail)
  go_big_quiet_step (fail)
  go_big_quiet_step (fail)
  refine wpQuiet_nil ?_
  rintro _ ⟨xq, rfl⟩
  have hb := xq.h
  have HBF := (show Hid (Below w.heap.size w xq.u) from HB_11.out.trans (hb.mono HB_11.out.size))
  go_wp2
  go_ret
  exact ⟨rfl, HBF.out⟩
end Fd
end Go.Proofs.Ytgdekigdbbldoaa

namespace Go.Proofs.Ytgdekigdbbldoaa
open Go.RowKit
namespace Dt
open Rg Go.Proofs.Ytgdekigdbbldoaa.Fd

theorem i64_and1 (n : Int) : bits .and .i64 n 1 = n % 2 := by
  have h1 : (BitVec.ofInt 64 1).toNat = 2 ^ 1 - 1 := by decide
  have key : (BitVec.ofInt 64 n &&& BitVec.ofInt 64 1).toNat = (n % ((2 ^ 64 : Nat) : Int)).toNat % 2 ^ 1 := by
    rw [BitVec.toNat_and, BitVec.toNat_ofInt, h1, Nat.and_two_pow_sub_one_eq_mod]
  show IntKind.i64.wrap ((BitVec.ofInt 64 n &&& BitVec.ofInt 64 1).toNat : Nat) = n % 2
  rw [key, IntKind.wrap_i64]
  omega
theorem dg_cell {w wr : World} {A : Option Addr} {L : List Nat} (h : Dg w A L) (hb : Below w.heap.size w wr) (hne : 0 < L.length) : ∃ g o, A = some ⟨g, o, none⟩ ∧ ∀ j, j < L.length → wr.cell? ⟨g, o + j, none⟩ = some (.int .i64 ((L.getD j 0 : Nat) : Int)) := by
  rcases h with rfl | ⟨g, o, rfl, hg, hr⟩
  · simp at hne
  · exact ⟨g, o, rfl, fun j hj => (hb.cell (p := ⟨g, o + j, none⟩) hg).trans (cell_i hr j hj)⟩
theorem dig_bit (x j : Nat) : x / 16777216 ^ (j / 24) % 16777216 / 2 ^ (j % 24) % 2 = x / 2 ^ j % 2 := by
  have e0 : (16777216 : Nat) = 2 ^ 24 := rfl
  rw [e0, ← Nat.pow_mul]
  have h1 := Nat.testBit_mod_two_pow (x / 2 ^ (24 * (j / 24))) 24 (j % 24)
  rw [Nat.testBit_div_two_pow] at h1
  simp only [Nat.mod_lt j (show 0 < 24 by decide), decide_true, Bool.true_and] at h1
  rw [Nat.testBit_eq_decide_div_mod_eq, Nat.testBit_eq_decide_div_mod_eq] at h1
  have h5 := decide_eq_decide.1 h1
  rw [show j % 24 + 24 * (j / 24) = j by omega] at h5
  omega
theorem ell_pos : 1 ≤ ell := by decide
theorem ell_64 {x : Nat} (h : x ≤ 4 * ell) : x < 16777216 ^ 64 := Nat.lt_of_le_of_lt h (by decide +kernel)
/-- One bit more. -/
theorem rest_step (x j b : Nat) (hb : x / 2 ^ j % 2 = b) : (x / 2 ^ (j + 1) % ell + x / 2 ^ (j + 1) % ell + b) % ell = x / 2 ^ j % ell := by
  have h1 : x / 2 ^ (j + 1) = x / 2 ^ j / 2 := by rw [Nat.pow_succ, Nat.div_div_eq_div_mul]
  rw [h1]
  generalize x / 2 ^ j = y at hb ⊢
  have h2 : (y / 2 % ell + y / 2 % ell + b) % ell = (y / 2 + y / 2 + b) % ell := by
    rw [Nat.add_mod (y / 2 % ell + y / 2 % ell), ← Nat.add_mod (y / 2), ← Nat.add_mod]
  rw [h2, show y / 2 + y / 2 + b = y by omega]
theorem rest_more (e f : Nat) (he : e % ell = f) (hl : e < 2 * ell) (hg : ell ≤ e) : e - ell = f := by
  rw [← he, Nat.mod_eq_sub_mod hg, Nat.mod_eq_of_lt (by omega)]

set_option maxHeartbeats 4000000 in
set_option maxRecDepth 4000 in
theorem rest_num {u : Value} {x : Nat} {w : World} (hu : Num w u x) (hx : x < 16777216 ^ 64) :
    Calls Try.prog 55 #[u] w fun e w' => ∃ v, e = .returned v ∧ Num w' v (x % ell) ∧ Below w.heap.size w w' := by
  obtain ⟨A, L, cap, rfl, hcap, hD, hL⟩ := hu
  have hlen := hL.len hx
  have hlt := hL.lt
  have HD : Hid (Dg w A L) := hD
  have HPOS : Hid (∀ k, L.getD k 0 = x / 16777216 ^ k % 16777216) := hL.pos
  obtain ⟨m, hm⟩ : ∃ m, L.length = m := ⟨_, rfl⟩
  have HM : Hid (L.length = m) := hm
  rw [hm] at hlen hlt ⊢
  have HBEG : Hid (x / 2 ^ (24 * m) % ell = 0) := by
    show _ = _
    rw [Nat.div_eq_of_lt, Nat.zero_mod]
    rw [Nat.pow_mul]
    exact hlt
  have hlen' : (m : Int) ≤ 64 := by omega
  have c1 := order_num w
  clear hcap hD hL hlt hx hm
  go_enter Try.func55, Try.ntmps55
  go_wp2_with (go_at_call 53; refine c1.mono ?_; rintro e w1 ⟨vo, rfl, hn1, hb1⟩; have HO1 := (show Hid (Num w1 vo ell) from hn1); have HB1 := (show Hid (Below w.heap.size w w1) from hb1); clear hn1 hb1 c1)
  go_loopw [4, 5] (fun uu y wr => ∃ k : Nat, y = .int .i64 ((k : Int) - 1) ∧ k ≤ 24 * m ∧ Hid (Num wr uu (x / 2 ^ k % ell)) ∧ Hid (Num wr vo ell) ∧ Hid (Below w.heap.size w wr)) (fun _ y _ => numOf1 y)
  case atStart => exact ⟨24 * m, by congr 1, Nat.le_refl _, (by show Num _ _ _; rw [HBEG.out]; exact Num.zero w1), HO1, HB1⟩
  case round =>
    clear HO1 HB1 HBEG
    obtain ⟨k, rfl, hk, HU, HO, HB⟩ := hrel
    cases k with
    | zero =>
      have z1 : ((0 : Nat) : Int) - 1 = -1 := rfl
      rw [z1]
      have HF : Hid (x / 2 ^ 0 % ell = x % ell) := by show _ = _; rw [Nat.pow_zero, Nat.div_one]
      rw [HF.out] at HU
      clear HD HPOS HO HF
      go_wp2
      go_ret
      exact ⟨_, rfl, HU.out, HB.out⟩
    | succ j =>
      have z1 : ((j + 1 : Nat) : Int) - 1 = (j : Int) := by omega
      rw [z1]
      have z2 : (0 : Int) ≤ (j : Int) := by omega
      have hbt := dig_bit x j
      obtain ⟨q, hq⟩ : ∃ q, j / 24 = q := ⟨_, rfl⟩
      obtain ⟨s, hs⟩ : ∃ s, j % 24 = s := ⟨_, rfl⟩
      rw [hq, hs, ← HPOS.out q] at hbt
      have z3 : Int.tdiv (j : Int) 24 = (q : Int) := by rw [Int.tdiv_eq_ediv_of_nonneg z2]; omega
      have z4 : Int.tmod (j : Int) 24 = (s : Int) := by rw [Int.tmod_eq_emod_of_nonneg z2]; omega
      have hqm : q < m := by omega
      have z5 : (q : Int) < (m : Int) := by omega
      have z6 : (s : Int) < 24 := by omega
      have z7 : IntKind.i64.wrap ((j : Int) - 1) = (j : Int) - 1 := by rw [IntKind.wrap_i64]; omega
      have z8 : IntKind.i64.wrap (q : Int) = (q : Int) := by rw [IntKind.wrap_i64]; omega
      have z9 : IntKind.i64.wrap (s : Int) = (s : Int) := by rw [IntKind.wrap_i64]; omega
      obtain ⟨g, o, rfl, _⟩ := dg_cell HD.out HB.out (by rw [HM.out]; omega)
      have hlu : L.getD q 0 < 16777216 := by rw [HPOS.out]; exact Nat.mod_lt _ (by decide)
      have HCE : Hid (∀ w5, Below w.heap.size w w5 → w5.cell? ⟨g, o + q, none⟩ = some (.int .i64 ((L.getD q 0 : Nat) : Int))) := fun w5 h5 => by
        obtain ⟨g', o', he', hc'⟩ := dg_cell HD.out h5 (by rw [HM.out]; omega)
        cases he'
        exact hc' q (by rw [HM.out]; exact hqm)
      obtain ⟨dg, hdg⟩ : ∃ u, L.getD q 0 = u := ⟨_, rfl⟩
      rw [hdg] at hbt hlu HCE
      obtain ⟨t, ht⟩ : ∃ t, dg / 2 ^ s = t := ⟨_, rfl⟩
      have x1 : (dg : Int) / 2 ^ s = (t : Int) := by rw [← ht]; norm_cast
      have htl : t < 16777216 := by rw [← ht]; exact Nat.lt_of_le_of_lt (Nat.div_le_self _ _) hlu
      have x4 : IntKind.i64.wrap (t : Int) = (t : Int) := by rw [IntKind.wrap_i64]; omega
      have x2 := i64_and1 (t : Int)
      rw [ht] at hbt
      have hrl : x / 2 ^ (j + 1) % ell < ell := Nat.mod_lt _ (by decide)
      have hstep := rest_step x j _ rfl
      obtain ⟨r, hr⟩ : ∃ r, x / 2 ^ (j + 1) % ell = r := ⟨_, rfl⟩
      rw [hr] at HU hrl hstep
      obtain ⟨f, hf⟩ : ∃ f, x / 2 ^ j % ell = f := ⟨_, rfl⟩
      have HF : Hid (x / 2 ^ j % ell = f) := hf
      rw [hf] at hstep
      have CP : Hid (∀ (W : World) (u v : Value), Num W u r → Num W v r → Calls Try.prog 73 #[u, v] W fun e w' => ∃ v, e = .returned v ∧ Num w' v (r + r) ∧ Below W.heap.size W w') := fun W u v h1 h2 => plus_num h1 h2 (ell_64 (by omega)) (ell_64 (by omega))
      have hell : ell ≤ 4 * ell := by omega
      by_cases hb1 : x / 2 ^ j % 2 = 1
      · have xb : (t : Int) % 2 = 1 := by omega
        rw [xb] at x2
        rw [hb1] at hstep
        by_cases hge : ell ≤ r + r + 1
        · have hel : (r + r + 1) < 2 * ell := by omega
          have CQ : Hid (∀ (W : World) (u v : Value), Num W u (r + r) → Num W v 1 → Calls Try.prog 73 #[u, v] W fun e w' => ∃ v, e = .returned v ∧ Num w' v (r + r + 1) ∧ Below W.heap.size W w') := fun W u v h1 h2 => plus_num h1 h2 (ell_64 (by omega)) (ell_64 (by have := ell_pos; omega))
          have CC : Hid (∀ (W : World) (u v : Value), Num W u (r + r + 1) → Num W v ell → Calls Try.prog 51 #[u, v] W fun e w' => e = .returned (.int .i64 (cmpN (r + r + 1) ell)) ∧ Below W.heap.size W w') := fun W u v h1 h2 => cmp_num h1 h2 (ell_64 (by omega)) (ell_64 hell)
          have hc0 : (0 : Int) ≤ cmpN (r + r + 1) ell := by unfold cmpN; rw [if_neg (by omega)]; split <;> omega
          obtain ⟨c, hc⟩ : ∃ c, cmpN (r + r + 1) ell = c := ⟨_, rfl⟩
          rw [hc] at CC hc0
          have CL : Hid (∀ (W : World) (u v : Value), Num W u (r + r + 1) → Num W v ell → Calls Try.prog 69 #[u, v] W fun e w' => ∃ v, e = .returned v ∧ Num w' v f ∧ Below W.heap.size W w') := fun W u v h1 h2 => by have h := less_num h1 h2 (ell_64 (by omega)) hge; rwa [rest_more _ f hstep hel hge] at h
          clear hc
          obtain ⟨ee, hee⟩ : ∃ ee, r + r + 1 = ee := ⟨_, rfl⟩
          obtain ⟨dd, hdd⟩ : ∃ ee, r + r = ee := ⟨_, rfl⟩
          rw [hdd] at CP CQ
          rw [hdd] at hee
          rw [hdd] at CC
          rw [hee] at CC
          rw [hee] at CQ
          rw [hdd] at CL
          rw [hee] at CL
          have NU_0 := HU
          have NO_0 := HO
          have HB_0 := (show Hid (Below wr.heap.size wr wr) from Below.refl _ _)
          have TK_0 := (show Hid True from trivial)
          clear hbt hlu htl hrl hstep hell hel hge HD HPOS HU HO hee hdd
          go_wp2_with (first
            | (have hq := TK_0; go_at_call 73; refine (CP.out _ _ _ (NU_0.out) (NU_0.out)).mono ?_; rintro e w1 ⟨vd, rfl, hn, hb⟩; have HB_1 := (show Hid (Below wr.heap.size wr w1) from HB_0.out.trans (hb.mono HB_0.out.size)); have NO_1 := (show Hid (Num w1 vo ell) from NO_0.out.below hb); have ND_1 := (show Hid (Num w1 vd dd) from hn); have TK_1 := (show Hid True from trivial); clear hq TK_0 hb HB_0 NU_0 NO_0 hn; have rc := HCE.out w1 (HB.out.trans (HB_1.out.mono HB.out.size)))
            | (have hq := TK_1; go_at_call 73; refine (CQ.out _ _ _ (ND_1.out.below ((Below.refl _ _).alloc (Nat.le_refl _) _)) ((show Num (w1.alloc (.cells #[.int .i64 1] 3)) (.slice (some ⟨w1.heap.size, 0, none⟩) 1 1) 1 from lit_num w1 1 (by decide) (by decide)))).mono ?_; rintro e w2 ⟨ve, rfl, hn, hb⟩; replace hb := lift1 hb; have HB_2 := (show Hid (Below wr.heap.size wr w2) from HB_1.out.trans (hb.mono HB_1.out.size)); have NO_2 := (show Hid (Num w2 vo ell) from NO_1.out.below hb); have NE_2 := (show Hid (Num w2 ve ee) from hn); have TK_2 := (show Hid True from trivial); clear hq TK_1 hb HB_1 NO_1 ND_1 hn; clear rc)
            | (have hq := TK_2; go_at_call 51; refine (CC.out _ _ _ (NE_2.out) (NO_2.out)).mono ?_; rintro e w3 ⟨rfl, hb⟩; have HB_3 := (show Hid (Below wr.heap.size wr w3) from HB_2.out.trans (hb.mono HB_2.out.size)); have NO_3 := (show Hid (Num w3 vo ell) from NO_2.out.below hb); have NE_3 := (show Hid (Num w3 ve ee) from NE_2.out.below hb); have TK_3 := (show Hid True from trivial); clear hq TK_2 hb HB_2 NO_2 NE_2)
            | (have hq := TK_3; go_at_call 69; refine (CL.out _ _ _ (NE_3.out) (NO_3.out)).mono ?_; rintro e w4 ⟨vf, rfl, hn, hb⟩; have HB_4 := (show Hid (Below wr.heap.size wr w4) from HB_3.out.trans (hb.mono HB_3.out.size)); have NO_4 := (show Hid (Num w4 vo ell) from NO_3.out.below hb); have NF_4 := (show Hid (Num w4 vf f) from hn); have TK_4 := (show Hid True from trivial); clear hq TK_3 hb HB_3 NO_3 NE_3 hn))
          go_roundw
          case rel => exact ⟨j, rfl, by omega, (by show Num _ _ _; rw [HF.out]; exact NF_4.out), NO_4, HB.out.trans (HB_4.out.mono HB.out.size)⟩
          case measure => simp [numOf1]
        · have hel : (r + r + 1) < 2 * ell := by omega
          have CQ : Hid (∀ (W : World) (u v : Value), Num W u (r + r) → Num W v 1 → Calls Try.prog 73 #[u, v] W fun e w' => ∃ v, e = .returned v ∧ Num w' v (r + r + 1) ∧ Below W.heap.size W w') := fun W u v h1 h2 => plus_num h1 h2 (ell_64 (by omega)) (ell_64 (by have := ell_pos; omega))
          have CC : Hid (∀ (W : World) (u v : Value), Num W u (r + r + 1) → Num W v ell → Calls Try.prog 51 #[u, v] W fun e w' => e = .returned (.int .i64 (cmpN (r + r + 1) ell)) ∧ Below W.heap.size W w') := fun W u v h1 h2 => cmp_num h1 h2 (ell_64 (by omega)) (ell_64 hell)
          have hc0 : cmpN (r + r + 1) ell = -1 := by unfold cmpN; rw [if_pos (by omega)]
          rw [hc0] at CC
          have hef : (r + r + 1) = f := by rw [← hstep]; exact (Nat.mod_eq_of_lt (by omega)).symm
          clear hc0
          obtain ⟨ee, hee⟩ : ∃ ee, r + r + 1 = ee := ⟨_, rfl⟩
          obtain ⟨dd, hdd⟩ : ∃ ee, r + r = ee := ⟨_, rfl⟩
          rw [hdd] at CP CQ
          rw [hdd] at hee
          rw [hdd] at CC
          rw [hee] at CC
          rw [hee] at CQ
          rw [hdd] at hef
          rw [hee] at hef
          have NU_0 := HU
          have NO_0 := HO
          have HB_0 := (show Hid (Below wr.heap.size wr wr) from Below.refl _ _)
          have TK_0 := (show Hid True from trivial)
          clear hbt hlu htl hrl hstep hell hel hge HD HPOS HU HO hee hdd
          go_wp2_with (first
            | (have hq := TK_0; go_at_call 73; refine (CP.out _ _ _ (NU_0.out) (NU_0.out)).mono ?_; rintro e w1 ⟨vd, rfl, hn, hb⟩; have HB_1 := (show Hid (Below wr.heap.size wr w1) from HB_0.out.trans (hb.mono HB_0.out.size)); have NO_1 := (show Hid (Num w1 vo ell) from NO_0.out.below hb); have ND_1 := (show Hid (Num w1 vd dd) from hn); have TK_1 := (show Hid True from trivial); clear hq TK_0 hb HB_0 NU_0 NO_0 hn; have rc := HCE.out w1 (HB.out.trans (HB_1.out.mono HB.out.size)))
            | (have hq := TK_1; go_at_call 73; refine (CQ.out _ _ _ (ND_1.out.below ((Below.refl _ _).alloc (Nat.le_refl _) _)) ((show Num (w1.alloc (.cells #[.int .i64 1] 3)) (.slice (some ⟨w1.heap.size, 0, none⟩) 1 1) 1 from lit_num w1 1 (by decide) (by decide)))).mono ?_; rintro e w2 ⟨ve, rfl, hn, hb⟩; replace hb := lift1 hb; have HB_2 := (show Hid (Below wr.heap.size wr w2) from HB_1.out.trans (hb.mono HB_1.out.size)); have NO_2 := (show Hid (Num w2 vo ell) from NO_1.out.below hb); have NE_2 := (show Hid (Num w2 ve ee) from hn); have TK_2 := (show Hid True from trivial); clear hq TK_1 hb HB_1 NO_1 ND_1 hn; clear rc)
            | (have hq := TK_2; go_at_call 51; refine (CC.out _ _ _ (NE_2.out) (NO_2.out)).mono ?_; rintro e w3 ⟨rfl, hb⟩; have HB_3 := (show Hid (Below wr.heap.size wr w3) from HB_2.out.trans (hb.mono HB_2.out.size)); have NO_3 := (show Hid (Num w3 vo ell) from NO_2.out.below hb); have NE_3 := (show Hid (Num w3 ve ee) from NE_2.out.below hb); have TK_3 := (show Hid True from trivial); clear hq TK_2 hb HB_2 NO_2 NE_2))
          go_roundw
          case rel => exact ⟨j, rfl, by omega, (by show Num _ _ _; rw [HF.out, ← hef]; exact NE_3.out), NO_3, HB.out.trans (HB_3.out.mono HB.out.size)⟩
          case measure => simp [numOf1]
      · have hb0 : x / 2 ^ j % 2 = 0 := by omega
        rw [hb0, Nat.add_zero] at hstep
        have xb : (t : Int) % 2 = 0 := by omega
        rw [xb] at x2
        by_cases hge : ell ≤ r + r
        · have hel : (r + r) < 2 * ell := by omega
          have CC : Hid (∀ (W : World) (u v : Value), Num W u (r + r) → Num W v ell → Calls Try.prog 51 #[u, v] W fun e w' => e = .returned (.int .i64 (cmpN (r + r) ell)) ∧ Below W.heap.size W w') := fun W u v h1 h2 => cmp_num h1 h2 (ell_64 (by omega)) (ell_64 hell)
          have hc0 : (0 : Int) ≤ cmpN (r + r) ell := by unfold cmpN; rw [if_neg (by omega)]; split <;> omega
          obtain ⟨c, hc⟩ : ∃ c, cmpN (r + r) ell = c := ⟨_, rfl⟩
          rw [hc] at CC hc0
          have CL : Hid (∀ (W : World) (u v : Value), Num W u (r + r) → Num W v ell → Calls Try.prog 69 #[u, v] W fun e w' => ∃ v, e = .returned v ∧ Num w' v f ∧ Below W.heap.size W w') := fun W u v h1 h2 => by have h := less_num h1 h2 (ell_64 (by omega)) hge; rwa [rest_more _ f hstep hel hge] at h
          clear hc
          obtain ⟨dd, hdd⟩ : ∃ ee, r + r = ee := ⟨_, rfl⟩
          rw [hdd] at CP CC
          rw [hdd] at CL
          have NU_0 := HU
          have NO_0 := HO
          have HB_0 := (show Hid (Below wr.heap.size wr wr) from Below.refl _ _)
          have TK_0 := (show Hid True from trivial)
          clear hbt hlu htl hrl hstep hell hel hge HD HPOS HU HO hdd
          go_wp2_with (first
            | (have hq := TK_0; go_at_call 73; refine (CP.out _ _ _ (NU_0.out) (NU_0.out)).mono ?_; rintro e w1 ⟨vd, rfl, hn, hb⟩; have HB_1 := (show Hid (Below wr.heap.size wr w1) from HB_0.out.trans (hb.mono HB_0.out.size)); have NO_1 := (show Hid (Num w1 vo ell) from NO_0.out.below hb); have ND_1 := (show Hid (Num w1 vd dd) from hn); have TK_1 := (show Hid True from trivial); clear hq TK_0 hb HB_0 NU_0 NO_0 hn; have rc := HCE.out w1 (HB.out.trans (HB_1.out.mono HB.out.size)))
            | (have hq := TK_1; go_at_call 51; refine (CC.out _ _ _ (ND_1.out) (NO_1.out)).mono ?_; rintro e w2 ⟨rfl, hb⟩; have HB_2 := (show Hid (Below wr.heap.size wr w2) from HB_1.out.trans (hb.mono HB_1.out.size)); have NO_2 := (show Hid (Num w2 vo ell) from NO_1.out.below hb); have ND_2 := (show Hid (Num w2 vd dd) from ND_1.out.below hb); have TK_2 := (show Hid True from trivial); clear hq TK_1 hb HB_1 NO_1 ND_1)
            | (have hq := TK_2; go_at_call 69; refine (CL.out _ _ _ (ND_2.out) (NO_2.out)).mono ?_; rintro e w3 ⟨vf, rfl, hn, hb⟩; have HB_3 := (show Hid (Below wr.heap.size wr w3) from HB_2.out.trans (hb.mono HB_2.out.size)); have NO_3 := (show Hid (Num w3 vo ell) from NO_2.out.below hb); have NF_3 := (show Hid (Num w3 vf f) from hn); have TK_3 := (show Hid True from trivial); clear hq TK_2 hb HB_2 NO_2 ND_2 hn))
          go_roundw
          case rel => exact ⟨j, rfl, by omega, (by show Num _ _ _; rw [HF.out]; exact NF_3.out), NO_3, HB.out.trans (HB_3.out.mono HB.out.size)⟩
          case measure => simp [numOf1]
        · have hel : (r + r) < 2 * ell := by omega
          have CC : Hid (∀ (W : World) (u v : Value), Num W u (r + r) → Num W v ell → Calls Try.prog 51 #[u, v] W fun e w' => e = .returned (.int .i64 (cmpN (r + r) ell)) ∧ Below W.heap.size W w') := fun W u v h1 h2 => cmp_num h1 h2 (ell_64 (by omega)) (ell_64 hell)
          have hc0 : cmpN (r + r) ell = -1 := by unfold cmpN; rw [if_pos (by omega)]
          rw [hc0] at CC
          have hef : (r + r) = f := by rw [← hstep]; exact (Nat.mod_eq_of_lt (by omega)).symm
          clear hc0
          obtain ⟨dd, hdd⟩ : ∃ ee, r + r = ee := ⟨_, rfl⟩
          rw [hdd] at CP CC
          rw [hdd] at hef
          have NU_0 := HU
          have NO_0 := HO
          have HB_0 := (show Hid (Below wr.heap.size wr wr) from Below.refl _ _)
          have TK_0 := (show Hid True from trivial)
          clear hbt hlu htl hrl hstep hell hel hge HD HPOS HU HO hdd
          go_wp2_with (first
            | (have hq := TK_0; go_at_call 73; refine (CP.out _ _ _ (NU_0.out) (NU_0.out)).mono ?_; rintro e w1 ⟨vd, rfl, hn, hb⟩; have HB_1 := (show Hid (Below wr.heap.size wr w1) from HB_0.out.trans (hb.mono HB_0.out.size)); have NO_1 := (show Hid (Num w1 vo ell) from NO_0.out.below hb); have ND_1 := (show Hid (Num w1 vd dd) from hn); have TK_1 := (show Hid True from trivial); clear hq TK_0 hb HB_0 NU_0 NO_0 hn; have rc := HCE.out w1 (HB.out.trans (HB_1.out.mono HB.out.size)))
            | (have hq := TK_1; go_at_call 51; refine (CC.out _ _ _ (ND_1.out) (NO_1.out)).mono ?_; rintro e w2 ⟨rfl, hb⟩; have HB_2 := (show Hid (Below wr.heap.size wr w2) from HB_1.out.trans (hb.mono HB_1.out.size)); have NO_2 := (show Hid (Num w2 vo ell) from NO_1.out.below hb); have ND_2 := (show Hid (Num w2 vd dd) from ND_1.out.below hb); have TK_2 := (show Hid True from trivial); clear hq TK_1 hb HB_1 NO_1 ND_1))
          go_roundw
          case rel => exact ⟨j, rfl, by omega, (by show Num _ _ _; rw [HF.out, ← hef]; exact ND_2.out), NO_2, HB.out.trans (HB_2.out.mono HB.out.size)⟩
          case measure => simp [numOf1]
end Dt
end Go.Proofs.Ytgdekigdbbldoaa

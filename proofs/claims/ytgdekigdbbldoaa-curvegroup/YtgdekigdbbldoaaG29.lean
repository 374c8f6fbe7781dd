/- A contract of a function of curve over fractions, by walking its text (printed by a program). What overOne does: a contract, by walking its text. -/
import Derived.Test.YtgdekigdbbldoaaG28
namespace Go.Proofs.Ytgdekigdbbldoaa
open Go.RowKit
namespace Fd
open Rg

set_option maxHeartbeats 4000000 in
set_option maxRecDepth 4000 in
theorem divided_at (a0 a1 a2 k8 k15 k20 : Nat) (h_k8 : ∀ W : World, Calls Try.prog 23 #[bv a2] W fun e w' => e = .returned (.tuple #[bv k8, .nilIface]) ∧ Below W.heap.size W w') (l_k8 : k8 < 115792089237316195423570985008687907853269984665640564039457584007913129639936) (h_k15 : mulp a0 k8 = k15) (h_k20 : mulp a1 k8 = k20) (l_a0 : a0 < 115792089237316195423570985008687907853269984665640564039457584007913129639936) (l_a1 : a1 < 115792089237316195423570985008687907853269984665640564039457584007913129639936) (_l_a2 : a2 < 115792089237316195423570985008687907853269984665640564039457584007913129639936) (w : World) :
    Calls Try.prog 80 #[fv a0 a1 a2] w fun e w' => e = .returned (pv k15 k20) ∧ Below w.heap.size w w' := by
  have c_k8 : ∀ W : World, Calls Try.prog 23 #[.agg (bvc a2).toArray] W fun e w' => e = .returned (.tuple #[.agg (bvc k8).toArray, .nilIface]) ∧ Below W.heap.size W w' := fun W => h_k8 W
  have l_k15 : k15 < 115792089237316195423570985008687907853269984665640564039457584007913129639936 := h_k15 ▸ mulp_lt _ _
  have c_k15 : ∀ W : World, Calls Try.prog 20 #[.agg (bvc a0).toArray, .agg (bvc k8).toArray] W fun e w' => e = .returned (.agg (bvc k15).toArray) ∧ Below W.heap.size W w' := fun W => by have h := mul_any a0 k8 W l_a0 l_k8; rw [← h_k15]; exact h
  have l_k20 : k20 < 115792089237316195423570985008687907853269984665640564039457584007913129639936 := h_k20 ▸ mulp_lt _ _
  have c_k20 : ∀ W : World, Calls Try.prog 20 #[.agg (bvc a1).toArray, .agg (bvc k8).toArray] W fun e w' => e = .returned (.agg (bvc k20).toArray) ∧ Below W.heap.size W w' := fun W => by have h := mul_any a1 k8 W l_a1 l_k8; rw [← h_k20]; exact h
  clear h_k8 h_k15 h_k20 l_a0 l_a1 _l_a2 l_k8 l_k15 l_k20
  unfold fv pv
  have LA0 : Hid (L32 (bvc a0)) := l32 a0
  have LA1 : Hid (L32 (bvc a1)) := l32 a1
  have LA2 : Hid (L32 (bvc a2)) := l32 a2
  have LK8 : Hid (L32 (bvc k8)) := l32 k8
  have LK15 : Hid (L32 (bvc k15)) := l32 k15
  have LK20 : Hid (L32 (bvc k20)) := l32 k20
  obtain ⟨A0, hA0⟩ : ∃ Z, bvc a0 = Z := ⟨_, rfl⟩
  obtain ⟨A1, hA1⟩ : ∃ Z, bvc a1 = Z := ⟨_, rfl⟩
  obtain ⟨A2, hA2⟩ : ∃ Z, bvc a2 = Z := ⟨_, rfl⟩
  obtain ⟨K8, hK8⟩ : ∃ Z, bvc k8 = Z := ⟨_, rfl⟩
  obtain ⟨K15, hK15⟩ : ∃ Z, bvc k15 = Z := ⟨_, rfl⟩
  obtain ⟨K20, hK20⟩ : ∃ Z, bvc k20 = Z := ⟨_, rfl⟩
  rw [hA0] at LA0 c_k15
  rw [hA1] at LA1 c_k20
  rw [hA2] at LA2 c_k8
  rw [hK8] at LK8 c_k8 c_k15 c_k20
  rw [hK15] at LK15 c_k15
  rw [hK20] at LK20 c_k20
  rw [hA0, hA1, hA2, hK15, hK20]
  clear hA0 hA1 hA2 hK8 hK15 hK20 a0 a1 a2 k8 k15 k20
  have HBP : Hid (Try.prog.built 43 [(0, .agg K15.toArray), (1, .agg K20.toArray)] = some (K15 ++ K20).toArray) := build_point K15 K20 LK15.out.l LK20.out.l
  have HVL : Hid ((K15 ++ K20).length = 64) := by show _ = _; rw [List.length_append, LK15.out.l, LK20.out.l]
  have HVO : Hid ((K15 ++ K20).toArray.all (·.oneCell') = true) := one_app LK15.out.o LK20.out.o
  obtain ⟨VF, hVF⟩ : ∃ V, K15 ++ K20 = V := ⟨_, rfl⟩
  rw [hVF] at HBP HVL HVO ⊢
  clear hVF
  have HS0 := (show Hid _ from start1p w A0 A1 A2 LA0.out.l LA1.out.l)
  have hz := zero22
  have HBN : Hid (∀ (W : World) (R : List Value), R.length = 32 → Bo ((W.alloc (.cells z22 22)).setCells W.heap.size 0 R) W.heap.size R ∧ Below W.heap.size W ((W.alloc (.cells z22 22)).setCells W.heap.size 0 R)) := box_new
  have HLT : Hid (∀ (R : List Value), L32 R → ∀ W : World, (W.alloc (.cells z22 22)).there W.heap.size 0 R.toArray.size) := fun R h => h.t
  obtain ⟨Z, hZ⟩ : ∃ Z, z22 = Z := ⟨_, rfl⟩
  rw [hZ] at hz HBN HLT
  clear hZ
  have hz2 := zero43
  obtain ⟨Z2, hZ2⟩ : ∃ Z, z43 = Z := ⟨_, rfl⟩
  rw [hZ2] at hz2 HS0
  clear hZ2
  obtain ⟨VA, hVA⟩ : ∃ V, (A0 ++ A1) ++ A2 = V := ⟨_, rfl⟩
  rw [hVA] at HS0 ⊢
  clear hVA
  obtain ⟨n, hn⟩ : ∃ n, w.heap.size = n := ⟨_, rfl⟩
  have HN : Hid (w.heap.size = n) := hn
  have HS1 : Hid (Rp ((w.alloc (.cells VA.toArray 84)).alloc (.cells Z2 43)) n 0 A0 ∧ Rp ((w.alloc (.cells VA.toArray 84)).alloc (.cells Z2 43)) n 32 A1 ∧ Rp ((w.alloc (.cells VA.toArray 84)).alloc (.cells Z2 43)) n 64 A2 ∧ Ao w.heap.size ((w.alloc (.cells VA.toArray 84)).alloc (.cells Z2 43)) (n + 1) 64 ∧ Below w.heap.size w ((w.alloc (.cells VA.toArray 84)).alloc (.cells Z2 43))) := by
    have h := HS0.out
    rw [HN.out] at h
    show _ ∧ _
    rw [HN.out]
    exact h
  clear HS0
  have Pn_0_0 := (show Hid (Rp ((w.alloc (.cells VA.toArray 84)).alloc (.cells Z2 43)) n 0 A0) from HS1.out.1)
  have Pn_32_0 := (show Hid (Rp ((w.alloc (.cells VA.toArray 84)).alloc (.cells Z2 43)) n 32 A1) from HS1.out.2.1)
  have Pn_64_0 := (show Hid (Rp ((w.alloc (.cells VA.toArray 84)).alloc (.cells Z2 43)) n 64 A2) from HS1.out.2.2.1)
  have AN_0 := (show Hid (Ao w.heap.size ((w.alloc (.cells VA.toArray 84)).alloc (.cells Z2 43)) (n + 1) 64) from HS1.out.2.2.2.1)
  have HB_0 := (show Hid (Below w.heap.size w ((w.alloc (.cells VA.toArray 84)).alloc (.cells Z2 43))) from HS1.out.2.2.2.2)
  have TK_0 := (show Hid True from trivial)
  clear HS1
  go_enter Try.func80, Try.ntmps80
  go_wp2_with (first
    | (refine wpList_load_mid rfl 22 (.tmp 6) rfl n 64 rfl A2 _ Pn_64_0.out.1 Try.underlying22 rfl LA2.out.i ?_)
    | (have hq := TK_0; go_at_call 23; refine (c_k8 _).mono ?_; rintro e wv1 ⟨rfl, hb⟩; have HB_1 := (show Hid (Below w.heap.size w wv1) from HB_0.out.trans (hb.mono HB_0.out.size)); have Pn_0_1 := (show Hid (Rp wv1 n 0 A0) from Pn_0_0.out.below hb); have Pn_32_1 := (show Hid (Rp wv1 n 32 A1) from Pn_32_0.out.below hb); have Pn_64_1 := (show Hid (Rp wv1 n 64 A2) from Pn_64_0.out.below hb); have AN_1 := (show Hid (Ao w.heap.size wv1 (n + 1) 64) from AN_0.out.below hb); clear HB_0 AN_0 Pn_0_0 Pn_32_0 Pn_64_0 hb; have TK_1 := (show Hid True from trivial); clear hq TK_0)
    | (have hq := TK_1; refine wpList_store_mid rfl 22 (.tmp 3) (.tmp 9) rfl wv1.heap.size 0 K8.toArray rfl rfl (HLT.out K8 LK8.out wv1) LK8.out.j LK8.out.o ?_; simp only [Act.put]; have hbx := HBN.out wv1 K8 LK8.out.l; obtain ⟨wv2, hwv2⟩ : ∃ v, (wv1.alloc (.cells Z 22)).setCells wv1.heap.size 0 K8 = v := ⟨_, rfl⟩; rw [hwv2] at hbx ⊢; clear hwv2; have hb := hbx.2; replace hbx := hbx.1; obtain ⟨b3, hb3⟩ : ∃ b, wv1.heap.size = b := ⟨_, rfl⟩; rw [hb3] at hbx ⊢; clear hb3; have HB_2 := (show Hid (Below w.heap.size w wv2) from HB_1.out.trans (hb.mono HB_1.out.size)); have Pn_0_2 := (show Hid (Rp wv2 n 0 A0) from Pn_0_1.out.below hb); have Pn_32_2 := (show Hid (Rp wv2 n 32 A1) from Pn_32_1.out.below hb); have Pn_64_2 := (show Hid (Rp wv2 n 64 A2) from Pn_64_1.out.below hb); have AN_2 := (show Hid (Ao w.heap.size wv2 (n + 1) 64) from AN_1.out.below hb); have Pb3_0_2 := (show Hid (Rp wv2 b3 0 K8) from hbx.rp); clear HB_1 AN_1 Pn_0_1 Pn_32_1 Pn_64_1 hb; have TK_2 := (show Hid True from trivial); clear hq TK_1 hbx))
  have HQPn_0 := (show Hid _ from Pn_0_2.out.cl)
  have HQPb3_0 := (show Hid _ from Pb3_0_2.out.cl)
  have HQPn_32 := (show Hid _ from Pn_32_2.out.cl)
  have hne := Cl.ne wv2.heap.size wv2
  apply region_cl_tail (N := wv2.heap.size) (W := wv2) 10 10 (by kernel_rfl) (Below.refl _ _)
  case hl => simp only [List.take_succ_cons, List.take_zero]; rfl
  case ht => simp only [List.drop_succ_cons, List.drop_zero]; rfl
  case hB => kernel_rfl
  case hT => kernel_rfl
  case h =>
    go_big_quiet_step (fail)
    go_big_quiet_step (fail)
    go_big_quiet_want
    refine quiet_load 22 _ rfl n 0 rfl A0 _ HQPn_0.out Try.underlying22 rfl LA0.out.i ?_
    simp only [Act.put, List.setIfInBounds_toArray, List.set_cons_zero, List.set_cons_succ]
    go_big_quiet_on
    go_big_quiet_want
    refine quiet_load 22 _ rfl b3 0 rfl K8 _ HQPb3_0.out Try.underlying22 rfl LK8.out.i ?_
    simp only [Act.put, List.setIfInBounds_toArray, List.set_cons_zero, List.set_cons_succ]
    go_big_quiet_on
    go_big_quiet_step ((go_at_call 20; exact cl_of (c_k15 _) (Nat.le_refl _)))
    go_big_quiet_step (fail)
    go_big_quiet_step (fail)
    go_big_quiet_want
    refine quiet_load 22 _ rfl n 32 rfl A1 _ HQPn_32.out Try.underlying22 rfl LA1.out.i ?_
    simp only [Act.put, List.setIfInBounds_toArray, List.set_cons_zero, List.set_cons_succ]
    go_big_quiet_on
    go_big_quiet_want
    refine quiet_load 22 _ rfl b3 0 rfl K8 _ HQPb3_0.out Try.underlying22 rfl LK8.out.i ?_
    simp only [Act.put, List.setIfInBounds_toArray, List.set_cons_zero, List.set_cons_succ]
    go_big_quiet_on
    go_big_quiet_step ((go_at_call 20; exact cl_of (c_k20 _) (Nat.le_refl _)))
    refine wpQuiet_nil ?_
    rintro _ ⟨xq, rfl⟩
    have hb := xq.h
    have HBE := (show Hid (Below w.heap.size w xq.u) from HB_2.out.trans (hb.mono HB_2.out.size))
    have AE := (show Hid (Ao w.heap.size xq.u (n + 1) 64) from AN_2.out.below hb)
    have HTE : Hid (xq.u.there (n + 1) 0 VF.toArray.size) := by have e : VF.toArray.size = 64 := (List.size_toArray ..).trans HVL.out; show World.there _ _ _ _; rw [e]; exact AE.out.2.2
    have HI : Hid ((Try.prog.info? 43).map (·.size) = some VF.toArray.size) := by have e : VF.toArray.size = 64 := (List.size_toArray ..).trans HVL.out; show _ = _; rw [e]; exact info43
    clear hb
    go_wp2_with (first
      | (refine build_to rfl 43 _ rfl (some 21) rfl [(0, .agg K15.toArray), (1, .agg K20.toArray)] (by kernel_rfl) VF HBP.out ?_; simp only [Act.put, List.setIfInBounds_toArray, List.set_cons_zero, List.set_cons_succ])
      | (refine wpList_store_mid rfl 43 (.tmp 2) (.tmp 21) rfl (n + 1) 0 VF.toArray rfl rfl HTE.out HI.out HVO.out ?_; simp only [Act.put]))
    exact bodyPost_ret (results_cell Try.results80 rfl (run_loadVar_mid (P := Try.prog) _ (n + 1) 0 43 VF _ (World.rangeAt_setCells_same _ _ _ _ (by have e : VF.length = VF.toArray.size := (List.size_toArray ..).symm; rw [e]; exact HTE.out)) Try.underlying43 rfl (by have e : VF.length = VF.toArray.size := (List.size_toArray ..).symm; rw [e]; exact HI.out))) rfl ⟨rfl, below_setCells HBE.out AE.out.1⟩
end Fd
end Go.Proofs.Ytgdekigdbbldoaa

namespace Go.Proofs.Ytgdekigdbbldoaa
open Go.RowKit
namespace Fd
open Rg

/-- A box of a point, whole, and the answer's, a fraction. -/
theorem starto (w : World) (V : List Value) :
    let e := (w.alloc (.cells V.toArray 43)).alloc (.cells z84 84)
    Rp e w.heap.size 0 V ∧ Ao w.heap.size e (w.heap.size + 1) 96 ∧ Below w.heap.size w e := by
  intro e
  have ht := there84 (w.alloc (.cells V.toArray 43))
  rw [size_alloc] at ht
  refine ⟨Rp.below ⟨Rg.range_new w V 43, by rw [size_alloc]; omega⟩ ((Below.refl _ _).alloc (Nat.le_refl _) _), ⟨by omega, ?_, ht⟩, ((Below.refl _ _).alloc (Nat.le_refl _) _).alloc (by simp) _⟩
  show _ < (World.alloc _ _).heap.size
  rw [size_alloc, size_alloc]
  omega

set_option maxHeartbeats 400000 in
set_option maxRecDepth 4000 in
theorem overOne_any (x y : Nat) (w : World) : Calls Try.prog 82 #[pv x y] w fun e w' => e = .returned (fv x y cone) ∧ Below w.heap.size w w' := by
  have c1 : ∀ W : World, Calls Try.prog 75 #[] W fun e w' => e = .returned (.agg (bvc cone).toArray) ∧ Below W.heap.size W w' := fun W => cone_any W
  have LO : Hid (L32 (bvc cone)) := l32 cone
  unfold fv pv
  have HPL : Hid ((bvc x ++ bvc y).length = 64) := by show _ = _; rw [List.length_append, bvc_len, bvc_len]
  have HPO : Hid ((bvc x ++ bvc y).toArray.all (·.oneCell') = true) := one_app (one32 x) (one32 y)
  obtain ⟨O, hO⟩ : ∃ X, bvc cone = X := ⟨_, rfl⟩
  obtain ⟨V, hV⟩ : ∃ X, bvc x ++ bvc y = X := ⟨_, rfl⟩
  rw [hO] at LO c1 ⊢
  rw [hV] at HPL HPO ⊢
  clear hO hV x y
  have HBF : Hid (Try.prog.built 84 [(0, .agg V.toArray), (1, .agg O.toArray)] = some (V ++ O).toArray) := build_frac V O HPL.out LO.out.l
  have HVL : Hid ((V ++ O).length = 96) := by show _ = _; rw [List.length_append, HPL.out, LO.out.l]
  have HVO : Hid ((V ++ O).toArray.all (·.oneCell') = true) := one_app HPO.out LO.out.o
  have HPI : Hid ((Try.prog.info? 43).map (·.size) = some V.length) := by show _ = _; rw [HPL.out]; exact info43
  obtain ⟨VF, hVF⟩ : ∃ X, V ++ O = X := ⟨_, rfl⟩
  rw [hVF] at HBF HVL HVO ⊢
  clear hVF
  have HS := (show Hid _ from starto w V)
  have hz2 := zero84
  obtain ⟨Z2, hZ2⟩ : ∃ Z, z84 = Z := ⟨_, rfl⟩
  rw [hZ2] at hz2 HS
  clear hZ2
  obtain ⟨n, hn⟩ : ∃ n, w.heap.size = n := ⟨_, rfl⟩
  have HN : Hid (w.heap.size = n) := hn
  have HS1 : Hid (Rp ((w.alloc (.cells V.toArray 43)).alloc (.cells Z2 84)) n 0 V ∧ Ao w.heap.size ((w.alloc (.cells V.toArray 43)).alloc (.cells Z2 84)) (n + 1) 96 ∧ Below w.heap.size w ((w.alloc (.cells V.toArray 43)).alloc (.cells Z2 84))) := by
    have h := HS.out
    rw [HN.out] at h
    show _ ∧ _
    rw [HN.out]
    exact h
  clear HS
  go_enter Try.func82, Try.ntmps82
  go_wp2
  obtain ⟨wv, hwv⟩ : ∃ v, (w.alloc (.cells V.toArray 43)).alloc (.cells Z2 84) = v := ⟨_, rfl⟩
  rw [hwv] at HS1 ⊢
  clear hwv
  have HQ := (show Hid _ from HS1.out.1.cl)
  have hne := Cl.ne wv.heap.size wv
  apply region_cl_tail (N := wv.heap.size) (W := wv) 2 2 (by kernel_rfl) (Below.refl _ _)
  case hl => simp only [List.take_succ_cons, List.take_zero]; rfl
  case ht => simp only [List.drop_succ_cons, List.drop_zero]; rfl
  case hB => kernel_rfl
  case hT => kernel_rfl
  case h =>
    go_big_quiet_want
    refine quiet_load 43 _ rfl n 0 rfl V _ HQ.out Try.underlying43 rfl HPI.out ?_
    simp only [Act.put, List.setIfInBounds_toArray, List.set_cons_zero, List.set_cons_succ]
    go_big_quiet_on
    go_big_quiet_step ((go_at_call 75; exact cl_of (c1 _) (Nat.le_refl _)))
    refine wpQuiet_nil ?_
    rintro _ ⟨xq, rfl⟩
    have hb := xq.h
    have HBE := (show Hid (Below w.heap.size w xq.u) from HS1.out.2.2.trans (hb.mono HS1.out.2.2.size))
    have AE := (show Hid (Ao w.heap.size xq.u (n + 1) 96) from HS1.out.2.1.below hb)
    have HTE : Hid (xq.u.there (n + 1) 0 VF.toArray.size) := by have e : VF.toArray.size = 96 := (List.size_toArray ..).trans HVL.out; show World.there _ _ _ _; rw [e]; exact AE.out.2.2
    have HI : Hid ((Try.prog.info? 84).map (·.size) = some VF.toArray.size) := by have e : VF.toArray.size = 96 := (List.size_toArray ..).trans HVL.out; show _ = _; rw [e]; exact info84
    clear hb
    go_wp2_with (first
      | (refine build_to rfl 84 _ rfl (some 5) rfl [(0, .agg V.toArray), (1, .agg O.toArray)] (by kernel_rfl) VF HBF.out ?_; simp only [Act.put, List.setIfInBounds_toArray, List.set_cons_zero, List.set_cons_succ])
      | (refine wpList_store_mid rfl 84 (.tmp 2) (.tmp 5) rfl (n + 1) 0 VF.toArray rfl rfl HTE.out HI.out HVO.out ?_; simp only [Act.put]))
    exact bodyPost_ret (results_cell Try.results82 rfl (run_loadVar_mid (P := Try.prog) _ (n + 1) 0 84 VF _ (World.rangeAt_setCells_same _ _ _ _ (by have e : VF.length = VF.toArray.size := (List.size_toArray ..).symm; rw [e]; exact HTE.out)) Try.underlying84 rfl (by have e : VF.length = VF.toArray.size := (List.size_toArray ..).symm; rw [e]; exact HI.out))) rfl ⟨rfl, below_setCells HBE.out AE.out.1⟩
end Fd
end Go.Proofs.Ytgdekigdbbldoaa

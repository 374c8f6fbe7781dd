/- What Base does: a contract, by walking its text. A contract of a function of curve over fractions, by walking its text (printed by a program). -/
import Derived.Test.YtgdekigdbbldoaaG29
namespace Go.Proofs.Ytgdekigdbbldoaa
open Go.RowKit
namespace Fd
open Rg

def baseX : Nat := 15112221349535400772501151409588531511454012693041857206046113283949847762202
def baseY : Nat := 46316835694926478169428394003475163141307993866256225615783033603165251855960
theorem built_baseX : ∀ a : Act, Try.prog.built 22 (Array.map (fun ((i, x) : Nat × Operand) => (i, a.eval x)) #[(0, .const (.int .u8 26)), (1, .const (.int .u8 213)), (2, .const (.int .u8 37)), (3, .const (.int .u8 143)), (4, .const (.int .u8 96)), (5, .const (.int .u8 45)), (6, .const (.int .u8 86)), (7, .const (.int .u8 201)), (8, .const (.int .u8 178)), (9, .const (.int .u8 167)), (10, .const (.int .u8 37)), (11, .const (.int .u8 149)), (12, .const (.int .u8 96)), (13, .const (.int .u8 199)), (14, .const (.int .u8 44)), (15, .const (.int .u8 105)), (16, .const (.int .u8 92)), (17, .const (.int .u8 220)), (18, .const (.int .u8 214)), (19, .const (.int .u8 253)), (20, .const (.int .u8 49)), (21, .const (.int .u8 226)), (22, .const (.int .u8 164)), (23, .const (.int .u8 192)), (24, .const (.int .u8 254)), (25, .const (.int .u8 83)), (26, .const (.int .u8 110)), (27, .const (.int .u8 205)), (28, .const (.int .u8 211)), (29, .const (.int .u8 54)), (30, .const (.int .u8 105)), (31, .const (.int .u8 33))]).toList = some (bvc baseX).toArray := fun a => by kernel_rfl
theorem built_baseY : ∀ a : Act, Try.prog.built 22 (Array.map (fun ((i, x) : Nat × Operand) => (i, a.eval x)) #[(0, .const (.int .u8 88)), (1, .const (.int .u8 102)), (2, .const (.int .u8 102)), (3, .const (.int .u8 102)), (4, .const (.int .u8 102)), (5, .const (.int .u8 102)), (6, .const (.int .u8 102)), (7, .const (.int .u8 102)), (8, .const (.int .u8 102)), (9, .const (.int .u8 102)), (10, .const (.int .u8 102)), (11, .const (.int .u8 102)), (12, .const (.int .u8 102)), (13, .const (.int .u8 102)), (14, .const (.int .u8 102)), (15, .const (.int .u8 102)), (16, .const (.int .u8 102)), (17, .const (.int .u8 102)), (18, .const (.int .u8 102)), (19, .const (.int .u8 102)), (20, .const (.int .u8 102)), (21, .const (.int .u8 102)), (22, .const (.int .u8 102)), (23, .const (.int .u8 102)), (24, .const (.int .u8 102)), (25, .const (.int .u8 102)), (26, .const (.int .u8 102)), (27, .const (.int .u8 102)), (28, .const (.int .u8 102)), (29, .const (.int .u8 102)), (30, .const (.int .u8 102)), (31, .const (.int .u8 102))]).toList = some (bvc baseY).toArray := fun a => by kernel_rfl
set_option maxHeartbeats 400000 in
set_option maxRecDepth 4000 in
theorem base_any (w : World) : Calls Try.prog 30 #[] w fun e w' => e = .returned (pv baseX baseY) ∧ Below w.heap.size w w' := by
  have LX : Hid (L32 (bvc baseX)) := l32 baseX
  have LY : Hid (L32 (bvc baseY)) := l32 baseY
  have HX : Hid (∀ a : Act, Try.prog.built 22 (Array.map (fun ((i, x) : Nat × Operand) => (i, a.eval x)) #[(0, .const (.int .u8 26)), (1, .const (.int .u8 213)), (2, .const (.int .u8 37)), (3, .const (.int .u8 143)), (4, .const (.int .u8 96)), (5, .const (.int .u8 45)), (6, .const (.int .u8 86)), (7, .const (.int .u8 201)), (8, .const (.int .u8 178)), (9, .const (.int .u8 167)), (10, .const (.int .u8 37)), (11, .const (.int .u8 149)), (12, .const (.int .u8 96)), (13, .const (.int .u8 199)), (14, .const (.int .u8 44)), (15, .const (.int .u8 105)), (16, .const (.int .u8 92)), (17, .const (.int .u8 220)), (18, .const (.int .u8 214)), (19, .const (.int .u8 253)), (20, .const (.int .u8 49)), (21, .const (.int .u8 226)), (22, .const (.int .u8 164)), (23, .const (.int .u8 192)), (24, .const (.int .u8 254)), (25, .const (.int .u8 83)), (26, .const (.int .u8 110)), (27, .const (.int .u8 205)), (28, .const (.int .u8 211)), (29, .const (.int .u8 54)), (30, .const (.int .u8 105)), (31, .const (.int .u8 33))]).toList = some (bvc baseX).toArray) := built_baseX
  have HY : Hid (∀ a : Act, Try.prog.built 22 (Array.map (fun ((i, x) : Nat × Operand) => (i, a.eval x)) #[(0, .const (.int .u8 88)), (1, .const (.int .u8 102)), (2, .const (.int .u8 102)), (3, .const (.int .u8 102)), (4, .const (.int .u8 102)), (5, .const (.int .u8 102)), (6, .const (.int .u8 102)), (7, .const (.int .u8 102)), (8, .const (.int .u8 102)), (9, .const (.int .u8 102)), (10, .const (.int .u8 102)), (11, .const (.int .u8 102)), (12, .const (.int .u8 102)), (13, .const (.int .u8 102)), (14, .const (.int .u8 102)), (15, .const (.int .u8 102)), (16, .const (.int .u8 102)), (17, .const (.int .u8 102)), (18, .const (.int .u8 102)), (19, .const (.int .u8 102)), (20, .const (.int .u8 102)), (21, .const (.int .u8 102)), (22, .const (.int .u8 102)), (23, .const (.int .u8 102)), (24, .const (.int .u8 102)), (25, .const (.int .u8 102)), (26, .const (.int .u8 102)), (27, .const (.int .u8 102)), (28, .const (.int .u8 102)), (29, .const (.int .u8 102)), (30, .const (.int .u8 102)), (31, .const (.int .u8 102))]).toList = some (bvc baseY).toArray) := built_baseY
  unfold pv
  obtain ⟨X, hX⟩ : ∃ X, bvc baseX = X := ⟨_, rfl⟩
  obtain ⟨Y, hY⟩ : ∃ X, bvc baseY = X := ⟨_, rfl⟩
  rw [hX] at LX HX ⊢
  rw [hY] at LY HY ⊢
  clear hX hY
  have HBP : Hid (Try.prog.built 43 [(0, .agg X.toArray), (1, .agg Y.toArray)] = some (X ++ Y).toArray) := build_point X Y LX.out.l LY.out.l
  have HVL : Hid ((X ++ Y).length = 64) := by show _ = _; rw [List.length_append, LX.out.l, LY.out.l]
  have HVO : Hid ((X ++ Y).toArray.all (·.oneCell') = true) := one_app LX.out.o LY.out.o
  obtain ⟨VF, hVF⟩ : ∃ V, X ++ Y = V := ⟨_, rfl⟩
  rw [hVF] at HBP HVL HVO ⊢
  clear hVF
  have hz2 := zero43
  have HT := (show Hid _ from there43 w)
  obtain ⟨Z2, hZ2⟩ : ∃ Z, z43 = Z := ⟨_, rfl⟩
  rw [hZ2] at hz2 HT
  clear hZ2
  obtain ⟨n, hn⟩ : ∃ n, w.heap.size = n := ⟨_, rfl⟩
  have HN : Hid (w.heap.size = n) := hn
  have HTE : Hid ((w.alloc (.cells Z2 43)).there n 0 VF.toArray.size) := by have e : VF.toArray.size = 64 := (List.size_toArray ..).trans HVL.out; show World.there _ _ _ _; rw [e, ← HN.out]; exact HT.out
  have HI : Hid ((Try.prog.info? 43).map (·.size) = some VF.toArray.size) := by have e : VF.toArray.size = 64 := (List.size_toArray ..).trans HVL.out; show _ = _; rw [e]; exact info43
  clear HT
  go_enter Try.func30, Try.ntmps30
  go_wp2_with (first
    | (refine wpList_buildTo rfl 22 _ rfl (some 1) rfl X.toArray (HX.out _) ?_)
    | (refine wpList_buildTo rfl 22 _ rfl (some 2) rfl Y.toArray (HY.out _) ?_)
    | (refine build_to rfl 43 _ rfl (some 3) rfl [(0, .agg X.toArray), (1, .agg Y.toArray)] (by kernel_rfl) VF HBP.out ?_; simp only [Act.put, List.setIfInBounds_toArray, List.set_cons_zero, List.set_cons_succ])
    | (refine wpList_store_mid rfl 43 (.tmp 0) (.tmp 3) rfl n 0 VF.toArray rfl rfl HTE.out HI.out HVO.out ?_; simp only))
  exact bodyPost_ret (results_cell Try.results30 rfl (run_loadVar_mid (P := Try.prog) _ n 0 43 VF _ (World.rangeAt_setCells_same _ _ _ _ (by have e : VF.length = VF.toArray.size := (List.size_toArray ..).symm; rw [e]; exact HTE.out)) Try.underlying43 rfl (by have e : VF.length = VF.toArray.size := (List.size_toArray ..).symm; rw [e]; exact HI.out))) rfl ⟨rfl, below_setCells ((Below.refl _ _).alloc (Nat.le_of_eq hn.symm) _) (Nat.le_refl _)⟩
end Fd
end Go.Proofs.Ytgdekigdbbldoaa

namespace Go.Proofs.Ytgdekigdbbldoaa
open Go.RowKit
namespace Fd
open Rg

set_option maxHeartbeats 4000000 in
set_option maxRecDepth 4000 in
theorem negative_at (a0 a1 k3 k6 k9 : Nat) (h_k3 : 0 = k3) (h_k6 : subp k3 a0 = k6) (h_k9 : redp a1 = k9) (l_a0 : a0 < 115792089237316195423570985008687907853269984665640564039457584007913129639936) (l_a1 : a1 < 115792089237316195423570985008687907853269984665640564039457584007913129639936) (w : World) :
    Calls Try.prog 83 #[pv a0 a1] w fun e w' => e = .returned (pv k6 k9) ∧ Below w.heap.size w w' := by
  have l_k3 : k3 < 115792089237316195423570985008687907853269984665640564039457584007913129639936 := h_k3 ▸ (by decide)
  have c_k3 : Hid (Try.prog.built 22 [] = some (bvc k3).toArray) := by show _ = _; rw [← h_k3]; kernel_rfl
  have l_k6 : k6 < 115792089237316195423570985008687907853269984665640564039457584007913129639936 := h_k6 ▸ subp_lt _ _
  have c_k6 : ∀ W : World, Calls Try.prog 18 #[.agg (bvc k3).toArray, .agg (bvc a0).toArray] W fun e w' => e = .returned (.agg (bvc k6).toArray) ∧ Below W.heap.size W w' := fun W => by have h := sub_any k3 a0 W l_k3 l_a0; rw [← h_k6]; exact h
  have l_k9 : k9 < 115792089237316195423570985008687907853269984665640564039457584007913129639936 := h_k9 ▸ redp_lt _
  have c_k9 : ∀ W : World, Calls Try.prog 22 #[.agg (bvc a1).toArray] W fun e w' => e = .returned (.agg (bvc k9).toArray) ∧ Below W.heap.size W w' := fun W => by have h := reduce_any a1 W l_a1; rw [← h_k9]; exact h
  clear h_k3 h_k6 h_k9 l_a0 l_a1 l_k3 l_k6 l_k9
  unfold pv
  have LA0 : Hid (L32 (bvc a0)) := l32 a0
  have LA1 : Hid (L32 (bvc a1)) := l32 a1
  have LK3 : Hid (L32 (bvc k3)) := l32 k3
  have LK6 : Hid (L32 (bvc k6)) := l32 k6
  have LK9 : Hid (L32 (bvc k9)) := l32 k9
  obtain ⟨A0, hA0⟩ : ∃ Z, bvc a0 = Z := ⟨_, rfl⟩
  obtain ⟨A1, hA1⟩ : ∃ Z, bvc a1 = Z := ⟨_, rfl⟩
  obtain ⟨K3, hK3⟩ : ∃ Z, bvc k3 = Z := ⟨_, rfl⟩
  obtain ⟨K6, hK6⟩ : ∃ Z, bvc k6 = Z := ⟨_, rfl⟩
  obtain ⟨K9, hK9⟩ : ∃ Z, bvc k9 = Z := ⟨_, rfl⟩
  rw [hA0] at LA0 c_k6
  rw [hA1] at LA1 c_k9
  rw [hK3] at LK3 c_k3 c_k6
  rw [hK6] at LK6 c_k6
  rw [hK9] at LK9 c_k9
  rw [hA0, hA1, hK6, hK9]
  clear hA0 hA1 hK3 hK6 hK9 a0 a1 k3 k6 k9
  have HBP : Hid (Try.prog.built 43 [(0, .agg K6.toArray), (1, .agg K9.toArray)] = some (K6 ++ K9).toArray) := build_point K6 K9 LK6.out.l LK9.out.l
  have HVL : Hid ((K6 ++ K9).length = 64) := by show _ = _; rw [List.length_append, LK6.out.l, LK9.out.l]
  have HVO : Hid ((K6 ++ K9).toArray.all (·.oneCell') = true) := one_app LK6.out.o LK9.out.o
  obtain ⟨VF, hVF⟩ : ∃ V, K6 ++ K9 = V := ⟨_, rfl⟩
  rw [hVF] at HBP HVL HVO ⊢
  clear hVF
  have HS0 := (show Hid _ from startp w A0 A1 LA0.out.l)
  have hz := zero22
  have HBN : Hid (∀ (W : World) (R : List Value), R.length = 32 → Bo ((W.alloc (.cells z22 22)).setCells W.heap.size 0 R) W.heap.size R ∧ Below W.heap.size W ((W.alloc (.cells z22 22)).setCells W.heap.size 0 R)) := box_new
  have HLT : Hid (∀ (R : List Value), L32 R → ∀ W : World, (W.alloc (.cells z22 22)).there W.heap.size 0 R.toArray.size) := fun R h => h.t
  obtain ⟨Z, hZ⟩ : ∃ Z, z22 = Z := ⟨_, rfl⟩
  rw [hZ] at hz HBN HLT
  clear hZ
  have hz2 := zero43
  obtain ⟨Z2, hZ2⟩ : ∃ Z, z43 = Z := ⟨_, rfl⟩
  rw [hZ2] at hz2 HS0
  clear hZ2
  obtain ⟨VA, hVA⟩ : ∃ V, A0 ++ A1 = V := ⟨_, rfl⟩
  rw [hVA] at HS0 ⊢
  clear hVA
  obtain ⟨n, hn⟩ : ∃ n, w.heap.size = n := ⟨_, rfl⟩
  have HN : Hid (w.heap.size = n) := hn
  have HS1 : Hid (Rp ((w.alloc (.cells VA.toArray 43)).alloc (.cells Z2 43)) n 0 A0 ∧ Rp ((w.alloc (.cells VA.toArray 43)).alloc (.cells Z2 43)) n 32 A1 ∧ Ao w.heap.size ((w.alloc (.cells VA.toArray 43)).alloc (.cells Z2 43)) (n + 1) 64 ∧ Below w.heap.size w ((w.alloc (.cells VA.toArray 43)).alloc (.cells Z2 43))) := by
    have h := HS0.out
    rw [HN.out] at h
    show _ ∧ _
    rw [HN.out]
    exact h
  clear HS0
  have Pn_0_0 := (show Hid (Rp ((w.alloc (.cells VA.toArray 43)).alloc (.cells Z2 43)) n 0 A0) from HS1.out.1)
  have Pn_32_0 := (show Hid (Rp ((w.alloc (.cells VA.toArray 43)).alloc (.cells Z2 43)) n 32 A1) from HS1.out.2.1)
  have AN_0 := (show Hid (Ao w.heap.size ((w.alloc (.cells VA.toArray 43)).alloc (.cells Z2 43)) (n + 1) 64) from HS1.out.2.2.1)
  have HB_0 := (show Hid (Below w.heap.size w ((w.alloc (.cells VA.toArray 43)).alloc (.cells Z2 43))) from HS1.out.2.2.2)
  have TK_0 := (show Hid True from trivial)
  clear HS1
  go_enter Try.func83, Try.ntmps83
  go_wp2
  obtain ⟨wv0, hwv0⟩ : ∃ v, ((w.alloc (.cells VA.toArray 43)).alloc (.cells Z2 43)) = v := ⟨_, rfl⟩
  rw [hwv0] at Pn_0_0 Pn_32_0 AN_0 HB_0 ⊢
  clear hwv0
  have HQPn_0 := (show Hid _ from Pn_0_0.out.cl)
  have HQPn_32 := (show Hid _ from Pn_32_0.out.cl)
  have hne := Cl.ne wv0.heap.size wv0
  apply region_cl_tail (N := wv0.heap.size) (W := wv0) 7 7 (by kernel_rfl) (Below.refl _ _)
  case hl => simp only [List.take_succ_cons, List.take_zero]; rfl
  case ht => simp only [List.drop_succ_cons, List.drop_zero]; rfl
  case hB => kernel_rfl
  case hT => kernel_rfl
  case h =>
    go_big_quiet_want
    refine quiet_build 22 _ rfl [] (by kernel_rfl) K3 c_k3.out ?_
    simp only [Act.put, List.setIfInBounds_toArray, List.set_cons_zero, List.set_cons_succ]
    go_big_quiet_on
    go_big_quiet_step (fail)
    go_big_quiet_want
    refine quiet_load 22 _ rfl n 0 rfl A0 _ HQPn_0.out Try.underlying22 rfl LA0.out.i ?_
    simp only [Act.put, List.setIfInBounds_toArray, List.set_cons_zero, List.set_cons_succ]
    go_big_quiet_on
    go_big_quiet_step ((go_at_call 18; exact cl_of (c_k6 _) (Nat.le_refl _)))
    go_big_quiet_step (fail)
    go_big_quiet_want
    refine quiet_load 22 _ rfl n 32 rfl A1 _ HQPn_32.out Try.underlying22 rfl LA1.out.i ?_
    simp only [Act.put, List.setIfInBounds_toArray, List.set_cons_zero, List.set_cons_succ]
    go_big_quiet_on
    go_big_quiet_step ((go_at_call 22; exact cl_of (c_k9 _) (Nat.le_refl _)))
    refine wpQuiet_nil ?_
    rintro _ ⟨xq, rfl⟩
    have hb := xq.h
    have HBE := (show Hid (Below w.heap.size w xq.u) from HB_0.out.trans (hb.mono HB_0.out.size))
    have AE := (show Hid (Ao w.heap.size xq.u (n + 1) 64) from AN_0.out.below hb)
    have HTE : Hid (xq.u.there (n + 1) 0 VF.toArray.size) := by have e : VF.toArray.size = 64 := (List.size_toArray ..).trans HVL.out; show World.there _ _ _ _; rw [e]; exact AE.out.2.2
    have HI : Hid ((Try.prog.info? 43).map (·.size) = some VF.toArray.size) := by have e : VF.toArray.size = 64 := (List.size_toArray ..).trans HVL.out; show _ = _; rw [e]; exact info43
    clear hb
    go_wp2_with (first
      | (refine build_to rfl 43 _ rfl (some 10) rfl [(0, .agg K6.toArray), (1, .agg K9.toArray)] (by kernel_rfl) VF HBP.out ?_; simp only [Act.put, List.setIfInBounds_toArray, List.set_cons_zero, List.set_cons_succ])
      | (refine wpList_store_mid rfl 43 (.tmp 2) (.tmp 10) rfl (n + 1) 0 VF.toArray rfl rfl HTE.out HI.out HVO.out ?_; simp only [Act.put]))
    exact bodyPost_ret (results_cell Try.results83 rfl (run_loadVar_mid (P := Try.prog) _ (n + 1) 0 43 VF _ (World.rangeAt_setCells_same _ _ _ _ (by have e : VF.length = VF.toArray.size := (List.size_toArray ..).symm; rw [e]; exact HTE.out)) Try.underlying43 rfl (by have e : VF.length = VF.toArray.size := (List.size_toArray ..).symm; rw [e]; exact HI.out))) rfl ⟨rfl, below_setCells HBE.out AE.out.1⟩
end Fd
end Go.Proofs.Ytgdekigdbbldoaa

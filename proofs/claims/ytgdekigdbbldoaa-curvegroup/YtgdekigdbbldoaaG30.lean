/- A contract of a function of curve over fractions, by walking its text (printed by a program). What Neg does: a contract, by walking its text. -/
import Derived.Test.YtgdekigdbbldoaaG28
namespace Go.Proofs.Ytgdekigdbbldoaa
open Go.RowKit
namespace Fd
open Rg

set_option maxHeartbeats 4000000 in
set_option maxRecDepth 4000 in
theorem negative_at (a0 a1 k3 k6 k9 : Nat) (h_k3 : 0 = k3) (h_k6 : subp k3 a0 = k6) (h_k9 : redp a1 = k9) (l_a0 : a0 < 115792089237316195423570985008687907853269984665640564039457584007913129639936) (l_a1 : a1 < 115792089237316195423570985008687907853269984665640564039457584007913129639936) (w : World) :
    Calls Try.prog 83 #[pv a0 a1] w fun e w' => e = .returned (pv k6 k9) ∧ Below w.heap.size w w' := by
  have l_k3 : k3 < 115792089237316195423570985008687907853269984665640564039457584007913129639936 := h_k3 ▸ (by decide)
  have c_k3 : Hid (Try.prog.built 22 [] = some (bvc k3).toArray) := by show _ = _; rw [← h_k3]; kernel_rfl
  have l_k6 : k6 < 115792089237316195423570985008687907853269984665640564039457584007913129639936 := h_k6 ▸ subp_lt _ _
  have c_k6 : ∀ W : World, Calls Try.prog 18 #[.agg (bvc k3).toArray, .agg (bvc a0).toArray] W fun e w' => e = .returned (.agg (bvc k6).toArray) ∧ Below W.heap.size W w' := fun W => by have h := sub_any k3 a0 W l_k3 l_a0; rw [← h_k6]; exact h
  have l_k9 : k9 < 115792089237316195423570985008687907853269984665640564039457584007913129639936 := h_k9 ▸ redp_lt _
  have c_k9 : ∀ W : World, Calls Try.prog 22 #[.agg (bvc a1).toArray] W fun e w' => e = .returned (.agg (bvc k9).toArray) ∧ Below W.heap.size W w' := fun W => by have h := reduce_any a1 W l_a1; rw [← h_k9]; exact h
  clear h_k3 h_k6 h_k9 l_a0 l_a1 l_k3 l_k6 l_k9
  unfold pv
  have LA0 : Hid (L32 (bvc a0)) := l32 a0
  have LA1 : Hid (L32 (bvc a1)) := l32 a1
  have LK3 : Hid (L32 (bvc k3)) := l32 k3
  have LK6 : Hid (L32 (bvc k6)) := l32 k6
  have LK9 : Hid (L32 (bvc k9)) := l32 k9
  obtain ⟨A0, hA0⟩ : ∃ Z, bvc a0 = Z := ⟨_, rfl⟩
  obtain ⟨A1, hA1⟩ : ∃ Z, bvc a1 = Z := ⟨_, rfl⟩
  obtain ⟨K3, hK3⟩ : ∃ Z, bvc k3 = Z := ⟨_, rfl⟩
  obtain ⟨K6, hK6⟩ : ∃ Z, bvc k6 = Z := ⟨_, rfl⟩
  obtain ⟨K9, hK9⟩ : ∃ Z, bvc k9 = Z := ⟨_, rfl⟩
  rw [hA0] at LA0 c_k6
  rw [hA1] at LA1 c_k9
  rw [hK3] at LK3 c_k3 c_k6
  rw [hK6] at LK6 c_k6
  rw [hK9] at LK9 c_k9
  rw [hA0, hA1, hK6, hK9]
  clear hA0 hA1 hK3 hK6 hK9 a0 a1 k3 k6 k9
  have HBP : Hid (Try.prog.built 43 [(0, .agg K6.toArray), (1, .agg K9.toArray)] = some (K6 ++ K9).toArray) := build_point K6 K9 LK6.out.l LK9.out.l
  have HVL : Hid ((K6 ++ K9).length = 64) := by show _ = _; rw [List.length_append, LK6.out.l, LK9.out.l]
  have HVO : Hid ((K6 ++ K9).toArray.all (·.oneCell') = true) := one_app LK6.out.o LK9.out.o
  obtain ⟨VF, hVF⟩ : ∃ V, K6 ++ K9 = V := ⟨_, rfl⟩
  rw [hVF] at HBP HVL HVO ⊢
  clear hVF
  have HS0 := (show Hid _ from startp w A0 A1 LA0.out.l)
  have hz := zero22
  have HBN : Hid (∀ (W : World) (R : List Value), R.length = 32 → Bo ((W.alloc (.cells z22 22)).setCells W.heap.size 0 R) W.heap.size R ∧ Below W.heap.size W ((W.alloc (.cells z22 22)).setCells W.heap.size 0 R)) := box_new
  have HLT : Hid (∀ (R : List Value), L32 R → ∀ W : World, (W.alloc (.cells z22 22)).there W.heap.size 0 R.toArray.size) := fun R h => h.t
  obtain ⟨Z, hZ⟩ : ∃ Z, z22 = Z := ⟨_, rfl⟩
  rw [hZ] at hz HBN HLT
  clear hZ
  have hz2 := zero43
  obtain ⟨Z2, hZ2⟩ : ∃ Z, z43 = Z := ⟨_, rfl⟩
  rw [hZ2] at hz2 HS0
  clear hZ2
  obtain ⟨VA, hVA⟩ : ∃ V, A0 ++ A1 = V := ⟨_, rfl⟩
  rw [hVA] at HS0 ⊢
  clear hVA
  obtain ⟨n, hn⟩ : ∃ n, w.heap.size = n := ⟨_, rfl⟩
  have HN : Hid (w.heap.size = n) := hn
  have HS1 : Hid (Rp ((w.alloc (.cells VA.toArray 43)).alloc (.cells Z2 43)) n 0 A0 ∧ Rp ((w.alloc (.cells VA.toArray 43)).alloc (.cells Z2 43)) n 32 A1 ∧ Ao w.heap.size ((w.alloc (.cells VA.toArray 43)).alloc (.cells Z2 43)) (n + 1) 64 ∧ Below w.heap.size w ((w.alloc (.cells VA.toArray 43)).alloc (.cells Z2 43))) := by
    have h := HS0.out
    rw [HN.out] at h
    show _ ∧ _
    rw [HN.out]
    exact h
  clear HS0
  have Pn_0_0 := (show Hid (Rp ((w.alloc (.cells VA.toArray 43)).alloc (.cells Z2 43)) n 0 A0) from HS1.out.1)
  have Pn_32_0 := (show Hid (Rp ((w.alloc (.cells VA.toArray 43)).alloc (.cells Z2 43)) n 32 A1) from HS1.out.2.1)
  have AN_0 := (show Hid (Ao w.heap.size ((w.alloc (.cells VA.toArray 43)).alloc (.cells Z2 43)) (n + 1) 64) from HS1.out.2.2.1)
  have HB_0 := (show Hid (Below w.heap.size w ((w.alloc (.cells VA.toArray 43)).alloc (.cells Z2 43))) from HS1.out.2.2.2)
  have TK_0 := (show Hid True from trivial)
  clear HS1
  go_enter Try.func83, Try.ntmps83
  go_wp2
  obtain ⟨wv0, hwv0⟩ : ∃ v, ((w.alloc (.cells VA.toArray 43)).alloc (.cells Z2 43)) = v := ⟨_, rfl⟩
  rw [hwv0] at Pn_0_0 Pn_32_0 AN_0 HB_0 ⊢
  clear hwv0
  have HQPn_0 := (show Hid _ from Pn_0_0.out.cl)
  have HQPn_32 := (show Hid _ from Pn_32_0.out.cl)
  have hne := Cl.ne wv0.heap.size wv0
  apply region_cl_tail (N := wv0.heap.size) (W := wv0) 7 7 (by kernel_rfl) (Below.refl _ _)
  case hl => simp only [List.take_succ_cons, List.take_zero]; rfl
  case ht => simp only [List.drop_succ_cons, List.drop_zero]; rfl
  case hB => kernel_rfl
  case hT => kernel_rfl
  case h =>
    go_big_quiet_want
    refine quiet_build 22 _ rfl [] (by kernel_rfl) K3 c_k3.out ?_
    simp only [Act.put, List.setIfInBounds_toArray, List.set_cons_zero, List.set_cons_succ]
    go_big_quiet_on
    go_big_quiet_step (fail)
    go_big_quiet_want
    refine quiet_load 22 _ rfl n 0 rfl A0 _ HQPn_0.out Try.underlying22 rfl LA0.out.i ?_
    simp only [Act.put, List.setIfInBounds_toArray, List.set_cons_zero, List.set_cons_succ]
    go_big_quiet_on
    go_big_quiet_step ((go_at_call 18; exact cl_of (c_k6 _) (Nat.le_refl _)))
    go_big_quiet_step (fail)
    go_big_quiet_want
    refine quiet_load 22 _ rfl n 32 rfl A1 _ HQPn_32.out Try.underlying22 rfl LA1.out.i ?_
    simp only [Act.put, List.setIfInBounds_toArray, List.set_cons_zero, List.set_cons_succ]
    go_big_quiet_on
    go_big_quiet_step ((go_at_call 22; exact cl_of (c_k9 _) (Nat.le_refl _)))
    refine wpQuiet_nil ?_
    rintro _ ⟨xq, rfl⟩
    have hb := xq.h
    have HBE := (show Hid (Below w.heap.size w xq.u) from HB_0.out.trans (hb.mono HB_0.out.size))
    have AE := (show Hid (Ao w.heap.size xq.u (n + 1) 64) from AN_0.out.below hb)
    have HTE : Hid (xq.u.there (n + 1) 0 VF.toArray.size) := by have e : VF.toArray.size = 64 := (List.size_toArray ..).trans HVL.out; show World.there _ _ _ _; rw [e]; exact AE.out.2.2
    have HI : Hid ((Try.prog.info? 43).map (·.size) = some VF.toArray.size) := by have e : VF.toArray.size = 64 := (List.size_toArray ..).trans HVL.out; show _ = _; rw [e]; exact info43
    clear hb
    go_wp2_with (first
      | (refine build_to rfl 43 _ rfl (some 10) rfl [(0, .agg K6.toArray), (1, .agg K9.toArray)] (by kernel_rfl) VF HBP.out ?_; simp only [Act.put, List.setIfInBounds_toArray, List.set_cons_zero, List.set_cons_succ])
      | (refine wpList_store_mid rfl 43 (.tmp 2) (.tmp 10) rfl (n + 1) 0 VF.toArray rfl rfl HTE.out HI.out HVO.out ?_; simp only [Act.put]))
    exact bodyPost_ret (results_cell Try.results83 rfl (run_loadVar_mid (P := Try.prog) _ (n + 1) 0 43 VF _ (World.rangeAt_setCells_same _ _ _ _ (by have e : VF.length = VF.toArray.size := (List.size_toArray ..).symm; rw [e]; exact HTE.out)) Try.underlying43 rfl (by have e : VF.length = VF.toArray.size := (List.size_toArray ..).symm; rw [e]; exact HI.out))) rfl ⟨rfl, below_setCells HBE.out AE.out.1⟩
end Fd
end Go.Proofs.Ytgdekigdbbldoaa

namespace Go.Proofs.Ytgdekigdbbldoaa
open Go.RowKit
namespace Fd
open Rg

/-- What the walk wants of a letter for a point. -/
structure L64 (R : List Value) : Prop where
  l : R.length = 64
  o : R.toArray.all (·.oneCell') = true
  i : (Try.prog.info? 43).map (·.size) = some R.length
  j : (Try.prog.info? 43).map (·.size) = some R.toArray.size
theorem l64 (x y : Nat) : L64 (bvc x ++ bvc y) := by
  have h : (bvc x ++ bvc y).length = 64 := by rw [List.length_append, bvc_len, bvc_len]
  exact ⟨h, one_app (one32 x) (one32 y), by rw [h]; exact info43, by rw [List.size_toArray, h]; exact info43⟩
theorem L64.t {R : List Value} (h : L64 R) {N : Nat} {w : World} {b : Nat} (ha : Ao N w b 64) : w.there b 0 R.toArray.size := by rw [List.size_toArray, h.l]; exact ha.2.2
/-- A box of a point, whole, and the answer's, a point. -/
theorem startpp (w : World) (V : List Value) :
    let e := (w.alloc (.cells V.toArray 43)).alloc (.cells z43 43)
    Rp e w.heap.size 0 V ∧ Ao w.heap.size e (w.heap.size + 1) 64 ∧ Below w.heap.size w e := by
  intro e
  have ht := there43 (w.alloc (.cells V.toArray 43))
  rw [size_alloc] at ht
  refine ⟨Rp.below ⟨Rg.range_new w V 43, by rw [size_alloc]; omega⟩ ((Below.refl _ _).alloc (Nat.le_refl _) _), ⟨by omega, ?_, ht⟩, ((Below.refl _ _).alloc (Nat.le_refl _) _).alloc (by simp) _⟩
  show _ < (World.alloc _ _).heap.size
  rw [size_alloc, size_alloc]
  omega
theorem build_none : Try.prog.built 43 [] = some (bvc 0 ++ bvc 0).toArray := by kernel_rfl
/-- The answer is read from its box. -/
theorem end43 {N : Nat} {w : World} {b : Nat} {R : List Value} (h : L64 R) (ha : Ao N w b 64) : (loadVar 43 ⟨b, 0, none⟩).run Try.prog (w.setCells b 0 R) = .ok (.agg R.toArray) (w.setCells b 0 R) :=
  run_loadVar_mid (P := Try.prog) _ b 0 43 R _ (World.rangeAt_setCells_same _ _ _ _ (by have := h.t ha; rwa [List.size_toArray] at this)) Try.underlying43 rfl h.i

set_option maxHeartbeats 400000 in
set_option maxRecDepth 4000 in
theorem neg_no (x y : Nat) (w : World) (hx : x < 115792089237316195423570985008687907853269984665640564039457584007913129639936) (hy : y < 115792089237316195423570985008687907853269984665640564039457584007913129639936) (hon : ¬ OnC x y) :
    Calls Try.prog 36 #[pv x y] w fun e w' => e = .returned (.tuple #[pv 0 0, .iface 35 (.int .i64 29)]) ∧ Below w.heap.size w w' := by
  have ci := fun W => is_any x y W hx hy
  rw [decide_eq_false hon] at ci
  unfold pv at ci ⊢
  have LV : Hid (L64 (bvc x ++ bvc y)) := l64 x y
  have LE : Hid (L64 (bvc 0 ++ bvc 0)) := l64 0 0
  have HBN : Hid (Try.prog.built 43 [] = some (bvc 0 ++ bvc 0).toArray) := build_none
  obtain ⟨V, hV⟩ : ∃ V, bvc x ++ bvc y = V := ⟨_, rfl⟩
  obtain ⟨E, hE⟩ : ∃ V, bvc 0 ++ bvc 0 = V := ⟨_, rfl⟩
  rw [hV] at LV ci ⊢
  rw [hE] at LE HBN ⊢
  clear hV hE hx hy hon x y
  have HS := (show Hid _ from startpp w V)
  have hz2 := zero43
  obtain ⟨Z2, hZ2⟩ : ∃ Z, z43 = Z := ⟨_, rfl⟩
  rw [hZ2] at hz2 HS
  clear hZ2
  obtain ⟨n, hn⟩ : ∃ n, w.heap.size = n := ⟨_, rfl⟩
  have HN : Hid (w.heap.size = n) := hn
  have HS1 : Hid (Rp ((w.alloc (.cells V.toArray 43)).alloc (.cells Z2 43)) n 0 V ∧ Ao w.heap.size ((w.alloc (.cells V.toArray 43)).alloc (.cells Z2 43)) (n + 1) 64 ∧ Below w.heap.size w ((w.alloc (.cells V.toArray 43)).alloc (.cells Z2 43))) := by
    have h := HS.out
    rw [HN.out] at h
    show _ ∧ _
    rw [HN.out]
    exact h
  clear HS
  go_enter Try.func36, Try.ntmps36
  go_wp2_with (first
    | (refine wpList_load_mid rfl 43 (.tmp 1) rfl n 0 rfl V _ HS1.out.1.1 Try.underlying43 rfl LV.out.i ?_)
    | (go_at_call 29; refine (ci _).mono ?_; rintro e w1 ⟨rfl, hb1⟩; have HA1 := (show Hid (Ao w.heap.size w1 (n + 1) 64) from HS1.out.2.1.below hb1); have HB1 := (show Hid (Below w.heap.size w w1) from HS1.out.2.2.trans (hb1.mono HS1.out.2.2.size)); have HT1 := (show Hid _ from LE.out.t HA1.out); clear hb1 ci HS1)
    | (refine build_to rfl 43 _ rfl (some 7) rfl [] (by kernel_rfl) E HBN.out ?_; simp only [Act.put, List.setIfInBounds_toArray, List.set_cons_zero, List.set_cons_succ])
    | (refine wpList_store_mid rfl 43 (.tmp 2) (.tmp 7) rfl (n + 1) 0 E.toArray rfl rfl HT1.out LE.out.j LE.out.o ?_; simp only))
  exact bodyPost_ret (res_ct Try.results36 rfl (end43 LE.out HA1.out) rfl) rfl ⟨rfl, below_setCells HB1.out HA1.out.1⟩
set_option maxHeartbeats 400000 in
set_option maxRecDepth 4000 in
theorem neg_ok (x y : Nat) (w : World) (hx : x < 115792089237316195423570985008687907853269984665640564039457584007913129639936) (hy : y < 115792089237316195423570985008687907853269984665640564039457584007913129639936) (hon : OnC x y) :
    Calls Try.prog 36 #[pv x y] w fun e w' => e = .returned (.tuple #[pv (subp 0 x) (redp y), .nilIface]) ∧ Below w.heap.size w w' := by
  have ci := fun W => is_any x y W hx hy
  have cn := fun W => negative_at x y 0 _ _ rfl rfl rfl hx hy W
  rw [decide_eq_true hon] at ci
  unfold pv at ci cn ⊢
  have LV : Hid (L64 (bvc x ++ bvc y)) := l64 x y
  have LE : Hid (L64 (bvc (subp 0 x) ++ bvc (redp y))) := l64 _ _
  obtain ⟨V, hV⟩ : ∃ V, bvc x ++ bvc y = V := ⟨_, rfl⟩
  obtain ⟨E, hE⟩ : ∃ V, bvc (subp 0 x) ++ bvc (redp y) = V := ⟨_, rfl⟩
  rw [hV] at LV ci cn ⊢
  rw [hE] at LE cn ⊢
  clear hV hE hx hy hon x y
  have HS := (show Hid _ from startpp w V)
  have hz2 := zero43
  obtain ⟨Z2, hZ2⟩ : ∃ Z, z43 = Z := ⟨_, rfl⟩
  rw [hZ2] at hz2 HS
  clear hZ2
  obtain ⟨n, hn⟩ : ∃ n, w.heap.size = n := ⟨_, rfl⟩
  have HN : Hid (w.heap.size = n) := hn
  have HS1 : Hid (Rp ((w.alloc (.cells V.toArray 43)).alloc (.cells Z2 43)) n 0 V ∧ Ao w.heap.size ((w.alloc (.cells V.toArray 43)).alloc (.cells Z2 43)) (n + 1) 64 ∧ Below w.heap.size w ((w.alloc (.cells V.toArray 43)).alloc (.cells Z2 43))) := by
    have h := HS.out
    rw [HN.out] at h
    show _ ∧ _
    rw [HN.out]
    exact h
  clear HS
  go_enter Try.func36, Try.ntmps36
  go_wp2_with (first
    | (refine wpList_load_mid rfl 43 (.tmp 1) rfl n 0 rfl V _ HS1.out.1.1 Try.underlying43 rfl LV.out.i ?_)
    | (go_at_call 29; refine (ci _).mono ?_; rintro e w1 ⟨rfl, hb1⟩; have HR1 := (show Hid (Rp w1 n 0 V) from HS1.out.1.below hb1); have HA1 := (show Hid (Ao w.heap.size w1 (n + 1) 64) from HS1.out.2.1.below hb1); have HB1 := (show Hid (Below w.heap.size w w1) from HS1.out.2.2.trans (hb1.mono HS1.out.2.2.size)); clear hb1 ci HS1)
    | (refine wpList_load_mid rfl 43 (.tmp 1) rfl n 0 rfl V _ HR1.out.1 Try.underlying43 rfl LV.out.i ?_)
    | (go_at_call 83; refine (cn _).mono ?_; rintro e w2 ⟨rfl, hb2⟩; have HA2 := (show Hid (Ao w.heap.size w2 (n + 1) 64) from HA1.out.below hb2); have HB2 := (show Hid (Below w.heap.size w w2) from HB1.out.trans (hb2.mono HB1.out.size)); have HT2 := (show Hid _ from LE.out.t HA2.out); clear hb2 cn HR1 HA1 HB1)
    | (refine wpList_store_mid rfl 43 (.tmp 2) (.tmp 10) rfl (n + 1) 0 E.toArray rfl rfl HT2.out LE.out.j LE.out.o ?_; simp only))
  exact bodyPost_ret (res_ct Try.results36 rfl (end43 LE.out HA2.out) rfl) rfl ⟨rfl, below_setCells HB2.out HA2.out.1⟩
end Fd
end Go.Proofs.Ytgdekigdbbldoaa

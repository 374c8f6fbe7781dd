/- What overOne does: a contract, by walking its text. What Add does: a contract, by walking its text. -/
import Derived.Test.YtgdekigdbbldoaaG29
import Derived.Test.YtgdekigdbbldoaaG36
import Derived.Test.YtgdekigdbbldoaaG30
namespace Go.Proofs.Ytgdekigdbbldoaa
open Go.RowKit
namespace Fd
open Rg

/-- A box of a point, whole, and the answer's, a fraction. -/
theorem starto (w : World) (V : List Value) :
    let e := (w.alloc (.cells V.toArray 43)).alloc (.cells z84 84)
    Rp e w.heap.size 0 V ∧ Ao w.heap.size e (w.heap.size + 1) 96 ∧ Below w.heap.size w e := by
  intro e
  have ht := there84 (w.alloc (.cells V.toArray 43))
  rw [size_alloc] at ht
  refine ⟨Rp.below ⟨Rg.range_new w V 43, by rw [size_alloc]; omega⟩ ((Below.refl _ _).alloc (Nat.le_refl _) _), ⟨by omega, ?_, ht⟩, ((Below.refl _ _).alloc (Nat.le_refl _) _).alloc (by simp) _⟩
  show _ < (World.alloc _ _).heap.size
  rw [size_alloc, size_alloc]
  omega

set_option maxHeartbeats 400000 in
set_option maxRecDepth 4000 in
theorem overOne_any (x y : Nat) (w : World) : Calls Try.prog 82 #[pv x y] w fun e w' => e = .returned (fv x y cone) ∧ Below w.heap.size w w' := by
  have c1 : ∀ W : World, Calls Try.prog 75 #[] W fun e w' => e = .returned (.agg (bvc cone).toArray) ∧ Below W.heap.size W w' := fun W => cone_any W
  have LO : Hid (L32 (bvc cone)) := l32 cone
  unfold fv pv
  have HPL : Hid ((bvc x ++ bvc y).length = 64) := by show _ = _; rw [List.length_append, bvc_len, bvc_len]
  have HPO : Hid ((bvc x ++ bvc y).toArray.all (·.oneCell') = true) := one_app (one32 x) (one32 y)
  obtain ⟨O, hO⟩ : ∃ X, bvc cone = X := ⟨_, rfl⟩
  obtain ⟨V, hV⟩ : ∃ X, bvc x ++ bvc y = X := ⟨_, rfl⟩
  rw [hO] at LO c1 ⊢
  rw [hV] at HPL HPO ⊢
  clear hO hV x y
  have HBF : Hid (Try.prog.built 84 [(0, .agg V.toArray), (1, .agg O.toArray)] = some (V ++ O).toArray) := build_frac V O HPL.out LO.out.l
  have HVL : Hid ((V ++ O).length = 96) := by show _ = _; rw [List.length_append, HPL.out, LO.out.l]
  have HVO : Hid ((V ++ O).toArray.all (·.oneCell') = true) := one_app HPO.out LO.out.o
  have HPI : Hid ((Try.prog.info? 43).map (·.size) = some V.length) := by show _ = _; rw [HPL.out]; exact info43
  obtain ⟨VF, hVF⟩ : ∃ X, V ++ O = X := ⟨_, rfl⟩
  rw [hVF] at HBF HVL HVO ⊢
  clear hVF
  have HS := (show Hid _ from starto w V)
  have hz2 := zero84
  obtain ⟨Z2, hZ2⟩ : ∃ Z, z84 = Z := ⟨_, rfl⟩
  rw [hZ2] at hz2 HS
  clear hZ2
  obtain ⟨n, hn⟩ : ∃ n, w.heap.size = n := ⟨_, rfl⟩
  have HN : Hid (w.heap.size = n) := hn
  have HS1 : Hid (Rp ((w.alloc (.cells V.toArray 43)).alloc (.cells Z2 84)) n 0 V ∧ Ao w.heap.size ((w.alloc (.cells V.toArray 43)).alloc (.cells Z2 84)) (n + 1) 96 ∧ Below w.heap.size w ((w.alloc (.cells V.toArray 43)).alloc (.cells Z2 84))) := by
    have h := HS.out
    rw [HN.out] at h
    show _ ∧ _
    rw [HN.out]
    exact h
  clear HS
  go_enter Try.func82, Try.ntmps82
  go_wp2
  obtain ⟨wv, hwv⟩ : ∃ v, (w.alloc (.cells V.toArray 43)).alloc (.cells Z2 84) = v := ⟨_, rfl⟩
  rw [hwv] at HS1 ⊢
  clear hwv
  have HQ := (show Hid _ from HS1.out.1.cl)
  have hne := Cl.ne wv.heap.size wv
  apply region_cl_tail (N := wv.heap.size) (W := wv) 2 2 (by kernel_rfl) (Below.refl _ _)
  case hl => simp only [List.take_succ_cons, List.take_zero]; rfl
  case ht => simp only [List.drop_succ_cons, List.drop_zero]; rfl
  case hB => kernel_rfl
  case hT => kernel_rfl
  case h =>
    go_big_quiet_want
    refine quiet_load 43 _ rfl n 0 rfl V _ HQ.out Try.underlying43 rfl HPI.out ?_
    simp only [Act.put, List.setIfInBounds_toArray, List.set_cons_zero, List.set_cons_succ]
    go_big_quiet_on
    go_big_quiet_step ((go_at_call 75; exact cl_of (c1 _) (Nat.le_refl _)))
    refine wpQuiet_nil ?_
    rintro _ ⟨xq, rfl⟩
    have hb := xq.h
    have HBE := (show Hid (Below w.heap.size w xq.u) from HS1.out.2.2.trans (hb.mono HS1.out.2.2.size))
    have AE := (show Hid (Ao w.heap.size xq.u (n + 1) 96) from HS1.out.2.1.below hb)
    have HTE : Hid (xq.u.there (n + 1) 0 VF.toArray.size) := by have e : VF.toArray.size = 96 := (List.size_toArray ..).trans HVL.out; show World.there _ _ _ _; rw [e]; exact AE.out.2.2
    have HI : Hid ((Try.prog.info? 84).map (·.size) = some VF.toArray.size) := by have e : VF.toArray.size = 96 := (List.size_toArray ..).trans HVL.out; show _ = _; rw [e]; exact info84
    clear hb
    go_wp2_with (first
      | (refine build_to rfl 84 _ rfl (some 5) rfl [(0, .agg V.toArray), (1, .agg O.toArray)] (by kernel_rfl) VF HBF.out ?_; simp only [Act.put, List.setIfInBounds_toArray, List.set_cons_zero, List.set_cons_succ])
      | (refine wpList_store_mid rfl 84 (.tmp 2) (.tmp 5) rfl (n + 1) 0 VF.toArray rfl rfl HTE.out HI.out HVO.out ?_; simp only [Act.put]))
    exact bodyPost_ret (results_cell Try.results82 rfl (run_loadVar_mid (P := Try.prog) _ (n + 1) 0 84 VF _ (World.rangeAt_setCells_same _ _ _ _ (by have e : VF.length = VF.toArray.size := (List.size_toArray ..).symm; rw [e]; exact HTE.out)) Try.underlying84 rfl (by have e : VF.length = VF.toArray.size := (List.size_toArray ..).symm; rw [e]; exact HI.out))) rfl ⟨rfl, below_setCells HBE.out AE.out.1⟩
end Fd
end Go.Proofs.Ytgdekigdbbldoaa

namespace Go.Proofs.Ytgdekigdbbldoaa
open Go.RowKit
namespace Fd
open Rg

/-- A fraction: x, y and what they are over. -/
structure Frac where
  x : Nat
  y : Nat
  u : Nat
deriving DecidableEq
def Frac.val (a : Frac) : Value := fv a.x a.y a.u
def Frac.cs (a : Frac) : List Value := (bvc a.x ++ bvc a.y) ++ bvc a.u
def Frac.lt (a : Frac) : Prop := a.x < 115792089237316195423570985008687907853269984665640564039457584007913129639936 ∧ a.y < 115792089237316195423570985008687907853269984665640564039457584007913129639936 ∧ a.u < 115792089237316195423570985008687907853269984665640564039457584007913129639936
def sumF (a b : Frac) : Frac :=
  let k18 := mulp a.u b.u
  let k21 := mulp k18 k18
  let k28 := mulp a.x b.x
  let k35 := mulp a.y b.y
  let k40 := mulp factor (mulp k28 k35)
  let k43 := addp k21 k40
  let k46 := subp k21 k40
  let k61 := addp (mulp a.x b.y) (mulp b.x a.y)
  let k64 := addp k35 k28
  ⟨mulp (mulp k18 k61) k46, mulp (mulp k18 k64) k43, mulp k43 k46⟩
theorem sumF_lt (a b : Frac) : (sumF a b).lt := ⟨mulp_lt _ _, mulp_lt _ _, mulp_lt _ _⟩
theorem sum_frac (a b : Frac) (ha : a.lt) (hb : b.lt) (w : World) : Calls Try.prog 81 #[a.val, b.val] w fun e w' => e = .returned (sumF a b).val ∧ Below w.heap.size w w' :=
  sum_at a.x a.y a.u b.x b.y b.u _ _ _ _ _ _ _ _ _ _ _ _ _ _ _ _ _ _ rfl rfl rfl rfl rfl rfl rfl rfl rfl rfl rfl rfl rfl rfl rfl rfl rfl rfl ha.1 ha.2.1 ha.2.2 hb.1 hb.2.1 hb.2.2 w
/-- The inverse, as the program reckons it. -/
def invp (a : Nat) : Nat := (a % p) ^ inverseExponent % p
theorem invp_lt (a : Nat) : invp a < 115792089237316195423570985008687907853269984665640564039457584007913129639936 := Nat.lt_trans (Nat.mod_lt _ (by decide)) (by decide : p < _)
theorem divided_frac (a : Frac) (ha : a.lt) (hz : ¬ a.u % p = 0) (w : World) : Calls Try.prog 80 #[a.val] w fun e w' => e = .returned (pv (mulp a.x (invp a.u)) (mulp a.y (invp a.u))) ∧ Below w.heap.size w w' :=
  divided_at a.x a.y a.u (invp a.u) _ _ (fun W => inv_some a.u W ha.2.2 hz) (invp_lt _) rfl rfl ha.1 ha.2.1 ha.2.2 w
theorem cone_lt : cone < 115792089237316195423570985008687907853269984665640564039457584007913129639936 := by decide
/-- Two boxes of points, whole, and the answer's, a point. -/
theorem startppp (w : World) (V V' : List Value) :
    let e := ((w.alloc (.cells V.toArray 43)).alloc (.cells V'.toArray 43)).alloc (.cells z43 43)
    Rp e w.heap.size 0 V ∧ Rp e (w.heap.size + 1) 0 V' ∧ Ao w.heap.size e (w.heap.size + 2) 64 ∧ Below w.heap.size w e := by
  intro e
  have ht := there43 ((w.alloc (.cells V.toArray 43)).alloc (.cells V'.toArray 43))
  rw [size_alloc, size_alloc] at ht
  have r2 := Rg.range_new (w.alloc (.cells V.toArray 43)) V' 43
  rw [size_alloc] at r2
  refine ⟨Rp.below ⟨Rg.range_new w V 43, by rw [size_alloc]; omega⟩ (((Below.refl _ _).alloc (Nat.le_refl _) _).alloc (by simp) _), Rp.below ⟨r2, by rw [size_alloc, size_alloc]; omega⟩ ((Below.refl _ _).alloc (Nat.le_refl _) _), ⟨by omega, ?_, ht⟩, (((Below.refl _ _).alloc (Nat.le_refl _) _).alloc (by simp) _).alloc (by simp; omega) _⟩
  show _ < (World.alloc _ _).heap.size
  rw [size_alloc, size_alloc, size_alloc]
  omega

/-- A load under a guard that lets it by. -/
theorem wpList_loadw {P : Program} {ops : Array Oper} {rest : List Oper} {op : Oper} {a : Act} {w : World} {Q : Exit → Act → World → Prop} (hw : Region.wanted op (yielded ops a.tmps) = true) (ty : TypeId) (x : Operand) (ho : op.op = .load ty x)
    (b o : Nat) (hx : a.eval x = .pointer (some ⟨b, o, none⟩)) (cs : List Value) (d : TypeDesc) (hc : w.rangeAt b o cs)
    (hu : P.underlying ty = some d) (hd : d.isRow = true) (hi : (P.info? ty).map (·.size) = some cs.length)
    (h : wpList P ops Q rest (a.put op.dst (.agg cs.toArray)) w) : wpList P ops Q (op :: rest) a w :=
  wpList_step fun K hK => by
    simp only [hw, if_true]
    exact wp_load_mid ty x ho b o hx cs d hc hu hd hi (hK _ _ h)

set_option maxHeartbeats 400000 in
set_option maxRecDepth 4000 in
theorem add_no1 (x y x' y' : Nat) (w : World) (hx : x < 115792089237316195423570985008687907853269984665640564039457584007913129639936) (hy : y < 115792089237316195423570985008687907853269984665640564039457584007913129639936) (hon : ¬ OnC x y) :
    Calls Try.prog 35 #[pv x y, pv x' y'] w fun e w' => e = .returned (.tuple #[pv 0 0, .iface 35 (.int .i64 29)]) ∧ Below w.heap.size w w' := by
  have ci := fun W => is_any x y W hx hy
  rw [decide_eq_false hon] at ci
  unfold pv at ci ⊢
  have LV : Hid (L64 (bvc x ++ bvc y)) := l64 x y
  have LE : Hid (L64 (bvc 0 ++ bvc 0)) := l64 0 0
  have HBN : Hid (Try.prog.built 43 [] = some (bvc 0 ++ bvc 0).toArray) := build_none
  obtain ⟨V, hV⟩ : ∃ V, bvc x ++ bvc y = V := ⟨_, rfl⟩
  obtain ⟨V', hV'⟩ : ∃ V, bvc x' ++ bvc y' = V := ⟨_, rfl⟩
  obtain ⟨E, hE⟩ : ∃ V, bvc 0 ++ bvc 0 = V := ⟨_, rfl⟩
  rw [hV] at LV ci ⊢
  rw [hV']
  rw [hE] at LE HBN ⊢
  clear hV hV' hE hx hy hon x y x' y'
  have HS := (show Hid _ from startppp w V V')
  have hz2 := zero43
  obtain ⟨Z2, hZ2⟩ : ∃ Z, z43 = Z := ⟨_, rfl⟩
  rw [hZ2] at hz2 HS
  clear hZ2
  obtain ⟨n, hn⟩ : ∃ n, w.heap.size = n := ⟨_, rfl⟩
  have HN : Hid (w.heap.size = n) := hn
  have HS1 : Hid (Rp (((w.alloc (.cells V.toArray 43)).alloc (.cells V'.toArray 43)).alloc (.cells Z2 43)) n 0 V ∧ Ao w.heap.size (((w.alloc (.cells V.toArray 43)).alloc (.cells V'.toArray 43)).alloc (.cells Z2 43)) (n + 2) 64 ∧ Below w.heap.size w (((w.alloc (.cells V.toArray 43)).alloc (.cells V'.toArray 43)).alloc (.cells Z2 43))) := by
    have h := HS.out
    rw [HN.out] at h
    show _ ∧ _
    rw [HN.out]
    exact ⟨h.1, h.2.2⟩
  clear HS
  go_enter Try.func35, Try.ntmps35
  go_wp2_with (first
    | (refine wpList_load_mid rfl 43 (.tmp 2) rfl n 0 rfl V _ HS1.out.1.1 Try.underlying43 rfl LV.out.i ?_)
    | (go_at_call 29; refine (ci _).mono ?_; rintro e w1 ⟨rfl, hb1⟩; have HA1 := (show Hid (Ao w.heap.size w1 (n + 2) 64) from HS1.out.2.1.below hb1); have HB1 := (show Hid (Below w.heap.size w w1) from HS1.out.2.2.trans (hb1.mono HS1.out.2.2.size)); have HT1 := (show Hid _ from LE.out.t HA1.out); clear hb1 ci HS1)
    | (refine build_to rfl 43 _ rfl (some 14) rfl [] (by kernel_rfl) E HBN.out ?_; simp only [Act.put, List.setIfInBounds_toArray, List.set_cons_zero, List.set_cons_succ])
    | (refine wpList_store_mid rfl 43 (.tmp 4) (.tmp 14) rfl (n + 2) 0 E.toArray rfl rfl HT1.out LE.out.j LE.out.o ?_; simp only))
  exact bodyPost_ret (res_ct Try.results35 rfl (end43 LE.out HA1.out) rfl) rfl ⟨rfl, below_setCells HB1.out HA1.out.1⟩

set_option maxHeartbeats 400000 in
set_option maxRecDepth 4000 in
theorem add_no2 (x y x' y' : Nat) (w : World) (hx : x < 115792089237316195423570985008687907853269984665640564039457584007913129639936) (hy : y < 115792089237316195423570985008687907853269984665640564039457584007913129639936) (hx' : x' < 115792089237316195423570985008687907853269984665640564039457584007913129639936) (hy' : y' < 115792089237316195423570985008687907853269984665640564039457584007913129639936) (hon : OnC x y) (hno : ¬ OnC x' y') :
    Calls Try.prog 35 #[pv x y, pv x' y'] w fun e w' => e = .returned (.tuple #[pv 0 0, .iface 35 (.int .i64 29)]) ∧ Below w.heap.size w w' := by
  have ci := fun W => is_any x y W hx hy
  have cj := fun W => is_any x' y' W hx' hy'
  rw [decide_eq_true hon] at ci
  rw [decide_eq_false hno] at cj
  unfold pv at ci cj ⊢
  have LV : Hid (L64 (bvc x ++ bvc y)) := l64 x y
  have LW : Hid (L64 (bvc x' ++ bvc y')) := l64 x' y'
  have LE : Hid (L64 (bvc 0 ++ bvc 0)) := l64 0 0
  have HBN : Hid (Try.prog.built 43 [] = some (bvc 0 ++ bvc 0).toArray) := build_none
  obtain ⟨V, hV⟩ : ∃ V, bvc x ++ bvc y = V := ⟨_, rfl⟩
  obtain ⟨V', hV'⟩ : ∃ V, bvc x' ++ bvc y' = V := ⟨_, rfl⟩
  obtain ⟨E, hE⟩ : ∃ V, bvc 0 ++ bvc 0 = V := ⟨_, rfl⟩
  rw [hV] at LV ci ⊢
  rw [hV'] at LW cj ⊢
  rw [hE] at LE HBN ⊢
  clear hV hV' hE hx hy hon hx' hy' hno x y x' y'
  have HS := (show Hid _ from startppp w V V')
  have hz2 := zero43
  obtain ⟨Z2, hZ2⟩ : ∃ Z, z43 = Z := ⟨_, rfl⟩
  rw [hZ2] at hz2 HS
  clear hZ2
  obtain ⟨n, hn⟩ : ∃ n, w.heap.size = n := ⟨_, rfl⟩
  have HN : Hid (w.heap.size = n) := hn
  have HS1 : Hid (Rp (((w.alloc (.cells V.toArray 43)).alloc (.cells V'.toArray 43)).alloc (.cells Z2 43)) n 0 V ∧ Rp (((w.alloc (.cells V.toArray 43)).alloc (.cells V'.toArray 43)).alloc (.cells Z2 43)) (n + 1) 0 V' ∧ Ao w.heap.size (((w.alloc (.cells V.toArray 43)).alloc (.cells V'.toArray 43)).alloc (.cells Z2 43)) (n + 2) 64 ∧ Below w.heap.size w (((w.alloc (.cells V.toArray 43)).alloc (.cells V'.toArray 43)).alloc (.cells Z2 43))) := by
    have h := HS.out
    rw [HN.out] at h
    show _ ∧ _
    rw [HN.out]
    exact h
  clear HS
  go_enter Try.func35, Try.ntmps35
  go_wp2_with (first
    | (refine wpList_load_mid rfl 43 (.tmp 2) rfl n 0 rfl V _ HS1.out.1.1 Try.underlying43 rfl LV.out.i ?_)
    | (go_at_call 29; have hq := HB1; refine (cj _).mono ?_; rintro e w2 ⟨rfl, hb2⟩; have HA2 := (show Hid (Ao w.heap.size w2 (n + 2) 64) from HA1.out.below hb2); have HB2 := (show Hid (Below w.heap.size w w2) from HB1.out.trans (hb2.mono HB1.out.size)); have HT2 := (show Hid _ from LE.out.t HA2.out); clear hb2 cj HA1 HB1 hq)
    | (go_at_call 29; refine (ci _).mono ?_; rintro e w1 ⟨rfl, hb1⟩; have HR1 := (show Hid (Rp w1 (n + 1) 0 V') from HS1.out.2.1.below hb1); have HA1 := (show Hid (Ao w.heap.size w1 (n + 2) 64) from HS1.out.2.2.1.below hb1); have HB1 := (show Hid (Below w.heap.size w w1) from HS1.out.2.2.2.trans (hb1.mono HS1.out.2.2.2.size)); clear hb1 ci HS1)
    | (refine wpList_loadw (by kernel_rfl) 43 (.tmp 3) rfl (n + 1) 0 rfl V' _ HR1.out.1 Try.underlying43 rfl LW.out.i ?_)
    | (refine build_to rfl 43 _ rfl (some 14) rfl [] (by kernel_rfl) E HBN.out ?_; simp only [Act.put, List.setIfInBounds_toArray, List.set_cons_zero, List.set_cons_succ])
    | (refine wpList_store_mid rfl 43 (.tmp 4) (.tmp 14) rfl (n + 2) 0 E.toArray rfl rfl HT2.out LE.out.j LE.out.o ?_; simp only))
  exact bodyPost_ret (res_ct Try.results35 rfl (end43 LE.out HA2.out) rfl) rfl ⟨rfl, below_setCells HB2.out HA2.out.1⟩

set_option maxHeartbeats 400000 in
set_option maxRecDepth 4000 in
theorem add_ok (x y x' y' : Nat) (w : World) (hx : x < 115792089237316195423570985008687907853269984665640564039457584007913129639936) (hy : y < 115792089237316195423570985008687907853269984665640564039457584007913129639936) (hx' : x' < 115792089237316195423570985008687907853269984665640564039457584007913129639936) (hy' : y' < 115792089237316195423570985008687907853269984665640564039457584007913129639936) (hon : OnC x y) (hon' : OnC x' y') (s : Frac) (hs : sumF ⟨x, y, cone⟩ ⟨x', y', cone⟩ = s) (hz : ¬ s.u % p = 0) :
    Calls Try.prog 35 #[pv x y, pv x' y'] w fun e w' => e = .returned (.tuple #[pv (mulp s.x (invp s.u)) (mulp s.y (invp s.u)), .nilIface]) ∧ Below w.heap.size w w' := by
  have ci := fun W => is_any x y W hx hy
  have cj := fun W => is_any x' y' W hx' hy'
  have co := fun W => overOne_any x y W
  have cq := fun W => overOne_any x' y' W
  have cs := fun W => sum_frac ⟨x, y, cone⟩ ⟨x', y', cone⟩ ⟨hx, hy, cone_lt⟩ ⟨hx', hy', cone_lt⟩ W
  have cd := fun W => divided_frac s (hs ▸ sumF_lt _ _) hz W
  rw [decide_eq_true hon] at ci
  rw [decide_eq_true hon'] at cj
  rw [hs] at cs
  unfold Frac.val at cs cd
  unfold pv at ci cj co cq cd ⊢
  have LV : Hid (L64 (bvc x ++ bvc y)) := l64 x y
  have LW : Hid (L64 (bvc x' ++ bvc y')) := l64 x' y'
  have LE : Hid (L64 (bvc (mulp s.x (invp s.u)) ++ bvc (mulp s.y (invp s.u)))) := l64 _ _
  obtain ⟨f1, hf1⟩ : ∃ V, fv x y cone = V := ⟨_, rfl⟩
  obtain ⟨f2, hf2⟩ : ∃ V, fv x' y' cone = V := ⟨_, rfl⟩
  obtain ⟨f3, hf3⟩ : ∃ V, fv s.x s.y s.u = V := ⟨_, rfl⟩
  rw [hf1] at co cs
  rw [hf2] at cq cs
  rw [hf3] at cs cd
  clear hf1 hf2 hf3
  obtain ⟨V, hV⟩ : ∃ V, bvc x ++ bvc y = V := ⟨_, rfl⟩
  obtain ⟨V', hV'⟩ : ∃ V, bvc x' ++ bvc y' = V := ⟨_, rfl⟩
  obtain ⟨E, hE⟩ : ∃ V, bvc (mulp s.x (invp s.u)) ++ bvc (mulp s.y (invp s.u)) = V := ⟨_, rfl⟩
  rw [hV] at LV ci co ⊢
  rw [hV'] at LW cj cq ⊢
  rw [hE] at LE cd ⊢
  clear hV hV' hE hx hy hon hx' hy' hon' hz hs x y x' y' s
  have HS := (show Hid _ from startppp w V V')
  have hz2 := zero43
  obtain ⟨Z2, hZ2⟩ : ∃ Z, z43 = Z := ⟨_, rfl⟩
  rw [hZ2] at hz2 HS
  clear hZ2
  obtain ⟨n, hn⟩ : ∃ n, w.heap.size = n := ⟨_, rfl⟩
  have HN : Hid (w.heap.size = n) := hn
  have HS1 : Hid (Rp (((w.alloc (.cells V.toArray 43)).alloc (.cells V'.toArray 43)).alloc (.cells Z2 43)) n 0 V ∧ Rp (((w.alloc (.cells V.toArray 43)).alloc (.cells V'.toArray 43)).alloc (.cells Z2 43)) (n + 1) 0 V' ∧ Ao w.heap.size (((w.alloc (.cells V.toArray 43)).alloc (.cells V'.toArray 43)).alloc (.cells Z2 43)) (n + 2) 64 ∧ Below w.heap.size w (((w.alloc (.cells V.toArray 43)).alloc (.cells V'.toArray 43)).alloc (.cells Z2 43))) := by
    have h := HS.out
    rw [HN.out] at h
    show _ ∧ _
    rw [HN.out]
    exact h
  clear HS
  go_enter Try.func35, Try.ntmps35
  go_wp2_with (first
    | (refine wpList_load_mid rfl 43 (.tmp 2) rfl n 0 rfl V _ HS1.out.1.1 Try.underlying43 rfl LV.out.i ?_)
    | (go_at_call 29; have hq := HB1; refine (cj _).mono ?_; rintro e w2 ⟨rfl, hb2⟩; have HQ2 := (show Hid (Rp w2 n 0 V) from HQ1.out.below hb2); have HR2 := (show Hid (Rp w2 (n + 1) 0 V') from HR1.out.below hb2); have HA2 := (show Hid (Ao w.heap.size w2 (n + 2) 64) from HA1.out.below hb2); have HB2 := (show Hid (Below w.heap.size w w2) from HB1.out.trans (hb2.mono HB1.out.size)); clear hb2 cj HA1 HB1 hq)
    | (go_at_call 29; refine (ci _).mono ?_; rintro e w1 ⟨rfl, hb1⟩; have HQ1 := (show Hid (Rp w1 n 0 V) from HS1.out.1.below hb1); have HR1 := (show Hid (Rp w1 (n + 1) 0 V') from HS1.out.2.1.below hb1); have HA1 := (show Hid (Ao w.heap.size w1 (n + 2) 64) from HS1.out.2.2.1.below hb1); have HB1 := (show Hid (Below w.heap.size w w1) from HS1.out.2.2.2.trans (hb1.mono HS1.out.2.2.2.size)); clear hb1 ci HS1)
    | (refine wpList_loadw (by kernel_rfl) 43 (.tmp 3) rfl (n + 1) 0 rfl V' _ HR1.out.1 Try.underlying43 rfl LW.out.i ?_))
  have HX := (show Hid _ from HQ2.out.cl)
  have HY := (show Hid _ from HR2.out.cl)
  have hne := Cl.ne w2.heap.size w2
  apply region_cl_tail (N := w2.heap.size) (W := w2) 6 6 (by kernel_rfl) (Below.refl _ _)
  case hl => simp only [List.take_succ_cons, List.take_zero]; rfl
  case ht => simp only [List.drop_succ_cons, List.drop_zero]; rfl
  case hB => kernel_rfl
  case hT => kernel_rfl
  case h =>
    go_big_quiet_want
    refine quiet_load 43 _ rfl n 0 rfl V _ HX.out Try.underlying43 rfl LV.out.i ?_
    simp only [Act.put, List.setIfInBounds_toArray, List.set_cons_zero, List.set_cons_succ]
    go_big_quiet_on
    go_big_quiet_step ((go_at_call 82; exact cl_of (co _) (Nat.le_refl _)))
    go_big_quiet_want
    refine quiet_load 43 _ rfl (n + 1) 0 rfl V' _ HY.out Try.underlying43 rfl LW.out.i ?_
    simp only [Act.put, List.setIfInBounds_toArray, List.set_cons_zero, List.set_cons_succ]
    go_big_quiet_on
    go_big_quiet_step ((go_at_call 82; exact cl_of (cq _) (Nat.le_refl _)))
    go_big_quiet_step ((go_at_call 81; exact cl_of (cs _) (Nat.le_refl _)))
    go_big_quiet_step ((go_at_call 80; exact cl_of (cd _) (Nat.le_refl _)))
    refine wpQuiet_nil ?_
    rintro _ ⟨xq, rfl⟩
    have hb := xq.h
    have HA3 := (show Hid (Ao w.heap.size xq.u (n + 2) 64) from HA2.out.below hb)
    have HB3 := (show Hid (Below w.heap.size w xq.u) from HB2.out.trans (hb.mono HB2.out.size))
    have HT3 := (show Hid _ from LE.out.t HA3.out)
    clear hb
    go_wp2_with (refine wpList_store_mid rfl 43 (.tmp 4) (.tmp 21) rfl (n + 2) 0 E.toArray rfl rfl HT3.out LE.out.j LE.out.o ?_; simp only)
    exact bodyPost_ret (res_ct Try.results35 rfl (end43 LE.out HA3.out) rfl) rfl ⟨rfl, below_setCells HB3.out HA3.out.1⟩
end Fd
end Go.Proofs.Ytgdekigdbbldoaa

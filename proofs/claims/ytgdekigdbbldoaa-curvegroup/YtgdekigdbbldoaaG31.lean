/- What Add does: a contract, by walking its text. A contract of a function of curve over fractions, by walking its text (printed by a program). -/
import Derived.Test.YtgdekigdbbldoaaG28
import Derived.Test.YtgdekigdbbldoaaG29
import Derived.Test.YtgdekigdbbldoaaG30
namespace Go.Proofs.Ytgdekigdbbldoaa
open Go.RowKit
namespace Fd
open Rg

/-- A fraction: x, y and what they are over. -/
structure Frac where
  x : Nat
  y : Nat
  u : Nat
deriving DecidableEq
def Frac.val (a : Frac) : Value := fv a.x a.y a.u
def Frac.cs (a : Frac) : List Value := (bvc a.x ++ bvc a.y) ++ bvc a.u
def Frac.lt (a : Frac) : Prop := a.x < 115792089237316195423570985008687907853269984665640564039457584007913129639936 ∧ a.y < 115792089237316195423570985008687907853269984665640564039457584007913129639936 ∧ a.u < 115792089237316195423570985008687907853269984665640564039457584007913129639936
def sumF (a b : Frac) : Frac :=
  let k18 := mulp a.u b.u
  let k21 := mulp k18 k18
  let k28 := mulp a.x b.x
  let k35 := mulp a.y b.y
  let k40 := mulp factor (mulp k28 k35)
  let k43 := addp k21 k40
  let k46 := subp k21 k40
  let k61 := addp (mulp a.x b.y) (mulp b.x a.y)
  let k64 := addp k35 k28
  ⟨mulp (mulp k18 k61) k46, mulp (mulp k18 k64) k43, mulp k43 k46⟩
theorem sumF_lt (a b : Frac) : (sumF a b).lt := ⟨mulp_lt _ _, mulp_lt _ _, mulp_lt _ _⟩
theorem sum_frac (a b : Frac) (ha : a.lt) (hb : b.lt) (w : World) : Calls Try.prog 81 #[a.val, b.val] w fun e w' => e = .returned (sumF a b).val ∧ Below w.heap.size w w' :=
  sum_at a.x a.y a.u b.x b.y b.u _ _ _ _ _ _ _ _ _ _ _ _ _ _ _ _ _ _ rfl rfl rfl rfl rfl rfl rfl rfl rfl rfl rfl rfl rfl rfl rfl rfl rfl rfl ha.1 ha.2.1 ha.2.2 hb.1 hb.2.1 hb.2.2 w
/-- The inverse, as the program reckons it. -/
def invp (a : Nat) : Nat := (a % p) ^ inverseExponent % p
theorem invp_lt (a : Nat) : invp a < 115792089237316195423570985008687907853269984665640564039457584007913129639936 := Nat.lt_trans (Nat.mod_lt _ (by decide)) (by decide : p < _)
theorem divided_frac (a : Frac) (ha : a.lt) (hz : ¬ a.u % p = 0) (w : World) : Calls Try.prog 80 #[a.val] w fun e w' => e = .returned (pv (mulp a.x (invp a.u)) (mulp a.y (invp a.u))) ∧ Below w.heap.size w w' :=
  divided_at a.x a.y a.u (invp a.u) _ _ (fun W => inv_some a.u W ha.2.2 hz) (invp_lt _) rfl rfl ha.1 ha.2.1 ha.2.2 w
theorem cone_lt : cone < 115792089237316195423570985008687907853269984665640564039457584007913129639936 := by decide
/-- Two boxes of points, whole, and the answer's, a point. -/
theorem startppp (w : World) (V V' : List Value) :
    let e := ((w.alloc (.cells V.toArray 43)).alloc (.cells V'.toArray 43)).alloc (.cells z43 43)
    Rp e w.heap.size 0 V ∧ Rp e (w.heap.size + 1) 0 V' ∧ Ao w.heap.size e (w.heap.size + 2) 64 ∧ Below w.heap.size w e := by
  intro e
  have ht := there43 ((w.alloc (.cells V.toArray 43)).alloc (.cells V'.toArray 43))
  rw [size_alloc, size_alloc] at ht
  have r2 := Rg.range_new (w.alloc (.cells V.toArray 43)) V' 43
  rw [size_alloc] at r2
  refine ⟨Rp.below ⟨Rg.range_new w V 43, by rw [size_alloc]; omega⟩ (((Below.refl _ _).alloc (Nat.le_refl _) _).alloc (by simp) _), Rp.below ⟨r2, by rw [size_alloc, size_alloc]; omega⟩ ((Below.refl _ _).alloc (Nat.le_refl _) _), ⟨by omega, ?_, ht⟩, (((Below.refl _ _).alloc (Nat.le_refl _) _).alloc (by simp) _).alloc (by simp; omega) _⟩
  show _ < (World.alloc _ _).heap.size
  rw [size_alloc, size_alloc, size_alloc]
  omega

/-- A load under a guard that lets it by. -/
theorem wpList_loadw {P : Program} {ops : Array Oper} {rest : List Oper} {op : Oper} {a : Act} {w : World} {Q : Exit → Act → World → Prop} (hw : Region.wanted op (yielded ops a.tmps) = true) (ty : TypeId) (x : Operand) (ho : op.op = .load ty x)
    (b o : Nat) (hx : a.eval x = .pointer (some ⟨b, o, none⟩)) (cs : List Value) (d : TypeDesc) (hc : w.rangeAt b o cs)
    (hu : P.underlying ty = some d) (hd : d.isRow = true) (hi : (P.info? ty).map (·.size) = some cs.length)
    (h : wpList P ops Q rest (a.put op.dst (.agg cs.toArray)) w) : wpList P ops Q (op :: rest) a w :=
  wpList_step fun K hK => by
    simp only [hw, if_true]
    exact wp_load_mid ty x ho b o hx cs d hc hu hd hi (hK _ _ h)

set_option maxHeartbeats 400000 in
set_option maxRecDepth 4000 in
theorem add_no1 (x y x' y' : Nat) (w : World) (hx : x < 115792089237316195423570985008687907853269984665640564039457584007913129639936) (hy : y < 115792089237316195423570985008687907853269984665640564039457584007913129639936) (hon : ¬ OnC x y) :
    Calls Try.prog 35 #[pv x y, pv x' y'] w fun e w' => e = .returned (.tuple #[pv 0 0, .iface 35 (.int .i64 29)]) ∧ Below w.heap.size w w' := by
  have ci := fun W => is_any x y W hx hy
  rw [decide_eq_false hon] at ci
  unfold pv at ci ⊢
  have LV : Hid (L64 (bvc x ++ bvc y)) := l64 x y
  have LE : Hid (L64 (bvc 0 ++ bvc 0)) := l64 0 0
  have HBN : Hid (Try.prog.built 43 [] = some (bvc 0 ++ bvc 0).toArray) := build_none
  obtain ⟨V, hV⟩ : ∃ V, bvc x ++ bvc y = V := ⟨_, rfl⟩
  obtain ⟨V', hV'⟩ : ∃ V, bvc x' ++ bvc y' = V := ⟨_, rfl⟩
  obtain ⟨E, hE⟩ : ∃ V, bvc 0 ++ bvc 0 = V := ⟨_, rfl⟩
  rw [hV] at LV ci ⊢
  rw [hV']
  rw [hE] at LE HBN ⊢
  clear hV hV' hE hx hy hon x y x' y'
  have HS := (show Hid _ from startppp w V V')
  have hz2 := zero43
  obtain ⟨Z2, hZ2⟩ : ∃ Z, z43 = Z := ⟨_, rfl⟩
  rw [hZ2] at hz2 HS
  clear hZ2
  obtain ⟨n, hn⟩ : ∃ n, w.heap.size = n := ⟨_, rfl⟩
  have HN : Hid (w.heap.size = n) := hn
  have HS1 : Hid (Rp (((w.alloc (.cells V.toArray 43)).alloc (.cells V'.toArray 43)).alloc (.cells Z2 43)) n 0 V ∧ Ao w.heap.size (((w.alloc (.cells V.toArray 43)).alloc (.cells V'.toArray 43)).alloc (.cells Z2 43)) (n + 2) 64 ∧ Below w.heap.size w (((w.alloc (.cells V.toArray 43)).alloc (.cells V'.toArray 43)).alloc (.cells Z2 43))) := by
    have h := HS.out
    rw [HN.out] at h
    show _ ∧ _
    rw [HN.out]
    exact ⟨h.1, h.2.2⟩
  clear HS
  go_enter Try.func35, Try.ntmps35
  go_wp2_with (first
    | (refine wpList_load_mid rfl 43 (.tmp 2) rfl n 0 rfl V _ HS1.out.1.1 Try.underlying43 rfl LV.out.i ?_)
    | (go_at_call 29; refine (ci _).mono ?_; rintro e w1 ⟨rfl, hb1⟩; have HA1 := (show Hid (Ao w.heap.size w1 (n + 2) 64) from HS1.out.2.1.below hb1); have HB1 := (show Hid (Below w.heap.size w w1) from HS1.out.2.2.trans (hb1.mono HS1.out.2.2.size)); have HT1 := (show Hid _ from LE.out.t HA1.out); clear hb1 ci HS1)
    | (refine build_to rfl 43 _ rfl (some 14) rfl [] (by kernel_rfl) E HBN.out ?_; simp only [Act.put, List.setIfInBounds_toArray, List.set_cons_zero, List.set_cons_succ])
    | (refine wpList_store_mid rfl 43 (.tmp 4) (.tmp 14) rfl (n + 2) 0 E.toArray rfl rfl HT1.out LE.out.j LE.out.o ?_; simp only))
  exact bodyPost_ret (res_ct Try.results35 rfl (end43 LE.out HA1.out) rfl) rfl ⟨rfl, below_setCells HB1.out HA1.out.1⟩

set_option maxHeartbeats 400000 in
set_option maxRecDepth 4000 in
theorem add_no2 (x y x' y' : Nat) (w : World) (hx : x < 115792089237316195423570985008687907853269984665640564039457584007913129639936) (hy : y < 115792089237316195423570985008687907853269984665640564039457584007913129639936) (hx' : x' < 115792089237316195423570985008687907853269984665640564039457584007913129639936) (hy' : y' < 115792089237316195423570985008687907853269984665640564039457584007913129639936) (hon : OnC x y) (hno : ¬ OnC x' y') :
    Calls Try.prog 35 #[pv x y, pv x' y'] w fun e w' => e = .returned (.tuple #[pv 0 0, .iface 35 (.int .i64 29)]) ∧ Below w.heap.size w w' := by
  have ci := fun W => is_any x y W hx hy
  have cj := fun W => is_any x' y' W hx' hy'
  rw [decide_eq_true hon] at ci
  rw [decide_eq_false hno] at cj
  unfold pv at ci cj ⊢
  have LV : Hid (L64 (bvc x ++ bvc y)) := l64 x y
  have LW : Hid (L64 (bvc x' ++ bvc y')) := l64 x' y'
  have LE : Hid (L64 (bvc 0 ++ bvc 0)) := l64 0 0
  have HBN : Hid (Try.prog.built 43 [] = some (bvc 0 ++ bvc 0).toArray) := build_none
  obtain ⟨V, hV⟩ : ∃ V, bvc x ++ bvc y = V := ⟨_, rfl⟩
  obtain ⟨V', hV'⟩ : ∃ V, bvc x' ++ bvc y' = V := ⟨_, rfl⟩
  obtain ⟨E, hE⟩ : ∃ V, bvc 0 ++ bvc 0 = V := ⟨_, rfl⟩
  rw [hV] at LV ci ⊢
  rw [hV'] at LW cj ⊢
  rw [hE] at LE HBN ⊢
  clear hV hV' hE hx hy hon hx' hy' hno x y x' y'
  have HS := (show Hid _ from startppp w V V')
  have hz2 := zero43
  obtain ⟨Z2, hZ2⟩ : ∃ Z, z43 = Z := ⟨_, rfl⟩
  rw [hZ2] at hz2 HS
  clear hZ2
  obtain ⟨n, hn⟩ : ∃ n, w.heap.size = n := ⟨_, rfl⟩
  have HN : Hid (w.heap.size = n) := hn
  have HS1 : Hid (Rp (((w.alloc (.cells V.toArray 43)).alloc (.cells V'.toArray 43)).alloc (.cells Z2 43)) n 0 V ∧ Rp (((w.alloc (.cells V.toArray 43)).alloc (.cells V'.toArray 43)).alloc (.cells Z2 43)) (n + 1) 0 V' ∧ Ao w.heap.size (((w.alloc (.cells V.toArray 43)).alloc (.cells V'.toArray 43)).alloc (.cells Z2 43)) (n + 2) 64 ∧ Below w.heap.size w (((w.alloc (.cells V.toArray 43)).alloc (.cells V'.toArray 43)).alloc (.cells Z2 43))) := by
    have h := HS.out
    rw [HN.out] at h
    show _ ∧ _
    rw [HN.out]
    exact h
  clear HS
  go_enter Try.func35, Try.ntmps35
  go_wp2_with (first
    | (refine wpList_load_mid rfl 43 (.tmp 2) rfl n 0 rfl V _ HS1.out.1.1 Try.underlying43 rfl LV.out.i ?_)
    | (go_at_call 29; have hq := HB1; refine (cj _).mono ?_; rintro e w2 ⟨rfl, hb2⟩; have HA2 := (show Hid (Ao w.heap.size w2 (n + 2) 64) from HA1.out.below hb2); have HB2 := (show Hid (Below w.heap.size w w2) from HB1.out.trans (hb2.mono HB1.out.size)); have HT2 := (show Hid _ from LE.out.t HA2.out); clear hb2 cj HA1 HB1 hq)
    | (go_at_call 29; refine (ci _).mono ?_; rintro e w1 ⟨rfl, hb1⟩; have HR1 := (show Hid (Rp w1 (n + 1) 0 V') from HS1.out.2.1.below hb1); have HA1 := (show Hid (Ao w.heap.size w1 (n + 2) 64) from HS1.out.2.2.1.below hb1); have HB1 := (show Hid (Below w.heap.size w w1) from HS1.out.2.2.2.trans (hb1.mono HS1.out.2.2.2.size)); clear hb1 ci HS1)
    | (refine wpList_loadw (by kernel_rfl) 43 (.tmp 3) rfl (n + 1) 0 rfl V' _ HR1.out.1 Try.underlying43 rfl LW.out.i ?_)
    | (refine build_to rfl 43 _ rfl (some 14) rfl [] (by kernel_rfl) E HBN.out ?_; simp only [Act.put, List.setIfInBounds_toArray, List.set_cons_zero, List.set_cons_succ])
    | (refine wpList_store_mid rfl 43 (.tmp 4) (.tmp 14) rfl (n + 2) 0 E.toArray rfl rfl HT2.out LE.out.j LE.out.o ?_; simp only))
  exact bodyPost_ret (res_ct Try.results35 rfl (end43 LE.out HA2.out) rfl) rfl ⟨rfl, below_setCells HB2.out HA2.out.1⟩

set_option maxHeartbeats 400000 in
set_option maxRecDepth 4000 in
theorem add_ok (x y x' y' : Nat) (w : World) (hx : x < 115792089237316195423570985008687907853269984665640564039457584007913129639936) (hy : y < 115792089237316195423570985008687907853269984665640564039457584007913129639936) (hx' : x' < 115792089237316195423570985008687907853269984665640564039457584007913129639936) (hy' : y' < 115792089237316195423570985008687907853269984665640564039457584007913129639936) (hon : OnC x y) (hon' : OnC x' y') (s : Frac) (hs : sumF ⟨x, y, cone⟩ ⟨x', y', cone⟩ = s) (hz : ¬ s.u % p = 0) :
    Calls Try.prog 35 #[pv x y, pv x' y'] w fun e w' => e = .returned (.tuple #[pv (mulp s.x (invp s.u)) (mulp s.y (invp s.u)), .nilIface]) ∧ Below w.heap.size w w' := by
  have ci := fun W => is_any x y W hx hy
  have cj := fun W => is_any x' y' W hx' hy'
  have co := fun W => overOne_any x y W
  have cq := fun W => overOne_any x' y' W
  have cs := fun W => sum_frac ⟨x, y, cone⟩ ⟨x', y', cone⟩ ⟨hx, hy, cone_lt⟩ ⟨hx', hy', cone_lt⟩ W
  have cd := fun W => divided_frac s (hs ▸ sumF_lt _ _) hz W
  rw [decide_eq_true hon] at ci
  rw [decide_eq_true hon'] at cj
  rw [hs] at cs
  unfold Frac.val at cs cd
  unfold pv at ci cj co cq cd ⊢
  have LV : Hid (L64 (bvc x ++ bvc y)) := l64 x y
  have LW : Hid (L64 (bvc x' ++ bvc y')) := l64 x' y'
  have LE : Hid (L64 (bvc (mulp s.x (invp s.u)) ++ bvc (mulp s.y (invp s.u)))) := l64 _ _
  obtain ⟨f1, hf1⟩ : ∃ V, fv x y cone = V := ⟨_, rfl⟩
  obtain ⟨f2, hf2⟩ : ∃ V, fv x' y' cone = V := ⟨_, rfl⟩
  obtain ⟨f3, hf3⟩ : ∃ V, fv s.x s.y s.u = V := ⟨_, rfl⟩
  rw [hf1] at co cs
  rw [hf2] at cq cs
  rw [hf3] at cs cd
  clear hf1 hf2 hf3
  obtain ⟨V, hV⟩ : ∃ V, bvc x ++ bvc y = V := ⟨_, rfl⟩
  obtain ⟨V', hV'⟩ : ∃ V, bvc x' ++ bvc y' = V := ⟨_, rfl⟩
  obtain ⟨E, hE⟩ : ∃ V, bvc (mulp s.x (invp s.u)) ++ bvc (mulp s.y (invp s.u)) = V := ⟨_, rfl⟩
  rw [hV] at LV ci co ⊢
  rw [hV'] at LW cj cq ⊢
  rw [hE] at LE cd ⊢
  clear hV hV' hE hx hy hon hx' hy' hon' hz hs x y x' y' s
  have HS := (show Hid _ from startppp w V V')
  have hz2 := zero43
  obtain ⟨Z2, hZ2⟩ : ∃ Z, z43 = Z := ⟨_, rfl⟩
  rw [hZ2] at hz2 HS
  clear hZ2
  obtain ⟨n, hn⟩ : ∃ n, w.heap.size = n := ⟨_, rfl⟩
  have HN : Hid (w.heap.size = n) := hn
  have HS1 : Hid (Rp (((w.alloc (.cells V.toArray 43)).alloc (.cells V'.toArray 43)).alloc (.cells Z2 43)) n 0 V ∧ Rp (((w.alloc (.cells V.toArray 43)).alloc (.cells V'.toArray 43)).alloc (.cells Z2 43)) (n + 1) 0 V' ∧ Ao w.heap.size (((w.alloc (.cells V.toArray 43)).alloc (.cells V'.toArray 43)).alloc (.cells Z2 43)) (n + 2) 64 ∧ Below w.heap.size w (((w.alloc (.cells V.toArray 43)).alloc (.cells V'.toArray 43)).alloc (.cells Z2 43))) := by
    have h := HS.out
    rw [HN.out] at h
    show _ ∧ _
    rw [HN.out]
    exact h
  clear HS
  go_enter Try.func35, Try.ntmps35
  go_wp2_with (first
    | (refine wpList_load_mid rfl 43 (.tmp 2) rfl n 0 rfl V _ HS1.out.1.1 Try.underlying43 rfl LV.out.i ?_)
    | (go_at_call 29; have hq := HB1; refine (cj _).mono ?_; rintro e w2 ⟨rfl, hb2⟩; have HQ2 := (show Hid (Rp w2 n 0 V) from HQ1.out.below hb2); have HR2 := (show Hid (Rp w2 (n + 1) 0 V') from HR1.out.below hb2); have HA2 := (show Hid (Ao w.heap.size w2 (n + 2) 64) from HA1.out.below hb2); have HB2 := (show Hid (Below w.heap.size w w2) from HB1.out.trans (hb2.mono HB1.out.size)); clear hb2 cj HA1 HB1 hq)
    | (go_at_call 29; refine (ci _).mono ?_; rintro e w1 ⟨rfl, hb1⟩; have HQ1 := (show Hid (Rp w1 n 0 V) from HS1.out.1.below hb1); have HR1 := (show Hid (Rp w1 (n + 1) 0 V') from HS1.out.2.1.below hb1); have HA1 := (show Hid (Ao w.heap.size w1 (n + 2) 64) from HS1.out.2.2.1.below hb1); have HB1 := (show Hid (Below w.heap.size w w1) from HS1.out.2.2.2.trans (hb1.mono HS1.out.2.2.2.size)); clear hb1 ci HS1)
    | (refine wpList_loadw (by kernel_rfl) 43 (.tmp 3) rfl (n + 1) 0 rfl V' _ HR1.out.1 Try.underlying43 rfl LW.out.i ?_))
  have HX := (show Hid _ from HQ2.out.cl)
  have HY := (show Hid _ from HR2.out.cl)
  have hne := Cl.ne w2.heap.size w2
  apply region_cl_tail (N := w2.heap.size) (W := w2) 6 6 (by kernel_rfl) (Below.refl _ _)
  case hl => simp only [List.take_succ_cons, List.take_zero]; rfl
  case ht => simp only [List.drop_succ_cons, List.drop_zero]; rfl
  case hB => kernel_rfl
  case hT => kernel_rfl
  case h =>
    go_big_quiet_want
    refine quiet_load 43 _ rfl n 0 rfl V _ HX.out Try.underlying43 rfl LV.out.i ?_
    simp only [Act.put, List.setIfInBounds_toArray, List.set_cons_zero, List.set_cons_succ]
    go_big_quiet_on
    go_big_quiet_step ((go_at_call 82; exact cl_of (co _) (Nat.le_refl _)))
    go_big_quiet_want
    refine quiet_load 43 _ rfl (n + 1) 0 rfl V' _ HY.out Try.underlying43 rfl LW.out.i ?_
    simp only [Act.put, List.setIfInBounds_toArray, List.set_cons_zero, List.set_cons_succ]
    go_big_quiet_on
    go_big_quiet_step ((go_at_call 82; exact cl_of (cq _) (Nat.le_refl _)))
    go_big_quiet_step ((go_at_call 81; exact cl_of (cs _) (Nat.le_refl _)))
    go_big_quiet_step ((go_at_call 80; exact cl_of (cd _) (Nat.le_refl _)))
    refine wpQuiet_nil ?_
    rintro _ ⟨xq, rfl⟩
    have hb := xq.h
    have HA3 := (show Hid (Ao w.heap.size xq.u (n + 2) 64) from HA2.out.below hb)
    have HB3 := (show Hid (Below w.heap.size w xq.u) from HB2.out.trans (hb.mono HB2.out.size))
    have HT3 := (show Hid _ from LE.out.t HA3.out)
    clear hb
    go_wp2_with (refine wpList_store_mid rfl 43 (.tmp 4) (.tmp 21) rfl (n + 2) 0 E.toArray rfl rfl HT3.out LE.out.j LE.out.o ?_; simp only)
    exact bodyPost_ret (res_ct Try.results35 rfl (end43 LE.out HA3.out) rfl) rfl ⟨rfl, below_setCells HB3.out HA3.out.1⟩
end Fd
end Go.Proofs.Ytgdekigdbbldoaa

namespace Go.Proofs.Ytgdekigdbbldoaa
open Go.RowKit
namespace Fd
open Rg

set_option maxHeartbeats 4000000 in
set_option maxRecDepth 4000 in
theorem twice_at (a0 a1 a2 k15 k22 k29 k34 k37 k40 k42 k45 k47 k50 k52 k56 : Nat) (h_k15 : mulp a0 a0 = k15) (h_k22 : mulp a1 a1 = k22) (h_k29 : mulp a0 a1 = k29) (h_k34 : mulp a2 a2 = k34) (h_k37 : subp k22 k15 = k37) (h_k40 : addp k34 k34 = k40) (h_k42 : subp k40 k37 = k42) (h_k45 : addp k29 k29 = k45) (h_k47 : mulp k45 k42 = k47) (h_k50 : addp k22 k15 = k50) (h_k52 : mulp k50 k37 = k52) (h_k56 : mulp k37 k42 = k56) (l_a0 : a0 < 115792089237316195423570985008687907853269984665640564039457584007913129639936) (l_a1 : a1 < 115792089237316195423570985008687907853269984665640564039457584007913129639936) (l_a2 : a2 < 115792089237316195423570985008687907853269984665640564039457584007913129639936) (w : World) :
    Calls Try.prog 104 #[fv a0 a1 a2] w fun e w' => e = .returned (fv k47 k52 k56) ∧ Below w.heap.size w w' := by
  have l_k15 : k15 < 115792089237316195423570985008687907853269984665640564039457584007913129639936 := h_k15 ▸ mulp_lt _ _
  have c_k15 : ∀ W : World, Calls Try.prog 20 #[.agg (bvc a0).toArray, .agg (bvc a0).toArray] W fun e w' => e = .returned (.agg (bvc k15).toArray) ∧ Below W.heap.size W w' := fun W => by have h := mul_any a0 a0 W l_a0 l_a0; rw [← h_k15]; exact h
  have l_k22 : k22 < 115792089237316195423570985008687907853269984665640564039457584007913129639936 := h_k22 ▸ mulp_lt _ _
  have c_k22 : ∀ W : World, Calls Try.prog 20 #[.agg (bvc a1).toArray, .agg (bvc a1).toArray] W fun e w' => e = .returned (.agg (bvc k22).toArray) ∧ Below W.heap.size W w' := fun W => by have h := mul_any a1 a1 W l_a1 l_a1; rw [← h_k22]; exact h
  have l_k29 : k29 < 115792089237316195423570985008687907853269984665640564039457584007913129639936 := h_k29 ▸ mulp_lt _ _
  have c_k29 : ∀ W : World, Calls Try.prog 20 #[.agg (bvc a0).toArray, .agg (bvc a1).toArray] W fun e w' => e = .returned (.agg (bvc k29).toArray) ∧ Below W.heap.size W w' := fun W => by have h := mul_any a0 a1 W l_a0 l_a1; rw [← h_k29]; exact h
  have l_k34 : k34 < 115792089237316195423570985008687907853269984665640564039457584007913129639936 := h_k34 ▸ mulp_lt _ _
  have c_k34 : ∀ W : World, Calls Try.prog 20 #[.agg (bvc a2).toArray, .agg (bvc a2).toArray] W fun e w' => e = .returned (.agg (bvc k34).toArray) ∧ Below W.heap.size W w' := fun W => by have h := mul_any a2 a2 W l_a2 l_a2; rw [← h_k34]; exact h
  have l_k37 : k37 < 115792089237316195423570985008687907853269984665640564039457584007913129639936 := h_k37 ▸ subp_lt _ _
  have c_k37 : ∀ W : World, Calls Try.prog 18 #[.agg (bvc k22).toArray, .agg (bvc k15).toArray] W fun e w' => e = .returned (.agg (bvc k37).toArray) ∧ Below W.heap.size W w' := fun W => by have h := sub_any k22 k15 W l_k22 l_k15; rw [← h_k37]; exact h
  have l_k40 : k40 < 115792089237316195423570985008687907853269984665640564039457584007913129639936 := h_k40 ▸ addp_lt _ _
  have c_k40 : ∀ W : World, Calls Try.prog 15 #[.agg (bvc k34).toArray, .agg (bvc k34).toArray] W fun e w' => e = .returned (.agg (bvc k40).toArray) ∧ Below W.heap.size W w' := fun W => by have h := add_any k34 k34 W l_k34 l_k34; rw [← h_k40]; exact h
  have l_k42 : k42 < 115792089237316195423570985008687907853269984665640564039457584007913129639936 := h_k42 ▸ subp_lt _ _
  have c_k42 : ∀ W : World, Calls Try.prog 18 #[.agg (bvc k40).toArray, .agg (bvc k37).toArray] W fun e w' => e = .returned (.agg (bvc k42).toArray) ∧ Below W.heap.size W w' := fun W => by have h := sub_any k40 k37 W l_k40 l_k37; rw [← h_k42]; exact h
  have l_k45 : k45 < 115792089237316195423570985008687907853269984665640564039457584007913129639936 := h_k45 ▸ addp_lt _ _
  have c_k45 : ∀ W : World, Calls Try.prog 15 #[.agg (bvc k29).toArray, .agg (bvc k29).toArray] W fun e w' => e = .returned (.agg (bvc k45).toArray) ∧ Below W.heap.size W w' := fun W => by have h := add_any k29 k29 W l_k29 l_k29; rw [← h_k45]; exact h
  have l_k47 : k47 < 115792089237316195423570985008687907853269984665640564039457584007913129639936 := h_k47 ▸ mulp_lt _ _
  have c_k47 : ∀ W : World, Calls Try.prog 20 #[.agg (bvc k45).toArray, .agg (bvc k42).toArray] W fun e w' => e = .returned (.agg (bvc k47).toArray) ∧ Below W.heap.size W w' := fun W => by have h := mul_any k45 k42 W l_k45 l_k42; rw [← h_k47]; exact h
  have l_k50 : k50 < 115792089237316195423570985008687907853269984665640564039457584007913129639936 := h_k50 ▸ addp_lt _ _
  have c_k50 : ∀ W : World, Calls Try.prog 15 #[.agg (bvc k22).toArray, .agg (bvc k15).toArray] W fun e w' => e = .returned (.agg (bvc k50).toArray) ∧ Below W.heap.size W w' := fun W => by have h := add_any k22 k15 W l_k22 l_k15; rw [← h_k50]; exact h
  have l_k52 : k52 < 115792089237316195423570985008687907853269984665640564039457584007913129639936 := h_k52 ▸ mulp_lt _ _
  have c_k52 : ∀ W : World, Calls Try.prog 20 #[.agg (bvc k50).toArray, .agg (bvc k37).toArray] W fun e w' => e = .returned (.agg (bvc k52).toArray) ∧ Below W.heap.size W w' := fun W => by have h := mul_any k50 k37 W l_k50 l_k37; rw [← h_k52]; exact h
  have l_k56 : k56 < 115792089237316195423570985008687907853269984665640564039457584007913129639936 := h_k56 ▸ mulp_lt _ _
  have c_k56 : ∀ W : World, Calls Try.prog 20 #[.agg (bvc k37).toArray, .agg (bvc k42).toArray] W fun e w' => e = .returned (.agg (bvc k56).toArray) ∧ Below W.heap.size W w' := fun W => by have h := mul_any k37 k42 W l_k37 l_k42; rw [← h_k56]; exact h
  clear h_k15 h_k22 h_k29 h_k34 h_k37 h_k40 h_k42 h_k45 h_k47 h_k50 h_k52 h_k56 l_a0 l_a1 l_a2 l_k15 l_k22 l_k29 l_k34 l_k37 l_k40 l_k42 l_k45 l_k47 l_k50 l_k52 l_k56
  unfold fv
  have LA0 : Hid (L32 (bvc a0)) := l32 a0
  have LA1 : Hid (L32 (bvc a1)) := l32 a1
  have LA2 : Hid (L32 (bvc a2)) := l32 a2
  have LK15 : Hid (L32 (bvc k15)) := l32 k15
  have LK22 : Hid (L32 (bvc k22)) := l32 k22
  have LK29 : Hid (L32 (bvc k29)) := l32 k29
  have LK34 : Hid (L32 (bvc k34)) := l32 k34
  have LK37 : Hid (L32 (bvc k37)) := l32 k37
  have LK40 : Hid (L32 (bvc k40)) := l32 k40
  have LK42 : Hid (L32 (bvc k42)) := l32 k42
  have LK45 : Hid (L32 (bvc k45)) := l32 k45
  have LK47 : Hid (L32 (bvc k47)) := l32 k47
  have LK50 : Hid (L32 (bvc k50)) := l32 k50
  have LK52 : Hid (L32 (bvc k52)) := l32 k52
  have LK56 : Hid (L32 (bvc k56)) := l32 k56
  obtain ⟨A0, hA0⟩ : ∃ Z, bvc a0 = Z := ⟨_, rfl⟩
  obtain ⟨A1, hA1⟩ : ∃ Z, bvc a1 = Z := ⟨_, rfl⟩
  obtain ⟨A2, hA2⟩ : ∃ Z, bvc a2 = Z := ⟨_, rfl⟩
  obtain ⟨K15, hK15⟩ : ∃ Z, bvc k15 = Z := ⟨_, rfl⟩
  obtain ⟨K22, hK22⟩ : ∃ Z, bvc k22 = Z := ⟨_, rfl⟩
  obtain ⟨K29, hK29⟩ : ∃ Z, bvc k29 = Z := ⟨_, rfl⟩
  obtain ⟨K34, hK34⟩ : ∃ Z, bvc k34 = Z := ⟨_, rfl⟩
  obtain ⟨K37, hK37⟩ : ∃ Z, bvc k37 = Z := ⟨_, rfl⟩
  obtain ⟨K40, hK40⟩ : ∃ Z, bvc k40 = Z := ⟨_, rfl⟩
  obtain ⟨K42, hK42⟩ : ∃ Z, bvc k42 = Z := ⟨_, rfl⟩
  obtain ⟨K45, hK45⟩ : ∃ Z, bvc k45 = Z := ⟨_, rfl⟩
  obtain ⟨K47, hK47⟩ : ∃ Z, bvc k47 = Z := ⟨_, rfl⟩
  obtain ⟨K50, hK50⟩ : ∃ Z, bvc k50 = Z := ⟨_, rfl⟩
  obtain ⟨K52, hK52⟩ : ∃ Z, bvc k52 = Z := ⟨_, rfl⟩
  obtain ⟨K56, hK56⟩ : ∃ Z, bvc k56 = Z := ⟨_, rfl⟩
  rw [hA0] at LA0 c_k15 c_k29
  rw [hA1] at LA1 c_k22 c_k29
  rw [hA2] at LA2 c_k34
  rw [hK15] at LK15 c_k15 c_k37 c_k50
  rw [hK22] at LK22 c_k22 c_k37 c_k50
  rw [hK29] at LK29 c_k29 c_k45
  rw [hK34] at LK34 c_k34 c_k40
  rw [hK37] at LK37 c_k37 c_k42 c_k52 c_k56
  rw [hK40] at LK40 c_k40 c_k42
  rw [hK42] at LK42 c_k42 c_k47 c_k56
  rw [hK45] at LK45 c_k45 c_k47
  rw [hK47] at LK47 c_k47
  rw [hK50] at LK50 c_k50 c_k52
  rw [hK52] at LK52 c_k52
  rw [hK56] at LK56 c_k56
  rw [hA0, hA1, hA2, hK47, hK52, hK56]
  clear hA0 hA1 hA2 hK15 hK22 hK29 hK34 hK37 hK40 hK42 hK45 hK47 hK50 hK52 hK56 a0 a1 a2 k15 k22 k29 k34 k37 k40 k42 k45 k47 k50 k52 k56
  have HBP : Hid (Try.prog.built 43 [(0, .agg K47.toArray), (1, .agg K52.toArray)] = some (K47 ++ K52).toArray) := build_point K47 K52 LK47.out.l LK52.out.l
  have HBF : Hid (Try.prog.built 84 [(0, .agg (K47 ++ K52).toArray), (1, .agg K56.toArray)] = some ((K47 ++ K52) ++ K56).toArray) := build_frac (K47 ++ K52) K56 (by rw [List.length_append, LK47.out.l, LK52.out.l]) LK56.out.l
  have HVL : Hid (((K47 ++ K52) ++ K56).length = 96) := by show _ = _; rw [List.length_append, List.length_append, LK47.out.l, LK52.out.l, LK56.out.l]
  have HVO : Hid (((K47 ++ K52) ++ K56).toArray.all (·.oneCell') = true) := one_app (one_app LK47.out.o LK52.out.o) LK56.out.o
  obtain ⟨VP, hVP⟩ : ∃ V, K47 ++ K52 = V := ⟨_, rfl⟩
  rw [hVP] at HBP HBF HVL HVO ⊢
  obtain ⟨VF, hVF⟩ : ∃ V, VP ++ K56 = V := ⟨_, rfl⟩
  rw [hVF] at HBF HVL HVO ⊢
  clear hVP hVF
  have HS0 := (show Hid _ from start1 w A0 A1 A2 LA0.out.l LA1.out.l)
  have hz := zero22
  have HBN : Hid (∀ (W : World) (R : List Value), R.length = 32 → Bo ((W.alloc (.cells z22 22)).setCells W.heap.size 0 R) W.heap.size R ∧ Below W.heap.size W ((W.alloc (.cells z22 22)).setCells W.heap.size 0 R)) := box_new
  have HLT : Hid (∀ (R : List Value), L32 R → ∀ W : World, (W.alloc (.cells z22 22)).there W.heap.size 0 R.toArray.size) := fun R h => h.t
  obtain ⟨Z, hZ⟩ : ∃ Z, z22 = Z := ⟨_, rfl⟩
  rw [hZ] at hz HBN HLT
  clear hZ
  have hz2 := zero84
  obtain ⟨Z2, hZ2⟩ : ∃ Z, z84 = Z := ⟨_, rfl⟩
  rw [hZ2] at hz2 HS0
  clear hZ2
  obtain ⟨VA, hVA⟩ : ∃ V, (A0 ++ A1) ++ A2 = V := ⟨_, rfl⟩
  rw [hVA] at HS0 ⊢
  clear hVA
  obtain ⟨n, hn⟩ : ∃ n, w.heap.size = n := ⟨_, rfl⟩
  have HN : Hid (w.heap.size = n) := hn
  have HS1 : Hid (Rp ((w.alloc (.cells VA.toArray 84)).alloc (.cells Z2 84)) n 0 A0 ∧ Rp ((w.alloc (.cells VA.toArray 84)).alloc (.cells Z2 84)) n 32 A1 ∧ Rp ((w.alloc (.cells VA.toArray 84)).alloc (.cells Z2 84)) n 64 A2 ∧ Ao w.heap.size ((w.alloc (.cells VA.toArray 84)).alloc (.cells Z2 84)) (n + 1) 96 ∧ Below w.heap.size w ((w.alloc (.cells VA.toArray 84)).alloc (.cells Z2 84))) := by
    have h := HS0.out
    rw [HN.out] at h
    show _ ∧ _
    rw [HN.out]
    exact h
  clear HS0
  have Pn_0_0 := (show Hid (Rp ((w.alloc (.cells VA.toArray 84)).alloc (.cells Z2 84)) n 0 A0) from HS1.out.1)
  have Pn_32_0 := (show Hid (Rp ((w.alloc (.cells VA.toArray 84)).alloc (.cells Z2 84)) n 32 A1) from HS1.out.2.1)
  have Pn_64_0 := (show Hid (Rp ((w.alloc (.cells VA.toArray 84)).alloc (.cells Z2 84)) n 64 A2) from HS1.out.2.2.1)
  have AN_0 := (show Hid (Ao w.heap.size ((w.alloc (.cells VA.toArray 84)).alloc (.cells Z2 84)) (n + 1) 96) from HS1.out.2.2.2.1)
  have HB_0 := (show Hid (Below w.heap.size w ((w.alloc (.cells VA.toArray 84)).alloc (.cells Z2 84))) from HS1.out.2.2.2.2)
  have TK_0 := (show Hid True from trivial)
  clear HS1
  go_enter Try.func104, Try.ntmps104
  go_wp2
  obtain ⟨wv0, hwv0⟩ : ∃ v, ((w.alloc (.cells VA.toArray 84)).alloc (.cells Z2 84)) = v := ⟨_, rfl⟩
  rw [hwv0] at Pn_0_0 Pn_32_0 Pn_64_0 AN_0 HB_0 ⊢
  clear hwv0
  apply region_float (N := wv0.heap.size) (W := wv0) (ty := 22) [3, 4] 16 16 (by kernel_rfl) (Below.refl _ _) (Nat.le_refl _) alloc22 there22
  case hl => simp only [List.take_succ_cons, List.take_zero]; rfl
  case ht => simp only [List.drop_succ_cons, List.drop_zero]; rfl
  case hB => kernel_rfl
  case hT => kernel_rfl
  case hF => kernel_rfl
  case hS => kernel_rfl
  case h =>
    apply Exists.intro
    constructor
    case left =>
      intro N2 W2 q1 q2 q3
      have HQPn_0 := (show Hid _ from Pn_0_0.out.cl2 q1 q2)
      have HQPn_32 := (show Hid _ from Pn_32_0.out.cl2 q1 q2)
      have hne := Cl.ne N2 W2
      have HC1 : Hid (N2 ≤ W2.heap.size) := q3
      clear q1 q2 q3
      simp only [List.map_cons, List.map_nil, hush, isAl, beq_self_eq_true, if_true, Bool.false_eq_true, if_false]
      go_big_quiet_step (fail)
      go_big_quiet_step (fail)
      go_big_quiet_want
      refine quiet_load 22 _ rfl n 0 rfl A0 _ HQPn_0.out Try.underlying22 rfl LA0.out.i ?_
      simp only [Act.put, List.setIfInBounds_toArray, List.set_cons_zero, List.set_cons_succ]
      go_big_quiet_on
      go_big_quiet_step (fail)
      go_big_quiet_step (fail)
      go_big_quiet_want
      refine quiet_load 22 _ rfl n 0 rfl A0 _ HQPn_0.out Try.underlying22 rfl LA0.out.i ?_
      simp only [Act.put, List.setIfInBounds_toArray, List.set_cons_zero, List.set_cons_succ]
      go_big_quiet_on
      go_big_quiet_step ((go_at_call 20; exact cl_of (c_k15 _) HC1.out))
      go_big_quiet_step (fail)
      go_big_quiet_step (fail)
      go_big_quiet_want
      refine quiet_load 22 _ rfl n 32 rfl A1 _ HQPn_32.out Try.underlying22 rfl LA1.out.i ?_
      simp only [Act.put, List.setIfInBounds_toArray, List.set_cons_zero, List.set_cons_succ]
      go_big_quiet_on
      go_big_quiet_step (fail)
      go_big_quiet_step (fail)
      go_big_quiet_want
      refine quiet_load 22 _ rfl n 32 rfl A1 _ HQPn_32.out Try.underlying22 rfl LA1.out.i ?_
      simp only [Act.put, List.setIfInBounds_toArray, List.set_cons_zero, List.set_cons_succ]
      go_big_quiet_on
      go_big_quiet_step ((go_at_call 20; exact cl_of (c_k22 _) HC1.out))
      go_big_quiet_step (fail)
      go_big_quiet_step (fail)
      refine wpQuiet_nil ?_
      rfl
    case right =>
      intro g wv1 hb hf hd
      have h3 := hf 3 (by decide)
      have h4 := hf 4 (by decide)
      have hne := hd 3 (by decide) 4 (by decide) (by decide)
      clear hf hd
      simp only [putsT, List.foldl_cons, List.foldl_nil, Act.put, List.setIfInBounds_toArray, List.set_cons_zero, List.set_cons_succ]
      obtain ⟨b3, hb3⟩ : ∃ b, g 3 = b := ⟨_, rfl⟩
      rw [hb3] at h3 hne ⊢
      obtain ⟨b4, hb4⟩ : ∃ b, g 4 = b := ⟨_, rfl⟩
      rw [hb4] at h4 hne ⊢
      clear hb3 hb4 g
      have HT := (show Hid _ from two_boxes hb h3 h4 hne LK15.out.l LK22.out.l)
      have HT1 : Hid (wv1.there b3 0 K15.toArray.size) := by show World.there _ _ _ _; rw [List.size_toArray, LK15.out.l]; exact h3.2.2
      have HT2 : Hid ((wv1.setCells b3 0 K15).there b4 0 K22.toArray.size) := by show World.there _ _ _ _; rw [List.size_toArray, LK22.out.l]; exact World.there_setCells h4.2.2 _ _ _
      clear h3 h4 hne hb
      go_wp2_with (first
        | (refine wpList_store_mid rfl 22 (.tmp 3) (.tmp 15) rfl b3 0 K15.toArray rfl rfl HT1.out LK15.out.j LK15.out.o ?_; simp only)
        | (refine wpList_store_mid rfl 22 (.tmp 4) (.tmp 22) rfl b4 0 K22.toArray rfl rfl HT2.out LK22.out.j LK22.out.o ?_; simp only [Act.put]; obtain ⟨wv2, hwv2⟩ : ∃ v, (wv1.setCells b3 0 K15).setCells b4 0 K22 = v := ⟨_, rfl⟩; rw [hwv2] at HT ⊢; clear hwv2; have hb := HT.out.2.2; have HB_1 := (show Hid (Below w.heap.size w wv2) from HB_0.out.trans (hb.mono HB_0.out.size)); have Pn_0_1 := (show Hid (Rp wv2 n 0 A0) from Pn_0_0.out.below hb); have Pn_32_1 := (show Hid (Rp wv2 n 32 A1) from Pn_32_0.out.below hb); have Pn_64_1 := (show Hid (Rp wv2 n 64 A2) from Pn_64_0.out.below hb); have AN_1 := (show Hid (Ao w.heap.size wv2 (n + 1) 96) from AN_0.out.below hb); have Pb3_0_1 := (show Hid (Rp wv2 b3 0 K15) from (HT.out.1).rp); have Pb4_0_1 := (show Hid (Rp wv2 b4 0 K22) from (HT.out.2.1).rp); clear HB_0 AN_0 Pn_0_0 Pn_32_0 Pn_64_0 hb; have TK_1 := (show Hid True from trivial); clear TK_0 HT HT1 HT2 wv1))
      apply region_float (N := wv2.heap.size) (W := wv2) (ty := 22) [5, 6] 14 14 (by kernel_rfl) (Below.refl _ _) (Nat.le_refl _) alloc22 there22
      case hl => simp only [List.take_succ_cons, List.take_zero]; rfl
      case ht => simp only [List.drop_succ_cons, List.drop_zero]; rfl
      case hB => kernel_rfl
      case hT => kernel_rfl
      case hF => kernel_rfl
      case hS => kernel_rfl
      case h =>
        apply Exists.intro
        constructor
        case left =>
          intro N2 W2 q1 q2 q3
          have HQPn_0 := (show Hid _ from Pn_0_1.out.cl2 q1 q2)
          have HQPn_32 := (show Hid _ from Pn_32_1.out.cl2 q1 q2)
          have HQPn_64 := (show Hid _ from Pn_64_1.out.cl2 q1 q2)
          have hne := Cl.ne N2 W2
          have HC1 : Hid (N2 ≤ W2.heap.size) := q3
          clear q1 q2 q3
          simp only [List.map_cons, List.map_nil, hush, isAl, beq_self_eq_true, if_true, Bool.false_eq_true, if_false]
          go_big_quiet_step (fail)
          go_big_quiet_step (fail)
          go_big_quiet_want
          refine quiet_load 22 _ rfl n 0 rfl A0 _ HQPn_0.out Try.underlying22 rfl LA0.out.i ?_
          simp only [Act.put, List.setIfInBounds_toArray, List.set_cons_zero, List.set_cons_succ]
          go_big_quiet_on
          go_big_quiet_step (fail)
          go_big_quiet_step (fail)
          go_big_quiet_want
          refine quiet_load 22 _ rfl n 32 rfl A1 _ HQPn_32.out Try.underlying22 rfl LA1.out.i ?_
          simp only [Act.put, List.setIfInBounds_toArray, List.set_cons_zero, List.set_cons_succ]
          go_big_quiet_on
          go_big_quiet_step ((go_at_call 20; exact cl_of (c_k29 _) HC1.out))
          go_big_quiet_step (fail)
          go_big_quiet_want
          refine quiet_load 22 _ rfl n 64 rfl A2 _ HQPn_64.out Try.underlying22 rfl LA2.out.i ?_
          simp only [Act.put, List.setIfInBounds_toArray, List.set_cons_zero, List.set_cons_succ]
          go_big_quiet_on
          go_big_quiet_step (fail)
          go_big_quiet_want
          refine quiet_load 22 _ rfl n 64 rfl A2 _ HQPn_64.out Try.underlying22 rfl LA2.out.i ?_
          simp only [Act.put, List.setIfInBounds_toArray, List.set_cons_zero, List.set_cons_succ]
          go_big_quiet_on
          go_big_quiet_step ((go_at_call 20; exact cl_of (c_k34 _) HC1.out))
          go_big_quiet_step (fail)
          go_big_quiet_step (fail)
          refine wpQuiet_nil ?_
          rfl
        case right =>
          intro g wv3 hb hf hd
          have h5 := hf 5 (by decide)
          have h6 := hf 6 (by decide)
          have hne := hd 5 (by decide) 6 (by decide) (by decide)
          clear hf hd
          simp only [putsT, List.foldl_cons, List.foldl_nil, Act.put, List.setIfInBounds_toArray, List.set_cons_zero, List.set_cons_succ]
          obtain ⟨b5, hb5⟩ : ∃ b, g 5 = b := ⟨_, rfl⟩
          rw [hb5] at h5 hne ⊢
          obtain ⟨b6, hb6⟩ : ∃ b, g 6 = b := ⟨_, rfl⟩
          rw [hb6] at h6 hne ⊢
          clear hb5 hb6 g
          have HT := (show Hid _ from two_boxes hb h5 h6 hne LK29.out.l LK34.out.l)
          have HT1 : Hid (wv3.there b5 0 K29.toArray.size) := by show World.there _ _ _ _; rw [List.size_toArray, LK29.out.l]; exact h5.2.2
          have HT2 : Hid ((wv3.setCells b5 0 K29).there b6 0 K34.toArray.size) := by show World.there _ _ _ _; rw [List.size_toArray, LK34.out.l]; exact World.there_setCells h6.2.2 _ _ _
          clear h5 h6 hne hb
          go_wp2_with (first
            | (refine wpList_load_mid rfl 22 (.tmp 4) rfl b4 0 rfl K22 _ Pb4_0_2.out.1 Try.underlying22 rfl LK22.out.i ?_)
            | (refine wpList_load_mid rfl 22 (.tmp 3) rfl b3 0 rfl K15 _ Pb3_0_2.out.1 Try.underlying22 rfl LK15.out.i ?_)
            | (refine wpList_store_mid rfl 22 (.tmp 5) (.tmp 29) rfl b5 0 K29.toArray rfl rfl HT1.out LK29.out.j LK29.out.o ?_; simp only)
            | (refine wpList_store_mid rfl 22 (.tmp 6) (.tmp 34) rfl b6 0 K34.toArray rfl rfl HT2.out LK34.out.j LK34.out.o ?_; simp only [Act.put]; obtain ⟨wv4, hwv4⟩ : ∃ v, (wv3.setCells b5 0 K29).setCells b6 0 K34 = v := ⟨_, rfl⟩; rw [hwv4] at HT ⊢; clear hwv4; have hb := HT.out.2.2; have HB_2 := (show Hid (Below w.heap.size w wv4) from HB_1.out.trans (hb.mono HB_1.out.size)); have Pn_0_2 := (show Hid (Rp wv4 n 0 A0) from Pn_0_1.out.below hb); have Pn_32_2 := (show Hid (Rp wv4 n 32 A1) from Pn_32_1.out.below hb); have Pn_64_2 := (show Hid (Rp wv4 n 64 A2) from Pn_64_1.out.below hb); have Pb3_0_2 := (show Hid (Rp wv4 b3 0 K15) from Pb3_0_1.out.below hb); have Pb4_0_2 := (show Hid (Rp wv4 b4 0 K22) from Pb4_0_1.out.below hb); have AN_2 := (show Hid (Ao w.heap.size wv4 (n + 1) 96) from AN_1.out.below hb); have Pb5_0_2 := (show Hid (Rp wv4 b5 0 K29) from (HT.out.1).rp); have Pb6_0_2 := (show Hid (Rp wv4 b6 0 K34) from (HT.out.2.1).rp); clear HB_1 AN_1 Pn_0_1 Pn_32_1 Pn_64_1 Pb3_0_1 Pb4_0_1 hb; have TK_2 := (show Hid True from trivial); clear TK_1 HT HT1 HT2 wv3)
            | (have hq := TK_2; go_at_call 18; refine (c_k37 _).mono ?_; rintro e wv5 ⟨rfl, hb⟩; have HB_3 := (show Hid (Below w.heap.size w wv5) from HB_2.out.trans (hb.mono HB_2.out.size)); have Pn_0_3 := (show Hid (Rp wv5 n 0 A0) from Pn_0_2.out.below hb); have Pn_32_3 := (show Hid (Rp wv5 n 32 A1) from Pn_32_2.out.below hb); have Pn_64_3 := (show Hid (Rp wv5 n 64 A2) from Pn_64_2.out.below hb); have Pb3_0_3 := (show Hid (Rp wv5 b3 0 K15) from Pb3_0_2.out.below hb); have Pb4_0_3 := (show Hid (Rp wv5 b4 0 K22) from Pb4_0_2.out.below hb); have Pb5_0_3 := (show Hid (Rp wv5 b5 0 K29) from Pb5_0_2.out.below hb); have Pb6_0_3 := (show Hid (Rp wv5 b6 0 K34) from Pb6_0_2.out.below hb); have AN_3 := (show Hid (Ao w.heap.size wv5 (n + 1) 96) from AN_2.out.below hb); clear HB_2 AN_2 Pn_0_2 Pn_32_2 Pn_64_2 Pb3_0_2 Pb4_0_2 Pb5_0_2 Pb6_0_2 hb; have TK_3 := (show Hid True from trivial); clear hq TK_2)
            | (have hq := TK_3; refine wpList_store_mid rfl 22 (.tmp 7) (.tmp 37) rfl wv5.heap.size 0 K37.toArray rfl rfl (HLT.out K37 LK37.out wv5) LK37.out.j LK37.out.o ?_; simp only [Act.put]; have hbx := HBN.out wv5 K37 LK37.out.l; obtain ⟨wv6, hwv6⟩ : ∃ v, (wv5.alloc (.cells Z 22)).setCells wv5.heap.size 0 K37 = v := ⟨_, rfl⟩; rw [hwv6] at hbx ⊢; clear hwv6; have hb := hbx.2; replace hbx := hbx.1; obtain ⟨b7, hb7⟩ : ∃ b, wv5.heap.size = b := ⟨_, rfl⟩; rw [hb7] at hbx ⊢; clear hb7; have HB_4 := (show Hid (Below w.heap.size w wv6) from HB_3.out.trans (hb.mono HB_3.out.size)); have Pn_0_4 := (show Hid (Rp wv6 n 0 A0) from Pn_0_3.out.below hb); have Pn_32_4 := (show Hid (Rp wv6 n 32 A1) from Pn_32_3.out.below hb); have Pn_64_4 := (show Hid (Rp wv6 n 64 A2) from Pn_64_3.out.below hb); have Pb3_0_4 := (show Hid (Rp wv6 b3 0 K15) from Pb3_0_3.out.below hb); have Pb4_0_4 := (show Hid (Rp wv6 b4 0 K22) from Pb4_0_3.out.below hb); have Pb5_0_4 := (show Hid (Rp wv6 b5 0 K29) from Pb5_0_3.out.below hb); have Pb6_0_4 := (show Hid (Rp wv6 b6 0 K34) from Pb6_0_3.out.below hb); have AN_4 := (show Hid (Ao w.heap.size wv6 (n + 1) 96) from AN_3.out.below hb); have Pb7_0_4 := (show Hid (Rp wv6 b7 0 K37) from hbx.rp); clear HB_3 AN_3 Pn_0_3 Pn_32_3 Pn_64_3 Pb3_0_3 Pb4_0_3 Pb5_0_3 Pb6_0_3 hb; have TK_4 := (show Hid True from trivial); clear hq TK_3 hbx))
          apply region_float (N := wv6.heap.size) (W := wv6) (ty := 22) [8] 6 6 (by kernel_rfl) (Below.refl _ _) (Nat.le_refl _) alloc22 there22
          case hl => simp only [List.take_succ_cons, List.take_zero]; rfl
          case ht => simp only [List.drop_succ_cons, List.drop_zero]; rfl
          case hB => kernel_rfl
          case hT => kernel_rfl
          case hF => kernel_rfl
          case hS => kernel_rfl
          case h =>
            apply Exists.intro
            constructor
            case left =>
              intro N2 W2 q1 q2 q3
              have HQPb6_0 := (show Hid _ from Pb6_0_4.out.cl2 q1 q2)
              have HQPb7_0 := (show Hid _ from Pb7_0_4.out.cl2 q1 q2)
              have hne := Cl.ne N2 W2
              have HC1 : Hid (N2 ≤ W2.heap.size) := q3
              clear q1 q2 q3
              simp only [List.map_cons, List.map_nil, hush, isAl, beq_self_eq_true, if_true, Bool.false_eq_true, if_false]
              go_big_quiet_want
              refine quiet_load 22 _ rfl b6 0 rfl K34 _ HQPb6_0.out Try.underlying22 rfl LK34.out.i ?_
              simp only [Act.put, List.setIfInBounds_toArray, List.set_cons_zero, List.set_cons_succ]
              go_big_quiet_on
              go_big_quiet_want
              refine quiet_load 22 _ rfl b6 0 rfl K34 _ HQPb6_0.out Try.underlying22 rfl LK34.out.i ?_
              simp only [Act.put, List.setIfInBounds_toArray, List.set_cons_zero, List.set_cons_succ]
              go_big_quiet_on
              go_big_quiet_step ((go_at_call 15; exact cl_of (c_k40 _) HC1.out))
              go_big_quiet_want
              refine quiet_load 22 _ rfl b7 0 rfl K37 _ HQPb7_0.out Try.underlying22 rfl LK37.out.i ?_
              simp only [Act.put, List.setIfInBounds_toArray, List.set_cons_zero, List.set_cons_succ]
              go_big_quiet_on
              go_big_quiet_step ((go_at_call 18; exact cl_of (c_k42 _) HC1.out))
              go_big_quiet_step (fail)
              refine wpQuiet_nil ?_
              rfl
            case right =>
              intro g wv7 hb hf hd
              have h8 := hf 8 (by decide)
              clear hf hd
              simp only [putsT, List.foldl_cons, List.foldl_nil, Act.put, List.setIfInBounds_toArray, List.set_cons_zero, List.set_cons_succ]
              obtain ⟨b8, hb8⟩ : ∃ b, g 8 = b := ⟨_, rfl⟩
              rw [hb8] at h8 ⊢
              clear hb8 g
              have HT := (show Hid _ from one_box hb h8 LK42.out.l)
              have HT1 : Hid (wv7.there b8 0 K42.toArray.size) := by show World.there _ _ _ _; rw [List.size_toArray, LK42.out.l]; exact h8.2.2
              clear h8 hb
              go_wp2_with (first
                | (have hq := HT1; clear hq; refine wpList_store_mid rfl 22 (.tmp 8) (.tmp 42) rfl b8 0 K42.toArray rfl rfl HT1.out LK42.out.j LK42.out.o ?_; simp only [Act.put]; obtain ⟨wv8, hwv8⟩ : ∃ v, wv7.setCells b8 0 K42 = v := ⟨_, rfl⟩; rw [hwv8] at HT ⊢; clear hwv8; have hb := HT.out.2; have HB_5 := (show Hid (Below w.heap.size w wv8) from HB_4.out.trans (hb.mono HB_4.out.size)); have Pn_0_5 := (show Hid (Rp wv8 n 0 A0) from Pn_0_4.out.below hb); have Pn_32_5 := (show Hid (Rp wv8 n 32 A1) from Pn_32_4.out.below hb); have Pn_64_5 := (show Hid (Rp wv8 n 64 A2) from Pn_64_4.out.below hb); have Pb3_0_5 := (show Hid (Rp wv8 b3 0 K15) from Pb3_0_4.out.below hb); have Pb4_0_5 := (show Hid (Rp wv8 b4 0 K22) from Pb4_0_4.out.below hb); have Pb5_0_5 := (show Hid (Rp wv8 b5 0 K29) from Pb5_0_4.out.below hb); have Pb6_0_5 := (show Hid (Rp wv8 b6 0 K34) from Pb6_0_4.out.below hb); have Pb7_0_5 := (show Hid (Rp wv8 b7 0 K37) from Pb7_0_4.out.below hb); have AN_5 := (show Hid (Ao w.heap.size wv8 (n + 1) 96) from AN_4.out.below hb); have Pb8_0_5 := (show Hid (Rp wv8 b8 0 K42) from (HT.out.1).rp); clear HB_4 AN_4 Pn_0_4 Pn_32_4 Pn_64_4 Pb3_0_4 Pb4_0_4 Pb5_0_4 Pb6_0_4 Pb7_0_4 hb; have TK_5 := (show Hid True from trivial); clear TK_4 HT HT1 wv7))
              have HQPb5_0 := (show Hid _ from Pb5_0_5.out.cl)
              have HQPb8_0 := (show Hid _ from Pb8_0_5.out.cl)
              have HQPb4_0 := (show Hid _ from Pb4_0_5.out.cl)
              have HQPb3_0 := (show Hid _ from Pb3_0_5.out.cl)
              have HQPb7_0 := (show Hid _ from Pb7_0_5.out.cl)
              have hne := Cl.ne wv8.heap.size wv8
              apply region_cl_tail (N := wv8.heap.size) (W := wv8) 14 14 (by kernel_rfl) (Below.refl _ _)
              case hl => simp only [List.take_succ_cons, List.take_zero]; rfl
              case ht => simp only [List.drop_succ_cons, List.drop_zero]; rfl
              case hB => kernel_rfl
              case hT => kernel_rfl
              case h =>
                go_big_quiet_want
                refine quiet_load 22 _ rfl b5 0 rfl K29 _ HQPb5_0.out Try.underlying22 rfl LK29.out.i ?_
                simp only [Act.put, List.setIfInBounds_toArray, List.set_cons_zero, List.set_cons_succ]
                go_big_quiet_on
                go_big_quiet_want
                refine quiet_load 22 _ rfl b5 0 rfl K29 _ HQPb5_0.out Try.underlying22 rfl LK29.out.i ?_
                simp only [Act.put, List.setIfInBounds_toArray, List.set_cons_zero, List.set_cons_succ]
                go_big_quiet_on
                go_big_quiet_step ((go_at_call 15; exact cl_of (c_k45 _) (Nat.le_refl _)))
                go_big_quiet_want
                refine quiet_load 22 _ rfl b8 0 rfl K42 _ HQPb8_0.out Try.underlying22 rfl LK42.out.i ?_
                simp only [Act.put, List.setIfInBounds_toArray, List.set_cons_zero, List.set_cons_succ]
                go_big_quiet_on
                go_big_quiet_step ((go_at_call 20; exact cl_of (c_k47 _) (Nat.le_refl _)))
                go_big_quiet_want
                refine quiet_load 22 _ rfl b4 0 rfl K22 _ HQPb4_0.out Try.underlying22 rfl LK22.out.i ?_
                simp only [Act.put, List.setIfInBounds_toArray, List.set_cons_zero, List.set_cons_succ]
                go_big_quiet_on
                go_big_quiet_want
                refine quiet_load 22 _ rfl b3 0 rfl K15 _ HQPb3_0.out Try.underlying22 rfl LK15.out.i ?_
                simp only [Act.put, List.setIfInBounds_toArray, List.set_cons_zero, List.set_cons_succ]
                go_big_quiet_on
                go_big_quiet_step ((go_at_call 15; exact cl_of (c_k50 _) (Nat.le_refl _)))
                go_big_quiet_want
                refine quiet_load 22 _ rfl b7 0 rfl K37 _ HQPb7_0.out Try.underlying22 rfl LK37.out.i ?_
                simp only [Act.put, List.setIfInBounds_toArray, List.set_cons_zero, List.set_cons_succ]
                go_big_quiet_on
                go_big_quiet_step ((go_at_call 20; exact cl_of (c_k52 _) (Nat.le_refl _)))
                go_big_quiet_want
                refine quiet_build 43 _ rfl [(0, .agg K47.toArray), (1, .agg K52.toArray)] (by kernel_rfl) VP HBP.out ?_
                simp only [Act.put, List.setIfInBounds_toArray, List.set_cons_zero, List.set_cons_succ]
                go_big_quiet_on
                go_big_quiet_want
                refine quiet_load 22 _ rfl b7 0 rfl K37 _ HQPb7_0.out Try.underlying22 rfl LK37.out.i ?_
                simp only [Act.put, List.setIfInBounds_toArray, List.set_cons_zero, List.set_cons_succ]
                go_big_quiet_on
                go_big_quiet_want
                refine quiet_load 22 _ rfl b8 0 rfl K42 _ HQPb8_0.out Try.underlying22 rfl LK42.out.i ?_
                simp only [Act.put, List.setIfInBounds_toArray, List.set_cons_zero, List.set_cons_succ]
                go_big_quiet_on
                go_big_quiet_step ((go_at_call 20; exact cl_of (c_k56 _) (Nat.le_refl _)))
                refine wpQuiet_nil ?_
                rintro _ ⟨xq, rfl⟩
                have hb := xq.h
                have HBE := (show Hid (Below w.heap.size w xq.u) from HB_5.out.trans (hb.mono HB_5.out.size))
                have AE := (show Hid (Ao w.heap.size xq.u (n + 1) 96) from AN_5.out.below hb)
                have HTE : Hid (xq.u.there (n + 1) 0 VF.toArray.size) := by have e : VF.toArray.size = 96 := (List.size_toArray ..).trans HVL.out; show World.there _ _ _ _; rw [e]; exact AE.out.2.2
                have HI : Hid ((Try.prog.info? 84).map (·.size) = some VF.toArray.size) := by have e : VF.toArray.size = 96 := (List.size_toArray ..).trans HVL.out; show _ = _; rw [e]; exact info84
                clear hb
                go_wp2_with (first
                  | (refine build_to rfl 84 _ rfl (some 57) rfl [(0, .agg VP.toArray), (1, .agg K56.toArray)] (by kernel_rfl) VF HBF.out ?_; simp only [Act.put, List.setIfInBounds_toArray, List.set_cons_zero, List.set_cons_succ])
                  | (refine wpList_store_mid rfl 84 (.tmp 2) (.tmp 57) rfl (n + 1) 0 VF.toArray rfl rfl HTE.out HI.out HVO.out ?_; simp only [Act.put]))
                exact bodyPost_ret (results_cell Try.results104 rfl (run_loadVar_mid (P := Try.prog) _ (n + 1) 0 84 VF _ (World.rangeAt_setCells_same _ _ _ _ (by have e : VF.length = VF.toArray.size := (List.size_toArray ..).symm; rw [e]; exact HTE.out)) Try.underlying84 rfl (by have e : VF.length = VF.toArray.size := (List.size_toArray ..).symm; rw [e]; exact HI.out))) rfl ⟨rfl, below_setCells HBE.out AE.out.1⟩
end Fd
end Go.Proofs.Ytgdekigdbbldoaa

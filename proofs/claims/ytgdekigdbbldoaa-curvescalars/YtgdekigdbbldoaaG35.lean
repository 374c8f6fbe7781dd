/- What Low, MulAdd and Scalar do: contracts, by walking their texts. What Encode does: a contract, by walking its text. -/
import Derived.Test.YtgdekigdbbldoaaG34
import Derived.Test.YtgdekigdbbldoaaG29
import Derived.Test.YtgdekigdbbldoaaG18
import Derived.Test.YtgdekigdbbldoaaG31
namespace Go.Proofs.Ytgdekigdbbldoaa
open Go.RowKit
namespace Fd
open Rg

theorem L32.s {R : List Value} (h : L32 R) {N : Nat} {w : World} {b : Nat} (ha : Ao N w b 32) : w.there b 0 R.toArray.size := by rw [List.size_toArray, h.l]; exact ha.2.2
/-- The answer is read from its box. -/
theorem end22 {N : Nat} {w : World} {b : Nat} {R : List Value} (h : L32 R) (ha : Ao N w b 32) : (loadVar 22 ⟨b, 0, none⟩).run Try.prog (w.setCells b 0 R) = .ok (.agg R.toArray) (w.setCells b 0 R) :=
  run_loadVar_mid (P := Try.prog) _ b 0 22 R _ (World.rangeAt_setCells_same _ _ _ _ (by have := h.s ha; rwa [List.size_toArray] at this)) Try.underlying22 rfl h.i

set_option maxHeartbeats 400000 in
set_option maxRecDepth 4000 in
theorem low_any (x : Nat) (w : World) (hx : x < 115792089237316195423570985008687907853269984665640564039457584007913129639936) : Calls Try.prog 49 #[bv x] w fun e w' => e = .returned (.bool (decide (x < ell))) ∧ Below w.heap.size w w' := by
  have c1 := fun W => cwordsOf_any x W hx
  have c2 := fun W => lessOrder_any x W hx
  obtain ⟨d, hd⟩ : ∃ d, decide (x < ell) = d := ⟨_, rfl⟩
  obtain ⟨g0, g1, g2, g3, eg⟩ := nv_w ((x + 115792089237316195423570985008687907853269984665640564039457584007913129639936 - ell) % 115792089237316195423570985008687907853269984665640564039457584007913129639936)
  rw [hd, eg] at c2
  rw [hd]
  obtain ⟨v, hv⟩ : ∃ v, nv x = v := ⟨_, rfl⟩
  rw [hv] at c1 c2
  unfold w4 at c2
  unfold bv at c1 ⊢
  have HI : Hid ((Try.prog.info? 22).map (·.size) = some (bvc x).length) := info22l x
  have HS : Hid ((w.alloc (.cells (bvc x).toArray 22)).rangeAt w.heap.size 0 (bvc x)) := range_new _ _ _
  obtain ⟨R, hR⟩ : ∃ R, bvc x = R := ⟨_, rfl⟩
  rw [hR] at c1 HI HS ⊢
  clear hd hv hR hx eg
  have HB0 : Hid (Below w.heap.size w (w.alloc (.cells R.toArray 22))) := (Below.refl _ _).alloc (Nat.le_refl _) _
  go_enter Try.func49, Try.ntmps49
  go_wp2_with (first
    | (refine wpList_load_mid rfl 22 (.tmp 1) rfl w.heap.size 0 rfl R _ HS.out Try.underlying22 rfl HI.out ?_)
    | (go_at_call 90; refine (c1 _).mono ?_; rintro e w1 ⟨rfl, hb1⟩; have HB1 := (show Hid (Below w.heap.size w w1) from HB0.out.trans (hb1.mono HB0.out.size)); clear hb1 c1 HB0)
    | (go_at_call 89; refine (c2 _).mono ?_; rintro e w2 ⟨rfl, hb2⟩; have HB2 := (show Hid (Below w.heap.size w w2) from HB1.out.trans (hb2.mono HB1.out.size)); clear hb2 c2 HB1))
  exact bodyPost_ret (results_tmp Try.results49 _ _ _) rfl ⟨rfl, HB2.out.alloc HB2.out.size _⟩
/-- A number in a box, taken so often. -/
theorem many32 (x a b : Nat) (W : World) (hx : x < 115792089237316195423570985008687907853269984665640564039457584007913129639936) (ha : a < ell) (hr : W.rangeAt b 0 (bvc x)) (hb : b < W.heap.size) :
    Calls Try.prog 88 #[.slice (some ⟨b, 0, none⟩) 32 32, nv a] W fun e w' => e = .returned (nv (x * a % ell)) ∧ Below W.heap.size W w' := by
  have h := manyOf_any (some ⟨b, 0, none⟩) (Dt.bl x 32) 32 a W (.inr ⟨b, 0, rfl, hb, by rw [← Dt.bvc_bc]; exact hr⟩) (fun c hc => by
    unfold Dt.bl at hc
    obtain ⟨j, _, rfl⟩ := List.mem_map.1 hc
    exact Nat.mod_lt _ (by decide)) (by rw [Dt.bl_len]; decide) ha
  rw [Dt.bl_len, Dt.ofB_bl, Dt.b256, Nat.mod_eq_of_lt hx] at h
  exact h
theorem zero91_info : (Try.prog.info? 91).map (·.zero) = some (some (.agg (w4 0 0 0 0).toArray)) := by kernel_rfl
theorem zero91 (W : World) : (zeroValue 91).run Try.prog W = .ok (.agg (w4 0 0 0 0).toArray) W := by
  have h := zero91_info
  cases hq : Try.prog.info? 91 with
  | none => rw [hq] at h; cases h
  | some i =>
    have hz : i.zero = some (.agg (w4 0 0 0 0).toArray) := by simpa [hq] using h
    simp [zeroValue, typeInfo, hq, hz]
theorem alloc91 (ρ : Operand → Value) (o : Oper) (w : World) (h : isAl 91 o = true) : (execOp ρ o).run Try.prog w = .ok (.value (.pointer (some ⟨w.heap.size, 0, none⟩))) (w.alloc (.cells (w4 0 0 0 0).toArray 91)) := by
  obtain ⟨dst, op, type, pos, after, guard⟩ := o
  unfold isAl at h
  cases op <;> simp only [] at h <;> try cases h
  rename_i u
  have : u = 91 := by simpa using h
  subst this
  have hz := zero91
  go_simp
theorem there91 (w : World) : (w.alloc (.cells (w4 0 0 0 0).toArray 91)).there w.heap.size 0 4 := there_new w (w4 0 0 0 0).toArray 91 (m := 4) fun j hj => by simp [w4, hj]
/-- Three boxes of 32 bytes and the answer's. -/
theorem start3 (w : World) (X Y Z : List Value) :
    let e := (((w.alloc (.cells X.toArray 22)).alloc (.cells Y.toArray 22)).alloc (.cells Z.toArray 22)).alloc (.cells z22 22)
    Rp e w.heap.size 0 X ∧ Rp e (w.heap.size + 1) 0 Y ∧ Rp e (w.heap.size + 2) 0 Z ∧ Ao w.heap.size e (w.heap.size + 3) 32 ∧ Below w.heap.size w e := by
  intro e
  have s3 : (((w.alloc (.cells X.toArray 22)).alloc (.cells Y.toArray 22)).alloc (.cells Z.toArray 22)).heap.size = w.heap.size + 3 := by rw [size_alloc, size_alloc, size_alloc]
  have s4 : e.heap.size = w.heap.size + 4 := by show (World.alloc _ _).heap.size = _; rw [size_alloc, s3]
  have ht := there22 (((w.alloc (.cells X.toArray 22)).alloc (.cells Y.toArray 22)).alloc (.cells Z.toArray 22))
  rw [s3] at ht
  have r2 := range_new1 w (.cells X.toArray 22) Y 22
  have r3 := Rg.range_new ((w.alloc (.cells X.toArray 22)).alloc (.cells Y.toArray 22)) Z 22
  rw [size_alloc, size_alloc] at r3
  refine ⟨⟨World.rangeAt_alloc (World.rangeAt_alloc (World.rangeAt_alloc (Rg.range_new w X 22) _) _) _, by omega⟩, ⟨World.rangeAt_alloc (World.rangeAt_alloc r2 _) _, by omega⟩, ⟨World.rangeAt_alloc r3 _, by omega⟩, ⟨by omega, by omega, ht⟩, ?_⟩
  exact ((((Below.refl _ _).alloc (Nat.le_refl _) _).alloc (by simp) _).alloc (by simp; omega) _).alloc (by rw [s3]; omega) _

set_option maxHeartbeats 1000000 in
set_option maxRecDepth 4000 in
theorem mulAdd_any (x y z : Nat) (w : World) (hx : x < 115792089237316195423570985008687907853269984665640564039457584007913129639936) (hy : y < 115792089237316195423570985008687907853269984665640564039457584007913129639936) (hz : z < 115792089237316195423570985008687907853269984665640564039457584007913129639936) :
    Calls Try.prog 50 #[bv x, bv y, bv z] w fun e w' => e = .returned (bv ((x * y + z) % ell)) ∧ Below w.heap.size w w' := by
  have h1 : (1 : Nat) < ell := by decide
  have le : ∀ a, a % ell < ell := fun a => Nat.mod_lt _ (by decide)
  have e1 : x * (y * 1 % ell) % ell = x * y % ell := by rw [Nat.mul_one, Nat.mul_mod_mod]
  have e2 : (x * (y * 1 % ell) % ell + z * 1 % ell) % ell = (x * y + z) % ell := by rw [e1, Nat.mul_one, ← Nat.add_mod]
  obtain ⟨n, hn⟩ : ∃ n, w.heap.size = n := ⟨_, rfl⟩
  have c1 := fun W => many32 y 1 (n + 1) W hy h1
  have c2 := fun W => many32 x (y * 1 % ell) n W hx (le _)
  have c3 := fun W => many32 z 1 (n + 2) W hz h1
  have c4 := fun W => together_any (x * (y * 1 % ell) % ell) (z * 1 % ell) W (le _) (le _)
  rw [e2] at c4
  obtain ⟨r, hr⟩ : ∃ r, (x * y + z) % ell = r := ⟨_, rfl⟩
  rw [hr] at c4 ⊢
  have c5 := fun W => cbytesOf_any r W
  obtain ⟨g0, g1, g2, g3, eg⟩ := nv_w (x * (y * 1 % ell) % ell)
  rw [eg] at c2 c4
  obtain ⟨v1, hv1⟩ : ∃ v, nv (y * 1 % ell) = v := ⟨_, rfl⟩
  obtain ⟨v2, hv2⟩ : ∃ v, nv (z * 1 % ell) = v := ⟨_, rfl⟩
  obtain ⟨v3, hv3⟩ : ∃ v, nv r = v := ⟨_, rfl⟩
  rw [hv1] at c1 c2
  rw [hv2] at c3 c4
  rw [hv3] at c4 c5
  have e11 : nv 1 = .agg #[.int .u64 1, .int .u64 0, .int .u64 0, .int .u64 0] := rfl
  rw [e11] at c1 c3
  unfold w4 at c2 c4
  unfold bv at c5 ⊢
  have LX : Hid (L32 (bvc x)) := l32 x
  have LY : Hid (L32 (bvc y)) := l32 y
  have LZ : Hid (L32 (bvc z)) := l32 z
  have LR : Hid (L32 (bvc r)) := l32 r
  have HS0 := (show Hid _ from start3 w (bvc x) (bvc y) (bvc z))
  obtain ⟨X, hX⟩ : ∃ R, bvc x = R := ⟨_, rfl⟩
  obtain ⟨Y, hY⟩ : ∃ R, bvc y = R := ⟨_, rfl⟩
  obtain ⟨Z, hZ⟩ : ∃ R, bvc z = R := ⟨_, rfl⟩
  obtain ⟨R, hR⟩ : ∃ R, bvc r = R := ⟨_, rfl⟩
  rw [hX] at LX c2 HS0 ⊢
  rw [hY] at LY c1 HS0 ⊢
  rw [hZ] at LZ c3 HS0 ⊢
  rw [hR] at LR c5 ⊢
  clear hX hY hZ hR hv1 hv2 hv3 eg e1 e2 hr e11 h1 le hx hy hz
  have hz22 := zero22
  obtain ⟨Z2, hZ2⟩ : ∃ Z, z22 = Z := ⟨_, rfl⟩
  rw [hZ2] at hz22 HS0
  clear hZ2
  have HN : Hid (w.heap.size = n) := hn
  obtain ⟨we, hwe⟩ : ∃ v, (((w.alloc (.cells X.toArray 22)).alloc (.cells Y.toArray 22)).alloc (.cells Z.toArray 22)).alloc (.cells Z2 22) = v := ⟨_, rfl⟩
  have HS1 : Hid (Rp we n 0 X ∧ Rp we (n + 1) 0 Y ∧ Rp we (n + 2) 0 Z ∧ Ao w.heap.size we (n + 3) 32 ∧ Below w.heap.size w we) := by
    have h := HS0.out
    rw [hwe, HN.out] at h
    show _ ∧ _
    rw [HN.out]
    exact h
  clear HS0
  go_enter Try.func50, Try.ntmps50
  go_wp2
  clear hwe
  apply region_float (N := we.heap.size) (W := we) (ty := 91) [7] 6 6 (by kernel_rfl) (Below.refl _ _) (Nat.le_refl _) alloc91 there91
  case hl => simp only [List.take_succ_cons, List.take_zero]; rfl
  case ht => simp only [List.drop_succ_cons, List.drop_zero]; rfl
  case hB => kernel_rfl
  case hT => kernel_rfl
  case hF => kernel_rfl
  case hS => kernel_rfl
  case h =>
    apply Exists.intro
    constructor
    case left =>
      intro N2 W2 q1 q2 q3
      have HQX : Hid (∀ x : Cl N2 W2, x.u.rangeAt n 0 X ∧ n < x.u.heap.size) := fun x => ⟨HS1.out.1.cl2 q1 q2 _ ⟨x, rfl⟩, by have h1 := HS1.out.1.2; have h2 := x.h.size; omega⟩
      have HQY : Hid (∀ x : Cl N2 W2, x.u.rangeAt (n + 1) 0 Y ∧ n + 1 < x.u.heap.size) := fun x => ⟨HS1.out.2.1.cl2 q1 q2 _ ⟨x, rfl⟩, by have h1 := HS1.out.2.1.2; have h2 := x.h.size; omega⟩
      have hne := Cl.ne N2 W2
      have HC1 : Hid (N2 ≤ W2.heap.size) := q3
      clear q1 q2 q3
      simp only [List.map_cons, List.map_nil, hush, isAl, beq_self_eq_true, if_true, Bool.false_eq_true, if_false]
      go_big_quiet_step (fail)
      go_big_quiet_step (fail)
      go_big_quiet_step (fail)
      go_big_quiet_step ((go_at_call 88; exact cl_of (c1 _ (HQY.out _).1 (HQY.out _).2) HC1.out))
      go_big_quiet_step ((go_at_call 88; exact cl_of (c2 _ (HQX.out _).1 (HQX.out _).2) HC1.out))
      go_big_quiet_step (fail)
      refine wpQuiet_nil ?_
      rfl
    case right =>
      intro g' w2 hb hf hd
      have h7 := hf 7 (by decide)
      clear hf hd
      simp only [putsT, List.foldl_cons, List.foldl_nil, Act.put, List.setIfInBounds_toArray, List.set_cons_zero, List.set_cons_succ]
      obtain ⟨b7, hb7⟩ : ∃ b, g' 7 = b := ⟨_, rfl⟩
      rw [hb7] at h7 ⊢
      clear hb7 g'
      have HT7 : Hid (w2.there b7 0 4) := h7.2.2
      have hb3 : Below we.heap.size we (w2.setCells b7 0 (w4 g0 g1 g2 g3)) := below_setCells hb h7.1
      have HG : Hid (Rp (w2.setCells b7 0 (w4 g0 g1 g2 g3)) b7 0 (w4 g0 g1 g2 g3)) := ⟨World.rangeAt_setCells_same _ _ _ _ h7.2.2, by rw [size_setCells]; exact h7.2.1⟩
      have HZ3 : Hid (Rp (w2.setCells b7 0 (w4 g0 g1 g2 g3)) (n + 2) 0 Z) := HS1.out.2.2.1.below hb3
      have HA3 : Hid (Ao w.heap.size (w2.setCells b7 0 (w4 g0 g1 g2 g3)) (n + 3) 32) := HS1.out.2.2.2.1.below hb3
      have HB3 : Hid (Below w.heap.size w (w2.setCells b7 0 (w4 g0 g1 g2 g3))) := HS1.out.2.2.2.2.trans (hb3.mono HS1.out.2.2.2.2.size)
      clear h7 hb hb3 HS1 c1 c2
      go_wp2_with (refine wpList_store_mid rfl 91 (.tmp 7) (.tmp 12) rfl b7 0 (w4 g0 g1 g2 g3).toArray rfl rfl HT7.out info91 (one4 _ _ _ _) ?_; simp only [Act.put])
      obtain ⟨w3, hw3⟩ : ∃ v, w2.setCells b7 0 (w4 g0 g1 g2 g3) = v := ⟨_, rfl⟩
      rw [hw3] at HG HZ3 HA3 HB3 ⊢
      clear hw3 HT7
      have HQG := (show Hid _ from HG.out.cl)
      have HQZ : Hid (∀ x : Cl w3.heap.size w3, x.u.rangeAt (n + 2) 0 Z ∧ n + 2 < x.u.heap.size) := fun x => ⟨HZ3.out.cl _ ⟨x, rfl⟩, by have h1 := HZ3.out.2; have h2 := x.h.size; omega⟩
      have hne := Cl.ne w3.heap.size w3
      apply region_cl_tail (N := w3.heap.size) (W := w3) 6 6 (by kernel_rfl) (Below.refl _ _)
      case hl => simp only [List.take_succ_cons, List.take_zero]; rfl
      case ht => simp only [List.drop_succ_cons, List.drop_zero]; rfl
      case hB => kernel_rfl
      case hT => kernel_rfl
      case h =>
        go_big_quiet_want
        refine quiet_load 91 _ rfl b7 0 rfl (w4 g0 g1 g2 g3) _ HQG.out Try.underlying91 rfl info91 ?_
        simp only [w4, Act.put, List.setIfInBounds_toArray, List.set_cons_zero, List.set_cons_succ]
        go_big_quiet_on
        go_big_quiet_step (fail)
        go_big_quiet_step (fail)
        go_big_quiet_step ((go_at_call 88; exact cl_of (c3 _ (HQZ.out _).1 (HQZ.out _).2) (Nat.le_refl _)))
        go_big_quiet_step ((go_at_call 91; exact cl_of (c4 _) (Nat.le_refl _)))
        go_big_quiet_step ((go_at_call 87; exact cl_of (c5 _) (Nat.le_refl _)))
        refine wpQuiet_nil ?_
        rintro _ ⟨xq, rfl⟩
        have hb := xq.h
        have HBE := (show Hid (Below w.heap.size w xq.u) from HB3.out.trans (hb.mono HB3.out.size))
        have AE := (show Hid (Ao w.heap.size xq.u (n + 3) 32) from HA3.out.below hb)
        have HTE := (show Hid (xq.u.there (n + 3) 0 R.toArray.size) from LR.out.s AE.out)
        clear hb
        go_wp2_with (refine wpList_store_mid rfl 22 (.tmp 6) (.tmp 18) rfl (n + 3) 0 R.toArray rfl rfl HTE.out LR.out.j LR.out.o ?_; simp only)
        exact bodyPost_ret (results_cell Try.results50 rfl (end22 LR.out AE.out)) rfl ⟨rfl, below_setCells HBE.out AE.out.1⟩
/-- Scalar: more than 64 bytes are refused. -/
theorem build22_none : Try.prog.built 22 [] = some (bvc 0).toArray := by kernel_rfl
/-- The answer's box alone. -/
theorem start0 (w : World) : Ao w.heap.size (w.alloc (.cells z22 22)) w.heap.size 32 ∧ Below w.heap.size w (w.alloc (.cells z22 22)) :=
  ⟨⟨Nat.le_refl _, by rw [size_alloc]; omega, there22 w⟩, (Below.refl _ _).alloc (Nat.le_refl _) _⟩
set_option maxHeartbeats 400000 in
set_option maxRecDepth 4000 in
theorem scalar_long (A : Option Addr) (m cap : Nat) (w : World) (hm : 64 < m) :
    Calls Try.prog 48 #[.slice A m cap] w fun e w' => e = .returned (.tuple #[bv 0, .iface 35 (.int .i64 2)]) ∧ Below w.heap.size w w' := by
  unfold bv
  have LE : Hid (L32 (bvc 0)) := l32 0
  have HBN : Hid (Try.prog.built 22 [] = some (bvc 0).toArray) := build22_none
  obtain ⟨E, hE⟩ : ∃ V, bvc 0 = V := ⟨_, rfl⟩
  rw [hE] at LE HBN ⊢
  clear hE
  have HS := (show Hid _ from start0 w)
  have hz2 := zero22
  obtain ⟨Z2, hZ2⟩ : ∃ Z, z22 = Z := ⟨_, rfl⟩
  rw [hZ2] at hz2 HS
  clear hZ2
  have hm' : (64 : Int) < (m : Int) := by omega
  have HT := (show Hid _ from LE.out.s HS.out.1)
  go_enter Try.func48, Try.ntmps48
  go_wp2_with (first
    | (refine build_to rfl 22 _ rfl (some 7) rfl [] (by kernel_rfl) E HBN.out ?_; simp only [Act.put, List.setIfInBounds_toArray, List.set_cons_zero, List.set_cons_succ])
    | (refine wpList_store_mid rfl 22 (.tmp 2) (.tmp 7) rfl w.heap.size 0 E.toArray rfl rfl HT.out LE.out.j LE.out.o ?_; simp only))
  exact bodyPost_ret (res_ct Try.results48 rfl (end22 LE.out HS.out.1) rfl) rfl ⟨rfl, below_setCells HS.out.2 HS.out.1.1⟩
set_option maxHeartbeats 400000 in
set_option maxRecDepth 4000 in
theorem scalar_any (A : Option Addr) (L : List Nat) (cap : Nat) (w : World) (hA : Dt.Db w A L) (hL : ∀ b ∈ L, b < 256) (hlim : L.length ≤ 64) :
    Calls Try.prog 48 #[.slice A L.length cap] w fun e w' => e = .returned (.tuple #[bv (Dt.ofB L % ell), .nilIface]) ∧ Below w.heap.size w w' := by
  have hA2 : Dt.Db (w.alloc (.cells z22 22)) A L := by
    rcases hA with h | ⟨b, o, h1, h2, h3⟩
    · exact .inl h
    · exact .inr ⟨b, o, h1, by rw [size_alloc]; omega, World.rangeAt_alloc h3 _⟩
  have c1 := manyOf_any A L cap 1 _ hA2 hL (by omega) (by decide)
  rw [Nat.mul_one] at c1
  obtain ⟨r, hr⟩ : ∃ r, Dt.ofB L % ell = r := ⟨_, rfl⟩
  rw [hr] at c1 ⊢
  have c2 := fun W => cbytesOf_any r W
  obtain ⟨v, hv⟩ : ∃ v, nv r = v := ⟨_, rfl⟩
  rw [hv] at c1 c2
  have e11 : nv 1 = .agg #[.int .u64 1, .int .u64 0, .int .u64 0, .int .u64 0] := rfl
  rw [e11] at c1
  unfold bv at c2 ⊢
  have LR : Hid (L32 (bvc r)) := l32 r
  obtain ⟨R, hR⟩ : ∃ V, bvc r = V := ⟨_, rfl⟩
  rw [hR] at LR c2 ⊢
  have HS := (show Hid _ from start0 w)
  have hz2 := zero22
  obtain ⟨Z2, hZ2⟩ : ∃ Z, z22 = Z := ⟨_, rfl⟩
  rw [hZ2] at hz2 HS c1
  obtain ⟨m, hm⟩ : ∃ m, L.length = m := ⟨_, rfl⟩
  rw [hm] at c1 hlim ⊢
  have hm' : ¬ (64 : Int) < (m : Int) := by omega
  clear hZ2 hR hv hr hm hA hA2 hL e11
  go_enter Try.func48, Try.ntmps48
  go_wp2_with (first
    | (go_at_call 88; refine c1.mono ?_; rintro e w1 ⟨rfl, hb1⟩; have HA1 := (show Hid (Ao w.heap.size w1 w.heap.size 32) from HS.out.1.below hb1); have HB1 := (show Hid (Below w.heap.size w w1) from HS.out.2.trans (hb1.mono HS.out.2.size)); clear hb1 c1 HS)
    | (go_at_call 87; refine (c2 _).mono ?_; rintro e w2 ⟨rfl, hb2⟩; have HA2 := (show Hid (Ao w.heap.size w2 w.heap.size 32) from HA1.out.below hb2); have HB2 := (show Hid (Below w.heap.size w w2) from HB1.out.trans (hb2.mono HB1.out.size)); have HT2 := (show Hid _ from LR.out.s HA2.out); clear hb2 c2 HA1 HB1)
    | (refine wpList_store_mid rfl 22 (.tmp 2) (.tmp 12) rfl w.heap.size 0 R.toArray rfl rfl HT2.out LR.out.j LR.out.o ?_; simp only))
  exact bodyPost_ret (res_ct Try.results48 rfl (end22 LR.out HA2.out) rfl) rfl ⟨rfl, below_setCells HB2.out HA2.out.1⟩
end Fd
end Go.Proofs.Ytgdekigdbbldoaa

namespace Go.Proofs.Ytgdekigdbbldoaa
open Go.RowKit
namespace Fd
open Rg

/-- A point's bytes. -/
def encp (x y : Nat) : Nat := redp y + 57896044618658097711785492504343953926634992332820282019728792003956564819968 * (redp x % 2)
theorem redp_255 (y : Nat) : redp y < 57896044618658097711785492504343953926634992332820282019728792003956564819968 := Nat.lt_trans (Nat.mod_lt _ (by decide)) (by decide : p < _)
theorem by_enc (r m j : Nat) (hr : r < 57896044618658097711785492504343953926634992332820282019728792003956564819968) (hm : m < 2) (hj : j < 32) : upd (by_ r) 31 (by_ r 31 + 128 * m) j = by_ (r + 57896044618658097711785492504343953926634992332820282019728792003956564819968 * m) j := by
  unfold upd
  by_cases h : j = 31
  · subst h
    rw [if_pos rfl]
    have e : ∀ x, by_ x 31 = x / 452312848583266388373324160190187140051835877600158453279131187530910662656 % 256 := fun _ => rfl
    rw [e, e]
    omega
  · rw [if_neg h]
    unfold by_
    have e : 57896044618658097711785492504343953926634992332820282019728792003956564819968 * m = (2 ^ (247 - 8 * j) * m * 256) * 2 ^ (8 * j) := by
      have e3 : (57896044618658097711785492504343953926634992332820282019728792003956564819968 : Nat) = 2 ^ (247 - 8 * j) * 2 ^ 8 * 2 ^ (8 * j) := by
        rw [← Nat.pow_add, ← Nat.pow_add, show 247 - 8 * j + 8 + 8 * j = 255 by omega]
      rw [e3, show (2 : Nat) ^ 8 = 256 from rfl]
      ac_rfl
    rw [e, Nat.add_mul_div_right _ _ (Nat.two_pow_pos _), Nat.add_mul_mod_self_right]
theorem Cs.range {N : Nat} {w wr : World} {g : Nat} {M : Nat → Nat} (h : Cs .u8 32 N w wr g M) (x : Nat) (hM : ∀ j, j < 32 → M j = by_ x j) : wr.rangeAt g 0 (bvc x) := fun j v hv => by
  rw [Nat.zero_add]
  have hj : j < 32 := by
    have := (List.getElem?_eq_some_iff.1 hv).1
    rwa [bvc_len] at this
  rw [bvc_at x j hj] at hv
  rw [h.c j hj, ← hv, hM j hj]
/-- A box of a point, whole, and the answer's, 32 bytes. -/
theorem startp22 (w : World) (V : List Value) :
    let e := (w.alloc (.cells V.toArray 43)).alloc (.cells z22 22)
    Rp e w.heap.size 0 V ∧ Ao w.heap.size e (w.heap.size + 1) 32 ∧ Below w.heap.size w e := by
  intro e
  have ht := there22 (w.alloc (.cells V.toArray 43))
  rw [size_alloc] at ht
  refine ⟨Rp.below ⟨Rg.range_new w V 43, by rw [size_alloc]; omega⟩ ((Below.refl _ _).alloc (Nat.le_refl _) _), ⟨by omega, ?_, ht⟩, ((Below.refl _ _).alloc (Nat.le_refl _) _).alloc (by simp) _⟩
  show _ < (World.alloc _ _).heap.size
  rw [size_alloc, size_alloc]
  omega
/-- A box of 32 bytes that is written anew. -/
theorem cs_new (w W : World) (x : Nat) (hb : Below w.heap.size w W) : Cs .u8 32 w.heap.size w ((W.alloc (.cells z22 22)).setCells W.heap.size 0 (bvc x)) W.heap.size (by_ x) := by
  have h := box_new W (bvc x) (bvc_len x)
  refine ⟨hb.trans (h.2.mono hb.size), fun j hj => ?_, World.there_setCells (there22 W) _ _ _, hb.size, h.1.2⟩
  have h2 := h.1.1 j _ (bvc_at x j hj)
  rwa [Nat.zero_add] at h2

set_option maxHeartbeats 400000 in
set_option maxRecDepth 4000 in
theorem encode_no (x y : Nat) (w : World) (hx : x < 115792089237316195423570985008687907853269984665640564039457584007913129639936) (hy : y < 115792089237316195423570985008687907853269984665640564039457584007913129639936) (hon : ¬ OnC x y) :
    Calls Try.prog 45 #[pv x y] w fun e w' => e = .returned (.tuple #[bv 0, .iface 35 (.int .i64 29)]) ∧ Below w.heap.size w w' := by
  have ci := fun W => is_any x y W hx hy
  rw [decide_eq_false hon] at ci
  unfold pv at ci ⊢
  unfold bv
  have LV : Hid (L64 (bvc x ++ bvc y)) := l64 x y
  have LE : Hid (L32 (bvc 0)) := l32 0
  have HBN : Hid (Try.prog.built 22 [] = some (bvc 0).toArray) := build22_none
  obtain ⟨V, hV⟩ : ∃ V, bvc x ++ bvc y = V := ⟨_, rfl⟩
  obtain ⟨E, hE⟩ : ∃ V, bvc 0 = V := ⟨_, rfl⟩
  rw [hV] at LV ci ⊢
  rw [hE] at LE HBN ⊢
  clear hV hE hx hy hon x y
  have HS := (show Hid _ from startp22 w V)
  have hz2 := zero22
  obtain ⟨Z2, hZ2⟩ : ∃ Z, z22 = Z := ⟨_, rfl⟩
  rw [hZ2] at hz2 HS
  clear hZ2
  obtain ⟨n, hn⟩ : ∃ n, w.heap.size = n := ⟨_, rfl⟩
  have HN : Hid (w.heap.size = n) := hn
  have HS1 : Hid (Rp ((w.alloc (.cells V.toArray 43)).alloc (.cells Z2 22)) n 0 V ∧ Ao w.heap.size ((w.alloc (.cells V.toArray 43)).alloc (.cells Z2 22)) (n + 1) 32 ∧ Below w.heap.size w ((w.alloc (.cells V.toArray 43)).alloc (.cells Z2 22))) := by
    have h := HS.out
    rw [HN.out] at h
    show _ ∧ _
    rw [HN.out]
    exact h
  clear HS
  go_enter Try.func45, Try.ntmps45
  go_wp2_with (first
    | (refine wpList_load_mid rfl 43 (.tmp 1) rfl n 0 rfl V _ HS1.out.1.1 Try.underlying43 rfl LV.out.i ?_)
    | (go_at_call 29; refine (ci _).mono ?_; rintro e w1 ⟨rfl, hb1⟩; have HA1 := (show Hid (Ao w.heap.size w1 (n + 1) 32) from HS1.out.2.1.below hb1); have HB1 := (show Hid (Below w.heap.size w w1) from HS1.out.2.2.trans (hb1.mono HS1.out.2.2.size)); have HT1 := (show Hid _ from LE.out.s HA1.out); clear hb1 ci HS1)
    | (refine build_to rfl 22 _ rfl (some 8) rfl [] (by kernel_rfl) E HBN.out ?_; simp only [Act.put, List.setIfInBounds_toArray, List.set_cons_zero, List.set_cons_succ])
    | (refine wpList_store_mid rfl 22 (.tmp 2) (.tmp 8) rfl (n + 1) 0 E.toArray rfl rfl HT1.out LE.out.j LE.out.o ?_; simp only))
  exact bodyPost_ret (res_ct Try.results45 rfl (end22 LE.out HA1.out) rfl) rfl ⟨rfl, below_setCells HB1.out HA1.out.1⟩

set_option maxHeartbeats 1000000 in
set_option maxRecDepth 4000 in
theorem encode_ok (x y : Nat) (w : World) (hx : x < 115792089237316195423570985008687907853269984665640564039457584007913129639936) (hy : y < 115792089237316195423570985008687907853269984665640564039457584007913129639936) (hon : OnC x y) :
    Calls Try.prog 45 #[pv x y] w fun e w' => e = .returned (.tuple #[bv (encp x y), .nilIface]) ∧ Below w.heap.size w w' := by
  have ci := fun W => is_any x y W hx hy
  have cy := fun W => reduce_any y W hy
  have cx := fun W => reduce_any x W hx
  rw [decide_eq_true hon] at ci
  have hb0 : by_ (x % p) 0 < 256 := Nat.mod_lt _ (by decide)
  have hp0 : by_ (x % p) 0 % 2 = redp x % 2 := by
    have e : by_ (x % p) 0 = x % p / 1 % 256 := rfl
    rw [e, Nat.div_one]
    unfold redp
    omega
  have hm2 : redp x % 2 < 2 := Nat.mod_lt _ (by decide)
  have hb31 : by_ (y % p) 31 < 128 := by
    have e : by_ (y % p) 31 = y % p / 452312848583266388373324160190187140051835877600158453279131187530910662656 % 256 := rfl
    have h := redp_255 y
    unfold redp at h
    rw [e]
    omega
  have HEN : Hid (∀ j, j < 32 → upd (by_ (y % p)) 31 (by_ (y % p) 31 + 128 * (redp x % 2)) j = by_ (encp x y) j) := fun j hj => by_enc (y % p) (redp x % 2) j (redp_255 y) hm2 hj
  have hix : ∀ W : World, (Instr.index 22 (.agg (bvc (x % p)).toArray) (.int .i64 0)).run Try.prog W = .ok (.int .u8 ((by_ (x % p) 0 : Nat) : Int)) W := fun W => index22 _ 0 _ (by decide) (by rw [List.getElem?_toArray]; exact bvc_at _ 0 (by decide)) W
  have f1 := and1b (by_ (x % p) 0) hb0
  rw [hp0] at f1
  obtain ⟨m, hm⟩ : ∃ m, redp x % 2 = m := ⟨_, rfl⟩
  rw [hm] at f1 HEN hm2
  have f2 : bits .or .u8 ((by_ (y % p) 31 : Nat) : Int) ((128 * m : Nat) : Int) = ((by_ (y % p) 31 + 128 * m : Nat) : Int) := by
    rw [u8_or_nat _ _ (by omega) (by omega)]
    have h := Nat.shiftLeft_add_eq_or_of_lt (i := 7) (b := by_ (y % p) 31) hb31 m
    rw [Nat.shiftLeft_eq] at h
    have e7 : (2 : Nat) ^ 7 = 128 := rfl
    rw [e7, Nat.mul_comm m 128] at h
    rw [Nat.or_comm, ← h, Nat.add_comm]
  have f3 : (m : Int) * 128 = ((128 * m : Nat) : Int) := by omega
  have f4 : IntKind.u8.wrap ((128 * m : Nat) : Int) = ((128 * m : Nat) : Int) := by rw [IntKind.wrap_u8]; omega
  have HCN : Hid (∀ W : World, Below w.heap.size w W → Cs .u8 32 w.heap.size w ((W.alloc (.cells z22 22)).setCells W.heap.size 0 (bvc (y % p))) W.heap.size (by_ (y % p))) := fun W h => cs_new w W (y % p) h
  unfold pv at ci ⊢
  unfold bv at cx cy ⊢
  have LV : Hid (L64 (bvc x ++ bvc y)) := l64 x y
  have LX : Hid (L32 (bvc x)) := l32 x
  have LY : Hid (L32 (bvc y)) := l32 y
  have LR : Hid (L32 (bvc (y % p))) := l32 _
  have LE : Hid (L32 (bvc (encp x y))) := l32 _
  have HRA : Hid (∀ {W : World} {g : Nat} {M : Nat → Nat}, Cs .u8 32 w.heap.size w W g M → (∀ j, j < 32 → M j = by_ (encp x y) j) → W.rangeAt g 0 (bvc (encp x y))) := fun h1 h2 => h1.range _ h2
  have HS := (show Hid _ from startp22 w (bvc x ++ bvc y))
  have HPX : Hid (∀ {W : World} {b : Nat}, W.rangeAt b 0 (bvc x ++ bvc y) → W.rangeAt b 0 (bvc x) ∧ W.rangeAt b 32 (bvc y)) := fun {W b} h => ⟨range_left h, by have h2 := range_right (m := 32) h (bvc_len x); rwa [Nat.zero_add] at h2⟩
  obtain ⟨V, hV⟩ : ∃ V, bvc x ++ bvc y = V := ⟨_, rfl⟩
  obtain ⟨X, hX⟩ : ∃ V, bvc x = V := ⟨_, rfl⟩
  obtain ⟨Y, hY⟩ : ∃ V, bvc y = V := ⟨_, rfl⟩
  obtain ⟨R, hR⟩ : ∃ V, bvc (y % p) = V := ⟨_, rfl⟩
  obtain ⟨S, hS⟩ : ∃ V, bvc (x % p) = V := ⟨_, rfl⟩
  obtain ⟨E, hE⟩ : ∃ V, bvc (encp x y) = V := ⟨_, rfl⟩
  rw [hV] at LV ci HS HPX ⊢
  rw [hX] at LX cx HPX
  rw [hY] at LY cy HPX
  rw [hR] at LR cy HCN
  rw [hS] at cx hix
  rw [hE] at LE HRA ⊢
  obtain ⟨b0, hbb⟩ : ∃ b, by_ (x % p) 0 = b := ⟨_, rfl⟩
  rw [hbb] at f1 hix
  obtain ⟨B, hB⟩ : ∃ b, by_ (y % p) = b := ⟨_, rfl⟩
  rw [hB] at f2 HCN HEN
  obtain ⟨e, he⟩ : ∃ e, encp x y = e := ⟨_, rfl⟩
  rw [he] at HEN HRA
  obtain ⟨b31, hb3⟩ : ∃ b, B 31 = b := ⟨_, rfl⟩
  have HB31 : Hid (B 31 = b31) := hb3
  rw [hb3] at f2 HEN
  obtain ⟨v, hv⟩ : ∃ b, b31 + 128 * m = b := ⟨_, rfl⟩
  rw [hv] at f2 HEN
  obtain ⟨u, hu⟩ : ∃ b, 128 * m = b := ⟨_, rfl⟩
  rw [hu] at f2 f3 f4
  clear hV hX hY hR hS hE hbb hB he hb3 hv hu hm hx hy hon hb0 hp0 hb31
  have hz2 := zero22
  obtain ⟨Z2, hZ2⟩ : ∃ Z, z22 = Z := ⟨_, rfl⟩
  rw [hZ2] at hz2 HS HCN
  have HLT : Hid (∀ W : World, (W.alloc (.cells Z2 22)).there W.heap.size 0 R.toArray.size) := by rw [← hZ2]; exact LR.out.t
  clear hZ2
  obtain ⟨n, hn⟩ : ∃ n, w.heap.size = n := ⟨_, rfl⟩
  have HN : Hid (w.heap.size = n) := hn
  have HS1 : Hid (Rp ((w.alloc (.cells V.toArray 43)).alloc (.cells Z2 22)) n 0 V ∧ Ao w.heap.size ((w.alloc (.cells V.toArray 43)).alloc (.cells Z2 22)) (n + 1) 32 ∧ Below w.heap.size w ((w.alloc (.cells V.toArray 43)).alloc (.cells Z2 22))) := by
    have h := HS.out
    rw [HN.out] at h
    show _ ∧ _
    rw [HN.out]
    exact h
  clear HS
  go_enter Try.func45, Try.ntmps45
  go_wp2_with (first
    | (refine wpList_load_mid rfl 43 (.tmp 1) rfl n 0 rfl V _ HS1.out.1.1 Try.underlying43 rfl LV.out.i ?_)
    | (go_at_call 29; refine (ci _).mono ?_; rintro e' w1 ⟨rfl, hb1⟩; have HR1 := (show Hid (Rp w1 n 0 V) from HS1.out.1.below hb1); have HA1 := (show Hid (Ao w.heap.size w1 (n + 1) 32) from HS1.out.2.1.below hb1); have HB1 := (show Hid (Below w.heap.size w w1) from HS1.out.2.2.trans (hb1.mono HS1.out.2.2.size)); clear hb1 ci HS1)
    | (refine wpList_load_mid rfl 22 (.tmp 10) rfl n 32 rfl Y _ (HPX.out HR1.out.1).2 Try.underlying22 rfl LY.out.i ?_)
    | (go_at_call 22; refine (cy _).mono ?_; rintro e' w2 ⟨rfl, hb2⟩; have HR2 := (show Hid (Rp w2 n 0 V) from HR1.out.below hb2); have HA2 := (show Hid (Ao w.heap.size w2 (n + 1) 32) from HA1.out.below hb2); have HB2 := (show Hid (Below w.heap.size w w2) from HB1.out.trans (hb2.mono HB1.out.size)); clear hb2 cy HR1 HA1 HB1)
    | (refine wpList_store_mid rfl 22 (.tmp 4) (.tmp 12) rfl w2.heap.size 0 R.toArray rfl rfl (HLT.out _) LR.out.j LR.out.o ?_; simp only [Act.put]))
  have hb3 : Below w2.heap.size w2 ((w2.alloc (.cells Z2 22)).setCells w2.heap.size 0 R) := below_setCells ((Below.refl _ _).alloc (Nat.le_refl _) _) (Nat.le_refl _)
  have HC3 : Hid _ := HCN.out w2 HB2.out
  have HR3 := (show Hid (Rp ((w2.alloc (.cells Z2 22)).setCells w2.heap.size 0 R) n 0 V) from HR2.out.below hb3)
  have HA3 := (show Hid (Ao w.heap.size ((w2.alloc (.cells Z2 22)).setCells w2.heap.size 0 R) (n + 1) 32) from HA2.out.below hb3)
  have HNE : Hid (w2.heap.size ≠ n + 1) := by have := HA2.out.2.1; show _ ≠ _; omega
  obtain ⟨k, hk⟩ : ∃ k, w2.heap.size = k := ⟨_, rfl⟩
  rw [hk] at HC3 HNE
  rw [hk] at HR3 HA3 ⊢
  obtain ⟨w3, hw3⟩ : ∃ v, (w2.alloc (.cells Z2 22)).setCells k 0 R = v := ⟨_, rfl⟩
  rw [hw3] at HC3 HR3 HA3 ⊢
  clear hk hw3 hb3 HR2 HA2 HB2 HCN
  have pk := HC3.out.c 31 (by decide)
  rw [HB31.out] at pk
  have q31 : ∀ x : Cl w3.heap.size w3, x.u.cell? ⟨k, 31, none⟩ = some (.int .u8 (b31 : Int)) := fun x => x.cell pk HC3.out.l.2
  have HQX : Hid (∀ w', (∃ x : Cl w3.heap.size w3, w' = x.u) → w'.rangeAt n 0 X) := fun w' h => (HPX.out (HR3.out.cl w' h)).1
  have hne := Cl.ne w3.heap.size w3
  clear pk
  apply region_cl_tail (N := w3.heap.size) (W := w3) 10 10 (by kernel_rfl) (Below.refl _ _)
  case hl => simp only [List.take_succ_cons, List.take_zero]; rfl
  case ht => simp only [List.drop_succ_cons, List.drop_zero]; rfl
  case hB => kernel_rfl
  case hT => kernel_rfl
  case h =>
    go_big_quiet_step (fail)
    go_big_quiet_step (fail)
    go_big_quiet_step (fail)
    go_big_quiet_want
    refine quiet_load 22 _ rfl n 0 rfl X _ HQX.out Try.underlying22 rfl LX.out.i ?_
    simp only [Act.put, List.setIfInBounds_toArray, List.set_cons_zero, List.set_cons_succ]
    go_big_quiet_on
    go_big_quiet_step ((go_at_call 22; exact cl_of (cx _) (Nat.le_refl _)))
    repeat (go_big_quiet_step (fail))
    refine wpQuiet_nil ?_
    rintro _ ⟨xq, rfl⟩
    have hb := xq.h
    have HC4 := (show Hid (Cs .u8 32 w.heap.size w xq.u k B) from HC3.out.below hb)
    have HA4 := (show Hid (Ao w.heap.size xq.u (n + 1) 32) from HA3.out.below hb)
    obtain ⟨w5, hw5⟩ : ∃ v, xq.u = v := ⟨_, rfl⟩
    rw [hw5] at HC4 HA4 ⊢
    clear hw5 q31 hb xq hne HQX HC3 HA3 HR3 cx hix f1 f2 f3 f4
    have r0 := HC4.out.c 31 (by decide)
    have r1 := (HC4.out.t 31 (by decide)).2
    simp only [Nat.zero_add] at r1
    have HC5 := (show Hid (Cs .u8 32 w.heap.size w (w5.setCell ⟨k, 31, none⟩ (.int .u8 (v : Int))) k (upd B 31 v)) from HC4.out.set (by decide) v)
    have HE5 := (show Hid ((w5.setCell ⟨k, 31, none⟩ (.int .u8 (v : Int))).rangeAt k 0 E) from HRA.out HC5.out HEN.out)
    have HA5 : Hid (Ao w.heap.size (w5.setCell ⟨k, 31, none⟩ (.int .u8 (v : Int))) (n + 1) 32) := ⟨HA4.out.1, by simpa using HA4.out.2.1, World.there_setCells (vs := [.int .u8 (v : Int)]) HA4.out.2.2 k 31⟩
    have HT5 := (show Hid _ from LE.out.s HA5.out)
    clear HC4 HA4 HRA HEN
    go_wp2_with (first
      | (refine wpList_load_mid rfl 22 (.tmp 4) rfl k 0 rfl E _ HE5.out Try.underlying22 rfl LE.out.i ?_)
      | (refine wpList_store_mid rfl 22 (.tmp 2) (.tmp 23) rfl (n + 1) 0 E.toArray rfl rfl HT5.out LE.out.j LE.out.o ?_; simp only))
    exact bodyPost_ret (res_ct Try.results45 rfl (end22 LE.out HA5.out) rfl) rfl ⟨rfl, below_setCells HC5.out.b HA5.out.1⟩
end Fd
end Go.Proofs.Ytgdekigdbbldoaa

/- What Is does: a contract, by walking its text. The reference's ratio, D, on and xOf: contracts, by walking their texts. -/
import Derived.Test.YtgdekigdbbldoaaG27
import Derived.Test.YtgdekigdbbldoaaG25
namespace Go.Proofs.Ytgdekigdbbldoaa
open Go.RowKit
namespace Fd
open Rg

/-- A point lies on the curve. -/
def OnC (x y : Nat) : Prop := (y * y % p % p + p - x * x % p % p) % p = (cone % p + factor * (x * x % p * (y * y % p) % p) % p % p) % p
instance (x y : Nat) : Decidable (OnC x y) := inferInstanceAs (Decidable (_ = _))
theorem cl2 {N N2 : Nat} {W W2 : World} (h1 : N ≤ N2) (h2 : Below N W W2) {b o : Nat} {R : List Value} (h : W.rangeAt b o R) (hb : b < N) : ∀ w', (∃ x : Cl N2 W2, w' = x.u) → w'.rangeAt b o R := fun _ ⟨x, hx⟩ => hx ▸ x.range (Rg.Below.range h2 h hb) (Nat.lt_of_lt_of_le hb h1)

set_option maxHeartbeats 2000000 in
set_option maxRecDepth 4000 in
theorem is_any (x y : Nat) (w : World) (hx : x < 115792089237316195423570985008687907853269984665640564039457584007913129639936) (hy : y < 115792089237316195423570985008687907853269984665640564039457584007913129639936) :
    Calls Try.prog 29 #[pv x y] w fun e w' => e = .returned (.bool (decide (OnC x y))) ∧ Below w.heap.size w w' := by
  have hpp : p < 115792089237316195423570985008687907853269984665640564039457584007913129639936 := by decide
  have HE : Hid (decide (OnC x y) = decide ((y * y % p % p + p - x * x % p % p) % p = (cone % p + factor * (x * x % p * (y * y % p) % p) % p % p) % p)) := rfl
  rw [HE.out]
  clear HE
  obtain ⟨r, hr⟩ : ∃ r, x * x % p = r := ⟨_, rfl⟩
  obtain ⟨s, hs⟩ : ∃ r, y * y % p = r := ⟨_, rfl⟩
  have hrl : r < 115792089237316195423570985008687907853269984665640564039457584007913129639936 := hr ▸ Nat.lt_trans (Nat.mod_lt _ (by decide)) hpp
  have hsl : s < 115792089237316195423570985008687907853269984665640564039457584007913129639936 := hs ▸ Nat.lt_trans (Nat.mod_lt _ (by decide)) hpp
  rw [hr, hs]
  obtain ⟨m, hm⟩ : ∃ m, r * s % p = m := ⟨_, rfl⟩
  have hml : m < 115792089237316195423570985008687907853269984665640564039457584007913129639936 := hm ▸ Nat.lt_trans (Nat.mod_lt _ (by decide)) hpp
  rw [hm]
  obtain ⟨g, hg⟩ : ∃ g, factor * m % p = g := ⟨_, rfl⟩
  have hgl : g < 115792089237316195423570985008687907853269984665640564039457584007913129639936 := hg ▸ Nat.lt_trans (Nat.mod_lt _ (by decide)) hpp
  rw [hg]
  obtain ⟨t, ht⟩ : ∃ t, (cone % p + g % p) % p = t := ⟨_, rfl⟩
  have htl : t < 115792089237316195423570985008687907853269984665640564039457584007913129639936 := ht ▸ Nat.lt_trans (Nat.mod_lt _ (by decide)) hpp
  obtain ⟨u, hu⟩ : ∃ u, (s % p + p - r % p) % p = u := ⟨_, rfl⟩
  have hul : u < 115792089237316195423570985008687907853269984665640564039457584007913129639936 := hu ▸ Nat.lt_trans (Nat.mod_lt _ (by decide)) hpp
  rw [ht, hu]
  have c1 : ∀ W : World, Calls Try.prog 20 #[.agg (bvc x).toArray, .agg (bvc x).toArray] W fun e w' => e = .returned (.agg (bvc r).toArray) ∧ Below W.heap.size W w' := fun W => by have h := mul_any x x W hx hx; rw [hr] at h; exact h
  have c2 : ∀ W : World, Calls Try.prog 20 #[.agg (bvc y).toArray, .agg (bvc y).toArray] W fun e w' => e = .returned (.agg (bvc s).toArray) ∧ Below W.heap.size W w' := fun W => by have h := mul_any y y W hy hy; rw [hs] at h; exact h
  have c3 : ∀ W : World, Calls Try.prog 18 #[.agg (bvc s).toArray, .agg (bvc r).toArray] W fun e w' => e = .returned (.agg (bvc u).toArray) ∧ Below W.heap.size W w' := fun W => by have h := sub_any s r W hsl hrl; rw [hu] at h; exact h
  have c4 : ∀ W : World, Calls Try.prog 75 #[] W fun e w' => e = .returned (.agg (bvc cone).toArray) ∧ Below W.heap.size W w' := fun W => cone_any W
  have c5 : ∀ W : World, Calls Try.prog 76 #[] W fun e w' => e = .returned (.agg (bvc factor).toArray) ∧ Below W.heap.size W w' := fun W => factor_any W
  have c6 : ∀ W : World, Calls Try.prog 20 #[.agg (bvc r).toArray, .agg (bvc s).toArray] W fun e w' => e = .returned (.agg (bvc m).toArray) ∧ Below W.heap.size W w' := fun W => by have h := mul_any r s W hrl hsl; rw [hm] at h; exact h
  have c7 : ∀ W : World, Calls Try.prog 20 #[.agg (bvc factor).toArray, .agg (bvc m).toArray] W fun e w' => e = .returned (.agg (bvc g).toArray) ∧ Below W.heap.size W w' := fun W => by have h := mul_any factor m W (by decide) hml; rw [hg] at h; exact h
  have c8 : ∀ W : World, Calls Try.prog 15 #[.agg (bvc cone).toArray, .agg (bvc g).toArray] W fun e w' => e = .returned (.agg (bvc t).toArray) ∧ Below W.heap.size W w' := fun W => by have h := add_any cone g W (by decide) hgl; rw [ht] at h; exact h
  have ceq : ∀ W : World, (Op.equalIn 10000 22 (.agg (bvc u).toArray) (.agg (bvc t).toArray)).run Try.prog W = .ok (decide (u = t)) W := fun W => eq22 u t W hul htl
  unfold pv
  have LX : Hid (L32 (bvc x)) := l32 x
  have LY : Hid (L32 (bvc y)) := l32 y
  have LR : Hid (L32 (bvc r)) := l32 r
  have LS : Hid (L32 (bvc s)) := l32 s
  have LU : Hid (L32 (bvc u)) := l32 u
  have LO : Hid (L32 (bvc cone)) := l32 cone
  have LF : Hid (L32 (bvc factor)) := l32 factor
  have LM : Hid (L32 (bvc m)) := l32 m
  have LG : Hid (L32 (bvc g)) := l32 g
  have LT : Hid (L32 (bvc t)) := l32 t
  clear hx hy hrl hsl hml hgl htl hul hr hs hm hg ht hu hpp
  obtain ⟨X, hX⟩ : ∃ Z, bvc x = Z := ⟨_, rfl⟩
  obtain ⟨Y, hY⟩ : ∃ Z, bvc y = Z := ⟨_, rfl⟩
  obtain ⟨R, hR⟩ : ∃ Z, bvc r = Z := ⟨_, rfl⟩
  obtain ⟨S, hS⟩ : ∃ Z, bvc s = Z := ⟨_, rfl⟩
  obtain ⟨U, hU⟩ : ∃ Z, bvc u = Z := ⟨_, rfl⟩
  obtain ⟨O, hO⟩ : ∃ Z, bvc cone = Z := ⟨_, rfl⟩
  obtain ⟨F, hF⟩ : ∃ Z, bvc factor = Z := ⟨_, rfl⟩
  obtain ⟨M, hM⟩ : ∃ Z, bvc m = Z := ⟨_, rfl⟩
  obtain ⟨G, hG⟩ : ∃ Z, bvc g = Z := ⟨_, rfl⟩
  obtain ⟨T, hT⟩ : ∃ Z, bvc t = Z := ⟨_, rfl⟩
  rw [hX] at LX c1
  rw [hY] at LY c2
  rw [hR] at LR c1 c3 c6
  rw [hS] at LS c2 c3 c6
  rw [hU] at LU c3 ceq
  rw [hO] at LO c4 c8
  rw [hF] at LF c5 c7
  rw [hM] at LM c6 c7
  rw [hG] at LG c7 c8
  rw [hT] at LT c8 ceq
  rw [hX, hY]
  clear hX hY hR hS hU hO hF hM hG hT
  obtain ⟨n, hn⟩ : ∃ n, w.heap.size = n := ⟨_, rfl⟩
  have HR : Hid ((w.alloc (.cells (X ++ Y).toArray 43)).rangeAt n 0 (X ++ Y)) := by show World.rangeAt _ _ _ _; rw [← hn]; exact Rg.range_new w (X ++ Y) 43
  have HLn : Hid ((w.alloc (.cells (X ++ Y).toArray 43)).heap.size = n + 1) := by show _ = _; rw [size_alloc, hn]
  have HBW : Hid (Below n w (w.alloc (.cells (X ++ Y).toArray 43))) := (Below.refl _ _).alloc (by omega) _
  have HN : Hid (w.heap.size = n) := hn
  obtain ⟨V, hV⟩ : ∃ V, X ++ Y = V := ⟨_, rfl⟩
  rw [hV] at HR HLn HBW ⊢
  have HV : Hid (X ++ Y = V) := hV
  clear hV
  go_enter Try.func29, Try.ntmps29
  go_wp2
  obtain ⟨w1, hw1⟩ : ∃ v, w.alloc (.cells V.toArray 43) = v := ⟨_, rfl⟩
  rw [hw1] at HR HLn HBW ⊢
  clear hw1
  have HRX : Hid (w1.rangeAt n 0 X) := range_left (by rw [HV.out]; exact HR.out)
  have HRY : Hid (w1.rangeAt n 32 Y) := by have h := range_right (m := 32) (X := X) (Y := Y) (o := 0) (by rw [HV.out]; exact HR.out) LX.out.l; rwa [Nat.zero_add] at h
  apply region_float (N := w1.heap.size) (W := w1) (ty := 22) [3, 4] 12 12 (by kernel_rfl) (Below.refl _ _) (Nat.le_refl _) alloc22 there22
  case hl => simp only [List.take_succ_cons, List.take_zero]; rfl
  case ht => simp only [List.drop_succ_cons, List.drop_zero]; rfl
  case hB => kernel_rfl
  case hT => kernel_rfl
  case hF => kernel_rfl
  case hS => kernel_rfl
  case h =>
    apply Exists.intro
    constructor
    case left =>
      intro N2 W2 q1 q2 q3
      have HQX : Hid (∀ w', (∃ x : Cl N2 W2, w' = x.u) → w'.rangeAt n 0 X) := cl2 q1 q2 HRX.out (by have := HLn.out; omega)
      have HQY : Hid (∀ w', (∃ x : Cl N2 W2, w' = x.u) → w'.rangeAt n 32 Y) := cl2 q1 q2 HRY.out (by have := HLn.out; omega)
      have hne := Cl.ne N2 W2
      have HC1 : Hid (N2 ≤ W2.heap.size) := q3
      clear q1 q2 q3
      simp only [List.map_cons, List.map_nil, hush, isAl, beq_self_eq_true, if_true, Bool.false_eq_true, if_false]
      go_big_quiet_step (fail)
      go_big_quiet_want
      refine quiet_load 22 _ rfl n 0 rfl X _ HQX.out Try.underlying22 rfl LX.out.i ?_
      simp only [Act.put, List.setIfInBounds_toArray, List.set_cons_zero, List.set_cons_succ]
      go_big_quiet_on
      go_big_quiet_step (fail)
      go_big_quiet_want
      refine quiet_load 22 _ rfl n 0 rfl X _ HQX.out Try.underlying22 rfl LX.out.i ?_
      simp only [Act.put, List.setIfInBounds_toArray, List.set_cons_zero, List.set_cons_succ]
      go_big_quiet_on
      go_big_quiet_step ((go_at_call 20; exact cl_of (c1 _) HC1.out))
      go_big_quiet_step (fail)
      go_big_quiet_want
      refine quiet_load 22 _ rfl n 32 rfl Y _ HQY.out Try.underlying22 rfl LY.out.i ?_
      simp only [Act.put, List.setIfInBounds_toArray, List.set_cons_zero, List.set_cons_succ]
      go_big_quiet_on
      go_big_quiet_step (fail)
      go_big_quiet_want
      refine quiet_load 22 _ rfl n 32 rfl Y _ HQY.out Try.underlying22 rfl LY.out.i ?_
      simp only [Act.put, List.setIfInBounds_toArray, List.set_cons_zero, List.set_cons_succ]
      go_big_quiet_on
      go_big_quiet_step ((go_at_call 20; exact cl_of (c2 _) HC1.out))
      go_big_quiet_step (fail)
      go_big_quiet_step (fail)
      refine wpQuiet_nil ?_
      rfl
    case right =>
      intro g' w2 hb hf hd
      have h3 := hf 3 (by decide)
      have h4 := hf 4 (by decide)
      have hne := hd 3 (by decide) 4 (by decide) (by decide)
      clear hf hd
      simp only [putsT, List.foldl_cons, List.foldl_nil, Act.put, List.setIfInBounds_toArray, List.set_cons_zero, List.set_cons_succ]
      obtain ⟨b3, hb3⟩ : ∃ b, g' 3 = b := ⟨_, rfl⟩
      obtain ⟨b4, hb4⟩ : ∃ b, g' 4 = b := ⟨_, rfl⟩
      rw [hb3] at h3 hne ⊢
      rw [hb4] at h4 hne ⊢
      clear hb3 hb4 g'
      have HT := (show Hid _ from two_boxes hb h3 h4 hne LR.out.l LS.out.l)
      have HT3 : Hid (w2.there b3 0 R.toArray.size) := by show World.there _ _ _ _; rw [List.size_toArray, LR.out.l]; exact h3.2.2
      have HT4 : Hid ((w2.setCells b3 0 R).there b4 0 S.toArray.size) := by show World.there _ _ _ _; rw [List.size_toArray, LS.out.l]; exact World.there_setCells h4.2.2 _ _ _
      clear h3 h4 hne hb
      go_wp2_with (first
        | (refine wpList_store_mid rfl 22 (.tmp 3) (.tmp 9) rfl b3 0 R.toArray rfl rfl HT3.out LR.out.j LR.out.o ?_; simp only)
        | (refine wpList_store_mid rfl 22 (.tmp 4) (.tmp 14) rfl b4 0 S.toArray rfl rfl HT4.out LS.out.j LS.out.o ?_; simp only [Act.put]))
      obtain ⟨w3, hw3⟩ : ∃ v, (w2.setCells b3 0 R).setCells b4 0 S = v := ⟨_, rfl⟩
      rw [hw3] at HT ⊢
      clear hw3 HT3 HT4
      have HB3 := (show Hid _ from HT.out.2.2)
      have HQR := (show Hid _ from HT.out.1.cl)
      have HQS := (show Hid _ from HT.out.2.1.cl)
      have hne := Cl.ne w3.heap.size w3
      refine region_cl (N := w3.heap.size) (W := w3) (by kernel_rfl) (by kernel_rfl) (Below.refl _ _) ?_
      go_big_quiet_want
      refine quiet_load 22 _ rfl b4 0 rfl S _ HQS.out Try.underlying22 rfl LS.out.i ?_
      simp only [Act.put, List.setIfInBounds_toArray, List.set_cons_zero, List.set_cons_succ]
      go_big_quiet_on
      go_big_quiet_want
      refine quiet_load 22 _ rfl b3 0 rfl R _ HQR.out Try.underlying22 rfl LR.out.i ?_
      simp only [Act.put, List.setIfInBounds_toArray, List.set_cons_zero, List.set_cons_succ]
      go_big_quiet_on
      go_big_quiet_step ((go_at_call 18; exact cl_of (c3 _) (Nat.le_refl _)))
      go_big_quiet_step ((go_at_call 75; exact cl_of (c4 _) (Nat.le_refl _)))
      go_big_quiet_step ((go_at_call 76; exact cl_of (c5 _) (Nat.le_refl _)))
      go_big_quiet_want
      refine quiet_load 22 _ rfl b3 0 rfl R _ HQR.out Try.underlying22 rfl LR.out.i ?_
      simp only [Act.put, List.setIfInBounds_toArray, List.set_cons_zero, List.set_cons_succ]
      go_big_quiet_on
      go_big_quiet_want
      refine quiet_load 22 _ rfl b4 0 rfl S _ HQS.out Try.underlying22 rfl LS.out.i ?_
      simp only [Act.put, List.setIfInBounds_toArray, List.set_cons_zero, List.set_cons_succ]
      go_big_quiet_on
      go_big_quiet_step ((go_at_call 20; exact cl_of (c6 _) (Nat.le_refl _)))
      go_big_quiet_step ((go_at_call 20; exact cl_of (c7 _) (Nat.le_refl _)))
      go_big_quiet_step ((go_at_call 15; exact cl_of (c8 _) (Nat.le_refl _)))
      go_big_quiet_step (fail)
      go_big_quiet_step (fail)
      refine wpQuiet_nil ?_
      rintro _ ⟨xq, rfl⟩
      have HB4 : Hid (Below w.heap.size w xq.u) := by
        have h1 := HBW.out
        rw [← HN.out] at h1
        have hs : w.heap.size ≤ w1.heap.size := h1.size
        exact h1.trans ((HB3.out.trans (xq.h.mono HB3.out.size)).mono hs)
      go_wp2
      exact bodyPost_ret (results_tmp Try.results29 _ _ _) rfl ⟨rfl, HB4.out⟩
end Fd
end Go.Proofs.Ytgdekigdbbldoaa

namespace Go.Proofs.Ytgdekigdbbldoaa
open Go.RowKit
namespace Dt
open Rg Go.Proofs.Ytgdekigdbbldoaa.Fd Go.Proofs.Ytgdekigdbbldoaa.Fd.Pratt

theorem modp (a : Nat) : a % p < p := Nat.mod_lt _ (by decide)
theorem lift1 {W W' : World} {o : Obj} (h : Below (W.alloc o).heap.size (W.alloc o) W') : Below W.heap.size W W' := ((Below.refl _ _).alloc (Nat.le_refl _) _).trans (h.mono (by rw [size_alloc]; omega))
theorem lit_num1 (w : World) (o : Obj) (n : Nat) (h0 : 0 < n) (h1 : n < 16777216) : Num ((w.alloc o).alloc (.cells #[.int .i64 (n : Int)] 3)) (.slice (some ⟨w.heap.size + 1, 0, none⟩) 1 1) n := by
  have h := lit_num (w.alloc o) n h0 h1
  rwa [size_alloc] at h
theorem p_64 {x : Nat} (h : x < p) : x < 16777216 ^ 64 := Nat.lt_trans h (by decide +kernel)
set_option maxHeartbeats 400000 in
set_option maxRecDepth 4000 in
theorem ratio_num {u v : Value} {x y : Nat} {w : World} (hu : Num w u x) (hv : Num w v y) (hx : x < p) (hy : y < p) :
    Calls Try.prog 78 #[u, v] w fun e w' => ∃ r, e = .returned r ∧ Num w' r (x * (y ^ (p - 2) % p) % p) ∧ Below w.heap.size w w' := by
  have HU : Hid (Num w u x) := hu
  have HV : Hid (Num w v y) := hv
  have HX : Hid (x < p) := hx
  have HY : Hid (y < p) := hy
  have CI : Hid (∀ (W : World) (u : Value), Num W u y → Calls Try.prog 25 #[u] W fun e w' => ∃ r, e = .returned r ∧ Num w' r (y ^ (p - 2) % p) ∧ Below W.heap.size W w') := fun W u h => inv_num h HY.out
  have HI : Hid (y ^ (p - 2) % p < p) := modp _
  obtain ⟨i, hi⟩ : ∃ i, y ^ (p - 2) % p = i := ⟨_, rfl⟩
  rw [hi] at CI HI ⊢
  clear hu hv hx hy hi
  have HU_0 := HU
  have HV_0 := HV
  have HB_0 := (show Hid (Below w.heap.size w w) from Below.refl _ _)
  have TK_0 := (show Hid True from trivial)
  go_enter Try.func78, Try.ntmps78
  go_wp2_with (first
    | (have hq := TK_0; go_at_call 25; refine (CI.out _ _ (HV_0.out)).mono ?_; rintro e w1 ⟨vi, rfl, hn, hb⟩; have HB_1 := (show Hid (Below w.heap.size w w1) from HB_0.out.trans (hb.mono HB_0.out.size)); have HU_1 := (show Hid (Num w1 u x) from HU_0.out.below hb); have HV_1 := (show Hid (Num w1 v y) from HV_0.out.below hb); have NI_1 := (show Hid (Num w1 vi i) from hn); have TK_1 := (show Hid True from trivial); clear hq TK_0 hb HB_0 HU_0 HV_0 hn)
    | (have hq := TK_1; go_at_call 21; refine (mul_num (HU_1.out) (NI_1.out) HX.out HI.out).mono ?_; rintro e w2 ⟨vr, rfl, hn, hb⟩; have HB_2 := (show Hid (Below w.heap.size w w2) from HB_1.out.trans (hb.mono HB_1.out.size)); have HU_2 := (show Hid (Num w2 u x) from HU_1.out.below hb); have HV_2 := (show Hid (Num w2 v y) from HV_1.out.below hb); have NI_2 := (show Hid (Num w2 vi i) from NI_1.out.below hb); have NR_2 := (show Hid (Num w2 vr (x * i % p)) from hn); have TK_2 := (show Hid True from trivial); clear hq TK_1 hb HB_1 HU_1 HV_1 NI_1 hn))
  go_ret
  exact ⟨_, rfl, NR_2.out, HB_2.out⟩
theorem d_is : (0 + p - 121665) % p * (121666 ^ (p - 2) % p) % p = factor := by
  rw [← pm_eq p 256 121666 (p - 2) (by decide +kernel)]
  decide +kernel
set_option maxHeartbeats 400000 in
set_option maxRecDepth 4000 in
/-- The curve's number. -/
theorem d_num (w : World) : Calls Try.prog 34 #[] w fun e w' => ∃ r, e = .returned r ∧ Num w' r factor ∧ Below w.heap.size w w' := by
  have HD : Hid ((0 + p - 121665) % p * (121666 ^ (p - 2) % p) % p = factor) := d_is
  have CS : Hid (∀ (W : World) (u v : Value), Num W u 0 → Num W v 121665 → Calls Try.prog 19 #[u, v] W fun e w' => ∃ r, e = .returned r ∧ Num w' r ((0 + p - 121665) % p) ∧ Below W.heap.size W w') := fun W u v h1 h2 => sub_num h1 h2 (by decide) (by decide)
  have HM : Hid ((0 + p - 121665) % p < p) := modp _
  obtain ⟨m, hm⟩ : ∃ m, (0 + p - 121665) % p = m := ⟨_, rfl⟩
  rw [hm] at HD CS HM
  have CR : Hid (∀ (W : World) (u v : Value), Num W u m → Num W v 121666 → Calls Try.prog 78 #[u, v] W fun e w' => ∃ r, e = .returned r ∧ Num w' r factor ∧ Below W.heap.size W w') := fun W u v h1 h2 => by have h := ratio_num h1 h2 HM.out (by decide); rwa [HD.out] at h
  clear hm
  have HB_0 := (show Hid (Below w.heap.size w w) from Below.refl _ _)
  have TK_0 := (show Hid True from trivial)
  go_enter Try.func34, Try.ntmps34
  go_wp2_with (first
    | (have hq := TK_0; go_at_call 19; refine (CS.out _ _ _ (Num.zero _) ((show Num (w.alloc (.cells #[.int .i64 121665] 3)) (.slice (some ⟨w.heap.size, 0, none⟩) 1 1) 121665 from lit_num w 121665 (by decide) (by decide)))).mono ?_; rintro e w1 ⟨vm, rfl, hn, hb⟩; replace hb := lift1 hb; have HB_1 := (show Hid (Below w.heap.size w w1) from HB_0.out.trans (hb.mono HB_0.out.size)); have NM_1 := (show Hid (Num w1 vm m) from hn); have TK_1 := (show Hid True from trivial); clear hq TK_0 hb HB_0  hn)
    | (have hq := TK_1; go_at_call 78; refine (CR.out _ _ _ (NM_1.out.below ((Below.refl _ _).alloc (Nat.le_refl _) _)) ((show Num (w1.alloc (.cells #[.int .i64 121666] 3)) (.slice (some ⟨w1.heap.size, 0, none⟩) 1 1) 121666 from lit_num w1 121666 (by decide) (by decide)))).mono ?_; rintro e w2 ⟨vf, rfl, hn, hb⟩; replace hb := lift1 hb; have HB_2 := (show Hid (Below w.heap.size w w2) from HB_1.out.trans (hb.mono HB_1.out.size)); have NM_2 := (show Hid (Num w2 vm m) from NM_1.out.below hb); have NF_2 := (show Hid (Num w2 vf factor) from hn); have TK_2 := (show Hid True from trivial); clear hq TK_1 hb HB_1 NM_1 hn))
  go_ret
  exact ⟨_, rfl, NF_2.out, HB_2.out⟩
/-- The curve's equation. -/
def onr (x y d : Nat) : Bool := decide ((y * y % p + p - x * x % p) % p = (1 + d * (x * x % p * (y * y % p) % p) % p) % p)
theorem cmpN_zero (x y : Nat) : (cmpN x y == (0 : Int)) = decide (x = y) := by
  unfold cmpN
  by_cases h : x = y
  · subst h; simp
  · by_cases h2 : x < y <;> simp [h, h2]
set_option maxHeartbeats 1000000 in
set_option maxRecDepth 4000 in
theorem on_num {u v z : Value} {x y d : Nat} {w : World} (hu : Num w u x) (hv : Num w v y) (hz : Num w z d) (hx : x < p) (hy : y < p) (hd : d < p) :
    Calls Try.prog 77 #[u, v, z] w fun e w' => e = .returned (.bool (onr x y d)) ∧ Below w.heap.size w w' := by
  unfold onr
  have HU : Hid (Num w u x) := hu
  have HV : Hid (Num w v y) := hv
  have HZ : Hid (Num w z d) := hz
  have C1 : Hid (∀ (W : World) (u v : Value), Num W u x → Num W v x → Calls Try.prog 21 #[u, v] W fun e w' => ∃ r, e = .returned r ∧ Num w' r (x * x % p) ∧ Below W.heap.size W w') := fun W u v h1 h2 => mul_num h1 h2 hx hx
  have C2 : Hid (∀ (W : World) (u v : Value), Num W u y → Num W v y → Calls Try.prog 21 #[u, v] W fun e w' => ∃ r, e = .returned r ∧ Num w' r (y * y % p) ∧ Below W.heap.size W w') := fun W u v h1 h2 => mul_num h1 h2 hy hy
  obtain ⟨a, ha⟩ : ∃ a, x * x % p = a := ⟨_, rfl⟩
  have la : a < p := by rw [← ha]; exact modp _
  obtain ⟨b, hb⟩ : ∃ a, y * y % p = a := ⟨_, rfl⟩
  have lb : b < p := by rw [← hb]; exact modp _
  rw [ha] at C1 ⊢
  rw [hb] at C2 ⊢
  have C3 : Hid (∀ (W : World) (u v : Value), Num W u b → Num W v a → Calls Try.prog 19 #[u, v] W fun e w' => ∃ r, e = .returned r ∧ Num w' r ((b + p - a) % p) ∧ Below W.heap.size W w') := fun W u v h1 h2 => sub_num h1 h2 lb la
  have C4 : Hid (∀ (W : World) (u v : Value), Num W u a → Num W v b → Calls Try.prog 21 #[u, v] W fun e w' => ∃ r, e = .returned r ∧ Num w' r (a * b % p) ∧ Below W.heap.size W w') := fun W u v h1 h2 => mul_num h1 h2 la lb
  obtain ⟨l, hl⟩ : ∃ z, (b + p - a) % p = z := ⟨_, rfl⟩
  have ll : l < p := by rw [← hl]; exact modp _
  obtain ⟨m, hm⟩ : ∃ m, a * b % p = m := ⟨_, rfl⟩
  have lm : m < p := by rw [← hm]; exact modp _
  rw [hl] at C3 ⊢
  rw [hm] at C4 ⊢
  have C5 : Hid (∀ (W : World) (u v : Value), Num W u d → Num W v m → Calls Try.prog 21 #[u, v] W fun e w' => ∃ r, e = .returned r ∧ Num w' r (d * m % p) ∧ Below W.heap.size W w') := fun W u v h1 h2 => mul_num h1 h2 hd lm
  obtain ⟨g, hg⟩ : ∃ z, d * m % p = z := ⟨_, rfl⟩
  have lg : g < p := by rw [← hg]; exact modp _
  rw [hg] at C5 ⊢
  have C6 : Hid (∀ (W : World) (u v : Value), Num W u 1 → Num W v g → Calls Try.prog 17 #[u, v] W fun e w' => ∃ r, e = .returned r ∧ Num w' r ((1 + g) % p) ∧ Below W.heap.size W w') := fun W u v h1 h2 => add_num h1 h2 (by decide) lg
  obtain ⟨r, hr⟩ : ∃ m, (1 + g) % p = m := ⟨_, rfl⟩
  have lr : r < p := by rw [← hr]; exact modp _
  rw [hr] at C6 ⊢
  have C7 : Hid (∀ (W : World) (u v : Value), Num W u l → Num W v r → Calls Try.prog 51 #[u, v] W fun e w' => e = .returned (.int .i64 (cmpN l r)) ∧ Below W.heap.size W w') := fun W u v h1 h2 => cmp_num h1 h2 (p_64 ll) (p_64 lr)
  have hcm := cmpN_zero l r
  obtain ⟨k, hk⟩ : ∃ k, cmpN l r = k := ⟨_, rfl⟩
  rw [hk] at hcm C7
  obtain ⟨ans, hans⟩ : ∃ ans, decide (l = r) = ans := ⟨_, rfl⟩
  rw [hans] at hcm ⊢
  clear hu hv hz hx hy hd ha hb hl hm hg hr hk hans la lb ll lm lg lr
  have HU_0 := HU
  have HV_0 := HV
  have HZ_0 := HZ
  have HB_0 := (show Hid (Below w.heap.size w w) from Below.refl _ _)
  have TK_0 := (show Hid True from trivial)
  go_enter Try.func77, Try.ntmps77
  go_wp2_with (first
    | (have hq := TK_0; go_at_call 21; refine (C1.out _ _ _ (HU_0.out) (HU_0.out)).mono ?_; rintro e w1 ⟨va, rfl, hn, hb⟩; have HB_1 := (show Hid (Below w.heap.size w w1) from HB_0.out.trans (hb.mono HB_0.out.size)); have HV_1 := (show Hid (Num w1 v y) from HV_0.out.below hb); have HZ_1 := (show Hid (Num w1 z d) from HZ_0.out.below hb); have NA_1 := (show Hid (Num w1 va a) from hn); have TK_1 := (show Hid True from trivial); clear hq TK_0 hb HB_0 HU_0 HV_0 HZ_0 hn)
    | (have hq := TK_1; go_at_call 21; refine (C2.out _ _ _ (HV_1.out) (HV_1.out)).mono ?_; rintro e w2 ⟨vb, rfl, hn, hb⟩; have HB_2 := (show Hid (Below w.heap.size w w2) from HB_1.out.trans (hb.mono HB_1.out.size)); have HZ_2 := (show Hid (Num w2 z d) from HZ_1.out.below hb); have NA_2 := (show Hid (Num w2 va a) from NA_1.out.below hb); have NB_2 := (show Hid (Num w2 vb b) from hn); have TK_2 := (show Hid True from trivial); clear hq TK_1 hb HB_1 HV_1 HZ_1 NA_1 hn)
    | (have hq := TK_2; go_at_call 19; refine (C3.out _ _ _ (NB_2.out) (NA_2.out)).mono ?_; rintro e w3 ⟨vl, rfl, hn, hb⟩; have HB_3 := (show Hid (Below w.heap.size w w3) from HB_2.out.trans (hb.mono HB_2.out.size)); have HZ_3 := (show Hid (Num w3 z d) from HZ_2.out.below hb); have NA_3 := (show Hid (Num w3 va a) from NA_2.out.below hb); have NB_3 := (show Hid (Num w3 vb b) from NB_2.out.below hb); have NL_3 := (show Hid (Num w3 vl l) from hn); have TK_3 := (show Hid True from trivial); clear hq TK_2 hb HB_2 HZ_2 NA_2 NB_2 hn)
    | (have hq := TK_3; go_at_call 21; refine (C4.out _ _ _ (NA_3.out.below ((Below.refl _ _).alloc (Nat.le_refl _) _)) (NB_3.out.below ((Below.refl _ _).alloc (Nat.le_refl _) _))).mono ?_; rintro e w4 ⟨vm, rfl, hn, hb⟩; have L1_4 := (show Hid (Num w4 (.slice (some ⟨w3.heap.size, 0, none⟩) 1 1) 1) from (((show Num (w3.alloc (.cells #[.int .i64 1] 3)) (.slice (some ⟨w3.heap.size, 0, none⟩) 1 1) 1 from lit_num w3 1 (by decide) (by decide))).below hb)); replace hb := lift1 hb; have HB_4 := (show Hid (Below w.heap.size w w4) from HB_3.out.trans (hb.mono HB_3.out.size)); have HZ_4 := (show Hid (Num w4 z d) from HZ_3.out.below hb); have NA_4 := (show Hid (Num w4 va a) from NA_3.out.below hb); have NB_4 := (show Hid (Num w4 vb b) from NB_3.out.below hb); have NL_4 := (show Hid (Num w4 vl l) from NL_3.out.below hb); have NM_4 := (show Hid (Num w4 vm m) from hn); have TK_4 := (show Hid True from trivial); clear hq TK_3 hb HB_3 HZ_3 NA_3 NB_3 NL_3 hn)
    | (have hq := TK_4; go_at_call 21; refine (C5.out _ _ _ (HZ_4.out) (NM_4.out)).mono ?_; rintro e w5 ⟨vg, rfl, hn, hb⟩; have HB_5 := (show Hid (Below w.heap.size w w5) from HB_4.out.trans (hb.mono HB_4.out.size)); have HZ_5 := (show Hid (Num w5 z d) from HZ_4.out.below hb); have NA_5 := (show Hid (Num w5 va a) from NA_4.out.below hb); have NB_5 := (show Hid (Num w5 vb b) from NB_4.out.below hb); have NL_5 := (show Hid (Num w5 vl l) from NL_4.out.below hb); have NM_5 := (show Hid (Num w5 vm m) from NM_4.out.below hb); have L1_5 := (show Hid (Num w5 (.slice (some ⟨w3.heap.size, 0, none⟩) 1 1) 1) from L1_4.out.below hb); have NG_5 := (show Hid (Num w5 vg g) from hn); have TK_5 := (show Hid True from trivial); clear hq TK_4 hb HB_4 HZ_4 NA_4 NB_4 NL_4 NM_4 L1_4 hn)
    | (have hq := TK_5; go_at_call 17; refine (C6.out _ _ _ (L1_5.out) (NG_5.out)).mono ?_; rintro e w6 ⟨vr, rfl, hn, hb⟩; have HB_6 := (show Hid (Below w.heap.size w w6) from HB_5.out.trans (hb.mono HB_5.out.size)); have HZ_6 := (show Hid (Num w6 z d) from HZ_5.out.below hb); have NA_6 := (show Hid (Num w6 va a) from NA_5.out.below hb); have NB_6 := (show Hid (Num w6 vb b) from NB_5.out.below hb); have NL_6 := (show Hid (Num w6 vl l) from NL_5.out.below hb); have NM_6 := (show Hid (Num w6 vm m) from NM_5.out.below hb); have L1_6 := (show Hid (Num w6 (.slice (some ⟨w3.heap.size, 0, none⟩) 1 1) 1) from L1_5.out.below hb); have NG_6 := (show Hid (Num w6 vg g) from NG_5.out.below hb); have NR_6 := (show Hid (Num w6 vr r) from hn); have TK_6 := (show Hid True from trivial); clear hq TK_5 hb HB_5 HZ_5 NA_5 NB_5 NL_5 NM_5 L1_5 NG_5 hn)
    | (have hq := TK_6; go_at_call 51; refine (C7.out _ _ _ (NL_6.out) (NR_6.out)).mono ?_; rintro e w7 ⟨rfl, hb⟩; have HB_7 := (show Hid (Below w.heap.size w w7) from HB_6.out.trans (hb.mono HB_6.out.size)); have HZ_7 := (show Hid (Num w7 z d) from HZ_6.out.below hb); have NA_7 := (show Hid (Num w7 va a) from NA_6.out.below hb); have NB_7 := (show Hid (Num w7 vb b) from NB_6.out.below hb); have NL_7 := (show Hid (Num w7 vl l) from NL_6.out.below hb); have NM_7 := (show Hid (Num w7 vm m) from NM_6.out.below hb); have L1_7 := (show Hid (Num w7 (.slice (some ⟨w3.heap.size, 0, none⟩) 1 1) 1) from L1_6.out.below hb); have NG_7 := (show Hid (Num w7 vg g) from NG_6.out.below hb); have NR_7 := (show Hid (Num w7 vr r) from NR_6.out.below hb); have TK_7 := (show Hid True from trivial); clear hq TK_6 hb HB_6 HZ_6 NA_6 NB_6 NL_6 NM_6 L1_6 NG_6 NR_6))
  go_ret
  exact ⟨rfl, HB_7.out⟩
/-- What x squared is, for a y. -/
def xq (y : Nat) : Nat := (y * y % p + p - 1) % p * (((factor * (y * y % p) % p + 1) % p) ^ (p - 2) % p) % p
set_option maxHeartbeats 1000000 in
set_option maxRecDepth 4000 in
theorem xOf_num {u : Value} {y : Nat} {w : World} (hu : Num w u y) (hy : y < p) :
    Calls Try.prog 79 #[u] w fun e w' => ∃ v, e = .returned (.tuple #[v, .bool (decide (rt (xq y) * rt (xq y) % p = xq y))]) ∧ ((rt (xq y) * rt (xq y) % p = xq y → Num w' v (evn (rt (xq y)))) ∧ (¬ rt (xq y) * rt (xq y) % p = xq y → v = .slice none 0 0)) ∧ Below w.heap.size w w' := by
  have HU : Hid (Num w u y) := hu
  unfold xq
  have C1 : Hid (∀ (W : World) (u v : Value), Num W u y → Num W v y → Calls Try.prog 21 #[u, v] W fun e w' => ∃ r, e = .returned r ∧ Num w' r (y * y % p) ∧ Below W.heap.size W w') := fun W u v h1 h2 => mul_num h1 h2 hy hy
  obtain ⟨b, hb⟩ : ∃ z, y * y % p = z := ⟨_, rfl⟩
  have lb : b < p := by rw [← hb]; exact modp _
  rw [hb] at C1 ⊢
  have C2 : Hid (∀ (W : World) (u v : Value), Num W u factor → Num W v b → Calls Try.prog 21 #[u, v] W fun e w' => ∃ r, e = .returned r ∧ Num w' r (factor * b % p) ∧ Below W.heap.size W w') := fun W u v h1 h2 => mul_num h1 h2 (by decide) lb
  obtain ⟨g, hg⟩ : ∃ z, factor * b % p = z := ⟨_, rfl⟩
  have lg : g < p := by rw [← hg]; exact modp _
  rw [hg] at C2 ⊢
  have C3 : Hid (∀ (W : World) (u v : Value), Num W u g → Num W v 1 → Calls Try.prog 17 #[u, v] W fun e w' => ∃ r, e = .returned r ∧ Num w' r ((g + 1) % p) ∧ Below W.heap.size W w') := fun W u v h1 h2 => add_num h1 h2 lg (by decide)
  obtain ⟨o, ho⟩ : ∃ z, (g + 1) % p = z := ⟨_, rfl⟩
  have lo : o < p := by rw [← ho]; exact modp _
  rw [ho] at C3 ⊢
  have C4 : Hid (∀ (W : World) (u v : Value), Num W u b → Num W v 1 → Calls Try.prog 19 #[u, v] W fun e w' => ∃ r, e = .returned r ∧ Num w' r ((b + p - 1) % p) ∧ Below W.heap.size W w') := fun W u v h1 h2 => sub_num h1 h2 lb (by decide)
  obtain ⟨t, ht⟩ : ∃ z, (b + p - 1) % p = z := ⟨_, rfl⟩
  have lt : t < p := by rw [← ht]; exact modp _
  rw [ht] at C4 ⊢
  have C5 : Hid (∀ (W : World) (u v : Value), Num W u t → Num W v o → Calls Try.prog 78 #[u, v] W fun e w' => ∃ r, e = .returned r ∧ Num w' r (t * (o ^ (p - 2) % p) % p) ∧ Below W.heap.size W w') := fun W u v h1 h2 => ratio_num h1 h2 lt lo
  obtain ⟨q, hq⟩ : ∃ z, t * (o ^ (p - 2) % p) % p = z := ⟨_, rfl⟩
  have lq : q < p := by rw [← hq]; exact modp _
  rw [hq] at C5 ⊢
  have C6 : Hid (∀ (W : World) (u : Value), Num W u q → Calls Try.prog 27 #[u] W fun e w' => ∃ v, e = .returned (.tuple #[v, .bool (decide (rt q * rt q % p = q))]) ∧ ((rt q * rt q % p = q → Num w' v (evn (rt q))) ∧ (¬ rt q * rt q % p = q → v = .slice none 0 0)) ∧ Below W.heap.size W w') := fun W u h => (root_num h lq).mono fun e w' ⟨v, h1, h2, h3, h4⟩ => ⟨v, h1, ⟨h2, h3⟩, h4⟩
  obtain ⟨d, hd⟩ : ∃ d, decide (rt q * rt q % p = q) = d := ⟨_, rfl⟩
  rw [hd] at C6 ⊢
  clear hu hy hb hg ho ht hq lb lg lo lt lq hd
  have HU_0 := HU
  have HB_0 := (show Hid (Below w.heap.size w w) from Below.refl _ _)
  have TK_0 := (show Hid True from trivial)
  go_enter Try.func79, Try.ntmps79
  go_wp2_with (first
    | (have hq := TK_0; go_at_call 21; refine (C1.out _ _ _ (HU_0.out) (HU_0.out)).mono ?_; rintro e w1 ⟨vb, rfl, hn, hb⟩; have HB_1 := (show Hid (Below w.heap.size w w1) from HB_0.out.trans (hb.mono HB_0.out.size)); have NB_1 := (show Hid (Num w1 vb b) from hn); have TK_1 := (show Hid True from trivial); clear hq TK_0 hb HB_0 HU_0 hn)
    | (have hq := TK_1; go_at_call 34; refine (d_num _).mono ?_; rintro e w2 ⟨vd, rfl, hn, hb⟩; have HB_2 := (show Hid (Below w.heap.size w w2) from HB_1.out.trans (hb.mono HB_1.out.size)); have NB_2 := (show Hid (Num w2 vb b) from NB_1.out.below hb); have ND_2 := (show Hid (Num w2 vd factor) from hn); have TK_2 := (show Hid True from trivial); clear hq TK_1 hb HB_1 NB_1 hn)
    | (have hq := TK_2; go_at_call 21; refine (C2.out _ _ _ (ND_2.out) (NB_2.out)).mono ?_; rintro e w3 ⟨vg, rfl, hn, hb⟩; have HB_3 := (show Hid (Below w.heap.size w w3) from HB_2.out.trans (hb.mono HB_2.out.size)); have NB_3 := (show Hid (Num w3 vb b) from NB_2.out.below hb); have ND_3 := (show Hid (Num w3 vd factor) from ND_2.out.below hb); have NG_3 := (show Hid (Num w3 vg g) from hn); have TK_3 := (show Hid True from trivial); clear hq TK_2 hb HB_2 NB_2 ND_2 hn)
    | (have hq := TK_3; go_at_call 17; refine (C3.out _ _ _ (NG_3.out.below ((Below.refl _ _).alloc (Nat.le_refl _) _)) ((show Num (w3.alloc (.cells #[.int .i64 1] 3)) (.slice (some ⟨w3.heap.size, 0, none⟩) 1 1) 1 from lit_num w3 1 (by decide) (by decide)))).mono ?_; rintro e w4 ⟨vo, rfl, hn, hb⟩; replace hb := lift1 hb; have HB_4 := (show Hid (Below w.heap.size w w4) from HB_3.out.trans (hb.mono HB_3.out.size)); have NB_4 := (show Hid (Num w4 vb b) from NB_3.out.below hb); have ND_4 := (show Hid (Num w4 vd factor) from ND_3.out.below hb); have NG_4 := (show Hid (Num w4 vg g) from NG_3.out.below hb); have NO_4 := (show Hid (Num w4 vo o) from hn); have TK_4 := (show Hid True from trivial); clear hq TK_3 hb HB_3 NB_3 ND_3 NG_3 hn)
    | (have hq := TK_4; go_at_call 19; refine (C4.out _ _ _ (NB_4.out.below ((Below.refl _ _).alloc (Nat.le_refl _) _)) ((show Num (w4.alloc (.cells #[.int .i64 1] 3)) (.slice (some ⟨w4.heap.size, 0, none⟩) 1 1) 1 from lit_num w4 1 (by decide) (by decide)))).mono ?_; rintro e w5 ⟨vt, rfl, hn, hb⟩; replace hb := lift1 hb; have HB_5 := (show Hid (Below w.heap.size w w5) from HB_4.out.trans (hb.mono HB_4.out.size)); have NB_5 := (show Hid (Num w5 vb b) from NB_4.out.below hb); have ND_5 := (show Hid (Num w5 vd factor) from ND_4.out.below hb); have NG_5 := (show Hid (Num w5 vg g) from NG_4.out.below hb); have NO_5 := (show Hid (Num w5 vo o) from NO_4.out.below hb); have NT_5 := (show Hid (Num w5 vt t) from hn); have TK_5 := (show Hid True from trivial); clear hq TK_4 hb HB_4 NB_4 ND_4 NG_4 NO_4 hn)
    | (have hq := TK_5; go_at_call 78; refine (C5.out _ _ _ (NT_5.out) (NO_5.out)).mono ?_; rintro e w6 ⟨vq, rfl, hn, hb⟩; have HB_6 := (show Hid (Below w.heap.size w w6) from HB_5.out.trans (hb.mono HB_5.out.size)); have NB_6 := (show Hid (Num w6 vb b) from NB_5.out.below hb); have ND_6 := (show Hid (Num w6 vd factor) from ND_5.out.below hb); have NG_6 := (show Hid (Num w6 vg g) from NG_5.out.below hb); have NO_6 := (show Hid (Num w6 vo o) from NO_5.out.below hb); have NT_6 := (show Hid (Num w6 vt t) from NT_5.out.below hb); have NQ_6 := (show Hid (Num w6 vq q) from hn); have TK_6 := (show Hid True from trivial); clear hq TK_5 hb HB_5 NB_5 ND_5 NG_5 NO_5 NT_5 hn)
    | (have hq := TK_6; go_at_call 27; refine (C6.out _ _ (NQ_6.out)).mono ?_; rintro e w7 ⟨vx, rfl, hn, hb⟩; have HB_7 := (show Hid (Below w.heap.size w w7) from HB_6.out.trans (hb.mono HB_6.out.size)); have NB_7 := (show Hid (Num w7 vb b) from NB_6.out.below hb); have ND_7 := (show Hid (Num w7 vd factor) from ND_6.out.below hb); have NG_7 := (show Hid (Num w7 vg g) from NG_6.out.below hb); have NO_7 := (show Hid (Num w7 vo o) from NO_6.out.below hb); have NT_7 := (show Hid (Num w7 vt t) from NT_6.out.below hb); have NQ_7 := (show Hid (Num w7 vq q) from NQ_6.out.below hb); have HX := (show Hid ((rt q * rt q % p = q → Num w7 vx (evn (rt q))) ∧ (¬ rt q * rt q % p = q → vx = .slice none 0 0)) from hn); clear hn; have TK_7 := (show Hid True from trivial); clear hq TK_6 hb HB_6 NB_6 ND_6 NG_6 NO_6 NT_6 NQ_6))
  go_ret2
  exact ⟨_, rfl, HX.out, HB_7.out⟩
end Dt
end Go.Proofs.Ytgdekigdbbldoaa

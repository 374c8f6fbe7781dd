/- A region with variables of 32 bytes that are made, in whatever order: the form that the walks use; boxes of points. What Is does: a contract, by walking its text. -/
import Derived.Test.YtgdekigdbbldoaaG20
import Derived.Test.YtgdekigdbbldoaaG26
namespace Go.Proofs.Ytgdekigdbbldoaa
open Go.RowKit
namespace Fd
open Rg

theorem region_float {P : Program} {N : Nat} {W : World} {id : Nat} {Q : Exit → Act → World → Prop} {a : Act} {w : World} {k l t : List Oper} {ty : TypeId} {Z : Obj} {n : Nat} (al : List Tmp) (m f : Nat)
    (hm : P.follows .mixedOrders = true) (hC : Below N W w) (hN : N ≤ W.heap.size)
    (hZ : ∀ (ρ : Operand → Value) (o : Oper) (w : World), isAl ty o = true → (execOp ρ o).run P w = .ok (.value (.pointer (some ⟨w.heap.size, 0, none⟩))) (w.alloc Z))
    (hth : ∀ w : World, (w.alloc Z).there w.heap.size 0 n)
    (hl : k.take m = l) (ht : k.drop m = t) (hB : Region.lexB .any (l.map (hush ty)).toArray = true) (hT : tailB l t f 0 = true) (hF : floatB ty al l = true) (hS : slotsB al l = true)
    (h : ∃ A : Act, (∀ (N2 : Nat) (W2 : World), N ≤ N2 → Below N W W2 → N2 ≤ W2.heap.size → wpQuiet P (l.map (hush ty)).toArray (fun w' => ∃ x : Cl N2 W2, w' = x.u) (fun a' => a' = A) (l.map (hush ty)) a) ∧
      ∀ (g : Tmp → Nat) (w' : World), Below N W w' → (∀ d ∈ al, N ≤ g d ∧ g d < w'.heap.size ∧ w'.there (g d) 0 n) → (∀ d ∈ al, ∀ e ∈ al, d ≠ e → g d ≠ g e) → wpList P k.toArray Q t (putsT A al g) w') :
    (Code.region id k.toArray true).wp P Q a w := by
  obtain ⟨A, hq, hend⟩ := h
  have hk : k = l ++ t := by rw [← hl, ← ht, List.take_append_drop]
  subst hk
  simp only [Region.lexB, Bool.and_eq_true] at hB
  refine wp_region_any hm ?_
  have h2 := wpAny_float (P := P) (Q := Q) (A := A) hT hF hS hZ hth hend l.length (Array.replicate (l ++ t).toArray.size false) (Array.replicate l.toArray.size false) a a [] (fun _ => 0) N W { w with drawn := w.drawn + 1 }
    (Nat.le_refl _) hN (Below.refl _ _) (drawn_below hC) (Rf.refl _ _) (fun d hd => by cases hd) (fun d hd => by cases hd) (fun i o d hi _ _ => by
      have hi2 := (List.getElem?_eq_some_iff.1 hi).1
      simp [Array.getD_eq_getD_getElem?, Nat.lt_of_lt_of_le hi2 (Nat.le_add_right _ _)]) (by simp) (by simp) (fun i hi => by
      simp [Array.getD_eq_getD_getElem?, hi, Nat.lt_of_lt_of_le hi (Nat.le_add_right _ _)]) (Closed.start _ _) (fun i _ hi => by
      have hi2 : i < l.length + t.length := by rw [← List.length_append]; exact hi
      simp [Array.getD_eq_getD_getElem?, hi2]) (fun N2 W2 q1 q2 q3 => by
      have h1 := wpAnyQ_lex (C := fun w' => ∃ x : Cl N2 W2, w' = x.u) (md := .any) (ops := (l.map (hush ty)).toArray) hB.1 (l.map (hush ty)) 0 (Array.replicate (l.map (hush ty)).toArray.size false) a (by simp) (by simpa using hB.2) (hq N2 W2 q1 q2 q3)
      simpa using h1)
  simpa using h2
theorem alloc22 (ρ : Operand → Value) (o : Oper) (w : World) (h : isAl 22 o = true) : (execOp ρ o).run Try.prog w = .ok (.value (.pointer (some ⟨w.heap.size, 0, none⟩))) (w.alloc (.cells z22 22)) := by
  obtain ⟨dst, op, type, pos, after, guard⟩ := o
  unfold isAl at h
  cases op <;> simp only [] at h <;> try cases h
  rename_i u
  have : u = 22 := by simpa using h
  subst this
  have hz := zero22
  go_simp
theorem there22 (w : World) : (w.alloc (.cells z22 22)).there w.heap.size 0 32 := z22_there w
/-- Two variables are written. -/
theorem two_boxes {N : Nat} {W w : World} {b c : Nat} {R S : List Value} (hb : Below N W w) (h1 : N ≤ b ∧ b < w.heap.size ∧ w.there b 0 32) (h2 : N ≤ c ∧ c < w.heap.size ∧ w.there c 0 32) (hne : b ≠ c) (hR : R.length = 32) (hS : S.length = 32) :
    Bo ((w.setCells b 0 R).setCells c 0 S) b R ∧ Bo ((w.setCells b 0 R).setCells c 0 S) c S ∧ Below N W ((w.setCells b 0 R).setCells c 0 S) :=
  ⟨⟨World.rangeAt_setCells_apart (World.rangeAt_setCells_same _ _ _ _ (by rw [hR]; exact h1.2.2)) _ _ _ (.inl hne), by rw [size_setCells, size_setCells]; exact h1.2.1⟩,
   ⟨World.rangeAt_setCells_same _ _ _ _ (by rw [hS]; exact World.there_setCells h2.2.2 _ _ _), by rw [size_setCells, size_setCells]; exact h2.2.1⟩, below_setCells (below_setCells hb h1.1) h2.1⟩
/-- A point's value, and a box of a point. -/
def pv (x y : Nat) : Value := .agg (bvc x ++ bvc y).toArray
theorem range_left {w : World} {b o : Nat} {X Y : List Value} (h : w.rangeAt b o (X ++ Y)) : w.rangeAt b o X := fun j v hv => h j v (by rw [List.getElem?_append_left (List.getElem?_eq_some_iff.1 hv).1]; exact hv)
theorem range_right {w : World} {b o m : Nat} {X Y : List Value} (h : w.rangeAt b o (X ++ Y)) (hX : X.length = m) : w.rangeAt b (o + m) Y := fun j v hv => by
  have := h (m + j) v (by rw [List.getElem?_append_right (by omega), hX, Nat.add_sub_cancel_left]; exact hv)
  rw [← Nat.add_assoc] at this
  exact this
end Fd
end Go.Proofs.Ytgdekigdbbldoaa

namespace Go.Proofs.Ytgdekigdbbldoaa
open Go.RowKit
namespace Fd
open Rg

/-- A point lies on the curve. -/
def OnC (x y : Nat) : Prop := (y * y % p % p + p - x * x % p % p) % p = (cone % p + factor * (x * x % p * (y * y % p) % p) % p % p) % p
instance (x y : Nat) : Decidable (OnC x y) := inferInstanceAs (Decidable (_ = _))
theorem cl2 {N N2 : Nat} {W W2 : World} (h1 : N ≤ N2) (h2 : Below N W W2) {b o : Nat} {R : List Value} (h : W.rangeAt b o R) (hb : b < N) : ∀ w', (∃ x : Cl N2 W2, w' = x.u) → w'.rangeAt b o R := fun _ ⟨x, hx⟩ => hx ▸ x.range (Rg.Below.range h2 h hb) (Nat.lt_of_lt_of_le hb h1)

set_option maxHeartbeats 2000000 in
set_option maxRecDepth 4000 in
theorem is_any (x y : Nat) (w : World) (hx : x < 115792089237316195423570985008687907853269984665640564039457584007913129639936) (hy : y < 115792089237316195423570985008687907853269984665640564039457584007913129639936) :
    Calls Try.prog 29 #[pv x y] w fun e w' => e = .returned (.bool (decide (OnC x y))) ∧ Below w.heap.size w w' := by
  have hpp : p < 115792089237316195423570985008687907853269984665640564039457584007913129639936 := by decide
  have HE : Hid (decide (OnC x y) = decide ((y * y % p % p + p - x * x % p % p) % p = (cone % p + factor * (x * x % p * (y * y % p) % p) % p % p) % p)) := rfl
  rw [HE.out]
  clear HE
  obtain ⟨r, hr⟩ : ∃ r, x * x % p = r := ⟨_, rfl⟩
  obtain ⟨s, hs⟩ : ∃ r, y * y % p = r := ⟨_, rfl⟩
  have hrl : r < 115792089237316195423570985008687907853269984665640564039457584007913129639936 := hr ▸ Nat.lt_trans (Nat.mod_lt _ (by decide)) hpp
  have hsl : s < 115792089237316195423570985008687907853269984665640564039457584007913129639936 := hs ▸ Nat.lt_trans (Nat.mod_lt _ (by decide)) hpp
  rw [hr, hs]
  obtain ⟨m, hm⟩ : ∃ m, r * s % p = m := ⟨_, rfl⟩
  have hml : m < 115792089237316195423570985008687907853269984665640564039457584007913129639936 := hm ▸ Nat.lt_trans (Nat.mod_lt _ (by decide)) hpp
  rw [hm]
  obtain ⟨g, hg⟩ : ∃ g, factor * m % p = g := ⟨_, rfl⟩
  have hgl : g < 115792089237316195423570985008687907853269984665640564039457584007913129639936 := hg ▸ Nat.lt_trans (Nat.mod_lt _ (by decide)) hpp
  rw [hg]
  obtain ⟨t, ht⟩ : ∃ t, (cone % p + g % p) % p = t := ⟨_, rfl⟩
  have htl : t < 115792089237316195423570985008687907853269984665640564039457584007913129639936 := ht ▸ Nat.lt_trans (Nat.mod_lt _ (by decide)) hpp
  obtain ⟨u, hu⟩ : ∃ u, (s % p + p - r % p) % p = u := ⟨_, rfl⟩
  have hul : u < 115792089237316195423570985008687907853269984665640564039457584007913129639936 := hu ▸ Nat.lt_trans (Nat.mod_lt _ (by decide)) hpp
  rw [ht, hu]
  have c1 : ∀ W : World, Calls Try.prog 20 #[.agg (bvc x).toArray, .agg (bvc x).toArray] W fun e w' => e = .returned (.agg (bvc r).toArray) ∧ Below W.heap.size W w' := fun W => by have h := mul_any x x W hx hx; rw [hr] at h; exact h
  have c2 : ∀ W : World, Calls Try.prog 20 #[.agg (bvc y).toArray, .agg (bvc y).toArray] W fun e w' => e = .returned (.agg (bvc s).toArray) ∧ Below W.heap.size W w' := fun W => by have h := mul_any y y W hy hy; rw [hs] at h; exact h
  have c3 : ∀ W : World, Calls Try.prog 18 #[.agg (bvc s).toArray, .agg (bvc r).toArray] W fun e w' => e = .returned (.agg (bvc u).toArray) ∧ Below W.heap.size W w' := fun W => by have h := sub_any s r W hsl hrl; rw [hu] at h; exact h
  have c4 : ∀ W : World, Calls Try.prog 75 #[] W fun e w' => e = .returned (.agg (bvc cone).toArray) ∧ Below W.heap.size W w' := fun W => cone_any W
  have c5 : ∀ W : World, Calls Try.prog 76 #[] W fun e w' => e = .returned (.agg (bvc factor).toArray) ∧ Below W.heap.size W w' := fun W => factor_any W
  have c6 : ∀ W : World, Calls Try.prog 20 #[.agg (bvc r).toArray, .agg (bvc s).toArray] W fun e w' => e = .returned (.agg (bvc m).toArray) ∧ Below W.heap.size W w' := fun W => by have h := mul_any r s W hrl hsl; rw [hm] at h; exact h
  have c7 : ∀ W : World, Calls Try.prog 20 #[.agg (bvc factor).toArray, .agg (bvc m).toArray] W fun e w' => e = .returned (.agg (bvc g).toArray) ∧ Below W.heap.size W w' := fun W => by have h := mul_any factor m W (by decide) hml; rw [hg] at h; exact h
  have c8 : ∀ W : World, Calls Try.prog 15 #[.agg (bvc cone).toArray, .agg (bvc g).toArray] W fun e w' => e = .returned (.agg (bvc t).toArray) ∧ Below W.heap.size W w' := fun W => by have h := add_any cone g W (by decide) hgl; rw [ht] at h; exact h
  have ceq : ∀ W : World, (Op.equalIn 10000 22 (.agg (bvc u).toArray) (.agg (bvc t).toArray)).run Try.prog W = .ok (decide (u = t)) W := fun W => eq22 u t W hul htl
  unfold pv
  have LX : Hid (L32 (bvc x)) := l32 x
  have LY : Hid (L32 (bvc y)) := l32 y
  have LR : Hid (L32 (bvc r)) := l32 r
  have LS : Hid (L32 (bvc s)) := l32 s
  have LU : Hid (L32 (bvc u)) := l32 u
  have LO : Hid (L32 (bvc cone)) := l32 cone
  have LF : Hid (L32 (bvc factor)) := l32 factor
  have LM : Hid (L32 (bvc m)) := l32 m
  have LG : Hid (L32 (bvc g)) := l32 g
  have LT : Hid (L32 (bvc t)) := l32 t
  clear hx hy hrl hsl hml hgl htl hul hr hs hm hg ht hu hpp
  obtain ⟨X, hX⟩ : ∃ Z, bvc x = Z := ⟨_, rfl⟩
  obtain ⟨Y, hY⟩ : ∃ Z, bvc y = Z := ⟨_, rfl⟩
  obtain ⟨R, hR⟩ : ∃ Z, bvc r = Z := ⟨_, rfl⟩
  obtain ⟨S, hS⟩ : ∃ Z, bvc s = Z := ⟨_, rfl⟩
  obtain ⟨U, hU⟩ : ∃ Z, bvc u = Z := ⟨_, rfl⟩
  obtain ⟨O, hO⟩ : ∃ Z, bvc cone = Z := ⟨_, rfl⟩
  obtain ⟨F, hF⟩ : ∃ Z, bvc factor = Z := ⟨_, rfl⟩
  obtain ⟨M, hM⟩ : ∃ Z, bvc m = Z := ⟨_, rfl⟩
  obtain ⟨G, hG⟩ : ∃ Z, bvc g = Z := ⟨_, rfl⟩
  obtain ⟨T, hT⟩ : ∃ Z, bvc t = Z := ⟨_, rfl⟩
  rw [hX] at LX c1
  rw [hY] at LY c2
  rw [hR] at LR c1 c3 c6
  rw [hS] at LS c2 c3 c6
  rw [hU] at LU c3 ceq
  rw [hO] at LO c4 c8
  rw [hF] at LF c5 c7
  rw [hM] at LM c6 c7
  rw [hG] at LG c7 c8
  rw [hT] at LT c8 ceq
  rw [hX, hY]
  clear hX hY hR hS hU hO hF hM hG hT
  obtain ⟨n, hn⟩ : ∃ n, w.heap.size = n := ⟨_, rfl⟩
  have HR : Hid ((w.alloc (.cells (X ++ Y).toArray 43)).rangeAt n 0 (X ++ Y)) := by show World.rangeAt _ _ _ _; rw [← hn]; exact Rg.range_new w (X ++ Y) 43
  have HLn : Hid ((w.alloc (.cells (X ++ Y).toArray 43)).heap.size = n + 1) := by show _ = _; rw [size_alloc, hn]
  have HBW : Hid (Below n w (w.alloc (.cells (X ++ Y).toArray 43))) := (Below.refl _ _).alloc (by omega) _
  have HN : Hid (w.heap.size = n) := hn
  obtain ⟨V, hV⟩ : ∃ V, X ++ Y = V := ⟨_, rfl⟩
  rw [hV] at HR HLn HBW ⊢
  have HV : Hid (X ++ Y = V) := hV
  clear hV
  go_enter Try.func29, Try.ntmps29
  go_wp2
  obtain ⟨w1, hw1⟩ : ∃ v, w.alloc (.cells V.toArray 43) = v := ⟨_, rfl⟩
  rw [hw1] at HR HLn HBW ⊢
  clear hw1
  have HRX : Hid (w1.rangeAt n 0 X) := range_left (by rw [HV.out]; exact HR.out)
  have HRY : Hid (w1.rangeAt n 32 Y) := by have h := range_right (m := 32) (X := X) (Y := Y) (o := 0) (by rw [HV.out]; exact HR.out) LX.out.l; rwa [Nat.zero_add] at h
  apply region_float (N := w1.heap.size) (W := w1) (ty := 22) [3, 4] 12 12 (by kernel_rfl) (Below.refl _ _) (Nat.le_refl _) alloc22 there22
  case hl => simp only [List.take_succ_cons, List.take_zero]; rfl
  case ht => simp only [List.drop_succ_cons, List.drop_zero]; rfl
  case hB => kernel_rfl
  case hT => kernel_rfl
  case hF => kernel_rfl
  case hS => kernel_rfl
  case h =>
    apply Exists.intro
    constructor
    case left =>
      intro N2 W2 q1 q2 q3
      have HQX : Hid (∀ w', (∃ x : Cl N2 W2, w' = x.u) → w'.rangeAt n 0 X) := cl2 q1 q2 HRX.out (by have := HLn.out; omega)
      have HQY : Hid (∀ w', (∃ x : Cl N2 W2, w' = x.u) → w'.rangeAt n 32 Y) := cl2 q1 q2 HRY.out (by have := HLn.out; omega)
      have hne := Cl.ne N2 W2
      have HC1 : Hid (N2 ≤ W2.heap.size) := q3
      clear q1 q2 q3
      simp only [List.map_cons, List.map_nil, hush, isAl, beq_self_eq_true, if_true, Bool.false_eq_true, if_false]
      go_big_quiet_step (fail)
      go_big_quiet_want
      refine quiet_load 22 _ rfl n 0 rfl X _ HQX.out Try.underlying22 rfl LX.out.i ?_
      simp only [Act.put, List.setIfInBounds_toArray, List.set_cons_zero, List.set_cons_succ]
      go_big_quiet_on
      go_big_quiet_step (fail)
      go_big_quiet_want
      refine quiet_load 22 _ rfl n 0 rfl X _ HQX.out Try.underlying22 rfl LX.out.i ?_
      simp only [Act.put, List.setIfInBounds_toArray, List.set_cons_zero, List.set_cons_succ]
      go_big_quiet_on
      go_big_quiet_step ((go_at_call 20; exact cl_of (c1 _) HC1.out))
      go_big_quiet_step (fail)
      go_big_quiet_want
      refine quiet_load 22 _ rfl n 32 rfl Y _ HQY.out Try.underlying22 rfl LY.out.i ?_
      simp only [Act.put, List.setIfInBounds_toArray, List.set_cons_zero, List.set_cons_succ]
      go_big_quiet_on
      go_big_quiet_step (fail)
      go_big_quiet_want
      refine quiet_load 22 _ rfl n 32 rfl Y _ HQY.out Try.underlying22 rfl LY.out.i ?_
      simp only [Act.put, List.setIfInBounds_toArray, List.set_cons_zero, List.set_cons_succ]
      go_big_quiet_on
      go_big_quiet_step ((go_at_call 20; exact cl_of (c2 _) HC1.out))
      go_big_quiet_step (fail)
      go_big_quiet_step (fail)
      refine wpQuiet_nil ?_
      rfl
    case right =>
      intro g' w2 hb hf hd
      have h3 := hf 3 (by decide)
      have h4 := hf 4 (by decide)
      have hne := hd 3 (by decide) 4 (by decide) (by decide)
      clear hf hd
      simp only [putsT, List.foldl_cons, List.foldl_nil, Act.put, List.setIfInBounds_toArray, List.set_cons_zero, List.set_cons_succ]
      obtain ⟨b3, hb3⟩ : ∃ b, g' 3 = b := ⟨_, rfl⟩
      obtain ⟨b4, hb4⟩ : ∃ b, g' 4 = b := ⟨_, rfl⟩
      rw [hb3] at h3 hne ⊢
      rw [hb4] at h4 hne ⊢
      clear hb3 hb4 g'
      have HT := (show Hid _ from two_boxes hb h3 h4 hne LR.out.l LS.out.l)
      have HT3 : Hid (w2.there b3 0 R.toArray.size) := by show World.there _ _ _ _; rw [List.size_toArray, LR.out.l]; exact h3.2.2
      have HT4 : Hid ((w2.setCells b3 0 R).there b4 0 S.toArray.size) := by show World.there _ _ _ _; rw [List.size_toArray, LS.out.l]; exact World.there_setCells h4.2.2 _ _ _
      clear h3 h4 hne hb
      go_wp2_with (first
        | (refine wpList_store_mid rfl 22 (.tmp 3) (.tmp 9) rfl b3 0 R.toArray rfl rfl HT3.out LR.out.j LR.out.o ?_; simp only)
        | (refine wpList_store_mid rfl 22 (.tmp 4) (.tmp 14) rfl b4 0 S.toArray rfl rfl HT4.out LS.out.j LS.out.o ?_; simp only [Act.put]))
      obtain ⟨w3, hw3⟩ : ∃ v, (w2.setCells b3 0 R).setCells b4 0 S = v := ⟨_, rfl⟩
      rw [hw3] at HT ⊢
      clear hw3 HT3 HT4
      have HB3 := (show Hid _ from HT.out.2.2)
      have HQR := (show Hid _ from HT.out.1.cl)
      have HQS := (show Hid _ from HT.out.2.1.cl)
      have hne := Cl.ne w3.heap.size w3
      refine region_cl (N := w3.heap.size) (W := w3) (by kernel_rfl) (by kernel_rfl) (Below.refl _ _) ?_
      go_big_quiet_want
      refine quiet_load 22 _ rfl b4 0 rfl S _ HQS.out Try.underlying22 rfl LS.out.i ?_
      simp only [Act.put, List.setIfInBounds_toArray, List.set_cons_zero, List.set_cons_succ]
      go_big_quiet_on
      go_big_quiet_want
      refine quiet_load 22 _ rfl b3 0 rfl R _ HQR.out Try.underlying22 rfl LR.out.i ?_
      simp only [Act.put, List.setIfInBounds_toArray, List.set_cons_zero, List.set_cons_succ]
      go_big_quiet_on
      go_big_quiet_step ((go_at_call 18; exact cl_of (c3 _) (Nat.le_refl _)))
      go_big_quiet_step ((go_at_call 75; exact cl_of (c4 _) (Nat.le_refl _)))
      go_big_quiet_step ((go_at_call 76; exact cl_of (c5 _) (Nat.le_refl _)))
      go_big_quiet_want
      refine quiet_load 22 _ rfl b3 0 rfl R _ HQR.out Try.underlying22 rfl LR.out.i ?_
      simp only [Act.put, List.setIfInBounds_toArray, List.set_cons_zero, List.set_cons_succ]
      go_big_quiet_on
      go_big_quiet_want
      refine quiet_load 22 _ rfl b4 0 rfl S _ HQS.out Try.underlying22 rfl LS.out.i ?_
      simp only [Act.put, List.setIfInBounds_toArray, List.set_cons_zero, List.set_cons_succ]
      go_big_quiet_on
      go_big_quiet_step ((go_at_call 20; exact cl_of (c6 _) (Nat.le_refl _)))
      go_big_quiet_step ((go_at_call 20; exact cl_of (c7 _) (Nat.le_refl _)))
      go_big_quiet_step ((go_at_call 15; exact cl_of (c8 _) (Nat.le_refl _)))
      go_big_quiet_step (fail)
      go_big_quiet_step (fail)
      refine wpQuiet_nil ?_
      rintro _ ⟨xq, rfl⟩
      have HB4 : Hid (Below w.heap.size w xq.u) := by
        have h1 := HBW.out
        rw [← HN.out] at h1
        have hs : w.heap.size ≤ w1.heap.size := h1.size
        exact h1.trans ((HB3.out.trans (xq.h.mono HB3.out.size)).mono hs)
      go_wp2
      exact bodyPost_ret (results_tmp Try.results29 _ _ _) rfl ⟨rfl, HB4.out⟩
end Fd
end Go.Proofs.Ytgdekigdbbldoaa

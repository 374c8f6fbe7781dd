/- The laws of the field, of plain numbers modulo p; the walk of FieldLaws where the first number is nought: it answers true. -/
import Derived.Test.YtgdekigdbbldoaaLa
namespace Go.Proofs.Ytgdekigdbbldoaa
open Go.RowKit
namespace Fd
open Rg Pratt
namespace Lm

theorem add_c (a b : Nat) : (b % p + a % p) % p = (a % p + b % p) % p := by rw [Nat.add_comm]
theorem mul_c (a b : Nat) : b * a % p = a * b % p := by rw [Nat.mul_comm]
theorem mul_a (a b c : Nat) : a * (b * c % p) % p = a * b % p * c % p := by rw [Nat.mul_mod_mod, Nat.mod_mul_mod, Nat.mul_assoc]
theorem dist (a b c : Nat) : (a * b % p % p + a * c % p % p) % p = a * ((b % p + c % p) % p) % p := by
  rw [Nat.mul_mod_mod, Nat.mod_mod, Nat.mod_mod, ← Nat.add_mod, ← Nat.mul_add, ← Nat.mul_mod_mod a (b + c), Nat.add_mod, Nat.mul_mod_mod]
theorem sub_add (a b : Nat) : ((a % p + p - b % p) % p % p + b % p) % p = a % p := by
  have h : b % p < p := Nat.mod_lt _ (by decide)
  rw [Nat.mod_mod, Nat.mod_add_mod, Nat.sub_add_cancel (by omega), Nat.add_mod_right, Nat.mod_mod]
theorem add_a (a b c : Nat) : (a % p + (b % p + c % p) % p % p) % p = ((a % p + b % p) % p % p + c % p) % p := by
  unfold p
  omega
theorem mul_1 (a : Nat) : a * 1 % p = a % p := by rw [Nat.mul_one]
theorem sub_self (a : Nat) : (a % p + p - a % p) % p = 0 := by
  rw [show a % p + p - a % p = p by omega]
  exact Nat.mod_self p
theorem sq_red (b : Nat) : b * b % p = (b % p) * (b % p) % p := Nat.mul_mod b b p
theorem p_odd : p % 2 = 1 := by decide
theorem evn_cases (r : Nat) (hr : r < p) : (evn r = r ∧ r % 2 = 0) ∨ (evn r = p - r ∧ r % 2 = 1) := by
  unfold evn
  by_cases h : r % 2 = 1
  · rw [if_pos h, Nat.zero_add, Nat.mod_eq_of_lt (by omega)]
    exact .inr ⟨rfl, h⟩
  · rw [if_neg h]
    exact .inl ⟨rfl, by omega⟩
theorem evn_even (r : Nat) (hr : r < p) : evn r % 2 = 0 := by
  have hp := p_odd
  rcases evn_cases r hr with ⟨h1, h2⟩ | ⟨h1, h2⟩ <;> rw [h1] <;> omega
theorem byte_even (s : Nat) (h : s % 2 = 0) : by_ s 0 % 2 = 0 := by
  unfold by_
  rw [Nat.mul_zero, Nat.pow_zero, Nat.div_one]
  omega
/-- The root of a square is the number, or its negative. -/
theorem back (y : Nat) (hy : y < p) (hne : evn (rt (y * y % p)) ≠ y) : (evn (rt (y * y % p)) + y) % p = 0 := by
  have hr := rt_lt (y * y % p)
  have h1 := root_sq y hy
  have h2 := two_roots hr hy h1
  have hp := p_odd
  obtain ⟨r, er⟩ : ∃ r, rt (y * y % p) = r := ⟨_, rfl⟩
  rw [er] at hr h2 hne ⊢
  rcases evn_cases r hr with ⟨h3, h4⟩ | ⟨h3, h4⟩
  · rw [h3] at hne ⊢
    rcases h2 with h2 | h2
    · exact absurd h2 hne
    · exact h2
  · rw [h3] at hne ⊢
    rcases h2 with h2 | h2
    · rw [← h2, Nat.sub_add_cancel (by omega)]
      exact Nat.mod_self p
    · exfalso
      apply hne
      rcases Nat.lt_or_ge (r + y) p with h5 | h5
      · rw [Nat.mod_eq_of_lt h5] at h2
        omega
      · rw [Nat.mod_eq_sub_mod h5, Nat.mod_eq_of_lt (by omega)] at h2
        omega
end Lm

set_option maxHeartbeats 8000000 in
set_option maxRecDepth 8000 in
theorem laws_z (a b c : Nat) (ha : a < 115792089237316195423570985008687907853269984665640564039457584007913129639936) (hb : b < 115792089237316195423570985008687907853269984665640564039457584007913129639936) (hc : c < 115792089237316195423570985008687907853269984665640564039457584007913129639936) (hyp : a % p = 0) (w : World) :
    Calls Try.prog 6 #[bv a, bv b, bv c] w fun e w' => e = .returned (.bool true) ∧ Below w.heap.size w w' := by
  have cS := fun W => shown_any W
  obtain ⟨x, hap⟩ : ∃ x, a % p = x := ⟨_, rfl⟩
  rw [hap] at hyp
  have hxl : x < p := by rw [← hap]; exact Nat.mod_lt _ (by decide)
  obtain ⟨s1, hs1⟩ : ∃ s, (a % p + b % p) % p = s := ⟨_, rfl⟩
  have hs1l : s1 < 115792089237316195423570985008687907853269984665640564039457584007913129639936 := by rw [← hs1]; exact Nat.lt_trans (Nat.mod_lt _ (by decide)) plt
  obtain ⟨m1, hm1⟩ : ∃ s, a * b % p = s := ⟨_, rfl⟩
  have hm1l : m1 < 115792089237316195423570985008687907853269984665640564039457584007913129639936 := by rw [← hm1]; exact Nat.lt_trans (Nat.mod_lt _ (by decide)) plt
  obtain ⟨t1, ht1⟩ : ∃ s, m1 * c % p = s := ⟨_, rfl⟩
  have ht1l : t1 < 115792089237316195423570985008687907853269984665640564039457584007913129639936 := by rw [← ht1]; exact Nat.lt_trans (Nat.mod_lt _ (by decide)) plt
  obtain ⟨n1, hn1⟩ : ∃ s, b * c % p = s := ⟨_, rfl⟩
  have hn1l : n1 < 115792089237316195423570985008687907853269984665640564039457584007913129639936 := by rw [← hn1]; exact Nat.lt_trans (Nat.mod_lt _ (by decide)) plt
  obtain ⟨u1, hu1⟩ : ∃ s, (b % p + c % p) % p = s := ⟨_, rfl⟩
  have hu1l : u1 < 115792089237316195423570985008687907853269984665640564039457584007913129639936 := by rw [← hu1]; exact Nat.lt_trans (Nat.mod_lt _ (by decide)) plt
  obtain ⟨v1, hv1⟩ : ∃ s, a * u1 % p = s := ⟨_, rfl⟩
  have hv1l : v1 < 115792089237316195423570985008687907853269984665640564039457584007913129639936 := by rw [← hv1]; exact Nat.lt_trans (Nat.mod_lt _ (by decide)) plt
  obtain ⟨o1, ho1⟩ : ∃ s, a * c % p = s := ⟨_, rfl⟩
  have ho1l : o1 < 115792089237316195423570985008687907853269984665640564039457584007913129639936 := by rw [← ho1]; exact Nat.lt_trans (Nat.mod_lt _ (by decide)) plt
  obtain ⟨d1, hd1⟩ : ∃ s, (a % p + p - b % p) % p = s := ⟨_, rfl⟩
  have hd1l : d1 < 115792089237316195423570985008687907853269984665640564039457584007913129639936 := by rw [← hd1]; exact Nat.lt_trans (Nat.mod_lt _ (by decide)) plt
  obtain ⟨g1, hg1⟩ : ∃ s, (s1 % p + c % p) % p = s := ⟨_, rfl⟩
  have hg1l : g1 < 115792089237316195423570985008687907853269984665640564039457584007913129639936 := by rw [← hg1]; exact Nat.lt_trans (Nat.mod_lt _ (by decide)) plt
  have hxL : x < 115792089237316195423570985008687907853269984665640564039457584007913129639936 := Nat.lt_trans hxl plt
  have cab : ∀ W : World, Calls Try.prog 15 #[bv a, bv b] W fun e w' => e = .returned (bv s1) ∧ Below W.heap.size W w' := fun W => by have h := add_any a b W ha hb; rwa [hs1] at h
  have cba : ∀ W : World, Calls Try.prog 15 #[bv b, bv a] W fun e w' => e = .returned (bv s1) ∧ Below W.heap.size W w' := fun W => by have h := add_any b a W hb ha; rwa [Lm.add_c, hs1] at h
  have mab : ∀ W : World, Calls Try.prog 20 #[bv a, bv b] W fun e w' => e = .returned (bv m1) ∧ Below W.heap.size W w' := fun W => by have h := mul_any a b W ha hb; rwa [hm1] at h
  have mba : ∀ W : World, Calls Try.prog 20 #[bv b, bv a] W fun e w' => e = .returned (bv m1) ∧ Below W.heap.size W w' := fun W => by have h := mul_any b a W hb ha; rwa [Lm.mul_c, hm1] at h
  have mmc : ∀ W : World, Calls Try.prog 20 #[bv m1, bv c] W fun e w' => e = .returned (bv t1) ∧ Below W.heap.size W w' := fun W => by have h := mul_any m1 c W hm1l hc; rwa [ht1] at h
  have mbc : ∀ W : World, Calls Try.prog 20 #[bv b, bv c] W fun e w' => e = .returned (bv n1) ∧ Below W.heap.size W w' := fun W => by have h := mul_any b c W hb hc; rwa [hn1] at h
  have hT2 : a * n1 % p = t1 := by rw [← hn1, Lm.mul_a, hm1, ht1]
  have man : ∀ W : World, Calls Try.prog 20 #[bv a, bv n1] W fun e w' => e = .returned (bv t1) ∧ Below W.heap.size W w' := fun W => by have h := mul_any a n1 W ha hn1l; rwa [hT2] at h
  have cbc : ∀ W : World, Calls Try.prog 15 #[bv b, bv c] W fun e w' => e = .returned (bv u1) ∧ Below W.heap.size W w' := fun W => by have h := add_any b c W hb hc; rwa [hu1] at h
  have mau : ∀ W : World, Calls Try.prog 20 #[bv a, bv u1] W fun e w' => e = .returned (bv v1) ∧ Below W.heap.size W w' := fun W => by have h := mul_any a u1 W ha hu1l; rwa [hv1] at h
  have mac : ∀ W : World, Calls Try.prog 20 #[bv a, bv c] W fun e w' => e = .returned (bv o1) ∧ Below W.heap.size W w' := fun W => by have h := mul_any a c W ha hc; rwa [ho1] at h
  have hV2 : (m1 % p + o1 % p) % p = v1 := by rw [← hm1, ← ho1, Lm.dist, hu1, hv1]
  have cmo : ∀ W : World, Calls Try.prog 15 #[bv m1, bv o1] W fun e w' => e = .returned (bv v1) ∧ Below W.heap.size W w' := fun W => by have h := add_any m1 o1 W hm1l ho1l; rwa [hV2] at h
  have sab : ∀ W : World, Calls Try.prog 18 #[bv a, bv b] W fun e w' => e = .returned (bv d1) ∧ Below W.heap.size W w' := fun W => by have h := sub_any a b W ha hb; rwa [hd1] at h
  have hD2 : (d1 % p + b % p) % p = x := by rw [← hd1, Lm.sub_add, hap]
  have cdb : ∀ W : World, Calls Try.prog 15 #[bv d1, bv b] W fun e w' => e = .returned (bv x) ∧ Below W.heap.size W w' := fun W => by have h := add_any d1 b W hd1l hb; rwa [hD2] at h
  have red : ∀ W : World, Calls Try.prog 22 #[bv a] W fun e w' => e = .returned (bv x) ∧ Below W.heap.size W w' := fun W => by have h := reduce_any a W ha; rwa [hap] at h
  have csc : ∀ W : World, Calls Try.prog 15 #[bv s1, bv c] W fun e w' => e = .returned (bv g1) ∧ Below W.heap.size W w' := fun W => by have h := add_any s1 c W hs1l hc; rwa [hg1] at h
  have hG2 : (a % p + u1 % p) % p = g1 := by rw [← hu1, Lm.add_a, hs1, hg1]
  have cau : ∀ W : World, Calls Try.prog 15 #[bv a, bv u1] W fun e w' => e = .returned (bv g1) ∧ Below W.heap.size W w' := fun W => by have h := add_any a u1 W ha hu1l; rwa [hG2] at h
  have ma1 : ∀ W : World, Calls Try.prog 20 #[bv a, bv 1] W fun e w' => e = .returned (bv x) ∧ Below W.heap.size W w' := fun W => by have h := mul_any a 1 W ha (by decide); rwa [Lm.mul_1, hap] at h
  have saa : ∀ W : World, Calls Try.prog 18 #[bv a, bv a] W fun e w' => e = .returned (bv 0) ∧ Below W.heap.size W w' := fun W => by have h := sub_any a a W ha ha; rwa [Lm.sub_self] at h
  have c0 : ∀ W : World, Calls Try.prog 24 #[.int .u8 0] W fun e w' => e = .returned (bv 0) ∧ Below W.heap.size W w' := fun W => small_any 0 W (by decide)
  have c1 : ∀ W : World, Calls Try.prog 24 #[.int .u8 1] W fun e w' => e = .returned (bv 1) ∧ Below W.heap.size W w' := fun W => small_any 1 W (by decide)
  have cI : ∀ W : World, Calls Try.prog 23 #[bv a] W fun e w' => e = .returned (.tuple #[bv 0, .iface 35 (.int .i64 28)]) ∧ Below W.heap.size W w' := fun W => inv_zero a W ha (by rw [hap]; exact hyp)
  have e28 : ∀ W : World, (binOp .eql 32 (.iface 35 (.int .i64 28)) (.iface 35 (.int .i64 28))).run Try.prog W = .ok (.bool true) W := fun W => bin_err 28 28 W
  have qS : ∀ W : World, (Op.equalIn 10000 22 (.agg (bvc s1).toArray) (.agg (bvc s1).toArray)).run Try.prog W = .ok true W := fun W => by have h := eq22 s1 s1 W hs1l hs1l; rwa [decide_eq_true rfl] at h
  have qM : ∀ W : World, (Op.equalIn 10000 22 (.agg (bvc m1).toArray) (.agg (bvc m1).toArray)).run Try.prog W = .ok true W := fun W => by have h := eq22 m1 m1 W hm1l hm1l; rwa [decide_eq_true rfl] at h
  have qT : ∀ W : World, (Op.equalIn 10000 22 (.agg (bvc t1).toArray) (.agg (bvc t1).toArray)).run Try.prog W = .ok true W := fun W => by have h := eq22 t1 t1 W ht1l ht1l; rwa [decide_eq_true rfl] at h
  have qV : ∀ W : World, (Op.equalIn 10000 22 (.agg (bvc v1).toArray) (.agg (bvc v1).toArray)).run Try.prog W = .ok true W := fun W => by have h := eq22 v1 v1 W hv1l hv1l; rwa [decide_eq_true rfl] at h
  have qG : ∀ W : World, (Op.equalIn 10000 22 (.agg (bvc g1).toArray) (.agg (bvc g1).toArray)).run Try.prog W = .ok true W := fun W => by have h := eq22 g1 g1 W hg1l hg1l; rwa [decide_eq_true rfl] at h
  have q0 : ∀ W : World, (Op.equalIn 10000 22 (.agg (bvc 0).toArray) (.agg (bvc 0).toArray)).run Try.prog W = .ok true W := fun W => by have h := eq22 0 0 W (by decide) (by decide); rwa [decide_eq_true rfl] at h
  have q1 : ∀ W : World, (Op.equalIn 10000 22 (.agg (bvc 1).toArray) (.agg (bvc 1).toArray)).run Try.prog W = .ok true W := fun W => by have h := eq22 1 1 W (by decide) (by decide); rwa [decide_eq_true rfl] at h
  have hx0 : x = 0 := by rw [← hap]; exact (by rw [hap]; exact hyp)
  rw [hx0] at cdb red ma1
  unfold bv at cab cba mab mba mmc mbc man cbc mau mac cmo sab cdb red csc cau ma1 saa c0 c1 cI ⊢
  have LA : Hid (L32 (bvc a)) := l32 a
  have LB : Hid (L32 (bvc b)) := l32 b
  have LC : Hid (L32 (bvc c)) := l32 c
  have LX0 : Hid (L32 (bvc 0)) := l32 0
  have LX1 : Hid (L32 (bvc 1)) := l32 1
  have LS : Hid (L32 (bvc s1)) := l32 s1
  have LM : Hid (L32 (bvc m1)) := l32 m1
  have LT : Hid (L32 (bvc t1)) := l32 t1
  have LN1 : Hid (L32 (bvc n1)) := l32 n1
  have LU : Hid (L32 (bvc u1)) := l32 u1
  have LV : Hid (L32 (bvc v1)) := l32 v1
  have LO1 : Hid (L32 (bvc o1)) := l32 o1
  have LD : Hid (L32 (bvc d1)) := l32 d1
  have LG : Hid (L32 (bvc g1)) := l32 g1
  obtain ⟨A, hA⟩ : ∃ X, bvc a = X := ⟨_, rfl⟩
  obtain ⟨B, hB⟩ : ∃ X, bvc b = X := ⟨_, rfl⟩
  obtain ⟨C, hC⟩ : ∃ X, bvc c = X := ⟨_, rfl⟩
  obtain ⟨X0, hX0⟩ : ∃ X, bvc 0 = X := ⟨_, rfl⟩
  obtain ⟨X1, hX1⟩ : ∃ X, bvc 1 = X := ⟨_, rfl⟩
  obtain ⟨S, hS⟩ : ∃ X, bvc s1 = X := ⟨_, rfl⟩
  obtain ⟨M, hM⟩ : ∃ X, bvc m1 = X := ⟨_, rfl⟩
  obtain ⟨T, hT⟩ : ∃ X, bvc t1 = X := ⟨_, rfl⟩
  obtain ⟨N1, hN1⟩ : ∃ X, bvc n1 = X := ⟨_, rfl⟩
  obtain ⟨U, hU⟩ : ∃ X, bvc u1 = X := ⟨_, rfl⟩
  obtain ⟨V, hV⟩ : ∃ X, bvc v1 = X := ⟨_, rfl⟩
  obtain ⟨O1, hO1⟩ : ∃ X, bvc o1 = X := ⟨_, rfl⟩
  obtain ⟨D, hD⟩ : ∃ X, bvc d1 = X := ⟨_, rfl⟩
  obtain ⟨G, hG⟩ : ∃ X, bvc g1 = X := ⟨_, rfl⟩
  rw [hA] at LA ⊢ cab cba mab mba man mau mac sab red cau ma1 saa cI
  rw [hB] at LB ⊢ cab cba mab mba mbc cbc sab cdb
  rw [hC] at LC ⊢ mmc mbc cbc mac csc
  rw [hX0] at LX0 saa c0 cI q0 cdb red ma1
  rw [hX1] at LX1 ma1 c1 q1
  rw [hS] at LS cab cba csc qS
  rw [hM] at LM mab mba mmc cmo qM
  rw [hT] at LT mmc man qT
  rw [hN1] at LN1 mbc man
  rw [hU] at LU cbc mau cau
  rw [hV] at LV mau cmo qV
  rw [hO1] at LO1 mac cmo
  rw [hD] at LD sab cdb
  rw [hG] at LG csc cau qG
  clear hA hB hC hX0 hX1 hS hM hT hN1 hU hV hO1 hD hG
  clear ha hb hc hap hxl hxL hyp hs1 hs1l hm1 hm1l ht1 ht1l hn1 hn1l hu1 hu1l hv1 hv1l ho1 ho1l hd1 hd1l hg1 hg1l hT2 hV2 hD2 hG2 hx0
  have hz := zero22
  have HBN : Hid (∀ (W : World) (R : List Value), R.length = 32 → Bo ((W.alloc (.cells z22 22)).setCells W.heap.size 0 R) W.heap.size R ∧ Below W.heap.size W ((W.alloc (.cells z22 22)).setCells W.heap.size 0 R)) := box_new
  have HLT : Hid (∀ (R : List Value), L32 R → ∀ W : World, (W.alloc (.cells z22 22)).there W.heap.size 0 R.toArray.size) := fun R h => h.t
  obtain ⟨Z, hZ⟩ : ∃ Z, z22 = Z := ⟨_, rfl⟩
  rw [hZ] at hz HBN HLT
  clear hZ
  obtain ⟨n, hn⟩ : ∃ n, w.heap.size = n := ⟨_, rfl⟩
  have BA : Hid (Bo (((w.alloc (.cells A.toArray 22)).alloc (.cells B.toArray 22)).alloc (.cells C.toArray 22)) n A) := by show Bo _ _ _; rw [← hn]; exact (bo3 _ _ _ _).1
  have BB : Hid (Bo (((w.alloc (.cells A.toArray 22)).alloc (.cells B.toArray 22)).alloc (.cells C.toArray 22)) (n + 1) B) := by show Bo _ _ _; rw [← hn]; exact (bo3 _ _ _ _).2.1
  have BC : Hid (Bo (((w.alloc (.cells A.toArray 22)).alloc (.cells B.toArray 22)).alloc (.cells C.toArray 22)) (n + 2) C) := by show Bo _ _ _; rw [← hn]; exact (bo3 _ _ _ _).2.2
  have HBW : Hid (Below w.heap.size w (((w.alloc (.cells A.toArray 22)).alloc (.cells B.toArray 22)).alloc (.cells C.toArray 22))) := ((((Below.refl _ _).alloc (by first | (simp; done) | (simp; omega)) _).alloc (by first | (simp; done) | (simp; omega)) _).alloc (by first | (simp; done) | (simp; omega)) _)
  have BA_0 := BA
  have BB_0 := BB
  have BC_0 := BC
  have HB_0 := (show Hid (Below w.heap.size w (((w.alloc (.cells A.toArray 22)).alloc (.cells B.toArray 22)).alloc (.cells C.toArray 22))) from HBW.out)
  have TK_0 := (show Hid True from trivial)
  go_enter Try.func6, Try.ntmps6
  go_wp2_with (first
    | (refine wpList_load_mid rfl 22 (.tmp 3) rfl n 0 rfl A _ BA_0.out.1 Try.underlying22 rfl LA.out.i ?_)
    | (refine wpList_load_mid rfl 22 (.tmp 4) rfl (n + 1) 0 rfl B _ BB_0.out.1 Try.underlying22 rfl LB.out.i ?_)
    | (refine wpList_load_mid rfl 22 (.tmp 5) rfl (n + 2) 0 rfl C _ BC_0.out.1 Try.underlying22 rfl LC.out.i ?_)
    | (refine wpList_load_mid rfl 22 (.tmp 3) rfl n 0 rfl A _ BA_1.out.1 Try.underlying22 rfl LA.out.i ?_)
    | (refine wpList_load_mid rfl 22 (.tmp 4) rfl (n + 1) 0 rfl B _ BB_1.out.1 Try.underlying22 rfl LB.out.i ?_)
    | (refine wpList_load_mid rfl 22 (.tmp 5) rfl (n + 2) 0 rfl C _ BC_1.out.1 Try.underlying22 rfl LC.out.i ?_)
    | (have hq := TK_0; go_at_call 13; refine (cS _).mono ?_; rintro e w1 ⟨rfl, hb⟩; have HB_1 := (show Hid (Below w.heap.size w w1) from HB_0.out.trans (hb.mono HB_0.out.size)); have BA_1 := (show Hid (Bo w1 n A) from BA_0.out.below hb); have BB_1 := (show Hid (Bo w1 (n + 1) B) from BB_0.out.below hb); have BC_1 := (show Hid (Bo w1 (n + 2) C) from BC_0.out.below hb); have TK_1 := (show Hid True from trivial); clear hq TK_0 hb HB_0 BA_0 BB_0 BC_0))
  have HQBA := (show Hid _ from BA_1.out.cl)
  have HQBB := (show Hid _ from BB_1.out.cl)
  have HQBC := (show Hid _ from BC_1.out.cl)
  have hne := Cl.ne w1.heap.size w1
  refine region_cl (N := w1.heap.size) (W := w1) (by kernel_rfl) (by kernel_rfl) (Below.refl _ _) ?_
  go_big_quiet_want
  refine quiet_load 22 _ rfl n 0 rfl A _ HQBA.out Try.underlying22 rfl LA.out.i ?_
  simp only [Act.put, List.setIfInBounds_toArray, List.set_cons_zero, List.set_cons_succ]
  go_big_quiet_on
  go_big_quiet_want
  refine quiet_load 22 _ rfl (n + 1) 0 rfl B _ HQBB.out Try.underlying22 rfl LB.out.i ?_
  simp only [Act.put, List.setIfInBounds_toArray, List.set_cons_zero, List.set_cons_succ]
  go_big_quiet_on
  go_big_quiet_step ((go_at_call 15; exact cl_of (cab _) (Nat.le_refl _)))
  go_big_quiet_want
  refine quiet_load 22 _ rfl (n + 1) 0 rfl B _ HQBB.out Try.underlying22 rfl LB.out.i ?_
  simp only [Act.put, List.setIfInBounds_toArray, List.set_cons_zero, List.set_cons_succ]
  go_big_quiet_on
  go_big_quiet_want
  refine quiet_load 22 _ rfl n 0 rfl A _ HQBA.out Try.underlying22 rfl LA.out.i ?_
  simp only [Act.put, List.setIfInBounds_toArray, List.set_cons_zero, List.set_cons_succ]
  go_big_quiet_on
  go_big_quiet_step ((go_at_call 15; exact cl_of (cba _) (Nat.le_refl _)))
  go_big_quiet_step (fail)
  go_big_quiet_step (fail)
  go_big_quiet_want
  refine quiet_load 22 _ rfl n 0 rfl A _ HQBA.out Try.underlying22 rfl LA.out.i ?_
  simp only [Act.put, List.setIfInBounds_toArray, List.set_cons_zero, List.set_cons_succ]
  go_big_quiet_on
  go_big_quiet_want
  refine quiet_load 22 _ rfl (n + 1) 0 rfl B _ HQBB.out Try.underlying22 rfl LB.out.i ?_
  simp only [Act.put, List.setIfInBounds_toArray, List.set_cons_zero, List.set_cons_succ]
  go_big_quiet_on
  go_big_quiet_step ((go_at_call 20; exact cl_of (mab _) (Nat.le_refl _)))
  go_big_quiet_want
  refine quiet_load 22 _ rfl (n + 1) 0 rfl B _ HQBB.out Try.underlying22 rfl LB.out.i ?_
  simp only [Act.put, List.setIfInBounds_toArray, List.set_cons_zero, List.set_cons_succ]
  go_big_quiet_on
  go_big_quiet_want
  refine quiet_load 22 _ rfl n 0 rfl A _ HQBA.out Try.underlying22 rfl LA.out.i ?_
  simp only [Act.put, List.setIfInBounds_toArray, List.set_cons_zero, List.set_cons_succ]
  go_big_quiet_on
  go_big_quiet_step ((go_at_call 20; exact cl_of (mba _) (Nat.le_refl _)))
  go_big_quiet_step (fail)
  go_big_quiet_step (fail)
  go_big_quiet_step (fail)
  go_big_quiet_want
  refine quiet_load 22 _ rfl n 0 rfl A _ HQBA.out Try.underlying22 rfl LA.out.i ?_
  simp only [Act.put, List.setIfInBounds_toArray, List.set_cons_zero, List.set_cons_succ]
  go_big_quiet_on
  go_big_quiet_want
  refine quiet_load 22 _ rfl (n + 1) 0 rfl B _ HQBB.out Try.underlying22 rfl LB.out.i ?_
  simp only [Act.put, List.setIfInBounds_toArray, List.set_cons_zero, List.set_cons_succ]
  go_big_quiet_on
  go_big_quiet_step ((go_at_call 20; exact cl_of (mab _) (Nat.le_refl _)))
  go_big_quiet_want
  refine quiet_load 22 _ rfl (n + 2) 0 rfl C _ HQBC.out Try.underlying22 rfl LC.out.i ?_
  simp only [Act.put, List.setIfInBounds_toArray, List.set_cons_zero, List.set_cons_succ]
  go_big_quiet_on
  go_big_quiet_step ((go_at_call 20; exact cl_of (mmc _) (Nat.le_refl _)))
  go_big_quiet_want
  refine quiet_load 22 _ rfl n 0 rfl A _ HQBA.out Try.underlying22 rfl LA.out.i ?_
  simp only [Act.put, List.setIfInBounds_toArray, List.set_cons_zero, List.set_cons_succ]
  go_big_quiet_on
  go_big_quiet_want
  refine quiet_load 22 _ rfl (n + 1) 0 rfl B _ HQBB.out Try.underlying22 rfl LB.out.i ?_
  simp only [Act.put, List.setIfInBounds_toArray, List.set_cons_zero, List.set_cons_succ]
  go_big_quiet_on
  go_big_quiet_want
  refine quiet_load 22 _ rfl (n + 2) 0 rfl C _ HQBC.out Try.underlying22 rfl LC.out.i ?_
  simp only [Act.put, List.setIfInBounds_toArray, List.set_cons_zero, List.set_cons_succ]
  go_big_quiet_on
  go_big_quiet_step ((go_at_call 20; exact cl_of (mbc _) (Nat.le_refl _)))
  go_big_quiet_step ((go_at_call 20; exact cl_of (man _) (Nat.le_refl _)))
  go_big_quiet_step (fail)
  go_big_quiet_step (fail)
  go_big_quiet_step (fail)
  refine wpQuiet_nil ?_
  rintro _ ⟨xq, rfl⟩
  have hb := xq.h
  have HB_2 := (show Hid (Below w.heap.size w xq.u) from HB_1.out.trans (hb.mono HB_1.out.size))
  have BA_2 := (show Hid (Bo xq.u n A) from BA_1.out.below hb)
  have BB_2 := (show Hid (Bo xq.u (n + 1) B) from BB_1.out.below hb)
  have BC_2 := (show Hid (Bo xq.u (n + 2) C) from BC_1.out.below hb)
  obtain ⟨w2, hw2⟩ : ∃ v, xq.u = v := ⟨_, rfl⟩
  rw [hw2] at HB_2 BA_2 BB_2 BC_2 ⊢
  clear hw2 hb xq hne HB_1 BA_1 BB_1 BC_1 HQBA HQBB HQBC
  go_wp2
  have HQBA := (show Hid _ from BA_2.out.cl)
  have HQBB := (show Hid _ from BB_2.out.cl)
  have HQBC := (show Hid _ from BC_2.out.cl)
  have hne := Cl.ne w2.heap.size w2
  refine region_cl (N := w2.heap.size) (W := w2) (by kernel_rfl) (by kernel_rfl) (Below.refl _ _) ?_
  go_big_quiet_want
  refine quiet_load 22 _ rfl n 0 rfl A _ HQBA.out Try.underlying22 rfl LA.out.i ?_
  simp only [Act.put, List.setIfInBounds_toArray, List.set_cons_zero, List.set_cons_succ]
  go_big_quiet_on
  go_big_quiet_want
  refine quiet_load 22 _ rfl (n + 1) 0 rfl B _ HQBB.out Try.underlying22 rfl LB.out.i ?_
  simp only [Act.put, List.setIfInBounds_toArray, List.set_cons_zero, List.set_cons_succ]
  go_big_quiet_on
  go_big_quiet_want
  refine quiet_load 22 _ rfl (n + 2) 0 rfl C _ HQBC.out Try.underlying22 rfl LC.out.i ?_
  simp only [Act.put, List.setIfInBounds_toArray, List.set_cons_zero, List.set_cons_succ]
  go_big_quiet_on
  go_big_quiet_step ((go_at_call 15; exact cl_of (cbc _) (Nat.le_refl _)))
  go_big_quiet_step ((go_at_call 20; exact cl_of (mau _) (Nat.le_refl _)))
  go_big_quiet_want
  refine quiet_load 22 _ rfl n 0 rfl A _ HQBA.out Try.underlying22 rfl LA.out.i ?_
  simp only [Act.put, List.setIfInBounds_toArray, List.set_cons_zero, List.set_cons_succ]
  go_big_quiet_on
  go_big_quiet_want
  refine quiet_load 22 _ rfl (n + 1) 0 rfl B _ HQBB.out Try.underlying22 rfl LB.out.i ?_
  simp only [Act.put, List.setIfInBounds_toArray, List.set_cons_zero, List.set_cons_succ]
  go_big_quiet_on
  go_big_quiet_step ((go_at_call 20; exact cl_of (mab _) (Nat.le_refl _)))
  go_big_quiet_want
  refine quiet_load 22 _ rfl n 0 rfl A _ HQBA.out Try.underlying22 rfl LA.out.i ?_
  simp only [Act.put, List.setIfInBounds_toArray, List.set_cons_zero, List.set_cons_succ]
  go_big_quiet_on
  go_big_quiet_want
  refine quiet_load 22 _ rfl (n + 2) 0 rfl C _ HQBC.out Try.underlying22 rfl LC.out.i ?_
  simp only [Act.put, List.setIfInBounds_toArray, List.set_cons_zero, List.set_cons_succ]
  go_big_quiet_on
  go_big_quiet_step ((go_at_call 20; exact cl_of (mac _) (Nat.le_refl _)))
  go_big_quiet_step ((go_at_call 15; exact cl_of (cmo _) (Nat.le_refl _)))
  go_big_quiet_step (fail)
  go_big_quiet_step (fail)
  go_big_quiet_want
  refine quiet_load 22 _ rfl n 0 rfl A _ HQBA.out Try.underlying22 rfl LA.out.i ?_
  simp only [Act.put, List.setIfInBounds_toArray, List.set_cons_zero, List.set_cons_succ]
  go_big_quiet_on
  go_big_quiet_want
  refine quiet_load 22 _ rfl (n + 1) 0 rfl B _ HQBB.out Try.underlying22 rfl LB.out.i ?_
  simp only [Act.put, List.setIfInBounds_toArray, List.set_cons_zero, List.set_cons_succ]
  go_big_quiet_on
  go_big_quiet_step ((go_at_call 18; exact cl_of (sab _) (Nat.le_refl _)))
  go_big_quiet_want
  refine quiet_load 22 _ rfl (n + 1) 0 rfl B _ HQBB.out Try.underlying22 rfl LB.out.i ?_
  simp only [Act.put, List.setIfInBounds_toArray, List.set_cons_zero, List.set_cons_succ]
  go_big_quiet_on
  go_big_quiet_step ((go_at_call 15; exact cl_of (cdb _) (Nat.le_refl _)))
  go_big_quiet_want
  refine quiet_load 22 _ rfl n 0 rfl A _ HQBA.out Try.underlying22 rfl LA.out.i ?_
  simp only [Act.put, List.setIfInBounds_toArray, List.set_cons_zero, List.set_cons_succ]
  go_big_quiet_on
  go_big_quiet_step ((go_at_call 22; exact cl_of (red _) (Nat.le_refl _)))
  go_big_quiet_step (fail)
  go_big_quiet_step (fail)
  go_big_quiet_step (fail)
  refine wpQuiet_nil ?_
  rintro _ ⟨xq, rfl⟩
  have hb := xq.h
  have HB_3 := (show Hid (Below w.heap.size w xq.u) from HB_2.out.trans (hb.mono HB_2.out.size))
  have BA_3 := (show Hid (Bo xq.u n A) from BA_2.out.below hb)
  have BB_3 := (show Hid (Bo xq.u (n + 1) B) from BB_2.out.below hb)
  have BC_3 := (show Hid (Bo xq.u (n + 2) C) from BC_2.out.below hb)
  obtain ⟨w3, hw3⟩ : ∃ v, xq.u = v := ⟨_, rfl⟩
  rw [hw3] at HB_3 BA_3 BB_3 BC_3 ⊢
  clear hw3 hb xq hne HB_2 BA_2 BB_2 BC_2 HQBA HQBB HQBC
  go_wp2
  have HQBA := (show Hid _ from BA_3.out.cl)
  have HQBB := (show Hid _ from BB_3.out.cl)
  have HQBC := (show Hid _ from BC_3.out.cl)
  have hne := Cl.ne w3.heap.size w3
  refine region_cl (N := w3.heap.size) (W := w3) (by kernel_rfl) (by kernel_rfl) (Below.refl _ _) ?_
  go_big_quiet_want
  refine quiet_load 22 _ rfl n 0 rfl A _ HQBA.out Try.underlying22 rfl LA.out.i ?_
  simp only [Act.put, List.setIfInBounds_toArray, List.set_cons_zero, List.set_cons_succ]
  go_big_quiet_on
  go_big_quiet_want
  refine quiet_load 22 _ rfl (n + 1) 0 rfl B _ HQBB.out Try.underlying22 rfl LB.out.i ?_
  simp only [Act.put, List.setIfInBounds_toArray, List.set_cons_zero, List.set_cons_succ]
  go_big_quiet_on
  go_big_quiet_step ((go_at_call 15; exact cl_of (cab _) (Nat.le_refl _)))
  go_big_quiet_want
  refine quiet_load 22 _ rfl (n + 2) 0 rfl C _ HQBC.out Try.underlying22 rfl LC.out.i ?_
  simp only [Act.put, List.setIfInBounds_toArray, List.set_cons_zero, List.set_cons_succ]
  go_big_quiet_on
  go_big_quiet_step ((go_at_call 15; exact cl_of (csc _) (Nat.le_refl _)))
  go_big_quiet_want
  refine quiet_load 22 _ rfl n 0 rfl A _ HQBA.out Try.underlying22 rfl LA.out.i ?_
  simp only [Act.put, List.setIfInBounds_toArray, List.set_cons_zero, List.set_cons_succ]
  go_big_quiet_on
  go_big_quiet_want
  refine quiet_load 22 _ rfl (n + 1) 0 rfl B _ HQBB.out Try.underlying22 rfl LB.out.i ?_
  simp only [Act.put, List.setIfInBounds_toArray, List.set_cons_zero, List.set_cons_succ]
  go_big_quiet_on
  go_big_quiet_want
  refine quiet_load 22 _ rfl (n + 2) 0 rfl C _ HQBC.out Try.underlying22 rfl LC.out.i ?_
  simp only [Act.put, List.setIfInBounds_toArray, List.set_cons_zero, List.set_cons_succ]
  go_big_quiet_on
  go_big_quiet_step ((go_at_call 15; exact cl_of (cbc _) (Nat.le_refl _)))
  go_big_quiet_step ((go_at_call 15; exact cl_of (cau _) (Nat.le_refl _)))
  go_big_quiet_step (fail)
  go_big_quiet_step (fail)
  go_big_quiet_want
  refine quiet_load 22 _ rfl n 0 rfl A _ HQBA.out Try.underlying22 rfl LA.out.i ?_
  simp only [Act.put, List.setIfInBounds_toArray, List.set_cons_zero, List.set_cons_succ]
  go_big_quiet_on
  go_big_quiet_step ((go_at_call 24; exact cl_of (c1 _) (Nat.le_refl _)))
  go_big_quiet_step ((go_at_call 20; exact cl_of (ma1 _) (Nat.le_refl _)))
  go_big_quiet_want
  refine quiet_load 22 _ rfl n 0 rfl A _ HQBA.out Try.underlying22 rfl LA.out.i ?_
  simp only [Act.put, List.setIfInBounds_toArray, List.set_cons_zero, List.set_cons_succ]
  go_big_quiet_on
  go_big_quiet_step ((go_at_call 22; exact cl_of (red _) (Nat.le_refl _)))
  go_big_quiet_step (fail)
  go_big_quiet_step (fail)
  go_big_quiet_step (fail)
  go_big_quiet_want
  refine quiet_load 22 _ rfl n 0 rfl A _ HQBA.out Try.underlying22 rfl LA.out.i ?_
  simp only [Act.put, List.setIfInBounds_toArray, List.set_cons_zero, List.set_cons_succ]
  go_big_quiet_on
  go_big_quiet_want
  refine quiet_load 22 _ rfl n 0 rfl A _ HQBA.out Try.underlying22 rfl LA.out.i ?_
  simp only [Act.put, List.setIfInBounds_toArray, List.set_cons_zero, List.set_cons_succ]
  go_big_quiet_on
  go_big_quiet_step ((go_at_call 18; exact cl_of (saa _) (Nat.le_refl _)))
  go_big_quiet_step ((go_at_call 24; exact cl_of (c0 _) (Nat.le_refl _)))
  go_big_quiet_step (fail)
  go_big_quiet_step (fail)
  go_big_quiet_step (fail)
  refine wpQuiet_nil ?_
  rintro _ ⟨xq, rfl⟩
  have hb := xq.h
  have HB_4 := (show Hid (Below w.heap.size w xq.u) from HB_3.out.trans (hb.mono HB_3.out.size))
  have BA_4 := (show Hid (Bo xq.u n A) from BA_3.out.below hb)
  have BB_4 := (show Hid (Bo xq.u (n + 1) B) from BB_3.out.below hb)
  have BC_4 := (show Hid (Bo xq.u (n + 2) C) from BC_3.out.below hb)
  obtain ⟨w4, hw4⟩ : ∃ v, xq.u = v := ⟨_, rfl⟩
  rw [hw4] at HB_4 BA_4 BB_4 BC_4 ⊢
  clear hw4 hb xq hne HB_3 BA_3 BB_3 BC_3 HQBA HQBB HQBC
  go_wp2_with (first
    | (refine wpList_load_mid rfl 22 (.tmp 3) rfl n 0 rfl A _ BA_4.out.1 Try.underlying22 rfl LA.out.i ?_)
    | (refine wpList_load_mid rfl 22 (.tmp 4) rfl (n + 1) 0 rfl B _ BB_4.out.1 Try.underlying22 rfl LB.out.i ?_)
    | (refine wpList_load_mid rfl 22 (.tmp 5) rfl (n + 2) 0 rfl C _ BC_4.out.1 Try.underlying22 rfl LC.out.i ?_)
    | (refine wpList_load_mid rfl 22 (.tmp 3) rfl n 0 rfl A _ BA_5.out.1 Try.underlying22 rfl LA.out.i ?_)
    | (refine wpList_load_mid rfl 22 (.tmp 4) rfl (n + 1) 0 rfl B _ BB_5.out.1 Try.underlying22 rfl LB.out.i ?_)
    | (refine wpList_load_mid rfl 22 (.tmp 5) rfl (n + 2) 0 rfl C _ BC_5.out.1 Try.underlying22 rfl LC.out.i ?_)
    | (refine wpList_load_mid rfl 22 (.tmp 3) rfl n 0 rfl A _ BA_6.out.1 Try.underlying22 rfl LA.out.i ?_)
    | (refine wpList_load_mid rfl 22 (.tmp 4) rfl (n + 1) 0 rfl B _ BB_6.out.1 Try.underlying22 rfl LB.out.i ?_)
    | (refine wpList_load_mid rfl 22 (.tmp 5) rfl (n + 2) 0 rfl C _ BC_6.out.1 Try.underlying22 rfl LC.out.i ?_)
    | (refine wpList_load_mid rfl 22 (.tmp 11) rfl bBI 0 rfl X0 _ BI_6.out.1 Try.underlying22 rfl LX0.out.i ?_)
    | (refine wpList_load_mid rfl 22 (.tmp 3) rfl n 0 rfl A _ BA_7.out.1 Try.underlying22 rfl LA.out.i ?_)
    | (refine wpList_load_mid rfl 22 (.tmp 4) rfl (n + 1) 0 rfl B _ BB_7.out.1 Try.underlying22 rfl LB.out.i ?_)
    | (refine wpList_load_mid rfl 22 (.tmp 5) rfl (n + 2) 0 rfl C _ BC_7.out.1 Try.underlying22 rfl LC.out.i ?_)
    | (refine wpList_load_mid rfl 22 (.tmp 11) rfl bBI 0 rfl X0 _ BI_7.out.1 Try.underlying22 rfl LX0.out.i ?_)
    | (refine wpList_load_mid rfl 22 (.tmp 3) rfl n 0 rfl A _ BA_8.out.1 Try.underlying22 rfl LA.out.i ?_)
    | (refine wpList_load_mid rfl 22 (.tmp 4) rfl (n + 1) 0 rfl B _ BB_8.out.1 Try.underlying22 rfl LB.out.i ?_)
    | (refine wpList_load_mid rfl 22 (.tmp 5) rfl (n + 2) 0 rfl C _ BC_8.out.1 Try.underlying22 rfl LC.out.i ?_)
    | (refine wpList_load_mid rfl 22 (.tmp 11) rfl bBI 0 rfl X0 _ BI_8.out.1 Try.underlying22 rfl LX0.out.i ?_)
    | (have hq := TK_1; go_at_call 23; refine (cI _).mono ?_; rintro e w5 ⟨rfl, hb⟩; have HB_5 := (show Hid (Below w.heap.size w w5) from HB_4.out.trans (hb.mono HB_4.out.size)); have BA_5 := (show Hid (Bo w5 n A) from BA_4.out.below hb); have BB_5 := (show Hid (Bo w5 (n + 1) B) from BB_4.out.below hb); have BC_5 := (show Hid (Bo w5 (n + 2) C) from BC_4.out.below hb); have TK_2 := (show Hid True from trivial); clear hq TK_1 hb HB_4 BA_4 BB_4 BC_4)
    | (have hq := TK_2; refine wpList_store_mid rfl 22 (.tmp 11) (.tmp 112) rfl w5.heap.size 0 X0.toArray rfl rfl (HLT.out X0 LX0.out w5) LX0.out.j LX0.out.o ?_; simp only; have hbx := HBN.out w5 X0 LX0.out.l; obtain ⟨w6, hw6⟩ : ∃ v, (w5.alloc (.cells Z 22)).setCells w5.heap.size 0 X0 = v := ⟨_, rfl⟩; rw [hw6] at hbx ⊢; clear hw6; have hb := hbx.2; replace hbx := hbx.1; obtain ⟨bBI, hbBI⟩ : ∃ b, w5.heap.size = b := ⟨_, rfl⟩; rw [hbBI] at hbx ⊢; clear hbBI; have HB_6 := (show Hid (Below w.heap.size w w6) from HB_5.out.trans (hb.mono HB_5.out.size)); have BA_6 := (show Hid (Bo w6 n A) from BA_5.out.below hb); have BB_6 := (show Hid (Bo w6 (n + 1) B) from BB_5.out.below hb); have BC_6 := (show Hid (Bo w6 (n + 2) C) from BC_5.out.below hb); have BI_6 := (show Hid (Bo w6 bBI X0) from hbx); have TK_3 := (show Hid True from trivial); clear hq TK_2 hb HB_5 BA_5 BB_5 BC_5 hbx)
    | (have hq := TK_3; go_at_call 22; refine (red _).mono ?_; rintro e w7 ⟨rfl, hb⟩; have HB_7 := (show Hid (Below w.heap.size w w7) from HB_6.out.trans (hb.mono HB_6.out.size)); have BA_7 := (show Hid (Bo w7 n A) from BA_6.out.below hb); have BB_7 := (show Hid (Bo w7 (n + 1) B) from BB_6.out.below hb); have BC_7 := (show Hid (Bo w7 (n + 2) C) from BC_6.out.below hb); have BI_7 := (show Hid (Bo w7 bBI X0) from BI_6.out.below hb); have TK_4 := (show Hid True from trivial); clear hq TK_3 hb HB_6 BA_6 BB_6 BC_6 BI_6)
    | (have hq := TK_4; go_at_call 24; refine (c0 _).mono ?_; rintro e w8 ⟨rfl, hb⟩; have HB_8 := (show Hid (Below w.heap.size w w8) from HB_7.out.trans (hb.mono HB_7.out.size)); have BA_8 := (show Hid (Bo w8 n A) from BA_7.out.below hb); have BB_8 := (show Hid (Bo w8 (n + 1) B) from BB_7.out.below hb); have BC_8 := (show Hid (Bo w8 (n + 2) C) from BC_7.out.below hb); have BI_8 := (show Hid (Bo w8 bBI X0) from BI_7.out.below hb); have TK_5 := (show Hid True from trivial); clear hq TK_4 hb HB_7 BA_7 BB_7 BC_7 BI_7))
  go_ret
  exact ⟨rfl, HB_8.out⟩
end Fd
end Go.Proofs.Ytgdekigdbbldoaa

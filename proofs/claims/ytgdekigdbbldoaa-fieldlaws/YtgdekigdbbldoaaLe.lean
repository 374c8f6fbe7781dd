/- The walk of FieldLaws: it answers true. -/
import Derived.Test.YtgdekigdbbldoaaLd
namespace Go.Proofs.Ytgdekigdbbldoaa
open Go.RowKit
namespace Fd
open Rg Pratt

set_option maxHeartbeats 8000000 in
set_option maxRecDepth 8000 in
theorem laws_ro (a b c : Nat) (ha : a < 115792089237316195423570985008687907853269984665640564039457584007913129639936) (hb : b < 115792089237316195423570985008687907853269984665640564039457584007913129639936) (hc : c < 115792089237316195423570985008687907853269984665640564039457584007913129639936) (hyp : ¬ a % p = 0 ∧ rt (a % p) * rt (a % p) % p = a % p ∧ evn (rt (b % p * (b % p) % p)) ≠ b % p) (w : World) :
    Calls Try.prog 6 #[bv a, bv b, bv c] w fun e w' => e = .returned (.bool true) ∧ Below w.heap.size w w' := by
  have cS := fun W => shown_any W
  obtain ⟨x, hap⟩ : ∃ x, a % p = x := ⟨_, rfl⟩
  rw [hap] at hyp
  have hxl : x < p := by rw [← hap]; exact Nat.mod_lt _ (by decide)
  obtain ⟨s1, hs1⟩ : ∃ s, (a % p + b % p) % p = s := ⟨_, rfl⟩
  have hs1l : s1 < 115792089237316195423570985008687907853269984665640564039457584007913129639936 := by rw [← hs1]; exact Nat.lt_trans (Nat.mod_lt _ (by decide)) plt
  obtain ⟨m1, hm1⟩ : ∃ s, a * b % p = s := ⟨_, rfl⟩
  have hm1l : m1 < 115792089237316195423570985008687907853269984665640564039457584007913129639936 := by rw [← hm1]; exact Nat.lt_trans (Nat.mod_lt _ (by decide)) plt
  obtain ⟨t1, ht1⟩ : ∃ s, m1 * c % p = s := ⟨_, rfl⟩
  have ht1l : t1 < 115792089237316195423570985008687907853269984665640564039457584007913129639936 := by rw [← ht1]; exact Nat.lt_trans (Nat.mod_lt _ (by decide)) plt
  obtain ⟨n1, hn1⟩ : ∃ s, b * c % p = s := ⟨_, rfl⟩
  have hn1l : n1 < 115792089237316195423570985008687907853269984665640564039457584007913129639936 := by rw [← hn1]; exact Nat.lt_trans (Nat.mod_lt _ (by decide)) plt
  obtain ⟨u1, hu1⟩ : ∃ s, (b % p + c % p) % p = s := ⟨_, rfl⟩
  have hu1l : u1 < 115792089237316195423570985008687907853269984665640564039457584007913129639936 := by rw [← hu1]; exact Nat.lt_trans (Nat.mod_lt _ (by decide)) plt
  obtain ⟨v1, hv1⟩ : ∃ s, a * u1 % p = s := ⟨_, rfl⟩
  have hv1l : v1 < 115792089237316195423570985008687907853269984665640564039457584007913129639936 := by rw [← hv1]; exact Nat.lt_trans (Nat.mod_lt _ (by decide)) plt
  obtain ⟨o1, ho1⟩ : ∃ s, a * c % p = s := ⟨_, rfl⟩
  have ho1l : o1 < 115792089237316195423570985008687907853269984665640564039457584007913129639936 := by rw [← ho1]; exact Nat.lt_trans (Nat.mod_lt _ (by decide)) plt
  obtain ⟨d1, hd1⟩ : ∃ s, (a % p + p - b % p) % p = s := ⟨_, rfl⟩
  have hd1l : d1 < 115792089237316195423570985008687907853269984665640564039457584007913129639936 := by rw [← hd1]; exact Nat.lt_trans (Nat.mod_lt _ (by decide)) plt
  obtain ⟨g1, hg1⟩ : ∃ s, (s1 % p + c % p) % p = s := ⟨_, rfl⟩
  have hg1l : g1 < 115792089237316195423570985008687907853269984665640564039457584007913129639936 := by rw [← hg1]; exact Nat.lt_trans (Nat.mod_lt _ (by decide)) plt
  have hxL : x < 115792089237316195423570985008687907853269984665640564039457584007913129639936 := Nat.lt_trans hxl plt
  have cab : ∀ W : World, Calls Try.prog 15 #[bv a, bv b] W fun e w' => e = .returned (bv s1) ∧ Below W.heap.size W w' := fun W => by have h := add_any a b W ha hb; rwa [hs1] at h
  have cba : ∀ W : World, Calls Try.prog 15 #[bv b, bv a] W fun e w' => e = .returned (bv s1) ∧ Below W.heap.size W w' := fun W => by have h := add_any b a W hb ha; rwa [Lm.add_c, hs1] at h
  have mab : ∀ W : World, Calls Try.prog 20 #[bv a, bv b] W fun e w' => e = .returned (bv m1) ∧ Below W.heap.size W w' := fun W => by have h := mul_any a b W ha hb; rwa [hm1] at h
  have mba : ∀ W : World, Calls Try.prog 20 #[bv b, bv a] W fun e w' => e = .returned (bv m1) ∧ Below W.heap.size W w' := fun W => by have h := mul_any b a W hb ha; rwa [Lm.mul_c, hm1] at h
  have mmc : ∀ W : World, Calls Try.prog 20 #[bv m1, bv c] W fun e w' => e = .returned (bv t1) ∧ Below W.heap.size W w' := fun W => by have h := mul_any m1 c W hm1l hc; rwa [ht1] at h
  have mbc : ∀ W : World, Calls Try.prog 20 #[bv b, bv c] W fun e w' => e = .returned (bv n1) ∧ Below W.heap.size W w' := fun W => by have h := mul_any b c W hb hc; rwa [hn1] at h
  have hT2 : a * n1 % p = t1 := by rw [← hn1, Lm.mul_a, hm1, ht1]
  have man : ∀ W : World, Calls Try.prog 20 #[bv a, bv n1] W fun e w' => e = .returned (bv t1) ∧ Below W.heap.size W w' := fun W => by have h := mul_any a n1 W ha hn1l; rwa [hT2] at h
  have cbc : ∀ W : World, Calls Try.prog 15 #[bv b, bv c] W fun e w' => e = .returned (bv u1) ∧ Below W.heap.size W w' := fun W => by have h := add_any b c W hb hc; rwa [hu1] at h
  have mau : ∀ W : World, Calls Try.prog 20 #[bv a, bv u1] W fun e w' => e = .returned (bv v1) ∧ Below W.heap.size W w' := fun W => by have h := mul_any a u1 W ha hu1l; rwa [hv1] at h
  have mac : ∀ W : World, Calls Try.prog 20 #[bv a, bv c] W fun e w' => e = .returned (bv o1) ∧ Below W.heap.size W w' := fun W => by have h := mul_any a c W ha hc; rwa [ho1] at h
  have hV2 : (m1 % p + o1 % p) % p = v1 := by rw [← hm1, ← ho1, Lm.dist, hu1, hv1]
  have cmo : ∀ W : World, Calls Try.prog 15 #[bv m1, bv o1] W fun e w' => e = .returned (bv v1) ∧ Below W.heap.size W w' := fun W => by have h := add_any m1 o1 W hm1l ho1l; rwa [hV2] at h
  have sab : ∀ W : World, Calls Try.prog 18 #[bv a, bv b] W fun e w' => e = .returned (bv d1) ∧ Below W.heap.size W w' := fun W => by have h := sub_any a b W ha hb; rwa [hd1] at h
  have hD2 : (d1 % p + b % p) % p = x := by rw [← hd1, Lm.sub_add, hap]
  have cdb : ∀ W : World, Calls Try.prog 15 #[bv d1, bv b] W fun e w' => e = .returned (bv x) ∧ Below W.heap.size W w' := fun W => by have h := add_any d1 b W hd1l hb; rwa [hD2] at h
  have red : ∀ W : World, Calls Try.prog 22 #[bv a] W fun e w' => e = .returned (bv x) ∧ Below W.heap.size W w' := fun W => by have h := reduce_any a W ha; rwa [hap] at h
  have csc : ∀ W : World, Calls Try.prog 15 #[bv s1, bv c] W fun e w' => e = .returned (bv g1) ∧ Below W.heap.size W w' := fun W => by have h := add_any s1 c W hs1l hc; rwa [hg1] at h
  have hG2 : (a % p + u1 % p) % p = g1 := by rw [← hu1, Lm.add_a, hs1, hg1]
  have cau : ∀ W : World, Calls Try.prog 15 #[bv a, bv u1] W fun e w' => e = .returned (bv g1) ∧ Below W.heap.size W w' := fun W => by have h := add_any a u1 W ha hu1l; rwa [hG2] at h
  have ma1 : ∀ W : World, Calls Try.prog 20 #[bv a, bv 1] W fun e w' => e = .returned (bv x) ∧ Below W.heap.size W w' := fun W => by have h := mul_any a 1 W ha (by decide); rwa [Lm.mul_1, hap] at h
  have saa : ∀ W : World, Calls Try.prog 18 #[bv a, bv a] W fun e w' => e = .returned (bv 0) ∧ Below W.heap.size W w' := fun W => by have h := sub_any a a W ha ha; rwa [Lm.sub_self] at h
  have c0 : ∀ W : World, Calls Try.prog 24 #[.int .u8 0] W fun e w' => e = .returned (bv 0) ∧ Below W.heap.size W w' := fun W => small_any 0 W (by decide)
  have c1 : ∀ W : World, Calls Try.prog 24 #[.int .u8 1] W fun e w' => e = .returned (bv 1) ∧ Below W.heap.size W w' := fun W => small_any 1 W (by decide)
  obtain ⟨i1, hil, him, _, cI⟩ := inv_at a ha (by rw [hap]; exact hyp.1)
  have hiL : i1 < 115792089237316195423570985008687907853269984665640564039457584007913129639936 := Nat.lt_trans hil plt
  obtain ⟨y, hbp⟩ : ∃ y, b % p = y := ⟨_, rfl⟩
  have hyl : y < p := by rw [← hbp]; exact Nat.mod_lt _ (by decide)
  have hyL : y < 115792089237316195423570985008687907853269984665640564039457584007913129639936 := Nat.lt_trans hyl plt
  rw [hbp] at hyp
  have mai : ∀ W : World, Calls Try.prog 20 #[bv a, bv i1] W fun e w' => e = .returned (bv 1) ∧ Below W.heap.size W w' := fun W => by have h := mul_any a i1 W ha hiL; rwa [him] at h
  obtain ⟨w2, hw2⟩ : ∃ s, (a % p + a % p) % p = s := ⟨_, rfl⟩
  have hw2l : w2 < 115792089237316195423570985008687907853269984665640564039457584007913129639936 := by rw [← hw2]; exact Nat.lt_trans (Nat.mod_lt _ (by decide)) plt
  have caa : ∀ W : World, Calls Try.prog 15 #[bv a, bv a] W fun e w' => e = .returned (bv w2) ∧ Below W.heap.size W w' := fun W => by have h := add_any a a W ha ha; rwa [hw2] at h
  obtain ⟨q2, hq2⟩ : ∃ s, b * b % p = s := ⟨_, rfl⟩
  have hq2l : q2 < 115792089237316195423570985008687907853269984665640564039457584007913129639936 := by rw [← hq2]; exact Nat.lt_trans (Nat.mod_lt _ (by decide)) plt
  have mbb : ∀ W : World, Calls Try.prog 20 #[bv b, bv b] W fun e w' => e = .returned (bv q2) ∧ Below W.heap.size W w' := fun W => by have h := mul_any b b W hb hb; rwa [hq2] at h
  have hq3 : y * y % p = q2 := by rw [← hq2, Lm.sq_red b, hbp]
  have hq4 : q2 % p = q2 := by rw [← hq2, Nat.mod_mod]
  have hw4 : w2 % p = w2 := by rw [← hw2, Nat.mod_mod]
  have hw5 : (x + x) % p = w2 := by rw [← hw2, hap]
  rw [hq3] at hyp
  have hrq : rt q2 * rt q2 % p = q2 := by have h := root_sq y hyl; rwa [hq3] at h
  have hrl : evn (rt q2) < p := evn_lt _ (rt_lt q2)
  have hev := Lm.byte_even _ (Lm.evn_even _ (rt_lt q2))
  obtain ⟨r2, hr2⟩ : ∃ s, evn (rt q2) = s := ⟨_, rfl⟩
  have hr2l : r2 < 115792089237316195423570985008687907853269984665640564039457584007913129639936 := by rw [← hr2]; exact Nat.lt_trans hrl plt
  have hr2p : r2 < p := by rw [← hr2]; exact hrl
  have rq : ∀ W : World, Calls Try.prog 26 #[bv q2] W fun e w' => e = .returned (.tuple #[bv r2, .nilIface]) ∧ Below W.heap.size W w' := fun W => by have h := proot_some q2 W hq2l (by rw [hq4]; exact hrq); rwa [hq4, hr2] at h
  rw [hr2] at hev hyp
  have redb : ∀ W : World, Calls Try.prog 22 #[bv b] W fun e w' => e = .returned (bv y) ∧ Below W.heap.size W w' := fun W => by have h := reduce_any b W hb; rwa [hbp] at h
  obtain ⟨r1, hr1⟩ : ∃ s, evn (rt x) = s := ⟨_, rfl⟩
  have hno := (one_root x (Nat.pos_of_ne_zero hyp.1) hxl).1 hyp.2.1
  rw [hw5] at hno
  have rta : ∀ W : World, Calls Try.prog 26 #[bv a] W fun e w' => e = .returned (.tuple #[bv r1, .nilIface]) ∧ Below W.heap.size W w' := fun W => by have h := proot_some a W ha (by rw [hap]; exact hyp.2.1); rwa [hap, hr1] at h
  have rtw : ∀ W : World, Calls Try.prog 26 #[bv w2] W fun e w' => e = .returned (.tuple #[bv 0, .iface 35 (.int .i64 9)]) ∧ Below W.heap.size W w' := fun W => proot_none w2 W hw2l (by rw [hw4]; exact hno)
  have hbk : (r2 % p + b % p) % p = 0 := by have h := Lm.back y hyl (by rw [hq3, hr2]; exact hyp.2.2); rwa [hq3, hr2, ← Nat.mod_eq_of_lt hr2p, ← hbp] at h
  have ceb : ∀ W : World, Calls Try.prog 15 #[bv r2, bv b] W fun e w' => e = .returned (bv 0) ∧ Below W.heap.size W w' := fun W => by have h := add_any r2 b W hr2l hb; rwa [hbk] at h
  have en := eq_nil
  have en9 : ∀ W : World, (binOp .eql 32 (.iface 35 (.int .i64 9)) .nilIface).run Try.prog W = .ok (.bool false) W := fun W => bin_err_nil _ _ W
  have qS : ∀ W : World, (Op.equalIn 10000 22 (.agg (bvc s1).toArray) (.agg (bvc s1).toArray)).run Try.prog W = .ok true W := fun W => by have h := eq22 s1 s1 W hs1l hs1l; rwa [decide_eq_true rfl] at h
  have qM : ∀ W : World, (Op.equalIn 10000 22 (.agg (bvc m1).toArray) (.agg (bvc m1).toArray)).run Try.prog W = .ok true W := fun W => by have h := eq22 m1 m1 W hm1l hm1l; rwa [decide_eq_true rfl] at h
  have qT : ∀ W : World, (Op.equalIn 10000 22 (.agg (bvc t1).toArray) (.agg (bvc t1).toArray)).run Try.prog W = .ok true W := fun W => by have h := eq22 t1 t1 W ht1l ht1l; rwa [decide_eq_true rfl] at h
  have qV : ∀ W : World, (Op.equalIn 10000 22 (.agg (bvc v1).toArray) (.agg (bvc v1).toArray)).run Try.prog W = .ok true W := fun W => by have h := eq22 v1 v1 W hv1l hv1l; rwa [decide_eq_true rfl] at h
  have qG : ∀ W : World, (Op.equalIn 10000 22 (.agg (bvc g1).toArray) (.agg (bvc g1).toArray)).run Try.prog W = .ok true W := fun W => by have h := eq22 g1 g1 W hg1l hg1l; rwa [decide_eq_true rfl] at h
  have q0 : ∀ W : World, (Op.equalIn 10000 22 (.agg (bvc 0).toArray) (.agg (bvc 0).toArray)).run Try.prog W = .ok true W := fun W => by have h := eq22 0 0 W (by decide) (by decide); rwa [decide_eq_true rfl] at h
  have q1 : ∀ W : World, (Op.equalIn 10000 22 (.agg (bvc 1).toArray) (.agg (bvc 1).toArray)).run Try.prog W = .ok true W := fun W => by have h := eq22 1 1 W (by decide) (by decide); rwa [decide_eq_true rfl] at h
  have qR : ∀ W : World, (Op.equalIn 10000 22 (.agg (bvc x).toArray) (.agg (bvc x).toArray)).run Try.prog W = .ok true W := fun W => by have h := eq22 x x W hxL hxL; rwa [decide_eq_true rfl] at h
  have qR0 : ∀ W : World, (Op.equalIn 10000 22 (.agg (bvc x).toArray) (.agg (bvc 0).toArray)).run Try.prog W = .ok false W := fun W => by have h := eq22 x 0 W hxL (by decide); rwa [decide_eq_false hyp.1] at h
  have qEY : ∀ W : World, (Op.equalIn 10000 22 (.agg (bvc r2).toArray) (.agg (bvc y).toArray)).run Try.prog W = .ok false W := fun W => by have h := eq22 r2 y W hr2l hyL; rwa [decide_eq_false hyp.2.2] at h
  have hby := by_lt r2 0
  have HEB : Hid ((bvc r2)[0]? = some (.int .u8 ((by_ r2 0 : Nat) : Int))) := bvc_at r2 0 (by decide)
  obtain ⟨e0, he0⟩ : ∃ e, by_ r2 0 = e := ⟨_, rfl⟩
  rw [he0] at hby hev HEB
  have ev1 : Int.tmod (e0 : Int) 2 = 0 := by rw [Int.tmod_eq_emod_of_nonneg (by omega)]; omega
  have ev2 : IntKind.u8.wrap (e0 : Int) = (e0 : Int) := by rw [IntKind.wrap_u8]; omega
  unfold bv at cab cba mab mba mmc mbc man cbc mau mac cmo sab cdb red csc cau ma1 saa mai caa mbb rq redb rta rtw ceb c0 c1 cI ⊢
  have LA : Hid (L32 (bvc a)) := l32 a
  have LB : Hid (L32 (bvc b)) := l32 b
  have LC : Hid (L32 (bvc c)) := l32 c
  have LX0 : Hid (L32 (bvc 0)) := l32 0
  have LX1 : Hid (L32 (bvc 1)) := l32 1
  have LS : Hid (L32 (bvc s1)) := l32 s1
  have LM : Hid (L32 (bvc m1)) := l32 m1
  have LT : Hid (L32 (bvc t1)) := l32 t1
  have LN1 : Hid (L32 (bvc n1)) := l32 n1
  have LU : Hid (L32 (bvc u1)) := l32 u1
  have LV : Hid (L32 (bvc v1)) := l32 v1
  have LO1 : Hid (L32 (bvc o1)) := l32 o1
  have LD : Hid (L32 (bvc d1)) := l32 d1
  have LG : Hid (L32 (bvc g1)) := l32 g1
  have LR : Hid (L32 (bvc x)) := l32 x
  have LI : Hid (L32 (bvc i1)) := l32 i1
  have LY : Hid (L32 (bvc y)) := l32 y
  have LW2 : Hid (L32 (bvc w2)) := l32 w2
  have LQ : Hid (L32 (bvc q2)) := l32 q2
  have LE : Hid (L32 (bvc r2)) := l32 r2
  have LF : Hid (L32 (bvc r1)) := l32 r1
  obtain ⟨A, hA⟩ : ∃ X, bvc a = X := ⟨_, rfl⟩
  obtain ⟨B, hB⟩ : ∃ X, bvc b = X := ⟨_, rfl⟩
  obtain ⟨C, hC⟩ : ∃ X, bvc c = X := ⟨_, rfl⟩
  obtain ⟨X0, hX0⟩ : ∃ X, bvc 0 = X := ⟨_, rfl⟩
  obtain ⟨X1, hX1⟩ : ∃ X, bvc 1 = X := ⟨_, rfl⟩
  obtain ⟨S, hS⟩ : ∃ X, bvc s1 = X := ⟨_, rfl⟩
  obtain ⟨M, hM⟩ : ∃ X, bvc m1 = X := ⟨_, rfl⟩
  obtain ⟨T, hT⟩ : ∃ X, bvc t1 = X := ⟨_, rfl⟩
  obtain ⟨N1, hN1⟩ : ∃ X, bvc n1 = X := ⟨_, rfl⟩
  obtain ⟨U, hU⟩ : ∃ X, bvc u1 = X := ⟨_, rfl⟩
  obtain ⟨V, hV⟩ : ∃ X, bvc v1 = X := ⟨_, rfl⟩
  obtain ⟨O1, hO1⟩ : ∃ X, bvc o1 = X := ⟨_, rfl⟩
  obtain ⟨D, hD⟩ : ∃ X, bvc d1 = X := ⟨_, rfl⟩
  obtain ⟨G, hG⟩ : ∃ X, bvc g1 = X := ⟨_, rfl⟩
  obtain ⟨R, hR⟩ : ∃ X, bvc x = X := ⟨_, rfl⟩
  obtain ⟨I, hI⟩ : ∃ X, bvc i1 = X := ⟨_, rfl⟩
  obtain ⟨Y, hY⟩ : ∃ X, bvc y = X := ⟨_, rfl⟩
  obtain ⟨W2, hW2⟩ : ∃ X, bvc w2 = X := ⟨_, rfl⟩
  obtain ⟨Q, hQ⟩ : ∃ X, bvc q2 = X := ⟨_, rfl⟩
  obtain ⟨E, hE⟩ : ∃ X, bvc r2 = X := ⟨_, rfl⟩
  obtain ⟨F, hF⟩ : ∃ X, bvc r1 = X := ⟨_, rfl⟩
  rw [hA] at LA ⊢ cab cba mab mba man mau mac sab red cau ma1 saa cI mai caa rta
  rw [hB] at LB ⊢ cab cba mab mba mbc cbc sab cdb mbb redb ceb
  rw [hC] at LC ⊢ mmc mbc cbc mac csc
  rw [hX0] at LX0 saa c0 rtw ceb q0 qR0
  rw [hX1] at LX1 ma1 c1 mai q1
  rw [hS] at LS cab cba csc qS
  rw [hM] at LM mab mba mmc cmo qM
  rw [hT] at LT mmc man qT
  rw [hN1] at LN1 mbc man
  rw [hU] at LU cbc mau cau
  rw [hV] at LV mau cmo qV
  rw [hO1] at LO1 mac cmo
  rw [hD] at LD sab cdb
  rw [hG] at LG csc cau qG
  rw [hR] at LR cdb red ma1 qR qR0
  rw [hI] at LI cI mai
  rw [hY] at LY redb qEY
  rw [hW2] at LW2 caa rtw
  rw [hQ] at LQ mbb rq
  rw [hE] at LE rq ceb qEY HEB
  rw [hF] at LF rta
  clear hA hB hC hX0 hX1 hS hM hT hN1 hU hV hO1 hD hG hR hI hY hW2 hQ hE hF
  clear ha hb hc hap hxl hxL hyp hs1 hs1l hm1 hm1l ht1 ht1l hn1 hn1l hu1 hu1l hv1 hv1l ho1 ho1l hd1 hd1l hg1 hg1l hT2 hV2 hD2 hG2 hil him hiL hbp hyl hyL hw2 hw2l hq2 hq2l hq3 hq4 hw4 hw5 hrq hrl hev hr2 hr2l hr2p hr1 hno hby he0 hbk
  have hz := zero22
  have HBN : Hid (∀ (W : World) (R : List Value), R.length = 32 → Bo ((W.alloc (.cells z22 22)).setCells W.heap.size 0 R) W.heap.size R ∧ Below W.heap.size W ((W.alloc (.cells z22 22)).setCells W.heap.size 0 R)) := box_new
  have HLT : Hid (∀ (R : List Value), L32 R → ∀ W : World, (W.alloc (.cells z22 22)).there W.heap.size 0 R.toArray.size) := fun R h => h.t
  obtain ⟨Z, hZ⟩ : ∃ Z, z22 = Z := ⟨_, rfl⟩
  rw [hZ] at hz HBN HLT
  clear hZ
  obtain ⟨n, hn⟩ : ∃ n, w.heap.size = n := ⟨_, rfl⟩
  have BA : Hid (Bo (((w.alloc (.cells A.toArray 22)).alloc (.cells B.toArray 22)).alloc (.cells C.toArray 22)) n A) := by show Bo _ _ _; rw [← hn]; exact (bo3 _ _ _ _).1
  have BB : Hid (Bo (((w.alloc (.cells A.toArray 22)).alloc (.cells B.toArray 22)).alloc (.cells C.toArray 22)) (n + 1) B) := by show Bo _ _ _; rw [← hn]; exact (bo3 _ _ _ _).2.1
  have BC : Hid (Bo (((w.alloc (.cells A.toArray 22)).alloc (.cells B.toArray 22)).alloc (.cells C.toArray 22)) (n + 2) C) := by show Bo _ _ _; rw [← hn]; exact (bo3 _ _ _ _).2.2
  have HBW : Hid (Below w.heap.size w (((w.alloc (.cells A.toArray 22)).alloc (.cells B.toArray 22)).alloc (.cells C.toArray 22))) := ((((Below.refl _ _).alloc (by first | (simp; done) | (simp; omega)) _).alloc (by first | (simp; done) | (simp; omega)) _).alloc (by first | (simp; done) | (simp; omega)) _)
  have BA_0 := BA
  have BB_0 := BB
  have BC_0 := BC
  have HB_0 := (show Hid (Below w.heap.size w (((w.alloc (.cells A.toArray 22)).alloc (.cells B.toArray 22)).alloc (.cells C.toArray 22))) from HBW.out)
  have TK_0 := (show Hid True from trivial)
  go_enter Try.func6, Try.ntmps6
  go_wp2_with (first
    | (refine wpList_load_mid rfl 22 (.tmp 3) rfl n 0 rfl A _ BA_0.out.1 Try.underlying22 rfl LA.out.i ?_)
    | (refine wpList_load_mid rfl 22 (.tmp 4) rfl (n + 1) 0 rfl B _ BB_0.out.1 Try.underlying22 rfl LB.out.i ?_)
    | (refine wpList_load_mid rfl 22 (.tmp 5) rfl (n + 2) 0 rfl C _ BC_0.out.1 Try.underlying22 rfl LC.out.i ?_)
    | (refine wpList_load_mid rfl 22 (.tmp 3) rfl n 0 rfl A _ BA_1.out.1 Try.underlying22 rfl LA.out.i ?_)
    | (refine wpList_load_mid rfl 22 (.tmp 4) rfl (n + 1) 0 rfl B _ BB_1.out.1 Try.underlying22 rfl LB.out.i ?_)
    | (refine wpList_load_mid rfl 22 (.tmp 5) rfl (n + 2) 0 rfl C _ BC_1.out.1 Try.underlying22 rfl LC.out.i ?_)
    | (have hq := TK_0; go_at_call 13; refine (cS _).mono ?_; rintro e w1 ⟨rfl, hb⟩; have HB_1 := (show Hid (Below w.heap.size w w1) from HB_0.out.trans (hb.mono HB_0.out.size)); have BA_1 := (show Hid (Bo w1 n A) from BA_0.out.below hb); have BB_1 := (show Hid (Bo w1 (n + 1) B) from BB_0.out.below hb); have BC_1 := (show Hid (Bo w1 (n + 2) C) from BC_0.out.below hb); have TK_1 := (show Hid True from trivial); clear hq TK_0 hb HB_0 BA_0 BB_0 BC_0))
  have HQBA := (show Hid _ from BA_1.out.cl)
  have HQBB := (show Hid _ from BB_1.out.cl)
  have HQBC := (show Hid _ from BC_1.out.cl)
  have hne := Cl.ne w1.heap.size w1
  refine region_cl (N := w1.heap.size) (W := w1) (by kernel_rfl) (by kernel_rfl) (Below.refl _ _) ?_
  go_big_quiet_want
  refine quiet_load 22 _ rfl n 0 rfl A _ HQBA.out Try.underlying22 rfl LA.out.i ?_
  simp only [Act.put, List.setIfInBounds_toArray, List.set_cons_zero, List.set_cons_succ]
  go_big_quiet_on
  go_big_quiet_want
  refine quiet_load 22 _ rfl (n + 1) 0 rfl B _ HQBB.out Try.underlying22 rfl LB.out.i ?_
  simp only [Act.put, List.setIfInBounds_toArray, List.set_cons_zero, List.set_cons_succ]
  go_big_quiet_on
  go_big_quiet_step ((go_at_call 15; exact cl_of (cab _) (Nat.le_refl _)))
  go_big_quiet_want
  refine quiet_load 22 _ rfl (n + 1) 0 rfl B _ HQBB.out Try.underlying22 rfl LB.out.i ?_
  simp only [Act.put, List.setIfInBounds_toArray, List.set_cons_zero, List.set_cons_succ]
  go_big_quiet_on
  go_big_quiet_want
  refine quiet_load 22 _ rfl n 0 rfl A _ HQBA.out Try.underlying22 rfl LA.out.i ?_
  simp only [Act.put, List.setIfInBounds_toArray, List.set_cons_zero, List.set_cons_succ]
  go_big_quiet_on
  go_big_quiet_step ((go_at_call 15; exact cl_of (cba _) (Nat.le_refl _)))
  go_big_quiet_step (fail)
  go_big_quiet_step (fail)
  go_big_quiet_want
  refine quiet_load 22 _ rfl n 0 rfl A _ HQBA.out Try.underlying22 rfl LA.out.i ?_
  simp only [Act.put, List.setIfInBounds_toArray, List.set_cons_zero, List.set_cons_succ]
  go_big_quiet_on
  go_big_quiet_want
  refine quiet_load 22 _ rfl (n + 1) 0 rfl B _ HQBB.out Try.underlying22 rfl LB.out.i ?_
  simp only [Act.put, List.setIfInBounds_toArray, List.set_cons_zero, List.set_cons_succ]
  go_big_quiet_on
  go_big_quiet_step ((go_at_call 20; exact cl_of (mab _) (Nat.le_refl _)))
  go_big_quiet_want
  refine quiet_load 22 _ rfl (n + 1) 0 rfl B _ HQBB.out Try.underlying22 rfl LB.out.i ?_
  simp only [Act.put, List.setIfInBounds_toArray, List.set_cons_zero, List.set_cons_succ]
  go_big_quiet_on
  go_big_quiet_want
  refine quiet_load 22 _ rfl n 0 rfl A _ HQBA.out Try.underlying22 rfl LA.out.i ?_
  simp only [Act.put, List.setIfInBounds_toArray, List.set_cons_zero, List.set_cons_succ]
  go_big_quiet_on
  go_big_quiet_step ((go_at_call 20; exact cl_of (mba _) (Nat.le_refl _)))
  go_big_quiet_step (fail)
  go_big_quiet_step (fail)
  go_big_quiet_step (fail)
  go_big_quiet_want
  refine quiet_load 22 _ rfl n 0 rfl A _ HQBA.out Try.underlying22 rfl LA.out.i ?_
  simp only [Act.put, List.setIfInBounds_toArray, List.set_cons_zero, List.set_cons_succ]
  go_big_quiet_on
  go_big_quiet_want
  refine quiet_load 22 _ rfl (n + 1) 0 rfl B _ HQBB.out Try.underlying22 rfl LB.out.i ?_
  simp only [Act.put, List.setIfInBounds_toArray, List.set_cons_zero, List.set_cons_succ]
  go_big_quiet_on
  go_big_quiet_step ((go_at_call 20; exact cl_of (mab _) (Nat.le_refl _)))
  go_big_quiet_want
  refine quiet_load 22 _ rfl (n + 2) 0 rfl C _ HQBC.out Try.underlying22 rfl LC.out.i ?_
  simp only [Act.put, List.setIfInBounds_toArray, List.set_cons_zero, List.set_cons_succ]
  go_big_quiet_on
  go_big_quiet_step ((go_at_call 20; exact cl_of (mmc _) (Nat.le_refl _)))
  go_big_quiet_want
  refine quiet_load 22 _ rfl n 0 rfl A _ HQBA.out Try.underlying22 rfl LA.out.i ?_
  simp only [Act.put, List.setIfInBounds_toArray, List.set_cons_zero, List.set_cons_succ]
  go_big_quiet_on
  go_big_quiet_want
  refine quiet_load 22 _ rfl (n + 1) 0 rfl B _ HQBB.out Try.underlying22 rfl LB.out.i ?_
  simp only [Act.put, List.setIfInBounds_toArray, List.set_cons_zero, List.set_cons_succ]
  go_big_quiet_on
  go_big_quiet_want
  refine quiet_load 22 _ rfl (n + 2) 0 rfl C _ HQBC.out Try.underlying22 rfl LC.out.i ?_
  simp only [Act.put, List.setIfInBounds_toArray, List.set_cons_zero, List.set_cons_succ]
  go_big_quiet_on
  go_big_quiet_step ((go_at_call 20; exact cl_of (mbc _) (Nat.le_refl _)))
  go_big_quiet_step ((go_at_call 20; exact cl_of (man _) (Nat.le_refl _)))
  go_big_quiet_step (fail)
  go_big_quiet_step (fail)
  go_big_quiet_step (fail)
  refine wpQuiet_nil ?_
  rintro _ ⟨xq, rfl⟩
  have hb := xq.h
  have HB_2 := (show Hid (Below w.heap.size w xq.u) from HB_1.out.trans (hb.mono HB_1.out.size))
  have BA_2 := (show Hid (Bo xq.u n A) from BA_1.out.below hb)
  have BB_2 := (show Hid (Bo xq.u (n + 1) B) from BB_1.out.below hb)
  have BC_2 := (show Hid (Bo xq.u (n + 2) C) from BC_1.out.below hb)
  obtain ⟨w2, hw2⟩ : ∃ v, xq.u = v := ⟨_, rfl⟩
  rw [hw2] at HB_2 BA_2 BB_2 BC_2 ⊢
  clear hw2 hb xq hne HB_1 BA_1 BB_1 BC_1 HQBA HQBB HQBC
  go_wp2
  have HQBA := (show Hid _ from BA_2.out.cl)
  have HQBB := (show Hid _ from BB_2.out.cl)
  have HQBC := (show Hid _ from BC_2.out.cl)
  have hne := Cl.ne w2.heap.size w2
  refine region_cl (N := w2.heap.size) (W := w2) (by kernel_rfl) (by kernel_rfl) (Below.refl _ _) ?_
  go_big_quiet_want
  refine quiet_load 22 _ rfl n 0 rfl A _ HQBA.out Try.underlying22 rfl LA.out.i ?_
  simp only [Act.put, List.setIfInBounds_toArray, List.set_cons_zero, List.set_cons_succ]
  go_big_quiet_on
  go_big_quiet_want
  refine quiet_load 22 _ rfl (n + 1) 0 rfl B _ HQBB.out Try.underlying22 rfl LB.out.i ?_
  simp only [Act.put, List.setIfInBounds_toArray, List.set_cons_zero, List.set_cons_succ]
  go_big_quiet_on
  go_big_quiet_want
  refine quiet_load 22 _ rfl (n + 2) 0 rfl C _ HQBC.out Try.underlying22 rfl LC.out.i ?_
  simp only [Act.put, List.setIfInBounds_toArray, List.set_cons_zero, List.set_cons_succ]
  go_big_quiet_on
  go_big_quiet_step ((go_at_call 15; exact cl_of (cbc _) (Nat.le_refl _)))
  go_big_quiet_step ((go_at_call 20; exact cl_of (mau _) (Nat.le_refl _)))
  go_big_quiet_want
  refine quiet_load 22 _ rfl n 0 rfl A _ HQBA.out Try.underlying22 rfl LA.out.i ?_
  simp only [Act.put, List.setIfInBounds_toArray, List.set_cons_zero, List.set_cons_succ]
  go_big_quiet_on
  go_big_quiet_want
  refine quiet_load 22 _ rfl (n + 1) 0 rfl B _ HQBB.out Try.underlying22 rfl LB.out.i ?_
  simp only [Act.put, List.setIfInBounds_toArray, List.set_cons_zero, List.set_cons_succ]
  go_big_quiet_on
  go_big_quiet_step ((go_at_call 20; exact cl_of (mab _) (Nat.le_refl _)))
  go_big_quiet_want
  refine quiet_load 22 _ rfl n 0 rfl A _ HQBA.out Try.underlying22 rfl LA.out.i ?_
  simp only [Act.put, List.setIfInBounds_toArray, List.set_cons_zero, List.set_cons_succ]
  go_big_quiet_on
  go_big_quiet_want
  refine quiet_load 22 _ rfl (n + 2) 0 rfl C _ HQBC.out Try.underlying22 rfl LC.out.i ?_
  simp only [Act.put, List.setIfInBounds_toArray, List.set_cons_zero, List.set_cons_succ]
  go_big_quiet_on
  go_big_quiet_step ((go_at_call 20; exact cl_of (mac _) (Nat.le_refl _)))
  go_big_quiet_step ((go_at_call 15; exact cl_of (cmo _) (Nat.le_refl _)))
  go_big_quiet_step (fail)
  go_big_quiet_step (fail)
  go_big_quiet_want
  refine quiet_load 22 _ rfl n 0 rfl A _ HQBA.out Try.underlying22 rfl LA.out.i ?_
  simp only [Act.put, List.setIfInBounds_toArray, List.set_cons_zero, List.set_cons_succ]
  go_big_quiet_on
  go_big_quiet_want
  refine quiet_load 22 _ rfl (n + 1) 0 rfl B _ HQBB.out Try.underlying22 rfl LB.out.i ?_
  simp only [Act.put, List.setIfInBounds_toArray, List.set_cons_zero, List.set_cons_succ]
  go_big_quiet_on
  go_big_quiet_step ((go_at_call 18; exact cl_of (sab _) (Nat.le_refl _)))
  go_big_quiet_want
  refine quiet_load 22 _ rfl (n + 1) 0 rfl B _ HQBB.out Try.underlying22 rfl LB.out.i ?_
  simp only [Act.put, List.setIfInBounds_toArray, List.set_cons_zero, List.set_cons_succ]
  go_big_quiet_on
  go_big_quiet_step ((go_at_call 15; exact cl_of (cdb _) (Nat.le_refl _)))
  go_big_quiet_want
  refine quiet_load 22 _ rfl n 0 rfl A _ HQBA.out Try.underlying22 rfl LA.out.i ?_
  simp only [Act.put, List.setIfInBounds_toArray, List.set_cons_zero, List.set_cons_succ]
  go_big_quiet_on
  go_big_quiet_step ((go_at_call 22; exact cl_of (red _) (Nat.le_refl _)))
  go_big_quiet_step (fail)
  go_big_quiet_step (fail)
  go_big_quiet_step (fail)
  refine wpQuiet_nil ?_
  rintro _ ⟨xq, rfl⟩
  have hb := xq.h
  have HB_3 := (show Hid (Below w.heap.size w xq.u) from HB_2.out.trans (hb.mono HB_2.out.size))
  have BA_3 := (show Hid (Bo xq.u n A) from BA_2.out.below hb)
  have BB_3 := (show Hid (Bo xq.u (n + 1) B) from BB_2.out.below hb)
  have BC_3 := (show Hid (Bo xq.u (n + 2) C) from BC_2.out.below hb)
  obtain ⟨w3, hw3⟩ : ∃ v, xq.u = v := ⟨_, rfl⟩
  rw [hw3] at HB_3 BA_3 BB_3 BC_3 ⊢
  clear hw3 hb xq hne HB_2 BA_2 BB_2 BC_2 HQBA HQBB HQBC
  go_wp2
  have HQBA := (show Hid _ from BA_3.out.cl)
  have HQBB := (show Hid _ from BB_3.out.cl)
  have HQBC := (show Hid _ from BC_3.out.cl)
  have hne := Cl.ne w3.heap.size w3
  refine region_cl (N := w3.heap.size) (W := w3) (by kernel_rfl) (by kernel_rfl) (Below.refl _ _) ?_
  go_big_quiet_want
  refine quiet_load 22 _ rfl n 0 rfl A _ HQBA.out Try.underlying22 rfl LA.out.i ?_
  simp only [Act.put, List.setIfInBounds_toArray, List.set_cons_zero, List.set_cons_succ]
  go_big_quiet_on
  go_big_quiet_want
  refine quiet_load 22 _ rfl (n + 1) 0 rfl B _ HQBB.out Try.underlying22 rfl LB.out.i ?_
  simp only [Act.put, List.setIfInBounds_toArray, List.set_cons_zero, List.set_cons_succ]
  go_big_quiet_on
  go_big_quiet_step ((go_at_call 15; exact cl_of (cab _) (Nat.le_refl _)))
  go_big_quiet_want
  refine quiet_load 22 _ rfl (n + 2) 0 rfl C _ HQBC.out Try.underlying22 rfl LC.out.i ?_
  simp only [Act.put, List.setIfInBounds_toArray, List.set_cons_zero, List.set_cons_succ]
  go_big_quiet_on
  go_big_quiet_step ((go_at_call 15; exact cl_of (csc _) (Nat.le_refl _)))
  go_big_quiet_want
  refine quiet_load 22 _ rfl n 0 rfl A _ HQBA.out Try.underlying22 rfl LA.out.i ?_
  simp only [Act.put, List.setIfInBounds_toArray, List.set_cons_zero, List.set_cons_succ]
  go_big_quiet_on
  go_big_quiet_want
  refine quiet_load 22 _ rfl (n + 1) 0 rfl B _ HQBB.out Try.underlying22 rfl LB.out.i ?_
  simp only [Act.put, List.setIfInBounds_toArray, List.set_cons_zero, List.set_cons_succ]
  go_big_quiet_on
  go_big_quiet_want
  refine quiet_load 22 _ rfl (n + 2) 0 rfl C _ HQBC.out Try.underlying22 rfl LC.out.i ?_
  simp only [Act.put, List.setIfInBounds_toArray, List.set_cons_zero, List.set_cons_succ]
  go_big_quiet_on
  go_big_quiet_step ((go_at_call 15; exact cl_of (cbc _) (Nat.le_refl _)))
  go_big_quiet_step ((go_at_call 15; exact cl_of (cau _) (Nat.le_refl _)))
  go_big_quiet_step (fail)
  go_big_quiet_step (fail)
  go_big_quiet_want
  refine quiet_load 22 _ rfl n 0 rfl A _ HQBA.out Try.underlying22 rfl LA.out.i ?_
  simp only [Act.put, List.setIfInBounds_toArray, List.set_cons_zero, List.set_cons_succ]
  go_big_quiet_on
  go_big_quiet_step ((go_at_call 24; exact cl_of (c1 _) (Nat.le_refl _)))
  go_big_quiet_step ((go_at_call 20; exact cl_of (ma1 _) (Nat.le_refl _)))
  go_big_quiet_want
  refine quiet_load 22 _ rfl n 0 rfl A _ HQBA.out Try.underlying22 rfl LA.out.i ?_
  simp only [Act.put, List.setIfInBounds_toArray, List.set_cons_zero, List.set_cons_succ]
  go_big_quiet_on
  go_big_quiet_step ((go_at_call 22; exact cl_of (red _) (Nat.le_refl _)))
  go_big_quiet_step (fail)
  go_big_quiet_step (fail)
  go_big_quiet_step (fail)
  go_big_quiet_want
  refine quiet_load 22 _ rfl n 0 rfl A _ HQBA.out Try.underlying22 rfl LA.out.i ?_
  simp only [Act.put, List.setIfInBounds_toArray, List.set_cons_zero, List.set_cons_succ]
  go_big_quiet_on
  go_big_quiet_want
  refine quiet_load 22 _ rfl n 0 rfl A _ HQBA.out Try.underlying22 rfl LA.out.i ?_
  simp only [Act.put, List.setIfInBounds_toArray, List.set_cons_zero, List.set_cons_succ]
  go_big_quiet_on
  go_big_quiet_step ((go_at_call 18; exact cl_of (saa _) (Nat.le_refl _)))
  go_big_quiet_step ((go_at_call 24; exact cl_of (c0 _) (Nat.le_refl _)))
  go_big_quiet_step (fail)
  go_big_quiet_step (fail)
  go_big_quiet_step (fail)
  refine wpQuiet_nil ?_
  rintro _ ⟨xq, rfl⟩
  have hb := xq.h
  have HB_4 := (show Hid (Below w.heap.size w xq.u) from HB_3.out.trans (hb.mono HB_3.out.size))
  have BA_4 := (show Hid (Bo xq.u n A) from BA_3.out.below hb)
  have BB_4 := (show Hid (Bo xq.u (n + 1) B) from BB_3.out.below hb)
  have BC_4 := (show Hid (Bo xq.u (n + 2) C) from BC_3.out.below hb)
  obtain ⟨w4, hw4⟩ : ∃ v, xq.u = v := ⟨_, rfl⟩
  rw [hw4] at HB_4 BA_4 BB_4 BC_4 ⊢
  clear hw4 hb xq hne HB_3 BA_3 BB_3 BC_3 HQBA HQBB HQBC
  go_wp2_with (first
    | (refine wpList_load_mid rfl 22 (.tmp 3) rfl n 0 rfl A _ BA_4.out.1 Try.underlying22 rfl LA.out.i ?_)
    | (refine wpList_load_mid rfl 22 (.tmp 4) rfl (n + 1) 0 rfl B _ BB_4.out.1 Try.underlying22 rfl LB.out.i ?_)
    | (refine wpList_load_mid rfl 22 (.tmp 5) rfl (n + 2) 0 rfl C _ BC_4.out.1 Try.underlying22 rfl LC.out.i ?_)
    | (refine wpList_load_mid rfl 22 (.tmp 3) rfl n 0 rfl A _ BA_5.out.1 Try.underlying22 rfl LA.out.i ?_)
    | (refine wpList_load_mid rfl 22 (.tmp 4) rfl (n + 1) 0 rfl B _ BB_5.out.1 Try.underlying22 rfl LB.out.i ?_)
    | (refine wpList_load_mid rfl 22 (.tmp 5) rfl (n + 2) 0 rfl C _ BC_5.out.1 Try.underlying22 rfl LC.out.i ?_)
    | (refine wpList_load_mid rfl 22 (.tmp 3) rfl n 0 rfl A _ BA_6.out.1 Try.underlying22 rfl LA.out.i ?_)
    | (refine wpList_load_mid rfl 22 (.tmp 4) rfl (n + 1) 0 rfl B _ BB_6.out.1 Try.underlying22 rfl LB.out.i ?_)
    | (refine wpList_load_mid rfl 22 (.tmp 5) rfl (n + 2) 0 rfl C _ BC_6.out.1 Try.underlying22 rfl LC.out.i ?_)
    | (refine wpList_load_mid rfl 22 (.tmp 11) rfl bBI 0 rfl I _ BI_6.out.1 Try.underlying22 rfl LI.out.i ?_)
    | (refine wpList_load_mid rfl 22 (.tmp 3) rfl n 0 rfl A _ BA_7.out.1 Try.underlying22 rfl LA.out.i ?_)
    | (refine wpList_load_mid rfl 22 (.tmp 4) rfl (n + 1) 0 rfl B _ BB_7.out.1 Try.underlying22 rfl LB.out.i ?_)
    | (refine wpList_load_mid rfl 22 (.tmp 5) rfl (n + 2) 0 rfl C _ BC_7.out.1 Try.underlying22 rfl LC.out.i ?_)
    | (refine wpList_load_mid rfl 22 (.tmp 11) rfl bBI 0 rfl I _ BI_7.out.1 Try.underlying22 rfl LI.out.i ?_)
    | (refine wpList_load_mid rfl 22 (.tmp 3) rfl n 0 rfl A _ BA_8.out.1 Try.underlying22 rfl LA.out.i ?_)
    | (refine wpList_load_mid rfl 22 (.tmp 4) rfl (n + 1) 0 rfl B _ BB_8.out.1 Try.underlying22 rfl LB.out.i ?_)
    | (refine wpList_load_mid rfl 22 (.tmp 5) rfl (n + 2) 0 rfl C _ BC_8.out.1 Try.underlying22 rfl LC.out.i ?_)
    | (refine wpList_load_mid rfl 22 (.tmp 11) rfl bBI 0 rfl I _ BI_8.out.1 Try.underlying22 rfl LI.out.i ?_)
    | (refine wpList_load_mid rfl 22 (.tmp 3) rfl n 0 rfl A _ BA_9.out.1 Try.underlying22 rfl LA.out.i ?_)
    | (refine wpList_load_mid rfl 22 (.tmp 4) rfl (n + 1) 0 rfl B _ BB_9.out.1 Try.underlying22 rfl LB.out.i ?_)
    | (refine wpList_load_mid rfl 22 (.tmp 5) rfl (n + 2) 0 rfl C _ BC_9.out.1 Try.underlying22 rfl LC.out.i ?_)
    | (refine wpList_load_mid rfl 22 (.tmp 11) rfl bBI 0 rfl I _ BI_9.out.1 Try.underlying22 rfl LI.out.i ?_)
    | (refine wpList_load_mid rfl 22 (.tmp 3) rfl n 0 rfl A _ BA_10.out.1 Try.underlying22 rfl LA.out.i ?_)
    | (refine wpList_load_mid rfl 22 (.tmp 4) rfl (n + 1) 0 rfl B _ BB_10.out.1 Try.underlying22 rfl LB.out.i ?_)
    | (refine wpList_load_mid rfl 22 (.tmp 5) rfl (n + 2) 0 rfl C _ BC_10.out.1 Try.underlying22 rfl LC.out.i ?_)
    | (refine wpList_load_mid rfl 22 (.tmp 11) rfl bBI 0 rfl I _ BI_10.out.1 Try.underlying22 rfl LI.out.i ?_)
    | (refine wpList_load_mid rfl 22 (.tmp 13) rfl bBF 0 rfl F _ BF_10.out.1 Try.underlying22 rfl LF.out.i ?_)
    | (refine wpList_load_mid rfl 22 (.tmp 3) rfl n 0 rfl A _ BA_11.out.1 Try.underlying22 rfl LA.out.i ?_)
    | (refine wpList_load_mid rfl 22 (.tmp 4) rfl (n + 1) 0 rfl B _ BB_11.out.1 Try.underlying22 rfl LB.out.i ?_)
    | (refine wpList_load_mid rfl 22 (.tmp 5) rfl (n + 2) 0 rfl C _ BC_11.out.1 Try.underlying22 rfl LC.out.i ?_)
    | (refine wpList_load_mid rfl 22 (.tmp 11) rfl bBI 0 rfl I _ BI_11.out.1 Try.underlying22 rfl LI.out.i ?_)
    | (refine wpList_load_mid rfl 22 (.tmp 13) rfl bBF 0 rfl F _ BF_11.out.1 Try.underlying22 rfl LF.out.i ?_)
    | (refine wpList_load_mid rfl 22 (.tmp 3) rfl n 0 rfl A _ BA_12.out.1 Try.underlying22 rfl LA.out.i ?_)
    | (refine wpList_load_mid rfl 22 (.tmp 4) rfl (n + 1) 0 rfl B _ BB_12.out.1 Try.underlying22 rfl LB.out.i ?_)
    | (refine wpList_load_mid rfl 22 (.tmp 5) rfl (n + 2) 0 rfl C _ BC_12.out.1 Try.underlying22 rfl LC.out.i ?_)
    | (refine wpList_load_mid rfl 22 (.tmp 11) rfl bBI 0 rfl I _ BI_12.out.1 Try.underlying22 rfl LI.out.i ?_)
    | (refine wpList_load_mid rfl 22 (.tmp 13) rfl bBF 0 rfl F _ BF_12.out.1 Try.underlying22 rfl LF.out.i ?_)
    | (refine wpList_load_mid rfl 22 (.tmp 3) rfl n 0 rfl A _ BA_13.out.1 Try.underlying22 rfl LA.out.i ?_)
    | (refine wpList_load_mid rfl 22 (.tmp 4) rfl (n + 1) 0 rfl B _ BB_13.out.1 Try.underlying22 rfl LB.out.i ?_)
    | (refine wpList_load_mid rfl 22 (.tmp 5) rfl (n + 2) 0 rfl C _ BC_13.out.1 Try.underlying22 rfl LC.out.i ?_)
    | (refine wpList_load_mid rfl 22 (.tmp 11) rfl bBI 0 rfl I _ BI_13.out.1 Try.underlying22 rfl LI.out.i ?_)
    | (refine wpList_load_mid rfl 22 (.tmp 13) rfl bBF 0 rfl F _ BF_13.out.1 Try.underlying22 rfl LF.out.i ?_)
    | (refine wpList_load_mid rfl 22 (.tmp 15) rfl bBG 0 rfl X0 _ BG_13.out.1 Try.underlying22 rfl LX0.out.i ?_)
    | (refine wpList_load_mid rfl 22 (.tmp 3) rfl n 0 rfl A _ BA_14.out.1 Try.underlying22 rfl LA.out.i ?_)
    | (refine wpList_load_mid rfl 22 (.tmp 4) rfl (n + 1) 0 rfl B _ BB_14.out.1 Try.underlying22 rfl LB.out.i ?_)
    | (refine wpList_load_mid rfl 22 (.tmp 5) rfl (n + 2) 0 rfl C _ BC_14.out.1 Try.underlying22 rfl LC.out.i ?_)
    | (refine wpList_load_mid rfl 22 (.tmp 11) rfl bBI 0 rfl I _ BI_14.out.1 Try.underlying22 rfl LI.out.i ?_)
    | (refine wpList_load_mid rfl 22 (.tmp 13) rfl bBF 0 rfl F _ BF_14.out.1 Try.underlying22 rfl LF.out.i ?_)
    | (refine wpList_load_mid rfl 22 (.tmp 15) rfl bBG 0 rfl X0 _ BG_14.out.1 Try.underlying22 rfl LX0.out.i ?_)
    | (refine wpList_load_mid rfl 22 (.tmp 3) rfl n 0 rfl A _ BA_15.out.1 Try.underlying22 rfl LA.out.i ?_)
    | (refine wpList_load_mid rfl 22 (.tmp 4) rfl (n + 1) 0 rfl B _ BB_15.out.1 Try.underlying22 rfl LB.out.i ?_)
    | (refine wpList_load_mid rfl 22 (.tmp 5) rfl (n + 2) 0 rfl C _ BC_15.out.1 Try.underlying22 rfl LC.out.i ?_)
    | (refine wpList_load_mid rfl 22 (.tmp 11) rfl bBI 0 rfl I _ BI_15.out.1 Try.underlying22 rfl LI.out.i ?_)
    | (refine wpList_load_mid rfl 22 (.tmp 13) rfl bBF 0 rfl F _ BF_15.out.1 Try.underlying22 rfl LF.out.i ?_)
    | (refine wpList_load_mid rfl 22 (.tmp 15) rfl bBG 0 rfl X0 _ BG_15.out.1 Try.underlying22 rfl LX0.out.i ?_)
    | (refine wpList_load_mid rfl 22 (.tmp 3) rfl n 0 rfl A _ BA_16.out.1 Try.underlying22 rfl LA.out.i ?_)
    | (refine wpList_load_mid rfl 22 (.tmp 4) rfl (n + 1) 0 rfl B _ BB_16.out.1 Try.underlying22 rfl LB.out.i ?_)
    | (refine wpList_load_mid rfl 22 (.tmp 5) rfl (n + 2) 0 rfl C _ BC_16.out.1 Try.underlying22 rfl LC.out.i ?_)
    | (refine wpList_load_mid rfl 22 (.tmp 11) rfl bBI 0 rfl I _ BI_16.out.1 Try.underlying22 rfl LI.out.i ?_)
    | (refine wpList_load_mid rfl 22 (.tmp 13) rfl bBF 0 rfl F _ BF_16.out.1 Try.underlying22 rfl LF.out.i ?_)
    | (refine wpList_load_mid rfl 22 (.tmp 15) rfl bBG 0 rfl X0 _ BG_16.out.1 Try.underlying22 rfl LX0.out.i ?_)
    | (refine wpList_load_mid rfl 22 (.tmp 17) rfl bBE 0 rfl E _ BE_16.out.1 Try.underlying22 rfl LE.out.i ?_)
    | (have hq := TK_1; go_at_call 23; refine (cI _).mono ?_; rintro e w5 ⟨rfl, hb⟩; have HB_5 := (show Hid (Below w.heap.size w w5) from HB_4.out.trans (hb.mono HB_4.out.size)); have BA_5 := (show Hid (Bo w5 n A) from BA_4.out.below hb); have BB_5 := (show Hid (Bo w5 (n + 1) B) from BB_4.out.below hb); have BC_5 := (show Hid (Bo w5 (n + 2) C) from BC_4.out.below hb); have TK_2 := (show Hid True from trivial); clear hq TK_1 hb HB_4 BA_4 BB_4 BC_4)
    | (have hq := TK_2; refine wpList_store_mid rfl 22 (.tmp 11) (.tmp 112) rfl w5.heap.size 0 I.toArray rfl rfl (HLT.out I LI.out w5) LI.out.j LI.out.o ?_; simp only; have hbx := HBN.out w5 I LI.out.l; obtain ⟨w6, hw6⟩ : ∃ v, (w5.alloc (.cells Z 22)).setCells w5.heap.size 0 I = v := ⟨_, rfl⟩; rw [hw6] at hbx ⊢; clear hw6; have hb := hbx.2; replace hbx := hbx.1; obtain ⟨bBI, hbBI⟩ : ∃ b, w5.heap.size = b := ⟨_, rfl⟩; rw [hbBI] at hbx ⊢; clear hbBI; have HB_6 := (show Hid (Below w.heap.size w w6) from HB_5.out.trans (hb.mono HB_5.out.size)); have BA_6 := (show Hid (Bo w6 n A) from BA_5.out.below hb); have BB_6 := (show Hid (Bo w6 (n + 1) B) from BB_5.out.below hb); have BC_6 := (show Hid (Bo w6 (n + 2) C) from BC_5.out.below hb); have BI_6 := (show Hid (Bo w6 bBI I) from hbx); have TK_3 := (show Hid True from trivial); clear hq TK_2 hb HB_5 BA_5 BB_5 BC_5 hbx)
    | (have hq := TK_3; go_at_call 22; refine (red _).mono ?_; rintro e w7 ⟨rfl, hb⟩; have HB_7 := (show Hid (Below w.heap.size w w7) from HB_6.out.trans (hb.mono HB_6.out.size)); have BA_7 := (show Hid (Bo w7 n A) from BA_6.out.below hb); have BB_7 := (show Hid (Bo w7 (n + 1) B) from BB_6.out.below hb); have BC_7 := (show Hid (Bo w7 (n + 2) C) from BC_6.out.below hb); have BI_7 := (show Hid (Bo w7 bBI I) from BI_6.out.below hb); have TK_4 := (show Hid True from trivial); clear hq TK_3 hb HB_6 BA_6 BB_6 BC_6 BI_6)
    | (have hq := TK_4; go_at_call 24; refine (c0 _).mono ?_; rintro e w8 ⟨rfl, hb⟩; have HB_8 := (show Hid (Below w.heap.size w w8) from HB_7.out.trans (hb.mono HB_7.out.size)); have BA_8 := (show Hid (Bo w8 n A) from BA_7.out.below hb); have BB_8 := (show Hid (Bo w8 (n + 1) B) from BB_7.out.below hb); have BC_8 := (show Hid (Bo w8 (n + 2) C) from BC_7.out.below hb); have BI_8 := (show Hid (Bo w8 bBI I) from BI_7.out.below hb); have TK_5 := (show Hid True from trivial); clear hq TK_4 hb HB_7 BA_7 BB_7 BC_7 BI_7)
    | (have hq := TK_5; go_at_call 26; refine (rta _).mono ?_; rintro e w9 ⟨rfl, hb⟩; have HB_9 := (show Hid (Below w.heap.size w w9) from HB_8.out.trans (hb.mono HB_8.out.size)); have BA_9 := (show Hid (Bo w9 n A) from BA_8.out.below hb); have BB_9 := (show Hid (Bo w9 (n + 1) B) from BB_8.out.below hb); have BC_9 := (show Hid (Bo w9 (n + 2) C) from BC_8.out.below hb); have BI_9 := (show Hid (Bo w9 bBI I) from BI_8.out.below hb); have TK_6 := (show Hid True from trivial); clear hq TK_5 hb HB_8 BA_8 BB_8 BC_8 BI_8)
    | (have hq := TK_6; refine wpList_store_mid rfl 22 (.tmp 13) (.tmp 127) rfl w9.heap.size 0 F.toArray rfl rfl (HLT.out F LF.out w9) LF.out.j LF.out.o ?_; simp only; have hbx := HBN.out w9 F LF.out.l; obtain ⟨w10, hw10⟩ : ∃ v, (w9.alloc (.cells Z 22)).setCells w9.heap.size 0 F = v := ⟨_, rfl⟩; rw [hw10] at hbx ⊢; clear hw10; have hb := hbx.2; replace hbx := hbx.1; obtain ⟨bBF, hbBF⟩ : ∃ b, w9.heap.size = b := ⟨_, rfl⟩; rw [hbBF] at hbx ⊢; clear hbBF; have HB_10 := (show Hid (Below w.heap.size w w10) from HB_9.out.trans (hb.mono HB_9.out.size)); have BA_10 := (show Hid (Bo w10 n A) from BA_9.out.below hb); have BB_10 := (show Hid (Bo w10 (n + 1) B) from BB_9.out.below hb); have BC_10 := (show Hid (Bo w10 (n + 2) C) from BC_9.out.below hb); have BI_10 := (show Hid (Bo w10 bBI I) from BI_9.out.below hb); have BF_10 := (show Hid (Bo w10 bBF F) from hbx); have TK_7 := (show Hid True from trivial); clear hq TK_6 hb HB_9 BA_9 BB_9 BC_9 BI_9 hbx)
    | (have hq := TK_7; go_at_call 15; refine (caa _).mono ?_; rintro e w11 ⟨rfl, hb⟩; have HB_11 := (show Hid (Below w.heap.size w w11) from HB_10.out.trans (hb.mono HB_10.out.size)); have BA_11 := (show Hid (Bo w11 n A) from BA_10.out.below hb); have BB_11 := (show Hid (Bo w11 (n + 1) B) from BB_10.out.below hb); have BC_11 := (show Hid (Bo w11 (n + 2) C) from BC_10.out.below hb); have BI_11 := (show Hid (Bo w11 bBI I) from BI_10.out.below hb); have BF_11 := (show Hid (Bo w11 bBF F) from BF_10.out.below hb); have TK_8 := (show Hid True from trivial); clear hq TK_7 hb HB_10 BA_10 BB_10 BC_10 BI_10 BF_10)
    | (have hq := TK_8; go_at_call 26; refine (rtw _).mono ?_; rintro e w12 ⟨rfl, hb⟩; have HB_12 := (show Hid (Below w.heap.size w w12) from HB_11.out.trans (hb.mono HB_11.out.size)); have BA_12 := (show Hid (Bo w12 n A) from BA_11.out.below hb); have BB_12 := (show Hid (Bo w12 (n + 1) B) from BB_11.out.below hb); have BC_12 := (show Hid (Bo w12 (n + 2) C) from BC_11.out.below hb); have BI_12 := (show Hid (Bo w12 bBI I) from BI_11.out.below hb); have BF_12 := (show Hid (Bo w12 bBF F) from BF_11.out.below hb); have TK_9 := (show Hid True from trivial); clear hq TK_8 hb HB_11 BA_11 BB_11 BC_11 BI_11 BF_11)
    | (have hq := TK_9; refine wpList_store_mid rfl 22 (.tmp 15) (.tmp 134) rfl w12.heap.size 0 X0.toArray rfl rfl (HLT.out X0 LX0.out w12) LX0.out.j LX0.out.o ?_; simp only; have hbx := HBN.out w12 X0 LX0.out.l; obtain ⟨w13, hw13⟩ : ∃ v, (w12.alloc (.cells Z 22)).setCells w12.heap.size 0 X0 = v := ⟨_, rfl⟩; rw [hw13] at hbx ⊢; clear hw13; have hb := hbx.2; replace hbx := hbx.1; obtain ⟨bBG, hbBG⟩ : ∃ b, w12.heap.size = b := ⟨_, rfl⟩; rw [hbBG] at hbx ⊢; clear hbBG; have HB_13 := (show Hid (Below w.heap.size w w13) from HB_12.out.trans (hb.mono HB_12.out.size)); have BA_13 := (show Hid (Bo w13 n A) from BA_12.out.below hb); have BB_13 := (show Hid (Bo w13 (n + 1) B) from BB_12.out.below hb); have BC_13 := (show Hid (Bo w13 (n + 2) C) from BC_12.out.below hb); have BI_13 := (show Hid (Bo w13 bBI I) from BI_12.out.below hb); have BF_13 := (show Hid (Bo w13 bBF F) from BF_12.out.below hb); have BG_13 := (show Hid (Bo w13 bBG X0) from hbx); have TK_10 := (show Hid True from trivial); clear hq TK_9 hb HB_12 BA_12 BB_12 BC_12 BI_12 BF_12 hbx)
    | (have hq := TK_10; go_at_call 20; refine (mbb _).mono ?_; rintro e w14 ⟨rfl, hb⟩; have HB_14 := (show Hid (Below w.heap.size w w14) from HB_13.out.trans (hb.mono HB_13.out.size)); have BA_14 := (show Hid (Bo w14 n A) from BA_13.out.below hb); have BB_14 := (show Hid (Bo w14 (n + 1) B) from BB_13.out.below hb); have BC_14 := (show Hid (Bo w14 (n + 2) C) from BC_13.out.below hb); have BI_14 := (show Hid (Bo w14 bBI I) from BI_13.out.below hb); have BF_14 := (show Hid (Bo w14 bBF F) from BF_13.out.below hb); have BG_14 := (show Hid (Bo w14 bBG X0) from BG_13.out.below hb); have TK_11 := (show Hid True from trivial); clear hq TK_10 hb HB_13 BA_13 BB_13 BC_13 BI_13 BF_13 BG_13)
    | (have hq := TK_11; go_at_call 26; refine (rq _).mono ?_; rintro e w15 ⟨rfl, hb⟩; have HB_15 := (show Hid (Below w.heap.size w w15) from HB_14.out.trans (hb.mono HB_14.out.size)); have BA_15 := (show Hid (Bo w15 n A) from BA_14.out.below hb); have BB_15 := (show Hid (Bo w15 (n + 1) B) from BB_14.out.below hb); have BC_15 := (show Hid (Bo w15 (n + 2) C) from BC_14.out.below hb); have BI_15 := (show Hid (Bo w15 bBI I) from BI_14.out.below hb); have BF_15 := (show Hid (Bo w15 bBF F) from BF_14.out.below hb); have BG_15 := (show Hid (Bo w15 bBG X0) from BG_14.out.below hb); have TK_12 := (show Hid True from trivial); clear hq TK_11 hb HB_14 BA_14 BB_14 BC_14 BI_14 BF_14 BG_14)
    | (have hq := TK_12; refine wpList_store_mid rfl 22 (.tmp 17) (.tmp 141) rfl w15.heap.size 0 E.toArray rfl rfl (HLT.out E LE.out w15) LE.out.j LE.out.o ?_; simp only; have hbx := HBN.out w15 E LE.out.l; obtain ⟨w16, hw16⟩ : ∃ v, (w15.alloc (.cells Z 22)).setCells w15.heap.size 0 E = v := ⟨_, rfl⟩; rw [hw16] at hbx ⊢; clear hw16; have hb := hbx.2; replace hbx := hbx.1; obtain ⟨bBE, hbBE⟩ : ∃ b, w15.heap.size = b := ⟨_, rfl⟩; rw [hbBE] at hbx ⊢; clear hbBE; have HB_16 := (show Hid (Below w.heap.size w w16) from HB_15.out.trans (hb.mono HB_15.out.size)); have BA_16 := (show Hid (Bo w16 n A) from BA_15.out.below hb); have BB_16 := (show Hid (Bo w16 (n + 1) B) from BB_15.out.below hb); have BC_16 := (show Hid (Bo w16 (n + 2) C) from BC_15.out.below hb); have BI_16 := (show Hid (Bo w16 bBI I) from BI_15.out.below hb); have BF_16 := (show Hid (Bo w16 bBF F) from BF_15.out.below hb); have BG_16 := (show Hid (Bo w16 bBG X0) from BG_15.out.below hb); have BE_16 := (show Hid (Bo w16 bBE E) from hbx); have TK_13 := (show Hid True from trivial); clear hq TK_12 hb HB_15 BA_15 BB_15 BC_15 BI_15 BF_15 BG_15 hbx))
  have HQBB := (show Hid _ from BB_16.out.cl)
  have HQBE := (show Hid _ from BE_16.out.cl)
  have hne := Cl.ne w16.heap.size w16
  refine region_cl (N := w16.heap.size) (W := w16) (by kernel_rfl) (by kernel_rfl) (Below.refl _ _) ?_
  go_big_quiet_want
  refine quiet_load 22 _ rfl bBE 0 rfl E _ HQBE.out Try.underlying22 rfl LE.out.i ?_
  simp only [Act.put, List.setIfInBounds_toArray, List.set_cons_zero, List.set_cons_succ]
  go_big_quiet_on
  go_big_quiet_want
  refine quiet_load 22 _ rfl (n + 1) 0 rfl B _ HQBB.out Try.underlying22 rfl LB.out.i ?_
  simp only [Act.put, List.setIfInBounds_toArray, List.set_cons_zero, List.set_cons_succ]
  go_big_quiet_on
  go_big_quiet_step ((go_at_call 22; exact cl_of (redb _) (Nat.le_refl _)))
  go_big_quiet_step (fail)
  go_big_quiet_step (fail)
  go_big_quiet_want
  refine quiet_load 22 _ rfl bBE 0 rfl E _ HQBE.out Try.underlying22 rfl LE.out.i ?_
  simp only [Act.put, List.setIfInBounds_toArray, List.set_cons_zero, List.set_cons_succ]
  go_big_quiet_on
  go_big_quiet_want
  refine quiet_load 22 _ rfl (n + 1) 0 rfl B _ HQBB.out Try.underlying22 rfl LB.out.i ?_
  simp only [Act.put, List.setIfInBounds_toArray, List.set_cons_zero, List.set_cons_succ]
  go_big_quiet_on
  go_big_quiet_step ((go_at_call 15; exact cl_of (ceb _) (Nat.le_refl _)))
  go_big_quiet_step ((go_at_call 24; exact cl_of (c0 _) (Nat.le_refl _)))
  go_big_quiet_step (fail)
  go_big_quiet_step (fail)
  go_big_quiet_step (fail)
  refine wpQuiet_nil ?_
  rintro _ ⟨xq, rfl⟩
  have hb := xq.h
  have HB_17 := (show Hid (Below w.heap.size w xq.u) from HB_16.out.trans (hb.mono HB_16.out.size))
  have BA_17 := (show Hid (Bo xq.u n A) from BA_16.out.below hb)
  have BB_17 := (show Hid (Bo xq.u (n + 1) B) from BB_16.out.below hb)
  have BC_17 := (show Hid (Bo xq.u (n + 2) C) from BC_16.out.below hb)
  have BI_17 := (show Hid (Bo xq.u bBI I) from BI_16.out.below hb)
  have BF_17 := (show Hid (Bo xq.u bBF F) from BF_16.out.below hb)
  have BG_17 := (show Hid (Bo xq.u bBG X0) from BG_16.out.below hb)
  have BE_17 := (show Hid (Bo xq.u bBE E) from BE_16.out.below hb)
  obtain ⟨w17, hw17⟩ : ∃ v, xq.u = v := ⟨_, rfl⟩
  rw [hw17] at HB_17 BA_17 BB_17 BC_17 BI_17 BF_17 BG_17 BE_17 ⊢
  clear hw17 hb xq hne HB_16 BA_16 BB_16 BC_16 BI_16 BF_16 BG_16 BE_16 HQBB HQBE
  go_wp2
  have qe0 : ∀ z : Cl w17.heap.size w17, z.u.cell? ⟨bBE, 0, none⟩ = some (.int .u8 (e0 : Int)) := fun z => z.cell (by have h := BE_17.out.1 0 _ HEB.out; rwa [Nat.zero_add] at h) BE_17.out.2
  have HQBA := (show Hid _ from BA_17.out.cl)
  have HQBI := (show Hid _ from BI_17.out.cl)
  have hne := Cl.ne w17.heap.size w17
  refine region_cl (N := w17.heap.size) (W := w17) (by kernel_rfl) (by kernel_rfl) (Below.refl _ _) ?_
  go_big_quiet_step (fail)
  go_big_quiet_step (fail)
  go_big_quiet_step (fail)
  go_big_quiet_step (fail)
  go_big_quiet_step (fail)
  go_big_quiet_step (fail)
  go_big_quiet_want
  refine quiet_load 22 _ rfl n 0 rfl A _ HQBA.out Try.underlying22 rfl LA.out.i ?_
  simp only [Act.put, List.setIfInBounds_toArray, List.set_cons_zero, List.set_cons_succ]
  go_big_quiet_on
  go_big_quiet_want
  refine quiet_load 22 _ rfl bBI 0 rfl I _ HQBI.out Try.underlying22 rfl LI.out.i ?_
  simp only [Act.put, List.setIfInBounds_toArray, List.set_cons_zero, List.set_cons_succ]
  go_big_quiet_on
  go_big_quiet_step ((go_at_call 20; exact cl_of (mai _) (Nat.le_refl _)))
  go_big_quiet_step ((go_at_call 24; exact cl_of (c1 _) (Nat.le_refl _)))
  go_big_quiet_step (fail)
  go_big_quiet_step (fail)
  go_big_quiet_step (fail)
  go_big_quiet_step (fail)
  go_big_quiet_step (fail)
  go_big_quiet_step (fail)
  go_big_quiet_step (fail)
  go_big_quiet_step (fail)
  go_big_quiet_step (fail)
  go_big_quiet_step (fail)
  go_big_quiet_step (fail)
  go_big_quiet_step (fail)
  go_big_quiet_step (fail)
  go_big_quiet_step (fail)
  go_big_quiet_step (fail)
  go_big_quiet_step (fail)
  go_big_quiet_step (fail)
  go_big_quiet_step (fail)
  go_big_quiet_step (fail)
  go_big_quiet_step (fail)
  go_big_quiet_step (fail)
  go_big_quiet_step (fail)
  go_big_quiet_step (fail)
  refine wpQuiet_nil ?_
  rintro _ ⟨xq, rfl⟩
  have hb := xq.h
  have HB_18 := (show Hid (Below w.heap.size w xq.u) from HB_17.out.trans (hb.mono HB_17.out.size))
  have BA_18 := (show Hid (Bo xq.u n A) from BA_17.out.below hb)
  have BB_18 := (show Hid (Bo xq.u (n + 1) B) from BB_17.out.below hb)
  have BC_18 := (show Hid (Bo xq.u (n + 2) C) from BC_17.out.below hb)
  have BI_18 := (show Hid (Bo xq.u bBI I) from BI_17.out.below hb)
  have BF_18 := (show Hid (Bo xq.u bBF F) from BF_17.out.below hb)
  have BG_18 := (show Hid (Bo xq.u bBG X0) from BG_17.out.below hb)
  have BE_18 := (show Hid (Bo xq.u bBE E) from BE_17.out.below hb)
  obtain ⟨w18, hw18⟩ : ∃ v, xq.u = v := ⟨_, rfl⟩
  rw [hw18] at HB_18 BA_18 BB_18 BC_18 BI_18 BF_18 BG_18 BE_18 ⊢
  clear hw18 hb xq hne HB_17 BA_17 BB_17 BC_17 BI_17 BF_17 BG_17 BE_17 HQBA HQBI
  go_wp2
  go_ret
  exact ⟨rfl, HB_18.out⟩
end Fd
end Go.Proofs.Ytgdekigdbbldoaa

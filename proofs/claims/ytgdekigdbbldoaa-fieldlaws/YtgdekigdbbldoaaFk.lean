/- What power does: a contract, by walking its text. -/
import Derived.Test.YtgdekigdbbldoaaFj
namespace Go.Proofs.Ytgdekigdbbldoaa
open Go.RowKit
namespace Fd
open Rg

/-- A power's boxes. -/
structure PwAt (w wr : World) (n : Nat) (A E cs : List Value) : Prop where
  b : Below n w wr
  ra : wr.rangeAt n 0 A
  re : wr.rangeAt (n + 1) 0 E
  u : wr.there (n + 2) 0 4
  rn : wr.rangeAt (n + 3) 0 cs
  tn : wr.there (n + 3) 0 4
  l : n + 3 < wr.heap.size
theorem PwAt.below {w wr w' : World} {n : Nat} {A E cs : List Value} (h : PwAt w wr n A E cs) (hb : Below wr.heap.size wr w') : PwAt w w' n A E cs := by
  have hl := h.l
  exact ⟨h.b.trans (hb.mono (by omega)), Rg.Below.range hb h.ra (by omega), Rg.Below.range hb h.re (by omega), there_below hb h.u (by omega), Rg.Below.range hb h.rn hl, there_below hb h.tn hl, Nat.lt_of_lt_of_le hl hb.size⟩
theorem cell_setCells_other {b c o : Nat} (hbc : c ≠ b) : ∀ (vs : List Value) (k : Nat) (w : World), (w.setCells b k vs).cell? ⟨c, o, none⟩ = w.cell? ⟨c, o, none⟩
  | [], _, _ => rfl
  | v :: vs, k, w => by
    rw [World.setCells, cell_setCells_other hbc vs]
    exact World.cell?_setCell_other _ _ _ _ (fun e => hbc (by cases e; rfl))
theorem PwAt.set {w wr : World} {n : Nat} {A E cs : List Value} (h : PwAt w wr n A E cs) (ds : List Value) (hd : ds.length = 4) : PwAt w (wr.setCells (n + 3) 0 ds) n A E ds :=
  ⟨below_setCells h.b (by omega), fun j v hv => (cell_setCells_other (by omega) _ _ _).trans (h.ra j v hv), fun j v hv => (cell_setCells_other (by omega) _ _ _).trans (h.re j v hv), World.there_setCells h.u _ _ _, World.rangeAt_setCells_same _ _ _ _ (by rw [hd]; exact h.tn), World.there_setCells h.tn _ _ _, by rw [size_setCells]; exact h.l⟩
theorem PwAt.start (w : World) (A E : List Value) : PwAt w ((((w.alloc (.cells A.toArray 74)).alloc (.cells E.toArray 74)).alloc (.cells (w4 0 0 0 0).toArray 74)).alloc (.cells (w4 1 0 0 0).toArray 74)) w.heap.size A E (w4 1 0 0 0) := by
  obtain ⟨w2, hw2⟩ : ∃ v, (w.alloc (.cells A.toArray 74)).alloc (.cells E.toArray 74) = v := ⟨_, rfl⟩
  have e2 : w2.heap.size = w.heap.size + 2 := by rw [← hw2, size_alloc, size_alloc]
  have hb : Below w.heap.size w w2 := by rw [← hw2]; exact ((Below.refl _ _).alloc (Nat.le_refl _) _).alloc (by simp) _
  have h0 : w2.rangeAt w.heap.size 0 A := by rw [← hw2]; exact World.rangeAt_alloc (range_new _ _ _) _
  have h1 : w2.rangeAt (w.heap.size + 1) 0 E := by rw [← hw2]; exact range_new1 _ _ _ _
  rw [hw2]
  have h2 := there_new w2 (w4 0 0 0 0).toArray 74 (m := 4) fun j hj => by simp [w4, hj]
  have e3 : (w2.alloc (.cells (w4 0 0 0 0).toArray 74)).heap.size = w.heap.size + 3 := by rw [size_alloc, e2]
  have h3 := there_new (w2.alloc (.cells (w4 0 0 0 0).toArray 74)) (w4 1 0 0 0).toArray 74 (m := 4) fun j hj => by simp [w4, hj]
  have h4 := range_new (w2.alloc (.cells (w4 0 0 0 0).toArray 74)) (w4 1 0 0 0) 74
  rw [e2] at h2
  rw [e3] at h3 h4
  exact ⟨(hb.alloc (by omega) _).alloc (by rw [e3]; omega) _, World.rangeAt_alloc (World.rangeAt_alloc h0 _) _, World.rangeAt_alloc (World.rangeAt_alloc h1 _) _, World.there_alloc h2 _, h4, h3, by rw [size_alloc, e3]; omega⟩
theorem PwAt.bu {w wr : World} {n : Nat} {A E cs : List Value} (h : PwAt w wr n A E cs) : Bu w wr n (n + 2) := ⟨h.b, h.u, by omega, by have := h.l; omega⟩
def numOf1 : Value → Nat
  | .int _ v => (v + 1).toNat
  | _ => 0
/-- The power by the bits above. -/
def pw (a e j : Nat) : Nat := a ^ (e / 2 ^ j) % p
theorem and1 (x : Nat) (h : x < 18446744073709551616) : bits .and .u64 (x : Int) 1 = ((x % 2 : Nat) : Int) := by
  have e1 := Nat.and_two_pow_sub_one_eq_mod x 1
  have e0 : 2 ^ 1 - 1 = 1 := by decide
  rw [e0] at e1
  have e2 : x % 2 ^ 1 = x % 2 := rfl
  rw [← e2, ← e1]
  exact u64_and_nat x 1 h (by decide)
theorem pw_step (a e j : Nat) : (e / 2 ^ j % 2 = 1 → pw a e j = (pw a e (j + 1) * pw a e (j + 1) % p) * a % p) ∧ (¬ e / 2 ^ j % 2 = 1 → pw a e j = pw a e (j + 1) * pw a e (j + 1) % p) := by
  have h1 : e / 2 ^ (j + 1) = e / 2 ^ j / 2 := by rw [Nat.pow_succ, Nat.div_div_eq_div_mul]
  unfold pw
  rw [h1]
  obtain ⟨y, hy⟩ : ∃ y, e / 2 ^ j = y := ⟨_, rfl⟩
  rw [hy]
  have h2 : a ^ (y / 2) % p * (a ^ (y / 2) % p) % p = a ^ (y / 2 + y / 2) % p := by rw [← Nat.mul_mod, ← Nat.pow_add]
  rw [h2]
  refine ⟨fun h => ?_, fun h => ?_⟩
  · rw [Nat.mod_mul_mod, ← Nat.pow_succ, show (y / 2 + y / 2).succ = y by omega]
  · rw [show y / 2 + y / 2 = y by omega]
theorem pw_lt (a e j : Nat) : pw a e j < p := Nat.mod_lt _ (by decide)
theorem word_bit (e q r : Nat) (hr : r < 64) : e / 2 ^ (64 * q) % 2 ^ 64 / 2 ^ r % 2 = e / 2 ^ (64 * q + r) % 2 := by
  have h1 := Nat.testBit_mod_two_pow (e / 2 ^ (64 * q)) 64 r
  rw [Nat.testBit_div_two_pow] at h1
  simp only [hr, decide_true, Bool.true_and] at h1
  rw [Nat.testBit_eq_decide_div_mod_eq, Nat.testBit_eq_decide_div_mod_eq] at h1
  have h5 := decide_eq_decide.1 h1
  first | rw [Nat.add_comm r (64 * q)] at h5 | skip
  generalize e / 2 ^ (64 * q) % 2 ^ 64 / 2 ^ r = X at h5 ⊢
  generalize e / 2 ^ (64 * q + r) = Y at h5 ⊢
  omega
/-- The words of a number by their place. -/
theorem l_pick (e q : Nat) (hq : q < 4) : pick4 (l0 e) (l1 e) (l2 e) (l3 e) q = e / 2 ^ (64 * q) % 2 ^ 64 := by
  match q, hq with
  | 0, _ => show e % 18446744073709551616 = e / 1 % 18446744073709551616; rw [Nat.div_one]
  | 1, _ => rfl
  | 2, _ => rfl
  | 3, _ => rfl

set_option maxHeartbeats 4000000 in
set_option maxRecDepth 4000 in
theorem power_any (a e : Nat) (w : World) (ha : a < 115792089237316195423570985008687907853269984665640564039457584007913129639936) (he : e < 115792089237316195423570985008687907853269984665640564039457584007913129639936) :
    Calls Try.prog 66 #[nv a, nv e] w fun r w' => r = .returned (nv (a ^ e % p)) ∧ Below w.heap.size w w' := by
  have hend : a ^ e % p = pw a e 0 := by unfold pw; rw [Nat.pow_zero, Nat.div_one]
  have hbeg : nv (pw a e 256) = .agg (w4 1 0 0 0).toArray := by
    have h : e / 2 ^ 256 = 0 := Nat.div_eq_of_lt he
    unfold pw
    rw [h, Nat.pow_zero]
    have h1 : 1 % p = mk 1 0 0 0 := by decide +kernel
    rw [h1, nv_mk 1 0 0 0 (by decide) (by decide) (by decide) (by decide)]
    rfl
  rw [hend, nv_w4 a, nv_w4 e]
  have hpp : p < 115792089237316195423570985008687907853269984665640564039457584007913129639936 := by decide
  have HP : Hid (∀ j, pw a e j < 115792089237316195423570985008687907853269984665640564039457584007913129639936) := fun j => Nat.lt_trans (pw_lt a e j) hpp
  have HPQ : Hid (∀ j, pw a e j * pw a e j % p < 115792089237316195423570985008687907853269984665640564039457584007913129639936) := fun j => Nat.lt_trans (Nat.mod_lt _ (by decide)) hpp
  have HE : Hid (∀ q, q < 4 → (w4 (l0 e) (l1 e) (l2 e) (l3 e))[q]? = some (.int .u64 ((e / 2 ^ (64 * q) % 2 ^ 64 : Nat) : Int))) := fun q hq => by
    rw [← l_pick e q hq]
    match q, hq with
    | 0, _ => rfl
    | 1, _ => rfl
    | 2, _ => rfl
    | 3, _ => rfl
  have HA : Hid (nv a = .agg (w4 (l0 a) (l1 a) (l2 a) (l3 a)).toArray) := rfl
  have Ha : Hid (a < 115792089237316195423570985008687907853269984665640564039457584007913129639936) := ha
  obtain ⟨a0, ha0⟩ : ∃ x, l0 a = x := ⟨_, rfl⟩
  obtain ⟨a1, ha1⟩ : ∃ x, l1 a = x := ⟨_, rfl⟩
  obtain ⟨a2, ha2⟩ : ∃ x, l2 a = x := ⟨_, rfl⟩
  obtain ⟨a3, ha3⟩ : ∃ x, l3 a = x := ⟨_, rfl⟩
  obtain ⟨e0, he0⟩ : ∃ x, l0 e = x := ⟨_, rfl⟩
  obtain ⟨e1, he1⟩ : ∃ x, l1 e = x := ⟨_, rfl⟩
  obtain ⟨e2, he2⟩ : ∃ x, l2 e = x := ⟨_, rfl⟩
  obtain ⟨e3, he3⟩ : ∃ x, l3 e = x := ⟨_, rfl⟩
  rw [ha0, ha1, ha2, ha3, he0, he1, he2, he3]
  rw [ha0, ha1, ha2, ha3] at HA
  rw [he0, he1, he2, he3] at HE
  obtain ⟨R, hR⟩ : ∃ R, nv (pw a e 0) = R := ⟨_, rfl⟩
  rw [hR]
  have HRR : Hid (nv (pw a e 0) = R) := hR
  have hS := PwAt.start w (w4 a0 a1 a2 a3) (w4 e0 e1 e2 e3)
  obtain ⟨n, hn⟩ : ∃ n, w.heap.size = n := ⟨_, rfl⟩
  rw [hn] at hS
  have HS : Hid (PwAt w _ n (w4 a0 a1 a2 a3) (w4 e0 e1 e2 e3) (w4 1 0 0 0)) := hS
  have HBG : Hid (nv (pw a e 256) = .agg (w4 1 0 0 0).toArray) := hbeg
  clear hS hR hend hbeg hpp ha he ha0 ha1 ha2 ha3 he0 he1 he2 he3
  unfold w4
  go_enter Try.func66, Try.ntmps66
  go_wp2
  go_loopw [6] (fun y wr => ∃ k c0 c1 c2 c3 : Nat, y = .int .i64 ((k : Int) - 1) ∧ k ≤ 256 ∧ Hid (nv (pw a e k) = .agg (w4 c0 c1 c2 c3).toArray) ∧ Hid (PwAt w wr n (w4 a0 a1 a2 a3) (w4 e0 e1 e2 e3) (w4 c0 c1 c2 c3))) (fun y _ => numOf1 y)
  case atStart => exact ⟨256, 1, 0, 0, 0, rfl, Nat.le_refl _, HBG.out, HS.out⟩
  case round =>
    clear HS
    obtain ⟨k, c0, c1, c2, c3, rfl, hk, HC, HW⟩ := hrel
    cases k with
    | zero =>
      have z1 : ((0 : Nat) : Int) - 1 = -1 := rfl
      rw [z1]
      have HRX := HRR
      rw [HC.out] at HRX
      clear HC HE HA HP HPQ HRR
      go_wp2_with (first
        | (refine wpList_load_mid rfl 74 (.tmp 5) rfl (n + 3) 0 rfl (w4 c0 c1 c2 c3) _ HW.out.rn Try.underlying74 rfl info4 ?_; simp only [w4])
        | (refine wpList_store_mid rfl 74 (.tmp 4) (.tmp 27) rfl (n + 2) 0 (w4 c0 c1 c2 c3).toArray rfl rfl HW.out.u info4 (one4 _ _ _ _) ?_; simp only))
      exact bodyPost_ret (results_cell Try.results66 rfl (HW.out.bu.end_ (w4 c0 c1 c2 c3) rfl).1) rfl ⟨by rw [HRX.out], by rw [hn]; exact (HW.out.bu.end_ (w4 c0 c1 c2 c3) rfl).2⟩
    | succ j =>
      have z1 : ((j + 1 : Nat) : Int) - 1 = (j : Int) := by omega
      rw [z1]
      have z2 : (0 : Int) ≤ (j : Int) := by omega
      obtain ⟨q, hq⟩ : ∃ q, j / 64 = q := ⟨_, rfl⟩
      obtain ⟨s, hs⟩ : ∃ s, j % 64 = s := ⟨_, rfl⟩
      have z3 : Int.tdiv (j : Int) 64 = (q : Int) := by rw [Int.tdiv_eq_ediv_of_nonneg z2]; omega
      have z4 : Int.tmod (j : Int) 64 = (s : Int) := by rw [Int.tmod_eq_emod_of_nonneg z2]; omega
      have z5 : (q : Int) < 4 := by omega
      have z6 : (s : Int) < 64 := by omega
      have z7 : IntKind.i64.wrap ((j : Int) - 1) = (j : Int) - 1 := by rw [IntKind.wrap_i64]; omega
      have z8 : IntKind.i64.wrap (q : Int) = (q : Int) := by rw [IntKind.wrap_i64]; omega
      have z9 : IntKind.i64.wrap (s : Int) = (s : Int) := by rw [IntKind.wrap_i64]; omega
      have hq4 : q < 4 := by omega
      have hbt := word_bit e q s (by omega)
      rw [show 64 * q + s = j by omega] at hbt
      have hlu : e / 2 ^ (64 * q) % 2 ^ 64 < 18446744073709551616 := Nat.mod_lt _ (by decide)
      have HEq : Hid ((w4 e0 e1 e2 e3)[q]? = some (.int .u64 ((e / 2 ^ (64 * q) % 2 ^ 64 : Nat) : Int))) := HE.out q hq4
      obtain ⟨u, hu⟩ : ∃ u, e / 2 ^ (64 * q) % 2 ^ 64 = u := ⟨_, rfl⟩
      rw [hu] at hbt hlu HEq
      obtain ⟨t, ht⟩ : ∃ t, u / 2 ^ s = t := ⟨_, rfl⟩
      have x1 : (u : Int) / 2 ^ s = (t : Int) := by rw [← ht]; norm_cast
      have x2 := and1 t (by rw [← ht]; exact Nat.lt_of_le_of_lt (Nat.div_le_self _ _) hlu)
      rw [ht] at hbt
      have p1 := fun W => product_any (pw a e (j + 1)) (pw a e (j + 1)) W (HP.out _) (HP.out _)
      have p2 := fun W => product_any (pw a e (j + 1) * pw a e (j + 1) % p) a W (HPQ.out _) Ha.out
      obtain ⟨d0, d1, d2, d3, ed⟩ := nv_w (pw a e (j + 1) * pw a e (j + 1) % p)
      obtain ⟨g0, g1, g2, g3, eg⟩ := nv_w (pw a e (j + 1) * pw a e (j + 1) % p * a % p)
      rw [HC.out, ed] at p1
      rw [ed, HA.out, eg] at p2
      unfold w4 at p1 p2
      have HFST : Hid (True) := trivial
      clear HC HE HA HP HPQ HRR Ha hq hs hu ht hlu
      by_cases hb1 : e / 2 ^ j % 2 = 1
      · rw [hbt, hb1] at x2
        have x3 : ((1 : Nat) : Int) = 1 := rfl
        rw [x3] at x2
        clear x3 hbt
        have HQ4 : Hid (nv (pw a e j) = .agg (w4 g0 g1 g2 g3).toArray) := by show _ = _; rw [(pw_step a e j).1 hb1]; exact eg
        go_wp2_with (first
          | (have hz := HFST; refine wpList_load_mid rfl 74 (.tmp 5) rfl (n + 3) 0 rfl (w4 c0 c1 c2 c3) _ HW.out.rn Try.underlying74 rfl info4 ?_; simp only [w4])
          | (have hz := HFST; go_at_call 65; refine (p1 _).mono ?_; rintro r w2 ⟨rfl, hb2⟩; have HW2 := (show Hid (PwAt w w2 n (w4 a0 a1 a2 a3) (w4 e0 e1 e2 e3) (w4 c0 c1 c2 c3)) from HW.out.below hb2); clear hz hb2 p1 HW HFST)
          | (refine wpList_store_mid rfl 74 (.tmp 5) (.tmp 14) rfl (n + 3) 0 (w4 d0 d1 d2 d3).toArray rfl rfl HW2.out.tn info4 (one4 _ _ _ _) ?_; simp only; obtain ⟨w3, hw3⟩ : ∃ v, w2.setCells (n + 3) 0 (w4 d0 d1 d2 d3) = v := ⟨_, rfl⟩; have HW3 := (show Hid (PwAt w w3 n (w4 a0 a1 a2 a3) (w4 e0 e1 e2 e3) (w4 d0 d1 d2 d3)) from (by rw [← hw3]; exact HW2.out.set _ rfl)); rw [hw3]; clear hw3 HW2; have r0 := HW3.out.re q _ HEq.out; simp only [Nat.zero_add] at r0)
          | (refine wpList_load_mid rfl 74 (.tmp 5) rfl (n + 3) 0 rfl (w4 d0 d1 d2 d3) _ HW3.out.rn Try.underlying74 rfl info4 ?_; simp only [w4])
          | (refine wpList_load_mid rfl 74 (.tmp 2) rfl n 0 rfl (w4 a0 a1 a2 a3) _ HW3.out.ra Try.underlying74 rfl info4 ?_; simp only [w4])
          | (go_at_call 65; refine (p2 _).mono ?_; rintro r w4' ⟨rfl, hb4⟩; have HW4 := (show Hid (PwAt w w4' n (w4 a0 a1 a2 a3) (w4 e0 e1 e2 e3) (w4 d0 d1 d2 d3)) from HW3.out.below hb4); clear hb4 p2 HW3 r0)
          | (refine wpList_store_mid rfl 74 (.tmp 5) (.tmp 26) rfl (n + 3) 0 (w4 g0 g1 g2 g3).toArray rfl rfl HW4.out.tn info4 (one4 _ _ _ _) ?_; simp only; obtain ⟨w5, hw5⟩ : ∃ v, w4'.setCells (n + 3) 0 (w4 g0 g1 g2 g3) = v := ⟨_, rfl⟩; have HW5 := (show Hid (PwAt w w5 n (w4 a0 a1 a2 a3) (w4 e0 e1 e2 e3) (w4 g0 g1 g2 g3)) from (by rw [← hw5]; exact HW4.out.set _ rfl)); rw [hw5]; clear hw5 HW4))
        go_roundw
        case rel => exact ⟨j, g0, g1, g2, g3, rfl, by omega, HQ4, HW5⟩
        case measure => simp [numOf1]
      · have hb0 : e / 2 ^ j % 2 = 0 := by omega
        rw [hbt, hb0] at x2
        have x3 : ((0 : Nat) : Int) = 0 := rfl
        rw [x3] at x2
        clear x3 hbt p2
        have HQ4 : Hid (nv (pw a e j) = .agg (w4 d0 d1 d2 d3).toArray) := by show _ = _; rw [(pw_step a e j).2 hb1]; exact ed
        go_wp2_with (first
          | (have hz := HFST; refine wpList_load_mid rfl 74 (.tmp 5) rfl (n + 3) 0 rfl (w4 c0 c1 c2 c3) _ HW.out.rn Try.underlying74 rfl info4 ?_; simp only [w4])
          | (have hz := HFST; go_at_call 65; refine (p1 _).mono ?_; rintro r w2 ⟨rfl, hb2⟩; have HW2 := (show Hid (PwAt w w2 n (w4 a0 a1 a2 a3) (w4 e0 e1 e2 e3) (w4 c0 c1 c2 c3)) from HW.out.below hb2); clear hz hb2 p1 HW HFST)
          | (refine wpList_store_mid rfl 74 (.tmp 5) (.tmp 14) rfl (n + 3) 0 (w4 d0 d1 d2 d3).toArray rfl rfl HW2.out.tn info4 (one4 _ _ _ _) ?_; simp only; obtain ⟨w3, hw3⟩ : ∃ v, w2.setCells (n + 3) 0 (w4 d0 d1 d2 d3) = v := ⟨_, rfl⟩; have HW3 := (show Hid (PwAt w w3 n (w4 a0 a1 a2 a3) (w4 e0 e1 e2 e3) (w4 d0 d1 d2 d3)) from (by rw [← hw3]; exact HW2.out.set _ rfl)); rw [hw3]; clear hw3 HW2; have r0 := HW3.out.re q _ HEq.out; simp only [Nat.zero_add] at r0))
        go_roundw
        case rel => exact ⟨j, d0, d1, d2, d3, rfl, by omega, HQ4, HW3⟩
        case measure => simp [numOf1]
end Fd
end Go.Proofs.Ytgdekigdbbldoaa

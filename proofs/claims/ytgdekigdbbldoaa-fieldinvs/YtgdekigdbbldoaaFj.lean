/- What whole and product do: contracts, by walking their texts. -/
import Derived.Test.YtgdekigdbbldoaaFi
namespace Go.Proofs.Ytgdekigdbbldoaa
open Go.RowKit
namespace Fd
open Rg

theorem index4 (cs : Array Value) (i : Nat) (v : Value) (hi : i < 4) (hv : cs[i]? = some v) (W : World) : (Instr.index 74 (.agg cs) (.int .i64 (i : Int))).run Try.prog W = .ok v W := by
  have hq : (Try.prog.info? 72).map (·.size) = some 1 := by kernel_rfl
  obtain ⟨t, ht⟩ : ∃ t, Try.prog.info? 72 = some t := by
    cases h : Try.prog.info? 72 with
    | none => simp [h] at hq
    | some t => exact ⟨t, rfl⟩
  have hs : t.size = 1 := by simpa [ht] using hq
  have hu : Try.prog.underlying 72 = some (.int .u64) := Try.underlying72
  have h0 : (0 : Int) ≤ (i : Int) ∧ (i : Int) < 4 := by omega
  obtain ⟨hi2, rfl⟩ := Array.getElem?_eq_some_iff.1 hv
  simp [Instr.index, asIntOf, Sem.run_bind, run_underlying Try.underlying74, sizeOf, typeInfo, ht, hs, part, run_underlying hu, isAgg, h0, hi2, hi]
def pick4 (a0 a1 a2 a3 : Nat) : Nat → Nat
  | 0 => a0 | 1 => a1 | 2 => a2 | 3 => a3 | _ => 0
theorem w4_at (a0 a1 a2 a3 : Nat) (j : Nat) (hj : j < 4) : (#[.int .u64 (a0 : Int), .int .u64 (a1 : Int), .int .u64 (a2 : Int), .int .u64 (a3 : Int)] : Array Value)[j]? = some (.int .u64 ((pick4 a0 a1 a2 a3 j : Nat) : Int)) := by
  match j, hj with
  | 0, _ => rfl
  | 1, _ => rfl
  | 2, _ => rfl
  | 3, _ => rfl
/-- The product's words so far. -/
structure WhAt (w wr : World) (n : Nat) (B : List Value) (M : Nat → Nat) : Prop where
  b : Below n w wr
  s : wr.rangeAt (n + 1) 0 B
  c : ∀ j, j < 8 → wr.cell? ⟨n + 2, j, none⟩ = some (.int .u64 ((M j : Nat) : Int))
  t : wr.there (n + 2) 0 8
  l : n + 2 < wr.heap.size
theorem WhAt.set {w wr : World} {n : Nat} {B : List Value} {M : Nat → Nat} (h : WhAt w wr n B M) {k : Nat} (hk : k < 8) (x : Nat) : WhAt w (wr.setCell ⟨n + 2, k, none⟩ (.int .u64 (x : Int))) n B (upd M k x) := by
  have hs : ∀ (b o : Nat), b ≠ n + 2 → (wr.setCell ⟨n + 2, k, none⟩ (.int .u64 (x : Int))).cell? ⟨b, o, none⟩ = wr.cell? ⟨b, o, none⟩ := fun b o hb => World.cell?_setCell_other _ _ _ _ (fun e => hb (by cases e; rfl))
  refine ⟨h.b.setCell (by simp) _, fun j v hv => (hs _ _ (by omega)).trans (h.s j v hv), fun j hj => ?_, fun j hj => ?_, by simpa using h.l⟩
  · unfold upd
    by_cases hj2 : j = k
    · subst hj2
      rw [World.cell?_setCell_same _ _ _ (h.c _ hk), if_pos rfl]
    · rw [World.cell?_setCell_other _ _ _ _ (fun e => hj2 (by cases e; rfl)), h.c j hj, if_neg hj2]
  · obtain ⟨h1, h2⟩ := h.t j hj
    refine ⟨?_, by rw [World.frozen?_setCell]; exact h2⟩
    by_cases hj2 : j = k
    · subst hj2
      rw [show (0 + j) = j by omega, World.cell?_setCell_same _ _ _ (h.c _ hk)]
      rfl
    · rw [World.cell?_setCell_other _ _ _ _ (fun e => hj2 (by simpa using e.symm))]
      exact h1
theorem WhAt.start (w : World) (A B : List Value) : WhAt w (((w.alloc (.cells A.toArray 74)).alloc (.cells B.toArray 74)).alloc (.cells (e8 0 0 0 0 0 0 0 0).toArray 103)) w.heap.size B (fun _ => 0) := by
  have e1 : (w.alloc (.cells A.toArray 74)).heap.size = w.heap.size + 1 := size_alloc _ _
  have e2 : ((w.alloc (.cells A.toArray 74)).alloc (.cells B.toArray 74)).heap.size = w.heap.size + 2 := by rw [size_alloc, size_alloc]
  refine ⟨(((Below.refl _ _).alloc (Nat.le_refl _) _).alloc (by simp) _).alloc (by simp; omega) _, World.rangeAt_alloc (range_new1 _ _ _ _) _, fun j hj => ?_, ?_, by rw [size_alloc, e2]; omega⟩
  · have h2 := cell_new ((w.alloc (.cells A.toArray 74)).alloc (.cells B.toArray 74)) (e8 0 0 0 0 0 0 0 0).toArray 103 (i := j) (v := .int .u64 0) (by
      match j, hj with
      | 0, _ => rfl
      | 1, _ => rfl
      | 2, _ => rfl
      | 3, _ => rfl
      | 4, _ => rfl
      | 5, _ => rfl
      | 6, _ => rfl
      | 7, _ => rfl)
    rw [e2] at h2
    rw [h2]
    rfl
  · have h2 := there_new ((w.alloc (.cells A.toArray 74)).alloc (.cells B.toArray 74)) (e8 0 0 0 0 0 0 0 0).toArray 103 (m := 8) fun j hj => by simp [e8, hj]
    rw [e2] at h2
    exact h2
theorem WhAt.all {w wr : World} {n : Nat} {B : List Value} {M : Nat → Nat} (h : WhAt w wr n B M) : wr.rangeAt (n + 2) 0 (e8 (M 0) (M 1) (M 2) (M 3) (M 4) (M 5) (M 6) (M 7)) := fun j v hv => by
  rw [Nat.zero_add]
  match j, hv with
  | 0, hv => cases hv; exact h.c 0 (by decide)
  | 1, hv => cases hv; exact h.c 1 (by decide)
  | 2, hv => cases hv; exact h.c 2 (by decide)
  | 3, hv => cases hv; exact h.c 3 (by decide)
  | 4, hv => cases hv; exact h.c 4 (by decide)
  | 5, hv => cases hv; exact h.c 5 (by decide)
  | 6, hv => cases hv; exact h.c 6 (by decide)
  | 7, hv => cases hv; exact h.c 7 (by decide)
  | j + 8, hv => simp [e8] at hv
theorem info62 : (Try.prog.info? 103).map (·.size) = some 8 := by kernel_rfl
theorem one8 (a b c d e f g h : Nat) : (e8 a b c d e f g h).toArray.all (·.oneCell') = true := all_oneCell_toArray fun v hv => by
  simp only [e8, List.mem_cons, List.not_mem_nil, or_false] at hv
  rcases hv with rfl | rfl | rfl | rfl | rfl | rfl | rfl | rfl <;> rfl

set_option maxHeartbeats 4000000 in
set_option maxRecDepth 4000 in
theorem whole_words (a0 a1 a2 a3 b0 b1 b2 b3 : Nat) (A B : Nat → Nat) (hA : ∀ j, A j < 18446744073709551616) (hB : ∀ j, B j < 18446744073709551616) (hAp : pick4 a0 a1 a2 a3 = A) (hBp : pick4 b0 b1 b2 b3 = B) (w : World) :
    Calls Try.prog 102 #[.agg (w4 a0 a1 a2 a3).toArray, .agg (w4 b0 b1 b2 b3).toArray] w fun e w' => e = .returned (.agg (e8 (rows A B 4 0) (rows A B 4 1) (rows A B 4 2) (rows A B 4 3) (rows A B 4 4) (rows A B 4 5) (rows A B 4 6) (rows A B 4 7)).toArray) ∧ Below w.heap.size w w' := by
  obtain ⟨n, hn⟩ : ∃ n, w.heap.size = n := ⟨_, rfl⟩
  have hS := WhAt.start w (w4 a0 a1 a2 a3) (w4 b0 b1 b2 b3)
  rw [hn] at hS
  have HS : Hid (WhAt w _ n (w4 b0 b1 b2 b3) (rows A B 0)) := hS
  have HXA : Hid (∀ k : Nat, k < 4 → ∀ W : World, (Instr.index 74 (.agg #[.int .u64 (a0 : Int), .int .u64 (a1 : Int), .int .u64 (a2 : Int), .int .u64 (a3 : Int)]) (.int .i64 (k : Int))).run Try.prog W = .ok (.int .u64 ((A k : Nat) : Int)) W) := fun k hk W => index4 _ k _ hk (by rw [w4_at _ _ _ _ _ hk, hAp]) W
  have HXB : Hid (∀ k : Nat, k < 4 → ∀ W : World, (Instr.index 74 (.agg #[.int .u64 (b0 : Int), .int .u64 (b1 : Int), .int .u64 (b2 : Int), .int .u64 (b3 : Int)]) (.int .i64 (k : Int))).run Try.prog W = .ok (.int .u64 ((B k : Nat) : Int)) W) := fun k hk W => index4 _ k _ hk (by rw [w4_at _ _ _ _ _ hk, hBp]) W
  have HA : Hid (∀ j, A j < 18446744073709551616) := hA
  have HB : Hid (∀ j, B j < 18446744073709551616) := hB
  obtain ⟨R, hR⟩ : ∃ R, Value.agg (e8 (rows A B 4 0) (rows A B 4 1) (rows A B 4 2) (rows A B 4 3) (rows A B 4 4) (rows A B 4 5) (rows A B 4 6) (rows A B 4 7)).toArray = R := ⟨_, rfl⟩
  rw [hR]
  have HRR : Hid (Value.agg (e8 (rows A B 4 0) (rows A B 4 1) (rows A B 4 2) (rows A B 4 3) (rows A B 4 4) (rows A B 4 5) (rows A B 4 6) (rows A B 4 7)).toArray = R) := hR
  clear hS hA hB hAp hBp hR
  unfold w4
  go_enter Try.func102, Try.ntmps102
  go_wp2
  go_loopw [11] (fun y wr => ∃ i : Nat, y = .int .i64 (i : Int) ∧ i ≤ 4 ∧ Hid (WhAt w wr n (w4 b0 b1 b2 b3) (rows A B i))) (fun y _ => 4 - numOf y)
  case atStart => exact ⟨0, rfl, Nat.zero_le _, HS.out⟩
  case round =>
    clear HS
    obtain ⟨i, rfl, hi, HW⟩ := hrel
    by_cases hlt : i < 4
    · have hlt' : (i : Int) < 4 := by omega
      have hlt0 : (0 : Int) ≤ (i : Int) := by omega
      have hxa := HXA.out i hlt
      have Hx : Hid (A i < 18446744073709551616) := HA.out i
      have HM : Hid (∀ j, rows A B i j < 18446744073709551616) := rows_lt HA.out HB.out i
      have HNX : Hid (rows A B (i + 1) = row (A i) B i (rows A B i)) := rfl
      obtain ⟨x, hx⟩ : ∃ x, A i = x := ⟨_, rfl⟩
      obtain ⟨M, hM⟩ : ∃ M, rows A B i = M := ⟨_, rfl⟩
      rw [hx] at hxa Hx HNX
      rw [hM] at HM HW HNX
      clear hx hM
      go_wp2_with (refine wpList_load_mid rfl 74 (.tmp 3) rfl (n + 1) 0 rfl (w4 b0 b1 b2 b3) _ HW.out.s Try.underlying74 rfl info4 ?_; simp only [w4])
      go_loopw [16, 7] (fun y z wr2 => ∃ j : Nat, y = .int .i64 (j : Int) ∧ z = .int .u64 (((inn x B i M j).2 : Nat) : Int) ∧ j ≤ 4 ∧ Hid (WhAt w wr2 n (w4 b0 b1 b2 b3) (inn x B i M j).1)) (fun y _ _ => 4 - numOf y)
      case atStart => exact ⟨0, rfl, rfl, Nat.zero_le _, HW.out⟩
      case round =>
        clear HW
        obtain ⟨j, rfl, rfl, hj, HV⟩ := hrel
        by_cases hjt : j < 4
        · have hjt' : (j : Int) < 4 := by omega
          have hjt0 : (0 : Int) ≤ (j : Int) := by omega
          have hxb := HXB.out j hjt
          obtain ⟨s, hs⟩ : ∃ s, i + j = s := ⟨_, rfl⟩
          have y1 : (i : Int) + (j : Int) = (s : Int) := by omega
          have y2 : (s : Int) < 8 := by omega
          have y3 : IntKind.i64.wrap (s : Int) = (s : Int) := by rw [IntKind.wrap_i64]; omega
          have hs8 : s < 8 := by omega
          obtain ⟨I1, I2⟩ := inn_lt (i := i) Hx.out HB.out HM.out j
          have r0 := HV.out.c s hs8
          have r1 := (HV.out.t s hs8).2
          simp only [Nat.zero_add] at r1
          have ct := fun W => timesPlus_any x (B j) ((inn x B i M j).1 s) (inn x B i M j).2 W Hx.out (HB.out j) (I1 s) I2
          have HN1 : Hid ((inn x B i M (j + 1)).1 = upd (inn x B i M j).1 s ((x * B j + (inn x B i M j).1 s + (inn x B i M j).2) % 18446744073709551616)) := by rw [← hs]; rfl
          have HN2 : Hid ((inn x B i M (j + 1)).2 = (x * B j + (inn x B i M j).1 s + (inn x B i M j).2) / 18446744073709551616) := by rw [← hs]; rfl
          obtain ⟨u, hu⟩ : ∃ u, (inn x B i M j).1 s = u := ⟨_, rfl⟩
          obtain ⟨v, hv⟩ : ∃ u, (inn x B i M j).2 = u := ⟨_, rfl⟩
          obtain ⟨bj, hbj⟩ : ∃ u, B j = u := ⟨_, rfl⟩
          rw [hu, hv, hbj] at ct HN1 HN2
          rw [hbj] at hxb
          rw [hu] at r0
          rw [hv]
          obtain ⟨X, hX⟩ : ∃ X, (x * bj + u + v) % 18446744073709551616 = X := ⟨_, rfl⟩
          obtain ⟨Z, hZ⟩ : ∃ X, (x * bj + u + v) / 18446744073709551616 = X := ⟨_, rfl⟩
          rw [hX] at ct HN1
          rw [hZ] at ct HN2
          have HY : Hid (WhAt w (wr.setCell ⟨n + 2, s, none⟩ (.int .u64 (X : Int))) n (w4 b0 b1 b2 b3) (upd (inn x B i M j).1 s X)) := HV.out.set hs8 X
          clear hX hZ hu hv hbj I1 I2 hs HV
          go_wp2_with (go_at_call 108; refine (ct _).mono ?_; rintro e w' ⟨rfl, rfl⟩)
          go_roundw
          case rel => exact ⟨j + 1, by go_num, by rw [HN2.out], hjt, by rw [HN1.out]; exact HY⟩
          case measure => simp [numOf]; omega
        · have hj4 : j = 4 := by omega
          subst hj4
          have hjt' : ¬ ((4 : Nat) : Int) < 4 := by omega
          obtain ⟨s, hs⟩ : ∃ s, i + 4 = s := ⟨_, rfl⟩
          have y1 : (i : Int) + 4 = (s : Int) := by omega
          have y2 : (s : Int) < 8 := by omega
          have y3 : IntKind.i64.wrap (s : Int) = (s : Int) := by rw [IntKind.wrap_i64]; omega
          have hs8 : s < 8 := by omega
          have r0 := HV.out.c s hs8
          have r1 := (HV.out.t s hs8).2
          simp only [Nat.zero_add] at r1
          have HN1 : Hid (row x B i M = upd (inn x B i M 4).1 s (inn x B i M 4).2) := by rw [← hs]; rfl
          obtain ⟨v, hv⟩ : ∃ u, (inn x B i M 4).2 = u := ⟨_, rfl⟩
          obtain ⟨M4, hM4⟩ : ∃ u, (inn x B i M 4).1 = u := ⟨_, rfl⟩
          rw [hv, hM4] at HN1
          rw [hM4] at HV r0
          rw [hv]
          have HY : Hid (WhAt w (wr.setCell ⟨n + 2, s, none⟩ (.int .u64 (v : Int))) n (w4 b0 b1 b2 b3) (upd M4 s v)) := HV.out.set hs8 v
          clear hv hM4 hs HV
          go_wp2
          go_roundw
          case rel => exact ⟨i + 1, by go_num, hlt, by rw [HNX.out, HN1.out]; exact HY⟩
          case measure => simp [numOf]; omega
    · have hi4 : i = 4 := by omega
      subst hi4
      have hlt' : ¬ ((4 : Nat) : Int) < 4 := by omega
      have HA8 := (show Hid (wr.rangeAt (n + 2) 0 (e8 (rows A B 4 0) (rows A B 4 1) (rows A B 4 2) (rows A B 4 3) (rows A B 4 4) (rows A B 4 5) (rows A B 4 6) (rows A B 4 7))) from HW.out.all)
      have HT8 : Hid (wr.there (n + 2) 0 8) := HW.out.t
      have HBB : Hid (Below n w wr) := HW.out.b
      obtain ⟨f0, hf0⟩ : ∃ f, rows A B 4 0 = f := ⟨_, rfl⟩
      obtain ⟨f1, hf1⟩ : ∃ f, rows A B 4 1 = f := ⟨_, rfl⟩
      obtain ⟨f2, hf2⟩ : ∃ f, rows A B 4 2 = f := ⟨_, rfl⟩
      obtain ⟨f3, hf3⟩ : ∃ f, rows A B 4 3 = f := ⟨_, rfl⟩
      obtain ⟨f4, hf4⟩ : ∃ f, rows A B 4 4 = f := ⟨_, rfl⟩
      obtain ⟨f5, hf5⟩ : ∃ f, rows A B 4 5 = f := ⟨_, rfl⟩
      obtain ⟨f6, hf6⟩ : ∃ f, rows A B 4 6 = f := ⟨_, rfl⟩
      obtain ⟨f7, hf7⟩ : ∃ f, rows A B 4 7 = f := ⟨_, rfl⟩
      rw [hf0, hf1, hf2, hf3, hf4, hf5, hf6, hf7] at HA8 HRR
      clear hf0 hf1 hf2 hf3 hf4 hf5 hf6 hf7 HW HA HB HXA HXB
      go_wp2_with (first
        | (refine wpList_load_mid rfl 103 (.tmp 4) rfl (n + 2) 0 rfl (e8 f0 f1 f2 f3 f4 f5 f6 f7) _ HA8.out Try.underlying103 rfl info62 ?_; simp only [e8])
        | (refine wpList_store_mid rfl 103 (.tmp 4) (.tmp 42) rfl (n + 2) 0 (e8 f0 f1 f2 f3 f4 f5 f6 f7).toArray rfl rfl HT8.out info62 (one8 _ _ _ _ _ _ _ _) ?_; simp only))
      exact bodyPost_ret (results_cell Try.results102 rfl (run_loadVar_mid (P := Try.prog) _ (n + 2) 0 103 (e8 f0 f1 f2 f3 f4 f5 f6 f7) _ (World.rangeAt_setCells_same _ _ _ _ HT8.out) Try.underlying103 rfl info62)) rfl ⟨by rw [HRR.out], below_setCells HBB.out (by omega)⟩
theorem whole_any (a b : Nat) (w : World) (ha : a < 115792089237316195423570985008687907853269984665640564039457584007913129639936) (hb : b < 115792089237316195423570985008687907853269984665640564039457584007913129639936) :
    Calls Try.prog 102 #[nv a, nv b] w fun e w' => e = .returned (ev (a * b)) ∧ Below w.heap.size w w' := by
  obtain ⟨p0, p1, p2, p3⟩ := l_lt a
  obtain ⟨q0, q1, q2, q3⟩ := l_lt b
  have hA : ∀ j, pick4 (l0 a) (l1 a) (l2 a) (l3 a) j < 18446744073709551616 := by
    intro j
    unfold pick4
    split <;> first | assumption | decide
  have hB : ∀ j, pick4 (l0 b) (l1 b) (l2 b) (l3 b) j < 18446744073709551616 := by
    intro j
    unfold pick4
    split <;> first | assumption | decide
  have h := whole_words (l0 a) (l1 a) (l2 a) (l3 a) (l0 b) (l1 b) (l2 b) (l3 b) _ _ hA hB rfl rfl w
  rw [← ev_words _ (rows_lt hA hB 4), rows_val] at h
  have e1 : mk (pick4 (l0 a) (l1 a) (l2 a) (l3 a) 0) (pick4 (l0 a) (l1 a) (l2 a) (l3 a) 1) (pick4 (l0 a) (l1 a) (l2 a) (l3 a) 2) (pick4 (l0 a) (l1 a) (l2 a) (l3 a) 3) = a := mk_l a ha
  have e2 : mk (pick4 (l0 b) (l1 b) (l2 b) (l3 b) 0) (pick4 (l0 b) (l1 b) (l2 b) (l3 b) 1) (pick4 (l0 b) (l1 b) (l2 b) (l3 b) 2) (pick4 (l0 b) (l1 b) (l2 b) (l3 b) 3) = b := mk_l b hb
  rw [e1, e2] at h
  exact h
theorem product_any (a b : Nat) (w : World) (ha : a < 115792089237316195423570985008687907853269984665640564039457584007913129639936) (hb : b < 115792089237316195423570985008687907853269984665640564039457584007913129639936) :
    Calls Try.prog 65 #[nv a, nv b] w fun e w' => e = .returned (nv (a * b % p)) ∧ Below w.heap.size w w' :=
  product_of a b w ha hb (fun W => whole_any a b W ha hb) fun W => folded_any (a * b) W (Nat.lt_of_le_of_lt (Nat.mul_le_mul (Nat.le_of_lt_succ (Nat.lt_succ_of_lt ha)) (show b ≤ 115792089237316195423570985008687907853269984665640564039457584007913129639935 by omega)) (by decide))
end Fd
end Go.Proofs.Ytgdekigdbbldoaa

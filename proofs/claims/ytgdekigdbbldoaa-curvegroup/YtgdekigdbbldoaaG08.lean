/- What whole and product do: contracts, by walking their texts. What power does: a contract, by walking its text. -/
import Derived.Test.YtgdekigdbbldoaaG07
namespace Go.Proofs.Ytgdekigdbbldoaa
open Go.RowKit
namespace Fd
open Rg

theorem index4 (cs : Array Value) (i : Nat) (v : Value) (hi : i < 4) (hv : cs[i]? = some v) (W : World) : (Instr.index 74 (.agg cs) (.int .i64 (i : Int))).run Try.prog W = .ok v W := by
  have hq : (Try.prog.info? 72).map (·.size) = some 1 := by kernel_rfl
  obtain ⟨t, ht⟩ : ∃ t, Try.prog.info? 72 = some t := by
    cases h : Try.prog.info? 72 with
    | none => simp [h] at hq
    | some t => exact ⟨t, rfl⟩
  have hs : t.size = 1 := by simpa [ht] using hq
  have hu : Try.prog.underlying 72 = some (.int .u64) := Try.underlying72
  have h0 : (0 : Int) ≤ (i : Int) ∧ (i : Int) < 4 := by omega
  obtain ⟨hi2, rfl⟩ := Array.getElem?_eq_some_iff.1 hv
  simp [Instr.index, asIntOf, Sem.run_bind, run_underlying Try.underlying74, sizeOf, typeInfo, ht, hs, part, run_underlying hu, isAgg, h0, hi2, hi]
def pick4 (a0 a1 a2 a3 : Nat) : Nat → Nat
  | 0 => a0 | 1 => a1 | 2 => a2 | 3 => a3 | _ => 0
theorem w4_at (a0 a1 a2 a3 : Nat) (j : Nat) (hj : j < 4) : (#[.int .u64 (a0 : Int), .int .u64 (a1 : Int), .int .u64 (a2 : Int), .int .u64 (a3 : Int)] : Array Value)[j]? = some (.int .u64 ((pick4 a0 a1 a2 a3 j : Nat) : Int)) := by
  match j, hj with
  | 0, _ => rfl
  | 1, _ => rfl
  | 2, _ => rfl
  | 3, _ => rfl
/-- The product's words so far. -/
structure WhAt (w wr : World) (n : Nat) (B : List Value) (M : Nat → Nat) : Prop where
  b : Below n w wr
  s : wr.rangeAt (n + 1) 0 B
  c : ∀ j, j < 8 → wr.cell? ⟨n + 2, j, none⟩ = some (.int .u64 ((M j : Nat) : Int))
  t : wr.there (n + 2) 0 8
  l : n + 2 < wr.heap.size
theorem WhAt.set {w wr : World} {n : Nat} {B : List Value} {M : Nat → Nat} (h : WhAt w wr n B M) {k : Nat} (hk : k < 8) (x : Nat) : WhAt w (wr.setCell ⟨n + 2, k, none⟩ (.int .u64 (x : Int))) n B (upd M k x) := by
  have hs : ∀ (b o : Nat), b ≠ n + 2 → (wr.setCell ⟨n + 2, k, none⟩ (.int .u64 (x : Int))).cell? ⟨b, o, none⟩ = wr.cell? ⟨b, o, none⟩ := fun b o hb => World.cell?_setCell_other _ _ _ _ (fun e => hb (by cases e; rfl))
  refine ⟨h.b.setCell (by simp) _, fun j v hv => (hs _ _ (by omega)).trans (h.s j v hv), fun j hj => ?_, fun j hj => ?_, by simpa using h.l⟩
  · unfold upd
    by_cases hj2 : j = k
    · subst hj2
      rw [World.cell?_setCell_same _ _ _ (h.c _ hk), if_pos rfl]
    · rw [World.cell?_setCell_other _ _ _ _ (fun e => hj2 (by cases e; rfl)), h.c j hj, if_neg hj2]
  · obtain ⟨h1, h2⟩ := h.t j hj
    refine ⟨?_, by rw [World.frozen?_setCell]; exact h2⟩
    by_cases hj2 : j = k
    · subst hj2
      rw [show (0 + j) = j by omega, World.cell?_setCell_same _ _ _ (h.c _ hk)]
      rfl
    · rw [World.cell?_setCell_other _ _ _ _ (fun e => hj2 (by simpa using e.symm))]
      exact h1
theorem WhAt.start (w : World) (A B : List Value) : WhAt w (((w.alloc (.cells A.toArray 74)).alloc (.cells B.toArray 74)).alloc (.cells (e8 0 0 0 0 0 0 0 0).toArray 103)) w.heap.size B (fun _ => 0) := by
  have e1 : (w.alloc (.cells A.toArray 74)).heap.size = w.heap.size + 1 := size_alloc _ _
  have e2 : ((w.alloc (.cells A.toArray 74)).alloc (.cells B.toArray 74)).heap.size = w.heap.size + 2 := by rw [size_alloc, size_alloc]
  refine ⟨(((Below.refl _ _).alloc (Nat.le_refl _) _).alloc (by simp) _).alloc (by simp; omega) _, World.rangeAt_alloc (range_new1 _ _ _ _) _, fun j hj => ?_, ?_, by rw [size_alloc, e2]; omega⟩
  · have h2 := cell_new ((w.alloc (.cells A.toArray 74)).alloc (.cells B.toArray 74)) (e8 0 0 0 0 0 0 0 0).toArray 103 (i := j) (v := .int .u64 0) (by
      match j, hj with
      | 0, _ => rfl
      | 1, _ => rfl
      | 2, _ => rfl
      | 3, _ => rfl
      | 4, _ => rfl
      | 5, _ => rfl
      | 6, _ => rfl
      | 7, _ => rfl)
    rw [e2] at h2
    rw [h2]
    rfl
  · have h2 := there_new ((w.alloc (.cells A.toArray 74)).alloc (.cells B.toArray 74)) (e8 0 0 0 0 0 0 0 0).toArray 103 (m := 8) fun j hj => by simp [e8, hj]
    rw [e2] at h2
    exact h2
theorem WhAt.all {w wr : World} {n : Nat} {B : List Value} {M : Nat → Nat} (h : WhAt w wr n B M) : wr.rangeAt (n + 2) 0 (e8 (M 0) (M 1) (M 2) (M 3) (M 4) (M 5) (M 6) (M 7)) := fun j v hv => by
  rw [Nat.zero_add]
  match j, hv with
  | 0, hv => cases hv; exact h.c 0 (by decide)
  | 1, hv => cases hv; exact h.c 1 (by decide)
  | 2, hv => cases hv; exact h.c 2 (by decide)
  | 3, hv => cases hv; exact h.c 3 (by decide)
  | 4, hv => cases hv; exact h.c 4 (by decide)
  | 5, hv => cases hv; exact h.c 5 (by decide)
  | 6, hv => cases hv; exact h.c 6 (by decide)
  | 7, hv => cases hv; exact h.c 7 (by decide)
  | j + 8, hv => simp [e8] at hv
theorem info62 : (Try.prog.info? 103).map (·.size) = some 8 := by kernel_rfl
theorem one8 (a b c d e f g h : Nat) : (e8 a b c d e f g h).toArray.all (·.oneCell') = true := all_oneCell_toArray fun v hv => by
  simp only [e8, List.mem_cons, List.not_mem_nil, or_false] at hv
  rcases hv with rfl | rfl | rfl | rfl | rfl | rfl | rfl | rfl <;> rfl

set_option maxHeartbeats 4000000 in
set_option maxRecDepth 4000 in
theorem whole_words (a0 a1 a2 a3 b0 b1 b2 b3 : Nat) (A B : Nat → Nat) (hA : ∀ j, A j < 18446744073709551616) (hB : ∀ j, B j < 18446744073709551616) (hAp : pick4 a0 a1 a2 a3 = A) (hBp : pick4 b0 b1 b2 b3 = B) (w : World) :
    Calls Try.prog 102 #[.agg (w4 a0 a1 a2 a3).toArray, .agg (w4 b0 b1 b2 b3).toArray] w fun e w' => e = .returned (.agg (e8 (rows A B 4 0) (rows A B 4 1) (rows A B 4 2) (rows A B 4 3) (rows A B 4 4) (rows A B 4 5) (rows A B 4 6) (rows A B 4 7)).toArray) ∧ Below w.heap.size w w' := by
  obtain ⟨n, hn⟩ : ∃ n, w.heap.size = n := ⟨_, rfl⟩
  have hS := WhAt.start w (w4 a0 a1 a2 a3) (w4 b0 b1 b2 b3)
  rw [hn] at hS
  have HS : Hid (WhAt w _ n (w4 b0 b1 b2 b3) (rows A B 0)) := hS
  have HXA : Hid (∀ k : Nat, k < 4 → ∀ W : World, (Instr.index 74 (.agg #[.int .u64 (a0 : Int), .int .u64 (a1 : Int), .int .u64 (a2 : Int), .int .u64 (a3 : Int)]) (.int .i64 (k : Int))).run Try.prog W = .ok (.int .u64 ((A k : Nat) : Int)) W) := fun k hk W => index4 _ k _ hk (by rw [w4_at _ _ _ _ _ hk, hAp]) W
  have HXB : Hid (∀ k : Nat, k < 4 → ∀ W : World, (Instr.index 74 (.agg #[.int .u64 (b0 : Int), .int .u64 (b1 : Int), .int .u64 (b2 : Int), .int .u64 (b3 : Int)]) (.int .i64 (k : Int))).run Try.prog W = .ok (.int .u64 ((B k : Nat) : Int)) W) := fun k hk W => index4 _ k _ hk (by rw [w4_at _ _ _ _ _ hk, hBp]) W
  have HA : Hid (∀ j, A j < 18446744073709551616) := hA
  have HB : Hid (∀ j, B j < 18446744073709551616) := hB
  obtain ⟨R, hR⟩ : ∃ R, Value.agg (e8 (rows A B 4 0) (rows A B 4 1) (rows A B 4 2) (rows A B 4 3) (rows A B 4 4) (rows A B 4 5) (rows A B 4 6) (rows A B 4 7)).toArray = R := ⟨_, rfl⟩
  rw [hR]
  have HRR : Hid (Value.agg (e8 (rows A B 4 0) (rows A B 4 1) (rows A B 4 2) (rows A B 4 3) (rows A B 4 4) (rows A B 4 5) (rows A B 4 6) (rows A B 4 7)).toArray = R) := hR
  clear hS hA hB hAp hBp hR
  unfold w4
  go_enter Try.func102, Try.ntmps102
  go_wp2
  go_loopw [11] (fun y wr => ∃ i : Nat, y = .int .i64 (i : Int) ∧ i ≤ 4 ∧ Hid (WhAt w wr n (w4 b0 b1 b2 b3) (rows A B i))) (fun y _ => 4 - numOf y)
  case atStart => exact ⟨0, rfl, Nat.zero_le _, HS.out⟩
  case round =>
    clear HS
    obtain ⟨i, rfl, hi, HW⟩ := hrel
    by_cases hlt : i < 4
    · have hlt' : (i : Int) < 4 := by omega
      have hlt0 : (0 : Int) ≤ (i : Int) := by omega
      have hxa := HXA.out i hlt
      have Hx : Hid (A i < 18446744073709551616) := HA.out i
      have HM : Hid (∀ j, rows A B i j < 18446744073709551616) := rows_lt HA.out HB.out i
      have HNX : Hid (rows A B (i + 1) = row (A i) B i (rows A B i)) := rfl
      obtain ⟨x, hx⟩ : ∃ x, A i = x := ⟨_, rfl⟩
      obtain ⟨M, hM⟩ : ∃ M, rows A B i = M := ⟨_, rfl⟩
      rw [hx] at hxa Hx HNX
      rw [hM] at HM HW HNX
      clear hx hM
      go_wp2_with (refine wpList_load_mid rfl 74 (.tmp 3) rfl (n + 1) 0 rfl (w4 b0 b1 b2 b3) _ HW.out.s Try.underlying74 rfl info4 ?_; simp only [w4])
      go_loopw [16, 7] (fun y z wr2 => ∃ j : Nat, y = .int .i64 (j : Int) ∧ z = .int .u64 (((inn x B i M j).2 : Nat) : Int) ∧ j ≤ 4 ∧ Hid (WhAt w wr2 n (w4 b0 b1 b2 b3) (inn x B i M j).1)) (fun y _ _ => 4 - numOf y)
      case atStart => exact ⟨0, rfl, rfl, Nat.zero_le _, HW.out⟩
      case round =>
        clear HW
        obtain ⟨j, rfl, rfl, hj, HV⟩ := hrel
        by_cases hjt : j < 4
        · have hjt' : (j : Int) < 4 := by omega
          have hjt0 : (0 : Int) ≤ (j : Int) := by omega
          have hxb := HXB.out j hjt
          obtain ⟨s, hs⟩ : ∃ s, i + j = s := ⟨_, rfl⟩
          have y1 : (i : Int) + (j : Int) = (s : Int) := by omega
          have y2 : (s : Int) < 8 := by omega
          have y3 : IntKind.i64.wrap (s : Int) = (s : Int) := by rw [IntKind.wrap_i64]; omega
          have hs8 : s < 8 := by omega
          obtain ⟨I1, I2⟩ := inn_lt (i := i) Hx.out HB.out HM.out j
          have r0 := HV.out.c s hs8
          have r1 := (HV.out.t s hs8).2
          simp only [Nat.zero_add] at r1
          have ct := fun W => timesPlus_any x (B j) ((inn x B i M j).1 s) (inn x B i M j).2 W Hx.out (HB.out j) (I1 s) I2
          have HN1 : Hid ((inn x B i M (j + 1)).1 = upd (inn x B i M j).1 s ((x * B j + (inn x B i M j).1 s + (inn x B i M j).2) % 18446744073709551616)) := by rw [← hs]; rfl
          have HN2 : Hid ((inn x B i M (j + 1)).2 = (x * B j + (inn x B i M j).1 s + (inn x B i M j).2) / 18446744073709551616) := by rw [← hs]; rfl
          obtain ⟨u, hu⟩ : ∃ u, (inn x B i M j).1 s = u := ⟨_, rfl⟩
          obtain ⟨v, hv⟩ : ∃ u, (inn x B i M j).2 = u := ⟨_, rfl⟩
          obtain ⟨bj, hbj⟩ : ∃ u, B j = u := ⟨_, rfl⟩
          rw [hu, hv, hbj] at ct HN1 HN2
          rw [hbj] at hxb
          rw [hu] at r0
          rw [hv]
          obtain ⟨X, hX⟩ : ∃ X, (x * bj + u + v) % 18446744073709551616 = X := ⟨_, rfl⟩
          obtain ⟨Z, hZ⟩ : ∃ X, (x * bj + u + v) / 18446744073709551616 = X := ⟨_, rfl⟩
          rw [hX] at ct HN1
          rw [hZ] at ct HN2
          have HY : Hid (WhAt w (wr.setCell ⟨n + 2, s, none⟩ (.int .u64 (X : Int))) n (w4 b0 b1 b2 b3) (upd (inn x B i M j).1 s X)) := HV.out.set hs8 X
          clear hX hZ hu hv hbj I1 I2 hs HV
          go_wp2_with (go_at_call 108; refine (ct _).mono ?_; rintro e w' ⟨rfl, rfl⟩)
          go_roundw
          case rel => exact ⟨j + 1, by go_num, by rw [HN2.out], hjt, by rw [HN1.out]; exact HY⟩
          case measure => simp [numOf]; omega
        · have hj4 : j = 4 := by omega
          subst hj4
          have hjt' : ¬ ((4 : Nat) : Int) < 4 := by omega
          obtain ⟨s, hs⟩ : ∃ s, i + 4 = s := ⟨_, rfl⟩
          have y1 : (i : Int) + 4 = (s : Int) := by omega
          have y2 : (s : Int) < 8 := by omega
          have y3 : IntKind.i64.wrap (s : Int) = (s : Int) := by rw [IntKind.wrap_i64]; omega
          have hs8 : s < 8 := by omega
          have r0 := HV.out.c s hs8
          have r1 := (HV.out.t s hs8).2
          simp only [Nat.zero_add] at r1
          have HN1 : Hid (row x B i M = upd (inn x B i M 4).1 s (inn x B i M 4).2) := by rw [← hs]; rfl
          obtain ⟨v, hv⟩ : ∃ u, (inn x B i M 4).2 = u := ⟨_, rfl⟩
          obtain ⟨M4, hM4⟩ : ∃ u, (inn x B i M 4).1 = u := ⟨_, rfl⟩
          rw [hv, hM4] at HN1
          rw [hM4] at HV r0
          rw [hv]
          have HY : Hid (WhAt w (wr.setCell ⟨n + 2, s, none⟩ (.int .u64 (v : Int))) n (w4 b0 b1 b2 b3) (upd M4 s v)) := HV.out.set hs8 v
          clear hv hM4 hs HV
          go_wp2
          go_roundw
          case rel => exact ⟨i + 1, by go_num, hlt, by rw [HNX.out, HN1.out]; exact HY⟩
          case measure => simp [numOf]; omega
    · have hi4 : i = 4 := by omega
      subst hi4
      have hlt' : ¬ ((4 : Nat) : Int) < 4 := by omega
      have HA8 := (show Hid (wr.rangeAt (n + 2) 0 (e8 (rows A B 4 0) (rows A B 4 1) (rows A B 4 2) (rows A B 4 3) (rows A B 4 4) (rows A B 4 5) (rows A B 4 6) (rows A B 4 7))) from HW.out.all)
      have HT8 : Hid (wr.there (n + 2) 0 8) := HW.out.t
      have HBB : Hid (Below n w wr) := HW.out.b
      obtain ⟨f0, hf0⟩ : ∃ f, rows A B 4 0 = f := ⟨_, rfl⟩
      obtain ⟨f1, hf1⟩ : ∃ f, rows A B 4 1 = f := ⟨_, rfl⟩
      obtain ⟨f2, hf2⟩ : ∃ f, rows A B 4 2 = f := ⟨_, rfl⟩
      obtain ⟨f3, hf3⟩ : ∃ f, rows A B 4 3 = f := ⟨_, rfl⟩
      obtain ⟨f4, hf4⟩ : ∃ f, rows A B 4 4 = f := ⟨_, rfl⟩
      obtain ⟨f5, hf5⟩ : ∃ f, rows A B 4 5 = f := ⟨_, rfl⟩
      obtain ⟨f6, hf6⟩ : ∃ f, rows A B 4 6 = f := ⟨_, rfl⟩
      obtain ⟨f7, hf7⟩ : ∃ f, rows A B 4 7 = f := ⟨_, rfl⟩
      rw [hf0, hf1, hf2, hf3, hf4, hf5, hf6, hf7] at HA8 HRR
      clear hf0 hf1 hf2 hf3 hf4 hf5 hf6 hf7 HW HA HB HXA HXB
      go_wp2_with (first
        | (refine wpList_load_mid rfl 103 (.tmp 4) rfl (n + 2) 0 rfl (e8 f0 f1 f2 f3 f4 f5 f6 f7) _ HA8.out Try.underlying103 rfl info62 ?_; simp only [e8])
        | (refine wpList_store_mid rfl 103 (.tmp 4) (.tmp 42) rfl (n + 2) 0 (e8 f0 f1 f2 f3 f4 f5 f6 f7).toArray rfl rfl HT8.out info62 (one8 _ _ _ _ _ _ _ _) ?_; simp only))
      exact bodyPost_ret (results_cell Try.results102 rfl (run_loadVar_mid (P := Try.prog) _ (n + 2) 0 103 (e8 f0 f1 f2 f3 f4 f5 f6 f7) _ (World.rangeAt_setCells_same _ _ _ _ HT8.out) Try.underlying103 rfl info62)) rfl ⟨by rw [HRR.out], below_setCells HBB.out (by omega)⟩
theorem whole_any (a b : Nat) (w : World) (ha : a < 115792089237316195423570985008687907853269984665640564039457584007913129639936) (hb : b < 115792089237316195423570985008687907853269984665640564039457584007913129639936) :
    Calls Try.prog 102 #[nv a, nv b] w fun e w' => e = .returned (ev (a * b)) ∧ Below w.heap.size w w' := by
  obtain ⟨p0, p1, p2, p3⟩ := l_lt a
  obtain ⟨q0, q1, q2, q3⟩ := l_lt b
  have hA : ∀ j, pick4 (l0 a) (l1 a) (l2 a) (l3 a) j < 18446744073709551616 := by
    intro j
    unfold pick4
    split <;> first | assumption | decide
  have hB : ∀ j, pick4 (l0 b) (l1 b) (l2 b) (l3 b) j < 18446744073709551616 := by
    intro j
    unfold pick4
    split <;> first | assumption | decide
  have h := whole_words (l0 a) (l1 a) (l2 a) (l3 a) (l0 b) (l1 b) (l2 b) (l3 b) _ _ hA hB rfl rfl w
  rw [← ev_words _ (rows_lt hA hB 4), rows_val] at h
  have e1 : mk (pick4 (l0 a) (l1 a) (l2 a) (l3 a) 0) (pick4 (l0 a) (l1 a) (l2 a) (l3 a) 1) (pick4 (l0 a) (l1 a) (l2 a) (l3 a) 2) (pick4 (l0 a) (l1 a) (l2 a) (l3 a) 3) = a := mk_l a ha
  have e2 : mk (pick4 (l0 b) (l1 b) (l2 b) (l3 b) 0) (pick4 (l0 b) (l1 b) (l2 b) (l3 b) 1) (pick4 (l0 b) (l1 b) (l2 b) (l3 b) 2) (pick4 (l0 b) (l1 b) (l2 b) (l3 b) 3) = b := mk_l b hb
  rw [e1, e2] at h
  exact h
theorem product_any (a b : Nat) (w : World) (ha : a < 115792089237316195423570985008687907853269984665640564039457584007913129639936) (hb : b < 115792089237316195423570985008687907853269984665640564039457584007913129639936) :
    Calls Try.prog 65 #[nv a, nv b] w fun e w' => e = .returned (nv (a * b % p)) ∧ Below w.heap.size w w' :=
  product_of a b w ha hb (fun W => whole_any a b W ha hb) fun W => folded_any (a * b) W (Nat.lt_of_le_of_lt (Nat.mul_le_mul (Nat.le_of_lt_succ (Nat.lt_succ_of_lt ha)) (show b ≤ 115792089237316195423570985008687907853269984665640564039457584007913129639935 by omega)) (by decide))
end Fd
end Go.Proofs.Ytgdekigdbbldoaa

namespace Go.Proofs.Ytgdekigdbbldoaa
open Go.RowKit
namespace Fd
open Rg

/-- A power's boxes. -/
structure PwAt (w wr : World) (n : Nat) (A E cs : List Value) : Prop where
  b : Below n w wr
  ra : wr.rangeAt n 0 A
  re : wr.rangeAt (n + 1) 0 E
  u : wr.there (n + 2) 0 4
  rn : wr.rangeAt (n + 3) 0 cs
  tn : wr.there (n + 3) 0 4
  l : n + 3 < wr.heap.size
theorem PwAt.below {w wr w' : World} {n : Nat} {A E cs : List Value} (h : PwAt w wr n A E cs) (hb : Below wr.heap.size wr w') : PwAt w w' n A E cs := by
  have hl := h.l
  exact ⟨h.b.trans (hb.mono (by omega)), Rg.Below.range hb h.ra (by omega), Rg.Below.range hb h.re (by omega), there_below hb h.u (by omega), Rg.Below.range hb h.rn hl, there_below hb h.tn hl, Nat.lt_of_lt_of_le hl hb.size⟩
theorem cell_setCells_other {b c o : Nat} (hbc : c ≠ b) : ∀ (vs : List Value) (k : Nat) (w : World), (w.setCells b k vs).cell? ⟨c, o, none⟩ = w.cell? ⟨c, o, none⟩
  | [], _, _ => rfl
  | v :: vs, k, w => by
    rw [World.setCells, cell_setCells_other hbc vs]
    exact World.cell?_setCell_other _ _ _ _ (fun e => hbc (by cases e; rfl))
theorem PwAt.set {w wr : World} {n : Nat} {A E cs : List Value} (h : PwAt w wr n A E cs) (ds : List Value) (hd : ds.length = 4) : PwAt w (wr.setCells (n + 3) 0 ds) n A E ds :=
  ⟨below_setCells h.b (by omega), fun j v hv => (cell_setCells_other (by omega) _ _ _).trans (h.ra j v hv), fun j v hv => (cell_setCells_other (by omega) _ _ _).trans (h.re j v hv), World.there_setCells h.u _ _ _, World.rangeAt_setCells_same _ _ _ _ (by rw [hd]; exact h.tn), World.there_setCells h.tn _ _ _, by rw [size_setCells]; exact h.l⟩
theorem PwAt.start (w : World) (A E : List Value) : PwAt w ((((w.alloc (.cells A.toArray 74)).alloc (.cells E.toArray 74)).alloc (.cells (w4 0 0 0 0).toArray 74)).alloc (.cells (w4 1 0 0 0).toArray 74)) w.heap.size A E (w4 1 0 0 0) := by
  obtain ⟨w2, hw2⟩ : ∃ v, (w.alloc (.cells A.toArray 74)).alloc (.cells E.toArray 74) = v := ⟨_, rfl⟩
  have e2 : w2.heap.size = w.heap.size + 2 := by rw [← hw2, size_alloc, size_alloc]
  have hb : Below w.heap.size w w2 := by rw [← hw2]; exact ((Below.refl _ _).alloc (Nat.le_refl _) _).alloc (by simp) _
  have h0 : w2.rangeAt w.heap.size 0 A := by rw [← hw2]; exact World.rangeAt_alloc (range_new _ _ _) _
  have h1 : w2.rangeAt (w.heap.size + 1) 0 E := by rw [← hw2]; exact range_new1 _ _ _ _
  rw [hw2]
  have h2 := there_new w2 (w4 0 0 0 0).toArray 74 (m := 4) fun j hj => by simp [w4, hj]
  have e3 : (w2.alloc (.cells (w4 0 0 0 0).toArray 74)).heap.size = w.heap.size + 3 := by rw [size_alloc, e2]
  have h3 := there_new (w2.alloc (.cells (w4 0 0 0 0).toArray 74)) (w4 1 0 0 0).toArray 74 (m := 4) fun j hj => by simp [w4, hj]
  have h4 := range_new (w2.alloc (.cells (w4 0 0 0 0).toArray 74)) (w4 1 0 0 0) 74
  rw [e2] at h2
  rw [e3] at h3 h4
  exact ⟨(hb.alloc (by omega) _).alloc (by rw [e3]; omega) _, World.rangeAt_alloc (World.rangeAt_alloc h0 _) _, World.rangeAt_alloc (World.rangeAt_alloc h1 _) _, World.there_alloc h2 _, h4, h3, by rw [size_alloc, e3]; omega⟩
theorem PwAt.bu {w wr : World} {n : Nat} {A E cs : List Value} (h : PwAt w wr n A E cs) : Bu w wr n (n + 2) := ⟨h.b, h.u, by omega, by have := h.l; omega⟩
def numOf1 : Value → Nat
  | .int _ v => (v + 1).toNat
  | _ => 0
/-- The power by the bits above. -/
def pw (a e j : Nat) : Nat := a ^ (e / 2 ^ j) % p
theorem and1 (x : Nat) (h : x < 18446744073709551616) : bits .and .u64 (x : Int) 1 = ((x % 2 : Nat) : Int) := by
  have e1 := Nat.and_two_pow_sub_one_eq_mod x 1
  have e0 : 2 ^ 1 - 1 = 1 := by decide
  rw [e0] at e1
  have e2 : x % 2 ^ 1 = x % 2 := rfl
  rw [← e2, ← e1]
  exact u64_and_nat x 1 h (by decide)
theorem pw_step (a e j : Nat) : (e / 2 ^ j % 2 = 1 → pw a e j = (pw a e (j + 1) * pw a e (j + 1) % p) * a % p) ∧ (¬ e / 2 ^ j % 2 = 1 → pw a e j = pw a e (j + 1) * pw a e (j + 1) % p) := by
  have h1 : e / 2 ^ (j + 1) = e / 2 ^ j / 2 := by rw [Nat.pow_succ, Nat.div_div_eq_div_mul]
  unfold pw
  rw [h1]
  obtain ⟨y, hy⟩ : ∃ y, e / 2 ^ j = y := ⟨_, rfl⟩
  rw [hy]
  have h2 : a ^ (y / 2) % p * (a ^ (y / 2) % p) % p = a ^ (y / 2 + y / 2) % p := by rw [← Nat.mul_mod, ← Nat.pow_add]
  rw [h2]
  refine ⟨fun h => ?_, fun h => ?_⟩
  · rw [Nat.mod_mul_mod, ← Nat.pow_succ, show (y / 2 + y / 2).succ = y by omega]
  · rw [show y / 2 + y / 2 = y by omega]
theorem pw_lt (a e j : Nat) : pw a e j < p := Nat.mod_lt _ (by decide)
theorem word_bit (e q r : Nat) (hr : r < 64) : e / 2 ^ (64 * q) % 2 ^ 64 / 2 ^ r % 2 = e / 2 ^ (64 * q + r) % 2 := by
  have h1 := Nat.testBit_mod_two_pow (e / 2 ^ (64 * q)) 64 r
  rw [Nat.testBit_div_two_pow] at h1
  simp only [hr, decide_true, Bool.true_and] at h1
  rw [Nat.testBit_eq_decide_div_mod_eq, Nat.testBit_eq_decide_div_mod_eq] at h1
  have h5 := decide_eq_decide.1 h1
  first | rw [Nat.add_comm r (64 * q)] at h5 | skip
  generalize e / 2 ^ (64 * q) % 2 ^ 64 / 2 ^ r = X at h5 ⊢
  generalize e / 2 ^ (64 * q + r) = Y at h5 ⊢
  omega
/-- The words of a number by their place. -/
theorem l_pick (e q : Nat) (hq : q < 4) : pick4 (l0 e) (l1 e) (l2 e) (l3 e) q = e / 2 ^ (64 * q) % 2 ^ 64 := by
  match q, hq with
  | 0, _ => show e % 18446744073709551616 = e / 1 % 18446744073709551616; rw [Nat.div_one]
  | 1, _ => rfl
  | 2, _ => rfl
  | 3, _ => rfl

set_option maxHeartbeats 4000000 in
set_option maxRecDepth 4000 in
theorem power_any (a e : Nat) (w : World) (ha : a < 115792089237316195423570985008687907853269984665640564039457584007913129639936) (he : e < 115792089237316195423570985008687907853269984665640564039457584007913129639936) :
    Calls Try.prog 66 #[nv a, nv e] w fun r w' => r = .returned (nv (a ^ e % p)) ∧ Below w.heap.size w w' := by
  have hend : a ^ e % p = pw a e 0 := by unfold pw; rw [Nat.pow_zero, Nat.div_one]
  have hbeg : nv (pw a e 256) = .agg (w4 1 0 0 0).toArray := by
    have h : e / 2 ^ 256 = 0 := Nat.div_eq_of_lt he
    unfold pw
    rw [h, Nat.pow_zero]
    have h1 : 1 % p = mk 1 0 0 0 := by decide +kernel
    rw [h1, nv_mk 1 0 0 0 (by decide) (by decide) (by decide) (by decide)]
    rfl
  rw [hend, nv_w4 a, nv_w4 e]
  have hpp : p < 115792089237316195423570985008687907853269984665640564039457584007913129639936 := by decide
  have HP : Hid (∀ j, pw a e j < 115792089237316195423570985008687907853269984665640564039457584007913129639936) := fun j => Nat.lt_trans (pw_lt a e j) hpp
  have HPQ : Hid (∀ j, pw a e j * pw a e j % p < 115792089237316195423570985008687907853269984665640564039457584007913129639936) := fun j => Nat.lt_trans (Nat.mod_lt _ (by decide)) hpp
  have HE : Hid (∀ q, q < 4 → (w4 (l0 e) (l1 e) (l2 e) (l3 e))[q]? = some (.int .u64 ((e / 2 ^ (64 * q) % 2 ^ 64 : Nat) : Int))) := fun q hq => by
    rw [← l_pick e q hq]
    match q, hq with
    | 0, _ => rfl
    | 1, _ => rfl
    | 2, _ => rfl
    | 3, _ => rfl
  have HA : Hid (nv a = .agg (w4 (l0 a) (l1 a) (l2 a) (l3 a)).toArray) := rfl
  have Ha : Hid (a < 115792089237316195423570985008687907853269984665640564039457584007913129639936) := ha
  obtain ⟨a0, ha0⟩ : ∃ x, l0 a = x := ⟨_, rfl⟩
  obtain ⟨a1, ha1⟩ : ∃ x, l1 a = x := ⟨_, rfl⟩
  obtain ⟨a2, ha2⟩ : ∃ x, l2 a = x := ⟨_, rfl⟩
  obtain ⟨a3, ha3⟩ : ∃ x, l3 a = x := ⟨_, rfl⟩
  obtain ⟨e0, he0⟩ : ∃ x, l0 e = x := ⟨_, rfl⟩
  obtain ⟨e1, he1⟩ : ∃ x, l1 e = x := ⟨_, rfl⟩
  obtain ⟨e2, he2⟩ : ∃ x, l2 e = x := ⟨_, rfl⟩
  obtain ⟨e3, he3⟩ : ∃ x, l3 e = x := ⟨_, rfl⟩
  rw [ha0, ha1, ha2, ha3, he0, he1, he2, he3]
  rw [ha0, ha1, ha2, ha3] at HA
  rw [he0, he1, he2, he3] at HE
  obtain ⟨R, hR⟩ : ∃ R, nv (pw a e 0) = R := ⟨_, rfl⟩
  rw [hR]
  have HRR : Hid (nv (pw a e 0) = R) := hR
  have hS := PwAt.start w (w4 a0 a1 a2 a3) (w4 e0 e1 e2 e3)
  obtain ⟨n, hn⟩ : ∃ n, w.heap.size = n := ⟨_, rfl⟩
  rw [hn] at hS
  have HS : Hid (PwAt w _ n (w4 a0 a1 a2 a3) (w4 e0 e1 e2 e3) (w4 1 0 0 0)) := hS
  have HBG : Hid (nv (pw a e 256) = .agg (w4 1 0 0 0).toArray) := hbeg
  clear hS hR hend hbeg hpp ha he ha0 ha1 ha2 ha3 he0 he1 he2 he3
  unfold w4
  go_enter Try.func66, Try.ntmps66
  go_wp2
  go_loopw [6] (fun y wr => ∃ k c0 c1 c2 c3 : Nat, y = .int .i64 ((k : Int) - 1) ∧ k ≤ 256 ∧ Hid (nv (pw a e k) = .agg (w4 c0 c1 c2 c3).toArray) ∧ Hid (PwAt w wr n (w4 a0 a1 a2 a3) (w4 e0 e1 e2 e3) (w4 c0 c1 c2 c3))) (fun y _ => numOf1 y)
  case atStart => exact ⟨256, 1, 0, 0, 0, rfl, Nat.le_refl _, HBG.out, HS.out⟩
  case round =>
    clear HS
    obtain ⟨k, c0, c1, c2, c3, rfl, hk, HC, HW⟩ := hrel
    cases k with
    | zero =>
      have z1 : ((0 : Nat) : Int) - 1 = -1 := rfl
      rw [z1]
      have HRX := HRR
      rw [HC.out] at HRX
      clear HC HE HA HP HPQ HRR
      go_wp2_with (first
        | (refine wpList_load_mid rfl 74 (.tmp 5) rfl (n + 3) 0 rfl (w4 c0 c1 c2 c3) _ HW.out.rn Try.underlying74 rfl info4 ?_; simp only [w4])
        | (refine wpList_store_mid rfl 74 (.tmp 4) (.tmp 27) rfl (n + 2) 0 (w4 c0 c1 c2 c3).toArray rfl rfl HW.out.u info4 (one4 _ _ _ _) ?_; simp only))
      exact bodyPost_ret (results_cell Try.results66 rfl (HW.out.bu.end_ (w4 c0 c1 c2 c3) rfl).1) rfl ⟨by rw [HRX.out], by rw [hn]; exact (HW.out.bu.end_ (w4 c0 c1 c2 c3) rfl).2⟩
    | succ j =>
      have z1 : ((j + 1 : Nat) : Int) - 1 = (j : Int) := by omega
      rw [z1]
      have z2 : (0 : Int) ≤ (j : Int) := by omega
      obtain ⟨q, hq⟩ : ∃ q, j / 64 = q := ⟨_, rfl⟩
      obtain ⟨s, hs⟩ : ∃ s, j % 64 = s := ⟨_, rfl⟩
      have z3 : Int.tdiv (j : Int) 64 = (q : Int) := by rw [Int.tdiv_eq_ediv_of_nonneg z2]; omega
      have z4 : Int.tmod (j : Int) 64 = (s : Int) := by rw [Int.tmod_eq_emod_of_nonneg z2]; omega
      have z5 : (q : Int) < 4 := by omega
      have z6 : (s : Int) < 64 := by omega
      have z7 : IntKind.i64.wrap ((j : Int) - 1) = (j : Int) - 1 := by rw [IntKind.wrap_i64]; omega
      have z8 : IntKind.i64.wrap (q : Int) = (q : Int) := by rw [IntKind.wrap_i64]; omega
      have z9 : IntKind.i64.wrap (s : Int) = (s : Int) := by rw [IntKind.wrap_i64]; omega
      have hq4 : q < 4 := by omega
      have hbt := word_bit e q s (by omega)
      rw [show 64 * q + s = j by omega] at hbt
      have hlu : e / 2 ^ (64 * q) % 2 ^ 64 < 18446744073709551616 := Nat.mod_lt _ (by decide)
      have HEq : Hid ((w4 e0 e1 e2 e3)[q]? = some (.int .u64 ((e / 2 ^ (64 * q) % 2 ^ 64 : Nat) : Int))) := HE.out q hq4
      obtain ⟨u, hu⟩ : ∃ u, e / 2 ^ (64 * q) % 2 ^ 64 = u := ⟨_, rfl⟩
      rw [hu] at hbt hlu HEq
      obtain ⟨t, ht⟩ : ∃ t, u / 2 ^ s = t := ⟨_, rfl⟩
      have x1 : (u : Int) / 2 ^ s = (t : Int) := by rw [← ht]; norm_cast
      have x2 := and1 t (by rw [← ht]; exact Nat.lt_of_le_of_lt (Nat.div_le_self _ _) hlu)
      rw [ht] at hbt
      have p1 := fun W => product_any (pw a e (j + 1)) (pw a e (j + 1)) W (HP.out _) (HP.out _)
      have p2 := fun W => product_any (pw a e (j + 1) * pw a e (j + 1) % p) a W (HPQ.out _) Ha.out
      obtain ⟨d0, d1, d2, d3, ed⟩ := nv_w (pw a e (j + 1) * pw a e (j + 1) % p)
      obtain ⟨g0, g1, g2, g3, eg⟩ := nv_w (pw a e (j + 1) * pw a e (j + 1) % p * a % p)
      rw [HC.out, ed] at p1
      rw [ed, HA.out, eg] at p2
      unfold w4 at p1 p2
      have HFST : Hid (True) := trivial
      clear HC HE HA HP HPQ HRR Ha hq hs hu ht hlu
      by_cases hb1 : e / 2 ^ j % 2 = 1
      · rw [hbt, hb1] at x2
        have x3 : ((1 : Nat) : Int) = 1 := rfl
        rw [x3] at x2
        clear x3 hbt
        have HQ4 : Hid (nv (pw a e j) = .agg (w4 g0 g1 g2 g3).toArray) := by show _ = _; rw [(pw_step a e j).1 hb1]; exact eg
        go_wp2_with (first
          | (have hz := HFST; refine wpList_load_mid rfl 74 (.tmp 5) rfl (n + 3) 0 rfl (w4 c0 c1 c2 c3) _ HW.out.rn Try.underlying74 rfl info4 ?_; simp only [w4])
          | (have hz := HFST; go_at_call 65; refine (p1 _).mono ?_; rintro r w2 ⟨rfl, hb2⟩; have HW2 := (show Hid (PwAt w w2 n (w4 a0 a1 a2 a3) (w4 e0 e1 e2 e3) (w4 c0 c1 c2 c3)) from HW.out.below hb2); clear hz hb2 p1 HW HFST)
          | (refine wpList_store_mid rfl 74 (.tmp 5) (.tmp 14) rfl (n + 3) 0 (w4 d0 d1 d2 d3).toArray rfl rfl HW2.out.tn info4 (one4 _ _ _ _) ?_; simp only; obtain ⟨w3, hw3⟩ : ∃ v, w2.setCells (n + 3) 0 (w4 d0 d1 d2 d3) = v := ⟨_, rfl⟩; have HW3 := (show Hid (PwAt w w3 n (w4 a0 a1 a2 a3) (w4 e0 e1 e2 e3) (w4 d0 d1 d2 d3)) from (by rw [← hw3]; exact HW2.out.set _ rfl)); rw [hw3]; clear hw3 HW2; have r0 := HW3.out.re q _ HEq.out; simp only [Nat.zero_add] at r0)
          | (refine wpList_load_mid rfl 74 (.tmp 5) rfl (n + 3) 0 rfl (w4 d0 d1 d2 d3) _ HW3.out.rn Try.underlying74 rfl info4 ?_; simp only [w4])
          | (refine wpList_load_mid rfl 74 (.tmp 2) rfl n 0 rfl (w4 a0 a1 a2 a3) _ HW3.out.ra Try.underlying74 rfl info4 ?_; simp only [w4])
          | (go_at_call 65; refine (p2 _).mono ?_; rintro r w4' ⟨rfl, hb4⟩; have HW4 := (show Hid (PwAt w w4' n (w4 a0 a1 a2 a3) (w4 e0 e1 e2 e3) (w4 d0 d1 d2 d3)) from HW3.out.below hb4); clear hb4 p2 HW3 r0)
          | (refine wpList_store_mid rfl 74 (.tmp 5) (.tmp 26) rfl (n + 3) 0 (w4 g0 g1 g2 g3).toArray rfl rfl HW4.out.tn info4 (one4 _ _ _ _) ?_; simp only; obtain ⟨w5, hw5⟩ : ∃ v, w4'.setCells (n + 3) 0 (w4 g0 g1 g2 g3) = v := ⟨_, rfl⟩; have HW5 := (show Hid (PwAt w w5 n (w4 a0 a1 a2 a3) (w4 e0 e1 e2 e3) (w4 g0 g1 g2 g3)) from (by rw [← hw5]; exact HW4.out.set _ rfl)); rw [hw5]; clear hw5 HW4))
        go_roundw
        case rel => exact ⟨j, g0, g1, g2, g3, rfl, by omega, HQ4, HW5⟩
        case measure => simp [numOf1]
      · have hb0 : e / 2 ^ j % 2 = 0 := by omega
        rw [hbt, hb0] at x2
        have x3 : ((0 : Nat) : Int) = 0 := rfl
        rw [x3] at x2
        clear x3 hbt p2
        have HQ4 : Hid (nv (pw a e j) = .agg (w4 d0 d1 d2 d3).toArray) := by show _ = _; rw [(pw_step a e j).2 hb1]; exact ed
        go_wp2_with (first
          | (have hz := HFST; refine wpList_load_mid rfl 74 (.tmp 5) rfl (n + 3) 0 rfl (w4 c0 c1 c2 c3) _ HW.out.rn Try.underlying74 rfl info4 ?_; simp only [w4])
          | (have hz := HFST; go_at_call 65; refine (p1 _).mono ?_; rintro r w2 ⟨rfl, hb2⟩; have HW2 := (show Hid (PwAt w w2 n (w4 a0 a1 a2 a3) (w4 e0 e1 e2 e3) (w4 c0 c1 c2 c3)) from HW.out.below hb2); clear hz hb2 p1 HW HFST)
          | (refine wpList_store_mid rfl 74 (.tmp 5) (.tmp 14) rfl (n + 3) 0 (w4 d0 d1 d2 d3).toArray rfl rfl HW2.out.tn info4 (one4 _ _ _ _) ?_; simp only; obtain ⟨w3, hw3⟩ : ∃ v, w2.setCells (n + 3) 0 (w4 d0 d1 d2 d3) = v := ⟨_, rfl⟩; have HW3 := (show Hid (PwAt w w3 n (w4 a0 a1 a2 a3) (w4 e0 e1 e2 e3) (w4 d0 d1 d2 d3)) from (by rw [← hw3]; exact HW2.out.set _ rfl)); rw [hw3]; clear hw3 HW2; have r0 := HW3.out.re q _ HEq.out; simp only [Nat.zero_add] at r0))
        go_roundw
        case rel => exact ⟨j, d0, d1, d2, d3, rfl, by omega, HQ4, HW3⟩
        case measure => simp [numOf1]
end Fd
end Go.Proofs.Ytgdekigdbbldoaa

/- The order, and a number less the order: contracts, by walking their texts. What lessOrder does: a contract, by walking its text. -/
import Derived.Test.YtgdekigdbbldoaaG11
namespace Go.Proofs.Ytgdekigdbbldoaa
open Go.RowKit
namespace Fd
open Rg

/-- A block of numbers of one kind that the call has made. -/
structure Cs (kd : IntKind) (m N : Nat) (w wr : World) (g : Nat) (M : Nat → Nat) : Prop where
  b : Below N w wr
  c : ∀ j, j < m → wr.cell? ⟨g, j, none⟩ = some (.int kd ((M j : Nat) : Int))
  t : wr.there g 0 m
  l : N ≤ g ∧ g < wr.heap.size
theorem Cs.below {kd : IntKind} {m N : Nat} {w wr w' : World} {g : Nat} {M : Nat → Nat} (h : Cs kd m N w wr g M) (hb : Below wr.heap.size wr w') : Cs kd m N w w' g M :=
  ⟨h.b.trans (hb.mono (Nat.le_of_lt (Nat.lt_of_le_of_lt h.l.1 h.l.2))), fun j hj => (hb.cell (p := ⟨g, j, none⟩) h.l.2).trans (h.c j hj), there_below hb h.t h.l.2, h.l.1, Nat.lt_of_lt_of_le h.l.2 hb.size⟩
theorem Cs.set {kd : IntKind} {m N : Nat} {w wr : World} {g : Nat} {M : Nat → Nat} (h : Cs kd m N w wr g M) {k : Nat} (hk : k < m) (x : Nat) : Cs kd m N w (wr.setCell ⟨g, k, none⟩ (.int kd (x : Int))) g (upd M k x) := by
  refine ⟨h.b.setCell (by show N ≤ g; exact h.l.1) _, fun j hj => ?_, fun j hj => ?_, h.l.1, by simpa using h.l.2⟩
  · unfold upd
    by_cases hj2 : j = k
    · subst hj2
      rw [World.cell?_setCell_same _ _ _ (h.c _ hk), if_pos rfl]
    · rw [World.cell?_setCell_other _ _ _ _ (fun e => hj2 (by cases e; rfl)), h.c j hj, if_neg hj2]
  · obtain ⟨h1, h2⟩ := h.t j hj
    refine ⟨?_, by rw [World.frozen?_setCell]; exact h2⟩
    by_cases hj2 : j = k
    · subst hj2
      rw [show (0 + j) = j by omega, World.cell?_setCell_same _ _ _ (h.c _ hk)]
      rfl
    · rw [World.cell?_setCell_other _ _ _ _ (fun e => hj2 (by simpa using e.symm))]
      exact h1
/-- An old block stays where a cell of a new one is set. -/
theorem range_set {wr : World} {b o g k : Nat} {R : List Value} (h : wr.rangeAt b o R) (hb : b ≠ g) (v : Value) : (wr.setCell ⟨g, k, none⟩ v).rangeAt b o R := fun j x hx => (World.cell?_setCell_other _ _ _ _ (fun e => hb (by cases e; rfl))).trans (h j x hx)
/-- The first k of a row, then noughts. -/
def tabs (S : Nat → Nat) (k : Nat) : Nat → Nat := fun j => if j < k then S j else 0
theorem tabs_succ (S : Nat → Nat) (k : Nat) : upd (tabs S k) k (S k) = tabs S (k + 1) := by
  funext j
  unfold upd tabs
  by_cases h : j = k
  · subst h
    rw [if_pos rfl, if_pos (by omega)]
  · rw [if_neg h]
    by_cases h2 : j < k
    · rw [if_pos h2, if_pos (by omega)]
    · rw [if_neg h2, if_neg (by omega)]
theorem tabs_zero (S : Nat → Nat) : tabs S 0 = fun _ => 0 := by
  funext j
  unfold tabs
  rw [if_neg (by omega)]
theorem Cs.all4 {N : Nat} {w wr : World} {g : Nat} {S : Nat → Nat} (h : Cs .u64 4 N w wr g (tabs S 4)) : wr.rangeAt g 0 (w4 (S 0) (S 1) (S 2) (S 3)) := fun j v hv => by
  rw [Nat.zero_add]
  match j, hv with
  | 0, hv => cases hv; exact h.c 0 (by decide)
  | 1, hv => cases hv; exact h.c 1 (by decide)
  | 2, hv => cases hv; exact h.c 2 (by decide)
  | 3, hv => cases hv; exact h.c 3 (by decide)
  | j + 4, hv => simp [w4] at hv
theorem cell4 {wr : World} {b : Nat} {a0 a1 a2 a3 : Nat} (h : wr.rangeAt b 0 (w4 a0 a1 a2 a3)) {k : Nat} (hk : k < 4) : wr.cell? ⟨b, k, none⟩ = some (.int .u64 ((pick4 a0 a1 a2 a3 k : Nat) : Int)) := by
  have h2 := h k (.int .u64 ((pick4 a0 a1 a2 a3 k : Nat) : Int)) (by
    match k, hk with
    | 0, _ => rfl
    | 1, _ => rfl
    | 2, _ => rfl
    | 3, _ => rfl)
  rwa [Nat.zero_add] at h2
theorem info91 : (Try.prog.info? 91).map (·.size) = some 4 := by kernel_rfl
theorem index91 (cs : Array Value) (i : Nat) (v : Value) (hi : i < 4) (hv : cs[i]? = some v) (W : World) : (Instr.index 91 (.agg cs) (.int .i64 (i : Int))).run Try.prog W = .ok v W := by
  have hq : (Try.prog.info? 72).map (·.size) = some 1 := by kernel_rfl
  obtain ⟨t, ht⟩ : ∃ t, Try.prog.info? 72 = some t := by
    cases h : Try.prog.info? 72 with
    | none => simp [h] at hq
    | some t => exact ⟨t, rfl⟩
  have hs : t.size = 1 := by simpa [ht] using hq
  have hu : Try.prog.underlying 72 = some (.int .u64) := Try.underlying72
  have h0 : (0 : Int) ≤ (i : Int) ∧ (i : Int) < 4 := by omega
  obtain ⟨hi2, rfl⟩ := Array.getElem?_eq_some_iff.1 hv
  simp [Instr.index, asIntOf, Sem.run_bind, run_underlying Try.underlying91, sizeOf, typeInfo, ht, hs, part, run_underlying hu, isAgg, h0, hi2, hi]
/-- The order. -/
def ell : Nat := 7237005577332262213973186563042994240857116359379907606001950938285454250989
theorem ell_lt : ell < 115792089237316195423570985008687907853269984665640564039457584007913129639936 := by decide
theorem load91_at {w : World} {n : Nat} (hn : w.heap.size = n) (a b c d : Nat) : (loadVar 91 ⟨n, 0, none⟩).run Try.prog (w.alloc (.cells (w4 a b c d).toArray 91)) = .ok (.agg (w4 a b c d).toArray) (w.alloc (.cells (w4 a b c d).toArray 91)) := by
  subst hn
  exact run_loadVar_mid (P := Try.prog) _ w.heap.size 0 91 (w4 a b c d) _ (Rg.range_new w _ 91) Try.underlying91 rfl info91
set_option maxHeartbeats 400000 in
theorem order_any (w : World) : Calls Try.prog 105 #[] w fun e w' => e = .returned (.agg (w4 6346243789798364141 1503914060200516822 0 1152921504606846976).toArray) ∧ Below w.heap.size w w' := by
  go_enter Try.func105, Try.ntmps105
  go_wp2
  exact bodyPost_ret (results_cell Try.results105 rfl (load91_at rfl 6346243789798364141 1503914060200516822 0 1152921504606846976)) rfl ⟨rfl, (Below.refl _ _).alloc (Nat.le_refl _) _⟩
/-- What is owed behind the first words of a difference; its words. -/
def sbc (A O : Nat → Nat) : Nat → Nat
  | 0 => 0
  | k + 1 => if A k < O k + sbc A O k then 1 else 0
def sbw (A O : Nat → Nat) (k : Nat) : Nat := (A k + 18446744073709551616 - O k - sbc A O k) % 18446744073709551616
theorem sbc_le (A O : Nat → Nat) : ∀ k, sbc A O k ≤ 1
  | 0 => Nat.zero_le _
  | k + 1 => by unfold sbc; split <;> omega
end Fd
end Go.Proofs.Ytgdekigdbbldoaa

namespace Go.Proofs.Ytgdekigdbbldoaa
open Go.RowKit
namespace Fd
open Rg

/-- A box of four words and the answer's. -/
theorem start4 (w : World) (A : List Value) :
    let e := (w.alloc (.cells A.toArray 91)).alloc (.cells (w4 0 0 0 0).toArray 91)
    Cs .u64 4 w.heap.size w e (w.heap.size + 1) (fun _ => 0) ∧ e.rangeAt w.heap.size 0 A := by
  intro e
  have e1 : (w.alloc (.cells A.toArray 91)).heap.size = w.heap.size + 1 := size_alloc _ _
  refine ⟨⟨((Below.refl _ _).alloc (Nat.le_refl _) _).alloc (by simp) _, fun j hj => ?_, ?_, by omega, by show _ < (World.alloc _ _).heap.size; rw [size_alloc, e1]; omega⟩, World.rangeAt_alloc (Rg.range_new w A 91) _⟩
  · have h2 := cell_new (w.alloc (.cells A.toArray 91)) (w4 0 0 0 0).toArray 91 (i := j) (v := .int .u64 0) (by
      match j, hj with
      | 0, _ => rfl
      | 1, _ => rfl
      | 2, _ => rfl
      | 3, _ => rfl)
    rw [e1] at h2
    exact h2
  · have h2 := there_new (w.alloc (.cells A.toArray 91)) (w4 0 0 0 0).toArray 91 (m := 4) fun j hj => by simp [w4, hj]
    rw [e1] at h2
    exact h2

set_option maxHeartbeats 2000000 in
set_option maxRecDepth 4000 in
theorem lessOrder_words (a0 a1 a2 a3 : Nat) (A O : Nat → Nat) (hA : pick4 a0 a1 a2 a3 = A) (hO : pick4 6346243789798364141 1503914060200516822 0 1152921504606846976 = O) (w : World) :
    Calls Try.prog 89 #[.agg (w4 a0 a1 a2 a3).toArray] w fun e w' => e = .returned (.tuple #[.agg (w4 (sbw A O 0) (sbw A O 1) (sbw A O 2) (sbw A O 3)).toArray, .bool (decide (sbc A O 4 = 1))]) ∧ Below w.heap.size w w' := by
  obtain ⟨n, hn⟩ : ∃ n, w.heap.size = n := ⟨_, rfl⟩
  have hS := start4 w (w4 a0 a1 a2 a3)
  rw [hn] at hS
  have HS : Hid (_ ∧ _) := hS
  have HX : Hid (∀ k : Nat, k < 4 → ∀ W : World, (Instr.index 91 (.agg #[.int .u64 6346243789798364141, .int .u64 1503914060200516822, .int .u64 0, .int .u64 1152921504606846976]) (.int .i64 (k : Int))).run Try.prog W = .ok (.int .u64 ((O k : Nat) : Int)) W) := fun k hk W => index91 _ k _ hk (by rw [← hO]; exact w4_at 6346243789798364141 1503914060200516822 0 1152921504606846976 k hk) W
  have co := fun W => order_any W
  have HA : Hid (pick4 a0 a1 a2 a3 = A) := hA
  clear hS hA hO
  obtain ⟨f0, hf0⟩ : ∃ f, sbw A O 0 = f := ⟨_, rfl⟩
  obtain ⟨f1, hf1⟩ : ∃ f, sbw A O 1 = f := ⟨_, rfl⟩
  obtain ⟨f2, hf2⟩ : ∃ f, sbw A O 2 = f := ⟨_, rfl⟩
  obtain ⟨f3, hf3⟩ : ∃ f, sbw A O 3 = f := ⟨_, rfl⟩
  obtain ⟨f4, hf4⟩ : ∃ f, sbc A O 4 = f := ⟨_, rfl⟩
  rw [hf0, hf1, hf2, hf3, hf4]
  have HF : Hid (sbw A O 0 = f0 ∧ sbw A O 1 = f1 ∧ sbw A O 2 = f2 ∧ sbw A O 3 = f3 ∧ sbc A O 4 = f4) := ⟨hf0, hf1, hf2, hf3, hf4⟩
  clear hf0 hf1 hf2 hf3 hf4
  have HD : Hid (((f4 : Int) == 1) = decide (f4 = 1)) := by
    show _ = _
    rw [Bool.eq_iff_iff]
    simp only [beq_iff_eq, decide_eq_true_eq]
    omega
  unfold w4 at co ⊢
  go_enter Try.func89, Try.ntmps89
  go_wp2_with (go_at_call 105; refine (co _).mono ?_; rintro e w1 ⟨rfl, hb1⟩; have HS1 := (show Hid (_ ∧ _) from ⟨HS.out.1.below hb1, Rg.Below.range hb1 HS.out.2 (Nat.lt_of_succ_lt HS.out.1.l.2)⟩); clear hb1 co HS)
  go_loopw [8, 4] (fun y z wr => ∃ k : Nat, y = .int .i64 (k : Int) ∧ z = .int .u64 ((sbc A O k : Nat) : Int) ∧ k ≤ 4 ∧ Hid (Cs .u64 4 n w wr (n + 1) (tabs (sbw A O) k) ∧ wr.rangeAt n 0 (w4 a0 a1 a2 a3))) (fun y _ _ => 4 - numOf y)
  case atStart => exact ⟨0, rfl, rfl, Nat.zero_le _, by rw [tabs_zero]; exact HS1.out⟩
  case round =>
    clear HS1
    obtain ⟨k, rfl, rfl, hk, HR⟩ := hrel
    by_cases hlt : k < 4
    · have hlt' : (k : Int) < 4 := by omega
      have hlt0 : (0 : Int) ≤ (k : Int) := by omega
      have hix := HX.out k hlt
      have pk := cell4 HR.out.2 hlt
      rw [HA.out] at pk
      have r := sub64 (A k) (O k) (sbc A O k) (sbc_le A O k)
      have hx1 : (A k + 18446744073709551616 - O k - sbc A O k) % 18446744073709551616 = sbw A O k := rfl
      have hx2 : (if A k < O k + sbc A O k then 1 else 0) = sbc A O (k + 1) := rfl
      rw [hx1, hx2] at r
      have r0 := HR.out.1.c k hlt
      have r1 := (HR.out.1.t k hlt).2
      simp only [Nat.zero_add] at r1
      have HV : Hid (Cs .u64 4 n w (wr.setCell ⟨n + 1, k, none⟩ (.int .u64 ((sbw A O k : Nat) : Int))) (n + 1) (tabs (sbw A O) (k + 1)) ∧ (wr.setCell ⟨n + 1, k, none⟩ (.int .u64 ((sbw A O k : Nat) : Int))).rangeAt n 0 (w4 a0 a1 a2 a3)) := by
        have h := HR.out.1.set hlt (sbw A O k)
        rw [tabs_succ] at h
        exact ⟨h, range_set HR.out.2 (by omega) _⟩
      obtain ⟨X, hX⟩ : ∃ X, sbw A O k = X := ⟨_, rfl⟩
      obtain ⟨Z, hZ⟩ : ∃ Z, sbc A O (k + 1) = Z := ⟨_, rfl⟩
      rw [hX, hZ] at r
      rw [hX] at HV
      have HZ : Hid (sbc A O (k + 1) = Z) := hZ
      obtain ⟨u0, hu0⟩ : ∃ u, A k = u := ⟨_, rfl⟩
      obtain ⟨u1, hu1⟩ : ∃ u, O k = u := ⟨_, rfl⟩
      obtain ⟨c0, hc0⟩ : ∃ u, sbc A O k = u := ⟨_, rfl⟩
      rw [hu0] at pk r
      rw [hu1] at hix r
      rw [hc0] at r ⊢
      clear hX hZ hu0 hu1 hc0 hx1 hx2 HR
      go_wp2
      go_roundw
      case rel => exact ⟨k + 1, by go_num, by rw [HZ.out], hlt, HV⟩
      case measure => simp [numOf]; omega
    · have hk4 : k = 4 := by omega
      subst hk4
      have hlt' : ¬ ((4 : Nat) : Int) < 4 := by omega
      have HA4 : Hid (wr.rangeAt (n + 1) 0 (w4 (sbw A O 0) (sbw A O 1) (sbw A O 2) (sbw A O 3))) := HR.out.1.all4
      have HT : Hid (wr.there (n + 1) 0 4) := HR.out.1.t
      have HB : Hid (Below n w wr) := HR.out.1.b
      obtain ⟨hf0, hf1, hf2, hf3, hf4⟩ := HF.out
      rw [hf0, hf1, hf2, hf3] at HA4
      rw [hf4]
      clear hf0 hf1 hf2 hf3 hf4 HR HX HA HF
      go_wp2_with (first
        | (refine wpList_load_mid rfl 91 (.tmp 2) rfl (n + 1) 0 rfl (w4 f0 f1 f2 f3) _ HA4.out Try.underlying91 rfl info91 ?_; simp only [w4])
        | (refine wpList_store_mid rfl 91 (.tmp 2) (.tmp 24) rfl (n + 1) 0 (w4 f0 f1 f2 f3).toArray rfl rfl HT.out info91 (one4 _ _ _ _) ?_; simp only))
      exact bodyPost_ret (res_ct Try.results89 rfl (run_loadVar_mid (P := Try.prog) _ (n + 1) 0 91 (w4 f0 f1 f2 f3) _ (World.rangeAt_setCells_same _ _ _ _ HT.out) Try.underlying91 rfl info91) rfl) rfl ⟨by rw [← HD.out]; rfl, below_setCells HB.out (by omega)⟩
/-- A number less the order. -/
theorem lessOrder_any (x : Nat) (w : World) (hx : x < 115792089237316195423570985008687907853269984665640564039457584007913129639936) :
    Calls Try.prog 89 #[nv x] w fun e w' => e = .returned (.tuple #[nv ((x + 115792089237316195423570985008687907853269984665640564039457584007913129639936 - ell) % 115792089237316195423570985008687907853269984665640564039457584007913129639936), .bool (decide (x < ell))]) ∧ Below w.heap.size w w' := by
  obtain ⟨A, hA⟩ : ∃ A, pick4 (l0 x) (l1 x) (l2 x) (l3 x) = A := ⟨_, rfl⟩
  obtain ⟨O, hO⟩ : ∃ A, pick4 6346243789798364141 1503914060200516822 0 1152921504606846976 = A := ⟨_, rfl⟩
  have h1 := lessOrder_words (l0 x) (l1 x) (l2 x) (l3 x) A O hA hO w
  obtain ⟨p0, p1, p2, p3⟩ := l_lt x
  have hb : ∀ k, sbw A O k < 18446744073709551616 := fun k => Nat.mod_lt _ (by decide)
  have o0 : O 0 < 18446744073709551616 := by rw [← hO]; decide
  have o1 : O 1 < 18446744073709551616 := by rw [← hO]; decide
  have o2 : O 2 < 18446744073709551616 := by rw [← hO]; decide
  have o3 : O 3 < 18446744073709551616 := by rw [← hO]; decide
  have hsum := minus_words (A 0) (A 1) (A 2) (A 3) (O 0) (O 1) (O 2) (O 3) (sbw A O 0) (sbw A O 1) (sbw A O 2) (sbw A O 3) (sbc A O 1) (sbc A O 2) (sbc A O 3) (sbc A O 4) (by rw [← hA]; exact p0) (by rw [← hA]; exact p1) (by rw [← hA]; exact p2) (by rw [← hA]; exact p3) o0 o1 o2 o3 rfl rfl rfl rfl rfl rfl rfl rfl
  have e1 : mk (A 0) (A 1) (A 2) (A 3) = x := by rw [← hA]; exact mk_l x hx
  have e2 : mk (O 0) (O 1) (O 2) (O 3) = ell := by rw [← hO]; rfl
  rw [e1, e2] at hsum
  have hsl := mk_lt _ _ _ _ (hb 0) (hb 1) (hb 2) (hb 3)
  have hsp := split_minus x ell _ (sbc A O 4) hsum hsl hx ell_lt (sbc_le A O 4)
  have hv : nv (mk (sbw A O 0) (sbw A O 1) (sbw A O 2) (sbw A O 3)) = .agg (w4 (sbw A O 0) (sbw A O 1) (sbw A O 2) (sbw A O 3)).toArray := nv_mk _ _ _ _ (hb 0) (hb 1) (hb 2) (hb 3)
  have hd : decide (sbc A O 4 = 1) = decide (x < ell) := by
    rw [hsp.2]
    by_cases h : x < ell <;> simp [h]
  rw [← hv, hsp.1, hd] at h1
  exact h1
end Fd
end Go.Proofs.Ytgdekigdbbldoaa

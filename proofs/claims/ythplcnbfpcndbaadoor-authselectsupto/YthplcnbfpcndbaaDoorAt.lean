/- The walk of AuthSelects. -/
import Derived.Test.YthplcnbfpcndbaaDoorAs
import Derived.Test.YthplcnbfpcndbaaDoorAo
namespace Go.Proofs.YthplcnbfpcndbaaDoor
open Go.RowKit

theorem neq33 (a b : ByteArray) (w : World) : (binOp .neq 33 (.agg (eC a b)) (.agg (eC a b))).run Tryd.prog w = .ok (.bool false) w := by
  have h := eq33.1 (a, b) (a, b) w
  have he : eqE (a, b) (a, b) = true := by simp [eqE]
  rw [he] at h
  rw [run_eql_struct] at h
  rw [run_neq_struct]
  change Result.andThen ((Op.equalIn 10000 33 (.agg (eC a b)) (.agg (eC a b))).run Tryd.prog w) _ = _ at h
  generalize (Op.equalIn 10000 33 (.agg (eC a b)) (.agg (eC a b))).run Tryd.prog w = R at h
  cases R with
  | ok x w1 =>
    simp only [Result.andThen] at h ⊢
    injection h with h1 h2
    injection h1 with h1
    subst h1 h2
    rfl
  | halt x w1 => simp [Result.andThen] at h

set_option maxRecDepth 100000 in
set_option maxHeartbeats 8000000 in
theorem selects_law (e : EV) (C : Array Value) (w : World) (he : EC w e C) :
    Calls Tryd.prog 3 #[.agg C] w fun r w' => r = .returned (.bool true) ∧ Below w.heap.size w w' := by
  have hc0 := Ctx.start w
  have hE := he.sz
  have ku := fun W => up_any W
  have k8 := fun W (h : Below w.heap.size w W) => select_any e C w W h he
  have k9 : ∀ W, Below w.heap.size w W → Calls Tryd.prog 9 #[.agg C] W (SlOut (sel e) W) := fun W h => (show rsel e = sel e from rfl) ▸ rselect_any e C w W h he
  clear he
  generalize sel e = S at *
  have hq := neq33
  have hg := fun (a b : Operand) (x y : Pr) (W : World) => eq33.2 .neq a b x y W
  go_enter Tryd.func3, Tryd.ntmps3
  go_wp2_with (first
    | (refine v_box rfl 28 (.tmp 0) rfl C rfl hc0 ?_; intro w1 N1 hc1 _; clear hc0)
    | (go_at_call 7; refine (ku _).mono ?_; rintro r w2 ⟨rfl, hb⟩; replace hc1 := hc1.call hb; clear hb ku)
    | (refine v_load rfl 28 (.tmp 1) rfl 0 rfl hc1 rfl _ Tryd.underlying28 rfl (sz28 hE) ?_)
    | (go_at_call 8; refine (k8 _ hc1.bel).mono ?_; rintro r w3 ⟨v1, rfl, hs1, hb⟩; replace hc1 := hc1.call hb; have hf1 := hs1; obtain ⟨hl1, a1, c1, rfl, -⟩ := hf1; clear hb k8)
    | (go_at_call 9; refine (k9 _ hc1.bel).mono ?_; rintro r w4 ⟨v2, rfl, hs2, hb⟩; replace hc1 := hc1.call hb; replace hs1 := hs1.below hb; have hf2 := hs2; obtain ⟨-, a2, c2, rfl, -⟩ := hf2; have Hs1 : Hid (EntsAt w4 (.slice a1 S.length c1) S) := hs1; have Hs2 : Hid (EntsAt w4 (.slice a2 S.length c2) S) := hs2; clear hb k9 hs1 hs2))
  go_loopw [6] (fun u w' => ∃ i : Nat, u = .int .i64 (i : Int) ∧ i ≤ S.length ∧ Below w4.heap.size w4 w') (fun u _ => S.length - numOf u)
  case atStart => exact ⟨0, rfl, Nat.zero_le _, Below.refl _ _⟩
  case round =>
    obtain ⟨i, rfl, hil, hm⟩ := hrel
    by_cases hlt : i < S.length
    · have hlt' : (i : Int) < (S.length : Int) := by omega
      have hwr : IntKind.i64.wrap ((i : Int) + 1) = ((i + 1 : Nat) : Int) := by rw [wrap_small _ (by omega) (by omega)]; omega
      obtain ⟨-, x1, y1, e1, h1⟩ := Hs1.out.below hm
      obtain ⟨-, x2, y2, e2, h2⟩ := Hs2.out.below hm
      cases e1
      cases e2
      obtain ⟨b1, o1, rfl, r1⟩ := h1 i hlt
      obtain ⟨b2, o2, rfl, r2⟩ := h2 i hlt
      clear h1 h2
      generalize S[i] = p at r1 r2
      obtain ⟨pa, pb⟩ := p
      go_wp2
      have HQ1 : Hid (∀ w', (∃ x : Cl wr.heap.size wr, w' = x.u) → w'.rangeAt b1 (o1 + i * 3) (eC pa pb).toList) := fun w' ⟨x, hx⟩ => by
        subst hx
        exact x.range r1 (block_lt r1 (by simp))
      have HQ2 : Hid (∀ w', (∃ x : Cl wr.heap.size wr, w' = x.u) → w'.rangeAt b2 (o2 + i * 3) (eC pa pb).toList) := fun w' ⟨x, hx⟩ => by
        subst hx
        exact x.range r2 (block_lt r2 (by simp))
      have hne := Cl.ne wr.heap.size wr
      clear r1 r2
      refine region_cl (N := wr.heap.size) (W := wr) (by kernel_rfl) (by kernel_rfl) (Below.refl _ _) ?_
      go_big_quiet_step (fail)
      go_big_quiet_step (fail)
      go_big_quiet_step (fail)
      go_big_quiet_want
      refine quiet_load 33 _ rfl b1 (o1 + i * 3) rfl (eC pa pb).toList _ HQ1.out Tryd.underlying33 rfl (n33 pa pb) ?_
      simp only [Act.put, List.setIfInBounds_toArray, List.set_cons_zero, List.set_cons_succ]
      go_big_quiet_on
      go_big_quiet_step (fail)
      go_big_quiet_step (fail)
      go_big_quiet_step (fail)
      go_big_quiet_want
      refine quiet_load 33 _ rfl b2 (o2 + i * 3) rfl (eC pa pb).toList _ HQ2.out Tryd.underlying33 rfl (n33 pa pb) ?_
      simp only [Act.put, List.setIfInBounds_toArray, List.set_cons_zero, List.set_cons_succ]
      go_big_quiet_on
      go_big_quiet_step (fail)
      refine wpQuiet_nil ?_
      rintro _ ⟨x, rfl⟩
      have hx := x.h
      go_wp2
      go_roundw
      case rel => exact ⟨i + 1, by simp, hlt, hm.trans (hx.mono hm.size)⟩
      case measure => simp [numOf]; omega
    · have hlt' : ¬ (i : Int) < (S.length : Int) := by omega
      go_wp2
      go_ret
      exact ⟨rfl, hc1.bel.trans (hm.mono hc1.bel.size)⟩
end Go.Proofs.YthplcnbfpcndbaaDoor

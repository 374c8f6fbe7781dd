/- The rules on members: contracts, by walking their text. -/
import Derived.Test.YthplcnbfpcndbaaGreatDoorAe
import Derived.Test.YthplcnbfpcndbaaGreatDoorMe
namespace Go.Proofs.YthplcnbfpcndbaaGreatDoor
open Go.RowKit

set_option maxRecDepth 100000 in
set_option maxHeartbeats 8000000 in
theorem lets_any (rule m : ByteArray) (w : World) :
    Calls Tryz.prog 73 #[.string rule, .string m] w fun r w' => r = .returned (.bool (lets rule m)) ∧ Below w.heap.size w w' := by
  unfold lets
  have qrulesInvite := beq_const rule sInvite (l := [105, 110, 118, 105, 116, 101]) rfl
  have qrulesPublic := beq_const rule sPublic (l := [112, 117, 98, 108, 105, 99]) rfl
  have qmsInvite := beq_const m sInvite (l := [105, 110, 118, 105, 116, 101]) rfl
  have qmsJoin := beq_const m sJoin (l := [106, 111, 105, 110]) rfl
  by_cases h0 : rule = sInvite
  · rw [if_pos h0]
    rw [decide_eq_true h0] at qrulesInvite
    clear h0
    by_cases h1 : m = sInvite
    · rw [if_pos h1]
      rw [decide_eq_true h1] at qmsInvite
      clear h1
      go_enter Tryz.func73, Tryz.ntmps73
      go_wp2_with (first
        | fail)
      go_ret
      exact ⟨rfl, Below.refl _ _⟩
    · rw [if_neg h1]
      rw [decide_eq_false h1] at qmsInvite
      clear h1
      by_cases h2 : m = sJoin
      · rw [if_pos h2]
        rw [decide_eq_true h2] at qmsJoin
        clear h2
        go_enter Tryz.func73, Tryz.ntmps73
        go_wp2_with (first
          | fail)
        go_ret
        exact ⟨rfl, Below.refl _ _⟩
      · rw [if_neg h2]
        rw [decide_eq_false h2] at qmsJoin
        clear h2
        go_enter Tryz.func73, Tryz.ntmps73
        go_wp2_with (first
          | fail)
        go_ret
        exact ⟨rfl, Below.refl _ _⟩
  · rw [if_neg h0]
    rw [decide_eq_false h0] at qrulesInvite
    clear h0
    by_cases h1 : rule = sPublic
    · rw [if_pos h1]
      rw [decide_eq_true h1] at qrulesPublic
      clear h1
      go_enter Tryz.func73, Tryz.ntmps73
      go_wp2_with (first
        | fail)
      go_ret
      exact ⟨rfl, Below.refl _ _⟩
    · rw [if_neg h1]
      rw [decide_eq_false h1] at qrulesPublic
      clear h1
      go_enter Tryz.func73, Tryz.ntmps73
      go_wp2_with (first
        | fail)
      go_ret
      exact ⟨rfl, Below.refl _ _⟩

set_option maxRecDepth 100000 in
set_option maxHeartbeats 8000000 in
theorem ownLeave_any (e : EV) (l : List EV) (C : Array Value) (v : Value) (B w : World) (hB : Below B.heap.size B w) (he : EC B e C) (hl : EvsAt B v l) :
    Calls Tryz.prog 39 #[.agg C, v] w fun r w' => r = .returned (.int .i64 (chkO e l)) ∧ Below w.heap.size w w' := by
  have hc0 := Ctx.start w
  have hE := he.sz
  have m5 := fun W h => membership_any l v e.key B W h hl
  have e5 := he.i5
  clear he hl
  unfold chkO
  generalize memb l e.key = K at *
  generalize e.key = ky at *
  have qKsJoin := beq_const K sJoin (l := [106, 111, 105, 110]) rfl
  have qKsInvite := beq_const K sInvite (l := [105, 110, 118, 105, 116, 101]) rfl
  by_cases h0 : K = sJoin
  · rw [if_pos h0]
    rw [decide_eq_true h0] at qKsJoin
    clear h0
    go_enter Tryz.func39, Tryz.ntmps39
    go_wp2_with (first
      | (refine v_box rfl 28 (.tmp 0) rfl C rfl hc0 ?_; intro w1 N1 hc1 _; have c5 := hc1.cell 0 rfl 5 e5; clear hc0)
      | (go_at_call 42; refine (m5 _ (hB.trans (hc1.bel.mono hB.size))).mono ?_; rintro r wc ⟨rfl, hbc⟩; replace hc1 := hc1.call hbc; clear hbc m5))
    go_ret
    exact ⟨rfl, hc1.bel⟩
  · rw [if_neg h0]
    rw [decide_eq_false h0] at qKsJoin
    clear h0
    by_cases h1 : K = sInvite
    · rw [if_pos h1]
      rw [decide_eq_true h1] at qKsInvite
      clear h1
      go_enter Tryz.func39, Tryz.ntmps39
      go_wp2_with (first
        | (refine v_box rfl 28 (.tmp 0) rfl C rfl hc0 ?_; intro w1 N1 hc1 _; have c5 := hc1.cell 0 rfl 5 e5; clear hc0)
        | (go_at_call 42; refine (m5 _ (hB.trans (hc1.bel.mono hB.size))).mono ?_; rintro r wc ⟨rfl, hbc⟩; replace hc1 := hc1.call hbc; clear hbc m5))
      go_ret
      exact ⟨rfl, hc1.bel⟩
    · rw [if_neg h1]
      rw [decide_eq_false h1] at qKsInvite
      clear h1
      go_enter Tryz.func39, Tryz.ntmps39
      go_wp2_with (first
        | (refine v_box rfl 28 (.tmp 0) rfl C rfl hc0 ?_; intro w1 N1 hc1 _; have c5 := hc1.cell 0 rfl 5 e5; clear hc0)
        | (go_at_call 42; refine (m5 _ (hB.trans (hc1.bel.mono hB.size))).mono ?_; rintro r wc ⟨rfl, hbc⟩; replace hc1 := hc1.call hbc; clear hbc m5))
      go_ret
      exact ⟨rfl, hc1.bel⟩

set_option maxRecDepth 100000 in
set_option maxHeartbeats 8000000 in
theorem invite_any (e : EV) (l : List EV) (C : Array Value) (v : Value) (B w : World) (hB : Below B.heap.size B w) (he : EC B e C) (hl : EvsAt B v l) :
    Calls Tryz.prog 38 #[.agg C, v] w fun r w' => r = .returned (.int .i64 (chkI e l)) ∧ Below w.heap.size w w' := by
  have hc0 := Ctx.start w
  have hE := he.sz
  have m5 := fun W h => membership_any l v e.key B W h hl
  have m3 := fun W h => membership_any l v e.snd B W h hl
  have lv := fun W h => level_any l v e.snd B W h hl
  have lf := fun W h => levelFor_any l v sInvite B W h hl
  have e3 := he.i3
  have e5 := he.i5
  clear he hl
  unfold chkI
  generalize memb l e.snd = A at *
  generalize memb l e.key = K at *
  generalize level l e.snd = L at *
  generalize lvFor l sInvite = F at *
  generalize e.key = ky at *
  generalize e.snd = sn at *
  have qAsJoin := beq_const A sJoin (l := [106, 111, 105, 110]) rfl
  have qKsJoin := beq_const K sJoin (l := [106, 111, 105, 110]) rfl
  have qKsBan := beq_const K sBan (l := [98, 97, 110]) rfl
  by_cases h0 : A = sJoin
  · rw [if_pos h0]
    rw [decide_eq_true h0] at qAsJoin
    clear h0
    by_cases h1 : K = sJoin
    · rw [if_pos h1]
      rw [decide_eq_true h1] at qKsJoin
      clear h1
      go_enter Tryz.func38, Tryz.ntmps38
      go_wp2_with (first
        | (refine v_box rfl 28 (.tmp 0) rfl C rfl hc0 ?_; intro w1 N1 hc1 _; have c3 := hc1.cell 0 rfl 3 e3; have c5 := hc1.cell 0 rfl 5 e5; clear hc0)
        | (go_at_call 42; refine (m5 _ (hB.trans (hc1.bel.mono hB.size))).mono ?_; rintro r wc ⟨rfl, hbc⟩; replace hc1 := hc1.call hbc; replace c3 := hc1.cell 0 rfl 3 e3; replace c5 := hc1.cell 0 rfl 5 e5; clear hbc m5)
        | (go_at_call 42; refine (m3 _ (hB.trans (hc1.bel.mono hB.size))).mono ?_; rintro r wc ⟨rfl, hbc⟩; replace hc1 := hc1.call hbc; replace c3 := hc1.cell 0 rfl 3 e3; replace c5 := hc1.cell 0 rfl 5 e5; clear hbc m3)
        | (go_at_call 27; refine (lv _ (hB.trans (hc1.bel.mono hB.size))).mono ?_; rintro r wc ⟨rfl, hbc⟩; replace hc1 := hc1.call hbc; clear hbc lv)
        | (go_at_call 75; refine (lf _ (hB.trans (hc1.bel.mono hB.size))).mono ?_; rintro r wc ⟨rfl, hbc⟩; replace hc1 := hc1.call hbc; clear hbc lf))
      go_ret
      exact ⟨rfl, hc1.bel⟩
    · rw [if_neg h1]
      rw [decide_eq_false h1] at qKsJoin
      clear h1
      by_cases h2 : K = sBan
      · rw [if_pos h2]
        rw [decide_eq_true h2] at qKsBan
        clear h2
        go_enter Tryz.func38, Tryz.ntmps38
        go_wp2_with (first
          | (refine v_box rfl 28 (.tmp 0) rfl C rfl hc0 ?_; intro w1 N1 hc1 _; have c3 := hc1.cell 0 rfl 3 e3; have c5 := hc1.cell 0 rfl 5 e5; clear hc0)
          | (go_at_call 42; refine (m5 _ (hB.trans (hc1.bel.mono hB.size))).mono ?_; rintro r wc ⟨rfl, hbc⟩; replace hc1 := hc1.call hbc; replace c3 := hc1.cell 0 rfl 3 e3; replace c5 := hc1.cell 0 rfl 5 e5; clear hbc m5)
          | (go_at_call 42; refine (m3 _ (hB.trans (hc1.bel.mono hB.size))).mono ?_; rintro r wc ⟨rfl, hbc⟩; replace hc1 := hc1.call hbc; replace c3 := hc1.cell 0 rfl 3 e3; replace c5 := hc1.cell 0 rfl 5 e5; clear hbc m3)
          | (go_at_call 27; refine (lv _ (hB.trans (hc1.bel.mono hB.size))).mono ?_; rintro r wc ⟨rfl, hbc⟩; replace hc1 := hc1.call hbc; clear hbc lv)
          | (go_at_call 75; refine (lf _ (hB.trans (hc1.bel.mono hB.size))).mono ?_; rintro r wc ⟨rfl, hbc⟩; replace hc1 := hc1.call hbc; clear hbc lf))
        go_ret
        exact ⟨rfl, hc1.bel⟩
      · rw [if_neg h2]
        rw [decide_eq_false h2] at qKsBan
        clear h2
        by_cases h3 : L < F
        · rw [if_pos h3]
          go_enter Tryz.func38, Tryz.ntmps38
          go_wp2_with (first
            | (refine v_box rfl 28 (.tmp 0) rfl C rfl hc0 ?_; intro w1 N1 hc1 _; have c3 := hc1.cell 0 rfl 3 e3; have c5 := hc1.cell 0 rfl 5 e5; clear hc0)
            | (go_at_call 42; refine (m5 _ (hB.trans (hc1.bel.mono hB.size))).mono ?_; rintro r wc ⟨rfl, hbc⟩; replace hc1 := hc1.call hbc; replace c3 := hc1.cell 0 rfl 3 e3; replace c5 := hc1.cell 0 rfl 5 e5; clear hbc m5)
            | (go_at_call 42; refine (m3 _ (hB.trans (hc1.bel.mono hB.size))).mono ?_; rintro r wc ⟨rfl, hbc⟩; replace hc1 := hc1.call hbc; replace c3 := hc1.cell 0 rfl 3 e3; replace c5 := hc1.cell 0 rfl 5 e5; clear hbc m3)
            | (go_at_call 27; refine (lv _ (hB.trans (hc1.bel.mono hB.size))).mono ?_; rintro r wc ⟨rfl, hbc⟩; replace hc1 := hc1.call hbc; clear hbc lv)
            | (go_at_call 75; refine (lf _ (hB.trans (hc1.bel.mono hB.size))).mono ?_; rintro r wc ⟨rfl, hbc⟩; replace hc1 := hc1.call hbc; clear hbc lf))
          go_ret
          exact ⟨rfl, hc1.bel⟩
        · rw [if_neg h3]
          go_enter Tryz.func38, Tryz.ntmps38
          go_wp2_with (first
            | (refine v_box rfl 28 (.tmp 0) rfl C rfl hc0 ?_; intro w1 N1 hc1 _; have c3 := hc1.cell 0 rfl 3 e3; have c5 := hc1.cell 0 rfl 5 e5; clear hc0)
            | (go_at_call 42; refine (m5 _ (hB.trans (hc1.bel.mono hB.size))).mono ?_; rintro r wc ⟨rfl, hbc⟩; replace hc1 := hc1.call hbc; replace c3 := hc1.cell 0 rfl 3 e3; replace c5 := hc1.cell 0 rfl 5 e5; clear hbc m5)
            | (go_at_call 42; refine (m3 _ (hB.trans (hc1.bel.mono hB.size))).mono ?_; rintro r wc ⟨rfl, hbc⟩; replace hc1 := hc1.call hbc; replace c3 := hc1.cell 0 rfl 3 e3; replace c5 := hc1.cell 0 rfl 5 e5; clear hbc m3)
            | (go_at_call 27; refine (lv _ (hB.trans (hc1.bel.mono hB.size))).mono ?_; rintro r wc ⟨rfl, hbc⟩; replace hc1 := hc1.call hbc; clear hbc lv)
            | (go_at_call 75; refine (lf _ (hB.trans (hc1.bel.mono hB.size))).mono ?_; rintro r wc ⟨rfl, hbc⟩; replace hc1 := hc1.call hbc; clear hbc lf))
          go_ret
          exact ⟨rfl, hc1.bel⟩
  · rw [if_neg h0]
    rw [decide_eq_false h0] at qAsJoin
    clear h0
    go_enter Tryz.func38, Tryz.ntmps38
    go_wp2_with (first
      | (refine v_box rfl 28 (.tmp 0) rfl C rfl hc0 ?_; intro w1 N1 hc1 _; have c3 := hc1.cell 0 rfl 3 e3; have c5 := hc1.cell 0 rfl 5 e5; clear hc0)
      | (go_at_call 42; refine (m5 _ (hB.trans (hc1.bel.mono hB.size))).mono ?_; rintro r wc ⟨rfl, hbc⟩; replace hc1 := hc1.call hbc; replace c3 := hc1.cell 0 rfl 3 e3; replace c5 := hc1.cell 0 rfl 5 e5; clear hbc m5)
      | (go_at_call 42; refine (m3 _ (hB.trans (hc1.bel.mono hB.size))).mono ?_; rintro r wc ⟨rfl, hbc⟩; replace hc1 := hc1.call hbc; replace c3 := hc1.cell 0 rfl 3 e3; replace c5 := hc1.cell 0 rfl 5 e5; clear hbc m3)
      | (go_at_call 27; refine (lv _ (hB.trans (hc1.bel.mono hB.size))).mono ?_; rintro r wc ⟨rfl, hbc⟩; replace hc1 := hc1.call hbc; clear hbc lv)
      | (go_at_call 75; refine (lf _ (hB.trans (hc1.bel.mono hB.size))).mono ?_; rintro r wc ⟨rfl, hbc⟩; replace hc1 := hc1.call hbc; clear hbc lf))
    go_ret
    exact ⟨rfl, hc1.bel⟩

set_option maxRecDepth 100000 in
set_option maxHeartbeats 8000000 in
theorem ban_any (e : EV) (l : List EV) (C : Array Value) (v : Value) (B w : World) (hB : Below B.heap.size B w) (he : EC B e C) (hl : EvsAt B v l) :
    Calls Tryz.prog 41 #[.agg C, v] w fun r w' => r = .returned (.int .i64 (chkB e l)) ∧ Below w.heap.size w w' := by
  have hc0 := Ctx.start w
  have hE := he.sz
  have m3 := fun W h => membership_any l v e.snd B W h hl
  have lv := fun W h => level_any l v e.snd B W h hl
  have lw := fun W h => level_any l v e.key B W h hl
  have lf := fun W h => levelFor_any l v sBan B W h hl
  have e3 := he.i3
  have e5 := he.i5
  clear he hl
  unfold chkB
  generalize memb l e.snd = A at *
  generalize level l e.snd = L at *
  generalize level l e.key = G at *
  generalize lvFor l sBan = F at *
  generalize e.key = ky at *
  generalize e.snd = sn at *
  have qAsJoin := beq_const A sJoin (l := [106, 111, 105, 110]) rfl
  by_cases h0 : A = sJoin
  · rw [if_pos h0]
    rw [decide_eq_true h0] at qAsJoin
    clear h0
    by_cases h1 : L < F
    · rw [if_pos h1]
      go_enter Tryz.func41, Tryz.ntmps41
      go_wp2_with (first
        | (refine v_box rfl 28 (.tmp 0) rfl C rfl hc0 ?_; intro w1 N1 hc1 _; have c3 := hc1.cell 0 rfl 3 e3; have c5 := hc1.cell 0 rfl 5 e5; clear hc0)
        | (go_at_call 42; refine (m3 _ (hB.trans (hc1.bel.mono hB.size))).mono ?_; rintro r wc ⟨rfl, hbc⟩; replace hc1 := hc1.call hbc; replace c3 := hc1.cell 0 rfl 3 e3; replace c5 := hc1.cell 0 rfl 5 e5; clear hbc m3)
        | (go_at_call 27; refine (lv _ (hB.trans (hc1.bel.mono hB.size))).mono ?_; rintro r wc ⟨rfl, hbc⟩; replace hc1 := hc1.call hbc; replace c3 := hc1.cell 0 rfl 3 e3; replace c5 := hc1.cell 0 rfl 5 e5; clear hbc lv)
        | (go_at_call 75; refine (lf _ (hB.trans (hc1.bel.mono hB.size))).mono ?_; rintro r wc ⟨rfl, hbc⟩; replace hc1 := hc1.call hbc; replace c3 := hc1.cell 0 rfl 3 e3; replace c5 := hc1.cell 0 rfl 5 e5; clear hbc lf)
        | (go_at_call 27; refine (lw _ (hB.trans (hc1.bel.mono hB.size))).mono ?_; rintro r wc ⟨rfl, hbc⟩; replace hc1 := hc1.call hbc; clear hbc lw))
      go_ret
      exact ⟨rfl, hc1.bel⟩
    · rw [if_neg h1]
      by_cases h2 : L ≤ G
      · rw [if_pos h2]
        go_enter Tryz.func41, Tryz.ntmps41
        go_wp2_with (first
          | (refine v_box rfl 28 (.tmp 0) rfl C rfl hc0 ?_; intro w1 N1 hc1 _; have c3 := hc1.cell 0 rfl 3 e3; have c5 := hc1.cell 0 rfl 5 e5; clear hc0)
          | (go_at_call 42; refine (m3 _ (hB.trans (hc1.bel.mono hB.size))).mono ?_; rintro r wc ⟨rfl, hbc⟩; replace hc1 := hc1.call hbc; replace c3 := hc1.cell 0 rfl 3 e3; replace c5 := hc1.cell 0 rfl 5 e5; clear hbc m3)
          | (go_at_call 27; refine (lv _ (hB.trans (hc1.bel.mono hB.size))).mono ?_; rintro r wc ⟨rfl, hbc⟩; replace hc1 := hc1.call hbc; replace c3 := hc1.cell 0 rfl 3 e3; replace c5 := hc1.cell 0 rfl 5 e5; clear hbc lv)
          | (go_at_call 75; refine (lf _ (hB.trans (hc1.bel.mono hB.size))).mono ?_; rintro r wc ⟨rfl, hbc⟩; replace hc1 := hc1.call hbc; replace c3 := hc1.cell 0 rfl 3 e3; replace c5 := hc1.cell 0 rfl 5 e5; clear hbc lf)
          | (go_at_call 27; refine (lw _ (hB.trans (hc1.bel.mono hB.size))).mono ?_; rintro r wc ⟨rfl, hbc⟩; replace hc1 := hc1.call hbc; clear hbc lw))
        go_ret
        exact ⟨rfl, hc1.bel⟩
      · rw [if_neg h2]
        go_enter Tryz.func41, Tryz.ntmps41
        go_wp2_with (first
          | (refine v_box rfl 28 (.tmp 0) rfl C rfl hc0 ?_; intro w1 N1 hc1 _; have c3 := hc1.cell 0 rfl 3 e3; have c5 := hc1.cell 0 rfl 5 e5; clear hc0)
          | (go_at_call 42; refine (m3 _ (hB.trans (hc1.bel.mono hB.size))).mono ?_; rintro r wc ⟨rfl, hbc⟩; replace hc1 := hc1.call hbc; replace c3 := hc1.cell 0 rfl 3 e3; replace c5 := hc1.cell 0 rfl 5 e5; clear hbc m3)
          | (go_at_call 27; refine (lv _ (hB.trans (hc1.bel.mono hB.size))).mono ?_; rintro r wc ⟨rfl, hbc⟩; replace hc1 := hc1.call hbc; replace c3 := hc1.cell 0 rfl 3 e3; replace c5 := hc1.cell 0 rfl 5 e5; clear hbc lv)
          | (go_at_call 75; refine (lf _ (hB.trans (hc1.bel.mono hB.size))).mono ?_; rintro r wc ⟨rfl, hbc⟩; replace hc1 := hc1.call hbc; replace c3 := hc1.cell 0 rfl 3 e3; replace c5 := hc1.cell 0 rfl 5 e5; clear hbc lf)
          | (go_at_call 27; refine (lw _ (hB.trans (hc1.bel.mono hB.size))).mono ?_; rintro r wc ⟨rfl, hbc⟩; replace hc1 := hc1.call hbc; clear hbc lw))
        go_ret
        exact ⟨rfl, hc1.bel⟩
  · rw [if_neg h0]
    rw [decide_eq_false h0] at qAsJoin
    clear h0
    go_enter Tryz.func41, Tryz.ntmps41
    go_wp2_with (first
      | (refine v_box rfl 28 (.tmp 0) rfl C rfl hc0 ?_; intro w1 N1 hc1 _; have c3 := hc1.cell 0 rfl 3 e3; have c5 := hc1.cell 0 rfl 5 e5; clear hc0)
      | (go_at_call 42; refine (m3 _ (hB.trans (hc1.bel.mono hB.size))).mono ?_; rintro r wc ⟨rfl, hbc⟩; replace hc1 := hc1.call hbc; replace c3 := hc1.cell 0 rfl 3 e3; replace c5 := hc1.cell 0 rfl 5 e5; clear hbc m3)
      | (go_at_call 27; refine (lv _ (hB.trans (hc1.bel.mono hB.size))).mono ?_; rintro r wc ⟨rfl, hbc⟩; replace hc1 := hc1.call hbc; replace c3 := hc1.cell 0 rfl 3 e3; replace c5 := hc1.cell 0 rfl 5 e5; clear hbc lv)
      | (go_at_call 75; refine (lf _ (hB.trans (hc1.bel.mono hB.size))).mono ?_; rintro r wc ⟨rfl, hbc⟩; replace hc1 := hc1.call hbc; replace c3 := hc1.cell 0 rfl 3 e3; replace c5 := hc1.cell 0 rfl 5 e5; clear hbc lf)
      | (go_at_call 27; refine (lw _ (hB.trans (hc1.bel.mono hB.size))).mono ?_; rintro r wc ⟨rfl, hbc⟩; replace hc1 := hc1.call hbc; clear hbc lw))
    go_ret
    exact ⟨rfl, hc1.bel⟩

set_option maxRecDepth 100000 in
set_option maxHeartbeats 8000000 in
theorem kick_any (e : EV) (l : List EV) (C : Array Value) (v : Value) (B w : World) (hB : Below B.heap.size B w) (he : EC B e C) (hl : EvsAt B v l) :
    Calls Tryz.prog 40 #[.agg C, v] w fun r w' => r = .returned (.int .i64 (chkK e l)) ∧ Below w.heap.size w w' := by
  have hc0 := Ctx.start w
  have hE := he.sz
  have m5 := fun W h => membership_any l v e.key B W h hl
  have m3 := fun W h => membership_any l v e.snd B W h hl
  have lv := fun W h => level_any l v e.snd B W h hl
  have lw := fun W h => level_any l v e.key B W h hl
  have lb := fun W h => levelFor_any l v sBan B W h hl
  have lk := fun W h => levelFor_any l v sKick B W h hl
  have e3 := he.i3
  have e5 := he.i5
  clear he hl
  unfold chkK chkK2
  generalize memb l e.snd = A at *
  generalize memb l e.key = K at *
  generalize level l e.snd = L at *
  generalize level l e.key = G at *
  generalize lvFor l sBan = Fb at *
  generalize lvFor l sKick = Fk at *
  generalize e.key = ky at *
  generalize e.snd = sn at *
  have qAsJoin := beq_const A sJoin (l := [106, 111, 105, 110]) rfl
  have qKsBan := beq_const K sBan (l := [98, 97, 110]) rfl
  by_cases h0 : A = sJoin
  · rw [if_pos h0]
    rw [decide_eq_true h0] at qAsJoin
    clear h0
    by_cases h1 : K = sBan
    · rw [if_pos h1]
      rw [decide_eq_true h1] at qKsBan
      clear h1
      by_cases h2 : L < Fb
      · rw [if_pos h2]
        go_enter Tryz.func40, Tryz.ntmps40
        go_wp2_with (first
          | (refine v_box rfl 28 (.tmp 0) rfl C rfl hc0 ?_; intro w1 N1 hc1 _; have c3 := hc1.cell 0 rfl 3 e3; have c5 := hc1.cell 0 rfl 5 e5; clear hc0)
          | (go_at_call 27; refine (lv _ (hB.trans (hc1.bel.mono hB.size))).mono ?_; rintro r wc ⟨rfl, hbc⟩; replace hc1 := hc1.call hbc; replace c3 := hc1.cell 0 rfl 3 e3; replace c5 := hc1.cell 0 rfl 5 e5; clear hbc lv)
          | (go_at_call 42; refine (m3 _ (hB.trans (hc1.bel.mono hB.size))).mono ?_; rintro r wc ⟨rfl, hbc⟩; replace hc1 := hc1.call hbc; replace c3 := hc1.cell 0 rfl 3 e3; replace c5 := hc1.cell 0 rfl 5 e5; clear hbc m3)
          | (go_at_call 42; refine (m5 _ (hB.trans (hc1.bel.mono hB.size))).mono ?_; rintro r wc ⟨rfl, hbc⟩; replace hc1 := hc1.call hbc; replace c3 := hc1.cell 0 rfl 3 e3; replace c5 := hc1.cell 0 rfl 5 e5; clear hbc m5)
          | (go_at_call 75; refine (lb _ (hB.trans (hc1.bel.mono hB.size))).mono ?_; rintro r wc ⟨rfl, hbc⟩; replace hc1 := hc1.call hbc; replace c3 := hc1.cell 0 rfl 3 e3; replace c5 := hc1.cell 0 rfl 5 e5; clear hbc lb)
          | (go_at_call 27; refine (lw _ (hB.trans (hc1.bel.mono hB.size))).mono ?_; rintro r wc ⟨rfl, hbc⟩; replace hc1 := hc1.call hbc; clear hbc lw))
        go_ret
        exact ⟨rfl, hc1.bel⟩
      · rw [if_neg h2]
        by_cases h3 : L < Fk
        · rw [if_pos h3]
          go_enter Tryz.func40, Tryz.ntmps40
          go_wp2_with (first
            | (refine v_box rfl 28 (.tmp 0) rfl C rfl hc0 ?_; intro w1 N1 hc1 _; have c3 := hc1.cell 0 rfl 3 e3; have c5 := hc1.cell 0 rfl 5 e5; clear hc0)
            | (go_at_call 27; refine (lv _ (hB.trans (hc1.bel.mono hB.size))).mono ?_; rintro r wc ⟨rfl, hbc⟩; replace hc1 := hc1.call hbc; replace c3 := hc1.cell 0 rfl 3 e3; replace c5 := hc1.cell 0 rfl 5 e5; clear hbc lv)
            | (go_at_call 42; refine (m3 _ (hB.trans (hc1.bel.mono hB.size))).mono ?_; rintro r wc ⟨rfl, hbc⟩; replace hc1 := hc1.call hbc; replace c3 := hc1.cell 0 rfl 3 e3; replace c5 := hc1.cell 0 rfl 5 e5; clear hbc m3)
            | (go_at_call 42; refine (m5 _ (hB.trans (hc1.bel.mono hB.size))).mono ?_; rintro r wc ⟨rfl, hbc⟩; replace hc1 := hc1.call hbc; replace c3 := hc1.cell 0 rfl 3 e3; replace c5 := hc1.cell 0 rfl 5 e5; clear hbc m5)
            | (go_at_call 75; refine (lb _ (hB.trans (hc1.bel.mono hB.size))).mono ?_; rintro r wc ⟨rfl, hbc⟩; replace hc1 := hc1.call hbc; replace c3 := hc1.cell 0 rfl 3 e3; replace c5 := hc1.cell 0 rfl 5 e5; clear hbc lb)
            | (go_at_call 75; refine (lk _ (hB.trans (hc1.bel.mono hB.size))).mono ?_; rintro r wc ⟨rfl, hbc⟩; replace hc1 := hc1.call hbc; replace c3 := hc1.cell 0 rfl 3 e3; replace c5 := hc1.cell 0 rfl 5 e5; clear hbc lk)
            | (go_at_call 27; refine (lw _ (hB.trans (hc1.bel.mono hB.size))).mono ?_; rintro r wc ⟨rfl, hbc⟩; replace hc1 := hc1.call hbc; clear hbc lw))
          go_ret
          exact ⟨rfl, hc1.bel⟩
        · rw [if_neg h3]
          by_cases h4 : L ≤ G
          · rw [if_pos h4]
            go_enter Tryz.func40, Tryz.ntmps40
            go_wp2_with (first
              | (refine v_box rfl 28 (.tmp 0) rfl C rfl hc0 ?_; intro w1 N1 hc1 _; have c3 := hc1.cell 0 rfl 3 e3; have c5 := hc1.cell 0 rfl 5 e5; clear hc0)
              | (go_at_call 27; refine (lv _ (hB.trans (hc1.bel.mono hB.size))).mono ?_; rintro r wc ⟨rfl, hbc⟩; replace hc1 := hc1.call hbc; replace c3 := hc1.cell 0 rfl 3 e3; replace c5 := hc1.cell 0 rfl 5 e5; clear hbc lv)
              | (go_at_call 42; refine (m3 _ (hB.trans (hc1.bel.mono hB.size))).mono ?_; rintro r wc ⟨rfl, hbc⟩; replace hc1 := hc1.call hbc; replace c3 := hc1.cell 0 rfl 3 e3; replace c5 := hc1.cell 0 rfl 5 e5; clear hbc m3)
              | (go_at_call 42; refine (m5 _ (hB.trans (hc1.bel.mono hB.size))).mono ?_; rintro r wc ⟨rfl, hbc⟩; replace hc1 := hc1.call hbc; replace c3 := hc1.cell 0 rfl 3 e3; replace c5 := hc1.cell 0 rfl 5 e5; clear hbc m5)
              | (go_at_call 75; refine (lb _ (hB.trans (hc1.bel.mono hB.size))).mono ?_; rintro r wc ⟨rfl, hbc⟩; replace hc1 := hc1.call hbc; replace c3 := hc1.cell 0 rfl 3 e3; replace c5 := hc1.cell 0 rfl 5 e5; clear hbc lb)
              | (go_at_call 75; refine (lk _ (hB.trans (hc1.bel.mono hB.size))).mono ?_; rintro r wc ⟨rfl, hbc⟩; replace hc1 := hc1.call hbc; replace c3 := hc1.cell 0 rfl 3 e3; replace c5 := hc1.cell 0 rfl 5 e5; clear hbc lk)
              | (go_at_call 27; refine (lw _ (hB.trans (hc1.bel.mono hB.size))).mono ?_; rintro r wc ⟨rfl, hbc⟩; replace hc1 := hc1.call hbc; clear hbc lw))
            go_ret
            exact ⟨rfl, hc1.bel⟩
          · rw [if_neg h4]
            go_enter Tryz.func40, Tryz.ntmps40
            go_wp2_with (first
              | (refine v_box rfl 28 (.tmp 0) rfl C rfl hc0 ?_; intro w1 N1 hc1 _; have c3 := hc1.cell 0 rfl 3 e3; have c5 := hc1.cell 0 rfl 5 e5; clear hc0)
              | (go_at_call 27; refine (lv _ (hB.trans (hc1.bel.mono hB.size))).mono ?_; rintro r wc ⟨rfl, hbc⟩; replace hc1 := hc1.call hbc; replace c3 := hc1.cell 0 rfl 3 e3; replace c5 := hc1.cell 0 rfl 5 e5; clear hbc lv)
              | (go_at_call 42; refine (m3 _ (hB.trans (hc1.bel.mono hB.size))).mono ?_; rintro r wc ⟨rfl, hbc⟩; replace hc1 := hc1.call hbc; replace c3 := hc1.cell 0 rfl 3 e3; replace c5 := hc1.cell 0 rfl 5 e5; clear hbc m3)
              | (go_at_call 42; refine (m5 _ (hB.trans (hc1.bel.mono hB.size))).mono ?_; rintro r wc ⟨rfl, hbc⟩; replace hc1 := hc1.call hbc; replace c3 := hc1.cell 0 rfl 3 e3; replace c5 := hc1.cell 0 rfl 5 e5; clear hbc m5)
              | (go_at_call 75; refine (lb _ (hB.trans (hc1.bel.mono hB.size))).mono ?_; rintro r wc ⟨rfl, hbc⟩; replace hc1 := hc1.call hbc; replace c3 := hc1.cell 0 rfl 3 e3; replace c5 := hc1.cell 0 rfl 5 e5; clear hbc lb)
              | (go_at_call 75; refine (lk _ (hB.trans (hc1.bel.mono hB.size))).mono ?_; rintro r wc ⟨rfl, hbc⟩; replace hc1 := hc1.call hbc; replace c3 := hc1.cell 0 rfl 3 e3; replace c5 := hc1.cell 0 rfl 5 e5; clear hbc lk)
              | (go_at_call 27; refine (lw _ (hB.trans (hc1.bel.mono hB.size))).mono ?_; rintro r wc ⟨rfl, hbc⟩; replace hc1 := hc1.call hbc; clear hbc lw))
            go_ret
            exact ⟨rfl, hc1.bel⟩
    · rw [if_neg h1]
      rw [decide_eq_false h1] at qKsBan
      clear h1
      by_cases h2 : L < Fk
      · rw [if_pos h2]
        go_enter Tryz.func40, Tryz.ntmps40
        go_wp2_with (first
          | (refine v_box rfl 28 (.tmp 0) rfl C rfl hc0 ?_; intro w1 N1 hc1 _; have c3 := hc1.cell 0 rfl 3 e3; have c5 := hc1.cell 0 rfl 5 e5; clear hc0)
          | (go_at_call 27; refine (lv _ (hB.trans (hc1.bel.mono hB.size))).mono ?_; rintro r wc ⟨rfl, hbc⟩; replace hc1 := hc1.call hbc; replace c3 := hc1.cell 0 rfl 3 e3; replace c5 := hc1.cell 0 rfl 5 e5; clear hbc lv)
          | (go_at_call 42; refine (m3 _ (hB.trans (hc1.bel.mono hB.size))).mono ?_; rintro r wc ⟨rfl, hbc⟩; replace hc1 := hc1.call hbc; replace c3 := hc1.cell 0 rfl 3 e3; replace c5 := hc1.cell 0 rfl 5 e5; clear hbc m3)
          | (go_at_call 42; refine (m5 _ (hB.trans (hc1.bel.mono hB.size))).mono ?_; rintro r wc ⟨rfl, hbc⟩; replace hc1 := hc1.call hbc; replace c3 := hc1.cell 0 rfl 3 e3; replace c5 := hc1.cell 0 rfl 5 e5; clear hbc m5)
          | (go_at_call 75; refine (lk _ (hB.trans (hc1.bel.mono hB.size))).mono ?_; rintro r wc ⟨rfl, hbc⟩; replace hc1 := hc1.call hbc; replace c3 := hc1.cell 0 rfl 3 e3; replace c5 := hc1.cell 0 rfl 5 e5; clear hbc lk)
          | (go_at_call 27; refine (lw _ (hB.trans (hc1.bel.mono hB.size))).mono ?_; rintro r wc ⟨rfl, hbc⟩; replace hc1 := hc1.call hbc; clear hbc lw))
        go_ret
        exact ⟨rfl, hc1.bel⟩
      · rw [if_neg h2]
        by_cases h3 : L ≤ G
        · rw [if_pos h3]
          go_enter Tryz.func40, Tryz.ntmps40
          go_wp2_with (first
            | (refine v_box rfl 28 (.tmp 0) rfl C rfl hc0 ?_; intro w1 N1 hc1 _; have c3 := hc1.cell 0 rfl 3 e3; have c5 := hc1.cell 0 rfl 5 e5; clear hc0)
            | (go_at_call 27; refine (lv _ (hB.trans (hc1.bel.mono hB.size))).mono ?_; rintro r wc ⟨rfl, hbc⟩; replace hc1 := hc1.call hbc; replace c3 := hc1.cell 0 rfl 3 e3; replace c5 := hc1.cell 0 rfl 5 e5; clear hbc lv)
            | (go_at_call 42; refine (m3 _ (hB.trans (hc1.bel.mono hB.size))).mono ?_; rintro r wc ⟨rfl, hbc⟩; replace hc1 := hc1.call hbc; replace c3 := hc1.cell 0 rfl 3 e3; replace c5 := hc1.cell 0 rfl 5 e5; clear hbc m3)
            | (go_at_call 42; refine (m5 _ (hB.trans (hc1.bel.mono hB.size))).mono ?_; rintro r wc ⟨rfl, hbc⟩; replace hc1 := hc1.call hbc; replace c3 := hc1.cell 0 rfl 3 e3; replace c5 := hc1.cell 0 rfl 5 e5; clear hbc m5)
            | (go_at_call 75; refine (lk _ (hB.trans (hc1.bel.mono hB.size))).mono ?_; rintro r wc ⟨rfl, hbc⟩; replace hc1 := hc1.call hbc; replace c3 := hc1.cell 0 rfl 3 e3; replace c5 := hc1.cell 0 rfl 5 e5; clear hbc lk)
            | (go_at_call 27; refine (lw _ (hB.trans (hc1.bel.mono hB.size))).mono ?_; rintro r wc ⟨rfl, hbc⟩; replace hc1 := hc1.call hbc; clear hbc lw))
          go_ret
          exact ⟨rfl, hc1.bel⟩
        · rw [if_neg h3]
          go_enter Tryz.func40, Tryz.ntmps40
          go_wp2_with (first
            | (refine v_box rfl 28 (.tmp 0) rfl C rfl hc0 ?_; intro w1 N1 hc1 _; have c3 := hc1.cell 0 rfl 3 e3; have c5 := hc1.cell 0 rfl 5 e5; clear hc0)
            | (go_at_call 27; refine (lv _ (hB.trans (hc1.bel.mono hB.size))).mono ?_; rintro r wc ⟨rfl, hbc⟩; replace hc1 := hc1.call hbc; replace c3 := hc1.cell 0 rfl 3 e3; replace c5 := hc1.cell 0 rfl 5 e5; clear hbc lv)
            | (go_at_call 42; refine (m3 _ (hB.trans (hc1.bel.mono hB.size))).mono ?_; rintro r wc ⟨rfl, hbc⟩; replace hc1 := hc1.call hbc; replace c3 := hc1.cell 0 rfl 3 e3; replace c5 := hc1.cell 0 rfl 5 e5; clear hbc m3)
            | (go_at_call 42; refine (m5 _ (hB.trans (hc1.bel.mono hB.size))).mono ?_; rintro r wc ⟨rfl, hbc⟩; replace hc1 := hc1.call hbc; replace c3 := hc1.cell 0 rfl 3 e3; replace c5 := hc1.cell 0 rfl 5 e5; clear hbc m5)
            | (go_at_call 75; refine (lk _ (hB.trans (hc1.bel.mono hB.size))).mono ?_; rintro r wc ⟨rfl, hbc⟩; replace hc1 := hc1.call hbc; replace c3 := hc1.cell 0 rfl 3 e3; replace c5 := hc1.cell 0 rfl 5 e5; clear hbc lk)
            | (go_at_call 27; refine (lw _ (hB.trans (hc1.bel.mono hB.size))).mono ?_; rintro r wc ⟨rfl, hbc⟩; replace hc1 := hc1.call hbc; clear hbc lw))
          go_ret
          exact ⟨rfl, hc1.bel⟩
  · rw [if_neg h0]
    rw [decide_eq_false h0] at qAsJoin
    clear h0
    go_enter Tryz.func40, Tryz.ntmps40
    go_wp2_with (first
      | (refine v_box rfl 28 (.tmp 0) rfl C rfl hc0 ?_; intro w1 N1 hc1 _; have c3 := hc1.cell 0 rfl 3 e3; have c5 := hc1.cell 0 rfl 5 e5; clear hc0)
      | (go_at_call 27; refine (lv _ (hB.trans (hc1.bel.mono hB.size))).mono ?_; rintro r wc ⟨rfl, hbc⟩; replace hc1 := hc1.call hbc; replace c3 := hc1.cell 0 rfl 3 e3; replace c5 := hc1.cell 0 rfl 5 e5; clear hbc lv)
      | (go_at_call 42; refine (m3 _ (hB.trans (hc1.bel.mono hB.size))).mono ?_; rintro r wc ⟨rfl, hbc⟩; replace hc1 := hc1.call hbc; replace c3 := hc1.cell 0 rfl 3 e3; replace c5 := hc1.cell 0 rfl 5 e5; clear hbc m3)
      | (go_at_call 42; refine (m5 _ (hB.trans (hc1.bel.mono hB.size))).mono ?_; rintro r wc ⟨rfl, hbc⟩; replace hc1 := hc1.call hbc; replace c3 := hc1.cell 0 rfl 3 e3; replace c5 := hc1.cell 0 rfl 5 e5; clear hbc m5)
      | (go_at_call 75; refine (lk _ (hB.trans (hc1.bel.mono hB.size))).mono ?_; rintro r wc ⟨rfl, hbc⟩; replace hc1 := hc1.call hbc; replace c3 := hc1.cell 0 rfl 3 e3; replace c5 := hc1.cell 0 rfl 5 e5; clear hbc lk)
      | (go_at_call 27; refine (lw _ (hB.trans (hc1.bel.mono hB.size))).mono ?_; rintro r wc ⟨rfl, hbc⟩; replace hc1 := hc1.call hbc; clear hbc lw))
    go_ret
    exact ⟨rfl, hc1.bel⟩

end Go.Proofs.YthplcnbfpcndbaaGreatDoor

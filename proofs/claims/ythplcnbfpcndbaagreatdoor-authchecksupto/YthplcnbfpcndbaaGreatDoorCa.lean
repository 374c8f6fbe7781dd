/- The reference's small functions: is it power_levels, a membership, a level for a deed or a type, a join rule without a word, a change beyond a level: walked. -/
import Derived.Test.YthplcnbfpcndbaaGreatDoorAq
import Derived.Test.YthplcnbfpcndbaaGreatDoorMl
namespace Go.Proofs.YthplcnbfpcndbaaGreatDoor
open Go.RowKit

theorem wordR_f (v : GV) (nm : ByteArray) : (wordR v nm).1 = wrd v nm s0 := by
  unfold wordR wrd
  split <;> rfl
theorem memb_eq (l : List EV) (u : ByteArray) : memb l u = if (std tM u l).isSome then (if (wordR (stdD l tM u).con sMemb).2 then (wordR (stdD l tM u).con sMemb).1 else sLeave) else sLeave := by
  cases hs : std tM u l
  · unfold memb stdD
    rw [hs]
    rfl
  · unfold memb wrd wordR
    simp only [Option.isSome_some, if_true]
    split
    · rfl
    · rfl
theorem lv_none {l : List EV} (h : hasL l = false) : lvls l = GV.zero := by
  unfold hasL at h
  rw [Option.isSome_eq_false_iff, Option.isNone_iff_eq_none] at h
  unfold lvls stdD
  rw [h]
  rfl
/-- Is a change beyond a level? -/
def byR (l : Int) (p q : Int × Bool) : Bool := !decide (p = q) && (abv p l || abv q l)

set_option maxRecDepth 100000 in
set_option maxHeartbeats 8000000 in
theorem risLevels_any (e : EV) (C : Array Value) (B w : World) (he : EC B e C) :
    Calls Tryz.prog 23 #[.agg C] w fun r w' => r = .returned (.bool (isF e tL s0)) ∧ Below w.heap.size w w' := by
  have hc := Ctx.start w
  have h1 := beq_const e.ty tL (l := [109, 46, 114, 111, 111, 109, 46, 112, 111, 119, 101, 114, 95, 108, 101, 118, 101, 108, 115]) rfl
  have h2 := beq_const e.key s0 (l := []) rfl
  have e1 := he.i1
  have e4 := he.i4
  have e5 := he.i5
  obtain ⟨R, hR⟩ : ∃ R, isF e tL s0 = R := ⟨_, rfl⟩
  rw [hR]
  unfold isF at hR
  generalize decide (e.ty = tL) = b1 at h1 hR
  generalize decide (e.key = s0) = b2 at h2 hR
  generalize e.hk = b0 at e4 hR
  clear he
  cases b0 <;> cases b1 <;> cases b2
  all_goals
    subst hR
    have z0 : True := trivial
    go_enter Tryz.func23, Tryz.ntmps23
    go_wp2_with (first
      | (have hq := z0; clear hq; refine v_box rfl 28 (.tmp 0) rfl C rfl hc ?_; intro wq Nq hcq _; replace hc := hcq; have c1 := hc.cell 0 rfl 1 e1; have c4 := hc.cell 0 rfl 4 e4; have c5 := hc.cell 0 rfl 5 e5; clear hcq; clear z0; have z1 : True := trivial))
    go_ret
    exact ⟨rfl, hc.bel⟩

set_option maxRecDepth 100000 in
set_option maxHeartbeats 8000000 in
theorem rmemb_any (l : List EV) (v : Value) (u : ByteArray) (B w : World) (hB : Below B.heap.size B w) (hl : EvsAt B v l) :
    Calls Tryz.prog 21 #[v, .string u] w fun r w' => r = .returned (.string (memb l u)) ∧ Below w.heap.size w w' := by
  have hc := Ctx.start w
  have kS : ∀ W, Below B.heap.size B W → Calls Tryz.prog 25 #[v, .string tM, .string u] W fun r w' => ∃ C, r = .returned (.tuple #[.agg C, .bool (std tM u l).isSome]) ∧ EC B (stdD l tM u) C ∧ Below W.heap.size W w' := fun W h => stands_any l v tM u B W h hl
  have kW := fun D (hD : LaidV B (stdD l tM u).con D) W h => rword_any (stdD l tM u).con D sMemb B W h hD
  rw [memb_eq]
  obtain ⟨⟨m, mi⟩, hm⟩ : ∃ p, wordR (stdD l tM u).con sMemb = p := ⟨_, rfl⟩
  rw [hm] at kW ⊢
  clear hm hl
  generalize (std tM u l).isSome = h at *
  generalize stdD l tM u = x at *
  cases h
  · show Calls Tryz.prog 21 #[v, .string u] w fun r w' => r = .returned (.string sLeave) ∧ Below w.heap.size w w'
    have z0 : True := trivial
    go_enter Tryz.func21, Tryz.ntmps21
    go_wp2_with (first
      | (have hq := z3; clear hq; go_at_call 49; refine (kw _ (hB.trans (hc.bel.mono hB.size))).mono ?_; rintro r wq ⟨rfl, hbq⟩; replace hc := hc.call hbq; clear kw; clear hbq; clear z3; have z4 : True := trivial)
      | (have hq := z2; clear hq; refine v_part rfl 26 (.tmp 16) rfl 0 D rfl hc rfl hin _ Tryz.underlying26 rfl (sz26 d6) ?_; clear z2; have z3 : True := trivial)
      | (have hq := z1; clear hq; refine v_decl rfl rfl 28 rfl (.tmp 5) (.tmp 13) rfl zE X z28 (fun _ => rfl) (fun _ => rfl) (by rw [x28]; rfl) (sz28 x28) x1 hc ?_; intro wq Nq hcq _; replace hc := hcq; clear hcq; clear z1; have z2 : True := trivial)
      | (have hq := z0; clear hq; go_at_call 25; refine (kS _ (hB.trans (hc.bel.mono hB.size))).mono ?_; rintro r wq ⟨X, rfl, hX, hbq⟩; replace hc := hc.call hbq; have x28 := hX.sz; have x1 := hX.one; obtain ⟨D, hD, hin⟩ := hX.con; have d6 := hD.vc.sz; have kw := kW D hD; clear hX hD kS; clear hbq; clear z0; have z1 : True := trivial))
    go_ret
    exact ⟨rfl, hc.bel⟩
  · cases mi
    · show Calls Tryz.prog 21 #[v, .string u] w fun r w' => r = .returned (.string sLeave) ∧ Below w.heap.size w w'
      have z0 : True := trivial
      go_enter Tryz.func21, Tryz.ntmps21
      go_wp2_with (first
        | (have hq := z3; clear hq; go_at_call 49; refine (kw _ (hB.trans (hc.bel.mono hB.size))).mono ?_; rintro r wq ⟨rfl, hbq⟩; replace hc := hc.call hbq; clear kw; clear hbq; clear z3; have z4 : True := trivial)
        | (have hq := z2; clear hq; refine v_part rfl 26 (.tmp 16) rfl 0 D rfl hc rfl hin _ Tryz.underlying26 rfl (sz26 d6) ?_; clear z2; have z3 : True := trivial)
        | (have hq := z1; clear hq; refine v_decl rfl rfl 28 rfl (.tmp 5) (.tmp 13) rfl zE X z28 (fun _ => rfl) (fun _ => rfl) (by rw [x28]; rfl) (sz28 x28) x1 hc ?_; intro wq Nq hcq _; replace hc := hcq; clear hcq; clear z1; have z2 : True := trivial)
        | (have hq := z0; clear hq; go_at_call 25; refine (kS _ (hB.trans (hc.bel.mono hB.size))).mono ?_; rintro r wq ⟨X, rfl, hX, hbq⟩; replace hc := hc.call hbq; have x28 := hX.sz; have x1 := hX.one; obtain ⟨D, hD, hin⟩ := hX.con; have d6 := hD.vc.sz; have kw := kW D hD; clear hX hD kS; clear hbq; clear z0; have z1 : True := trivial))
      go_ret
      exact ⟨rfl, hc.bel⟩
    · show Calls Tryz.prog 21 #[v, .string u] w fun r w' => r = .returned (.string m) ∧ Below w.heap.size w w'
      have z0 : True := trivial
      go_enter Tryz.func21, Tryz.ntmps21
      go_wp2_with (first
        | (have hq := z3; clear hq; go_at_call 49; refine (kw _ (hB.trans (hc.bel.mono hB.size))).mono ?_; rintro r wq ⟨rfl, hbq⟩; replace hc := hc.call hbq; clear kw; clear hbq; clear z3; have z4 : True := trivial)
        | (have hq := z2; clear hq; refine v_part rfl 26 (.tmp 16) rfl 0 D rfl hc rfl hin _ Tryz.underlying26 rfl (sz26 d6) ?_; clear z2; have z3 : True := trivial)
        | (have hq := z1; clear hq; refine v_decl rfl rfl 28 rfl (.tmp 5) (.tmp 13) rfl zE X z28 (fun _ => rfl) (fun _ => rfl) (by rw [x28]; rfl) (sz28 x28) x1 hc ?_; intro wq Nq hcq _; replace hc := hcq; clear hcq; clear z1; have z2 : True := trivial)
        | (have hq := z0; clear hq; go_at_call 25; refine (kS _ (hB.trans (hc.bel.mono hB.size))).mono ?_; rintro r wq ⟨X, rfl, hX, hbq⟩; replace hc := hc.call hbq; have x28 := hX.sz; have x1 := hX.one; obtain ⟨D, hD, hin⟩ := hX.con; have d6 := hD.vc.sz; have kw := kW D hD; clear hX hD kS; clear hbq; clear z0; have z1 : True := trivial))
      go_ret
      exact ⟨rfl, hc.bel⟩

set_option maxRecDepth 100000 in
set_option maxHeartbeats 8000000 in
theorem rlevelFor_any (l : List EV) (v : Value) (d : ByteArray) (B w : World) (hB : Below B.heap.size B w) (hl : EvsAt B v l) :
    Calls Tryz.prog 52 #[v, .string d] w fun r w' => r = .returned (.int .i64 (lvFor l d)) ∧ Below w.heap.size w w' := by
  have hc := Ctx.start w
  have kL : ∀ W, Below B.heap.size B W → Calls Tryz.prog 25 #[v, .string tL, .string s0] W fun r w' => ∃ C, r = .returned (.tuple #[.agg C, .bool (hasL l)]) ∧ EC B (stdD l tL s0) C ∧ Below W.heap.size W w' := fun W h => stands_any l v tL s0 B W h hl
  have kN := fun D (hD : LaidV B (stdD l tL s0).con D) W h => rnumber_any (lvls l) D d B W h hD
  have hz : hasL l = false → (num (lvls l) d).2 = false := fun h => by rw [lv_none h]; rfl
  have hq := beq_const d sInvite (l := [105, 110, 118, 105, 116, 101]) rfl
  unfold lvFor
  obtain ⟨⟨n, b⟩, hn⟩ : ∃ p, num (lvls l) d = p := ⟨_, rfl⟩
  rw [hn] at kN hz ⊢
  clear hn hl
  generalize hasL l = h at *
  generalize stdD l tL s0 = x at *
  cases b
  · by_cases hd : d = sInvite
    · rw [if_pos hd]
      rw [decide_eq_true hd] at hq
      clear hd hz
      cases h
      · show Calls Tryz.prog 52 #[v, .string d] w fun r w' => r = .returned (.int .i64 0) ∧ Below w.heap.size w w'
        have z0 : True := trivial
        go_enter Tryz.func52, Tryz.ntmps52
        go_wp2_with (first
          | (have hq := z3; clear hq; go_at_call 54; refine (kn _ (hB.trans (hc.bel.mono hB.size))).mono ?_; rintro r wq ⟨rfl, hbq⟩; replace hc := hc.call hbq; clear kn; clear hbq; clear z3; have z4 : True := trivial)
          | (have hq := z2; clear hq; refine v_part rfl 26 (.tmp 15) rfl 0 D rfl hc rfl hin _ Tryz.underlying26 rfl (sz26 d6) ?_; clear z2; have z3 : True := trivial)
          | (have hq := z1; clear hq; refine v_decl rfl rfl 28 rfl (.tmp 5) (.tmp 12) rfl zE X z28 (fun _ => rfl) (fun _ => rfl) (by rw [x28]; rfl) (sz28 x28) x1 hc ?_; intro wq Nq hcq _; replace hc := hcq; clear hcq; clear z1; have z2 : True := trivial)
          | (have hq := z0; clear hq; go_at_call 25; refine (kL _ (hB.trans (hc.bel.mono hB.size))).mono ?_; rintro r wq ⟨X, rfl, hX, hbq⟩; replace hc := hc.call hbq; have x28 := hX.sz; have x1 := hX.one; obtain ⟨D, hD, hin⟩ := hX.con; have d6 := hD.vc.sz; have kn := kN D hD; clear hX hD kL; clear hbq; clear z0; have z1 : True := trivial))
        go_ret
        exact ⟨rfl, hc.bel⟩
      · show Calls Tryz.prog 52 #[v, .string d] w fun r w' => r = .returned (.int .i64 0) ∧ Below w.heap.size w w'
        have z0 : True := trivial
        go_enter Tryz.func52, Tryz.ntmps52
        go_wp2_with (first
          | (have hq := z3; clear hq; go_at_call 54; refine (kn _ (hB.trans (hc.bel.mono hB.size))).mono ?_; rintro r wq ⟨rfl, hbq⟩; replace hc := hc.call hbq; clear kn; clear hbq; clear z3; have z4 : True := trivial)
          | (have hq := z2; clear hq; refine v_part rfl 26 (.tmp 15) rfl 0 D rfl hc rfl hin _ Tryz.underlying26 rfl (sz26 d6) ?_; clear z2; have z3 : True := trivial)
          | (have hq := z1; clear hq; refine v_decl rfl rfl 28 rfl (.tmp 5) (.tmp 12) rfl zE X z28 (fun _ => rfl) (fun _ => rfl) (by rw [x28]; rfl) (sz28 x28) x1 hc ?_; intro wq Nq hcq _; replace hc := hcq; clear hcq; clear z1; have z2 : True := trivial)
          | (have hq := z0; clear hq; go_at_call 25; refine (kL _ (hB.trans (hc.bel.mono hB.size))).mono ?_; rintro r wq ⟨X, rfl, hX, hbq⟩; replace hc := hc.call hbq; have x28 := hX.sz; have x1 := hX.one; obtain ⟨D, hD, hin⟩ := hX.con; have d6 := hD.vc.sz; have kn := kN D hD; clear hX hD kL; clear hbq; clear z0; have z1 : True := trivial))
        go_ret
        exact ⟨rfl, hc.bel⟩
    · rw [if_neg hd]
      rw [decide_eq_false hd] at hq
      clear hd hz
      cases h
      · show Calls Tryz.prog 52 #[v, .string d] w fun r w' => r = .returned (.int .i64 50) ∧ Below w.heap.size w w'
        have z0 : True := trivial
        go_enter Tryz.func52, Tryz.ntmps52
        go_wp2_with (first
          | (have hq := z3; clear hq; go_at_call 54; refine (kn _ (hB.trans (hc.bel.mono hB.size))).mono ?_; rintro r wq ⟨rfl, hbq⟩; replace hc := hc.call hbq; clear kn; clear hbq; clear z3; have z4 : True := trivial)
          | (have hq := z2; clear hq; refine v_part rfl 26 (.tmp 15) rfl 0 D rfl hc rfl hin _ Tryz.underlying26 rfl (sz26 d6) ?_; clear z2; have z3 : True := trivial)
          | (have hq := z1; clear hq; refine v_decl rfl rfl 28 rfl (.tmp 5) (.tmp 12) rfl zE X z28 (fun _ => rfl) (fun _ => rfl) (by rw [x28]; rfl) (sz28 x28) x1 hc ?_; intro wq Nq hcq _; replace hc := hcq; clear hcq; clear z1; have z2 : True := trivial)
          | (have hq := z0; clear hq; go_at_call 25; refine (kL _ (hB.trans (hc.bel.mono hB.size))).mono ?_; rintro r wq ⟨X, rfl, hX, hbq⟩; replace hc := hc.call hbq; have x28 := hX.sz; have x1 := hX.one; obtain ⟨D, hD, hin⟩ := hX.con; have d6 := hD.vc.sz; have kn := kN D hD; clear hX hD kL; clear hbq; clear z0; have z1 : True := trivial))
        go_ret
        exact ⟨rfl, hc.bel⟩
      · show Calls Tryz.prog 52 #[v, .string d] w fun r w' => r = .returned (.int .i64 50) ∧ Below w.heap.size w w'
        have z0 : True := trivial
        go_enter Tryz.func52, Tryz.ntmps52
        go_wp2_with (first
          | (have hq := z3; clear hq; go_at_call 54; refine (kn _ (hB.trans (hc.bel.mono hB.size))).mono ?_; rintro r wq ⟨rfl, hbq⟩; replace hc := hc.call hbq; clear kn; clear hbq; clear z3; have z4 : True := trivial)
          | (have hq := z2; clear hq; refine v_part rfl 26 (.tmp 15) rfl 0 D rfl hc rfl hin _ Tryz.underlying26 rfl (sz26 d6) ?_; clear z2; have z3 : True := trivial)
          | (have hq := z1; clear hq; refine v_decl rfl rfl 28 rfl (.tmp 5) (.tmp 12) rfl zE X z28 (fun _ => rfl) (fun _ => rfl) (by rw [x28]; rfl) (sz28 x28) x1 hc ?_; intro wq Nq hcq _; replace hc := hcq; clear hcq; clear z1; have z2 : True := trivial)
          | (have hq := z0; clear hq; go_at_call 25; refine (kL _ (hB.trans (hc.bel.mono hB.size))).mono ?_; rintro r wq ⟨X, rfl, hX, hbq⟩; replace hc := hc.call hbq; have x28 := hX.sz; have x1 := hX.one; obtain ⟨D, hD, hin⟩ := hX.con; have d6 := hD.vc.sz; have kn := kN D hD; clear hX hD kL; clear hbq; clear z0; have z1 : True := trivial))
        go_ret
        exact ⟨rfl, hc.bel⟩
  · cases h
    · cases hz rfl
    · show Calls Tryz.prog 52 #[v, .string d] w fun r w' => r = .returned (.int .i64 n) ∧ Below w.heap.size w w'
      have z0 : True := trivial
      go_enter Tryz.func52, Tryz.ntmps52
      go_wp2_with (first
        | (have hq := z3; clear hq; go_at_call 54; refine (kn _ (hB.trans (hc.bel.mono hB.size))).mono ?_; rintro r wq ⟨rfl, hbq⟩; replace hc := hc.call hbq; clear kn; clear hbq; clear z3; have z4 : True := trivial)
        | (have hq := z2; clear hq; refine v_part rfl 26 (.tmp 15) rfl 0 D rfl hc rfl hin _ Tryz.underlying26 rfl (sz26 d6) ?_; clear z2; have z3 : True := trivial)
        | (have hq := z1; clear hq; refine v_decl rfl rfl 28 rfl (.tmp 5) (.tmp 12) rfl zE X z28 (fun _ => rfl) (fun _ => rfl) (by rw [x28]; rfl) (sz28 x28) x1 hc ?_; intro wq Nq hcq _; replace hc := hcq; clear hcq; clear z1; have z2 : True := trivial)
        | (have hq := z0; clear hq; go_at_call 25; refine (kL _ (hB.trans (hc.bel.mono hB.size))).mono ?_; rintro r wq ⟨X, rfl, hX, hbq⟩; replace hc := hc.call hbq; have x28 := hX.sz; have x1 := hX.one; obtain ⟨D, hD, hin⟩ := hX.con; have d6 := hD.vc.sz; have kn := kN D hD; clear hX hD kL; clear hbq; clear z0; have z1 : True := trivial))
      go_ret
      exact ⟨rfl, hc.bel⟩

set_option maxRecDepth 100000 in
set_option maxHeartbeats 8000000 in
theorem rlevelOf_any (l : List EV) (v : Value) (e : EV) (C : Array Value) (B w : World) (hB : Below B.heap.size B w) (hl : EvsAt B v l) (he : EC B e C) :
    Calls Tryz.prog 22 #[v, .agg C] w fun r w' => r = .returned (.int .i64 (lvOf l e)) ∧ Below w.heap.size w w' := by
  have hc := Ctx.start w
  have e1 := he.i1
  have e4 := he.i4
  clear he
  have kL : ∀ W, Below B.heap.size B W → Calls Tryz.prog 25 #[v, .string tL, .string s0] W fun r w' => ∃ C, r = .returned (.tuple #[.agg C, .bool (hasL l)]) ∧ EC B (stdD l tL s0) C ∧ Below W.heap.size W w' := fun W h => stands_any l v tL s0 B W h hl
  have kF : ∀ D, LaidV B (stdD l tL s0).con D → ∀ W, Below B.heap.size B W → Calls Tryz.prog 53 #[.agg D, .string sEvents] W fun e w' => ∃ E, e = .returned (.tuple #[.agg E, .bool (fld (lvls l) sEvents).isSome]) ∧ LaidV B (fldD (lvls l) sEvents) E ∧ Below W.heap.size W w' := fun D hD W h => rfield_any (lvls l) D sEvents B W h hD
  have kT := fun U (hU : LaidV B (fldD (lvls l) sEvents) U) W h => rnumber_any (fldD (lvls l) sEvents) U e.ty B W h hU
  have kN := fun D (hD : LaidV B (stdD l tL s0).con D) W h => rnumber_any (lvls l) D (if e.hk then sSD else sED) B W h hD
  unfold lvOf
  obtain ⟨⟨n, b⟩, hn⟩ : ∃ p, num (fldD (lvls l) sEvents) e.ty = p := ⟨_, rfl⟩
  rw [hn] at kT ⊢
  clear hn hl
  generalize e.ty = ty at *
  generalize e.hk = hk at *
  generalize hasL l = h at *
  generalize fldD (lvls l) sEvents = fe at *
  generalize fld (lvls l) sEvents = fo at *
  generalize stdD l tL s0 = x at *
  cases h
  · show Calls Tryz.prog 22 #[v, .agg C] w fun r w' => r = .returned (.int .i64 0) ∧ Below w.heap.size w w'
    have z0 : True := trivial
    go_enter Tryz.func22, Tryz.ntmps22
    go_wp2_with (first
      | (have hq := z2; clear hq; refine v_decl rfl rfl 28 rfl (.tmp 5) (.tmp 16) rfl zE X z28 (fun _ => rfl) (fun _ => rfl) (by rw [x28]; rfl) (sz28 x28) x1 hc ?_; intro wq Nq hcq _; replace hc := hcq; clear hcq; clear z2; have z3 : True := trivial)
      | (have hq := z1; clear hq; go_at_call 25; refine (kL _ (hB.trans (hc.bel.mono hB.size))).mono ?_; rintro r wq ⟨X, rfl, hX, hbq⟩; replace hc := hc.call hbq; have x28 := hX.sz; have x1 := hX.one; obtain ⟨D, hD, hin⟩ := hX.con; have d6 := hD.vc.sz; have kf := kF D hD; have kn := kN D hD; clear hX hD kL kF kN; clear hbq; clear z1; have z2 : True := trivial)
      | (have hq := z0; clear hq; refine v_box rfl 28 (.tmp 1) rfl C rfl hc ?_; intro wq Nq hcq _; replace hc := hcq; have e_1 := hc.cell 0 rfl 1 e1; have e_4 := hc.cell 0 rfl 4 e4; clear hcq; clear z0; have z1 : True := trivial))
    go_ret
    exact ⟨rfl, hc.bel⟩
  · cases b
    · cases hk
      · obtain ⟨⟨m, c⟩, hm⟩ : ∃ p, num (lvls l) sED = p := ⟨_, rfl⟩
        simp only [Bool.false_eq_true, if_false, hm] at kN ⊢
        clear hm
        cases c
        · show Calls Tryz.prog 22 #[v, .agg C] w fun r w' => r = .returned (.int .i64 0) ∧ Below w.heap.size w w'
          have z0 : True := trivial
          go_enter Tryz.func22, Tryz.ntmps22
          go_wp2_with (first
            | (have hq := z9; clear hq; go_at_call 54; refine (kn _ (hB.trans (hc.bel.mono hB.size))).mono ?_; rintro r wq ⟨rfl, hbq⟩; replace hc := hc.call hbq; clear kn; clear hbq; clear z9; have z10 : True := trivial)
            | (have hq := z8; clear hq; refine v_part rfl 26 (.tmp 38) rfl 1 D rfl hc rfl hin _ Tryz.underlying26 rfl (sz26 d6) ?_; clear z8; have z9 : True := trivial)
            | (have hq := z7; clear hq; go_at_call 54; refine (kt _ (hB.trans (hc.bel.mono hB.size))).mono ?_; rintro r wq ⟨rfl, hbq⟩; replace hc := hc.call hbq; have e_4 := hc.cell 2 rfl 4 e4; clear kt; clear hbq; clear z7; have z8 : True := trivial)
            | (have hq := z6; clear hq; refine v_load rfl 26 (.tmp 7) rfl 0 rfl hc rfl _ Tryz.underlying26 rfl (sz26 u6) ?_; clear z6; have z7 : True := trivial)
            | (have hq := z5; clear hq; refine v_decl rfl rfl 26 rfl (.tmp 7) (.tmp 24) rfl zV U z26 (fun _ => rfl) (fun _ => rfl) (by rw [u6]; rfl) (sz26 u6) u1 hc ?_; intro wq Nq hcq _; replace hc := hcq; have e_1 := hc.cell 2 rfl 1 e1; clear hcq; clear z5; have z6 : True := trivial)
            | (have hq := z4; clear hq; go_at_call 53; refine (kf _ (hB.trans (hc.bel.mono hB.size))).mono ?_; rintro r wq ⟨U, rfl, hU, hbq⟩; replace hc := hc.call hbq; have u6 := hU.vc.sz; have u1 := hU.vc.one; have kt := kT U hU; clear kf hU kT; clear hbq; clear z4; have z5 : True := trivial)
            | (have hq := z3; clear hq; refine v_part rfl 26 (.tmp 21) rfl 0 D rfl hc rfl hin _ Tryz.underlying26 rfl (sz26 d6) ?_; clear z3; have z4 : True := trivial)
            | (have hq := z2; clear hq; refine v_decl rfl rfl 28 rfl (.tmp 5) (.tmp 16) rfl zE X z28 (fun _ => rfl) (fun _ => rfl) (by rw [x28]; rfl) (sz28 x28) x1 hc ?_; intro wq Nq hcq _; replace hc := hcq; clear hcq; clear z2; have z3 : True := trivial)
            | (have hq := z1; clear hq; go_at_call 25; refine (kL _ (hB.trans (hc.bel.mono hB.size))).mono ?_; rintro r wq ⟨X, rfl, hX, hbq⟩; replace hc := hc.call hbq; have x28 := hX.sz; have x1 := hX.one; obtain ⟨D, hD, hin⟩ := hX.con; have d6 := hD.vc.sz; have kf := kF D hD; have kn := kN D hD; clear hX hD kL kF kN; clear hbq; clear z1; have z2 : True := trivial)
            | (have hq := z0; clear hq; refine v_box rfl 28 (.tmp 1) rfl C rfl hc ?_; intro wq Nq hcq _; replace hc := hcq; have e_1 := hc.cell 0 rfl 1 e1; have e_4 := hc.cell 0 rfl 4 e4; clear hcq; clear z0; have z1 : True := trivial))
          go_ret
          exact ⟨rfl, hc.bel⟩
        · show Calls Tryz.prog 22 #[v, .agg C] w fun r w' => r = .returned (.int .i64 m) ∧ Below w.heap.size w w'
          have z0 : True := trivial
          go_enter Tryz.func22, Tryz.ntmps22
          go_wp2_with (first
            | (have hq := z9; clear hq; go_at_call 54; refine (kn _ (hB.trans (hc.bel.mono hB.size))).mono ?_; rintro r wq ⟨rfl, hbq⟩; replace hc := hc.call hbq; clear kn; clear hbq; clear z9; have z10 : True := trivial)
            | (have hq := z8; clear hq; refine v_part rfl 26 (.tmp 38) rfl 1 D rfl hc rfl hin _ Tryz.underlying26 rfl (sz26 d6) ?_; clear z8; have z9 : True := trivial)
            | (have hq := z7; clear hq; go_at_call 54; refine (kt _ (hB.trans (hc.bel.mono hB.size))).mono ?_; rintro r wq ⟨rfl, hbq⟩; replace hc := hc.call hbq; have e_4 := hc.cell 2 rfl 4 e4; clear kt; clear hbq; clear z7; have z8 : True := trivial)
            | (have hq := z6; clear hq; refine v_load rfl 26 (.tmp 7) rfl 0 rfl hc rfl _ Tryz.underlying26 rfl (sz26 u6) ?_; clear z6; have z7 : True := trivial)
            | (have hq := z5; clear hq; refine v_decl rfl rfl 26 rfl (.tmp 7) (.tmp 24) rfl zV U z26 (fun _ => rfl) (fun _ => rfl) (by rw [u6]; rfl) (sz26 u6) u1 hc ?_; intro wq Nq hcq _; replace hc := hcq; have e_1 := hc.cell 2 rfl 1 e1; clear hcq; clear z5; have z6 : True := trivial)
            | (have hq := z4; clear hq; go_at_call 53; refine (kf _ (hB.trans (hc.bel.mono hB.size))).mono ?_; rintro r wq ⟨U, rfl, hU, hbq⟩; replace hc := hc.call hbq; have u6 := hU.vc.sz; have u1 := hU.vc.one; have kt := kT U hU; clear kf hU kT; clear hbq; clear z4; have z5 : True := trivial)
            | (have hq := z3; clear hq; refine v_part rfl 26 (.tmp 21) rfl 0 D rfl hc rfl hin _ Tryz.underlying26 rfl (sz26 d6) ?_; clear z3; have z4 : True := trivial)
            | (have hq := z2; clear hq; refine v_decl rfl rfl 28 rfl (.tmp 5) (.tmp 16) rfl zE X z28 (fun _ => rfl) (fun _ => rfl) (by rw [x28]; rfl) (sz28 x28) x1 hc ?_; intro wq Nq hcq _; replace hc := hcq; clear hcq; clear z2; have z3 : True := trivial)
            | (have hq := z1; clear hq; go_at_call 25; refine (kL _ (hB.trans (hc.bel.mono hB.size))).mono ?_; rintro r wq ⟨X, rfl, hX, hbq⟩; replace hc := hc.call hbq; have x28 := hX.sz; have x1 := hX.one; obtain ⟨D, hD, hin⟩ := hX.con; have d6 := hD.vc.sz; have kf := kF D hD; have kn := kN D hD; clear hX hD kL kF kN; clear hbq; clear z1; have z2 : True := trivial)
            | (have hq := z0; clear hq; refine v_box rfl 28 (.tmp 1) rfl C rfl hc ?_; intro wq Nq hcq _; replace hc := hcq; have e_1 := hc.cell 0 rfl 1 e1; have e_4 := hc.cell 0 rfl 4 e4; clear hcq; clear z0; have z1 : True := trivial))
          go_ret
          exact ⟨rfl, hc.bel⟩
      · obtain ⟨⟨m, c⟩, hm⟩ : ∃ p, num (lvls l) sSD = p := ⟨_, rfl⟩
        simp only [if_true, hm] at kN ⊢
        clear hm
        cases c
        · show Calls Tryz.prog 22 #[v, .agg C] w fun r w' => r = .returned (.int .i64 50) ∧ Below w.heap.size w w'
          have z0 : True := trivial
          go_enter Tryz.func22, Tryz.ntmps22
          go_wp2_with (first
            | (have hq := z9; clear hq; go_at_call 54; refine (kn _ (hB.trans (hc.bel.mono hB.size))).mono ?_; rintro r wq ⟨rfl, hbq⟩; replace hc := hc.call hbq; clear kn; clear hbq; clear z9; have z10 : True := trivial)
            | (have hq := z8; clear hq; refine v_part rfl 26 (.tmp 38) rfl 1 D rfl hc rfl hin _ Tryz.underlying26 rfl (sz26 d6) ?_; clear z8; have z9 : True := trivial)
            | (have hq := z7; clear hq; go_at_call 54; refine (kt _ (hB.trans (hc.bel.mono hB.size))).mono ?_; rintro r wq ⟨rfl, hbq⟩; replace hc := hc.call hbq; have e_4 := hc.cell 2 rfl 4 e4; clear kt; clear hbq; clear z7; have z8 : True := trivial)
            | (have hq := z6; clear hq; refine v_load rfl 26 (.tmp 7) rfl 0 rfl hc rfl _ Tryz.underlying26 rfl (sz26 u6) ?_; clear z6; have z7 : True := trivial)
            | (have hq := z5; clear hq; refine v_decl rfl rfl 26 rfl (.tmp 7) (.tmp 24) rfl zV U z26 (fun _ => rfl) (fun _ => rfl) (by rw [u6]; rfl) (sz26 u6) u1 hc ?_; intro wq Nq hcq _; replace hc := hcq; have e_1 := hc.cell 2 rfl 1 e1; clear hcq; clear z5; have z6 : True := trivial)
            | (have hq := z4; clear hq; go_at_call 53; refine (kf _ (hB.trans (hc.bel.mono hB.size))).mono ?_; rintro r wq ⟨U, rfl, hU, hbq⟩; replace hc := hc.call hbq; have u6 := hU.vc.sz; have u1 := hU.vc.one; have kt := kT U hU; clear kf hU kT; clear hbq; clear z4; have z5 : True := trivial)
            | (have hq := z3; clear hq; refine v_part rfl 26 (.tmp 21) rfl 0 D rfl hc rfl hin _ Tryz.underlying26 rfl (sz26 d6) ?_; clear z3; have z4 : True := trivial)
            | (have hq := z2; clear hq; refine v_decl rfl rfl 28 rfl (.tmp 5) (.tmp 16) rfl zE X z28 (fun _ => rfl) (fun _ => rfl) (by rw [x28]; rfl) (sz28 x28) x1 hc ?_; intro wq Nq hcq _; replace hc := hcq; clear hcq; clear z2; have z3 : True := trivial)
            | (have hq := z1; clear hq; go_at_call 25; refine (kL _ (hB.trans (hc.bel.mono hB.size))).mono ?_; rintro r wq ⟨X, rfl, hX, hbq⟩; replace hc := hc.call hbq; have x28 := hX.sz; have x1 := hX.one; obtain ⟨D, hD, hin⟩ := hX.con; have d6 := hD.vc.sz; have kf := kF D hD; have kn := kN D hD; clear hX hD kL kF kN; clear hbq; clear z1; have z2 : True := trivial)
            | (have hq := z0; clear hq; refine v_box rfl 28 (.tmp 1) rfl C rfl hc ?_; intro wq Nq hcq _; replace hc := hcq; have e_1 := hc.cell 0 rfl 1 e1; have e_4 := hc.cell 0 rfl 4 e4; clear hcq; clear z0; have z1 : True := trivial))
          go_ret
          exact ⟨rfl, hc.bel⟩
        · show Calls Tryz.prog 22 #[v, .agg C] w fun r w' => r = .returned (.int .i64 m) ∧ Below w.heap.size w w'
          have z0 : True := trivial
          go_enter Tryz.func22, Tryz.ntmps22
          go_wp2_with (first
            | (have hq := z9; clear hq; go_at_call 54; refine (kn _ (hB.trans (hc.bel.mono hB.size))).mono ?_; rintro r wq ⟨rfl, hbq⟩; replace hc := hc.call hbq; clear kn; clear hbq; clear z9; have z10 : True := trivial)
            | (have hq := z8; clear hq; refine v_part rfl 26 (.tmp 38) rfl 1 D rfl hc rfl hin _ Tryz.underlying26 rfl (sz26 d6) ?_; clear z8; have z9 : True := trivial)
            | (have hq := z7; clear hq; go_at_call 54; refine (kt _ (hB.trans (hc.bel.mono hB.size))).mono ?_; rintro r wq ⟨rfl, hbq⟩; replace hc := hc.call hbq; have e_4 := hc.cell 2 rfl 4 e4; clear kt; clear hbq; clear z7; have z8 : True := trivial)
            | (have hq := z6; clear hq; refine v_load rfl 26 (.tmp 7) rfl 0 rfl hc rfl _ Tryz.underlying26 rfl (sz26 u6) ?_; clear z6; have z7 : True := trivial)
            | (have hq := z5; clear hq; refine v_decl rfl rfl 26 rfl (.tmp 7) (.tmp 24) rfl zV U z26 (fun _ => rfl) (fun _ => rfl) (by rw [u6]; rfl) (sz26 u6) u1 hc ?_; intro wq Nq hcq _; replace hc := hcq; have e_1 := hc.cell 2 rfl 1 e1; clear hcq; clear z5; have z6 : True := trivial)
            | (have hq := z4; clear hq; go_at_call 53; refine (kf _ (hB.trans (hc.bel.mono hB.size))).mono ?_; rintro r wq ⟨U, rfl, hU, hbq⟩; replace hc := hc.call hbq; have u6 := hU.vc.sz; have u1 := hU.vc.one; have kt := kT U hU; clear kf hU kT; clear hbq; clear z4; have z5 : True := trivial)
            | (have hq := z3; clear hq; refine v_part rfl 26 (.tmp 21) rfl 0 D rfl hc rfl hin _ Tryz.underlying26 rfl (sz26 d6) ?_; clear z3; have z4 : True := trivial)
            | (have hq := z2; clear hq; refine v_decl rfl rfl 28 rfl (.tmp 5) (.tmp 16) rfl zE X z28 (fun _ => rfl) (fun _ => rfl) (by rw [x28]; rfl) (sz28 x28) x1 hc ?_; intro wq Nq hcq _; replace hc := hcq; clear hcq; clear z2; have z3 : True := trivial)
            | (have hq := z1; clear hq; go_at_call 25; refine (kL _ (hB.trans (hc.bel.mono hB.size))).mono ?_; rintro r wq ⟨X, rfl, hX, hbq⟩; replace hc := hc.call hbq; have x28 := hX.sz; have x1 := hX.one; obtain ⟨D, hD, hin⟩ := hX.con; have d6 := hD.vc.sz; have kf := kF D hD; have kn := kN D hD; clear hX hD kL kF kN; clear hbq; clear z1; have z2 : True := trivial)
            | (have hq := z0; clear hq; refine v_box rfl 28 (.tmp 1) rfl C rfl hc ?_; intro wq Nq hcq _; replace hc := hcq; have e_1 := hc.cell 0 rfl 1 e1; have e_4 := hc.cell 0 rfl 4 e4; clear hcq; clear z0; have z1 : True := trivial))
          go_ret
          exact ⟨rfl, hc.bel⟩
    · show Calls Tryz.prog 22 #[v, .agg C] w fun r w' => r = .returned (.int .i64 n) ∧ Below w.heap.size w w'
      have z0 : True := trivial
      go_enter Tryz.func22, Tryz.ntmps22
      go_wp2_with (first
        | (have hq := z7; clear hq; go_at_call 54; refine (kt _ (hB.trans (hc.bel.mono hB.size))).mono ?_; rintro r wq ⟨rfl, hbq⟩; replace hc := hc.call hbq; have e_4 := hc.cell 2 rfl 4 e4; clear kt; clear hbq; clear z7; have z8 : True := trivial)
        | (have hq := z6; clear hq; refine v_load rfl 26 (.tmp 7) rfl 0 rfl hc rfl _ Tryz.underlying26 rfl (sz26 u6) ?_; clear z6; have z7 : True := trivial)
        | (have hq := z5; clear hq; refine v_decl rfl rfl 26 rfl (.tmp 7) (.tmp 24) rfl zV U z26 (fun _ => rfl) (fun _ => rfl) (by rw [u6]; rfl) (sz26 u6) u1 hc ?_; intro wq Nq hcq _; replace hc := hcq; have e_1 := hc.cell 2 rfl 1 e1; clear hcq; clear z5; have z6 : True := trivial)
        | (have hq := z4; clear hq; go_at_call 53; refine (kf _ (hB.trans (hc.bel.mono hB.size))).mono ?_; rintro r wq ⟨U, rfl, hU, hbq⟩; replace hc := hc.call hbq; have u6 := hU.vc.sz; have u1 := hU.vc.one; have kt := kT U hU; clear kf hU kT; clear hbq; clear z4; have z5 : True := trivial)
        | (have hq := z3; clear hq; refine v_part rfl 26 (.tmp 21) rfl 0 D rfl hc rfl hin _ Tryz.underlying26 rfl (sz26 d6) ?_; clear z3; have z4 : True := trivial)
        | (have hq := z2; clear hq; refine v_decl rfl rfl 28 rfl (.tmp 5) (.tmp 16) rfl zE X z28 (fun _ => rfl) (fun _ => rfl) (by rw [x28]; rfl) (sz28 x28) x1 hc ?_; intro wq Nq hcq _; replace hc := hcq; clear hcq; clear z2; have z3 : True := trivial)
        | (have hq := z1; clear hq; go_at_call 25; refine (kL _ (hB.trans (hc.bel.mono hB.size))).mono ?_; rintro r wq ⟨X, rfl, hX, hbq⟩; replace hc := hc.call hbq; have x28 := hX.sz; have x1 := hX.one; obtain ⟨D, hD, hin⟩ := hX.con; have d6 := hD.vc.sz; have kf := kF D hD; have kn := kN D hD; clear hX hD kL kF kN; clear hbq; clear z1; have z2 : True := trivial)
        | (have hq := z0; clear hq; refine v_box rfl 28 (.tmp 1) rfl C rfl hc ?_; intro wq Nq hcq _; replace hc := hcq; have e_1 := hc.cell 0 rfl 1 e1; have e_4 := hc.cell 0 rfl 4 e4; clear hcq; clear z0; have z1 : True := trivial))
      go_ret
      exact ⟨rfl, hc.bel⟩

set_option maxRecDepth 100000 in
set_option maxHeartbeats 8000000 in
theorem ruleless_any (j : EV) (C : Array Value) (rule : ByteArray) (B w : World) (hB : Below B.heap.size B w) (he : EC B j C) :
    Calls Tryz.prog 51 #[.agg C, .string rule] w fun r w' => r = .returned (.int .i64 (if (wordR j.con sRule).2 then (if rule = s0 then 23 else 0) else 0)) ∧ Below w.heap.size w w' := by
  have hc := Ctx.start w
  obtain ⟨D, hD, hin⟩ := he.con
  have d6 := hD.vc.sz
  have kw := fun W h => rword_any j.con D sRule B W h hD
  have hq := beq_const rule s0 (l := []) rfl
  clear he hD
  obtain ⟨⟨m, mi⟩, hm⟩ : ∃ p, wordR j.con sRule = p := ⟨_, rfl⟩
  rw [hm] at kw ⊢
  clear hm
  by_cases hr : rule = s0
  · rw [if_pos hr]
    rw [decide_eq_true hr] at hq
    clear hr
    cases mi
    all_goals
      have z0 : True := trivial
      go_enter Tryz.func51, Tryz.ntmps51
      go_wp2_with (first
        | (have hq := z2; clear hq; go_at_call 49; refine (kw _ (hB.trans (hc.bel.mono hB.size))).mono ?_; rintro r wq ⟨rfl, hbq⟩; replace hc := hc.call hbq; clear kw; clear hbq; clear z2; have z3 : True := trivial)
        | (have hq := z1; clear hq; refine v_part rfl 26 (.tmp 8) rfl 0 D rfl hc rfl hin _ Tryz.underlying26 rfl (sz26 d6) ?_; clear z1; have z2 : True := trivial)
        | (have hq := z0; clear hq; refine v_box rfl 28 (.tmp 0) rfl C rfl hc ?_; intro wq Nq hcq _; replace hc := hcq; clear hcq; clear z0; have z1 : True := trivial))
      go_ret
      exact ⟨rfl, hc.bel⟩
  · rw [if_neg hr]
    rw [decide_eq_false hr] at hq
    clear hr
    cases mi
    all_goals
      have z0 : True := trivial
      go_enter Tryz.func51, Tryz.ntmps51
      go_wp2_with (first
        | (have hq := z2; clear hq; go_at_call 49; refine (kw _ (hB.trans (hc.bel.mono hB.size))).mono ?_; rintro r wq ⟨rfl, hbq⟩; replace hc := hc.call hbq; clear kw; clear hbq; clear z2; have z3 : True := trivial)
        | (have hq := z1; clear hq; refine v_part rfl 26 (.tmp 8) rfl 0 D rfl hc rfl hin _ Tryz.underlying26 rfl (sz26 d6) ?_; clear z1; have z2 : True := trivial)
        | (have hq := z0; clear hq; refine v_box rfl 28 (.tmp 0) rfl C rfl hc ?_; intro wq Nq hcq _; replace hc := hcq; clear hcq; clear z0; have z1 : True := trivial))
      go_ret
      exact ⟨rfl, hc.bel⟩

theorem byR_cases (l pn qn : Int) (pb qb : Bool) : byR l (pn, pb) (qn, qb) = (!(decide (pn = qn) && decide (pb = qb)) && ((pb && decide (l < pn)) || (qb && decide (l < qn)))) := by
  have : decide (((pn, pb) : Int × Bool) = (qn, qb)) = (decide (pn = qn) && decide (pb = qb)) := by
    rw [Bool.eq_iff_iff]
    simp
  unfold byR abv
  rw [this]
set_option maxRecDepth 100000 in
set_option maxHeartbeats 8000000 in
theorem rbeyond_any (a b : GV) (D1 D2 : Array Value) (nm : ByteArray) (lv : Int) (B w : World) (hB : Below B.heap.size B w) (h1 : LaidV B a D1) (h2 : LaidV B b D2) :
    Calls Tryz.prog 57 #[.agg D1, .agg D2, .string nm, .int .i64 lv] w fun r w' => r = .returned (.bool (byR lv (num a nm) (num b nm))) ∧ Below w.heap.size w w' := by
  have hc := Ctx.start w
  have k1 := fun W h => rnumber_any a D1 nm B W h h1
  have k2 := fun W h => rnumber_any b D2 nm B W h h2
  have d1 := h1.vc.sz
  have d2 := h2.vc.sz
  clear h1 h2
  obtain ⟨⟨pn, pb⟩, hp⟩ : ∃ p, num a nm = p := ⟨_, rfl⟩
  obtain ⟨⟨qn, qb⟩, hq⟩ : ∃ p, num b nm = p := ⟨_, rfl⟩
  rw [hp] at k1 ⊢
  rw [hq] at k2 ⊢
  clear hp hq
  rw [byR_cases]
  obtain ⟨b0, h0⟩ : ∃ b, decide (pn = qn) = b := ⟨_, rfl⟩
  obtain ⟨b1, h1⟩ : ∃ b, decide (lv < pn) = b := ⟨_, rfl⟩
  obtain ⟨b2, h2⟩ : ∃ b, decide (lv < qn) = b := ⟨_, rfl⟩
  have h0' : (pn == qn) = b0 := h0
  rw [h0, h1, h2]
  cases b0 <;> cases b1 <;> cases b2 <;> cases pb <;> cases qb
  all_goals
    have z0 : True := trivial
    go_enter Tryz.func57, Tryz.ntmps57
    go_wp2_with (first
      | (have hq := z5; clear hq; go_at_call 54; refine (k2 _ (hB.trans (hc.bel.mono hB.size))).mono ?_; rintro r wq ⟨rfl, hbq⟩; replace hc := hc.call hbq; clear k2; clear hbq; clear z5; have z6 : True := trivial)
      | (have hq := z4; clear hq; refine v_load rfl 26 (.tmp 5) rfl 0 rfl hc rfl _ Tryz.underlying26 rfl (sz26 d2) ?_; clear z4; have z5 : True := trivial)
      | (have hq := z3; clear hq; go_at_call 54; refine (k1 _ (hB.trans (hc.bel.mono hB.size))).mono ?_; rintro r wq ⟨rfl, hbq⟩; replace hc := hc.call hbq; clear k1; clear hbq; clear z3; have z4 : True := trivial)
      | (have hq := z2; clear hq; refine v_load rfl 26 (.tmp 4) rfl 1 rfl hc rfl _ Tryz.underlying26 rfl (sz26 d1) ?_; clear z2; have z3 : True := trivial)
      | (have hq := z1; clear hq; refine v_box rfl 26 (.tmp 1) rfl D2 rfl hc ?_; intro wq Nq hcq _; replace hc := hcq; clear hcq; clear z1; have z2 : True := trivial)
      | (have hq := z0; clear hq; refine v_box rfl 26 (.tmp 0) rfl D1 rfl hc ?_; intro wq Nq hcq _; replace hc := hcq; clear hcq; clear z0; have z1 : True := trivial))
    go_ret
    exact ⟨rfl, hc.bel⟩

end Go.Proofs.YthplcnbfpcndbaaGreatDoor

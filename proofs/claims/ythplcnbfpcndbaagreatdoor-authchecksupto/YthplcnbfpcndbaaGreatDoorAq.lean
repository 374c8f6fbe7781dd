/- The reference's Level; the walk of AuthLevels. -/
import Derived.Test.YthplcnbfpcndbaaGreatDoorAp
namespace Go.Proofs.YthplcnbfpcndbaaGreatDoor
open Go.RowKit

theorem num_zero (nm : ByteArray) : num GV.zero nm = (0, false) := rfl
theorem fldD_zero (nm : ByteArray) : fldD GV.zero nm = GV.zero := rfl
theorem level_none {l : List EV} (h : hasL l = false) (u : ByteArray) : level l u = if isCr l u then 100 else 0 := by
  unfold level
  have hz : lvls l = GV.zero := by
    unfold hasL at h
    have h' : std tL s0 l = none := by simpa using h
    rw [lvls, stdD, h']
    rfl
  rw [h, hz, fldD_zero, num_zero, num_zero]
  rfl
theorem level_some {l : List EV} (h : hasL l = true) (u : ByteArray) : level l u = if (num (fldD (lvls l) sUsers) u).2 then (num (fldD (lvls l) sUsers) u).1 else if (num (lvls l) sUD).2 then (num (lvls l) sUD).1 else 0 := by
  unfold level
  rw [h]
  rfl

set_option maxRecDepth 100000 in
set_option maxHeartbeats 8000000 in
theorem rlevel_any (l : List EV) (v : Value) (u : ByteArray) (B w : World) (hB : Below B.heap.size B w) (hl : EvsAt B v l) :
    Calls Tryz.prog 20 #[.string u, v] w fun e w' => e = .returned (.int .i64 (level l u)) ∧ Below w.heap.size w w' := by
  have hc := Ctx.start w
  have f0 : True := trivial
  have kL : ∀ W, Below B.heap.size B W → Calls Tryz.prog 25 #[v, .string tL, .string s0] W fun r w' => ∃ E, r = .returned (.tuple #[.agg E, .bool (hasL l)]) ∧ EC B (stdD l tL s0) E ∧ Below W.heap.size W w' := fun W h => stands_any l v tL s0 B W h hl
  have kC : ∀ W, Below B.heap.size B W → Calls Tryz.prog 25 #[v, .string tC, .string s0] W fun r w' => ∃ E, r = .returned (.tuple #[.agg E, .bool (std tC s0 l).isSome]) ∧ EC B (stdD l tC s0) E ∧ Below W.heap.size W w' := fun W h => stands_any l v tC s0 B W h hl
  clear hl
  cases hh : hasL l
  · rw [level_none hh]
    rw [hh] at kL
    clear hh
    unfold isCr
    have hq := beq_bytes (stdD l tC s0).snd u
    generalize decide ((stdD l tC s0).snd = u) = b at hq
    generalize (std tC s0 l).isSome = s at kC
    cases s
    · show Calls Tryz.prog 20 #[.string u, v] w fun e w' => e = .returned (.int .i64 0) ∧ Below w.heap.size w w'
      go_enter Tryz.func20, Tryz.ntmps20
      go_wp2_with (first
        | (have hq := f3; clear hq; refine v_decl rfl rfl 28 rfl (.tmp 7) (.tmp 23) rfl zE G z28 (fun _ => rfl) (fun _ => rfl) (by rw [g28]; rfl) (sz28 g28) go hc ?_; intro we Ne hcd _; replace hc := hcd; have c3 := hc.cell 0 rfl 3 g3; clear hcd; clear f3; have f4 : True := trivial)
        | (have hq := f2; clear hq; go_at_call 25; refine (kC _ (hB.trans (hc.bel.mono hB.size))).mono ?_; rintro r wc ⟨G, rfl, hG, hbc⟩; replace hc := hc.call hbc; have g28 := hG.sz; have go := hG.one; have g3 := hG.i3; clear hG hbc kC; clear f2; have f3 : True := trivial)
        | (have hq := f1; clear hq; refine v_decl rfl rfl 28 rfl (.tmp 5) (.tmp 16) rfl zE E z28 (fun _ => rfl) (fun _ => rfl) (by rw [e28]; rfl) (sz28 e28) eo hc ?_; intro wd Nd hcd _; replace hc := hcd; clear hcd; clear f1; have f2 : True := trivial)
        | (have hq := f0; clear hq; go_at_call 25; refine (kL _ (hB.trans (hc.bel.mono hB.size))).mono ?_; rintro r wc ⟨E, rfl, hE, hbc⟩; replace hc := hc.call hbc; have e28 := hE.sz; have eo := hE.one; obtain ⟨D, hD, hin⟩ := hE.con; have d6 := hD.vc.sz; have kf := fun W h => rfield_any (lvls l) D sUsers B W h hD; have k2 := fun W h => rnumber_any (lvls l) D sUD B W h hD; clear hE hD hbc kL; clear f0; have f1 : True := trivial))
      go_ret
      exact ⟨rfl, hc.bel⟩
    · cases b
      · show Calls Tryz.prog 20 #[.string u, v] w fun e w' => e = .returned (.int .i64 0) ∧ Below w.heap.size w w'
        go_enter Tryz.func20, Tryz.ntmps20
        go_wp2_with (first
          | (have hq := f3; clear hq; refine v_decl rfl rfl 28 rfl (.tmp 7) (.tmp 23) rfl zE G z28 (fun _ => rfl) (fun _ => rfl) (by rw [g28]; rfl) (sz28 g28) go hc ?_; intro we Ne hcd _; replace hc := hcd; have c3 := hc.cell 0 rfl 3 g3; clear hcd; clear f3; have f4 : True := trivial)
          | (have hq := f2; clear hq; go_at_call 25; refine (kC _ (hB.trans (hc.bel.mono hB.size))).mono ?_; rintro r wc ⟨G, rfl, hG, hbc⟩; replace hc := hc.call hbc; have g28 := hG.sz; have go := hG.one; have g3 := hG.i3; clear hG hbc kC; clear f2; have f3 : True := trivial)
          | (have hq := f1; clear hq; refine v_decl rfl rfl 28 rfl (.tmp 5) (.tmp 16) rfl zE E z28 (fun _ => rfl) (fun _ => rfl) (by rw [e28]; rfl) (sz28 e28) eo hc ?_; intro wd Nd hcd _; replace hc := hcd; clear hcd; clear f1; have f2 : True := trivial)
          | (have hq := f0; clear hq; go_at_call 25; refine (kL _ (hB.trans (hc.bel.mono hB.size))).mono ?_; rintro r wc ⟨E, rfl, hE, hbc⟩; replace hc := hc.call hbc; have e28 := hE.sz; have eo := hE.one; obtain ⟨D, hD, hin⟩ := hE.con; have d6 := hD.vc.sz; have kf := fun W h => rfield_any (lvls l) D sUsers B W h hD; have k2 := fun W h => rnumber_any (lvls l) D sUD B W h hD; clear hE hD hbc kL; clear f0; have f1 : True := trivial))
        go_ret
        exact ⟨rfl, hc.bel⟩
      · show Calls Tryz.prog 20 #[.string u, v] w fun e w' => e = .returned (.int .i64 100) ∧ Below w.heap.size w w'
        go_enter Tryz.func20, Tryz.ntmps20
        go_wp2_with (first
          | (have hq := f3; clear hq; refine v_decl rfl rfl 28 rfl (.tmp 7) (.tmp 23) rfl zE G z28 (fun _ => rfl) (fun _ => rfl) (by rw [g28]; rfl) (sz28 g28) go hc ?_; intro we Ne hcd _; replace hc := hcd; have c3 := hc.cell 0 rfl 3 g3; clear hcd; clear f3; have f4 : True := trivial)
          | (have hq := f2; clear hq; go_at_call 25; refine (kC _ (hB.trans (hc.bel.mono hB.size))).mono ?_; rintro r wc ⟨G, rfl, hG, hbc⟩; replace hc := hc.call hbc; have g28 := hG.sz; have go := hG.one; have g3 := hG.i3; clear hG hbc kC; clear f2; have f3 : True := trivial)
          | (have hq := f1; clear hq; refine v_decl rfl rfl 28 rfl (.tmp 5) (.tmp 16) rfl zE E z28 (fun _ => rfl) (fun _ => rfl) (by rw [e28]; rfl) (sz28 e28) eo hc ?_; intro wd Nd hcd _; replace hc := hcd; clear hcd; clear f1; have f2 : True := trivial)
          | (have hq := f0; clear hq; go_at_call 25; refine (kL _ (hB.trans (hc.bel.mono hB.size))).mono ?_; rintro r wc ⟨E, rfl, hE, hbc⟩; replace hc := hc.call hbc; have e28 := hE.sz; have eo := hE.one; obtain ⟨D, hD, hin⟩ := hE.con; have d6 := hD.vc.sz; have kf := fun W h => rfield_any (lvls l) D sUsers B W h hD; have k2 := fun W h => rnumber_any (lvls l) D sUD B W h hD; clear hE hD hbc kL; clear f0; have f1 : True := trivial))
        go_ret
        exact ⟨rfl, hc.bel⟩
  · rw [level_some hh]
    rw [hh] at kL
    clear hh kC
    obtain ⟨⟨n1, b1⟩, hp1⟩ : ∃ p, num (fldD (lvls l) sUsers) u = p := ⟨_, rfl⟩
    obtain ⟨⟨n2, b2⟩, hp2⟩ : ∃ p, num (lvls l) sUD = p := ⟨_, rfl⟩
    rw [hp1, hp2]
    cases b1
    · cases b2
      · show Calls Tryz.prog 20 #[.string u, v] w fun e w' => e = .returned (.int .i64 0) ∧ Below w.heap.size w w'
        go_enter Tryz.func20, Tryz.ntmps20
        go_wp2_with (first
          | (have hq := g6; clear hq; rw [hp2] at k2; go_at_call 54; refine (k2 _ (hB.trans (hc.bel.mono hB.size))).mono ?_; rintro r wc ⟨rfl, hbc⟩; replace hc := hc.call hbc; clear hbc k2; clear g6; have g7 : True := trivial)
          | (have hq := g5; clear hq; refine v_part rfl 26 (.tmp 47) rfl 1 D rfl hc rfl hin _ Tryz.underlying26 rfl (sz26 d6) ?_; clear g5; have g6 : True := trivial)
          | (have hq := g4; clear hq; go_at_call 54; refine (k1 _ (hB.trans (hc.bel.mono hB.size))).mono ?_; rintro r wc ⟨rfl, hbc⟩; replace hc := hc.call hbc; clear hbc k1; clear g4; have g5 : True := trivial)
          | (have hq := g3; clear hq; refine v_load rfl 26 (.tmp 9) rfl 0 rfl hc rfl _ Tryz.underlying26 rfl (sz26 u6) ?_; clear g3; have g4 : True := trivial)
          | (have hq := g2; clear hq; refine v_decl rfl rfl 26 rfl (.tmp 9) (.tmp 36) rfl zV U z26 (fun _ => rfl) (fun _ => rfl) (by rw [u6]; rfl) (sz26 u6) u1 hc ?_; intro we Ne hcd _; replace hc := hcd; clear hcd; clear g2; have g3 : True := trivial)
          | (have hq := g1; clear hq; go_at_call 53; refine (kf _ (hB.trans (hc.bel.mono hB.size))).mono ?_; rintro r wc ⟨U, rfl, hU, hbc⟩; replace hc := hc.call hbc; have u6 := hU.vc.sz; have u1 := hU.vc.one; have k1 := fun W h => rnumber_any (fldD (lvls l) sUsers) U u B W h hU; rw [hp1] at k1; clear hU hbc kf; clear g1; have g2 : True := trivial)
          | (have hq := f2; clear hq; refine v_part rfl 26 (.tmp 33) rfl 0 D rfl hc rfl hin _ Tryz.underlying26 rfl (sz26 d6) ?_; clear f2; have g1 : True := trivial)
          | (have hq := f1; clear hq; refine v_decl rfl rfl 28 rfl (.tmp 5) (.tmp 16) rfl zE E z28 (fun _ => rfl) (fun _ => rfl) (by rw [e28]; rfl) (sz28 e28) eo hc ?_; intro wd Nd hcd _; replace hc := hcd; clear hcd; clear f1; have f2 : True := trivial)
          | (have hq := f0; clear hq; go_at_call 25; refine (kL _ (hB.trans (hc.bel.mono hB.size))).mono ?_; rintro r wc ⟨E, rfl, hE, hbc⟩; replace hc := hc.call hbc; have e28 := hE.sz; have eo := hE.one; obtain ⟨D, hD, hin⟩ := hE.con; have d6 := hD.vc.sz; have kf := fun W h => rfield_any (lvls l) D sUsers B W h hD; have k2 := fun W h => rnumber_any (lvls l) D sUD B W h hD; clear hE hD hbc kL; clear f0; have f1 : True := trivial))
        go_ret
        exact ⟨rfl, hc.bel⟩
      · show Calls Tryz.prog 20 #[.string u, v] w fun e w' => e = .returned (.int .i64 n2) ∧ Below w.heap.size w w'
        go_enter Tryz.func20, Tryz.ntmps20
        go_wp2_with (first
          | (have hq := g6; clear hq; rw [hp2] at k2; go_at_call 54; refine (k2 _ (hB.trans (hc.bel.mono hB.size))).mono ?_; rintro r wc ⟨rfl, hbc⟩; replace hc := hc.call hbc; clear hbc k2; clear g6; have g7 : True := trivial)
          | (have hq := g5; clear hq; refine v_part rfl 26 (.tmp 47) rfl 1 D rfl hc rfl hin _ Tryz.underlying26 rfl (sz26 d6) ?_; clear g5; have g6 : True := trivial)
          | (have hq := g4; clear hq; go_at_call 54; refine (k1 _ (hB.trans (hc.bel.mono hB.size))).mono ?_; rintro r wc ⟨rfl, hbc⟩; replace hc := hc.call hbc; clear hbc k1; clear g4; have g5 : True := trivial)
          | (have hq := g3; clear hq; refine v_load rfl 26 (.tmp 9) rfl 0 rfl hc rfl _ Tryz.underlying26 rfl (sz26 u6) ?_; clear g3; have g4 : True := trivial)
          | (have hq := g2; clear hq; refine v_decl rfl rfl 26 rfl (.tmp 9) (.tmp 36) rfl zV U z26 (fun _ => rfl) (fun _ => rfl) (by rw [u6]; rfl) (sz26 u6) u1 hc ?_; intro we Ne hcd _; replace hc := hcd; clear hcd; clear g2; have g3 : True := trivial)
          | (have hq := g1; clear hq; go_at_call 53; refine (kf _ (hB.trans (hc.bel.mono hB.size))).mono ?_; rintro r wc ⟨U, rfl, hU, hbc⟩; replace hc := hc.call hbc; have u6 := hU.vc.sz; have u1 := hU.vc.one; have k1 := fun W h => rnumber_any (fldD (lvls l) sUsers) U u B W h hU; rw [hp1] at k1; clear hU hbc kf; clear g1; have g2 : True := trivial)
          | (have hq := f2; clear hq; refine v_part rfl 26 (.tmp 33) rfl 0 D rfl hc rfl hin _ Tryz.underlying26 rfl (sz26 d6) ?_; clear f2; have g1 : True := trivial)
          | (have hq := f1; clear hq; refine v_decl rfl rfl 28 rfl (.tmp 5) (.tmp 16) rfl zE E z28 (fun _ => rfl) (fun _ => rfl) (by rw [e28]; rfl) (sz28 e28) eo hc ?_; intro wd Nd hcd _; replace hc := hcd; clear hcd; clear f1; have f2 : True := trivial)
          | (have hq := f0; clear hq; go_at_call 25; refine (kL _ (hB.trans (hc.bel.mono hB.size))).mono ?_; rintro r wc ⟨E, rfl, hE, hbc⟩; replace hc := hc.call hbc; have e28 := hE.sz; have eo := hE.one; obtain ⟨D, hD, hin⟩ := hE.con; have d6 := hD.vc.sz; have kf := fun W h => rfield_any (lvls l) D sUsers B W h hD; have k2 := fun W h => rnumber_any (lvls l) D sUD B W h hD; clear hE hD hbc kL; clear f0; have f1 : True := trivial))
        go_ret
        exact ⟨rfl, hc.bel⟩
    · show Calls Tryz.prog 20 #[.string u, v] w fun e w' => e = .returned (.int .i64 n1) ∧ Below w.heap.size w w'
      go_enter Tryz.func20, Tryz.ntmps20
      go_wp2_with (first
        | (have hq := g6; clear hq; rw [hp2] at k2; go_at_call 54; refine (k2 _ (hB.trans (hc.bel.mono hB.size))).mono ?_; rintro r wc ⟨rfl, hbc⟩; replace hc := hc.call hbc; clear hbc k2; clear g6; have g7 : True := trivial)
        | (have hq := g5; clear hq; refine v_part rfl 26 (.tmp 47) rfl 1 D rfl hc rfl hin _ Tryz.underlying26 rfl (sz26 d6) ?_; clear g5; have g6 : True := trivial)
        | (have hq := g4; clear hq; go_at_call 54; refine (k1 _ (hB.trans (hc.bel.mono hB.size))).mono ?_; rintro r wc ⟨rfl, hbc⟩; replace hc := hc.call hbc; clear hbc k1; clear g4; have g5 : True := trivial)
        | (have hq := g3; clear hq; refine v_load rfl 26 (.tmp 9) rfl 0 rfl hc rfl _ Tryz.underlying26 rfl (sz26 u6) ?_; clear g3; have g4 : True := trivial)
        | (have hq := g2; clear hq; refine v_decl rfl rfl 26 rfl (.tmp 9) (.tmp 36) rfl zV U z26 (fun _ => rfl) (fun _ => rfl) (by rw [u6]; rfl) (sz26 u6) u1 hc ?_; intro we Ne hcd _; replace hc := hcd; clear hcd; clear g2; have g3 : True := trivial)
        | (have hq := g1; clear hq; go_at_call 53; refine (kf _ (hB.trans (hc.bel.mono hB.size))).mono ?_; rintro r wc ⟨U, rfl, hU, hbc⟩; replace hc := hc.call hbc; have u6 := hU.vc.sz; have u1 := hU.vc.one; have k1 := fun W h => rnumber_any (fldD (lvls l) sUsers) U u B W h hU; rw [hp1] at k1; clear hU hbc kf; clear g1; have g2 : True := trivial)
        | (have hq := f2; clear hq; refine v_part rfl 26 (.tmp 33) rfl 0 D rfl hc rfl hin _ Tryz.underlying26 rfl (sz26 d6) ?_; clear f2; have g1 : True := trivial)
        | (have hq := f1; clear hq; refine v_decl rfl rfl 28 rfl (.tmp 5) (.tmp 16) rfl zE E z28 (fun _ => rfl) (fun _ => rfl) (by rw [e28]; rfl) (sz28 e28) eo hc ?_; intro wd Nd hcd _; replace hc := hcd; clear hcd; clear f1; have f2 : True := trivial)
        | (have hq := f0; clear hq; go_at_call 25; refine (kL _ (hB.trans (hc.bel.mono hB.size))).mono ?_; rintro r wc ⟨E, rfl, hE, hbc⟩; replace hc := hc.call hbc; have e28 := hE.sz; have eo := hE.one; obtain ⟨D, hD, hin⟩ := hE.con; have d6 := hD.vc.sz; have kf := fun W h => rfield_any (lvls l) D sUsers B W h hD; have k2 := fun W h => rnumber_any (lvls l) D sUD B W h hD; clear hE hD hbc kL; clear f0; have f1 : True := trivial))
      go_ret
      exact ⟨rfl, hc.bel⟩

end Go.Proofs.YthplcnbfpcndbaaGreatDoor

/- The rule that refuses new levels: checkLevels, walked. -/
import Derived.Test.YthplcnbfpcndbaaGreatDoorTd
import Derived.Test.YthplcnbfpcndbaaGreatDoorBd
namespace Go.Proofs.YthplcnbfpcndbaaGreatDoor
open Go.RowKit

set_option maxRecDepth 100000 in
set_option maxHeartbeats 8000000 in
theorem checkLevels_any (e : EV) (l : List EV) (C : Array Value) (v : Value) (B w : World) (hB : Below B.heap.size B w) (he : EC B e C) (hl : EvsAt B v l) (hg : Sing B) :
    Calls Tryz.prog 45 #[.agg C, v] w fun r w' => r = .returned (.int .i64 (chkV e l)) ∧ Below w.heap.size w w' := by
  have hc0 := Ctx.start w
  have hE := he.sz
  have e3 := he.i3
  obtain ⟨Dc, hDc, hin⟩ := he.con
  have c6 := hDc.vc.sz
  have kF := fun W h => areLevels_any e.con Dc B W h hDc hg
  have kL : ∀ W, Below B.heap.size B W → Calls Tryz.prog 59 #[v] W fun e w' => ∃ D, e = .returned (.tuple #[.agg D, .bool (hasL l)]) ∧ LaidV B (lvls l) D ∧ Below W.heap.size W w' := fun W h => levels_any l v B W h hl
  have kV := fun W h => level_any l v e.snd B W h hl
  have kU := fun W h D (hD : LaidV B (lvls l) D) => changesIn_any sUsers (lvls l) e.con D Dc B W h hD hDc
  have kE := fun W h D (hD : LaidV B (lvls l) D) => changesIn_any sEvents (lvls l) e.con D Dc B W h hD hDc
  have kS := fun W h D (hD : LaidV B (lvls l) D) => singles_any (lvls l) e.con D Dc B W h hD hDc hg
  clear he hl hDc hg
  unfold chkV
  generalize e.snd = u at *
  generalize level l u = lev at *
  generalize chgIn sUsers (lvls l) e.con = TU at *
  generalize chgIn sEvents (lvls l) e.con = TE at *
  generalize chgs seven (lvls l) e.con = TS at *
  generalize lvls l = vl at *
  generalize hasL l = H at *
  generalize formB e.con = F at *
  have g0 : True := trivial
  cases F
  · skip
    show Calls Tryz.prog 45 #[.agg C, v] w fun r w' => r = .returned (.int .i64 43) ∧ Below w.heap.size w w'
    go_enter Tryz.func45, Tryz.ntmps45
    go_wp2_with (first
      | (refine v_box rfl 28 (.tmp 0) rfl C rfl hc0 ?_; intro w1 N1 hc _; clear hc0)
      | (refine v_part rfl 26 (.tmp 12) rfl 0 Dc rfl hc rfl hin _ Tryz.underlying26 rfl (sz26 c6) ?_)
      | (go_at_call 77; refine (kF _ (hB.trans (hc.bel.mono hB.size))).mono ?_; rintro r wy ⟨rfl, hby⟩; replace hc := hc.call hby; clear hby kF))
    go_ret
    exact ⟨rfl, hc.bel⟩
  · cases H
    · skip
      show Calls Tryz.prog 45 #[.agg C, v] w fun r w' => r = .returned (.int .i64 0) ∧ Below w.heap.size w w'
      go_enter Tryz.func45, Tryz.ntmps45
      go_wp2_with (first
        | (refine v_box rfl 28 (.tmp 0) rfl C rfl hc0 ?_; intro w1 N1 hc _; clear hc0)
        | (refine v_part rfl 26 (.tmp 12) rfl 0 Dc rfl hc rfl hin _ Tryz.underlying26 rfl (sz26 c6) ?_)
        | (go_at_call 77; refine (kF _ (hB.trans (hc.bel.mono hB.size))).mono ?_; rintro r wy ⟨rfl, hby⟩; replace hc := hc.call hby; clear hby kF)
        | (go_at_call 59; refine (kL _ (hB.trans (hc.bel.mono hB.size))).mono ?_; rintro r wy ⟨D, rfl, hD, hby⟩; replace hc := hc.call hby; have d6 := hD.vc.sz; have d1 := hD.vc.one; have HD : Hid (LaidV B vl D) := hD; clear hby kL hD)
        | (refine v_decl rfl rfl 26 rfl (.tmp 5) (.tmp 19) rfl zV D z26 (fun _ => rfl) (fun _ => rfl) (by rw [d6]; rfl) (sz26 d6) d1 hc ?_; intro wz N5 hcz _; replace hc := hcz; clear hcz; have c3 := hc.cell 1 rfl 3 e3))
      go_ret
      exact ⟨rfl, hc.bel⟩
    · obtain ⟨bS, hS⟩ : ∃ b, TS.any (byd lev) = b := ⟨_, rfl⟩
      obtain ⟨bV, hV⟩ : ∃ b, TE.any (byd lev) = b := ⟨_, rfl⟩
      obtain ⟨bR, hR⟩ : ∃ b, TU.any (reach u lev) = b := ⟨_, rfl⟩
      obtain ⟨bH, hH⟩ : ∃ b, TU.any (high lev) = b := ⟨_, rfl⟩
      rw [hS, hV, hR, hH]
      cases bS
      · cases bV
        · cases bR
          · cases bH
            · skip
              show Calls Tryz.prog 45 #[.agg C, v] w fun r w' => r = .returned (.int .i64 0) ∧ Below w.heap.size w w'
              go_enter Tryz.func45, Tryz.ntmps45
              go_wp2_with (first
                | (refine v_box rfl 28 (.tmp 0) rfl C rfl hc0 ?_; intro w1 N1 hc _; clear hc0)
                | (refine v_part rfl 26 (.tmp 12) rfl 0 Dc rfl hc rfl hin _ Tryz.underlying26 rfl (sz26 c6) ?_)
                | (go_at_call 77; refine (kF _ (hB.trans (hc.bel.mono hB.size))).mono ?_; rintro r wy ⟨rfl, hby⟩; replace hc := hc.call hby; clear hby kF)
                | (go_at_call 59; refine (kL _ (hB.trans (hc.bel.mono hB.size))).mono ?_; rintro r wy ⟨D, rfl, hD, hby⟩; replace hc := hc.call hby; have d6 := hD.vc.sz; have d1 := hD.vc.one; have HD : Hid (LaidV B vl D) := hD; clear hby kL hD)
                | (refine v_decl rfl rfl 26 rfl (.tmp 5) (.tmp 19) rfl zV D z26 (fun _ => rfl) (fun _ => rfl) (by rw [d6]; rfl) (sz26 d6) d1 hc ?_; intro wz N5 hcz _; replace hc := hcz; clear hcz; have c3 := hc.cell 1 rfl 3 e3)
                | (go_at_call 27; refine (kV _ (hB.trans (hc.bel.mono hB.size))).mono ?_; rintro r wy ⟨rfl, hby⟩; replace hc := hc.call hby; clear hby kV c3)
                | (refine v_level rfl rfl rfl (.tmp 7) (.tmp 26) rfl lev z2 (s2 lev) (fun _ => rfl) (fun _ => rfl) hc ?_; intro wz N7 hcz _; replace hc := hcz; clear hcz)
                | (refine v_load rfl 26 (.tmp 5) rfl 1 rfl hc rfl _ Tryz.underlying26 rfl (sz26 d6) ?_)
                | (refine v_part rfl 26 (.tmp 31) rfl 2 Dc rfl hc rfl hin _ Tryz.underlying26 rfl (sz26 c6) ?_)
                | (refine v_part rfl 26 (.tmp 36) rfl 2 Dc rfl hc rfl hin _ Tryz.underlying26 rfl (sz26 c6) ?_)
                | (have hq := g0; clear hq; go_at_call 83; refine (kU _ (hB.trans (hc.bel.mono hB.size)) D HD.out).mono ?_; rintro r wy ⟨vU, csU, rfl, hsU, hmU, hby⟩; replace hc := hc.call hby; clear hby kU g0; have g1 : True := trivial)
                | (have hq := g1; clear hq; go_at_call 85; refine (kS _ (hB.trans (hc.bel.mono hB.size)) D HD.out).mono ?_; rintro r wy ⟨vS, csS, rfl, hsS, hmS, hby⟩; replace hc := hc.call hby; replace hsU := hsU.below hby; clear hby kS g1; have g2 : True := trivial)
                | (have hq := g2; clear hq; go_at_call 84; refine (any_byd hS hsS hmS (hc.cell 0 rfl 0 rfl)).mono ?_; rintro r wy ⟨rfl, hby⟩; replace hc := hc.call hby; replace hsU := hsU.below hby; clear hby hsS hmS g2; have g3 : True := trivial)
                | (refine v_part rfl 26 (.tmp 43) rfl 2 Dc rfl hc rfl hin _ Tryz.underlying26 rfl (sz26 c6) ?_)
                | (have hq := g3; clear hq; go_at_call 83; refine (kE _ (hB.trans (hc.bel.mono hB.size)) D HD.out).mono ?_; rintro r wy ⟨vE, csE, rfl, hsE, hmE, hby⟩; replace hc := hc.call hby; replace hsU := hsU.below hby; clear hby kE g3; have g4 : True := trivial)
                | (have hq := g4; clear hq; go_at_call 84; refine (any_byd hV hsE hmE (hc.cell 0 rfl 0 rfl)).mono ?_; rintro r wy ⟨rfl, hby⟩; replace hc := hc.call hby; replace hsU := hsU.below hby; clear hby hsE hmE g4; have g5 : True := trivial)
                | (have hq := g5; clear hq; go_at_call 84; refine (any_reach hR hsU hmU (hc.cell 2 rfl 3 e3) (hc.cell 0 rfl 0 rfl)).mono ?_; rintro r wy ⟨rfl, hby⟩; replace hc := hc.call hby; replace hsU := hsU.below hby; clear hby g5; have g6 : True := trivial)
                | (have hq := g6; clear hq; go_at_call 84; refine (any_high hH hsU hmU (hc.cell 0 rfl 0 rfl)).mono ?_; rintro r wy ⟨rfl, hby⟩; replace hc := hc.call hby; clear hby g6))
              go_ret
              exact ⟨rfl, hc.bel⟩
            · skip
              show Calls Tryz.prog 45 #[.agg C, v] w fun r w' => r = .returned (.int .i64 47) ∧ Below w.heap.size w w'
              go_enter Tryz.func45, Tryz.ntmps45
              go_wp2_with (first
                | (refine v_box rfl 28 (.tmp 0) rfl C rfl hc0 ?_; intro w1 N1 hc _; clear hc0)
                | (refine v_part rfl 26 (.tmp 12) rfl 0 Dc rfl hc rfl hin _ Tryz.underlying26 rfl (sz26 c6) ?_)
                | (go_at_call 77; refine (kF _ (hB.trans (hc.bel.mono hB.size))).mono ?_; rintro r wy ⟨rfl, hby⟩; replace hc := hc.call hby; clear hby kF)
                | (go_at_call 59; refine (kL _ (hB.trans (hc.bel.mono hB.size))).mono ?_; rintro r wy ⟨D, rfl, hD, hby⟩; replace hc := hc.call hby; have d6 := hD.vc.sz; have d1 := hD.vc.one; have HD : Hid (LaidV B vl D) := hD; clear hby kL hD)
                | (refine v_decl rfl rfl 26 rfl (.tmp 5) (.tmp 19) rfl zV D z26 (fun _ => rfl) (fun _ => rfl) (by rw [d6]; rfl) (sz26 d6) d1 hc ?_; intro wz N5 hcz _; replace hc := hcz; clear hcz; have c3 := hc.cell 1 rfl 3 e3)
                | (go_at_call 27; refine (kV _ (hB.trans (hc.bel.mono hB.size))).mono ?_; rintro r wy ⟨rfl, hby⟩; replace hc := hc.call hby; clear hby kV c3)
                | (refine v_level rfl rfl rfl (.tmp 7) (.tmp 26) rfl lev z2 (s2 lev) (fun _ => rfl) (fun _ => rfl) hc ?_; intro wz N7 hcz _; replace hc := hcz; clear hcz)
                | (refine v_load rfl 26 (.tmp 5) rfl 1 rfl hc rfl _ Tryz.underlying26 rfl (sz26 d6) ?_)
                | (refine v_part rfl 26 (.tmp 31) rfl 2 Dc rfl hc rfl hin _ Tryz.underlying26 rfl (sz26 c6) ?_)
                | (refine v_part rfl 26 (.tmp 36) rfl 2 Dc rfl hc rfl hin _ Tryz.underlying26 rfl (sz26 c6) ?_)
                | (have hq := g0; clear hq; go_at_call 83; refine (kU _ (hB.trans (hc.bel.mono hB.size)) D HD.out).mono ?_; rintro r wy ⟨vU, csU, rfl, hsU, hmU, hby⟩; replace hc := hc.call hby; clear hby kU g0; have g1 : True := trivial)
                | (have hq := g1; clear hq; go_at_call 85; refine (kS _ (hB.trans (hc.bel.mono hB.size)) D HD.out).mono ?_; rintro r wy ⟨vS, csS, rfl, hsS, hmS, hby⟩; replace hc := hc.call hby; replace hsU := hsU.below hby; clear hby kS g1; have g2 : True := trivial)
                | (have hq := g2; clear hq; go_at_call 84; refine (any_byd hS hsS hmS (hc.cell 0 rfl 0 rfl)).mono ?_; rintro r wy ⟨rfl, hby⟩; replace hc := hc.call hby; replace hsU := hsU.below hby; clear hby hsS hmS g2; have g3 : True := trivial)
                | (refine v_part rfl 26 (.tmp 43) rfl 2 Dc rfl hc rfl hin _ Tryz.underlying26 rfl (sz26 c6) ?_)
                | (have hq := g3; clear hq; go_at_call 83; refine (kE _ (hB.trans (hc.bel.mono hB.size)) D HD.out).mono ?_; rintro r wy ⟨vE, csE, rfl, hsE, hmE, hby⟩; replace hc := hc.call hby; replace hsU := hsU.below hby; clear hby kE g3; have g4 : True := trivial)
                | (have hq := g4; clear hq; go_at_call 84; refine (any_byd hV hsE hmE (hc.cell 0 rfl 0 rfl)).mono ?_; rintro r wy ⟨rfl, hby⟩; replace hc := hc.call hby; replace hsU := hsU.below hby; clear hby hsE hmE g4; have g5 : True := trivial)
                | (have hq := g5; clear hq; go_at_call 84; refine (any_reach hR hsU hmU (hc.cell 2 rfl 3 e3) (hc.cell 0 rfl 0 rfl)).mono ?_; rintro r wy ⟨rfl, hby⟩; replace hc := hc.call hby; replace hsU := hsU.below hby; clear hby g5; have g6 : True := trivial)
                | (have hq := g6; clear hq; go_at_call 84; refine (any_high hH hsU hmU (hc.cell 0 rfl 0 rfl)).mono ?_; rintro r wy ⟨rfl, hby⟩; replace hc := hc.call hby; clear hby g6))
              go_ret
              exact ⟨rfl, hc.bel⟩
          · skip
            show Calls Tryz.prog 45 #[.agg C, v] w fun r w' => r = .returned (.int .i64 46) ∧ Below w.heap.size w w'
            go_enter Tryz.func45, Tryz.ntmps45
            go_wp2_with (first
              | (refine v_box rfl 28 (.tmp 0) rfl C rfl hc0 ?_; intro w1 N1 hc _; clear hc0)
              | (refine v_part rfl 26 (.tmp 12) rfl 0 Dc rfl hc rfl hin _ Tryz.underlying26 rfl (sz26 c6) ?_)
              | (go_at_call 77; refine (kF _ (hB.trans (hc.bel.mono hB.size))).mono ?_; rintro r wy ⟨rfl, hby⟩; replace hc := hc.call hby; clear hby kF)
              | (go_at_call 59; refine (kL _ (hB.trans (hc.bel.mono hB.size))).mono ?_; rintro r wy ⟨D, rfl, hD, hby⟩; replace hc := hc.call hby; have d6 := hD.vc.sz; have d1 := hD.vc.one; have HD : Hid (LaidV B vl D) := hD; clear hby kL hD)
              | (refine v_decl rfl rfl 26 rfl (.tmp 5) (.tmp 19) rfl zV D z26 (fun _ => rfl) (fun _ => rfl) (by rw [d6]; rfl) (sz26 d6) d1 hc ?_; intro wz N5 hcz _; replace hc := hcz; clear hcz; have c3 := hc.cell 1 rfl 3 e3)
              | (go_at_call 27; refine (kV _ (hB.trans (hc.bel.mono hB.size))).mono ?_; rintro r wy ⟨rfl, hby⟩; replace hc := hc.call hby; clear hby kV c3)
              | (refine v_level rfl rfl rfl (.tmp 7) (.tmp 26) rfl lev z2 (s2 lev) (fun _ => rfl) (fun _ => rfl) hc ?_; intro wz N7 hcz _; replace hc := hcz; clear hcz)
              | (refine v_load rfl 26 (.tmp 5) rfl 1 rfl hc rfl _ Tryz.underlying26 rfl (sz26 d6) ?_)
              | (refine v_part rfl 26 (.tmp 31) rfl 2 Dc rfl hc rfl hin _ Tryz.underlying26 rfl (sz26 c6) ?_)
              | (refine v_part rfl 26 (.tmp 36) rfl 2 Dc rfl hc rfl hin _ Tryz.underlying26 rfl (sz26 c6) ?_)
              | (have hq := g0; clear hq; go_at_call 83; refine (kU _ (hB.trans (hc.bel.mono hB.size)) D HD.out).mono ?_; rintro r wy ⟨vU, csU, rfl, hsU, hmU, hby⟩; replace hc := hc.call hby; clear hby kU g0; have g1 : True := trivial)
              | (have hq := g1; clear hq; go_at_call 85; refine (kS _ (hB.trans (hc.bel.mono hB.size)) D HD.out).mono ?_; rintro r wy ⟨vS, csS, rfl, hsS, hmS, hby⟩; replace hc := hc.call hby; replace hsU := hsU.below hby; clear hby kS g1; have g2 : True := trivial)
              | (have hq := g2; clear hq; go_at_call 84; refine (any_byd hS hsS hmS (hc.cell 0 rfl 0 rfl)).mono ?_; rintro r wy ⟨rfl, hby⟩; replace hc := hc.call hby; replace hsU := hsU.below hby; clear hby hsS hmS g2; have g3 : True := trivial)
              | (refine v_part rfl 26 (.tmp 43) rfl 2 Dc rfl hc rfl hin _ Tryz.underlying26 rfl (sz26 c6) ?_)
              | (have hq := g3; clear hq; go_at_call 83; refine (kE _ (hB.trans (hc.bel.mono hB.size)) D HD.out).mono ?_; rintro r wy ⟨vE, csE, rfl, hsE, hmE, hby⟩; replace hc := hc.call hby; replace hsU := hsU.below hby; clear hby kE g3; have g4 : True := trivial)
              | (have hq := g4; clear hq; go_at_call 84; refine (any_byd hV hsE hmE (hc.cell 0 rfl 0 rfl)).mono ?_; rintro r wy ⟨rfl, hby⟩; replace hc := hc.call hby; replace hsU := hsU.below hby; clear hby hsE hmE g4; have g5 : True := trivial)
              | (have hq := g5; clear hq; go_at_call 84; refine (any_reach hR hsU hmU (hc.cell 2 rfl 3 e3) (hc.cell 0 rfl 0 rfl)).mono ?_; rintro r wy ⟨rfl, hby⟩; replace hc := hc.call hby; replace hsU := hsU.below hby; clear hby g5; have g6 : True := trivial))
            go_ret
            exact ⟨rfl, hc.bel⟩
        · skip
          show Calls Tryz.prog 45 #[.agg C, v] w fun r w' => r = .returned (.int .i64 45) ∧ Below w.heap.size w w'
          go_enter Tryz.func45, Tryz.ntmps45
          go_wp2_with (first
            | (refine v_box rfl 28 (.tmp 0) rfl C rfl hc0 ?_; intro w1 N1 hc _; clear hc0)
            | (refine v_part rfl 26 (.tmp 12) rfl 0 Dc rfl hc rfl hin _ Tryz.underlying26 rfl (sz26 c6) ?_)
            | (go_at_call 77; refine (kF _ (hB.trans (hc.bel.mono hB.size))).mono ?_; rintro r wy ⟨rfl, hby⟩; replace hc := hc.call hby; clear hby kF)
            | (go_at_call 59; refine (kL _ (hB.trans (hc.bel.mono hB.size))).mono ?_; rintro r wy ⟨D, rfl, hD, hby⟩; replace hc := hc.call hby; have d6 := hD.vc.sz; have d1 := hD.vc.one; have HD : Hid (LaidV B vl D) := hD; clear hby kL hD)
            | (refine v_decl rfl rfl 26 rfl (.tmp 5) (.tmp 19) rfl zV D z26 (fun _ => rfl) (fun _ => rfl) (by rw [d6]; rfl) (sz26 d6) d1 hc ?_; intro wz N5 hcz _; replace hc := hcz; clear hcz; have c3 := hc.cell 1 rfl 3 e3)
            | (go_at_call 27; refine (kV _ (hB.trans (hc.bel.mono hB.size))).mono ?_; rintro r wy ⟨rfl, hby⟩; replace hc := hc.call hby; clear hby kV c3)
            | (refine v_level rfl rfl rfl (.tmp 7) (.tmp 26) rfl lev z2 (s2 lev) (fun _ => rfl) (fun _ => rfl) hc ?_; intro wz N7 hcz _; replace hc := hcz; clear hcz)
            | (refine v_load rfl 26 (.tmp 5) rfl 1 rfl hc rfl _ Tryz.underlying26 rfl (sz26 d6) ?_)
            | (refine v_part rfl 26 (.tmp 31) rfl 2 Dc rfl hc rfl hin _ Tryz.underlying26 rfl (sz26 c6) ?_)
            | (refine v_part rfl 26 (.tmp 36) rfl 2 Dc rfl hc rfl hin _ Tryz.underlying26 rfl (sz26 c6) ?_)
            | (have hq := g0; clear hq; go_at_call 83; refine (kU _ (hB.trans (hc.bel.mono hB.size)) D HD.out).mono ?_; rintro r wy ⟨vU, csU, rfl, hsU, hmU, hby⟩; replace hc := hc.call hby; clear hby kU g0; have g1 : True := trivial)
            | (have hq := g1; clear hq; go_at_call 85; refine (kS _ (hB.trans (hc.bel.mono hB.size)) D HD.out).mono ?_; rintro r wy ⟨vS, csS, rfl, hsS, hmS, hby⟩; replace hc := hc.call hby; replace hsU := hsU.below hby; clear hby kS g1; have g2 : True := trivial)
            | (have hq := g2; clear hq; go_at_call 84; refine (any_byd hS hsS hmS (hc.cell 0 rfl 0 rfl)).mono ?_; rintro r wy ⟨rfl, hby⟩; replace hc := hc.call hby; replace hsU := hsU.below hby; clear hby hsS hmS g2; have g3 : True := trivial)
            | (refine v_part rfl 26 (.tmp 43) rfl 2 Dc rfl hc rfl hin _ Tryz.underlying26 rfl (sz26 c6) ?_)
            | (have hq := g3; clear hq; go_at_call 83; refine (kE _ (hB.trans (hc.bel.mono hB.size)) D HD.out).mono ?_; rintro r wy ⟨vE, csE, rfl, hsE, hmE, hby⟩; replace hc := hc.call hby; replace hsU := hsU.below hby; clear hby kE g3; have g4 : True := trivial)
            | (have hq := g4; clear hq; go_at_call 84; refine (any_byd hV hsE hmE (hc.cell 0 rfl 0 rfl)).mono ?_; rintro r wy ⟨rfl, hby⟩; replace hc := hc.call hby; replace hsU := hsU.below hby; clear hby hsE hmE g4; have g5 : True := trivial))
          go_ret
          exact ⟨rfl, hc.bel⟩
      · skip
        show Calls Tryz.prog 45 #[.agg C, v] w fun r w' => r = .returned (.int .i64 44) ∧ Below w.heap.size w w'
        go_enter Tryz.func45, Tryz.ntmps45
        go_wp2_with (first
          | (refine v_box rfl 28 (.tmp 0) rfl C rfl hc0 ?_; intro w1 N1 hc _; clear hc0)
          | (refine v_part rfl 26 (.tmp 12) rfl 0 Dc rfl hc rfl hin _ Tryz.underlying26 rfl (sz26 c6) ?_)
          | (go_at_call 77; refine (kF _ (hB.trans (hc.bel.mono hB.size))).mono ?_; rintro r wy ⟨rfl, hby⟩; replace hc := hc.call hby; clear hby kF)
          | (go_at_call 59; refine (kL _ (hB.trans (hc.bel.mono hB.size))).mono ?_; rintro r wy ⟨D, rfl, hD, hby⟩; replace hc := hc.call hby; have d6 := hD.vc.sz; have d1 := hD.vc.one; have HD : Hid (LaidV B vl D) := hD; clear hby kL hD)
          | (refine v_decl rfl rfl 26 rfl (.tmp 5) (.tmp 19) rfl zV D z26 (fun _ => rfl) (fun _ => rfl) (by rw [d6]; rfl) (sz26 d6) d1 hc ?_; intro wz N5 hcz _; replace hc := hcz; clear hcz; have c3 := hc.cell 1 rfl 3 e3)
          | (go_at_call 27; refine (kV _ (hB.trans (hc.bel.mono hB.size))).mono ?_; rintro r wy ⟨rfl, hby⟩; replace hc := hc.call hby; clear hby kV c3)
          | (refine v_level rfl rfl rfl (.tmp 7) (.tmp 26) rfl lev z2 (s2 lev) (fun _ => rfl) (fun _ => rfl) hc ?_; intro wz N7 hcz _; replace hc := hcz; clear hcz)
          | (refine v_load rfl 26 (.tmp 5) rfl 1 rfl hc rfl _ Tryz.underlying26 rfl (sz26 d6) ?_)
          | (refine v_part rfl 26 (.tmp 31) rfl 2 Dc rfl hc rfl hin _ Tryz.underlying26 rfl (sz26 c6) ?_)
          | (refine v_part rfl 26 (.tmp 36) rfl 2 Dc rfl hc rfl hin _ Tryz.underlying26 rfl (sz26 c6) ?_)
          | (have hq := g0; clear hq; go_at_call 83; refine (kU _ (hB.trans (hc.bel.mono hB.size)) D HD.out).mono ?_; rintro r wy ⟨vU, csU, rfl, hsU, hmU, hby⟩; replace hc := hc.call hby; clear hby kU g0; have g1 : True := trivial)
          | (have hq := g1; clear hq; go_at_call 85; refine (kS _ (hB.trans (hc.bel.mono hB.size)) D HD.out).mono ?_; rintro r wy ⟨vS, csS, rfl, hsS, hmS, hby⟩; replace hc := hc.call hby; replace hsU := hsU.below hby; clear hby kS g1; have g2 : True := trivial)
          | (have hq := g2; clear hq; go_at_call 84; refine (any_byd hS hsS hmS (hc.cell 0 rfl 0 rfl)).mono ?_; rintro r wy ⟨rfl, hby⟩; replace hc := hc.call hby; replace hsU := hsU.below hby; clear hby hsS hmS g2; have g3 : True := trivial))
        go_ret
        exact ⟨rfl, hc.bel⟩

end Go.Proofs.YthplcnbfpcndbaaGreatDoor

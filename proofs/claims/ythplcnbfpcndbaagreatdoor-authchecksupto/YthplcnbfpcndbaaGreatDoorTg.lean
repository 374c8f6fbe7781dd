/- The reference's Check, walked. The walk of AuthChecks. -/
import Derived.Test.YthplcnbfpcndbaaGreatDoorCi
import Derived.Test.YthplcnbfpcndbaaGreatDoorTb
import Derived.Test.YthplcnbfpcndbaaGreatDoorCc
import Derived.Test.YthplcnbfpcndbaaGreatDoorAo
import Derived.Test.YthplcnbfpcndbaaGreatDoorBk
namespace Go.Proofs.YthplcnbfpcndbaaGreatDoor
open Go.RowKit

theorem pre_take (l p : List UInt8) : Lib.hasPrefix l p = decide (l.take p.length = p) := by
  rw [Lib.hasPrefix, Bool.eq_iff_iff, List.isPrefixOf_iff_prefix, decide_eq_true_eq, List.prefix_iff_eq_take]
  exact eq_comm
theorem pre_nil {s : ByteArray} (h : s.size = 0) : Lib.hasPrefix s.data.toList [64] = false := by
  rw [pre_take]
  have : s.data.toList = [] := List.length_eq_zero_iff.1 (by simpa using h)
  rw [this]
  rfl
theorem pre_one {s : ByteArray} (h : 0 < s.size) : Lib.hasPrefix s.data.toList [64] = ((((s[0]'h).toNat : Nat) : Int) == 64) := by
  have hl : 0 < s.data.toList.length := by simpa using h
  have e : s.data.toList = (s[0]'h) :: s.data.toList.drop 1 := by
    have := List.drop_eq_getElem_cons hl
    rw [List.drop_zero] at this
    exact this
  rw [pre_take, e]
  generalize s[0]'h = b
  rw [Bool.eq_iff_iff]
  simp only [List.length_cons, List.length_nil, List.take_succ_cons, List.take_zero, decide_eq_true_eq, beq_iff_eq, List.cons.injEq, and_true]
  constructor
  · rintro rfl
    rfl
  · intro h
    exact UInt8.toNat_inj.1 (show b.toNat = 64 by omega)
theorem chkV_eq (e : EV) (l : List EV) : chkV e l = if formB e.con then (if hasL l then rV e (lvls l) (level l e.snd) else 0) else 43 := rfl

set_option maxRecDepth 100000 in
set_option maxHeartbeats 8000000 in
theorem rcheck_any (e : EV) (l : List EV) (C : Array Value) (v : Value) (B w : World) (hB : Below B.heap.size B w) (he : EC B e C) (hl : EvsAt B v l) :
    Calls Tryz.prog 6 #[.agg C, v] w fun r w' => r = .returned (.int .i64 (chk chkV e l)) ∧ Below w.heap.size w w' := by
  have hc := Ctx.start w
  have hE := he.sz
  have e1 := he.i1
  have e3 := he.i3
  have e4 := he.i4
  have e5 := he.i5
  have s5 := he.s5
  obtain ⟨D, hD, hin⟩ := he.con
  have d6 := hD.vc.sz
  have kI := fun W => risCreate_any e C B W he
  have kC := fun W h => rcreate_any e C B W h he
  have kL := fun W h => rlists_any e l C v B W h he hl
  have kM := fun W h => rmember_any e l C v B W h he hl
  have kV := fun W h => rlevel_any l v e.snd B W h hl
  have kB := fun W h => rmemb_any l v e.snd B W h hl
  have kO := fun W h => rlevelOf_any l v e C B W h hl he
  have kX := fun W => risLevels_any e C B W he
  have kF := fun W h => rformed_any e.con D B W h hD
  have kP : ∀ W, Below B.heap.size B W → Calls Tryz.prog 25 #[v, .string tL, .string s0] W fun r w' => ∃ C, r = .returned (.tuple #[.agg C, .bool (hasL l)]) ∧ EC B (stdD l tL s0) C ∧ Below W.heap.size W w' := fun W h => stands_any l v tL s0 B W h hl
  have kCh := fun DX (hDX : LaidV B (stdD l tL s0).con DX) W h => rchanges_any e (lvls l) (level l e.snd) C DX B W h he hDX
  have qM := beq_const e.ty tM (l := [109, 46, 114, 111, 111, 109, 46, 109, 101, 109, 98, 101, 114]) rfl
  have qK := beq_bytes e.key e.snd
  have hp0 := @pre_nil e.key
  have hp1 := @pre_one e.key
  unfold chk chkX
  rw [chkV_eq]
  clear he hl hD
  generalize chkC e = rC at *
  generalize chkL e l = rL at *
  generalize chkM e l = rM at *
  generalize rV e (lvls l) (level l e.snd) = rW at *
  generalize isF e tC s0 = fC at *
  generalize isF e tL s0 = fL at *
  generalize formB e.con = fF at *
  generalize hasL l = hL at *
  generalize stdD l tL s0 = x at *
  generalize lvls l = vl at *
  generalize lvOf l e = lo at *
  generalize level l e.snd = lv at *
  generalize hmb : memb l e.snd = mb at *
  generalize decide (e.key = e.snd) = K at *
  generalize Lib.hasPrefix e.key.data.toList [64] = P at *
  generalize e.ty = ty at *
  generalize e.hk = hk at *
  generalize e.key = ky at *
  generalize e.snd = sn at *
  have qJ := beq_const mb sJoin (l := [106, 111, 105, 110]) rfl
  clear hmb
  cases fC
  · by_cases hn : rL = 0
    · have hn' : (rL != 0) = false := by simp [hn]
      by_cases hM : ty = tM
      · rw [decide_eq_true hM] at qM
        simp only [Bool.false_eq_true, if_false, hn, hM, if_true]
        subst hn
        clear hM
        show Calls Tryz.prog 6 #[.agg C, v] w fun r w' => r = .returned (.int .i64 rM) ∧ Below w.heap.size w w'
        have z0 : True := trivial
        go_enter Tryz.func6, Tryz.ntmps6
        go_wp2_with (first
          | (have hq := z6; clear hq; go_at_call 19; refine (kM _ (hB.trans (hc.bel.mono hB.size))).mono ?_; rintro r wq ⟨rfl, hbq⟩; replace hc := hc.call hbq; clear kM; clear hbq; clear z6)
          | (have hq := z5; clear hq; refine v_load rfl 28 (.tmp 2) rfl 0 rfl hc rfl _ Tryz.underlying28 rfl (sz28 hE) ?_; clear z5; have z6 : True := trivial)
          | (have hq := z4; clear hq; go_at_call 18; refine (kL _ (hB.trans (hc.bel.mono hB.size))).mono ?_; rintro r wq ⟨rfl, hbq⟩; replace hc := hc.call hbq; have c1 := hc.cell 0 rfl 1 e1; have c3 := hc.cell 0 rfl 3 e3; clear kL; clear hbq; clear z4; have z5 : True := trivial)
          | (have hq := z3; clear hq; refine v_load rfl 28 (.tmp 2) rfl 0 rfl hc rfl _ Tryz.underlying28 rfl (sz28 hE) ?_; clear z3; have z4 : True := trivial)
          | (have hq := z2; clear hq; go_at_call 16; refine (kI _).mono ?_; rintro r wq ⟨rfl, hbq⟩; replace hc := hc.call hbq; clear kI; clear hbq; clear z2; have z3 : True := trivial)
          | (have hq := z1; clear hq; refine v_load rfl 28 (.tmp 2) rfl 0 rfl hc rfl _ Tryz.underlying28 rfl (sz28 hE) ?_; clear z1; have z2 : True := trivial)
          | (have hq := z0; clear hq; refine v_box rfl 28 (.tmp 0) rfl C rfl hc ?_; intro wq Nq hcq _; replace hc := hcq; clear hcq; clear z0; have z1 : True := trivial))
        all_goals
          go_ret
          exact ⟨rfl, hc.bel⟩
      · rw [decide_eq_false hM] at qM
        simp only [Bool.false_eq_true, if_false, hn, hM, if_true]
        subst hn
        clear hM
        by_cases hJ : mb = sJoin
        · rw [decide_eq_true hJ] at qJ
          rw [if_pos hJ]
          clear hJ
          by_cases hlo : lv < lo
          · rw [if_pos hlo]
            show Calls Tryz.prog 6 #[.agg C, v] w fun r w' => r = .returned (.int .i64 41) ∧ Below w.heap.size w w'
            have z0 : True := trivial
            go_enter Tryz.func6, Tryz.ntmps6
            go_wp2_with (first
              | (have hq := z8; clear hq; go_at_call 22; refine (kO _ (hB.trans (hc.bel.mono hB.size))).mono ?_; rintro r wq ⟨rfl, hbq⟩; replace hc := hc.call hbq; replace c3 := hc.cell 0 rfl 3 e3; have c4 := hc.cell 0 rfl 4 e4; have c5 := hc.cell 0 rfl 5 e5; clear kO; clear hbq; clear z8)
              | (have hq := z7; clear hq; refine v_load rfl 28 (.tmp 2) rfl 0 rfl hc rfl _ Tryz.underlying28 rfl (sz28 hE) ?_; clear z7; have z8 : True := trivial)
              | (have hq := z6; clear hq; go_at_call 21; refine (kB _ (hB.trans (hc.bel.mono hB.size))).mono ?_; rintro r wq ⟨rfl, hbq⟩; replace hc := hc.call hbq; replace c3 := hc.cell 0 rfl 3 e3; clear kB; clear hbq; clear z6; have z7 : True := trivial)
              | (have hq := z5; clear hq; go_at_call 20; refine (kV _ (hB.trans (hc.bel.mono hB.size))).mono ?_; rintro r wq ⟨rfl, hbq⟩; replace hc := hc.call hbq; replace c3 := hc.cell 0 rfl 3 e3; clear kV; clear hbq; clear z5; have z6 : True := trivial)
              | (have hq := z4; clear hq; go_at_call 18; refine (kL _ (hB.trans (hc.bel.mono hB.size))).mono ?_; rintro r wq ⟨rfl, hbq⟩; replace hc := hc.call hbq; have c1 := hc.cell 0 rfl 1 e1; have c3 := hc.cell 0 rfl 3 e3; clear kL; clear hbq; clear z4; have z5 : True := trivial)
              | (have hq := z3; clear hq; refine v_load rfl 28 (.tmp 2) rfl 0 rfl hc rfl _ Tryz.underlying28 rfl (sz28 hE) ?_; clear z3; have z4 : True := trivial)
              | (have hq := z2; clear hq; go_at_call 16; refine (kI _).mono ?_; rintro r wq ⟨rfl, hbq⟩; replace hc := hc.call hbq; clear kI; clear hbq; clear z2; have z3 : True := trivial)
              | (have hq := z1; clear hq; refine v_load rfl 28 (.tmp 2) rfl 0 rfl hc rfl _ Tryz.underlying28 rfl (sz28 hE) ?_; clear z1; have z2 : True := trivial)
              | (have hq := z0; clear hq; refine v_box rfl 28 (.tmp 0) rfl C rfl hc ?_; intro wq Nq hcq _; replace hc := hcq; clear hcq; clear z0; have z1 : True := trivial))
            all_goals
              go_ret
              exact ⟨rfl, hc.bel⟩
          · rw [if_neg hlo]
            obtain ⟨q, hq⟩ : ∃ q, (hk && (P && !K)) = q := ⟨_, rfl⟩
            rw [hq]
            have HT : Hid (q = true → Calls Tryz.prog 6 #[.agg C, v] w fun r w' => r = .returned (.int .i64 42) ∧ Below w.heap.size w w') := by
              show _ → _
              rintro rfl
              cases hk
              · cases hq
              · cases P
                · cases hq
                · cases K
                  · by_cases hz : ky.size = 0
                    · exact absurd (hp0 hz) (by simp)
                    · have hpz : 0 < ky.size := by omega
                      have hb := (hp1 hpz).symm
                      have hgt : (0 : Int) < (ky.size : Int) := by omega
                      clear hp0 hp1 hq
                      have z0 : True := trivial
                      go_enter Tryz.func6, Tryz.ntmps6
                      go_wp2_with (first
                        | (have hq := z8; clear hq; go_at_call 22; refine (kO _ (hB.trans (hc.bel.mono hB.size))).mono ?_; rintro r wq ⟨rfl, hbq⟩; replace hc := hc.call hbq; replace c3 := hc.cell 0 rfl 3 e3; have c4 := hc.cell 0 rfl 4 e4; have c5 := hc.cell 0 rfl 5 e5; clear kO; clear hbq; clear z8)
                        | (have hq := z7; clear hq; refine v_load rfl 28 (.tmp 2) rfl 0 rfl hc rfl _ Tryz.underlying28 rfl (sz28 hE) ?_; clear z7; have z8 : True := trivial)
                        | (have hq := z6; clear hq; go_at_call 21; refine (kB _ (hB.trans (hc.bel.mono hB.size))).mono ?_; rintro r wq ⟨rfl, hbq⟩; replace hc := hc.call hbq; replace c3 := hc.cell 0 rfl 3 e3; clear kB; clear hbq; clear z6; have z7 : True := trivial)
                        | (have hq := z5; clear hq; go_at_call 20; refine (kV _ (hB.trans (hc.bel.mono hB.size))).mono ?_; rintro r wq ⟨rfl, hbq⟩; replace hc := hc.call hbq; replace c3 := hc.cell 0 rfl 3 e3; clear kV; clear hbq; clear z5; have z6 : True := trivial)
                        | (have hq := z4; clear hq; go_at_call 18; refine (kL _ (hB.trans (hc.bel.mono hB.size))).mono ?_; rintro r wq ⟨rfl, hbq⟩; replace hc := hc.call hbq; have c1 := hc.cell 0 rfl 1 e1; have c3 := hc.cell 0 rfl 3 e3; clear kL; clear hbq; clear z4; have z5 : True := trivial)
                        | (have hq := z3; clear hq; refine v_load rfl 28 (.tmp 2) rfl 0 rfl hc rfl _ Tryz.underlying28 rfl (sz28 hE) ?_; clear z3; have z4 : True := trivial)
                        | (have hq := z2; clear hq; go_at_call 16; refine (kI _).mono ?_; rintro r wq ⟨rfl, hbq⟩; replace hc := hc.call hbq; clear kI; clear hbq; clear z2; have z3 : True := trivial)
                        | (have hq := z1; clear hq; refine v_load rfl 28 (.tmp 2) rfl 0 rfl hc rfl _ Tryz.underlying28 rfl (sz28 hE) ?_; clear z1; have z2 : True := trivial)
                        | (have hq := z0; clear hq; refine v_box rfl 28 (.tmp 0) rfl C rfl hc ?_; intro wq Nq hcq _; replace hc := hcq; clear hcq; clear z0; have z1 : True := trivial))
                      all_goals
                        go_ret
                        exact ⟨rfl, hc.bel⟩
                  · cases hq
            cases q
            · rw [if_neg Bool.false_ne_true]
              clear HT
              cases hk
              · clear hp0 hp1 hq
                cases fL
                · rw [if_neg Bool.false_ne_true]
                  show Calls Tryz.prog 6 #[.agg C, v] w fun r w' => r = .returned (.int .i64 0) ∧ Below w.heap.size w w'
                  have z0 : True := trivial
                  go_enter Tryz.func6, Tryz.ntmps6
                  go_wp2_with (first
                    | (have hq := z10; clear hq; go_at_call 23; refine (kX _).mono ?_; rintro r wq ⟨rfl, hbq⟩; replace hc := hc.call hbq; clear kX; clear hbq; clear z10)
                    | (have hq := z9; clear hq; refine v_load rfl 28 (.tmp 2) rfl 0 rfl hc rfl _ Tryz.underlying28 rfl (sz28 hE) ?_; clear z9; have z10 : True := trivial)
                    | (have hq := z8; clear hq; go_at_call 22; refine (kO _ (hB.trans (hc.bel.mono hB.size))).mono ?_; rintro r wq ⟨rfl, hbq⟩; replace hc := hc.call hbq; replace c3 := hc.cell 0 rfl 3 e3; have c4 := hc.cell 0 rfl 4 e4; have c5 := hc.cell 0 rfl 5 e5; clear kO; clear hbq; clear z8; have z9 : True := trivial)
                    | (have hq := z7; clear hq; refine v_load rfl 28 (.tmp 2) rfl 0 rfl hc rfl _ Tryz.underlying28 rfl (sz28 hE) ?_; clear z7; have z8 : True := trivial)
                    | (have hq := z6; clear hq; go_at_call 21; refine (kB _ (hB.trans (hc.bel.mono hB.size))).mono ?_; rintro r wq ⟨rfl, hbq⟩; replace hc := hc.call hbq; replace c3 := hc.cell 0 rfl 3 e3; clear kB; clear hbq; clear z6; have z7 : True := trivial)
                    | (have hq := z5; clear hq; go_at_call 20; refine (kV _ (hB.trans (hc.bel.mono hB.size))).mono ?_; rintro r wq ⟨rfl, hbq⟩; replace hc := hc.call hbq; replace c3 := hc.cell 0 rfl 3 e3; clear kV; clear hbq; clear z5; have z6 : True := trivial)
                    | (have hq := z4; clear hq; go_at_call 18; refine (kL _ (hB.trans (hc.bel.mono hB.size))).mono ?_; rintro r wq ⟨rfl, hbq⟩; replace hc := hc.call hbq; have c1 := hc.cell 0 rfl 1 e1; have c3 := hc.cell 0 rfl 3 e3; clear kL; clear hbq; clear z4; have z5 : True := trivial)
                    | (have hq := z3; clear hq; refine v_load rfl 28 (.tmp 2) rfl 0 rfl hc rfl _ Tryz.underlying28 rfl (sz28 hE) ?_; clear z3; have z4 : True := trivial)
                    | (have hq := z2; clear hq; go_at_call 16; refine (kI _).mono ?_; rintro r wq ⟨rfl, hbq⟩; replace hc := hc.call hbq; clear kI; clear hbq; clear z2; have z3 : True := trivial)
                    | (have hq := z1; clear hq; refine v_load rfl 28 (.tmp 2) rfl 0 rfl hc rfl _ Tryz.underlying28 rfl (sz28 hE) ?_; clear z1; have z2 : True := trivial)
                    | (have hq := z0; clear hq; refine v_box rfl 28 (.tmp 0) rfl C rfl hc ?_; intro wq Nq hcq _; replace hc := hcq; clear hcq; clear z0; have z1 : True := trivial))
                  all_goals
                    go_ret
                    exact ⟨rfl, hc.bel⟩
                · rw [if_pos rfl]
                  cases fF
                  · rw [if_neg Bool.false_ne_true]
                    show Calls Tryz.prog 6 #[.agg C, v] w fun r w' => r = .returned (.int .i64 43) ∧ Below w.heap.size w w'
                    have z0 : True := trivial
                    go_enter Tryz.func6, Tryz.ntmps6
                    go_wp2_with (first
                      | (have hq := z12; clear hq; go_at_call 24; refine (kF _ (hB.trans (hc.bel.mono hB.size))).mono ?_; rintro r wq ⟨rfl, hbq⟩; replace hc := hc.call hbq; clear kF; clear hbq; clear z12)
                      | (have hq := z11; clear hq; refine v_part rfl 26 (.tmp 71) rfl 0 D rfl hc rfl hin _ Tryz.underlying26 rfl (sz26 d6) ?_; clear z11; have z12 : True := trivial)
                      | (have hq := z10; clear hq; go_at_call 23; refine (kX _).mono ?_; rintro r wq ⟨rfl, hbq⟩; replace hc := hc.call hbq; clear kX; clear hbq; clear z10; have z11 : True := trivial)
                      | (have hq := z9; clear hq; refine v_load rfl 28 (.tmp 2) rfl 0 rfl hc rfl _ Tryz.underlying28 rfl (sz28 hE) ?_; clear z9; have z10 : True := trivial)
                      | (have hq := z8; clear hq; go_at_call 22; refine (kO _ (hB.trans (hc.bel.mono hB.size))).mono ?_; rintro r wq ⟨rfl, hbq⟩; replace hc := hc.call hbq; replace c3 := hc.cell 0 rfl 3 e3; have c4 := hc.cell 0 rfl 4 e4; have c5 := hc.cell 0 rfl 5 e5; clear kO; clear hbq; clear z8; have z9 : True := trivial)
                      | (have hq := z7; clear hq; refine v_load rfl 28 (.tmp 2) rfl 0 rfl hc rfl _ Tryz.underlying28 rfl (sz28 hE) ?_; clear z7; have z8 : True := trivial)
                      | (have hq := z6; clear hq; go_at_call 21; refine (kB _ (hB.trans (hc.bel.mono hB.size))).mono ?_; rintro r wq ⟨rfl, hbq⟩; replace hc := hc.call hbq; replace c3 := hc.cell 0 rfl 3 e3; clear kB; clear hbq; clear z6; have z7 : True := trivial)
                      | (have hq := z5; clear hq; go_at_call 20; refine (kV _ (hB.trans (hc.bel.mono hB.size))).mono ?_; rintro r wq ⟨rfl, hbq⟩; replace hc := hc.call hbq; replace c3 := hc.cell 0 rfl 3 e3; clear kV; clear hbq; clear z5; have z6 : True := trivial)
                      | (have hq := z4; clear hq; go_at_call 18; refine (kL _ (hB.trans (hc.bel.mono hB.size))).mono ?_; rintro r wq ⟨rfl, hbq⟩; replace hc := hc.call hbq; have c1 := hc.cell 0 rfl 1 e1; have c3 := hc.cell 0 rfl 3 e3; clear kL; clear hbq; clear z4; have z5 : True := trivial)
                      | (have hq := z3; clear hq; refine v_load rfl 28 (.tmp 2) rfl 0 rfl hc rfl _ Tryz.underlying28 rfl (sz28 hE) ?_; clear z3; have z4 : True := trivial)
                      | (have hq := z2; clear hq; go_at_call 16; refine (kI _).mono ?_; rintro r wq ⟨rfl, hbq⟩; replace hc := hc.call hbq; clear kI; clear hbq; clear z2; have z3 : True := trivial)
                      | (have hq := z1; clear hq; refine v_load rfl 28 (.tmp 2) rfl 0 rfl hc rfl _ Tryz.underlying28 rfl (sz28 hE) ?_; clear z1; have z2 : True := trivial)
                      | (have hq := z0; clear hq; refine v_box rfl 28 (.tmp 0) rfl C rfl hc ?_; intro wq Nq hcq _; replace hc := hcq; clear hcq; clear z0; have z1 : True := trivial))
                    all_goals
                      go_ret
                      exact ⟨rfl, hc.bel⟩
                  · rw [if_pos rfl]
                    cases hL
                    · rw [if_neg Bool.false_ne_true]
                      show Calls Tryz.prog 6 #[.agg C, v] w fun r w' => r = .returned (.int .i64 0) ∧ Below w.heap.size w w'
                      have z0 : True := trivial
                      go_enter Tryz.func6, Tryz.ntmps6
                      go_wp2_with (first
                        | (have hq := z14; clear hq; refine v_decl rfl rfl 28 rfl (.tmp 10) (.tmp 79) rfl zE X z28 (fun _ => rfl) (fun _ => rfl) (by rw [x28]; rfl) (sz28 x28) x1 hc ?_; intro wq Nq hcq _; replace hc := hcq; clear hcq; clear z14)
                        | (have hq := z13; clear hq; go_at_call 25; refine (kP _ (hB.trans (hc.bel.mono hB.size))).mono ?_; rintro r wq ⟨X, rfl, hX, hbq⟩; replace hc := hc.call hbq; have x28 := hX.sz; have x1 := hX.one; obtain ⟨DX, hDX, hinX⟩ := hX.con; have dx6 := hDX.vc.sz; have kch := kCh DX hDX; clear hX hDX kP kCh; clear hbq; clear z13; have z14 : True := trivial)
                        | (have hq := z12; clear hq; go_at_call 24; refine (kF _ (hB.trans (hc.bel.mono hB.size))).mono ?_; rintro r wq ⟨rfl, hbq⟩; replace hc := hc.call hbq; clear kF; clear hbq; clear z12; have z13 : True := trivial)
                        | (have hq := z11; clear hq; refine v_part rfl 26 (.tmp 71) rfl 0 D rfl hc rfl hin _ Tryz.underlying26 rfl (sz26 d6) ?_; clear z11; have z12 : True := trivial)
                        | (have hq := z10; clear hq; go_at_call 23; refine (kX _).mono ?_; rintro r wq ⟨rfl, hbq⟩; replace hc := hc.call hbq; clear kX; clear hbq; clear z10; have z11 : True := trivial)
                        | (have hq := z9; clear hq; refine v_load rfl 28 (.tmp 2) rfl 0 rfl hc rfl _ Tryz.underlying28 rfl (sz28 hE) ?_; clear z9; have z10 : True := trivial)
                        | (have hq := z8; clear hq; go_at_call 22; refine (kO _ (hB.trans (hc.bel.mono hB.size))).mono ?_; rintro r wq ⟨rfl, hbq⟩; replace hc := hc.call hbq; replace c3 := hc.cell 0 rfl 3 e3; have c4 := hc.cell 0 rfl 4 e4; have c5 := hc.cell 0 rfl 5 e5; clear kO; clear hbq; clear z8; have z9 : True := trivial)
                        | (have hq := z7; clear hq; refine v_load rfl 28 (.tmp 2) rfl 0 rfl hc rfl _ Tryz.underlying28 rfl (sz28 hE) ?_; clear z7; have z8 : True := trivial)
                        | (have hq := z6; clear hq; go_at_call 21; refine (kB _ (hB.trans (hc.bel.mono hB.size))).mono ?_; rintro r wq ⟨rfl, hbq⟩; replace hc := hc.call hbq; replace c3 := hc.cell 0 rfl 3 e3; clear kB; clear hbq; clear z6; have z7 : True := trivial)
                        | (have hq := z5; clear hq; go_at_call 20; refine (kV _ (hB.trans (hc.bel.mono hB.size))).mono ?_; rintro r wq ⟨rfl, hbq⟩; replace hc := hc.call hbq; replace c3 := hc.cell 0 rfl 3 e3; clear kV; clear hbq; clear z5; have z6 : True := trivial)
                        | (have hq := z4; clear hq; go_at_call 18; refine (kL _ (hB.trans (hc.bel.mono hB.size))).mono ?_; rintro r wq ⟨rfl, hbq⟩; replace hc := hc.call hbq; have c1 := hc.cell 0 rfl 1 e1; have c3 := hc.cell 0 rfl 3 e3; clear kL; clear hbq; clear z4; have z5 : True := trivial)
                        | (have hq := z3; clear hq; refine v_load rfl 28 (.tmp 2) rfl 0 rfl hc rfl _ Tryz.underlying28 rfl (sz28 hE) ?_; clear z3; have z4 : True := trivial)
                        | (have hq := z2; clear hq; go_at_call 16; refine (kI _).mono ?_; rintro r wq ⟨rfl, hbq⟩; replace hc := hc.call hbq; clear kI; clear hbq; clear z2; have z3 : True := trivial)
                        | (have hq := z1; clear hq; refine v_load rfl 28 (.tmp 2) rfl 0 rfl hc rfl _ Tryz.underlying28 rfl (sz28 hE) ?_; clear z1; have z2 : True := trivial)
                        | (have hq := z0; clear hq; refine v_box rfl 28 (.tmp 0) rfl C rfl hc ?_; intro wq Nq hcq _; replace hc := hcq; clear hcq; clear z0; have z1 : True := trivial))
                      all_goals
                        go_ret
                        exact ⟨rfl, hc.bel⟩
                    · rw [if_pos rfl]
                      show Calls Tryz.prog 6 #[.agg C, v] w fun r w' => r = .returned (.int .i64 rW) ∧ Below w.heap.size w w'
                      have z0 : True := trivial
                      go_enter Tryz.func6, Tryz.ntmps6
                      go_wp2_with (first
                        | (have hq := z17; clear hq; go_at_call 26; refine (kch _ (hB.trans (hc.bel.mono hB.size))).mono ?_; rintro r wq ⟨rfl, hbq⟩; replace hc := hc.call hbq; clear kch; clear hbq; clear z17)
                        | (have hq := z16; clear hq; refine v_part rfl 26 (.tmp 84) rfl 0 DX rfl hc rfl hinX _ Tryz.underlying26 rfl (sz26 dx6) ?_; clear z16; have z17 : True := trivial)
                        | (have hq := z15; clear hq; refine v_load rfl 28 (.tmp 2) rfl 1 rfl hc rfl _ Tryz.underlying28 rfl (sz28 hE) ?_; clear z15; have z16 : True := trivial)
                        | (have hq := z14; clear hq; refine v_decl rfl rfl 28 rfl (.tmp 10) (.tmp 79) rfl zE X z28 (fun _ => rfl) (fun _ => rfl) (by rw [x28]; rfl) (sz28 x28) x1 hc ?_; intro wq Nq hcq _; replace hc := hcq; clear hcq; clear z14; have z15 : True := trivial)
                        | (have hq := z13; clear hq; go_at_call 25; refine (kP _ (hB.trans (hc.bel.mono hB.size))).mono ?_; rintro r wq ⟨X, rfl, hX, hbq⟩; replace hc := hc.call hbq; have x28 := hX.sz; have x1 := hX.one; obtain ⟨DX, hDX, hinX⟩ := hX.con; have dx6 := hDX.vc.sz; have kch := kCh DX hDX; clear hX hDX kP kCh; clear hbq; clear z13; have z14 : True := trivial)
                        | (have hq := z12; clear hq; go_at_call 24; refine (kF _ (hB.trans (hc.bel.mono hB.size))).mono ?_; rintro r wq ⟨rfl, hbq⟩; replace hc := hc.call hbq; clear kF; clear hbq; clear z12; have z13 : True := trivial)
                        | (have hq := z11; clear hq; refine v_part rfl 26 (.tmp 71) rfl 0 D rfl hc rfl hin _ Tryz.underlying26 rfl (sz26 d6) ?_; clear z11; have z12 : True := trivial)
                        | (have hq := z10; clear hq; go_at_call 23; refine (kX _).mono ?_; rintro r wq ⟨rfl, hbq⟩; replace hc := hc.call hbq; clear kX; clear hbq; clear z10; have z11 : True := trivial)
                        | (have hq := z9; clear hq; refine v_load rfl 28 (.tmp 2) rfl 0 rfl hc rfl _ Tryz.underlying28 rfl (sz28 hE) ?_; clear z9; have z10 : True := trivial)
                        | (have hq := z8; clear hq; go_at_call 22; refine (kO _ (hB.trans (hc.bel.mono hB.size))).mono ?_; rintro r wq ⟨rfl, hbq⟩; replace hc := hc.call hbq; replace c3 := hc.cell 0 rfl 3 e3; have c4 := hc.cell 0 rfl 4 e4; have c5 := hc.cell 0 rfl 5 e5; clear kO; clear hbq; clear z8; have z9 : True := trivial)
                        | (have hq := z7; clear hq; refine v_load rfl 28 (.tmp 2) rfl 0 rfl hc rfl _ Tryz.underlying28 rfl (sz28 hE) ?_; clear z7; have z8 : True := trivial)
                        | (have hq := z6; clear hq; go_at_call 21; refine (kB _ (hB.trans (hc.bel.mono hB.size))).mono ?_; rintro r wq ⟨rfl, hbq⟩; replace hc := hc.call hbq; replace c3 := hc.cell 0 rfl 3 e3; clear kB; clear hbq; clear z6; have z7 : True := trivial)
                        | (have hq := z5; clear hq; go_at_call 20; refine (kV _ (hB.trans (hc.bel.mono hB.size))).mono ?_; rintro r wq ⟨rfl, hbq⟩; replace hc := hc.call hbq; replace c3 := hc.cell 0 rfl 3 e3; clear kV; clear hbq; clear z5; have z6 : True := trivial)
                        | (have hq := z4; clear hq; go_at_call 18; refine (kL _ (hB.trans (hc.bel.mono hB.size))).mono ?_; rintro r wq ⟨rfl, hbq⟩; replace hc := hc.call hbq; have c1 := hc.cell 0 rfl 1 e1; have c3 := hc.cell 0 rfl 3 e3; clear kL; clear hbq; clear z4; have z5 : True := trivial)
                        | (have hq := z3; clear hq; refine v_load rfl 28 (.tmp 2) rfl 0 rfl hc rfl _ Tryz.underlying28 rfl (sz28 hE) ?_; clear z3; have z4 : True := trivial)
                        | (have hq := z2; clear hq; go_at_call 16; refine (kI _).mono ?_; rintro r wq ⟨rfl, hbq⟩; replace hc := hc.call hbq; clear kI; clear hbq; clear z2; have z3 : True := trivial)
                        | (have hq := z1; clear hq; refine v_load rfl 28 (.tmp 2) rfl 0 rfl hc rfl _ Tryz.underlying28 rfl (sz28 hE) ?_; clear z1; have z2 : True := trivial)
                        | (have hq := z0; clear hq; refine v_box rfl 28 (.tmp 0) rfl C rfl hc ?_; intro wq Nq hcq _; replace hc := hcq; clear hcq; clear z0; have z1 : True := trivial))
                      all_goals
                        go_ret
                        exact ⟨rfl, hc.bel⟩
              · by_cases hz : ky.size = 0
                · have hgt : ¬ (0 : Int) < (ky.size : Int) := by omega
                  clear hp0 hp1 hq
                  cases fL
                  · rw [if_neg Bool.false_ne_true]
                    show Calls Tryz.prog 6 #[.agg C, v] w fun r w' => r = .returned (.int .i64 0) ∧ Below w.heap.size w w'
                    have z0 : True := trivial
                    go_enter Tryz.func6, Tryz.ntmps6
                    go_wp2_with (first
                      | (have hq := z10; clear hq; go_at_call 23; refine (kX _).mono ?_; rintro r wq ⟨rfl, hbq⟩; replace hc := hc.call hbq; clear kX; clear hbq; clear z10)
                      | (have hq := z9; clear hq; refine v_load rfl 28 (.tmp 2) rfl 0 rfl hc rfl _ Tryz.underlying28 rfl (sz28 hE) ?_; clear z9; have z10 : True := trivial)
                      | (have hq := z8; clear hq; go_at_call 22; refine (kO _ (hB.trans (hc.bel.mono hB.size))).mono ?_; rintro r wq ⟨rfl, hbq⟩; replace hc := hc.call hbq; replace c3 := hc.cell 0 rfl 3 e3; have c4 := hc.cell 0 rfl 4 e4; have c5 := hc.cell 0 rfl 5 e5; clear kO; clear hbq; clear z8; have z9 : True := trivial)
                      | (have hq := z7; clear hq; refine v_load rfl 28 (.tmp 2) rfl 0 rfl hc rfl _ Tryz.underlying28 rfl (sz28 hE) ?_; clear z7; have z8 : True := trivial)
                      | (have hq := z6; clear hq; go_at_call 21; refine (kB _ (hB.trans (hc.bel.mono hB.size))).mono ?_; rintro r wq ⟨rfl, hbq⟩; replace hc := hc.call hbq; replace c3 := hc.cell 0 rfl 3 e3; clear kB; clear hbq; clear z6; have z7 : True := trivial)
                      | (have hq := z5; clear hq; go_at_call 20; refine (kV _ (hB.trans (hc.bel.mono hB.size))).mono ?_; rintro r wq ⟨rfl, hbq⟩; replace hc := hc.call hbq; replace c3 := hc.cell 0 rfl 3 e3; clear kV; clear hbq; clear z5; have z6 : True := trivial)
                      | (have hq := z4; clear hq; go_at_call 18; refine (kL _ (hB.trans (hc.bel.mono hB.size))).mono ?_; rintro r wq ⟨rfl, hbq⟩; replace hc := hc.call hbq; have c1 := hc.cell 0 rfl 1 e1; have c3 := hc.cell 0 rfl 3 e3; clear kL; clear hbq; clear z4; have z5 : True := trivial)
                      | (have hq := z3; clear hq; refine v_load rfl 28 (.tmp 2) rfl 0 rfl hc rfl _ Tryz.underlying28 rfl (sz28 hE) ?_; clear z3; have z4 : True := trivial)
                      | (have hq := z2; clear hq; go_at_call 16; refine (kI _).mono ?_; rintro r wq ⟨rfl, hbq⟩; replace hc := hc.call hbq; clear kI; clear hbq; clear z2; have z3 : True := trivial)
                      | (have hq := z1; clear hq; refine v_load rfl 28 (.tmp 2) rfl 0 rfl hc rfl _ Tryz.underlying28 rfl (sz28 hE) ?_; clear z1; have z2 : True := trivial)
                      | (have hq := z0; clear hq; refine v_box rfl 28 (.tmp 0) rfl C rfl hc ?_; intro wq Nq hcq _; replace hc := hcq; clear hcq; clear z0; have z1 : True := trivial))
                    all_goals
                      go_ret
                      exact ⟨rfl, hc.bel⟩
                  · rw [if_pos rfl]
                    cases fF
                    · rw [if_neg Bool.false_ne_true]
                      show Calls Tryz.prog 6 #[.agg C, v] w fun r w' => r = .returned (.int .i64 43) ∧ Below w.heap.size w w'
                      have z0 : True := trivial
                      go_enter Tryz.func6, Tryz.ntmps6
                      go_wp2_with (first
                        | (have hq := z12; clear hq; go_at_call 24; refine (kF _ (hB.trans (hc.bel.mono hB.size))).mono ?_; rintro r wq ⟨rfl, hbq⟩; replace hc := hc.call hbq; clear kF; clear hbq; clear z12)
                        | (have hq := z11; clear hq; refine v_part rfl 26 (.tmp 71) rfl 0 D rfl hc rfl hin _ Tryz.underlying26 rfl (sz26 d6) ?_; clear z11; have z12 : True := trivial)
                        | (have hq := z10; clear hq; go_at_call 23; refine (kX _).mono ?_; rintro r wq ⟨rfl, hbq⟩; replace hc := hc.call hbq; clear kX; clear hbq; clear z10; have z11 : True := trivial)
                        | (have hq := z9; clear hq; refine v_load rfl 28 (.tmp 2) rfl 0 rfl hc rfl _ Tryz.underlying28 rfl (sz28 hE) ?_; clear z9; have z10 : True := trivial)
                        | (have hq := z8; clear hq; go_at_call 22; refine (kO _ (hB.trans (hc.bel.mono hB.size))).mono ?_; rintro r wq ⟨rfl, hbq⟩; replace hc := hc.call hbq; replace c3 := hc.cell 0 rfl 3 e3; have c4 := hc.cell 0 rfl 4 e4; have c5 := hc.cell 0 rfl 5 e5; clear kO; clear hbq; clear z8; have z9 : True := trivial)
                        | (have hq := z7; clear hq; refine v_load rfl 28 (.tmp 2) rfl 0 rfl hc rfl _ Tryz.underlying28 rfl (sz28 hE) ?_; clear z7; have z8 : True := trivial)
                        | (have hq := z6; clear hq; go_at_call 21; refine (kB _ (hB.trans (hc.bel.mono hB.size))).mono ?_; rintro r wq ⟨rfl, hbq⟩; replace hc := hc.call hbq; replace c3 := hc.cell 0 rfl 3 e3; clear kB; clear hbq; clear z6; have z7 : True := trivial)
                        | (have hq := z5; clear hq; go_at_call 20; refine (kV _ (hB.trans (hc.bel.mono hB.size))).mono ?_; rintro r wq ⟨rfl, hbq⟩; replace hc := hc.call hbq; replace c3 := hc.cell 0 rfl 3 e3; clear kV; clear hbq; clear z5; have z6 : True := trivial)
                        | (have hq := z4; clear hq; go_at_call 18; refine (kL _ (hB.trans (hc.bel.mono hB.size))).mono ?_; rintro r wq ⟨rfl, hbq⟩; replace hc := hc.call hbq; have c1 := hc.cell 0 rfl 1 e1; have c3 := hc.cell 0 rfl 3 e3; clear kL; clear hbq; clear z4; have z5 : True := trivial)
                        | (have hq := z3; clear hq; refine v_load rfl 28 (.tmp 2) rfl 0 rfl hc rfl _ Tryz.underlying28 rfl (sz28 hE) ?_; clear z3; have z4 : True := trivial)
                        | (have hq := z2; clear hq; go_at_call 16; refine (kI _).mono ?_; rintro r wq ⟨rfl, hbq⟩; replace hc := hc.call hbq; clear kI; clear hbq; clear z2; have z3 : True := trivial)
                        | (have hq := z1; clear hq; refine v_load rfl 28 (.tmp 2) rfl 0 rfl hc rfl _ Tryz.underlying28 rfl (sz28 hE) ?_; clear z1; have z2 : True := trivial)
                        | (have hq := z0; clear hq; refine v_box rfl 28 (.tmp 0) rfl C rfl hc ?_; intro wq Nq hcq _; replace hc := hcq; clear hcq; clear z0; have z1 : True := trivial))
                      all_goals
                        go_ret
                        exact ⟨rfl, hc.bel⟩
                    · rw [if_pos rfl]
                      cases hL
                      · rw [if_neg Bool.false_ne_true]
                        show Calls Tryz.prog 6 #[.agg C, v] w fun r w' => r = .returned (.int .i64 0) ∧ Below w.heap.size w w'
                        have z0 : True := trivial
                        go_enter Tryz.func6, Tryz.ntmps6
                        go_wp2_with (first
                          | (have hq := z14; clear hq; refine v_decl rfl rfl 28 rfl (.tmp 10) (.tmp 79) rfl zE X z28 (fun _ => rfl) (fun _ => rfl) (by rw [x28]; rfl) (sz28 x28) x1 hc ?_; intro wq Nq hcq _; replace hc := hcq; clear hcq; clear z14)
                          | (have hq := z13; clear hq; go_at_call 25; refine (kP _ (hB.trans (hc.bel.mono hB.size))).mono ?_; rintro r wq ⟨X, rfl, hX, hbq⟩; replace hc := hc.call hbq; have x28 := hX.sz; have x1 := hX.one; obtain ⟨DX, hDX, hinX⟩ := hX.con; have dx6 := hDX.vc.sz; have kch := kCh DX hDX; clear hX hDX kP kCh; clear hbq; clear z13; have z14 : True := trivial)
                          | (have hq := z12; clear hq; go_at_call 24; refine (kF _ (hB.trans (hc.bel.mono hB.size))).mono ?_; rintro r wq ⟨rfl, hbq⟩; replace hc := hc.call hbq; clear kF; clear hbq; clear z12; have z13 : True := trivial)
                          | (have hq := z11; clear hq; refine v_part rfl 26 (.tmp 71) rfl 0 D rfl hc rfl hin _ Tryz.underlying26 rfl (sz26 d6) ?_; clear z11; have z12 : True := trivial)
                          | (have hq := z10; clear hq; go_at_call 23; refine (kX _).mono ?_; rintro r wq ⟨rfl, hbq⟩; replace hc := hc.call hbq; clear kX; clear hbq; clear z10; have z11 : True := trivial)
                          | (have hq := z9; clear hq; refine v_load rfl 28 (.tmp 2) rfl 0 rfl hc rfl _ Tryz.underlying28 rfl (sz28 hE) ?_; clear z9; have z10 : True := trivial)
                          | (have hq := z8; clear hq; go_at_call 22; refine (kO _ (hB.trans (hc.bel.mono hB.size))).mono ?_; rintro r wq ⟨rfl, hbq⟩; replace hc := hc.call hbq; replace c3 := hc.cell 0 rfl 3 e3; have c4 := hc.cell 0 rfl 4 e4; have c5 := hc.cell 0 rfl 5 e5; clear kO; clear hbq; clear z8; have z9 : True := trivial)
                          | (have hq := z7; clear hq; refine v_load rfl 28 (.tmp 2) rfl 0 rfl hc rfl _ Tryz.underlying28 rfl (sz28 hE) ?_; clear z7; have z8 : True := trivial)
                          | (have hq := z6; clear hq; go_at_call 21; refine (kB _ (hB.trans (hc.bel.mono hB.size))).mono ?_; rintro r wq ⟨rfl, hbq⟩; replace hc := hc.call hbq; replace c3 := hc.cell 0 rfl 3 e3; clear kB; clear hbq; clear z6; have z7 : True := trivial)
                          | (have hq := z5; clear hq; go_at_call 20; refine (kV _ (hB.trans (hc.bel.mono hB.size))).mono ?_; rintro r wq ⟨rfl, hbq⟩; replace hc := hc.call hbq; replace c3 := hc.cell 0 rfl 3 e3; clear kV; clear hbq; clear z5; have z6 : True := trivial)
                          | (have hq := z4; clear hq; go_at_call 18; refine (kL _ (hB.trans (hc.bel.mono hB.size))).mono ?_; rintro r wq ⟨rfl, hbq⟩; replace hc := hc.call hbq; have c1 := hc.cell 0 rfl 1 e1; have c3 := hc.cell 0 rfl 3 e3; clear kL; clear hbq; clear z4; have z5 : True := trivial)
                          | (have hq := z3; clear hq; refine v_load rfl 28 (.tmp 2) rfl 0 rfl hc rfl _ Tryz.underlying28 rfl (sz28 hE) ?_; clear z3; have z4 : True := trivial)
                          | (have hq := z2; clear hq; go_at_call 16; refine (kI _).mono ?_; rintro r wq ⟨rfl, hbq⟩; replace hc := hc.call hbq; clear kI; clear hbq; clear z2; have z3 : True := trivial)
                          | (have hq := z1; clear hq; refine v_load rfl 28 (.tmp 2) rfl 0 rfl hc rfl _ Tryz.underlying28 rfl (sz28 hE) ?_; clear z1; have z2 : True := trivial)
                          | (have hq := z0; clear hq; refine v_box rfl 28 (.tmp 0) rfl C rfl hc ?_; intro wq Nq hcq _; replace hc := hcq; clear hcq; clear z0; have z1 : True := trivial))
                        all_goals
                          go_ret
                          exact ⟨rfl, hc.bel⟩
                      · rw [if_pos rfl]
                        show Calls Tryz.prog 6 #[.agg C, v] w fun r w' => r = .returned (.int .i64 rW) ∧ Below w.heap.size w w'
                        have z0 : True := trivial
                        go_enter Tryz.func6, Tryz.ntmps6
                        go_wp2_with (first
                          | (have hq := z17; clear hq; go_at_call 26; refine (kch _ (hB.trans (hc.bel.mono hB.size))).mono ?_; rintro r wq ⟨rfl, hbq⟩; replace hc := hc.call hbq; clear kch; clear hbq; clear z17)
                          | (have hq := z16; clear hq; refine v_part rfl 26 (.tmp 84) rfl 0 DX rfl hc rfl hinX _ Tryz.underlying26 rfl (sz26 dx6) ?_; clear z16; have z17 : True := trivial)
                          | (have hq := z15; clear hq; refine v_load rfl 28 (.tmp 2) rfl 1 rfl hc rfl _ Tryz.underlying28 rfl (sz28 hE) ?_; clear z15; have z16 : True := trivial)
                          | (have hq := z14; clear hq; refine v_decl rfl rfl 28 rfl (.tmp 10) (.tmp 79) rfl zE X z28 (fun _ => rfl) (fun _ => rfl) (by rw [x28]; rfl) (sz28 x28) x1 hc ?_; intro wq Nq hcq _; replace hc := hcq; clear hcq; clear z14; have z15 : True := trivial)
                          | (have hq := z13; clear hq; go_at_call 25; refine (kP _ (hB.trans (hc.bel.mono hB.size))).mono ?_; rintro r wq ⟨X, rfl, hX, hbq⟩; replace hc := hc.call hbq; have x28 := hX.sz; have x1 := hX.one; obtain ⟨DX, hDX, hinX⟩ := hX.con; have dx6 := hDX.vc.sz; have kch := kCh DX hDX; clear hX hDX kP kCh; clear hbq; clear z13; have z14 : True := trivial)
                          | (have hq := z12; clear hq; go_at_call 24; refine (kF _ (hB.trans (hc.bel.mono hB.size))).mono ?_; rintro r wq ⟨rfl, hbq⟩; replace hc := hc.call hbq; clear kF; clear hbq; clear z12; have z13 : True := trivial)
                          | (have hq := z11; clear hq; refine v_part rfl 26 (.tmp 71) rfl 0 D rfl hc rfl hin _ Tryz.underlying26 rfl (sz26 d6) ?_; clear z11; have z12 : True := trivial)
                          | (have hq := z10; clear hq; go_at_call 23; refine (kX _).mono ?_; rintro r wq ⟨rfl, hbq⟩; replace hc := hc.call hbq; clear kX; clear hbq; clear z10; have z11 : True := trivial)
                          | (have hq := z9; clear hq; refine v_load rfl 28 (.tmp 2) rfl 0 rfl hc rfl _ Tryz.underlying28 rfl (sz28 hE) ?_; clear z9; have z10 : True := trivial)
                          | (have hq := z8; clear hq; go_at_call 22; refine (kO _ (hB.trans (hc.bel.mono hB.size))).mono ?_; rintro r wq ⟨rfl, hbq⟩; replace hc := hc.call hbq; replace c3 := hc.cell 0 rfl 3 e3; have c4 := hc.cell 0 rfl 4 e4; have c5 := hc.cell 0 rfl 5 e5; clear kO; clear hbq; clear z8; have z9 : True := trivial)
                          | (have hq := z7; clear hq; refine v_load rfl 28 (.tmp 2) rfl 0 rfl hc rfl _ Tryz.underlying28 rfl (sz28 hE) ?_; clear z7; have z8 : True := trivial)
                          | (have hq := z6; clear hq; go_at_call 21; refine (kB _ (hB.trans (hc.bel.mono hB.size))).mono ?_; rintro r wq ⟨rfl, hbq⟩; replace hc := hc.call hbq; replace c3 := hc.cell 0 rfl 3 e3; clear kB; clear hbq; clear z6; have z7 : True := trivial)
                          | (have hq := z5; clear hq; go_at_call 20; refine (kV _ (hB.trans (hc.bel.mono hB.size))).mono ?_; rintro r wq ⟨rfl, hbq⟩; replace hc := hc.call hbq; replace c3 := hc.cell 0 rfl 3 e3; clear kV; clear hbq; clear z5; have z6 : True := trivial)
                          | (have hq := z4; clear hq; go_at_call 18; refine (kL _ (hB.trans (hc.bel.mono hB.size))).mono ?_; rintro r wq ⟨rfl, hbq⟩; replace hc := hc.call hbq; have c1 := hc.cell 0 rfl 1 e1; have c3 := hc.cell 0 rfl 3 e3; clear kL; clear hbq; clear z4; have z5 : True := trivial)
                          | (have hq := z3; clear hq; refine v_load rfl 28 (.tmp 2) rfl 0 rfl hc rfl _ Tryz.underlying28 rfl (sz28 hE) ?_; clear z3; have z4 : True := trivial)
                          | (have hq := z2; clear hq; go_at_call 16; refine (kI _).mono ?_; rintro r wq ⟨rfl, hbq⟩; replace hc := hc.call hbq; clear kI; clear hbq; clear z2; have z3 : True := trivial)
                          | (have hq := z1; clear hq; refine v_load rfl 28 (.tmp 2) rfl 0 rfl hc rfl _ Tryz.underlying28 rfl (sz28 hE) ?_; clear z1; have z2 : True := trivial)
                          | (have hq := z0; clear hq; refine v_box rfl 28 (.tmp 0) rfl C rfl hc ?_; intro wq Nq hcq _; replace hc := hcq; clear hcq; clear z0; have z1 : True := trivial))
                        all_goals
                          go_ret
                          exact ⟨rfl, hc.bel⟩
                · have hpz : 0 < ky.size := by omega
                  have hb := (hp1 hpz).symm
                  have hgt : (0 : Int) < (ky.size : Int) := by omega
                  clear hp0 hp1
                  cases P
                  · clear hq
                    cases fL
                    · rw [if_neg Bool.false_ne_true]
                      show Calls Tryz.prog 6 #[.agg C, v] w fun r w' => r = .returned (.int .i64 0) ∧ Below w.heap.size w w'
                      have z0 : True := trivial
                      go_enter Tryz.func6, Tryz.ntmps6
                      go_wp2_with (first
                        | (have hq := z10; clear hq; go_at_call 23; refine (kX _).mono ?_; rintro r wq ⟨rfl, hbq⟩; replace hc := hc.call hbq; clear kX; clear hbq; clear z10)
                        | (have hq := z9; clear hq; refine v_load rfl 28 (.tmp 2) rfl 0 rfl hc rfl _ Tryz.underlying28 rfl (sz28 hE) ?_; clear z9; have z10 : True := trivial)
                        | (have hq := z8; clear hq; go_at_call 22; refine (kO _ (hB.trans (hc.bel.mono hB.size))).mono ?_; rintro r wq ⟨rfl, hbq⟩; replace hc := hc.call hbq; replace c3 := hc.cell 0 rfl 3 e3; have c4 := hc.cell 0 rfl 4 e4; have c5 := hc.cell 0 rfl 5 e5; clear kO; clear hbq; clear z8; have z9 : True := trivial)
                        | (have hq := z7; clear hq; refine v_load rfl 28 (.tmp 2) rfl 0 rfl hc rfl _ Tryz.underlying28 rfl (sz28 hE) ?_; clear z7; have z8 : True := trivial)
                        | (have hq := z6; clear hq; go_at_call 21; refine (kB _ (hB.trans (hc.bel.mono hB.size))).mono ?_; rintro r wq ⟨rfl, hbq⟩; replace hc := hc.call hbq; replace c3 := hc.cell 0 rfl 3 e3; clear kB; clear hbq; clear z6; have z7 : True := trivial)
                        | (have hq := z5; clear hq; go_at_call 20; refine (kV _ (hB.trans (hc.bel.mono hB.size))).mono ?_; rintro r wq ⟨rfl, hbq⟩; replace hc := hc.call hbq; replace c3 := hc.cell 0 rfl 3 e3; clear kV; clear hbq; clear z5; have z6 : True := trivial)
                        | (have hq := z4; clear hq; go_at_call 18; refine (kL _ (hB.trans (hc.bel.mono hB.size))).mono ?_; rintro r wq ⟨rfl, hbq⟩; replace hc := hc.call hbq; have c1 := hc.cell 0 rfl 1 e1; have c3 := hc.cell 0 rfl 3 e3; clear kL; clear hbq; clear z4; have z5 : True := trivial)
                        | (have hq := z3; clear hq; refine v_load rfl 28 (.tmp 2) rfl 0 rfl hc rfl _ Tryz.underlying28 rfl (sz28 hE) ?_; clear z3; have z4 : True := trivial)
                        | (have hq := z2; clear hq; go_at_call 16; refine (kI _).mono ?_; rintro r wq ⟨rfl, hbq⟩; replace hc := hc.call hbq; clear kI; clear hbq; clear z2; have z3 : True := trivial)
                        | (have hq := z1; clear hq; refine v_load rfl 28 (.tmp 2) rfl 0 rfl hc rfl _ Tryz.underlying28 rfl (sz28 hE) ?_; clear z1; have z2 : True := trivial)
                        | (have hq := z0; clear hq; refine v_box rfl 28 (.tmp 0) rfl C rfl hc ?_; intro wq Nq hcq _; replace hc := hcq; clear hcq; clear z0; have z1 : True := trivial))
                      all_goals
                        go_ret
                        exact ⟨rfl, hc.bel⟩
                    · rw [if_pos rfl]
                      cases fF
                      · rw [if_neg Bool.false_ne_true]
                        show Calls Tryz.prog 6 #[.agg C, v] w fun r w' => r = .returned (.int .i64 43) ∧ Below w.heap.size w w'
                        have z0 : True := trivial
                        go_enter Tryz.func6, Tryz.ntmps6
                        go_wp2_with (first
                          | (have hq := z12; clear hq; go_at_call 24; refine (kF _ (hB.trans (hc.bel.mono hB.size))).mono ?_; rintro r wq ⟨rfl, hbq⟩; replace hc := hc.call hbq; clear kF; clear hbq; clear z12)
                          | (have hq := z11; clear hq; refine v_part rfl 26 (.tmp 71) rfl 0 D rfl hc rfl hin _ Tryz.underlying26 rfl (sz26 d6) ?_; clear z11; have z12 : True := trivial)
                          | (have hq := z10; clear hq; go_at_call 23; refine (kX _).mono ?_; rintro r wq ⟨rfl, hbq⟩; replace hc := hc.call hbq; clear kX; clear hbq; clear z10; have z11 : True := trivial)
                          | (have hq := z9; clear hq; refine v_load rfl 28 (.tmp 2) rfl 0 rfl hc rfl _ Tryz.underlying28 rfl (sz28 hE) ?_; clear z9; have z10 : True := trivial)
                          | (have hq := z8; clear hq; go_at_call 22; refine (kO _ (hB.trans (hc.bel.mono hB.size))).mono ?_; rintro r wq ⟨rfl, hbq⟩; replace hc := hc.call hbq; replace c3 := hc.cell 0 rfl 3 e3; have c4 := hc.cell 0 rfl 4 e4; have c5 := hc.cell 0 rfl 5 e5; clear kO; clear hbq; clear z8; have z9 : True := trivial)
                          | (have hq := z7; clear hq; refine v_load rfl 28 (.tmp 2) rfl 0 rfl hc rfl _ Tryz.underlying28 rfl (sz28 hE) ?_; clear z7; have z8 : True := trivial)
                          | (have hq := z6; clear hq; go_at_call 21; refine (kB _ (hB.trans (hc.bel.mono hB.size))).mono ?_; rintro r wq ⟨rfl, hbq⟩; replace hc := hc.call hbq; replace c3 := hc.cell 0 rfl 3 e3; clear kB; clear hbq; clear z6; have z7 : True := trivial)
                          | (have hq := z5; clear hq; go_at_call 20; refine (kV _ (hB.trans (hc.bel.mono hB.size))).mono ?_; rintro r wq ⟨rfl, hbq⟩; replace hc := hc.call hbq; replace c3 := hc.cell 0 rfl 3 e3; clear kV; clear hbq; clear z5; have z6 : True := trivial)
                          | (have hq := z4; clear hq; go_at_call 18; refine (kL _ (hB.trans (hc.bel.mono hB.size))).mono ?_; rintro r wq ⟨rfl, hbq⟩; replace hc := hc.call hbq; have c1 := hc.cell 0 rfl 1 e1; have c3 := hc.cell 0 rfl 3 e3; clear kL; clear hbq; clear z4; have z5 : True := trivial)
                          | (have hq := z3; clear hq; refine v_load rfl 28 (.tmp 2) rfl 0 rfl hc rfl _ Tryz.underlying28 rfl (sz28 hE) ?_; clear z3; have z4 : True := trivial)
                          | (have hq := z2; clear hq; go_at_call 16; refine (kI _).mono ?_; rintro r wq ⟨rfl, hbq⟩; replace hc := hc.call hbq; clear kI; clear hbq; clear z2; have z3 : True := trivial)
                          | (have hq := z1; clear hq; refine v_load rfl 28 (.tmp 2) rfl 0 rfl hc rfl _ Tryz.underlying28 rfl (sz28 hE) ?_; clear z1; have z2 : True := trivial)
                          | (have hq := z0; clear hq; refine v_box rfl 28 (.tmp 0) rfl C rfl hc ?_; intro wq Nq hcq _; replace hc := hcq; clear hcq; clear z0; have z1 : True := trivial))
                        all_goals
                          go_ret
                          exact ⟨rfl, hc.bel⟩
                      · rw [if_pos rfl]
                        cases hL
                        · rw [if_neg Bool.false_ne_true]
                          show Calls Tryz.prog 6 #[.agg C, v] w fun r w' => r = .returned (.int .i64 0) ∧ Below w.heap.size w w'
                          have z0 : True := trivial
                          go_enter Tryz.func6, Tryz.ntmps6
                          go_wp2_with (first
                            | (have hq := z14; clear hq; refine v_decl rfl rfl 28 rfl (.tmp 10) (.tmp 79) rfl zE X z28 (fun _ => rfl) (fun _ => rfl) (by rw [x28]; rfl) (sz28 x28) x1 hc ?_; intro wq Nq hcq _; replace hc := hcq; clear hcq; clear z14)
                            | (have hq := z13; clear hq; go_at_call 25; refine (kP _ (hB.trans (hc.bel.mono hB.size))).mono ?_; rintro r wq ⟨X, rfl, hX, hbq⟩; replace hc := hc.call hbq; have x28 := hX.sz; have x1 := hX.one; obtain ⟨DX, hDX, hinX⟩ := hX.con; have dx6 := hDX.vc.sz; have kch := kCh DX hDX; clear hX hDX kP kCh; clear hbq; clear z13; have z14 : True := trivial)
                            | (have hq := z12; clear hq; go_at_call 24; refine (kF _ (hB.trans (hc.bel.mono hB.size))).mono ?_; rintro r wq ⟨rfl, hbq⟩; replace hc := hc.call hbq; clear kF; clear hbq; clear z12; have z13 : True := trivial)
                            | (have hq := z11; clear hq; refine v_part rfl 26 (.tmp 71) rfl 0 D rfl hc rfl hin _ Tryz.underlying26 rfl (sz26 d6) ?_; clear z11; have z12 : True := trivial)
                            | (have hq := z10; clear hq; go_at_call 23; refine (kX _).mono ?_; rintro r wq ⟨rfl, hbq⟩; replace hc := hc.call hbq; clear kX; clear hbq; clear z10; have z11 : True := trivial)
                            | (have hq := z9; clear hq; refine v_load rfl 28 (.tmp 2) rfl 0 rfl hc rfl _ Tryz.underlying28 rfl (sz28 hE) ?_; clear z9; have z10 : True := trivial)
                            | (have hq := z8; clear hq; go_at_call 22; refine (kO _ (hB.trans (hc.bel.mono hB.size))).mono ?_; rintro r wq ⟨rfl, hbq⟩; replace hc := hc.call hbq; replace c3 := hc.cell 0 rfl 3 e3; have c4 := hc.cell 0 rfl 4 e4; have c5 := hc.cell 0 rfl 5 e5; clear kO; clear hbq; clear z8; have z9 : True := trivial)
                            | (have hq := z7; clear hq; refine v_load rfl 28 (.tmp 2) rfl 0 rfl hc rfl _ Tryz.underlying28 rfl (sz28 hE) ?_; clear z7; have z8 : True := trivial)
                            | (have hq := z6; clear hq; go_at_call 21; refine (kB _ (hB.trans (hc.bel.mono hB.size))).mono ?_; rintro r wq ⟨rfl, hbq⟩; replace hc := hc.call hbq; replace c3 := hc.cell 0 rfl 3 e3; clear kB; clear hbq; clear z6; have z7 : True := trivial)
                            | (have hq := z5; clear hq; go_at_call 20; refine (kV _ (hB.trans (hc.bel.mono hB.size))).mono ?_; rintro r wq ⟨rfl, hbq⟩; replace hc := hc.call hbq; replace c3 := hc.cell 0 rfl 3 e3; clear kV; clear hbq; clear z5; have z6 : True := trivial)
                            | (have hq := z4; clear hq; go_at_call 18; refine (kL _ (hB.trans (hc.bel.mono hB.size))).mono ?_; rintro r wq ⟨rfl, hbq⟩; replace hc := hc.call hbq; have c1 := hc.cell 0 rfl 1 e1; have c3 := hc.cell 0 rfl 3 e3; clear kL; clear hbq; clear z4; have z5 : True := trivial)
                            | (have hq := z3; clear hq; refine v_load rfl 28 (.tmp 2) rfl 0 rfl hc rfl _ Tryz.underlying28 rfl (sz28 hE) ?_; clear z3; have z4 : True := trivial)
                            | (have hq := z2; clear hq; go_at_call 16; refine (kI _).mono ?_; rintro r wq ⟨rfl, hbq⟩; replace hc := hc.call hbq; clear kI; clear hbq; clear z2; have z3 : True := trivial)
                            | (have hq := z1; clear hq; refine v_load rfl 28 (.tmp 2) rfl 0 rfl hc rfl _ Tryz.underlying28 rfl (sz28 hE) ?_; clear z1; have z2 : True := trivial)
                            | (have hq := z0; clear hq; refine v_box rfl 28 (.tmp 0) rfl C rfl hc ?_; intro wq Nq hcq _; replace hc := hcq; clear hcq; clear z0; have z1 : True := trivial))
                          all_goals
                            go_ret
                            exact ⟨rfl, hc.bel⟩
                        · rw [if_pos rfl]
                          show Calls Tryz.prog 6 #[.agg C, v] w fun r w' => r = .returned (.int .i64 rW) ∧ Below w.heap.size w w'
                          have z0 : True := trivial
                          go_enter Tryz.func6, Tryz.ntmps6
                          go_wp2_with (first
                            | (have hq := z17; clear hq; go_at_call 26; refine (kch _ (hB.trans (hc.bel.mono hB.size))).mono ?_; rintro r wq ⟨rfl, hbq⟩; replace hc := hc.call hbq; clear kch; clear hbq; clear z17)
                            | (have hq := z16; clear hq; refine v_part rfl 26 (.tmp 84) rfl 0 DX rfl hc rfl hinX _ Tryz.underlying26 rfl (sz26 dx6) ?_; clear z16; have z17 : True := trivial)
                            | (have hq := z15; clear hq; refine v_load rfl 28 (.tmp 2) rfl 1 rfl hc rfl _ Tryz.underlying28 rfl (sz28 hE) ?_; clear z15; have z16 : True := trivial)
                            | (have hq := z14; clear hq; refine v_decl rfl rfl 28 rfl (.tmp 10) (.tmp 79) rfl zE X z28 (fun _ => rfl) (fun _ => rfl) (by rw [x28]; rfl) (sz28 x28) x1 hc ?_; intro wq Nq hcq _; replace hc := hcq; clear hcq; clear z14; have z15 : True := trivial)
                            | (have hq := z13; clear hq; go_at_call 25; refine (kP _ (hB.trans (hc.bel.mono hB.size))).mono ?_; rintro r wq ⟨X, rfl, hX, hbq⟩; replace hc := hc.call hbq; have x28 := hX.sz; have x1 := hX.one; obtain ⟨DX, hDX, hinX⟩ := hX.con; have dx6 := hDX.vc.sz; have kch := kCh DX hDX; clear hX hDX kP kCh; clear hbq; clear z13; have z14 : True := trivial)
                            | (have hq := z12; clear hq; go_at_call 24; refine (kF _ (hB.trans (hc.bel.mono hB.size))).mono ?_; rintro r wq ⟨rfl, hbq⟩; replace hc := hc.call hbq; clear kF; clear hbq; clear z12; have z13 : True := trivial)
                            | (have hq := z11; clear hq; refine v_part rfl 26 (.tmp 71) rfl 0 D rfl hc rfl hin _ Tryz.underlying26 rfl (sz26 d6) ?_; clear z11; have z12 : True := trivial)
                            | (have hq := z10; clear hq; go_at_call 23; refine (kX _).mono ?_; rintro r wq ⟨rfl, hbq⟩; replace hc := hc.call hbq; clear kX; clear hbq; clear z10; have z11 : True := trivial)
                            | (have hq := z9; clear hq; refine v_load rfl 28 (.tmp 2) rfl 0 rfl hc rfl _ Tryz.underlying28 rfl (sz28 hE) ?_; clear z9; have z10 : True := trivial)
                            | (have hq := z8; clear hq; go_at_call 22; refine (kO _ (hB.trans (hc.bel.mono hB.size))).mono ?_; rintro r wq ⟨rfl, hbq⟩; replace hc := hc.call hbq; replace c3 := hc.cell 0 rfl 3 e3; have c4 := hc.cell 0 rfl 4 e4; have c5 := hc.cell 0 rfl 5 e5; clear kO; clear hbq; clear z8; have z9 : True := trivial)
                            | (have hq := z7; clear hq; refine v_load rfl 28 (.tmp 2) rfl 0 rfl hc rfl _ Tryz.underlying28 rfl (sz28 hE) ?_; clear z7; have z8 : True := trivial)
                            | (have hq := z6; clear hq; go_at_call 21; refine (kB _ (hB.trans (hc.bel.mono hB.size))).mono ?_; rintro r wq ⟨rfl, hbq⟩; replace hc := hc.call hbq; replace c3 := hc.cell 0 rfl 3 e3; clear kB; clear hbq; clear z6; have z7 : True := trivial)
                            | (have hq := z5; clear hq; go_at_call 20; refine (kV _ (hB.trans (hc.bel.mono hB.size))).mono ?_; rintro r wq ⟨rfl, hbq⟩; replace hc := hc.call hbq; replace c3 := hc.cell 0 rfl 3 e3; clear kV; clear hbq; clear z5; have z6 : True := trivial)
                            | (have hq := z4; clear hq; go_at_call 18; refine (kL _ (hB.trans (hc.bel.mono hB.size))).mono ?_; rintro r wq ⟨rfl, hbq⟩; replace hc := hc.call hbq; have c1 := hc.cell 0 rfl 1 e1; have c3 := hc.cell 0 rfl 3 e3; clear kL; clear hbq; clear z4; have z5 : True := trivial)
                            | (have hq := z3; clear hq; refine v_load rfl 28 (.tmp 2) rfl 0 rfl hc rfl _ Tryz.underlying28 rfl (sz28 hE) ?_; clear z3; have z4 : True := trivial)
                            | (have hq := z2; clear hq; go_at_call 16; refine (kI _).mono ?_; rintro r wq ⟨rfl, hbq⟩; replace hc := hc.call hbq; clear kI; clear hbq; clear z2; have z3 : True := trivial)
                            | (have hq := z1; clear hq; refine v_load rfl 28 (.tmp 2) rfl 0 rfl hc rfl _ Tryz.underlying28 rfl (sz28 hE) ?_; clear z1; have z2 : True := trivial)
                            | (have hq := z0; clear hq; refine v_box rfl 28 (.tmp 0) rfl C rfl hc ?_; intro wq Nq hcq _; replace hc := hcq; clear hcq; clear z0; have z1 : True := trivial))
                          all_goals
                            go_ret
                            exact ⟨rfl, hc.bel⟩
                  · cases K
                    · cases hq
                    · clear hq
                      cases fL
                      · rw [if_neg Bool.false_ne_true]
                        show Calls Tryz.prog 6 #[.agg C, v] w fun r w' => r = .returned (.int .i64 0) ∧ Below w.heap.size w w'
                        have z0 : True := trivial
                        go_enter Tryz.func6, Tryz.ntmps6
                        go_wp2_with (first
                          | (have hq := z10; clear hq; go_at_call 23; refine (kX _).mono ?_; rintro r wq ⟨rfl, hbq⟩; replace hc := hc.call hbq; clear kX; clear hbq; clear z10)
                          | (have hq := z9; clear hq; refine v_load rfl 28 (.tmp 2) rfl 0 rfl hc rfl _ Tryz.underlying28 rfl (sz28 hE) ?_; clear z9; have z10 : True := trivial)
                          | (have hq := z8; clear hq; go_at_call 22; refine (kO _ (hB.trans (hc.bel.mono hB.size))).mono ?_; rintro r wq ⟨rfl, hbq⟩; replace hc := hc.call hbq; replace c3 := hc.cell 0 rfl 3 e3; have c4 := hc.cell 0 rfl 4 e4; have c5 := hc.cell 0 rfl 5 e5; clear kO; clear hbq; clear z8; have z9 : True := trivial)
                          | (have hq := z7; clear hq; refine v_load rfl 28 (.tmp 2) rfl 0 rfl hc rfl _ Tryz.underlying28 rfl (sz28 hE) ?_; clear z7; have z8 : True := trivial)
                          | (have hq := z6; clear hq; go_at_call 21; refine (kB _ (hB.trans (hc.bel.mono hB.size))).mono ?_; rintro r wq ⟨rfl, hbq⟩; replace hc := hc.call hbq; replace c3 := hc.cell 0 rfl 3 e3; clear kB; clear hbq; clear z6; have z7 : True := trivial)
                          | (have hq := z5; clear hq; go_at_call 20; refine (kV _ (hB.trans (hc.bel.mono hB.size))).mono ?_; rintro r wq ⟨rfl, hbq⟩; replace hc := hc.call hbq; replace c3 := hc.cell 0 rfl 3 e3; clear kV; clear hbq; clear z5; have z6 : True := trivial)
                          | (have hq := z4; clear hq; go_at_call 18; refine (kL _ (hB.trans (hc.bel.mono hB.size))).mono ?_; rintro r wq ⟨rfl, hbq⟩; replace hc := hc.call hbq; have c1 := hc.cell 0 rfl 1 e1; have c3 := hc.cell 0 rfl 3 e3; clear kL; clear hbq; clear z4; have z5 : True := trivial)
                          | (have hq := z3; clear hq; refine v_load rfl 28 (.tmp 2) rfl 0 rfl hc rfl _ Tryz.underlying28 rfl (sz28 hE) ?_; clear z3; have z4 : True := trivial)
                          | (have hq := z2; clear hq; go_at_call 16; refine (kI _).mono ?_; rintro r wq ⟨rfl, hbq⟩; replace hc := hc.call hbq; clear kI; clear hbq; clear z2; have z3 : True := trivial)
                          | (have hq := z1; clear hq; refine v_load rfl 28 (.tmp 2) rfl 0 rfl hc rfl _ Tryz.underlying28 rfl (sz28 hE) ?_; clear z1; have z2 : True := trivial)
                          | (have hq := z0; clear hq; refine v_box rfl 28 (.tmp 0) rfl C rfl hc ?_; intro wq Nq hcq _; replace hc := hcq; clear hcq; clear z0; have z1 : True := trivial))
                        all_goals
                          go_ret
                          exact ⟨rfl, hc.bel⟩
                      · rw [if_pos rfl]
                        cases fF
                        · rw [if_neg Bool.false_ne_true]
                          show Calls Tryz.prog 6 #[.agg C, v] w fun r w' => r = .returned (.int .i64 43) ∧ Below w.heap.size w w'
                          have z0 : True := trivial
                          go_enter Tryz.func6, Tryz.ntmps6
                          go_wp2_with (first
                            | (have hq := z12; clear hq; go_at_call 24; refine (kF _ (hB.trans (hc.bel.mono hB.size))).mono ?_; rintro r wq ⟨rfl, hbq⟩; replace hc := hc.call hbq; clear kF; clear hbq; clear z12)
                            | (have hq := z11; clear hq; refine v_part rfl 26 (.tmp 71) rfl 0 D rfl hc rfl hin _ Tryz.underlying26 rfl (sz26 d6) ?_; clear z11; have z12 : True := trivial)
                            | (have hq := z10; clear hq; go_at_call 23; refine (kX _).mono ?_; rintro r wq ⟨rfl, hbq⟩; replace hc := hc.call hbq; clear kX; clear hbq; clear z10; have z11 : True := trivial)
                            | (have hq := z9; clear hq; refine v_load rfl 28 (.tmp 2) rfl 0 rfl hc rfl _ Tryz.underlying28 rfl (sz28 hE) ?_; clear z9; have z10 : True := trivial)
                            | (have hq := z8; clear hq; go_at_call 22; refine (kO _ (hB.trans (hc.bel.mono hB.size))).mono ?_; rintro r wq ⟨rfl, hbq⟩; replace hc := hc.call hbq; replace c3 := hc.cell 0 rfl 3 e3; have c4 := hc.cell 0 rfl 4 e4; have c5 := hc.cell 0 rfl 5 e5; clear kO; clear hbq; clear z8; have z9 : True := trivial)
                            | (have hq := z7; clear hq; refine v_load rfl 28 (.tmp 2) rfl 0 rfl hc rfl _ Tryz.underlying28 rfl (sz28 hE) ?_; clear z7; have z8 : True := trivial)
                            | (have hq := z6; clear hq; go_at_call 21; refine (kB _ (hB.trans (hc.bel.mono hB.size))).mono ?_; rintro r wq ⟨rfl, hbq⟩; replace hc := hc.call hbq; replace c3 := hc.cell 0 rfl 3 e3; clear kB; clear hbq; clear z6; have z7 : True := trivial)
                            | (have hq := z5; clear hq; go_at_call 20; refine (kV _ (hB.trans (hc.bel.mono hB.size))).mono ?_; rintro r wq ⟨rfl, hbq⟩; replace hc := hc.call hbq; replace c3 := hc.cell 0 rfl 3 e3; clear kV; clear hbq; clear z5; have z6 : True := trivial)
                            | (have hq := z4; clear hq; go_at_call 18; refine (kL _ (hB.trans (hc.bel.mono hB.size))).mono ?_; rintro r wq ⟨rfl, hbq⟩; replace hc := hc.call hbq; have c1 := hc.cell 0 rfl 1 e1; have c3 := hc.cell 0 rfl 3 e3; clear kL; clear hbq; clear z4; have z5 : True := trivial)
                            | (have hq := z3; clear hq; refine v_load rfl 28 (.tmp 2) rfl 0 rfl hc rfl _ Tryz.underlying28 rfl (sz28 hE) ?_; clear z3; have z4 : True := trivial)
                            | (have hq := z2; clear hq; go_at_call 16; refine (kI _).mono ?_; rintro r wq ⟨rfl, hbq⟩; replace hc := hc.call hbq; clear kI; clear hbq; clear z2; have z3 : True := trivial)
                            | (have hq := z1; clear hq; refine v_load rfl 28 (.tmp 2) rfl 0 rfl hc rfl _ Tryz.underlying28 rfl (sz28 hE) ?_; clear z1; have z2 : True := trivial)
                            | (have hq := z0; clear hq; refine v_box rfl 28 (.tmp 0) rfl C rfl hc ?_; intro wq Nq hcq _; replace hc := hcq; clear hcq; clear z0; have z1 : True := trivial))
                          all_goals
                            go_ret
                            exact ⟨rfl, hc.bel⟩
                        · rw [if_pos rfl]
                          cases hL
                          · rw [if_neg Bool.false_ne_true]
                            show Calls Tryz.prog 6 #[.agg C, v] w fun r w' => r = .returned (.int .i64 0) ∧ Below w.heap.size w w'
                            have z0 : True := trivial
                            go_enter Tryz.func6, Tryz.ntmps6
                            go_wp2_with (first
                              | (have hq := z14; clear hq; refine v_decl rfl rfl 28 rfl (.tmp 10) (.tmp 79) rfl zE X z28 (fun _ => rfl) (fun _ => rfl) (by rw [x28]; rfl) (sz28 x28) x1 hc ?_; intro wq Nq hcq _; replace hc := hcq; clear hcq; clear z14)
                              | (have hq := z13; clear hq; go_at_call 25; refine (kP _ (hB.trans (hc.bel.mono hB.size))).mono ?_; rintro r wq ⟨X, rfl, hX, hbq⟩; replace hc := hc.call hbq; have x28 := hX.sz; have x1 := hX.one; obtain ⟨DX, hDX, hinX⟩ := hX.con; have dx6 := hDX.vc.sz; have kch := kCh DX hDX; clear hX hDX kP kCh; clear hbq; clear z13; have z14 : True := trivial)
                              | (have hq := z12; clear hq; go_at_call 24; refine (kF _ (hB.trans (hc.bel.mono hB.size))).mono ?_; rintro r wq ⟨rfl, hbq⟩; replace hc := hc.call hbq; clear kF; clear hbq; clear z12; have z13 : True := trivial)
                              | (have hq := z11; clear hq; refine v_part rfl 26 (.tmp 71) rfl 0 D rfl hc rfl hin _ Tryz.underlying26 rfl (sz26 d6) ?_; clear z11; have z12 : True := trivial)
                              | (have hq := z10; clear hq; go_at_call 23; refine (kX _).mono ?_; rintro r wq ⟨rfl, hbq⟩; replace hc := hc.call hbq; clear kX; clear hbq; clear z10; have z11 : True := trivial)
                              | (have hq := z9; clear hq; refine v_load rfl 28 (.tmp 2) rfl 0 rfl hc rfl _ Tryz.underlying28 rfl (sz28 hE) ?_; clear z9; have z10 : True := trivial)
                              | (have hq := z8; clear hq; go_at_call 22; refine (kO _ (hB.trans (hc.bel.mono hB.size))).mono ?_; rintro r wq ⟨rfl, hbq⟩; replace hc := hc.call hbq; replace c3 := hc.cell 0 rfl 3 e3; have c4 := hc.cell 0 rfl 4 e4; have c5 := hc.cell 0 rfl 5 e5; clear kO; clear hbq; clear z8; have z9 : True := trivial)
                              | (have hq := z7; clear hq; refine v_load rfl 28 (.tmp 2) rfl 0 rfl hc rfl _ Tryz.underlying28 rfl (sz28 hE) ?_; clear z7; have z8 : True := trivial)
                              | (have hq := z6; clear hq; go_at_call 21; refine (kB _ (hB.trans (hc.bel.mono hB.size))).mono ?_; rintro r wq ⟨rfl, hbq⟩; replace hc := hc.call hbq; replace c3 := hc.cell 0 rfl 3 e3; clear kB; clear hbq; clear z6; have z7 : True := trivial)
                              | (have hq := z5; clear hq; go_at_call 20; refine (kV _ (hB.trans (hc.bel.mono hB.size))).mono ?_; rintro r wq ⟨rfl, hbq⟩; replace hc := hc.call hbq; replace c3 := hc.cell 0 rfl 3 e3; clear kV; clear hbq; clear z5; have z6 : True := trivial)
                              | (have hq := z4; clear hq; go_at_call 18; refine (kL _ (hB.trans (hc.bel.mono hB.size))).mono ?_; rintro r wq ⟨rfl, hbq⟩; replace hc := hc.call hbq; have c1 := hc.cell 0 rfl 1 e1; have c3 := hc.cell 0 rfl 3 e3; clear kL; clear hbq; clear z4; have z5 : True := trivial)
                              | (have hq := z3; clear hq; refine v_load rfl 28 (.tmp 2) rfl 0 rfl hc rfl _ Tryz.underlying28 rfl (sz28 hE) ?_; clear z3; have z4 : True := trivial)
                              | (have hq := z2; clear hq; go_at_call 16; refine (kI _).mono ?_; rintro r wq ⟨rfl, hbq⟩; replace hc := hc.call hbq; clear kI; clear hbq; clear z2; have z3 : True := trivial)
                              | (have hq := z1; clear hq; refine v_load rfl 28 (.tmp 2) rfl 0 rfl hc rfl _ Tryz.underlying28 rfl (sz28 hE) ?_; clear z1; have z2 : True := trivial)
                              | (have hq := z0; clear hq; refine v_box rfl 28 (.tmp 0) rfl C rfl hc ?_; intro wq Nq hcq _; replace hc := hcq; clear hcq; clear z0; have z1 : True := trivial))
                            all_goals
                              go_ret
                              exact ⟨rfl, hc.bel⟩
                          · rw [if_pos rfl]
                            show Calls Tryz.prog 6 #[.agg C, v] w fun r w' => r = .returned (.int .i64 rW) ∧ Below w.heap.size w w'
                            have z0 : True := trivial
                            go_enter Tryz.func6, Tryz.ntmps6
                            go_wp2_with (first
                              | (have hq := z17; clear hq; go_at_call 26; refine (kch _ (hB.trans (hc.bel.mono hB.size))).mono ?_; rintro r wq ⟨rfl, hbq⟩; replace hc := hc.call hbq; clear kch; clear hbq; clear z17)
                              | (have hq := z16; clear hq; refine v_part rfl 26 (.tmp 84) rfl 0 DX rfl hc rfl hinX _ Tryz.underlying26 rfl (sz26 dx6) ?_; clear z16; have z17 : True := trivial)
                              | (have hq := z15; clear hq; refine v_load rfl 28 (.tmp 2) rfl 1 rfl hc rfl _ Tryz.underlying28 rfl (sz28 hE) ?_; clear z15; have z16 : True := trivial)
                              | (have hq := z14; clear hq; refine v_decl rfl rfl 28 rfl (.tmp 10) (.tmp 79) rfl zE X z28 (fun _ => rfl) (fun _ => rfl) (by rw [x28]; rfl) (sz28 x28) x1 hc ?_; intro wq Nq hcq _; replace hc := hcq; clear hcq; clear z14; have z15 : True := trivial)
                              | (have hq := z13; clear hq; go_at_call 25; refine (kP _ (hB.trans (hc.bel.mono hB.size))).mono ?_; rintro r wq ⟨X, rfl, hX, hbq⟩; replace hc := hc.call hbq; have x28 := hX.sz; have x1 := hX.one; obtain ⟨DX, hDX, hinX⟩ := hX.con; have dx6 := hDX.vc.sz; have kch := kCh DX hDX; clear hX hDX kP kCh; clear hbq; clear z13; have z14 : True := trivial)
                              | (have hq := z12; clear hq; go_at_call 24; refine (kF _ (hB.trans (hc.bel.mono hB.size))).mono ?_; rintro r wq ⟨rfl, hbq⟩; replace hc := hc.call hbq; clear kF; clear hbq; clear z12; have z13 : True := trivial)
                              | (have hq := z11; clear hq; refine v_part rfl 26 (.tmp 71) rfl 0 D rfl hc rfl hin _ Tryz.underlying26 rfl (sz26 d6) ?_; clear z11; have z12 : True := trivial)
                              | (have hq := z10; clear hq; go_at_call 23; refine (kX _).mono ?_; rintro r wq ⟨rfl, hbq⟩; replace hc := hc.call hbq; clear kX; clear hbq; clear z10; have z11 : True := trivial)
                              | (have hq := z9; clear hq; refine v_load rfl 28 (.tmp 2) rfl 0 rfl hc rfl _ Tryz.underlying28 rfl (sz28 hE) ?_; clear z9; have z10 : True := trivial)
                              | (have hq := z8; clear hq; go_at_call 22; refine (kO _ (hB.trans (hc.bel.mono hB.size))).mono ?_; rintro r wq ⟨rfl, hbq⟩; replace hc := hc.call hbq; replace c3 := hc.cell 0 rfl 3 e3; have c4 := hc.cell 0 rfl 4 e4; have c5 := hc.cell 0 rfl 5 e5; clear kO; clear hbq; clear z8; have z9 : True := trivial)
                              | (have hq := z7; clear hq; refine v_load rfl 28 (.tmp 2) rfl 0 rfl hc rfl _ Tryz.underlying28 rfl (sz28 hE) ?_; clear z7; have z8 : True := trivial)
                              | (have hq := z6; clear hq; go_at_call 21; refine (kB _ (hB.trans (hc.bel.mono hB.size))).mono ?_; rintro r wq ⟨rfl, hbq⟩; replace hc := hc.call hbq; replace c3 := hc.cell 0 rfl 3 e3; clear kB; clear hbq; clear z6; have z7 : True := trivial)
                              | (have hq := z5; clear hq; go_at_call 20; refine (kV _ (hB.trans (hc.bel.mono hB.size))).mono ?_; rintro r wq ⟨rfl, hbq⟩; replace hc := hc.call hbq; replace c3 := hc.cell 0 rfl 3 e3; clear kV; clear hbq; clear z5; have z6 : True := trivial)
                              | (have hq := z4; clear hq; go_at_call 18; refine (kL _ (hB.trans (hc.bel.mono hB.size))).mono ?_; rintro r wq ⟨rfl, hbq⟩; replace hc := hc.call hbq; have c1 := hc.cell 0 rfl 1 e1; have c3 := hc.cell 0 rfl 3 e3; clear kL; clear hbq; clear z4; have z5 : True := trivial)
                              | (have hq := z3; clear hq; refine v_load rfl 28 (.tmp 2) rfl 0 rfl hc rfl _ Tryz.underlying28 rfl (sz28 hE) ?_; clear z3; have z4 : True := trivial)
                              | (have hq := z2; clear hq; go_at_call 16; refine (kI _).mono ?_; rintro r wq ⟨rfl, hbq⟩; replace hc := hc.call hbq; clear kI; clear hbq; clear z2; have z3 : True := trivial)
                              | (have hq := z1; clear hq; refine v_load rfl 28 (.tmp 2) rfl 0 rfl hc rfl _ Tryz.underlying28 rfl (sz28 hE) ?_; clear z1; have z2 : True := trivial)
                              | (have hq := z0; clear hq; refine v_box rfl 28 (.tmp 0) rfl C rfl hc ?_; intro wq Nq hcq _; replace hc := hcq; clear hcq; clear z0; have z1 : True := trivial))
                            all_goals
                              go_ret
                              exact ⟨rfl, hc.bel⟩
            · exact HT.out rfl
        · rw [decide_eq_false hJ] at qJ
          rw [if_neg hJ]
          clear hJ
          show Calls Tryz.prog 6 #[.agg C, v] w fun r w' => r = .returned (.int .i64 40) ∧ Below w.heap.size w w'
          have z0 : True := trivial
          go_enter Tryz.func6, Tryz.ntmps6
          go_wp2_with (first
            | (have hq := z6; clear hq; go_at_call 21; refine (kB _ (hB.trans (hc.bel.mono hB.size))).mono ?_; rintro r wq ⟨rfl, hbq⟩; replace hc := hc.call hbq; replace c3 := hc.cell 0 rfl 3 e3; clear kB; clear hbq; clear z6)
            | (have hq := z5; clear hq; go_at_call 20; refine (kV _ (hB.trans (hc.bel.mono hB.size))).mono ?_; rintro r wq ⟨rfl, hbq⟩; replace hc := hc.call hbq; replace c3 := hc.cell 0 rfl 3 e3; clear kV; clear hbq; clear z5; have z6 : True := trivial)
            | (have hq := z4; clear hq; go_at_call 18; refine (kL _ (hB.trans (hc.bel.mono hB.size))).mono ?_; rintro r wq ⟨rfl, hbq⟩; replace hc := hc.call hbq; have c1 := hc.cell 0 rfl 1 e1; have c3 := hc.cell 0 rfl 3 e3; clear kL; clear hbq; clear z4; have z5 : True := trivial)
            | (have hq := z3; clear hq; refine v_load rfl 28 (.tmp 2) rfl 0 rfl hc rfl _ Tryz.underlying28 rfl (sz28 hE) ?_; clear z3; have z4 : True := trivial)
            | (have hq := z2; clear hq; go_at_call 16; refine (kI _).mono ?_; rintro r wq ⟨rfl, hbq⟩; replace hc := hc.call hbq; clear kI; clear hbq; clear z2; have z3 : True := trivial)
            | (have hq := z1; clear hq; refine v_load rfl 28 (.tmp 2) rfl 0 rfl hc rfl _ Tryz.underlying28 rfl (sz28 hE) ?_; clear z1; have z2 : True := trivial)
            | (have hq := z0; clear hq; refine v_box rfl 28 (.tmp 0) rfl C rfl hc ?_; intro wq Nq hcq _; replace hc := hcq; clear hcq; clear z0; have z1 : True := trivial))
          all_goals
            go_ret
            exact ⟨rfl, hc.bel⟩
    · have hn' : (rL != 0) = true := by simp [hn]
      simp only [Bool.false_eq_true, if_false, hn]
      show Calls Tryz.prog 6 #[.agg C, v] w fun r w' => r = .returned (.int .i64 rL) ∧ Below w.heap.size w w'
      have z0 : True := trivial
      go_enter Tryz.func6, Tryz.ntmps6
      go_wp2_with (first
        | (have hq := z4; clear hq; go_at_call 18; refine (kL _ (hB.trans (hc.bel.mono hB.size))).mono ?_; rintro r wq ⟨rfl, hbq⟩; replace hc := hc.call hbq; have c1 := hc.cell 0 rfl 1 e1; have c3 := hc.cell 0 rfl 3 e3; clear kL; clear hbq; clear z4)
        | (have hq := z3; clear hq; refine v_load rfl 28 (.tmp 2) rfl 0 rfl hc rfl _ Tryz.underlying28 rfl (sz28 hE) ?_; clear z3; have z4 : True := trivial)
        | (have hq := z2; clear hq; go_at_call 16; refine (kI _).mono ?_; rintro r wq ⟨rfl, hbq⟩; replace hc := hc.call hbq; clear kI; clear hbq; clear z2; have z3 : True := trivial)
        | (have hq := z1; clear hq; refine v_load rfl 28 (.tmp 2) rfl 0 rfl hc rfl _ Tryz.underlying28 rfl (sz28 hE) ?_; clear z1; have z2 : True := trivial)
        | (have hq := z0; clear hq; refine v_box rfl 28 (.tmp 0) rfl C rfl hc ?_; intro wq Nq hcq _; replace hc := hcq; clear hcq; clear z0; have z1 : True := trivial))
      all_goals
        go_ret
        exact ⟨rfl, hc.bel⟩
  · rw [if_pos rfl]
    show Calls Tryz.prog 6 #[.agg C, v] w fun r w' => r = .returned (.int .i64 rC) ∧ Below w.heap.size w w'
    have z0 : True := trivial
    go_enter Tryz.func6, Tryz.ntmps6
    go_wp2_with (first
      | (have hq := z4; clear hq; go_at_call 17; refine (kC _ (hB.trans (hc.bel.mono hB.size))).mono ?_; rintro r wq ⟨rfl, hbq⟩; replace hc := hc.call hbq; clear kC; clear hbq; clear z4)
      | (have hq := z3; clear hq; refine v_load rfl 28 (.tmp 2) rfl 0 rfl hc rfl _ Tryz.underlying28 rfl (sz28 hE) ?_; clear z3; have z4 : True := trivial)
      | (have hq := z2; clear hq; go_at_call 16; refine (kI _).mono ?_; rintro r wq ⟨rfl, hbq⟩; replace hc := hc.call hbq; clear kI; clear hbq; clear z2; have z3 : True := trivial)
      | (have hq := z1; clear hq; refine v_load rfl 28 (.tmp 2) rfl 0 rfl hc rfl _ Tryz.underlying28 rfl (sz28 hE) ?_; clear z1; have z2 : True := trivial)
      | (have hq := z0; clear hq; refine v_box rfl 28 (.tmp 0) rfl C rfl hc ?_; intro wq Nq hcq _; replace hc := hcq; clear hcq; clear z0; have z1 : True := trivial))
    all_goals
      go_ret
      exact ⟨rfl, hc.bel⟩
end Go.Proofs.YthplcnbfpcndbaaGreatDoor

namespace Go.Proofs.YthplcnbfpcndbaaGreatDoor
open Go.RowKit

set_option maxRecDepth 100000 in
set_option maxHeartbeats 8000000 in
theorem checks_law (e : EV) (l : List EV) (C : Array Value) (v : Value) (w : World) (he : EC w e C) (hl : EvsAt w v l) (hg : Sing w) :
    Calls Tryz.prog 3 #[.agg C, v] w fun r w' => r = .returned (.bool true) ∧ Below w.heap.size w w' := by
  have hB : Below w.heap.size w w := Below.refl _ _
  have hc := Ctx.start w
  have hE := he.sz
  have ku := fun W => up_any W
  have kA := fun W h => check_any chkV e l C v w W h he hl (fun _ W2 h2 => checkLevels_any e l C v w W2 h2 he hl hg)
  have kR := fun W h => rcheck_any e l C v w W h he hl
  clear he hl hg
  obtain ⟨n, hn⟩ : ∃ n, chk chkV e l = n := ⟨_, rfl⟩
  rw [hn] at kA kR
  clear hn
  have hnn : (n == n) = true := by simp
  go_enter Tryz.func3, Tryz.ntmps3
  go_wp2_with (first
    | (refine v_box rfl 28 (.tmp 0) rfl C rfl hc ?_; intro wq Nq hcq _; replace hc := hcq; clear hcq)
    | (go_at_call 4; refine (ku _).mono ?_; rintro r w1 ⟨rfl, hbq⟩; replace hc := hc.call hbq; clear hbq ku))
  have HQ0 := (show Hid _ from hc.clr 0 rfl)
  have HT := (show Hid _ from hc.to hB)
  have hne := Cl.ne w1.heap.size w1
  refine region_cl (N := w1.heap.size) (W := w1) (by kernel_rfl) (by kernel_rfl) (Below.refl _ _) ?_
  go_big_quiet_step (fail)
  go_big_quiet_step (fail)
  go_big_quiet_want
  refine quiet_load 28 _ rfl _ 0 rfl C.toList _ HQ0.out Tryz.underlying28 rfl (by simpa using sz28 hE) ?_
  simp only [Act.put, List.setIfInBounds_toArray, List.set_cons_zero, List.set_cons_succ, Array.toArray_toList]
  go_big_quiet_on
  go_big_quiet_step (fail)
  go_big_quiet_step ((go_at_call 5; exact cl_of (kA _ (HT.out _)) (Nat.le_refl _)))
  go_big_quiet_want
  refine quiet_load 28 _ rfl _ 0 rfl C.toList _ HQ0.out Tryz.underlying28 rfl (by simpa using sz28 hE) ?_
  simp only [Act.put, List.setIfInBounds_toArray, List.set_cons_zero, List.set_cons_succ, Array.toArray_toList]
  go_big_quiet_on
  go_big_quiet_step (fail)
  go_big_quiet_step ((go_at_call 6; exact cl_of (kR _ (HT.out _)) (Nat.le_refl _)))
  repeat (go_big_quiet_step (fail))
  refine wpQuiet_nil ?_
  rintro wz ⟨x, hwx⟩
  have hx : Below w1.heap.size w1 wz := hwx ▸ x.h
  clear hwx x
  go_wp2
  go_ret
  exact ⟨rfl, (hc.call hx).bel⟩
end Go.Proofs.YthplcnbfpcndbaaGreatDoor

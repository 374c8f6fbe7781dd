/- The reference's rules on a create: walked. The reference's rules on members, but for a join: walked. The reference's rules on a join, and on members whole: walked. -/
import Derived.Test.YthplcnbfpcndbaaGreatDoorCa
import Derived.Test.YthplcnbfpcndbaaGreatDoorTc
import Derived.Test.YthplcnbfpcndbaaGreatDoorMe
import Derived.Deep.CutRange
namespace Go.Proofs.YthplcnbfpcndbaaGreatDoor
open Go.RowKit

theorem rsplit_any (s : ByteArray) (w : World) (hs : s.size ≤ 1048576) :
    Calls Tryz.prog 46 #[.string s] w fun r w' => ∃ a, r = .returned (.tuple #[.string a, .string (srvB s), .int .i64 (if urL s.data.toList then 0 else 3)]) ∧ Below w.heap.size w w' := by
  cases hu : urL s.data.toList
  · refine (rsplit_bad s w (by omega) hu).mono ?_
    rintro r w' ⟨rfl, hb⟩
    refine ⟨⟨#[]⟩, ?_, hb⟩
    unfold srvB
    rw [hu]
    rfl
  · obtain ⟨j, hj, h1⟩ := ur_parts hu
    refine (rsplit_ok s j w (by omega) hu hj (by simpa using h1)).mono ?_
    rintro r w' ⟨rfl, hb⟩
    refine ⟨s.extract 1 (j + 1), ?_, hb⟩
    unfold srvB
    rw [hu, hj]
    rfl
theorem isR_ur {s : ByteArray} (h : isR s = true) : urL s.data.toList = true := by
  unfold isR at h
  unfold urL
  rw [h, Bool.or_true]
theorem isU_ur {s : ByteArray} (h : isU s = true) : urL s.data.toList = true := by
  unfold isU at h
  unfold urL
  rw [h, Bool.true_or]

set_option maxRecDepth 100000 in
set_option maxHeartbeats 8000000 in
theorem rcreate_any (e : EV) (C : Array Value) (B w : World) (hB : Below B.heap.size B w) (he : EC B e C) :
    Calls Tryz.prog 17 #[.agg C] w fun r w' => r = .returned (.int .i64 (chkC e)) ∧ Below w.heap.size w w' := by
  have hc := Ctx.start w
  have e2 := he.i2
  have e3 := he.i3
  obtain ⟨v6, e6, hv6⟩ := he.i6
  obtain ⟨a6, k6, rfl, -, -⟩ := hv6
  obtain ⟨a7, k7, e7⟩ := he.i7
  obtain ⟨D, hD, hin⟩ := he.con
  have d6 := hD.vc.sz
  have s1 := fun W => rsplit_any e.room W he.s2
  have s2 := fun W => rsplit_any e.snd W he.s3
  have k1 : ∀ W, Calls Tryz.prog 47 #[.string e.room] W fun r w' => r = .returned (.bool (isR e.room)) ∧ w' = W := fun W => rroom_any' e.room W (by have := he.s2; omega)
  have k2 : ∀ W, Calls Tryz.prog 48 #[.string e.snd] W fun r w' => r = .returned (.bool (isU e.snd)) ∧ w' = W := fun W => ruser_any' e.snd W (by have := he.s3; omega)
  have kw := fun W h => rword_any e.con D sVer B W h hD
  have hfst := wordR_f e.con sVer
  have i1 := @isR_ur e.room
  have i2 := @isU_ur e.snd
  have hq := beq_bytes (srvB e.room) (srvB e.snd)
  unfold chkC
  rw [← hfst]
  clear hfst he hD
  obtain ⟨⟨m, mi⟩, hm⟩ : ∃ p, wordR e.con sVer = p := ⟨_, rfl⟩
  rw [hm] at kw ⊢
  clear hm
  simp only at kw ⊢
  have hv := beq_const m s11 (l := [49, 49]) rfl
  generalize isR e.room = R at *
  generalize isU e.snd = U at *
  generalize urL e.room.data.toList = uR at *
  generalize urL e.snd.data.toList = uS at *
  generalize srvB e.room = x at *
  generalize srvB e.snd = y at *
  generalize e.room = rm at *
  generalize e.snd = sn at *
  generalize e.prev.length = n6 at *
  generalize e.auth = n7 at *
  by_cases h6 : n6 = 0
  · rw [if_pos h6]
    subst h6
    by_cases h7 : n7 = 0
    · rw [if_pos h7]
      subst h7
      cases uR
      · have hR : R = false := by cases R; rfl; exact (i1 rfl).symm
        subst hR
        clear i1 i2
        simp only [Bool.false_eq_true, if_false]
        show Calls Tryz.prog 17 #[.agg C] w fun r w' => r = .returned (.int .i64 3) ∧ Below w.heap.size w w'
        have z0 : True := trivial
        go_enter Tryz.func17, Tryz.ntmps17
        go_wp2_with (first
          | (have hq := z6; clear hq; go_at_call 49; refine (kw _ (hB.trans (hc.bel.mono hB.size))).mono ?_; rintro r wq ⟨rfl, hbq⟩; replace hc := hc.call hbq; have c6 := hc.cell 0 rfl 6 e6; have c7 := hc.cell 0 rfl 7 e7; clear kw; clear hbq; clear z6; have z7 : True := trivial)
          | (have hq := z5; clear hq; refine v_part rfl 26 (.tmp 34) rfl 0 D rfl hc rfl hin _ Tryz.underlying26 rfl (sz26 d6) ?_; clear z5; have z6 : True := trivial)
          | (have hq := z4; clear hq; go_at_call 48; refine (k2 _).mono ?_; rintro r wq ⟨rfl, rfl⟩; clear k2; clear z4; have z5 : True := trivial)
          | (have hq := z3; clear hq; go_at_call 47; refine (k1 _).mono ?_; rintro r wq ⟨rfl, rfl⟩; clear k1; clear z3; have z4 : True := trivial)
          | (have hq := z2; clear hq; go_at_call 46; refine (s2 _).mono ?_; rintro r wq ⟨a2, rfl, hbq⟩; replace hc := hc.call hbq; replace c2 := hc.cell 0 rfl 2 e2; replace c3 := hc.cell 0 rfl 3 e3; clear s2; clear hbq; clear z2; have z3 : True := trivial)
          | (have hq := z1; clear hq; go_at_call 46; refine (s1 _).mono ?_; rintro r wq ⟨a1, rfl, hbq⟩; replace hc := hc.call hbq; replace c2 := hc.cell 0 rfl 2 e2; replace c3 := hc.cell 0 rfl 3 e3; clear s1; clear hbq; clear z1; have z2 : True := trivial)
          | (have hq := z0; clear hq; refine v_box rfl 28 (.tmp 0) rfl C rfl hc ?_; intro wq Nq hcq _; replace hc := hcq; have c2 := hc.cell 0 rfl 2 e2; have c3 := hc.cell 0 rfl 3 e3; clear hcq; clear z0; have z1 : True := trivial))
        all_goals
          go_ret
          exact ⟨rfl, hc.bel⟩
      · cases uS
        · have hU : U = false := by cases U; rfl; exact (i2 rfl).symm
          subst hU
          clear i1 i2
          have hh : (if R = true then (if false = true then (if x = y then (if m = s11 then 0 else 4) else 3) else 3) else 3 : Int) = 3 := by cases R <;> simp
          rw [hh]
          clear hh
          show Calls Tryz.prog 17 #[.agg C] w fun r w' => r = .returned (.int .i64 3) ∧ Below w.heap.size w w'
          have z0 : True := trivial
          go_enter Tryz.func17, Tryz.ntmps17
          go_wp2_with (first
            | (have hq := z6; clear hq; go_at_call 49; refine (kw _ (hB.trans (hc.bel.mono hB.size))).mono ?_; rintro r wq ⟨rfl, hbq⟩; replace hc := hc.call hbq; have c6 := hc.cell 0 rfl 6 e6; have c7 := hc.cell 0 rfl 7 e7; clear kw; clear hbq; clear z6; have z7 : True := trivial)
            | (have hq := z5; clear hq; refine v_part rfl 26 (.tmp 34) rfl 0 D rfl hc rfl hin _ Tryz.underlying26 rfl (sz26 d6) ?_; clear z5; have z6 : True := trivial)
            | (have hq := z4; clear hq; go_at_call 48; refine (k2 _).mono ?_; rintro r wq ⟨rfl, rfl⟩; clear k2; clear z4; have z5 : True := trivial)
            | (have hq := z3; clear hq; go_at_call 47; refine (k1 _).mono ?_; rintro r wq ⟨rfl, rfl⟩; clear k1; clear z3; have z4 : True := trivial)
            | (have hq := z2; clear hq; go_at_call 46; refine (s2 _).mono ?_; rintro r wq ⟨a2, rfl, hbq⟩; replace hc := hc.call hbq; replace c2 := hc.cell 0 rfl 2 e2; replace c3 := hc.cell 0 rfl 3 e3; clear s2; clear hbq; clear z2; have z3 : True := trivial)
            | (have hq := z1; clear hq; go_at_call 46; refine (s1 _).mono ?_; rintro r wq ⟨a1, rfl, hbq⟩; replace hc := hc.call hbq; replace c2 := hc.cell 0 rfl 2 e2; replace c3 := hc.cell 0 rfl 3 e3; clear s1; clear hbq; clear z1; have z2 : True := trivial)
            | (have hq := z0; clear hq; refine v_box rfl 28 (.tmp 0) rfl C rfl hc ?_; intro wq Nq hcq _; replace hc := hcq; have c2 := hc.cell 0 rfl 2 e2; have c3 := hc.cell 0 rfl 3 e3; clear hcq; clear z0; have z1 : True := trivial))
          all_goals
            go_ret
            exact ⟨rfl, hc.bel⟩
        · clear i1 i2
          cases R
          · show Calls Tryz.prog 17 #[.agg C] w fun r w' => r = .returned (.int .i64 3) ∧ Below w.heap.size w w'
            have z0 : True := trivial
            go_enter Tryz.func17, Tryz.ntmps17
            go_wp2_with (first
              | (have hq := z6; clear hq; go_at_call 49; refine (kw _ (hB.trans (hc.bel.mono hB.size))).mono ?_; rintro r wq ⟨rfl, hbq⟩; replace hc := hc.call hbq; have c6 := hc.cell 0 rfl 6 e6; have c7 := hc.cell 0 rfl 7 e7; clear kw; clear hbq; clear z6; have z7 : True := trivial)
              | (have hq := z5; clear hq; refine v_part rfl 26 (.tmp 34) rfl 0 D rfl hc rfl hin _ Tryz.underlying26 rfl (sz26 d6) ?_; clear z5; have z6 : True := trivial)
              | (have hq := z4; clear hq; go_at_call 48; refine (k2 _).mono ?_; rintro r wq ⟨rfl, rfl⟩; clear k2; clear z4; have z5 : True := trivial)
              | (have hq := z3; clear hq; go_at_call 47; refine (k1 _).mono ?_; rintro r wq ⟨rfl, rfl⟩; clear k1; clear z3; have z4 : True := trivial)
              | (have hq := z2; clear hq; go_at_call 46; refine (s2 _).mono ?_; rintro r wq ⟨a2, rfl, hbq⟩; replace hc := hc.call hbq; replace c2 := hc.cell 0 rfl 2 e2; replace c3 := hc.cell 0 rfl 3 e3; clear s2; clear hbq; clear z2; have z3 : True := trivial)
              | (have hq := z1; clear hq; go_at_call 46; refine (s1 _).mono ?_; rintro r wq ⟨a1, rfl, hbq⟩; replace hc := hc.call hbq; replace c2 := hc.cell 0 rfl 2 e2; replace c3 := hc.cell 0 rfl 3 e3; clear s1; clear hbq; clear z1; have z2 : True := trivial)
              | (have hq := z0; clear hq; refine v_box rfl 28 (.tmp 0) rfl C rfl hc ?_; intro wq Nq hcq _; replace hc := hcq; have c2 := hc.cell 0 rfl 2 e2; have c3 := hc.cell 0 rfl 3 e3; clear hcq; clear z0; have z1 : True := trivial))
            all_goals
              go_ret
              exact ⟨rfl, hc.bel⟩
          · cases U
            · show Calls Tryz.prog 17 #[.agg C] w fun r w' => r = .returned (.int .i64 3) ∧ Below w.heap.size w w'
              have z0 : True := trivial
              go_enter Tryz.func17, Tryz.ntmps17
              go_wp2_with (first
                | (have hq := z6; clear hq; go_at_call 49; refine (kw _ (hB.trans (hc.bel.mono hB.size))).mono ?_; rintro r wq ⟨rfl, hbq⟩; replace hc := hc.call hbq; have c6 := hc.cell 0 rfl 6 e6; have c7 := hc.cell 0 rfl 7 e7; clear kw; clear hbq; clear z6; have z7 : True := trivial)
                | (have hq := z5; clear hq; refine v_part rfl 26 (.tmp 34) rfl 0 D rfl hc rfl hin _ Tryz.underlying26 rfl (sz26 d6) ?_; clear z5; have z6 : True := trivial)
                | (have hq := z4; clear hq; go_at_call 48; refine (k2 _).mono ?_; rintro r wq ⟨rfl, rfl⟩; clear k2; clear z4; have z5 : True := trivial)
                | (have hq := z3; clear hq; go_at_call 47; refine (k1 _).mono ?_; rintro r wq ⟨rfl, rfl⟩; clear k1; clear z3; have z4 : True := trivial)
                | (have hq := z2; clear hq; go_at_call 46; refine (s2 _).mono ?_; rintro r wq ⟨a2, rfl, hbq⟩; replace hc := hc.call hbq; replace c2 := hc.cell 0 rfl 2 e2; replace c3 := hc.cell 0 rfl 3 e3; clear s2; clear hbq; clear z2; have z3 : True := trivial)
                | (have hq := z1; clear hq; go_at_call 46; refine (s1 _).mono ?_; rintro r wq ⟨a1, rfl, hbq⟩; replace hc := hc.call hbq; replace c2 := hc.cell 0 rfl 2 e2; replace c3 := hc.cell 0 rfl 3 e3; clear s1; clear hbq; clear z1; have z2 : True := trivial)
                | (have hq := z0; clear hq; refine v_box rfl 28 (.tmp 0) rfl C rfl hc ?_; intro wq Nq hcq _; replace hc := hcq; have c2 := hc.cell 0 rfl 2 e2; have c3 := hc.cell 0 rfl 3 e3; clear hcq; clear z0; have z1 : True := trivial))
              all_goals
                go_ret
                exact ⟨rfl, hc.bel⟩
            · by_cases hxy : x = y
              · rw [decide_eq_true hxy] at hq
                by_cases hm : m = s11
                · rw [decide_eq_true hm] at hv
                  simp only [hxy, hm, if_true]
                  clear hxy hm
                  show Calls Tryz.prog 17 #[.agg C] w fun r w' => r = .returned (.int .i64 0) ∧ Below w.heap.size w w'
                  have z0 : True := trivial
                  go_enter Tryz.func17, Tryz.ntmps17
                  go_wp2_with (first
                    | (have hq := z6; clear hq; go_at_call 49; refine (kw _ (hB.trans (hc.bel.mono hB.size))).mono ?_; rintro r wq ⟨rfl, hbq⟩; replace hc := hc.call hbq; have c6 := hc.cell 0 rfl 6 e6; have c7 := hc.cell 0 rfl 7 e7; clear kw; clear hbq; clear z6; have z7 : True := trivial)
                    | (have hq := z5; clear hq; refine v_part rfl 26 (.tmp 34) rfl 0 D rfl hc rfl hin _ Tryz.underlying26 rfl (sz26 d6) ?_; clear z5; have z6 : True := trivial)
                    | (have hq := z4; clear hq; go_at_call 48; refine (k2 _).mono ?_; rintro r wq ⟨rfl, rfl⟩; clear k2; clear z4; have z5 : True := trivial)
                    | (have hq := z3; clear hq; go_at_call 47; refine (k1 _).mono ?_; rintro r wq ⟨rfl, rfl⟩; clear k1; clear z3; have z4 : True := trivial)
                    | (have hq := z2; clear hq; go_at_call 46; refine (s2 _).mono ?_; rintro r wq ⟨a2, rfl, hbq⟩; replace hc := hc.call hbq; replace c2 := hc.cell 0 rfl 2 e2; replace c3 := hc.cell 0 rfl 3 e3; clear s2; clear hbq; clear z2; have z3 : True := trivial)
                    | (have hq := z1; clear hq; go_at_call 46; refine (s1 _).mono ?_; rintro r wq ⟨a1, rfl, hbq⟩; replace hc := hc.call hbq; replace c2 := hc.cell 0 rfl 2 e2; replace c3 := hc.cell 0 rfl 3 e3; clear s1; clear hbq; clear z1; have z2 : True := trivial)
                    | (have hq := z0; clear hq; refine v_box rfl 28 (.tmp 0) rfl C rfl hc ?_; intro wq Nq hcq _; replace hc := hcq; have c2 := hc.cell 0 rfl 2 e2; have c3 := hc.cell 0 rfl 3 e3; clear hcq; clear z0; have z1 : True := trivial))
                  all_goals
                    go_ret
                    exact ⟨rfl, hc.bel⟩
                · rw [decide_eq_false hm] at hv
                  simp only [hxy, hm, if_true, if_false]
                  clear hxy hm
                  show Calls Tryz.prog 17 #[.agg C] w fun r w' => r = .returned (.int .i64 4) ∧ Below w.heap.size w w'
                  have z0 : True := trivial
                  go_enter Tryz.func17, Tryz.ntmps17
                  go_wp2_with (first
                    | (have hq := z6; clear hq; go_at_call 49; refine (kw _ (hB.trans (hc.bel.mono hB.size))).mono ?_; rintro r wq ⟨rfl, hbq⟩; replace hc := hc.call hbq; have c6 := hc.cell 0 rfl 6 e6; have c7 := hc.cell 0 rfl 7 e7; clear kw; clear hbq; clear z6; have z7 : True := trivial)
                    | (have hq := z5; clear hq; refine v_part rfl 26 (.tmp 34) rfl 0 D rfl hc rfl hin _ Tryz.underlying26 rfl (sz26 d6) ?_; clear z5; have z6 : True := trivial)
                    | (have hq := z4; clear hq; go_at_call 48; refine (k2 _).mono ?_; rintro r wq ⟨rfl, rfl⟩; clear k2; clear z4; have z5 : True := trivial)
                    | (have hq := z3; clear hq; go_at_call 47; refine (k1 _).mono ?_; rintro r wq ⟨rfl, rfl⟩; clear k1; clear z3; have z4 : True := trivial)
                    | (have hq := z2; clear hq; go_at_call 46; refine (s2 _).mono ?_; rintro r wq ⟨a2, rfl, hbq⟩; replace hc := hc.call hbq; replace c2 := hc.cell 0 rfl 2 e2; replace c3 := hc.cell 0 rfl 3 e3; clear s2; clear hbq; clear z2; have z3 : True := trivial)
                    | (have hq := z1; clear hq; go_at_call 46; refine (s1 _).mono ?_; rintro r wq ⟨a1, rfl, hbq⟩; replace hc := hc.call hbq; replace c2 := hc.cell 0 rfl 2 e2; replace c3 := hc.cell 0 rfl 3 e3; clear s1; clear hbq; clear z1; have z2 : True := trivial)
                    | (have hq := z0; clear hq; refine v_box rfl 28 (.tmp 0) rfl C rfl hc ?_; intro wq Nq hcq _; replace hc := hcq; have c2 := hc.cell 0 rfl 2 e2; have c3 := hc.cell 0 rfl 3 e3; clear hcq; clear z0; have z1 : True := trivial))
                  all_goals
                    go_ret
                    exact ⟨rfl, hc.bel⟩
              · rw [decide_eq_false hxy] at hq
                simp only [hxy, if_true, if_false]
                clear hxy
                show Calls Tryz.prog 17 #[.agg C] w fun r w' => r = .returned (.int .i64 3) ∧ Below w.heap.size w w'
                have z0 : True := trivial
                go_enter Tryz.func17, Tryz.ntmps17
                go_wp2_with (first
                  | (have hq := z6; clear hq; go_at_call 49; refine (kw _ (hB.trans (hc.bel.mono hB.size))).mono ?_; rintro r wq ⟨rfl, hbq⟩; replace hc := hc.call hbq; have c6 := hc.cell 0 rfl 6 e6; have c7 := hc.cell 0 rfl 7 e7; clear kw; clear hbq; clear z6; have z7 : True := trivial)
                  | (have hq := z5; clear hq; refine v_part rfl 26 (.tmp 34) rfl 0 D rfl hc rfl hin _ Tryz.underlying26 rfl (sz26 d6) ?_; clear z5; have z6 : True := trivial)
                  | (have hq := z4; clear hq; go_at_call 48; refine (k2 _).mono ?_; rintro r wq ⟨rfl, rfl⟩; clear k2; clear z4; have z5 : True := trivial)
                  | (have hq := z3; clear hq; go_at_call 47; refine (k1 _).mono ?_; rintro r wq ⟨rfl, rfl⟩; clear k1; clear z3; have z4 : True := trivial)
                  | (have hq := z2; clear hq; go_at_call 46; refine (s2 _).mono ?_; rintro r wq ⟨a2, rfl, hbq⟩; replace hc := hc.call hbq; replace c2 := hc.cell 0 rfl 2 e2; replace c3 := hc.cell 0 rfl 3 e3; clear s2; clear hbq; clear z2; have z3 : True := trivial)
                  | (have hq := z1; clear hq; go_at_call 46; refine (s1 _).mono ?_; rintro r wq ⟨a1, rfl, hbq⟩; replace hc := hc.call hbq; replace c2 := hc.cell 0 rfl 2 e2; replace c3 := hc.cell 0 rfl 3 e3; clear s1; clear hbq; clear z1; have z2 : True := trivial)
                  | (have hq := z0; clear hq; refine v_box rfl 28 (.tmp 0) rfl C rfl hc ?_; intro wq Nq hcq _; replace hc := hcq; have c2 := hc.cell 0 rfl 2 e2; have c3 := hc.cell 0 rfl 3 e3; clear hcq; clear z0; have z1 : True := trivial))
                all_goals
                  go_ret
                  exact ⟨rfl, hc.bel⟩
    · rw [if_neg h7]
      have hp7 : 0 < (n7 : Int) := by omega
      show Calls Tryz.prog 17 #[.agg C] w fun r w' => r = .returned (.int .i64 2) ∧ Below w.heap.size w w'
      have z0 : True := trivial
      go_enter Tryz.func17, Tryz.ntmps17
      go_wp2_with (first
        | (have hq := z6; clear hq; go_at_call 49; refine (kw _ (hB.trans (hc.bel.mono hB.size))).mono ?_; rintro r wq ⟨rfl, hbq⟩; replace hc := hc.call hbq; have c6 := hc.cell 0 rfl 6 e6; have c7 := hc.cell 0 rfl 7 e7; clear kw; clear hbq; clear z6; have z7 : True := trivial)
        | (have hq := z5; clear hq; refine v_part rfl 26 (.tmp 34) rfl 0 D rfl hc rfl hin _ Tryz.underlying26 rfl (sz26 d6) ?_; clear z5; have z6 : True := trivial)
        | (have hq := z4; clear hq; go_at_call 48; refine (k2 _).mono ?_; rintro r wq ⟨rfl, rfl⟩; clear k2; clear z4; have z5 : True := trivial)
        | (have hq := z3; clear hq; go_at_call 47; refine (k1 _).mono ?_; rintro r wq ⟨rfl, rfl⟩; clear k1; clear z3; have z4 : True := trivial)
        | (have hq := z2; clear hq; go_at_call 46; refine (s2 _).mono ?_; rintro r wq ⟨a2, rfl, hbq⟩; replace hc := hc.call hbq; replace c2 := hc.cell 0 rfl 2 e2; replace c3 := hc.cell 0 rfl 3 e3; clear s2; clear hbq; clear z2; have z3 : True := trivial)
        | (have hq := z1; clear hq; go_at_call 46; refine (s1 _).mono ?_; rintro r wq ⟨a1, rfl, hbq⟩; replace hc := hc.call hbq; replace c2 := hc.cell 0 rfl 2 e2; replace c3 := hc.cell 0 rfl 3 e3; clear s1; clear hbq; clear z1; have z2 : True := trivial)
        | (have hq := z0; clear hq; refine v_box rfl 28 (.tmp 0) rfl C rfl hc ?_; intro wq Nq hcq _; replace hc := hcq; have c2 := hc.cell 0 rfl 2 e2; have c3 := hc.cell 0 rfl 3 e3; clear hcq; clear z0; have z1 : True := trivial))
      all_goals
        go_ret
        exact ⟨rfl, hc.bel⟩
  · rw [if_neg h6]
    have hp6 : 0 < (n6 : Int) := by omega
    show Calls Tryz.prog 17 #[.agg C] w fun r w' => r = .returned (.int .i64 1) ∧ Below w.heap.size w w'
    have z0 : True := trivial
    go_enter Tryz.func17, Tryz.ntmps17
    go_wp2_with (first
      | (have hq := z6; clear hq; go_at_call 49; refine (kw _ (hB.trans (hc.bel.mono hB.size))).mono ?_; rintro r wq ⟨rfl, hbq⟩; replace hc := hc.call hbq; have c6 := hc.cell 0 rfl 6 e6; have c7 := hc.cell 0 rfl 7 e7; clear kw; clear hbq; clear z6; have z7 : True := trivial)
      | (have hq := z5; clear hq; refine v_part rfl 26 (.tmp 34) rfl 0 D rfl hc rfl hin _ Tryz.underlying26 rfl (sz26 d6) ?_; clear z5; have z6 : True := trivial)
      | (have hq := z4; clear hq; go_at_call 48; refine (k2 _).mono ?_; rintro r wq ⟨rfl, rfl⟩; clear k2; clear z4; have z5 : True := trivial)
      | (have hq := z3; clear hq; go_at_call 47; refine (k1 _).mono ?_; rintro r wq ⟨rfl, rfl⟩; clear k1; clear z3; have z4 : True := trivial)
      | (have hq := z2; clear hq; go_at_call 46; refine (s2 _).mono ?_; rintro r wq ⟨a2, rfl, hbq⟩; replace hc := hc.call hbq; replace c2 := hc.cell 0 rfl 2 e2; replace c3 := hc.cell 0 rfl 3 e3; clear s2; clear hbq; clear z2; have z3 : True := trivial)
      | (have hq := z1; clear hq; go_at_call 46; refine (s1 _).mono ?_; rintro r wq ⟨a1, rfl, hbq⟩; replace hc := hc.call hbq; replace c2 := hc.cell 0 rfl 2 e2; replace c3 := hc.cell 0 rfl 3 e3; clear s1; clear hbq; clear z1; have z2 : True := trivial)
      | (have hq := z0; clear hq; refine v_box rfl 28 (.tmp 0) rfl C rfl hc ?_; intro wq Nq hcq _; replace hc := hcq; have c2 := hc.cell 0 rfl 2 e2; have c3 := hc.cell 0 rfl 3 e3; clear hcq; clear z0; have z1 : True := trivial))
    all_goals
      go_ret
      exact ⟨rfl, hc.bel⟩

end Go.Proofs.YthplcnbfpcndbaaGreatDoor

namespace Go.Proofs.YthplcnbfpcndbaaGreatDoor
open Go.RowKit

set_option maxRecDepth 100000 in
set_option maxHeartbeats 8000000 in
theorem rm_invite (e : EV) (l : List EV) (C : Array Value) (v : Value) (B w : World) (hB : Below B.heap.size B w) (he : EC B e C) (hl : EvsAt B v l) (hk : e.hk = true) (hU : isU e.key = true) (hW : wrd e.con sMemb s0 = sInvite) :
    Calls Tryz.prog 19 #[.agg C, v] w fun r w' => r = .returned (.int .i64 (chkI e l)) ∧ Below w.heap.size w w' := by
  have hc := Ctx.start w
  have e3 := he.i3
  have e4 := he.i4
  have e5 := he.i5
  have s5 := he.s5
  obtain ⟨D, hD, hin⟩ := he.con
  have d6 := hD.vc.sz
  rw [hk] at e4
  have kU : ∀ W, Calls Tryz.prog 48 #[.string e.key] W fun r w' => r = .returned (.bool (isU e.key)) ∧ w' = W := fun W => ruser_any' e.key W (by omega)
  rw [hU] at kU
  have kW := fun W h => rword_any e.con D sMemb B W h hD
  have kC : ∀ W, Below B.heap.size B W → Calls Tryz.prog 25 #[v, .string tC, .string s0] W fun r w' => ∃ X, r = .returned (.tuple #[.agg X, .bool (std tC s0 l).isSome]) ∧ EC B (stdD l tC s0) X ∧ Below W.heap.size W w' := fun W h => stands_any l v tC s0 B W h hl
  have k1 := fun W h => rmemb_any l v e.snd B W h hl
  have k2 := fun W h => rmemb_any l v e.key B W h hl
  have l1 := fun W h => rlevel_any l v e.snd B W h hl
  have l2 := fun W h => rlevel_any l v e.key B W h hl
  have kF := fun d W h => rlevelFor_any l v d B W h hl
  rw [← wordR_f] at hW
  obtain ⟨⟨m, mi⟩, hm⟩ : ∃ p, wordR e.con sMemb = p := ⟨_, rfl⟩
  rw [hm] at kW hW
  clear hm
  replace hW : m = sInvite := hW
  have qm0 := beq_const m sJoin (l := [106, 111, 105, 110]) rfl
  rw [decide_eq_false (by rw [hW]; decide)] at qm0
  have qm1 := beq_const m sInvite (l := [105, 110, 118, 105, 116, 101]) rfl
  rw [decide_eq_true hW] at qm1
  have qm2 := beq_const m sLeave (l := [108, 101, 97, 118, 101]) rfl
  rw [decide_eq_false (by rw [hW]; decide)] at qm2
  have qm3 := beq_const m sBan (l := [98, 97, 110]) rfl
  rw [decide_eq_false (by rw [hW]; decide)] at qm3
  clear hW
  unfold chkI
  have kF1 := kF sInvite
  clear kF
  generalize lvFor l sInvite = F1 at *
  generalize memb l e.snd = M1 at *
  generalize memb l e.key = M2 at *
  generalize level l e.snd = L1 at *
  generalize level l e.key = L2 at *
  have qa := beq_const M1 sJoin (l := [106, 111, 105, 110]) rfl
  have qb := beq_const M2 sJoin (l := [106, 111, 105, 110]) rfl
  have qc := beq_const M2 sBan (l := [98, 97, 110]) rfl
  clear hl he hD hk hU
  by_cases ha : M1 = sJoin
  · rw [if_pos ha]
    rw [decide_eq_true ha] at qa
    clear ha
    by_cases hb : M2 = sJoin
    · rw [if_pos hb]
      rw [decide_eq_true hb] at qb
      clear hb
      show Calls Tryz.prog 19 #[.agg C, v] w fun r w' => r = .returned (.int .i64 25) ∧ Below w.heap.size w w'
      have z0 : True := trivial
      go_enter Tryz.func19, Tryz.ntmps19
      go_wp2_with (first
        | (have hq := z9; clear hq; go_at_call 20; refine (l2 _ (hB.trans (hc.bel.mono hB.size))).mono ?_; rintro r wq ⟨rfl, hbq⟩; replace hc := hc.call hbq; replace c3 := hc.cell 1 rfl 3 e3; replace c5 := hc.cell 1 rfl 5 e5; clear l2; clear hbq; clear z9; have z10 : True := trivial)
        | (have hq := z8; clear hq; go_at_call 20; refine (l1 _ (hB.trans (hc.bel.mono hB.size))).mono ?_; rintro r wq ⟨rfl, hbq⟩; replace hc := hc.call hbq; replace c3 := hc.cell 1 rfl 3 e3; replace c5 := hc.cell 1 rfl 5 e5; clear l1; clear hbq; clear z8; have z9 : True := trivial)
        | (have hq := z7; clear hq; go_at_call 21; refine (k2 _ (hB.trans (hc.bel.mono hB.size))).mono ?_; rintro r wq ⟨rfl, hbq⟩; replace hc := hc.call hbq; replace c3 := hc.cell 1 rfl 3 e3; replace c5 := hc.cell 1 rfl 5 e5; clear k2; clear hbq; clear z7; have z8 : True := trivial)
        | (have hq := z6; clear hq; go_at_call 21; refine (k1 _ (hB.trans (hc.bel.mono hB.size))).mono ?_; rintro r wq ⟨rfl, hbq⟩; replace hc := hc.call hbq; replace c3 := hc.cell 1 rfl 3 e3; replace c5 := hc.cell 1 rfl 5 e5; clear k1; clear hbq; clear z6; have z7 : True := trivial)
        | (have hq := z5; clear hq; refine v_decl rfl rfl 28 rfl (.tmp 8) (.tmp 53) rfl zE X z28 (fun _ => rfl) (fun _ => rfl) (by rw [x28]; rfl) (sz28 x28) x1 hc ?_; intro wq Nq hcq _; replace hc := hcq; have c3 := hc.cell 1 rfl 3 e3; have c5 := hc.cell 1 rfl 5 e5; clear hcq; clear z5; have z6 : True := trivial)
        | (have hq := z4; clear hq; go_at_call 25; refine (kC _ (hB.trans (hc.bel.mono hB.size))).mono ?_; rintro r wq ⟨X, rfl, hX, hbq⟩; replace hc := hc.call hbq; have x28 := hX.sz; have x1 := hX.one; have xi := hX.i0; have xs := hX.i3; clear hX kC c4 c5; clear hbq; clear z4; have z5 : True := trivial)
        | (have hq := z3; clear hq; go_at_call 49; refine (kW _ (hB.trans (hc.bel.mono hB.size))).mono ?_; rintro r wq ⟨rfl, hbq⟩; replace hc := hc.call hbq; replace c4 := hc.cell 0 rfl 4 e4; replace c5 := hc.cell 0 rfl 5 e5; clear kW; clear hbq; clear z3; have z4 : True := trivial)
        | (have hq := z2; clear hq; refine v_part rfl 26 (.tmp 22) rfl 0 D rfl hc rfl hin _ Tryz.underlying26 rfl (sz26 d6) ?_; clear z2; have z3 : True := trivial)
        | (have hq := z1; clear hq; go_at_call 48; refine (kU _).mono ?_; rintro r wq ⟨rfl, rfl⟩; clear kU; clear z1; have z2 : True := trivial)
        | (have hq := z0; clear hq; refine v_box rfl 28 (.tmp 0) rfl C rfl hc ?_; intro wq Nq hcq _; replace hc := hcq; have c4 := hc.cell 0 rfl 4 e4; have c5 := hc.cell 0 rfl 5 e5; clear hcq; clear z0; have z1 : True := trivial))
      all_goals
        go_ret
        exact ⟨rfl, hc.bel⟩
    · rw [if_neg hb]
      rw [decide_eq_false hb] at qb
      clear hb
      by_cases hc2 : M2 = sBan
      · rw [if_pos hc2]
        rw [decide_eq_true hc2] at qc
        clear hc2
        show Calls Tryz.prog 19 #[.agg C, v] w fun r w' => r = .returned (.int .i64 25) ∧ Below w.heap.size w w'
        have z0 : True := trivial
        go_enter Tryz.func19, Tryz.ntmps19
        go_wp2_with (first
          | (have hq := z9; clear hq; go_at_call 20; refine (l2 _ (hB.trans (hc.bel.mono hB.size))).mono ?_; rintro r wq ⟨rfl, hbq⟩; replace hc := hc.call hbq; replace c3 := hc.cell 1 rfl 3 e3; replace c5 := hc.cell 1 rfl 5 e5; clear l2; clear hbq; clear z9; have z10 : True := trivial)
          | (have hq := z8; clear hq; go_at_call 20; refine (l1 _ (hB.trans (hc.bel.mono hB.size))).mono ?_; rintro r wq ⟨rfl, hbq⟩; replace hc := hc.call hbq; replace c3 := hc.cell 1 rfl 3 e3; replace c5 := hc.cell 1 rfl 5 e5; clear l1; clear hbq; clear z8; have z9 : True := trivial)
          | (have hq := z7; clear hq; go_at_call 21; refine (k2 _ (hB.trans (hc.bel.mono hB.size))).mono ?_; rintro r wq ⟨rfl, hbq⟩; replace hc := hc.call hbq; replace c3 := hc.cell 1 rfl 3 e3; replace c5 := hc.cell 1 rfl 5 e5; clear k2; clear hbq; clear z7; have z8 : True := trivial)
          | (have hq := z6; clear hq; go_at_call 21; refine (k1 _ (hB.trans (hc.bel.mono hB.size))).mono ?_; rintro r wq ⟨rfl, hbq⟩; replace hc := hc.call hbq; replace c3 := hc.cell 1 rfl 3 e3; replace c5 := hc.cell 1 rfl 5 e5; clear k1; clear hbq; clear z6; have z7 : True := trivial)
          | (have hq := z5; clear hq; refine v_decl rfl rfl 28 rfl (.tmp 8) (.tmp 53) rfl zE X z28 (fun _ => rfl) (fun _ => rfl) (by rw [x28]; rfl) (sz28 x28) x1 hc ?_; intro wq Nq hcq _; replace hc := hcq; have c3 := hc.cell 1 rfl 3 e3; have c5 := hc.cell 1 rfl 5 e5; clear hcq; clear z5; have z6 : True := trivial)
          | (have hq := z4; clear hq; go_at_call 25; refine (kC _ (hB.trans (hc.bel.mono hB.size))).mono ?_; rintro r wq ⟨X, rfl, hX, hbq⟩; replace hc := hc.call hbq; have x28 := hX.sz; have x1 := hX.one; have xi := hX.i0; have xs := hX.i3; clear hX kC c4 c5; clear hbq; clear z4; have z5 : True := trivial)
          | (have hq := z3; clear hq; go_at_call 49; refine (kW _ (hB.trans (hc.bel.mono hB.size))).mono ?_; rintro r wq ⟨rfl, hbq⟩; replace hc := hc.call hbq; replace c4 := hc.cell 0 rfl 4 e4; replace c5 := hc.cell 0 rfl 5 e5; clear kW; clear hbq; clear z3; have z4 : True := trivial)
          | (have hq := z2; clear hq; refine v_part rfl 26 (.tmp 22) rfl 0 D rfl hc rfl hin _ Tryz.underlying26 rfl (sz26 d6) ?_; clear z2; have z3 : True := trivial)
          | (have hq := z1; clear hq; go_at_call 48; refine (kU _).mono ?_; rintro r wq ⟨rfl, rfl⟩; clear kU; clear z1; have z2 : True := trivial)
          | (have hq := z0; clear hq; refine v_box rfl 28 (.tmp 0) rfl C rfl hc ?_; intro wq Nq hcq _; replace hc := hcq; have c4 := hc.cell 0 rfl 4 e4; have c5 := hc.cell 0 rfl 5 e5; clear hcq; clear z0; have z1 : True := trivial))
        all_goals
          go_ret
          exact ⟨rfl, hc.bel⟩
      · rw [if_neg hc2]
        rw [decide_eq_false hc2] at qc
        clear hc2
        by_cases hd : L1 < F1
        · rw [if_pos hd]
          skip
          show Calls Tryz.prog 19 #[.agg C, v] w fun r w' => r = .returned (.int .i64 26) ∧ Below w.heap.size w w'
          have z0 : True := trivial
          go_enter Tryz.func19, Tryz.ntmps19
          go_wp2_with (first
            | (have hq := z10; clear hq; go_at_call 52; refine (kF1 _ (hB.trans (hc.bel.mono hB.size))).mono ?_; rintro r wq ⟨rfl, hbq⟩; replace hc := hc.call hbq; clear kF1; clear hbq; clear z10; have z11 : True := trivial)
            | (have hq := z9; clear hq; go_at_call 20; refine (l2 _ (hB.trans (hc.bel.mono hB.size))).mono ?_; rintro r wq ⟨rfl, hbq⟩; replace hc := hc.call hbq; replace c3 := hc.cell 1 rfl 3 e3; replace c5 := hc.cell 1 rfl 5 e5; clear l2; clear hbq; clear z9; have z10 : True := trivial)
            | (have hq := z8; clear hq; go_at_call 20; refine (l1 _ (hB.trans (hc.bel.mono hB.size))).mono ?_; rintro r wq ⟨rfl, hbq⟩; replace hc := hc.call hbq; replace c3 := hc.cell 1 rfl 3 e3; replace c5 := hc.cell 1 rfl 5 e5; clear l1; clear hbq; clear z8; have z9 : True := trivial)
            | (have hq := z7; clear hq; go_at_call 21; refine (k2 _ (hB.trans (hc.bel.mono hB.size))).mono ?_; rintro r wq ⟨rfl, hbq⟩; replace hc := hc.call hbq; replace c3 := hc.cell 1 rfl 3 e3; replace c5 := hc.cell 1 rfl 5 e5; clear k2; clear hbq; clear z7; have z8 : True := trivial)
            | (have hq := z6; clear hq; go_at_call 21; refine (k1 _ (hB.trans (hc.bel.mono hB.size))).mono ?_; rintro r wq ⟨rfl, hbq⟩; replace hc := hc.call hbq; replace c3 := hc.cell 1 rfl 3 e3; replace c5 := hc.cell 1 rfl 5 e5; clear k1; clear hbq; clear z6; have z7 : True := trivial)
            | (have hq := z5; clear hq; refine v_decl rfl rfl 28 rfl (.tmp 8) (.tmp 53) rfl zE X z28 (fun _ => rfl) (fun _ => rfl) (by rw [x28]; rfl) (sz28 x28) x1 hc ?_; intro wq Nq hcq _; replace hc := hcq; have c3 := hc.cell 1 rfl 3 e3; have c5 := hc.cell 1 rfl 5 e5; clear hcq; clear z5; have z6 : True := trivial)
            | (have hq := z4; clear hq; go_at_call 25; refine (kC _ (hB.trans (hc.bel.mono hB.size))).mono ?_; rintro r wq ⟨X, rfl, hX, hbq⟩; replace hc := hc.call hbq; have x28 := hX.sz; have x1 := hX.one; have xi := hX.i0; have xs := hX.i3; clear hX kC c4 c5; clear hbq; clear z4; have z5 : True := trivial)
            | (have hq := z3; clear hq; go_at_call 49; refine (kW _ (hB.trans (hc.bel.mono hB.size))).mono ?_; rintro r wq ⟨rfl, hbq⟩; replace hc := hc.call hbq; replace c4 := hc.cell 0 rfl 4 e4; replace c5 := hc.cell 0 rfl 5 e5; clear kW; clear hbq; clear z3; have z4 : True := trivial)
            | (have hq := z2; clear hq; refine v_part rfl 26 (.tmp 22) rfl 0 D rfl hc rfl hin _ Tryz.underlying26 rfl (sz26 d6) ?_; clear z2; have z3 : True := trivial)
            | (have hq := z1; clear hq; go_at_call 48; refine (kU _).mono ?_; rintro r wq ⟨rfl, rfl⟩; clear kU; clear z1; have z2 : True := trivial)
            | (have hq := z0; clear hq; refine v_box rfl 28 (.tmp 0) rfl C rfl hc ?_; intro wq Nq hcq _; replace hc := hcq; have c4 := hc.cell 0 rfl 4 e4; have c5 := hc.cell 0 rfl 5 e5; clear hcq; clear z0; have z1 : True := trivial))
          all_goals
            go_ret
            exact ⟨rfl, hc.bel⟩
        · rw [if_neg hd]
          skip
          show Calls Tryz.prog 19 #[.agg C, v] w fun r w' => r = .returned (.int .i64 0) ∧ Below w.heap.size w w'
          have z0 : True := trivial
          go_enter Tryz.func19, Tryz.ntmps19
          go_wp2_with (first
            | (have hq := z10; clear hq; go_at_call 52; refine (kF1 _ (hB.trans (hc.bel.mono hB.size))).mono ?_; rintro r wq ⟨rfl, hbq⟩; replace hc := hc.call hbq; clear kF1; clear hbq; clear z10; have z11 : True := trivial)
            | (have hq := z9; clear hq; go_at_call 20; refine (l2 _ (hB.trans (hc.bel.mono hB.size))).mono ?_; rintro r wq ⟨rfl, hbq⟩; replace hc := hc.call hbq; replace c3 := hc.cell 1 rfl 3 e3; replace c5 := hc.cell 1 rfl 5 e5; clear l2; clear hbq; clear z9; have z10 : True := trivial)
            | (have hq := z8; clear hq; go_at_call 20; refine (l1 _ (hB.trans (hc.bel.mono hB.size))).mono ?_; rintro r wq ⟨rfl, hbq⟩; replace hc := hc.call hbq; replace c3 := hc.cell 1 rfl 3 e3; replace c5 := hc.cell 1 rfl 5 e5; clear l1; clear hbq; clear z8; have z9 : True := trivial)
            | (have hq := z7; clear hq; go_at_call 21; refine (k2 _ (hB.trans (hc.bel.mono hB.size))).mono ?_; rintro r wq ⟨rfl, hbq⟩; replace hc := hc.call hbq; replace c3 := hc.cell 1 rfl 3 e3; replace c5 := hc.cell 1 rfl 5 e5; clear k2; clear hbq; clear z7; have z8 : True := trivial)
            | (have hq := z6; clear hq; go_at_call 21; refine (k1 _ (hB.trans (hc.bel.mono hB.size))).mono ?_; rintro r wq ⟨rfl, hbq⟩; replace hc := hc.call hbq; replace c3 := hc.cell 1 rfl 3 e3; replace c5 := hc.cell 1 rfl 5 e5; clear k1; clear hbq; clear z6; have z7 : True := trivial)
            | (have hq := z5; clear hq; refine v_decl rfl rfl 28 rfl (.tmp 8) (.tmp 53) rfl zE X z28 (fun _ => rfl) (fun _ => rfl) (by rw [x28]; rfl) (sz28 x28) x1 hc ?_; intro wq Nq hcq _; replace hc := hcq; have c3 := hc.cell 1 rfl 3 e3; have c5 := hc.cell 1 rfl 5 e5; clear hcq; clear z5; have z6 : True := trivial)
            | (have hq := z4; clear hq; go_at_call 25; refine (kC _ (hB.trans (hc.bel.mono hB.size))).mono ?_; rintro r wq ⟨X, rfl, hX, hbq⟩; replace hc := hc.call hbq; have x28 := hX.sz; have x1 := hX.one; have xi := hX.i0; have xs := hX.i3; clear hX kC c4 c5; clear hbq; clear z4; have z5 : True := trivial)
            | (have hq := z3; clear hq; go_at_call 49; refine (kW _ (hB.trans (hc.bel.mono hB.size))).mono ?_; rintro r wq ⟨rfl, hbq⟩; replace hc := hc.call hbq; replace c4 := hc.cell 0 rfl 4 e4; replace c5 := hc.cell 0 rfl 5 e5; clear kW; clear hbq; clear z3; have z4 : True := trivial)
            | (have hq := z2; clear hq; refine v_part rfl 26 (.tmp 22) rfl 0 D rfl hc rfl hin _ Tryz.underlying26 rfl (sz26 d6) ?_; clear z2; have z3 : True := trivial)
            | (have hq := z1; clear hq; go_at_call 48; refine (kU _).mono ?_; rintro r wq ⟨rfl, rfl⟩; clear kU; clear z1; have z2 : True := trivial)
            | (have hq := z0; clear hq; refine v_box rfl 28 (.tmp 0) rfl C rfl hc ?_; intro wq Nq hcq _; replace hc := hcq; have c4 := hc.cell 0 rfl 4 e4; have c5 := hc.cell 0 rfl 5 e5; clear hcq; clear z0; have z1 : True := trivial))
          all_goals
            go_ret
            exact ⟨rfl, hc.bel⟩
  · rw [if_neg ha]
    rw [decide_eq_false ha] at qa
    clear ha
    show Calls Tryz.prog 19 #[.agg C, v] w fun r w' => r = .returned (.int .i64 24) ∧ Below w.heap.size w w'
    have z0 : True := trivial
    go_enter Tryz.func19, Tryz.ntmps19
    go_wp2_with (first
      | (have hq := z9; clear hq; go_at_call 20; refine (l2 _ (hB.trans (hc.bel.mono hB.size))).mono ?_; rintro r wq ⟨rfl, hbq⟩; replace hc := hc.call hbq; replace c3 := hc.cell 1 rfl 3 e3; replace c5 := hc.cell 1 rfl 5 e5; clear l2; clear hbq; clear z9; have z10 : True := trivial)
      | (have hq := z8; clear hq; go_at_call 20; refine (l1 _ (hB.trans (hc.bel.mono hB.size))).mono ?_; rintro r wq ⟨rfl, hbq⟩; replace hc := hc.call hbq; replace c3 := hc.cell 1 rfl 3 e3; replace c5 := hc.cell 1 rfl 5 e5; clear l1; clear hbq; clear z8; have z9 : True := trivial)
      | (have hq := z7; clear hq; go_at_call 21; refine (k2 _ (hB.trans (hc.bel.mono hB.size))).mono ?_; rintro r wq ⟨rfl, hbq⟩; replace hc := hc.call hbq; replace c3 := hc.cell 1 rfl 3 e3; replace c5 := hc.cell 1 rfl 5 e5; clear k2; clear hbq; clear z7; have z8 : True := trivial)
      | (have hq := z6; clear hq; go_at_call 21; refine (k1 _ (hB.trans (hc.bel.mono hB.size))).mono ?_; rintro r wq ⟨rfl, hbq⟩; replace hc := hc.call hbq; replace c3 := hc.cell 1 rfl 3 e3; replace c5 := hc.cell 1 rfl 5 e5; clear k1; clear hbq; clear z6; have z7 : True := trivial)
      | (have hq := z5; clear hq; refine v_decl rfl rfl 28 rfl (.tmp 8) (.tmp 53) rfl zE X z28 (fun _ => rfl) (fun _ => rfl) (by rw [x28]; rfl) (sz28 x28) x1 hc ?_; intro wq Nq hcq _; replace hc := hcq; have c3 := hc.cell 1 rfl 3 e3; have c5 := hc.cell 1 rfl 5 e5; clear hcq; clear z5; have z6 : True := trivial)
      | (have hq := z4; clear hq; go_at_call 25; refine (kC _ (hB.trans (hc.bel.mono hB.size))).mono ?_; rintro r wq ⟨X, rfl, hX, hbq⟩; replace hc := hc.call hbq; have x28 := hX.sz; have x1 := hX.one; have xi := hX.i0; have xs := hX.i3; clear hX kC c4 c5; clear hbq; clear z4; have z5 : True := trivial)
      | (have hq := z3; clear hq; go_at_call 49; refine (kW _ (hB.trans (hc.bel.mono hB.size))).mono ?_; rintro r wq ⟨rfl, hbq⟩; replace hc := hc.call hbq; replace c4 := hc.cell 0 rfl 4 e4; replace c5 := hc.cell 0 rfl 5 e5; clear kW; clear hbq; clear z3; have z4 : True := trivial)
      | (have hq := z2; clear hq; refine v_part rfl 26 (.tmp 22) rfl 0 D rfl hc rfl hin _ Tryz.underlying26 rfl (sz26 d6) ?_; clear z2; have z3 : True := trivial)
      | (have hq := z1; clear hq; go_at_call 48; refine (kU _).mono ?_; rintro r wq ⟨rfl, rfl⟩; clear kU; clear z1; have z2 : True := trivial)
      | (have hq := z0; clear hq; refine v_box rfl 28 (.tmp 0) rfl C rfl hc ?_; intro wq Nq hcq _; replace hc := hcq; have c4 := hc.cell 0 rfl 4 e4; have c5 := hc.cell 0 rfl 5 e5; clear hcq; clear z0; have z1 : True := trivial))
    all_goals
      go_ret
      exact ⟨rfl, hc.bel⟩

set_option maxRecDepth 100000 in
set_option maxHeartbeats 8000000 in
theorem rm_leave (e : EV) (l : List EV) (C : Array Value) (v : Value) (B w : World) (hB : Below B.heap.size B w) (he : EC B e C) (hl : EvsAt B v l) (hk : e.hk = true) (hU : isU e.key = true) (hW : wrd e.con sMemb s0 = sLeave) (hs : e.snd = e.key) :
    Calls Tryz.prog 19 #[.agg C, v] w fun r w' => r = .returned (.int .i64 (chkO e l)) ∧ Below w.heap.size w w' := by
  have hc := Ctx.start w
  have e3 := he.i3
  have e4 := he.i4
  have e5 := he.i5
  have s5 := he.s5
  obtain ⟨D, hD, hin⟩ := he.con
  have d6 := hD.vc.sz
  rw [hk] at e4
  have kU : ∀ W, Calls Tryz.prog 48 #[.string e.key] W fun r w' => r = .returned (.bool (isU e.key)) ∧ w' = W := fun W => ruser_any' e.key W (by omega)
  rw [hU] at kU
  have kW := fun W h => rword_any e.con D sMemb B W h hD
  have kC : ∀ W, Below B.heap.size B W → Calls Tryz.prog 25 #[v, .string tC, .string s0] W fun r w' => ∃ X, r = .returned (.tuple #[.agg X, .bool (std tC s0 l).isSome]) ∧ EC B (stdD l tC s0) X ∧ Below W.heap.size W w' := fun W h => stands_any l v tC s0 B W h hl
  have k1 := fun W h => rmemb_any l v e.snd B W h hl
  have k2 := fun W h => rmemb_any l v e.key B W h hl
  have l1 := fun W h => rlevel_any l v e.snd B W h hl
  have l2 := fun W h => rlevel_any l v e.key B W h hl
  have kF := fun d W h => rlevelFor_any l v d B W h hl
  rw [← wordR_f] at hW
  obtain ⟨⟨m, mi⟩, hm⟩ : ∃ p, wordR e.con sMemb = p := ⟨_, rfl⟩
  rw [hm] at kW hW
  clear hm
  replace hW : m = sLeave := hW
  have qm0 := beq_const m sJoin (l := [106, 111, 105, 110]) rfl
  rw [decide_eq_false (by rw [hW]; decide)] at qm0
  have qm1 := beq_const m sInvite (l := [105, 110, 118, 105, 116, 101]) rfl
  rw [decide_eq_false (by rw [hW]; decide)] at qm1
  have qm2 := beq_const m sLeave (l := [108, 101, 97, 118, 101]) rfl
  rw [decide_eq_true hW] at qm2
  have qm3 := beq_const m sBan (l := [98, 97, 110]) rfl
  rw [decide_eq_false (by rw [hW]; decide)] at qm3
  clear hW
  have hM : memb l e.snd = memb l e.key := by rw [hs]
  unfold chkO
  rw [← hM]
  have qs := beq_bytes e.snd e.key
  rw [decide_eq_true hs] at qs
  clear hs hM kF
  generalize memb l e.snd = M1 at *
  generalize memb l e.key = M2 at *
  generalize level l e.snd = L1 at *
  generalize level l e.key = L2 at *
  have qa := beq_const M1 sJoin (l := [106, 111, 105, 110]) rfl
  have qb := beq_const M1 sInvite (l := [105, 110, 118, 105, 116, 101]) rfl
  clear hl he hD hk hU
  by_cases ha : M1 = sJoin
  · rw [if_pos ha]
    rw [decide_eq_true ha] at qa
    clear ha
    show Calls Tryz.prog 19 #[.agg C, v] w fun r w' => r = .returned (.int .i64 0) ∧ Below w.heap.size w w'
    have z0 : True := trivial
    go_enter Tryz.func19, Tryz.ntmps19
    go_wp2_with (first
      | (have hq := z9; clear hq; go_at_call 20; refine (l2 _ (hB.trans (hc.bel.mono hB.size))).mono ?_; rintro r wq ⟨rfl, hbq⟩; replace hc := hc.call hbq; replace c3 := hc.cell 1 rfl 3 e3; replace c5 := hc.cell 1 rfl 5 e5; clear l2; clear hbq; clear z9; have z10 : True := trivial)
      | (have hq := z8; clear hq; go_at_call 20; refine (l1 _ (hB.trans (hc.bel.mono hB.size))).mono ?_; rintro r wq ⟨rfl, hbq⟩; replace hc := hc.call hbq; replace c3 := hc.cell 1 rfl 3 e3; replace c5 := hc.cell 1 rfl 5 e5; clear l1; clear hbq; clear z8; have z9 : True := trivial)
      | (have hq := z7; clear hq; go_at_call 21; refine (k2 _ (hB.trans (hc.bel.mono hB.size))).mono ?_; rintro r wq ⟨rfl, hbq⟩; replace hc := hc.call hbq; replace c3 := hc.cell 1 rfl 3 e3; replace c5 := hc.cell 1 rfl 5 e5; clear k2; clear hbq; clear z7; have z8 : True := trivial)
      | (have hq := z6; clear hq; go_at_call 21; refine (k1 _ (hB.trans (hc.bel.mono hB.size))).mono ?_; rintro r wq ⟨rfl, hbq⟩; replace hc := hc.call hbq; replace c3 := hc.cell 1 rfl 3 e3; replace c5 := hc.cell 1 rfl 5 e5; clear k1; clear hbq; clear z6; have z7 : True := trivial)
      | (have hq := z5; clear hq; refine v_decl rfl rfl 28 rfl (.tmp 8) (.tmp 53) rfl zE X z28 (fun _ => rfl) (fun _ => rfl) (by rw [x28]; rfl) (sz28 x28) x1 hc ?_; intro wq Nq hcq _; replace hc := hcq; have c3 := hc.cell 1 rfl 3 e3; have c5 := hc.cell 1 rfl 5 e5; clear hcq; clear z5; have z6 : True := trivial)
      | (have hq := z4; clear hq; go_at_call 25; refine (kC _ (hB.trans (hc.bel.mono hB.size))).mono ?_; rintro r wq ⟨X, rfl, hX, hbq⟩; replace hc := hc.call hbq; have x28 := hX.sz; have x1 := hX.one; have xi := hX.i0; have xs := hX.i3; clear hX kC c4 c5; clear hbq; clear z4; have z5 : True := trivial)
      | (have hq := z3; clear hq; go_at_call 49; refine (kW _ (hB.trans (hc.bel.mono hB.size))).mono ?_; rintro r wq ⟨rfl, hbq⟩; replace hc := hc.call hbq; replace c4 := hc.cell 0 rfl 4 e4; replace c5 := hc.cell 0 rfl 5 e5; clear kW; clear hbq; clear z3; have z4 : True := trivial)
      | (have hq := z2; clear hq; refine v_part rfl 26 (.tmp 22) rfl 0 D rfl hc rfl hin _ Tryz.underlying26 rfl (sz26 d6) ?_; clear z2; have z3 : True := trivial)
      | (have hq := z1; clear hq; go_at_call 48; refine (kU _).mono ?_; rintro r wq ⟨rfl, rfl⟩; clear kU; clear z1; have z2 : True := trivial)
      | (have hq := z0; clear hq; refine v_box rfl 28 (.tmp 0) rfl C rfl hc ?_; intro wq Nq hcq _; replace hc := hcq; have c4 := hc.cell 0 rfl 4 e4; have c5 := hc.cell 0 rfl 5 e5; clear hcq; clear z0; have z1 : True := trivial))
    all_goals
      go_ret
      exact ⟨rfl, hc.bel⟩
  · rw [if_neg ha]
    rw [decide_eq_false ha] at qa
    clear ha
    by_cases hb : M1 = sInvite
    · rw [if_pos hb]
      rw [decide_eq_true hb] at qb
      clear hb
      show Calls Tryz.prog 19 #[.agg C, v] w fun r w' => r = .returned (.int .i64 0) ∧ Below w.heap.size w w'
      have z0 : True := trivial
      go_enter Tryz.func19, Tryz.ntmps19
      go_wp2_with (first
        | (have hq := z9; clear hq; go_at_call 20; refine (l2 _ (hB.trans (hc.bel.mono hB.size))).mono ?_; rintro r wq ⟨rfl, hbq⟩; replace hc := hc.call hbq; replace c3 := hc.cell 1 rfl 3 e3; replace c5 := hc.cell 1 rfl 5 e5; clear l2; clear hbq; clear z9; have z10 : True := trivial)
        | (have hq := z8; clear hq; go_at_call 20; refine (l1 _ (hB.trans (hc.bel.mono hB.size))).mono ?_; rintro r wq ⟨rfl, hbq⟩; replace hc := hc.call hbq; replace c3 := hc.cell 1 rfl 3 e3; replace c5 := hc.cell 1 rfl 5 e5; clear l1; clear hbq; clear z8; have z9 : True := trivial)
        | (have hq := z7; clear hq; go_at_call 21; refine (k2 _ (hB.trans (hc.bel.mono hB.size))).mono ?_; rintro r wq ⟨rfl, hbq⟩; replace hc := hc.call hbq; replace c3 := hc.cell 1 rfl 3 e3; replace c5 := hc.cell 1 rfl 5 e5; clear k2; clear hbq; clear z7; have z8 : True := trivial)
        | (have hq := z6; clear hq; go_at_call 21; refine (k1 _ (hB.trans (hc.bel.mono hB.size))).mono ?_; rintro r wq ⟨rfl, hbq⟩; replace hc := hc.call hbq; replace c3 := hc.cell 1 rfl 3 e3; replace c5 := hc.cell 1 rfl 5 e5; clear k1; clear hbq; clear z6; have z7 : True := trivial)
        | (have hq := z5; clear hq; refine v_decl rfl rfl 28 rfl (.tmp 8) (.tmp 53) rfl zE X z28 (fun _ => rfl) (fun _ => rfl) (by rw [x28]; rfl) (sz28 x28) x1 hc ?_; intro wq Nq hcq _; replace hc := hcq; have c3 := hc.cell 1 rfl 3 e3; have c5 := hc.cell 1 rfl 5 e5; clear hcq; clear z5; have z6 : True := trivial)
        | (have hq := z4; clear hq; go_at_call 25; refine (kC _ (hB.trans (hc.bel.mono hB.size))).mono ?_; rintro r wq ⟨X, rfl, hX, hbq⟩; replace hc := hc.call hbq; have x28 := hX.sz; have x1 := hX.one; have xi := hX.i0; have xs := hX.i3; clear hX kC c4 c5; clear hbq; clear z4; have z5 : True := trivial)
        | (have hq := z3; clear hq; go_at_call 49; refine (kW _ (hB.trans (hc.bel.mono hB.size))).mono ?_; rintro r wq ⟨rfl, hbq⟩; replace hc := hc.call hbq; replace c4 := hc.cell 0 rfl 4 e4; replace c5 := hc.cell 0 rfl 5 e5; clear kW; clear hbq; clear z3; have z4 : True := trivial)
        | (have hq := z2; clear hq; refine v_part rfl 26 (.tmp 22) rfl 0 D rfl hc rfl hin _ Tryz.underlying26 rfl (sz26 d6) ?_; clear z2; have z3 : True := trivial)
        | (have hq := z1; clear hq; go_at_call 48; refine (kU _).mono ?_; rintro r wq ⟨rfl, rfl⟩; clear kU; clear z1; have z2 : True := trivial)
        | (have hq := z0; clear hq; refine v_box rfl 28 (.tmp 0) rfl C rfl hc ?_; intro wq Nq hcq _; replace hc := hcq; have c4 := hc.cell 0 rfl 4 e4; have c5 := hc.cell 0 rfl 5 e5; clear hcq; clear z0; have z1 : True := trivial))
      all_goals
        go_ret
        exact ⟨rfl, hc.bel⟩
    · rw [if_neg hb]
      rw [decide_eq_false hb] at qb
      clear hb
      show Calls Tryz.prog 19 #[.agg C, v] w fun r w' => r = .returned (.int .i64 27) ∧ Below w.heap.size w w'
      have z0 : True := trivial
      go_enter Tryz.func19, Tryz.ntmps19
      go_wp2_with (first
        | (have hq := z9; clear hq; go_at_call 20; refine (l2 _ (hB.trans (hc.bel.mono hB.size))).mono ?_; rintro r wq ⟨rfl, hbq⟩; replace hc := hc.call hbq; replace c3 := hc.cell 1 rfl 3 e3; replace c5 := hc.cell 1 rfl 5 e5; clear l2; clear hbq; clear z9; have z10 : True := trivial)
        | (have hq := z8; clear hq; go_at_call 20; refine (l1 _ (hB.trans (hc.bel.mono hB.size))).mono ?_; rintro r wq ⟨rfl, hbq⟩; replace hc := hc.call hbq; replace c3 := hc.cell 1 rfl 3 e3; replace c5 := hc.cell 1 rfl 5 e5; clear l1; clear hbq; clear z8; have z9 : True := trivial)
        | (have hq := z7; clear hq; go_at_call 21; refine (k2 _ (hB.trans (hc.bel.mono hB.size))).mono ?_; rintro r wq ⟨rfl, hbq⟩; replace hc := hc.call hbq; replace c3 := hc.cell 1 rfl 3 e3; replace c5 := hc.cell 1 rfl 5 e5; clear k2; clear hbq; clear z7; have z8 : True := trivial)
        | (have hq := z6; clear hq; go_at_call 21; refine (k1 _ (hB.trans (hc.bel.mono hB.size))).mono ?_; rintro r wq ⟨rfl, hbq⟩; replace hc := hc.call hbq; replace c3 := hc.cell 1 rfl 3 e3; replace c5 := hc.cell 1 rfl 5 e5; clear k1; clear hbq; clear z6; have z7 : True := trivial)
        | (have hq := z5; clear hq; refine v_decl rfl rfl 28 rfl (.tmp 8) (.tmp 53) rfl zE X z28 (fun _ => rfl) (fun _ => rfl) (by rw [x28]; rfl) (sz28 x28) x1 hc ?_; intro wq Nq hcq _; replace hc := hcq; have c3 := hc.cell 1 rfl 3 e3; have c5 := hc.cell 1 rfl 5 e5; clear hcq; clear z5; have z6 : True := trivial)
        | (have hq := z4; clear hq; go_at_call 25; refine (kC _ (hB.trans (hc.bel.mono hB.size))).mono ?_; rintro r wq ⟨X, rfl, hX, hbq⟩; replace hc := hc.call hbq; have x28 := hX.sz; have x1 := hX.one; have xi := hX.i0; have xs := hX.i3; clear hX kC c4 c5; clear hbq; clear z4; have z5 : True := trivial)
        | (have hq := z3; clear hq; go_at_call 49; refine (kW _ (hB.trans (hc.bel.mono hB.size))).mono ?_; rintro r wq ⟨rfl, hbq⟩; replace hc := hc.call hbq; replace c4 := hc.cell 0 rfl 4 e4; replace c5 := hc.cell 0 rfl 5 e5; clear kW; clear hbq; clear z3; have z4 : True := trivial)
        | (have hq := z2; clear hq; refine v_part rfl 26 (.tmp 22) rfl 0 D rfl hc rfl hin _ Tryz.underlying26 rfl (sz26 d6) ?_; clear z2; have z3 : True := trivial)
        | (have hq := z1; clear hq; go_at_call 48; refine (kU _).mono ?_; rintro r wq ⟨rfl, rfl⟩; clear kU; clear z1; have z2 : True := trivial)
        | (have hq := z0; clear hq; refine v_box rfl 28 (.tmp 0) rfl C rfl hc ?_; intro wq Nq hcq _; replace hc := hcq; have c4 := hc.cell 0 rfl 4 e4; have c5 := hc.cell 0 rfl 5 e5; clear hcq; clear z0; have z1 : True := trivial))
      all_goals
        go_ret
        exact ⟨rfl, hc.bel⟩

set_option maxRecDepth 100000 in
set_option maxHeartbeats 8000000 in
theorem rm_kick (e : EV) (l : List EV) (C : Array Value) (v : Value) (B w : World) (hB : Below B.heap.size B w) (he : EC B e C) (hl : EvsAt B v l) (hk : e.hk = true) (hU : isU e.key = true) (hW : wrd e.con sMemb s0 = sLeave) (hs : e.snd ≠ e.key) :
    Calls Tryz.prog 19 #[.agg C, v] w fun r w' => r = .returned (.int .i64 (chkK e l)) ∧ Below w.heap.size w w' := by
  have hc := Ctx.start w
  have e3 := he.i3
  have e4 := he.i4
  have e5 := he.i5
  have s5 := he.s5
  obtain ⟨D, hD, hin⟩ := he.con
  have d6 := hD.vc.sz
  rw [hk] at e4
  have kU : ∀ W, Calls Tryz.prog 48 #[.string e.key] W fun r w' => r = .returned (.bool (isU e.key)) ∧ w' = W := fun W => ruser_any' e.key W (by omega)
  rw [hU] at kU
  have kW := fun W h => rword_any e.con D sMemb B W h hD
  have kC : ∀ W, Below B.heap.size B W → Calls Tryz.prog 25 #[v, .string tC, .string s0] W fun r w' => ∃ X, r = .returned (.tuple #[.agg X, .bool (std tC s0 l).isSome]) ∧ EC B (stdD l tC s0) X ∧ Below W.heap.size W w' := fun W h => stands_any l v tC s0 B W h hl
  have k1 := fun W h => rmemb_any l v e.snd B W h hl
  have k2 := fun W h => rmemb_any l v e.key B W h hl
  have l1 := fun W h => rlevel_any l v e.snd B W h hl
  have l2 := fun W h => rlevel_any l v e.key B W h hl
  have kF := fun d W h => rlevelFor_any l v d B W h hl
  rw [← wordR_f] at hW
  obtain ⟨⟨m, mi⟩, hm⟩ : ∃ p, wordR e.con sMemb = p := ⟨_, rfl⟩
  rw [hm] at kW hW
  clear hm
  replace hW : m = sLeave := hW
  have qm0 := beq_const m sJoin (l := [106, 111, 105, 110]) rfl
  rw [decide_eq_false (by rw [hW]; decide)] at qm0
  have qm1 := beq_const m sInvite (l := [105, 110, 118, 105, 116, 101]) rfl
  rw [decide_eq_false (by rw [hW]; decide)] at qm1
  have qm2 := beq_const m sLeave (l := [108, 101, 97, 118, 101]) rfl
  rw [decide_eq_true hW] at qm2
  have qm3 := beq_const m sBan (l := [98, 97, 110]) rfl
  rw [decide_eq_false (by rw [hW]; decide)] at qm3
  clear hW
  have qs := beq_bytes e.snd e.key
  rw [decide_eq_false hs] at qs
  clear hs
  unfold chkK chkK2
  have kF1 := kF sBan
  have kF2 := kF sKick
  clear kF
  generalize lvFor l sBan = F1 at *
  generalize lvFor l sKick = F2 at *
  generalize memb l e.snd = M1 at *
  generalize memb l e.key = M2 at *
  generalize level l e.snd = L1 at *
  generalize level l e.key = L2 at *
  have qa := beq_const M1 sJoin (l := [106, 111, 105, 110]) rfl
  have qc := beq_const M2 sBan (l := [98, 97, 110]) rfl
  clear hl he hD hk hU
  by_cases ha : M1 = sJoin
  · rw [if_pos ha]
    rw [decide_eq_true ha] at qa
    clear ha
    by_cases hb : M2 = sBan
    · rw [if_pos hb]
      rw [decide_eq_true hb] at qc
      clear hb
      by_cases hg : L1 < F1
      · rw [if_pos hg]
        skip
        show Calls Tryz.prog 19 #[.agg C, v] w fun r w' => r = .returned (.int .i64 29) ∧ Below w.heap.size w w'
        have z0 : True := trivial
        go_enter Tryz.func19, Tryz.ntmps19
        go_wp2_with (first
          | (have hq := z10; clear hq; go_at_call 52; refine (kF1 _ (hB.trans (hc.bel.mono hB.size))).mono ?_; rintro r wq ⟨rfl, hbq⟩; replace hc := hc.call hbq; clear kF1; clear hbq; clear z10; have z11 : True := trivial)
          | (have hq := z9; clear hq; go_at_call 20; refine (l2 _ (hB.trans (hc.bel.mono hB.size))).mono ?_; rintro r wq ⟨rfl, hbq⟩; replace hc := hc.call hbq; replace c3 := hc.cell 1 rfl 3 e3; replace c5 := hc.cell 1 rfl 5 e5; clear l2; clear hbq; clear z9; have z10 : True := trivial)
          | (have hq := z8; clear hq; go_at_call 20; refine (l1 _ (hB.trans (hc.bel.mono hB.size))).mono ?_; rintro r wq ⟨rfl, hbq⟩; replace hc := hc.call hbq; replace c3 := hc.cell 1 rfl 3 e3; replace c5 := hc.cell 1 rfl 5 e5; clear l1; clear hbq; clear z8; have z9 : True := trivial)
          | (have hq := z7; clear hq; go_at_call 21; refine (k2 _ (hB.trans (hc.bel.mono hB.size))).mono ?_; rintro r wq ⟨rfl, hbq⟩; replace hc := hc.call hbq; replace c3 := hc.cell 1 rfl 3 e3; replace c5 := hc.cell 1 rfl 5 e5; clear k2; clear hbq; clear z7; have z8 : True := trivial)
          | (have hq := z6; clear hq; go_at_call 21; refine (k1 _ (hB.trans (hc.bel.mono hB.size))).mono ?_; rintro r wq ⟨rfl, hbq⟩; replace hc := hc.call hbq; replace c3 := hc.cell 1 rfl 3 e3; replace c5 := hc.cell 1 rfl 5 e5; clear k1; clear hbq; clear z6; have z7 : True := trivial)
          | (have hq := z5; clear hq; refine v_decl rfl rfl 28 rfl (.tmp 8) (.tmp 53) rfl zE X z28 (fun _ => rfl) (fun _ => rfl) (by rw [x28]; rfl) (sz28 x28) x1 hc ?_; intro wq Nq hcq _; replace hc := hcq; have c3 := hc.cell 1 rfl 3 e3; have c5 := hc.cell 1 rfl 5 e5; clear hcq; clear z5; have z6 : True := trivial)
          | (have hq := z4; clear hq; go_at_call 25; refine (kC _ (hB.trans (hc.bel.mono hB.size))).mono ?_; rintro r wq ⟨X, rfl, hX, hbq⟩; replace hc := hc.call hbq; have x28 := hX.sz; have x1 := hX.one; have xi := hX.i0; have xs := hX.i3; clear hX kC c4 c5; clear hbq; clear z4; have z5 : True := trivial)
          | (have hq := z3; clear hq; go_at_call 49; refine (kW _ (hB.trans (hc.bel.mono hB.size))).mono ?_; rintro r wq ⟨rfl, hbq⟩; replace hc := hc.call hbq; replace c4 := hc.cell 0 rfl 4 e4; replace c5 := hc.cell 0 rfl 5 e5; clear kW; clear hbq; clear z3; have z4 : True := trivial)
          | (have hq := z2; clear hq; refine v_part rfl 26 (.tmp 22) rfl 0 D rfl hc rfl hin _ Tryz.underlying26 rfl (sz26 d6) ?_; clear z2; have z3 : True := trivial)
          | (have hq := z1; clear hq; go_at_call 48; refine (kU _).mono ?_; rintro r wq ⟨rfl, rfl⟩; clear kU; clear z1; have z2 : True := trivial)
          | (have hq := z0; clear hq; refine v_box rfl 28 (.tmp 0) rfl C rfl hc ?_; intro wq Nq hcq _; replace hc := hcq; have c4 := hc.cell 0 rfl 4 e4; have c5 := hc.cell 0 rfl 5 e5; clear hcq; clear z0; have z1 : True := trivial))
        all_goals
          go_ret
          exact ⟨rfl, hc.bel⟩
      · rw [if_neg hg]
        skip
        by_cases hd : L1 < F2
        · rw [if_pos hd]
          skip
          show Calls Tryz.prog 19 #[.agg C, v] w fun r w' => r = .returned (.int .i64 30) ∧ Below w.heap.size w w'
          have z0 : True := trivial
          go_enter Tryz.func19, Tryz.ntmps19
          go_wp2_with (first
            | (have hq := z11; clear hq; go_at_call 52; refine (kF2 _ (hB.trans (hc.bel.mono hB.size))).mono ?_; rintro r wq ⟨rfl, hbq⟩; replace hc := hc.call hbq; clear kF2; clear hbq; clear z11; have z12 : True := trivial)
            | (have hq := z10; clear hq; go_at_call 52; refine (kF1 _ (hB.trans (hc.bel.mono hB.size))).mono ?_; rintro r wq ⟨rfl, hbq⟩; replace hc := hc.call hbq; clear kF1; clear hbq; clear z10; have z11 : True := trivial)
            | (have hq := z9; clear hq; go_at_call 20; refine (l2 _ (hB.trans (hc.bel.mono hB.size))).mono ?_; rintro r wq ⟨rfl, hbq⟩; replace hc := hc.call hbq; replace c3 := hc.cell 1 rfl 3 e3; replace c5 := hc.cell 1 rfl 5 e5; clear l2; clear hbq; clear z9; have z10 : True := trivial)
            | (have hq := z8; clear hq; go_at_call 20; refine (l1 _ (hB.trans (hc.bel.mono hB.size))).mono ?_; rintro r wq ⟨rfl, hbq⟩; replace hc := hc.call hbq; replace c3 := hc.cell 1 rfl 3 e3; replace c5 := hc.cell 1 rfl 5 e5; clear l1; clear hbq; clear z8; have z9 : True := trivial)
            | (have hq := z7; clear hq; go_at_call 21; refine (k2 _ (hB.trans (hc.bel.mono hB.size))).mono ?_; rintro r wq ⟨rfl, hbq⟩; replace hc := hc.call hbq; replace c3 := hc.cell 1 rfl 3 e3; replace c5 := hc.cell 1 rfl 5 e5; clear k2; clear hbq; clear z7; have z8 : True := trivial)
            | (have hq := z6; clear hq; go_at_call 21; refine (k1 _ (hB.trans (hc.bel.mono hB.size))).mono ?_; rintro r wq ⟨rfl, hbq⟩; replace hc := hc.call hbq; replace c3 := hc.cell 1 rfl 3 e3; replace c5 := hc.cell 1 rfl 5 e5; clear k1; clear hbq; clear z6; have z7 : True := trivial)
            | (have hq := z5; clear hq; refine v_decl rfl rfl 28 rfl (.tmp 8) (.tmp 53) rfl zE X z28 (fun _ => rfl) (fun _ => rfl) (by rw [x28]; rfl) (sz28 x28) x1 hc ?_; intro wq Nq hcq _; replace hc := hcq; have c3 := hc.cell 1 rfl 3 e3; have c5 := hc.cell 1 rfl 5 e5; clear hcq; clear z5; have z6 : True := trivial)
            | (have hq := z4; clear hq; go_at_call 25; refine (kC _ (hB.trans (hc.bel.mono hB.size))).mono ?_; rintro r wq ⟨X, rfl, hX, hbq⟩; replace hc := hc.call hbq; have x28 := hX.sz; have x1 := hX.one; have xi := hX.i0; have xs := hX.i3; clear hX kC c4 c5; clear hbq; clear z4; have z5 : True := trivial)
            | (have hq := z3; clear hq; go_at_call 49; refine (kW _ (hB.trans (hc.bel.mono hB.size))).mono ?_; rintro r wq ⟨rfl, hbq⟩; replace hc := hc.call hbq; replace c4 := hc.cell 0 rfl 4 e4; replace c5 := hc.cell 0 rfl 5 e5; clear kW; clear hbq; clear z3; have z4 : True := trivial)
            | (have hq := z2; clear hq; refine v_part rfl 26 (.tmp 22) rfl 0 D rfl hc rfl hin _ Tryz.underlying26 rfl (sz26 d6) ?_; clear z2; have z3 : True := trivial)
            | (have hq := z1; clear hq; go_at_call 48; refine (kU _).mono ?_; rintro r wq ⟨rfl, rfl⟩; clear kU; clear z1; have z2 : True := trivial)
            | (have hq := z0; clear hq; refine v_box rfl 28 (.tmp 0) rfl C rfl hc ?_; intro wq Nq hcq _; replace hc := hcq; have c4 := hc.cell 0 rfl 4 e4; have c5 := hc.cell 0 rfl 5 e5; clear hcq; clear z0; have z1 : True := trivial))
          all_goals
            go_ret
            exact ⟨rfl, hc.bel⟩
        · rw [if_neg hd]
          skip
          by_cases hf : L1 ≤ L2
          · rw [if_pos hf]
            skip
            show Calls Tryz.prog 19 #[.agg C, v] w fun r w' => r = .returned (.int .i64 30) ∧ Below w.heap.size w w'
            have z0 : True := trivial
            go_enter Tryz.func19, Tryz.ntmps19
            go_wp2_with (first
              | (have hq := z11; clear hq; go_at_call 52; refine (kF2 _ (hB.trans (hc.bel.mono hB.size))).mono ?_; rintro r wq ⟨rfl, hbq⟩; replace hc := hc.call hbq; clear kF2; clear hbq; clear z11; have z12 : True := trivial)
              | (have hq := z10; clear hq; go_at_call 52; refine (kF1 _ (hB.trans (hc.bel.mono hB.size))).mono ?_; rintro r wq ⟨rfl, hbq⟩; replace hc := hc.call hbq; clear kF1; clear hbq; clear z10; have z11 : True := trivial)
              | (have hq := z9; clear hq; go_at_call 20; refine (l2 _ (hB.trans (hc.bel.mono hB.size))).mono ?_; rintro r wq ⟨rfl, hbq⟩; replace hc := hc.call hbq; replace c3 := hc.cell 1 rfl 3 e3; replace c5 := hc.cell 1 rfl 5 e5; clear l2; clear hbq; clear z9; have z10 : True := trivial)
              | (have hq := z8; clear hq; go_at_call 20; refine (l1 _ (hB.trans (hc.bel.mono hB.size))).mono ?_; rintro r wq ⟨rfl, hbq⟩; replace hc := hc.call hbq; replace c3 := hc.cell 1 rfl 3 e3; replace c5 := hc.cell 1 rfl 5 e5; clear l1; clear hbq; clear z8; have z9 : True := trivial)
              | (have hq := z7; clear hq; go_at_call 21; refine (k2 _ (hB.trans (hc.bel.mono hB.size))).mono ?_; rintro r wq ⟨rfl, hbq⟩; replace hc := hc.call hbq; replace c3 := hc.cell 1 rfl 3 e3; replace c5 := hc.cell 1 rfl 5 e5; clear k2; clear hbq; clear z7; have z8 : True := trivial)
              | (have hq := z6; clear hq; go_at_call 21; refine (k1 _ (hB.trans (hc.bel.mono hB.size))).mono ?_; rintro r wq ⟨rfl, hbq⟩; replace hc := hc.call hbq; replace c3 := hc.cell 1 rfl 3 e3; replace c5 := hc.cell 1 rfl 5 e5; clear k1; clear hbq; clear z6; have z7 : True := trivial)
              | (have hq := z5; clear hq; refine v_decl rfl rfl 28 rfl (.tmp 8) (.tmp 53) rfl zE X z28 (fun _ => rfl) (fun _ => rfl) (by rw [x28]; rfl) (sz28 x28) x1 hc ?_; intro wq Nq hcq _; replace hc := hcq; have c3 := hc.cell 1 rfl 3 e3; have c5 := hc.cell 1 rfl 5 e5; clear hcq; clear z5; have z6 : True := trivial)
              | (have hq := z4; clear hq; go_at_call 25; refine (kC _ (hB.trans (hc.bel.mono hB.size))).mono ?_; rintro r wq ⟨X, rfl, hX, hbq⟩; replace hc := hc.call hbq; have x28 := hX.sz; have x1 := hX.one; have xi := hX.i0; have xs := hX.i3; clear hX kC c4 c5; clear hbq; clear z4; have z5 : True := trivial)
              | (have hq := z3; clear hq; go_at_call 49; refine (kW _ (hB.trans (hc.bel.mono hB.size))).mono ?_; rintro r wq ⟨rfl, hbq⟩; replace hc := hc.call hbq; replace c4 := hc.cell 0 rfl 4 e4; replace c5 := hc.cell 0 rfl 5 e5; clear kW; clear hbq; clear z3; have z4 : True := trivial)
              | (have hq := z2; clear hq; refine v_part rfl 26 (.tmp 22) rfl 0 D rfl hc rfl hin _ Tryz.underlying26 rfl (sz26 d6) ?_; clear z2; have z3 : True := trivial)
              | (have hq := z1; clear hq; go_at_call 48; refine (kU _).mono ?_; rintro r wq ⟨rfl, rfl⟩; clear kU; clear z1; have z2 : True := trivial)
              | (have hq := z0; clear hq; refine v_box rfl 28 (.tmp 0) rfl C rfl hc ?_; intro wq Nq hcq _; replace hc := hcq; have c4 := hc.cell 0 rfl 4 e4; have c5 := hc.cell 0 rfl 5 e5; clear hcq; clear z0; have z1 : True := trivial))
            all_goals
              go_ret
              exact ⟨rfl, hc.bel⟩
          · rw [if_neg hf]
            skip
            show Calls Tryz.prog 19 #[.agg C, v] w fun r w' => r = .returned (.int .i64 0) ∧ Below w.heap.size w w'
            have z0 : True := trivial
            go_enter Tryz.func19, Tryz.ntmps19
            go_wp2_with (first
              | (have hq := z11; clear hq; go_at_call 52; refine (kF2 _ (hB.trans (hc.bel.mono hB.size))).mono ?_; rintro r wq ⟨rfl, hbq⟩; replace hc := hc.call hbq; clear kF2; clear hbq; clear z11; have z12 : True := trivial)
              | (have hq := z10; clear hq; go_at_call 52; refine (kF1 _ (hB.trans (hc.bel.mono hB.size))).mono ?_; rintro r wq ⟨rfl, hbq⟩; replace hc := hc.call hbq; clear kF1; clear hbq; clear z10; have z11 : True := trivial)
              | (have hq := z9; clear hq; go_at_call 20; refine (l2 _ (hB.trans (hc.bel.mono hB.size))).mono ?_; rintro r wq ⟨rfl, hbq⟩; replace hc := hc.call hbq; replace c3 := hc.cell 1 rfl 3 e3; replace c5 := hc.cell 1 rfl 5 e5; clear l2; clear hbq; clear z9; have z10 : True := trivial)
              | (have hq := z8; clear hq; go_at_call 20; refine (l1 _ (hB.trans (hc.bel.mono hB.size))).mono ?_; rintro r wq ⟨rfl, hbq⟩; replace hc := hc.call hbq; replace c3 := hc.cell 1 rfl 3 e3; replace c5 := hc.cell 1 rfl 5 e5; clear l1; clear hbq; clear z8; have z9 : True := trivial)
              | (have hq := z7; clear hq; go_at_call 21; refine (k2 _ (hB.trans (hc.bel.mono hB.size))).mono ?_; rintro r wq ⟨rfl, hbq⟩; replace hc := hc.call hbq; replace c3 := hc.cell 1 rfl 3 e3; replace c5 := hc.cell 1 rfl 5 e5; clear k2; clear hbq; clear z7; have z8 : True := trivial)
              | (have hq := z6; clear hq; go_at_call 21; refine (k1 _ (hB.trans (hc.bel.mono hB.size))).mono ?_; rintro r wq ⟨rfl, hbq⟩; replace hc := hc.call hbq; replace c3 := hc.cell 1 rfl 3 e3; replace c5 := hc.cell 1 rfl 5 e5; clear k1; clear hbq; clear z6; have z7 : True := trivial)
              | (have hq := z5; clear hq; refine v_decl rfl rfl 28 rfl (.tmp 8) (.tmp 53) rfl zE X z28 (fun _ => rfl) (fun _ => rfl) (by rw [x28]; rfl) (sz28 x28) x1 hc ?_; intro wq Nq hcq _; replace hc := hcq; have c3 := hc.cell 1 rfl 3 e3; have c5 := hc.cell 1 rfl 5 e5; clear hcq; clear z5; have z6 : True := trivial)
              | (have hq := z4; clear hq; go_at_call 25; refine (kC _ (hB.trans (hc.bel.mono hB.size))).mono ?_; rintro r wq ⟨X, rfl, hX, hbq⟩; replace hc := hc.call hbq; have x28 := hX.sz; have x1 := hX.one; have xi := hX.i0; have xs := hX.i3; clear hX kC c4 c5; clear hbq; clear z4; have z5 : True := trivial)
              | (have hq := z3; clear hq; go_at_call 49; refine (kW _ (hB.trans (hc.bel.mono hB.size))).mono ?_; rintro r wq ⟨rfl, hbq⟩; replace hc := hc.call hbq; replace c4 := hc.cell 0 rfl 4 e4; replace c5 := hc.cell 0 rfl 5 e5; clear kW; clear hbq; clear z3; have z4 : True := trivial)
              | (have hq := z2; clear hq; refine v_part rfl 26 (.tmp 22) rfl 0 D rfl hc rfl hin _ Tryz.underlying26 rfl (sz26 d6) ?_; clear z2; have z3 : True := trivial)
              | (have hq := z1; clear hq; go_at_call 48; refine (kU _).mono ?_; rintro r wq ⟨rfl, rfl⟩; clear kU; clear z1; have z2 : True := trivial)
              | (have hq := z0; clear hq; refine v_box rfl 28 (.tmp 0) rfl C rfl hc ?_; intro wq Nq hcq _; replace hc := hcq; have c4 := hc.cell 0 rfl 4 e4; have c5 := hc.cell 0 rfl 5 e5; clear hcq; clear z0; have z1 : True := trivial))
            all_goals
              go_ret
              exact ⟨rfl, hc.bel⟩
    · rw [if_neg hb]
      rw [decide_eq_false hb] at qc
      clear hb
      by_cases hd : L1 < F2
      · rw [if_pos hd]
        skip
        show Calls Tryz.prog 19 #[.agg C, v] w fun r w' => r = .returned (.int .i64 30) ∧ Below w.heap.size w w'
        have z0 : True := trivial
        go_enter Tryz.func19, Tryz.ntmps19
        go_wp2_with (first
          | (have hq := z10; clear hq; go_at_call 52; refine (kF2 _ (hB.trans (hc.bel.mono hB.size))).mono ?_; rintro r wq ⟨rfl, hbq⟩; replace hc := hc.call hbq; clear kF2; clear hbq; clear z10; have z11 : True := trivial)
          | (have hq := z9; clear hq; go_at_call 20; refine (l2 _ (hB.trans (hc.bel.mono hB.size))).mono ?_; rintro r wq ⟨rfl, hbq⟩; replace hc := hc.call hbq; replace c3 := hc.cell 1 rfl 3 e3; replace c5 := hc.cell 1 rfl 5 e5; clear l2; clear hbq; clear z9; have z10 : True := trivial)
          | (have hq := z8; clear hq; go_at_call 20; refine (l1 _ (hB.trans (hc.bel.mono hB.size))).mono ?_; rintro r wq ⟨rfl, hbq⟩; replace hc := hc.call hbq; replace c3 := hc.cell 1 rfl 3 e3; replace c5 := hc.cell 1 rfl 5 e5; clear l1; clear hbq; clear z8; have z9 : True := trivial)
          | (have hq := z7; clear hq; go_at_call 21; refine (k2 _ (hB.trans (hc.bel.mono hB.size))).mono ?_; rintro r wq ⟨rfl, hbq⟩; replace hc := hc.call hbq; replace c3 := hc.cell 1 rfl 3 e3; replace c5 := hc.cell 1 rfl 5 e5; clear k2; clear hbq; clear z7; have z8 : True := trivial)
          | (have hq := z6; clear hq; go_at_call 21; refine (k1 _ (hB.trans (hc.bel.mono hB.size))).mono ?_; rintro r wq ⟨rfl, hbq⟩; replace hc := hc.call hbq; replace c3 := hc.cell 1 rfl 3 e3; replace c5 := hc.cell 1 rfl 5 e5; clear k1; clear hbq; clear z6; have z7 : True := trivial)
          | (have hq := z5; clear hq; refine v_decl rfl rfl 28 rfl (.tmp 8) (.tmp 53) rfl zE X z28 (fun _ => rfl) (fun _ => rfl) (by rw [x28]; rfl) (sz28 x28) x1 hc ?_; intro wq Nq hcq _; replace hc := hcq; have c3 := hc.cell 1 rfl 3 e3; have c5 := hc.cell 1 rfl 5 e5; clear hcq; clear z5; have z6 : True := trivial)
          | (have hq := z4; clear hq; go_at_call 25; refine (kC _ (hB.trans (hc.bel.mono hB.size))).mono ?_; rintro r wq ⟨X, rfl, hX, hbq⟩; replace hc := hc.call hbq; have x28 := hX.sz; have x1 := hX.one; have xi := hX.i0; have xs := hX.i3; clear hX kC c4 c5; clear hbq; clear z4; have z5 : True := trivial)
          | (have hq := z3; clear hq; go_at_call 49; refine (kW _ (hB.trans (hc.bel.mono hB.size))).mono ?_; rintro r wq ⟨rfl, hbq⟩; replace hc := hc.call hbq; replace c4 := hc.cell 0 rfl 4 e4; replace c5 := hc.cell 0 rfl 5 e5; clear kW; clear hbq; clear z3; have z4 : True := trivial)
          | (have hq := z2; clear hq; refine v_part rfl 26 (.tmp 22) rfl 0 D rfl hc rfl hin _ Tryz.underlying26 rfl (sz26 d6) ?_; clear z2; have z3 : True := trivial)
          | (have hq := z1; clear hq; go_at_call 48; refine (kU _).mono ?_; rintro r wq ⟨rfl, rfl⟩; clear kU; clear z1; have z2 : True := trivial)
          | (have hq := z0; clear hq; refine v_box rfl 28 (.tmp 0) rfl C rfl hc ?_; intro wq Nq hcq _; replace hc := hcq; have c4 := hc.cell 0 rfl 4 e4; have c5 := hc.cell 0 rfl 5 e5; clear hcq; clear z0; have z1 : True := trivial))
        all_goals
          go_ret
          exact ⟨rfl, hc.bel⟩
      · rw [if_neg hd]
        skip
        by_cases hf : L1 ≤ L2
        · rw [if_pos hf]
          skip
          show Calls Tryz.prog 19 #[.agg C, v] w fun r w' => r = .returned (.int .i64 30) ∧ Below w.heap.size w w'
          have z0 : True := trivial
          go_enter Tryz.func19, Tryz.ntmps19
          go_wp2_with (first
            | (have hq := z10; clear hq; go_at_call 52; refine (kF2 _ (hB.trans (hc.bel.mono hB.size))).mono ?_; rintro r wq ⟨rfl, hbq⟩; replace hc := hc.call hbq; clear kF2; clear hbq; clear z10; have z11 : True := trivial)
            | (have hq := z9; clear hq; go_at_call 20; refine (l2 _ (hB.trans (hc.bel.mono hB.size))).mono ?_; rintro r wq ⟨rfl, hbq⟩; replace hc := hc.call hbq; replace c3 := hc.cell 1 rfl 3 e3; replace c5 := hc.cell 1 rfl 5 e5; clear l2; clear hbq; clear z9; have z10 : True := trivial)
            | (have hq := z8; clear hq; go_at_call 20; refine (l1 _ (hB.trans (hc.bel.mono hB.size))).mono ?_; rintro r wq ⟨rfl, hbq⟩; replace hc := hc.call hbq; replace c3 := hc.cell 1 rfl 3 e3; replace c5 := hc.cell 1 rfl 5 e5; clear l1; clear hbq; clear z8; have z9 : True := trivial)
            | (have hq := z7; clear hq; go_at_call 21; refine (k2 _ (hB.trans (hc.bel.mono hB.size))).mono ?_; rintro r wq ⟨rfl, hbq⟩; replace hc := hc.call hbq; replace c3 := hc.cell 1 rfl 3 e3; replace c5 := hc.cell 1 rfl 5 e5; clear k2; clear hbq; clear z7; have z8 : True := trivial)
            | (have hq := z6; clear hq; go_at_call 21; refine (k1 _ (hB.trans (hc.bel.mono hB.size))).mono ?_; rintro r wq ⟨rfl, hbq⟩; replace hc := hc.call hbq; replace c3 := hc.cell 1 rfl 3 e3; replace c5 := hc.cell 1 rfl 5 e5; clear k1; clear hbq; clear z6; have z7 : True := trivial)
            | (have hq := z5; clear hq; refine v_decl rfl rfl 28 rfl (.tmp 8) (.tmp 53) rfl zE X z28 (fun _ => rfl) (fun _ => rfl) (by rw [x28]; rfl) (sz28 x28) x1 hc ?_; intro wq Nq hcq _; replace hc := hcq; have c3 := hc.cell 1 rfl 3 e3; have c5 := hc.cell 1 rfl 5 e5; clear hcq; clear z5; have z6 : True := trivial)
            | (have hq := z4; clear hq; go_at_call 25; refine (kC _ (hB.trans (hc.bel.mono hB.size))).mono ?_; rintro r wq ⟨X, rfl, hX, hbq⟩; replace hc := hc.call hbq; have x28 := hX.sz; have x1 := hX.one; have xi := hX.i0; have xs := hX.i3; clear hX kC c4 c5; clear hbq; clear z4; have z5 : True := trivial)
            | (have hq := z3; clear hq; go_at_call 49; refine (kW _ (hB.trans (hc.bel.mono hB.size))).mono ?_; rintro r wq ⟨rfl, hbq⟩; replace hc := hc.call hbq; replace c4 := hc.cell 0 rfl 4 e4; replace c5 := hc.cell 0 rfl 5 e5; clear kW; clear hbq; clear z3; have z4 : True := trivial)
            | (have hq := z2; clear hq; refine v_part rfl 26 (.tmp 22) rfl 0 D rfl hc rfl hin _ Tryz.underlying26 rfl (sz26 d6) ?_; clear z2; have z3 : True := trivial)
            | (have hq := z1; clear hq; go_at_call 48; refine (kU _).mono ?_; rintro r wq ⟨rfl, rfl⟩; clear kU; clear z1; have z2 : True := trivial)
            | (have hq := z0; clear hq; refine v_box rfl 28 (.tmp 0) rfl C rfl hc ?_; intro wq Nq hcq _; replace hc := hcq; have c4 := hc.cell 0 rfl 4 e4; have c5 := hc.cell 0 rfl 5 e5; clear hcq; clear z0; have z1 : True := trivial))
          all_goals
            go_ret
            exact ⟨rfl, hc.bel⟩
        · rw [if_neg hf]
          skip
          show Calls Tryz.prog 19 #[.agg C, v] w fun r w' => r = .returned (.int .i64 0) ∧ Below w.heap.size w w'
          have z0 : True := trivial
          go_enter Tryz.func19, Tryz.ntmps19
          go_wp2_with (first
            | (have hq := z10; clear hq; go_at_call 52; refine (kF2 _ (hB.trans (hc.bel.mono hB.size))).mono ?_; rintro r wq ⟨rfl, hbq⟩; replace hc := hc.call hbq; clear kF2; clear hbq; clear z10; have z11 : True := trivial)
            | (have hq := z9; clear hq; go_at_call 20; refine (l2 _ (hB.trans (hc.bel.mono hB.size))).mono ?_; rintro r wq ⟨rfl, hbq⟩; replace hc := hc.call hbq; replace c3 := hc.cell 1 rfl 3 e3; replace c5 := hc.cell 1 rfl 5 e5; clear l2; clear hbq; clear z9; have z10 : True := trivial)
            | (have hq := z8; clear hq; go_at_call 20; refine (l1 _ (hB.trans (hc.bel.mono hB.size))).mono ?_; rintro r wq ⟨rfl, hbq⟩; replace hc := hc.call hbq; replace c3 := hc.cell 1 rfl 3 e3; replace c5 := hc.cell 1 rfl 5 e5; clear l1; clear hbq; clear z8; have z9 : True := trivial)
            | (have hq := z7; clear hq; go_at_call 21; refine (k2 _ (hB.trans (hc.bel.mono hB.size))).mono ?_; rintro r wq ⟨rfl, hbq⟩; replace hc := hc.call hbq; replace c3 := hc.cell 1 rfl 3 e3; replace c5 := hc.cell 1 rfl 5 e5; clear k2; clear hbq; clear z7; have z8 : True := trivial)
            | (have hq := z6; clear hq; go_at_call 21; refine (k1 _ (hB.trans (hc.bel.mono hB.size))).mono ?_; rintro r wq ⟨rfl, hbq⟩; replace hc := hc.call hbq; replace c3 := hc.cell 1 rfl 3 e3; replace c5 := hc.cell 1 rfl 5 e5; clear k1; clear hbq; clear z6; have z7 : True := trivial)
            | (have hq := z5; clear hq; refine v_decl rfl rfl 28 rfl (.tmp 8) (.tmp 53) rfl zE X z28 (fun _ => rfl) (fun _ => rfl) (by rw [x28]; rfl) (sz28 x28) x1 hc ?_; intro wq Nq hcq _; replace hc := hcq; have c3 := hc.cell 1 rfl 3 e3; have c5 := hc.cell 1 rfl 5 e5; clear hcq; clear z5; have z6 : True := trivial)
            | (have hq := z4; clear hq; go_at_call 25; refine (kC _ (hB.trans (hc.bel.mono hB.size))).mono ?_; rintro r wq ⟨X, rfl, hX, hbq⟩; replace hc := hc.call hbq; have x28 := hX.sz; have x1 := hX.one; have xi := hX.i0; have xs := hX.i3; clear hX kC c4 c5; clear hbq; clear z4; have z5 : True := trivial)
            | (have hq := z3; clear hq; go_at_call 49; refine (kW _ (hB.trans (hc.bel.mono hB.size))).mono ?_; rintro r wq ⟨rfl, hbq⟩; replace hc := hc.call hbq; replace c4 := hc.cell 0 rfl 4 e4; replace c5 := hc.cell 0 rfl 5 e5; clear kW; clear hbq; clear z3; have z4 : True := trivial)
            | (have hq := z2; clear hq; refine v_part rfl 26 (.tmp 22) rfl 0 D rfl hc rfl hin _ Tryz.underlying26 rfl (sz26 d6) ?_; clear z2; have z3 : True := trivial)
            | (have hq := z1; clear hq; go_at_call 48; refine (kU _).mono ?_; rintro r wq ⟨rfl, rfl⟩; clear kU; clear z1; have z2 : True := trivial)
            | (have hq := z0; clear hq; refine v_box rfl 28 (.tmp 0) rfl C rfl hc ?_; intro wq Nq hcq _; replace hc := hcq; have c4 := hc.cell 0 rfl 4 e4; have c5 := hc.cell 0 rfl 5 e5; clear hcq; clear z0; have z1 : True := trivial))
          all_goals
            go_ret
            exact ⟨rfl, hc.bel⟩
  · rw [if_neg ha]
    rw [decide_eq_false ha] at qa
    clear ha
    show Calls Tryz.prog 19 #[.agg C, v] w fun r w' => r = .returned (.int .i64 28) ∧ Below w.heap.size w w'
    have z0 : True := trivial
    go_enter Tryz.func19, Tryz.ntmps19
    go_wp2_with (first
      | (have hq := z9; clear hq; go_at_call 20; refine (l2 _ (hB.trans (hc.bel.mono hB.size))).mono ?_; rintro r wq ⟨rfl, hbq⟩; replace hc := hc.call hbq; replace c3 := hc.cell 1 rfl 3 e3; replace c5 := hc.cell 1 rfl 5 e5; clear l2; clear hbq; clear z9; have z10 : True := trivial)
      | (have hq := z8; clear hq; go_at_call 20; refine (l1 _ (hB.trans (hc.bel.mono hB.size))).mono ?_; rintro r wq ⟨rfl, hbq⟩; replace hc := hc.call hbq; replace c3 := hc.cell 1 rfl 3 e3; replace c5 := hc.cell 1 rfl 5 e5; clear l1; clear hbq; clear z8; have z9 : True := trivial)
      | (have hq := z7; clear hq; go_at_call 21; refine (k2 _ (hB.trans (hc.bel.mono hB.size))).mono ?_; rintro r wq ⟨rfl, hbq⟩; replace hc := hc.call hbq; replace c3 := hc.cell 1 rfl 3 e3; replace c5 := hc.cell 1 rfl 5 e5; clear k2; clear hbq; clear z7; have z8 : True := trivial)
      | (have hq := z6; clear hq; go_at_call 21; refine (k1 _ (hB.trans (hc.bel.mono hB.size))).mono ?_; rintro r wq ⟨rfl, hbq⟩; replace hc := hc.call hbq; replace c3 := hc.cell 1 rfl 3 e3; replace c5 := hc.cell 1 rfl 5 e5; clear k1; clear hbq; clear z6; have z7 : True := trivial)
      | (have hq := z5; clear hq; refine v_decl rfl rfl 28 rfl (.tmp 8) (.tmp 53) rfl zE X z28 (fun _ => rfl) (fun _ => rfl) (by rw [x28]; rfl) (sz28 x28) x1 hc ?_; intro wq Nq hcq _; replace hc := hcq; have c3 := hc.cell 1 rfl 3 e3; have c5 := hc.cell 1 rfl 5 e5; clear hcq; clear z5; have z6 : True := trivial)
      | (have hq := z4; clear hq; go_at_call 25; refine (kC _ (hB.trans (hc.bel.mono hB.size))).mono ?_; rintro r wq ⟨X, rfl, hX, hbq⟩; replace hc := hc.call hbq; have x28 := hX.sz; have x1 := hX.one; have xi := hX.i0; have xs := hX.i3; clear hX kC c4 c5; clear hbq; clear z4; have z5 : True := trivial)
      | (have hq := z3; clear hq; go_at_call 49; refine (kW _ (hB.trans (hc.bel.mono hB.size))).mono ?_; rintro r wq ⟨rfl, hbq⟩; replace hc := hc.call hbq; replace c4 := hc.cell 0 rfl 4 e4; replace c5 := hc.cell 0 rfl 5 e5; clear kW; clear hbq; clear z3; have z4 : True := trivial)
      | (have hq := z2; clear hq; refine v_part rfl 26 (.tmp 22) rfl 0 D rfl hc rfl hin _ Tryz.underlying26 rfl (sz26 d6) ?_; clear z2; have z3 : True := trivial)
      | (have hq := z1; clear hq; go_at_call 48; refine (kU _).mono ?_; rintro r wq ⟨rfl, rfl⟩; clear kU; clear z1; have z2 : True := trivial)
      | (have hq := z0; clear hq; refine v_box rfl 28 (.tmp 0) rfl C rfl hc ?_; intro wq Nq hcq _; replace hc := hcq; have c4 := hc.cell 0 rfl 4 e4; have c5 := hc.cell 0 rfl 5 e5; clear hcq; clear z0; have z1 : True := trivial))
    all_goals
      go_ret
      exact ⟨rfl, hc.bel⟩

set_option maxRecDepth 100000 in
set_option maxHeartbeats 8000000 in
theorem rm_ban (e : EV) (l : List EV) (C : Array Value) (v : Value) (B w : World) (hB : Below B.heap.size B w) (he : EC B e C) (hl : EvsAt B v l) (hk : e.hk = true) (hU : isU e.key = true) (hW : wrd e.con sMemb s0 = sBan) :
    Calls Tryz.prog 19 #[.agg C, v] w fun r w' => r = .returned (.int .i64 (chkB e l)) ∧ Below w.heap.size w w' := by
  have hc := Ctx.start w
  have e3 := he.i3
  have e4 := he.i4
  have e5 := he.i5
  have s5 := he.s5
  obtain ⟨D, hD, hin⟩ := he.con
  have d6 := hD.vc.sz
  rw [hk] at e4
  have kU : ∀ W, Calls Tryz.prog 48 #[.string e.key] W fun r w' => r = .returned (.bool (isU e.key)) ∧ w' = W := fun W => ruser_any' e.key W (by omega)
  rw [hU] at kU
  have kW := fun W h => rword_any e.con D sMemb B W h hD
  have kC : ∀ W, Below B.heap.size B W → Calls Tryz.prog 25 #[v, .string tC, .string s0] W fun r w' => ∃ X, r = .returned (.tuple #[.agg X, .bool (std tC s0 l).isSome]) ∧ EC B (stdD l tC s0) X ∧ Below W.heap.size W w' := fun W h => stands_any l v tC s0 B W h hl
  have k1 := fun W h => rmemb_any l v e.snd B W h hl
  have k2 := fun W h => rmemb_any l v e.key B W h hl
  have l1 := fun W h => rlevel_any l v e.snd B W h hl
  have l2 := fun W h => rlevel_any l v e.key B W h hl
  have kF := fun d W h => rlevelFor_any l v d B W h hl
  rw [← wordR_f] at hW
  obtain ⟨⟨m, mi⟩, hm⟩ : ∃ p, wordR e.con sMemb = p := ⟨_, rfl⟩
  rw [hm] at kW hW
  clear hm
  replace hW : m = sBan := hW
  have qm0 := beq_const m sJoin (l := [106, 111, 105, 110]) rfl
  rw [decide_eq_false (by rw [hW]; decide)] at qm0
  have qm1 := beq_const m sInvite (l := [105, 110, 118, 105, 116, 101]) rfl
  rw [decide_eq_false (by rw [hW]; decide)] at qm1
  have qm2 := beq_const m sLeave (l := [108, 101, 97, 118, 101]) rfl
  rw [decide_eq_false (by rw [hW]; decide)] at qm2
  have qm3 := beq_const m sBan (l := [98, 97, 110]) rfl
  rw [decide_eq_true hW] at qm3
  clear hW
  unfold chkB
  have kF1 := kF sBan
  clear kF
  generalize lvFor l sBan = F1 at *
  generalize memb l e.snd = M1 at *
  generalize memb l e.key = M2 at *
  generalize level l e.snd = L1 at *
  generalize level l e.key = L2 at *
  have qa := beq_const M1 sJoin (l := [106, 111, 105, 110]) rfl
  clear hl he hD hk hU
  by_cases ha : M1 = sJoin
  · rw [if_pos ha]
    rw [decide_eq_true ha] at qa
    clear ha
    by_cases hg : L1 < F1
    · rw [if_pos hg]
      skip
      show Calls Tryz.prog 19 #[.agg C, v] w fun r w' => r = .returned (.int .i64 32) ∧ Below w.heap.size w w'
      have z0 : True := trivial
      go_enter Tryz.func19, Tryz.ntmps19
      go_wp2_with (first
        | (have hq := z10; clear hq; go_at_call 52; refine (kF1 _ (hB.trans (hc.bel.mono hB.size))).mono ?_; rintro r wq ⟨rfl, hbq⟩; replace hc := hc.call hbq; clear kF1; clear hbq; clear z10; have z11 : True := trivial)
        | (have hq := z9; clear hq; go_at_call 20; refine (l2 _ (hB.trans (hc.bel.mono hB.size))).mono ?_; rintro r wq ⟨rfl, hbq⟩; replace hc := hc.call hbq; replace c3 := hc.cell 1 rfl 3 e3; replace c5 := hc.cell 1 rfl 5 e5; clear l2; clear hbq; clear z9; have z10 : True := trivial)
        | (have hq := z8; clear hq; go_at_call 20; refine (l1 _ (hB.trans (hc.bel.mono hB.size))).mono ?_; rintro r wq ⟨rfl, hbq⟩; replace hc := hc.call hbq; replace c3 := hc.cell 1 rfl 3 e3; replace c5 := hc.cell 1 rfl 5 e5; clear l1; clear hbq; clear z8; have z9 : True := trivial)
        | (have hq := z7; clear hq; go_at_call 21; refine (k2 _ (hB.trans (hc.bel.mono hB.size))).mono ?_; rintro r wq ⟨rfl, hbq⟩; replace hc := hc.call hbq; replace c3 := hc.cell 1 rfl 3 e3; replace c5 := hc.cell 1 rfl 5 e5; clear k2; clear hbq; clear z7; have z8 : True := trivial)
        | (have hq := z6; clear hq; go_at_call 21; refine (k1 _ (hB.trans (hc.bel.mono hB.size))).mono ?_; rintro r wq ⟨rfl, hbq⟩; replace hc := hc.call hbq; replace c3 := hc.cell 1 rfl 3 e3; replace c5 := hc.cell 1 rfl 5 e5; clear k1; clear hbq; clear z6; have z7 : True := trivial)
        | (have hq := z5; clear hq; refine v_decl rfl rfl 28 rfl (.tmp 8) (.tmp 53) rfl zE X z28 (fun _ => rfl) (fun _ => rfl) (by rw [x28]; rfl) (sz28 x28) x1 hc ?_; intro wq Nq hcq _; replace hc := hcq; have c3 := hc.cell 1 rfl 3 e3; have c5 := hc.cell 1 rfl 5 e5; clear hcq; clear z5; have z6 : True := trivial)
        | (have hq := z4; clear hq; go_at_call 25; refine (kC _ (hB.trans (hc.bel.mono hB.size))).mono ?_; rintro r wq ⟨X, rfl, hX, hbq⟩; replace hc := hc.call hbq; have x28 := hX.sz; have x1 := hX.one; have xi := hX.i0; have xs := hX.i3; clear hX kC c4 c5; clear hbq; clear z4; have z5 : True := trivial)
        | (have hq := z3; clear hq; go_at_call 49; refine (kW _ (hB.trans (hc.bel.mono hB.size))).mono ?_; rintro r wq ⟨rfl, hbq⟩; replace hc := hc.call hbq; replace c4 := hc.cell 0 rfl 4 e4; replace c5 := hc.cell 0 rfl 5 e5; clear kW; clear hbq; clear z3; have z4 : True := trivial)
        | (have hq := z2; clear hq; refine v_part rfl 26 (.tmp 22) rfl 0 D rfl hc rfl hin _ Tryz.underlying26 rfl (sz26 d6) ?_; clear z2; have z3 : True := trivial)
        | (have hq := z1; clear hq; go_at_call 48; refine (kU _).mono ?_; rintro r wq ⟨rfl, rfl⟩; clear kU; clear z1; have z2 : True := trivial)
        | (have hq := z0; clear hq; refine v_box rfl 28 (.tmp 0) rfl C rfl hc ?_; intro wq Nq hcq _; replace hc := hcq; have c4 := hc.cell 0 rfl 4 e4; have c5 := hc.cell 0 rfl 5 e5; clear hcq; clear z0; have z1 : True := trivial))
      all_goals
        go_ret
        exact ⟨rfl, hc.bel⟩
    · rw [if_neg hg]
      skip
      by_cases hf : L1 ≤ L2
      · rw [if_pos hf]
        skip
        show Calls Tryz.prog 19 #[.agg C, v] w fun r w' => r = .returned (.int .i64 32) ∧ Below w.heap.size w w'
        have z0 : True := trivial
        go_enter Tryz.func19, Tryz.ntmps19
        go_wp2_with (first
          | (have hq := z10; clear hq; go_at_call 52; refine (kF1 _ (hB.trans (hc.bel.mono hB.size))).mono ?_; rintro r wq ⟨rfl, hbq⟩; replace hc := hc.call hbq; clear kF1; clear hbq; clear z10; have z11 : True := trivial)
          | (have hq := z9; clear hq; go_at_call 20; refine (l2 _ (hB.trans (hc.bel.mono hB.size))).mono ?_; rintro r wq ⟨rfl, hbq⟩; replace hc := hc.call hbq; replace c3 := hc.cell 1 rfl 3 e3; replace c5 := hc.cell 1 rfl 5 e5; clear l2; clear hbq; clear z9; have z10 : True := trivial)
          | (have hq := z8; clear hq; go_at_call 20; refine (l1 _ (hB.trans (hc.bel.mono hB.size))).mono ?_; rintro r wq ⟨rfl, hbq⟩; replace hc := hc.call hbq; replace c3 := hc.cell 1 rfl 3 e3; replace c5 := hc.cell 1 rfl 5 e5; clear l1; clear hbq; clear z8; have z9 : True := trivial)
          | (have hq := z7; clear hq; go_at_call 21; refine (k2 _ (hB.trans (hc.bel.mono hB.size))).mono ?_; rintro r wq ⟨rfl, hbq⟩; replace hc := hc.call hbq; replace c3 := hc.cell 1 rfl 3 e3; replace c5 := hc.cell 1 rfl 5 e5; clear k2; clear hbq; clear z7; have z8 : True := trivial)
          | (have hq := z6; clear hq; go_at_call 21; refine (k1 _ (hB.trans (hc.bel.mono hB.size))).mono ?_; rintro r wq ⟨rfl, hbq⟩; replace hc := hc.call hbq; replace c3 := hc.cell 1 rfl 3 e3; replace c5 := hc.cell 1 rfl 5 e5; clear k1; clear hbq; clear z6; have z7 : True := trivial)
          | (have hq := z5; clear hq; refine v_decl rfl rfl 28 rfl (.tmp 8) (.tmp 53) rfl zE X z28 (fun _ => rfl) (fun _ => rfl) (by rw [x28]; rfl) (sz28 x28) x1 hc ?_; intro wq Nq hcq _; replace hc := hcq; have c3 := hc.cell 1 rfl 3 e3; have c5 := hc.cell 1 rfl 5 e5; clear hcq; clear z5; have z6 : True := trivial)
          | (have hq := z4; clear hq; go_at_call 25; refine (kC _ (hB.trans (hc.bel.mono hB.size))).mono ?_; rintro r wq ⟨X, rfl, hX, hbq⟩; replace hc := hc.call hbq; have x28 := hX.sz; have x1 := hX.one; have xi := hX.i0; have xs := hX.i3; clear hX kC c4 c5; clear hbq; clear z4; have z5 : True := trivial)
          | (have hq := z3; clear hq; go_at_call 49; refine (kW _ (hB.trans (hc.bel.mono hB.size))).mono ?_; rintro r wq ⟨rfl, hbq⟩; replace hc := hc.call hbq; replace c4 := hc.cell 0 rfl 4 e4; replace c5 := hc.cell 0 rfl 5 e5; clear kW; clear hbq; clear z3; have z4 : True := trivial)
          | (have hq := z2; clear hq; refine v_part rfl 26 (.tmp 22) rfl 0 D rfl hc rfl hin _ Tryz.underlying26 rfl (sz26 d6) ?_; clear z2; have z3 : True := trivial)
          | (have hq := z1; clear hq; go_at_call 48; refine (kU _).mono ?_; rintro r wq ⟨rfl, rfl⟩; clear kU; clear z1; have z2 : True := trivial)
          | (have hq := z0; clear hq; refine v_box rfl 28 (.tmp 0) rfl C rfl hc ?_; intro wq Nq hcq _; replace hc := hcq; have c4 := hc.cell 0 rfl 4 e4; have c5 := hc.cell 0 rfl 5 e5; clear hcq; clear z0; have z1 : True := trivial))
        all_goals
          go_ret
          exact ⟨rfl, hc.bel⟩
      · rw [if_neg hf]
        skip
        show Calls Tryz.prog 19 #[.agg C, v] w fun r w' => r = .returned (.int .i64 0) ∧ Below w.heap.size w w'
        have z0 : True := trivial
        go_enter Tryz.func19, Tryz.ntmps19
        go_wp2_with (first
          | (have hq := z10; clear hq; go_at_call 52; refine (kF1 _ (hB.trans (hc.bel.mono hB.size))).mono ?_; rintro r wq ⟨rfl, hbq⟩; replace hc := hc.call hbq; clear kF1; clear hbq; clear z10; have z11 : True := trivial)
          | (have hq := z9; clear hq; go_at_call 20; refine (l2 _ (hB.trans (hc.bel.mono hB.size))).mono ?_; rintro r wq ⟨rfl, hbq⟩; replace hc := hc.call hbq; replace c3 := hc.cell 1 rfl 3 e3; replace c5 := hc.cell 1 rfl 5 e5; clear l2; clear hbq; clear z9; have z10 : True := trivial)
          | (have hq := z8; clear hq; go_at_call 20; refine (l1 _ (hB.trans (hc.bel.mono hB.size))).mono ?_; rintro r wq ⟨rfl, hbq⟩; replace hc := hc.call hbq; replace c3 := hc.cell 1 rfl 3 e3; replace c5 := hc.cell 1 rfl 5 e5; clear l1; clear hbq; clear z8; have z9 : True := trivial)
          | (have hq := z7; clear hq; go_at_call 21; refine (k2 _ (hB.trans (hc.bel.mono hB.size))).mono ?_; rintro r wq ⟨rfl, hbq⟩; replace hc := hc.call hbq; replace c3 := hc.cell 1 rfl 3 e3; replace c5 := hc.cell 1 rfl 5 e5; clear k2; clear hbq; clear z7; have z8 : True := trivial)
          | (have hq := z6; clear hq; go_at_call 21; refine (k1 _ (hB.trans (hc.bel.mono hB.size))).mono ?_; rintro r wq ⟨rfl, hbq⟩; replace hc := hc.call hbq; replace c3 := hc.cell 1 rfl 3 e3; replace c5 := hc.cell 1 rfl 5 e5; clear k1; clear hbq; clear z6; have z7 : True := trivial)
          | (have hq := z5; clear hq; refine v_decl rfl rfl 28 rfl (.tmp 8) (.tmp 53) rfl zE X z28 (fun _ => rfl) (fun _ => rfl) (by rw [x28]; rfl) (sz28 x28) x1 hc ?_; intro wq Nq hcq _; replace hc := hcq; have c3 := hc.cell 1 rfl 3 e3; have c5 := hc.cell 1 rfl 5 e5; clear hcq; clear z5; have z6 : True := trivial)
          | (have hq := z4; clear hq; go_at_call 25; refine (kC _ (hB.trans (hc.bel.mono hB.size))).mono ?_; rintro r wq ⟨X, rfl, hX, hbq⟩; replace hc := hc.call hbq; have x28 := hX.sz; have x1 := hX.one; have xi := hX.i0; have xs := hX.i3; clear hX kC c4 c5; clear hbq; clear z4; have z5 : True := trivial)
          | (have hq := z3; clear hq; go_at_call 49; refine (kW _ (hB.trans (hc.bel.mono hB.size))).mono ?_; rintro r wq ⟨rfl, hbq⟩; replace hc := hc.call hbq; replace c4 := hc.cell 0 rfl 4 e4; replace c5 := hc.cell 0 rfl 5 e5; clear kW; clear hbq; clear z3; have z4 : True := trivial)
          | (have hq := z2; clear hq; refine v_part rfl 26 (.tmp 22) rfl 0 D rfl hc rfl hin _ Tryz.underlying26 rfl (sz26 d6) ?_; clear z2; have z3 : True := trivial)
          | (have hq := z1; clear hq; go_at_call 48; refine (kU _).mono ?_; rintro r wq ⟨rfl, rfl⟩; clear kU; clear z1; have z2 : True := trivial)
          | (have hq := z0; clear hq; refine v_box rfl 28 (.tmp 0) rfl C rfl hc ?_; intro wq Nq hcq _; replace hc := hcq; have c4 := hc.cell 0 rfl 4 e4; have c5 := hc.cell 0 rfl 5 e5; clear hcq; clear z0; have z1 : True := trivial))
        all_goals
          go_ret
          exact ⟨rfl, hc.bel⟩
  · rw [if_neg ha]
    rw [decide_eq_false ha] at qa
    clear ha
    show Calls Tryz.prog 19 #[.agg C, v] w fun r w' => r = .returned (.int .i64 31) ∧ Below w.heap.size w w'
    have z0 : True := trivial
    go_enter Tryz.func19, Tryz.ntmps19
    go_wp2_with (first
      | (have hq := z9; clear hq; go_at_call 20; refine (l2 _ (hB.trans (hc.bel.mono hB.size))).mono ?_; rintro r wq ⟨rfl, hbq⟩; replace hc := hc.call hbq; replace c3 := hc.cell 1 rfl 3 e3; replace c5 := hc.cell 1 rfl 5 e5; clear l2; clear hbq; clear z9; have z10 : True := trivial)
      | (have hq := z8; clear hq; go_at_call 20; refine (l1 _ (hB.trans (hc.bel.mono hB.size))).mono ?_; rintro r wq ⟨rfl, hbq⟩; replace hc := hc.call hbq; replace c3 := hc.cell 1 rfl 3 e3; replace c5 := hc.cell 1 rfl 5 e5; clear l1; clear hbq; clear z8; have z9 : True := trivial)
      | (have hq := z7; clear hq; go_at_call 21; refine (k2 _ (hB.trans (hc.bel.mono hB.size))).mono ?_; rintro r wq ⟨rfl, hbq⟩; replace hc := hc.call hbq; replace c3 := hc.cell 1 rfl 3 e3; replace c5 := hc.cell 1 rfl 5 e5; clear k2; clear hbq; clear z7; have z8 : True := trivial)
      | (have hq := z6; clear hq; go_at_call 21; refine (k1 _ (hB.trans (hc.bel.mono hB.size))).mono ?_; rintro r wq ⟨rfl, hbq⟩; replace hc := hc.call hbq; replace c3 := hc.cell 1 rfl 3 e3; replace c5 := hc.cell 1 rfl 5 e5; clear k1; clear hbq; clear z6; have z7 : True := trivial)
      | (have hq := z5; clear hq; refine v_decl rfl rfl 28 rfl (.tmp 8) (.tmp 53) rfl zE X z28 (fun _ => rfl) (fun _ => rfl) (by rw [x28]; rfl) (sz28 x28) x1 hc ?_; intro wq Nq hcq _; replace hc := hcq; have c3 := hc.cell 1 rfl 3 e3; have c5 := hc.cell 1 rfl 5 e5; clear hcq; clear z5; have z6 : True := trivial)
      | (have hq := z4; clear hq; go_at_call 25; refine (kC _ (hB.trans (hc.bel.mono hB.size))).mono ?_; rintro r wq ⟨X, rfl, hX, hbq⟩; replace hc := hc.call hbq; have x28 := hX.sz; have x1 := hX.one; have xi := hX.i0; have xs := hX.i3; clear hX kC c4 c5; clear hbq; clear z4; have z5 : True := trivial)
      | (have hq := z3; clear hq; go_at_call 49; refine (kW _ (hB.trans (hc.bel.mono hB.size))).mono ?_; rintro r wq ⟨rfl, hbq⟩; replace hc := hc.call hbq; replace c4 := hc.cell 0 rfl 4 e4; replace c5 := hc.cell 0 rfl 5 e5; clear kW; clear hbq; clear z3; have z4 : True := trivial)
      | (have hq := z2; clear hq; refine v_part rfl 26 (.tmp 22) rfl 0 D rfl hc rfl hin _ Tryz.underlying26 rfl (sz26 d6) ?_; clear z2; have z3 : True := trivial)
      | (have hq := z1; clear hq; go_at_call 48; refine (kU _).mono ?_; rintro r wq ⟨rfl, rfl⟩; clear kU; clear z1; have z2 : True := trivial)
      | (have hq := z0; clear hq; refine v_box rfl 28 (.tmp 0) rfl C rfl hc ?_; intro wq Nq hcq _; replace hc := hcq; have c4 := hc.cell 0 rfl 4 e4; have c5 := hc.cell 0 rfl 5 e5; clear hcq; clear z0; have z1 : True := trivial))
    all_goals
      go_ret
      exact ⟨rfl, hc.bel⟩

end Go.Proofs.YthplcnbfpcndbaaGreatDoor

namespace Go.Proofs.YthplcnbfpcndbaaGreatDoor
open Go.RowKit

/-- The rules on a join beyond the creator's, as the reference tells them. -/
def rJ2 (ru : ByteArray) (ri : Bool) (m : ByteArray) : Int :=
  if m = sBan then 22 else if ru = sPublic then 0
  else if ru = s0 then (if m = sInvite then (if ri then 23 else 0) else if m = sJoin then (if ri then 23 else 0) else 23)
  else if ru = sInvite then (if m = sInvite then 0 else if m = sJoin then 0 else 23) else 23
theorem rJ2_eq (e : EV) (l : List EV) : chkJ2 e l = rJ2 (wordR (stdD l tJ s0).con sRule).1 (wordR (stdD l tJ s0).con sRule).2 (memb l e.key) := by
  have n1 : sInvite ≠ sPublic := by decide
  have n2 : s0 ≠ sPublic := by decide
  have n3 : s0 ≠ sInvite := by decide
  have n4 : sInvite ≠ s0 := by decide
  have n5 : sPublic ≠ sInvite := by decide
  unfold chkJ2 rJ2 jrule wrd wordR lets
  generalize memb l e.key = m
  generalize (fldD (stdD l tJ s0).con sRule).t = t
  by_cases hk : (fldD (stdD l tJ s0).con sRule).k = 3
  · simp only [if_pos hk]
    by_cases h1 : t = sPublic
    · subst h1
      simp [n5]
    · by_cases h2 : t = s0
      · subst h2
        simp [n2, n3]
      · by_cases h3 : t = sInvite
        · subst h3
          by_cases h4 : m = sInvite
          · simp [h4, n1, n4]
          · by_cases h5 : m = sJoin
            · simp [h5, n1, n4]
            · simp [h4, h5, n1, n4]
        · simp [h1, h2, h3]
  · simp only [if_neg hk]
    have e0 : (⟨#[]⟩ : ByteArray) = s0 := rfl
    by_cases h4 : m = sInvite
    · simp [h4, n2, e0]
    · by_cases h5 : m = sJoin
      · simp [h5, n2, e0]
      · simp [h4, h5, n2, e0]
theorem isCr_eq {l : List EV} {k : ByteArray} (h : isU k = true) : isCr l k = decide ((stdD l tC s0).snd = k) := by
  unfold isCr
  cases hs : std tC s0 l
  · have hk : k ≠ s0 := fun e => by
      rw [e] at h
      revert h
      decide
    have h0 : (stdD l tC s0).snd = s0 := by
      unfold stdD
      rw [hs]
      rfl
    rw [h0, decide_eq_false (Ne.symm hk)]
    rfl
  · rfl
theorem chkJ_eq {e : EV} {l : List EV} (hs : e.snd = e.key) (h : isU e.key = true) : chkJ e l = if (decide (e.prev = [(stdD l tC s0).id]) && decide ((stdD l tC s0).snd = e.key)) then 0 else chkJ2 e l := by
  unfold chkJ
  rw [if_pos hs, isCr_eq h]
  cases decide (e.prev = [(stdD l tC s0).id]) <;> cases decide ((stdD l tC s0).snd = e.key) <;> rfl

set_option maxRecDepth 100000 in
set_option maxHeartbeats 8000000 in
theorem rm_join (e : EV) (l : List EV) (C : Array Value) (v : Value) (B w : World) (hB : Below B.heap.size B w) (he : EC B e C) (hl : EvsAt B v l) (hk : e.hk = true) (hU : isU e.key = true) (hW : wrd e.con sMemb s0 = sJoin) :
    Calls Tryz.prog 19 #[.agg C, v] w fun r w' => r = .returned (.int .i64 (chkJ e l)) ∧ Below w.heap.size w w' := by
  have hc := Ctx.start w
  have e3 := he.i3
  have e4 := he.i4
  have e5 := he.i5
  have s5 := he.s5
  have e6 := he.i6
  have p6 := he.ps
  obtain ⟨D, hD, hin⟩ := he.con
  have d6 := hD.vc.sz
  rw [hk] at e4
  have kU : ∀ W, Calls Tryz.prog 48 #[.string e.key] W fun r w' => r = .returned (.bool (isU e.key)) ∧ w' = W := fun W => ruser_any' e.key W (by omega)
  rw [hU] at kU
  have kW := fun W h => rword_any e.con D sMemb B W h hD
  have kC : ∀ W, Below B.heap.size B W → Calls Tryz.prog 25 #[v, .string tC, .string s0] W fun r w' => ∃ X, r = .returned (.tuple #[.agg X, .bool (std tC s0 l).isSome]) ∧ EC B (stdD l tC s0) X ∧ Below W.heap.size W w' := fun W h => stands_any l v tC s0 B W h hl
  have k1 := fun W h => rmemb_any l v e.snd B W h hl
  have k2 := fun W h => rmemb_any l v e.key B W h hl
  have l1 := fun W h => rlevel_any l v e.snd B W h hl
  have l2 := fun W h => rlevel_any l v e.key B W h hl
  have kF := fun d W h => rlevelFor_any l v d B W h hl
  rw [← wordR_f] at hW
  obtain ⟨⟨m, mi⟩, hm⟩ : ∃ p, wordR e.con sMemb = p := ⟨_, rfl⟩
  rw [hm] at kW hW
  clear hm
  replace hW : m = sJoin := hW
  have qm0 := beq_const m sJoin (l := [106, 111, 105, 110]) rfl
  rw [decide_eq_true hW] at qm0
  have qm1 := beq_const m sInvite (l := [105, 110, 118, 105, 116, 101]) rfl
  rw [decide_eq_false (by rw [hW]; decide)] at qm1
  have qm2 := beq_const m sLeave (l := [108, 101, 97, 118, 101]) rfl
  rw [decide_eq_false (by rw [hW]; decide)] at qm2
  have qm3 := beq_const m sBan (l := [98, 97, 110]) rfl
  rw [decide_eq_false (by rw [hW]; decide)] at qm3
  clear hW
  have kJ : ∀ W, Below B.heap.size B W → Calls Tryz.prog 25 #[v, .string tJ, .string s0] W fun r w' => ∃ X, r = .returned (.tuple #[.agg X, .bool (std tJ s0 l).isSome]) ∧ EC B (stdD l tJ s0) X ∧ Below W.heap.size W w' := fun W h => stands_any l v tJ s0 B W h hl
  have kR := fun D (hD : LaidV B (stdD l tJ s0).con D) W h => rword_any (stdD l tJ s0).con D sRule B W h hD
  have kl0 := fun J (hJ : EC B (stdD l tJ s0) J) W h => ruleless_any (stdD l tJ s0) J (wordR (stdD l tJ s0).con sRule).1 B W h hJ
  have hJ2 := rJ2_eq e l
  obtain ⟨⟨ru, ri⟩, hru⟩ : ∃ p, wordR (stdD l tJ s0).con sRule = p := ⟨_, rfl⟩
  rw [hru] at kR kl0 hJ2
  simp only at kR kl0 hJ2
  clear hru kF
  generalize stdD l tJ s0 = y at *
  generalize (std tJ s0 l).isSome = yb at *
  have qs := beq_bytes e.snd e.key
  by_cases hs : e.snd = e.key
  · rw [chkJ_eq hs hU, hJ2]
    rw [decide_eq_true hs] at qs
    clear hs hJ2 hl he hD hk hU
    obtain ⟨v6, i6, hv6⟩ := e6
    obtain ⟨a6, q6, rfl, -, ht6⟩ := hv6
    have HT6 : Hid (∀ (i : Nat) (h : i < e.prev.length), ∃ b off, a6 = some ⟨b, off, none⟩ ∧ B.cell? ⟨b, off + i, none⟩ = some (.string e.prev[i])) := ht6
    clear ht6
    generalize stdD l tC s0 = x at *
    generalize (std tC s0 l).isSome = xb at *
    generalize memb l e.snd = M1 at *
    generalize memb l e.key = M2 at *
    generalize level l e.snd = L1 at *
    generalize level l e.key = L2 at *
    obtain ⟨Q, hQ⟩ : ∃ q, (decide (e.prev = [x.id]) && decide (x.snd = e.key)) = q := ⟨_, rfl⟩
    rw [hQ]
    have HQ : Hid ((decide (e.prev = [x.id]) && decide (e.key = x.snd)) = Q) := by show _ = _; rw [← hQ, decide_eq_decide.2 (@eq_comm _ e.key x.snd)]
    clear hQ
    have z0 : True := trivial
    have xi0 : True := trivial
    go_enter Tryz.func19, Tryz.ntmps19
    go_wp2_with (first
      | (have hq := z13; clear hq; go_at_call 49; refine (kr _ (hB.trans (hc.bel.mono hB.size))).mono ?_; rintro r wq ⟨rfl, hbq⟩; replace hc := hc.call hbq; replace c3 := hc.cell 2 rfl 3 e3; replace c5 := hc.cell 2 rfl 5 e5; clear kr; clear hbq; clear z13; have z14 : True := trivial)
      | (have hq := z12; clear hq; refine v_part rfl 26 (.tmp 82) rfl 0 DJ rfl hc rfl hinJ _ Tryz.underlying26 rfl (sz26 dj6) ?_; clear z12; have z13 : True := trivial)
      | (have hq := z11; clear hq; refine v_decl rfl rfl 28 rfl (.tmp 14) (.tmp 79) rfl zE J z28 (fun _ => rfl) (fun _ => rfl) (by rw [j28]; rfl) (sz28 j28) j1 hc ?_; intro wq Nq hcq _; replace hc := hcq; replace c3 := hc.cell 2 rfl 3 e3; replace c5 := hc.cell 2 rfl 5 e5; clear hcq; clear z11; have z12 : True := trivial)
      | (have hq := z10; clear hq; go_at_call 25; refine (kJ _ (hB.trans (hc.bel.mono hB.size))).mono ?_; rintro r wq ⟨J, rfl, hJ, hbq⟩; replace hc := hc.call hbq; have j28 := hJ.sz; have j1 := hJ.one; obtain ⟨DJ, hDJ, hinJ⟩ := hJ.con; have dj6 := hDJ.vc.sz; have kr := kR DJ hDJ; have kl := kl0 J hJ; clear hJ hDJ kJ kR kl0; clear hbq; clear z10; have z11 : True := trivial)
      | (have hq := z9; clear hq; go_at_call 20; refine (l2 _ (hB.trans (hc.bel.mono hB.size))).mono ?_; rintro r wq ⟨rfl, hbq⟩; replace hc := hc.call hbq; replace c3 := hc.cell 1 rfl 3 e3; replace c5 := hc.cell 1 rfl 5 e5; clear l2; clear hbq; clear z9; have z10 : True := trivial)
      | (have hq := z8; clear hq; go_at_call 20; refine (l1 _ (hB.trans (hc.bel.mono hB.size))).mono ?_; rintro r wq ⟨rfl, hbq⟩; replace hc := hc.call hbq; replace c3 := hc.cell 1 rfl 3 e3; replace c5 := hc.cell 1 rfl 5 e5; clear l1; clear hbq; clear z8; have z9 : True := trivial)
      | (have hq := z7; clear hq; go_at_call 21; refine (k2 _ (hB.trans (hc.bel.mono hB.size))).mono ?_; rintro r wq ⟨rfl, hbq⟩; replace hc := hc.call hbq; replace c3 := hc.cell 1 rfl 3 e3; replace c5 := hc.cell 1 rfl 5 e5; clear k2; clear hbq; clear z7; have z8 : True := trivial)
      | (have hq := z6; clear hq; go_at_call 21; refine (k1 _ (hB.trans (hc.bel.mono hB.size))).mono ?_; rintro r wq ⟨rfl, hbq⟩; replace hc := hc.call hbq; replace c3 := hc.cell 1 rfl 3 e3; replace c5 := hc.cell 1 rfl 5 e5; clear k1; clear hbq; clear z6; have z7 : True := trivial)
      | (have hq := z5; clear hq; refine v_decl rfl rfl 28 rfl (.tmp 8) (.tmp 53) rfl zE X z28 (fun _ => rfl) (fun _ => rfl) (by rw [x28]; rfl) (sz28 x28) x1 hc ?_; intro wq Nq hcq _; replace hc := hcq; have c3 := hc.cell 1 rfl 3 e3; have c5 := hc.cell 1 rfl 5 e5; clear hcq; clear z5; have z6 : True := trivial)
      | (have hq := z4; clear hq; go_at_call 25; refine (kC _ (hB.trans (hc.bel.mono hB.size))).mono ?_; rintro r wq ⟨X, rfl, hX, hbq⟩; replace hc := hc.call hbq; have x28 := hX.sz; have x1 := hX.one; have xi := hX.i0; have xs := hX.i3; clear hX kC c4 c5; clear hbq; clear z4; have z5 : True := trivial)
      | (have hq := z3; clear hq; go_at_call 49; refine (kW _ (hB.trans (hc.bel.mono hB.size))).mono ?_; rintro r wq ⟨rfl, hbq⟩; replace hc := hc.call hbq; replace c4 := hc.cell 0 rfl 4 e4; replace c5 := hc.cell 0 rfl 5 e5; clear kW; clear hbq; clear z3; have z4 : True := trivial)
      | (have hq := z2; clear hq; refine v_part rfl 26 (.tmp 22) rfl 0 D rfl hc rfl hin _ Tryz.underlying26 rfl (sz26 d6) ?_; clear z2; have z3 : True := trivial)
      | (have hq := z1; clear hq; go_at_call 48; refine (kU _).mono ?_; rintro r wq ⟨rfl, rfl⟩; clear kU; clear z1; have z2 : True := trivial)
      | (have hq := z0; clear hq; refine v_box rfl 28 (.tmp 0) rfl C rfl hc ?_; intro wq Nq hcq _; replace hc := hcq; have c4 := hc.cell 0 rfl 4 e4; have c5 := hc.cell 0 rfl 5 e5; clear hcq; clear z0; have z1 : True := trivial))
    have cx0 := hc.cell 1 rfl 0 xi
    have cx3 := hc.cell 1 rfl 3 xs
    have c6 := hc.cell 2 rfl 6 i6
    have hbc := hB.trans (hc.bel.mono hB.size)
    go_cut [93] from 94 (fun q wx => q = .bool Q ∧ Hid (Below wq.heap.size wq wx))
    case first =>
      clear kl
      generalize hpE : e.prev = pv at *
      generalize e.key = ky at *
      generalize e.snd = sn at *
      have qk := beq_bytes ky x.snd
      generalize x.snd = xn at *
      generalize x.id = xd at *
      obtain ⟨n6, hn6⟩ : ∃ n, pv.length = n := ⟨_, rfl⟩
      rw [hn6] at c6
      by_cases h1 : n6 = 1
      · obtain ⟨p, hp⟩ := List.length_eq_one_iff.1 (hn6.trans h1)
        obtain ⟨b6, o6, rfl, ht⟩ := HT6.out 0 (by omega)
        have ht' : wq.cell? ⟨b6, o6, none⟩ = some (.string p) := by
          have h0 : B.cell? ⟨b6, o6, none⟩ = some (.string p) := by
            have := ht
            simp only [hp, List.getElem_cons_zero, Nat.add_zero] at this
            exact this
          rw [hbc.cell (World.block_lt_of_cell? B _ h0)]
          exact h0
        have hq1 : (decide (p = xd) && decide (ky = xn)) = Q := by
          rw [← HQ.out, hp]
          simp
        have hl1 : ((n6 : Int) == 1) = true := by simp [h1]
        have hl2 : (0 : Int) < (n6 : Int) := by omega
        clear ht HT6 HQ hp hn6 i6 p6 h1
        have qi := beq_bytes p xd
        generalize decide (p = xd) = qa at *
        generalize decide (ky = xn) = qb at *
        cases qa
        · have hq0 : Q = false := hq1.symm
          subst hq0
          clear hq1
          go_quiet (fail)
          go_wp2
          go_meet
          case rel => exact ⟨rfl, below_drewN (Below.refl _ _) _⟩
        · have hq0 : qb = Q := hq1
          subst hq0
          clear hq1
          go_quiet (fail)
          go_wp2
          go_meet
          case rel => exact ⟨by cases qb <;> rfl, below_drewN (Below.refl _ _) _⟩
      · have hq0 : Q = false := by
          rw [← HQ.out]
          have : pv ≠ [xd] := fun h => by
            rw [h] at hn6
            exact h1 hn6.symm
          rw [decide_eq_false this]
          rfl
        subst hq0
        have hl0 : ((n6 : Int) == 1) = false := by
          simp only [beq_eq_false_iff_ne, ne_eq]
          omega
        clear HT6 HQ hn6 i6 p6 h1
        go_quiet (fail)
        go_wp2
        go_meet
        case rel => exact ⟨rfl, below_drewN (Below.refl _ _) _⟩
    case rest =>
      obtain ⟨rfl, HBX⟩ := hcut
      replace hc := hc.call HBX.out
      clear cx0 cx3 c6 c3 c5 hbc HBX HQ HT6 xi0
      have hmE := @Ctx.bel
      have HR0 : Hid (rJ2 ru ri M2 = rJ2 ru ri M2) := rfl
      have q1 := beq_const M2 sBan (l := [98, 97, 110]) rfl
      have q2 := beq_const ru sPublic (l := [112, 117, 98, 108, 105, 99]) rfl
      have q3 := beq_const ru s0 (l := []) rfl
      have q4 := beq_const ru sInvite (l := [105, 110, 118, 105, 116, 101]) rfl
      have q5 := beq_const M2 sInvite (l := [105, 110, 118, 105, 116, 101]) rfl
      have q6 := beq_const M2 sJoin (l := [106, 111, 105, 110]) rfl
      clear hmE HR0
      cases Q
      · by_cases h1 : M2 = sBan
        · have HR : Hid (rJ2 ru ri M2 = 22) := by show _ = _; unfold rJ2; rw [if_pos h1]
          rw [decide_eq_true h1] at q1
          clear h1
          go_wp2
          all_goals
            go_ret
            exact ⟨by rw [HR.out]; rfl, hc.bel⟩
        · rw [decide_eq_false h1] at q1
          by_cases h2 : ru = sPublic
          · have HR : Hid (rJ2 ru ri M2 = 0) := by show _ = _; unfold rJ2; rw [if_neg h1, if_pos h2]
            rw [decide_eq_true h2] at q2
            clear h1 h2
            go_wp2
            all_goals
              go_ret
              exact ⟨by rw [HR.out]; rfl, hc.bel⟩
          · rw [decide_eq_false h2] at q2
            by_cases h3 : ru = s0
            · rw [if_pos h3] at kl
              rw [decide_eq_true h3] at q3
              by_cases h4 : M2 = sInvite
              · have HR : Hid (rJ2 ru ri M2 = (if ri then 23 else 0)) := by show _ = _; unfold rJ2; rw [if_neg h1, if_neg h2, if_pos h3, if_pos h4]
                rw [decide_eq_true h4] at q5
                clear h1 h2 h3 h4
                cases ri
                all_goals
                  go_wp2_with (first
                    | (refine v_load rfl 28 (.tmp 14) rfl 0 rfl hc rfl _ Tryz.underlying28 rfl (sz28 j28) ?_)
                    | (go_at_call 51; refine (kl _ (hB.trans (hc.bel.mono hB.size))).mono ?_; rintro r wz ⟨rfl, hbz⟩; replace hc := hc.call hbz; clear kl hbz))
                  all_goals
                    go_ret
                    exact ⟨by rw [HR.out]; rfl, hc.bel⟩
              · rw [decide_eq_false h4] at q5
                by_cases h5 : M2 = sJoin
                · have HR : Hid (rJ2 ru ri M2 = (if ri then 23 else 0)) := by show _ = _; unfold rJ2; rw [if_neg h1, if_neg h2, if_pos h3, if_neg h4, if_pos h5]
                  rw [decide_eq_true h5] at q6
                  clear h1 h2 h3 h4 h5
                  cases ri
                  all_goals
                    go_wp2_with (first
                      | (refine v_load rfl 28 (.tmp 14) rfl 0 rfl hc rfl _ Tryz.underlying28 rfl (sz28 j28) ?_)
                      | (go_at_call 51; refine (kl _ (hB.trans (hc.bel.mono hB.size))).mono ?_; rintro r wz ⟨rfl, hbz⟩; replace hc := hc.call hbz; clear kl hbz))
                    all_goals
                      go_ret
                      exact ⟨by rw [HR.out]; rfl, hc.bel⟩
                · have HR : Hid (rJ2 ru ri M2 = 23) := by show _ = _; unfold rJ2; rw [if_neg h1, if_neg h2, if_pos h3, if_neg h4, if_neg h5]
                  rw [decide_eq_false h5] at q6
                  clear h1 h2 h3 h4 h5
                  go_wp2_with (first
                    | (refine v_load rfl 28 (.tmp 14) rfl 0 rfl hc rfl _ Tryz.underlying28 rfl (sz28 j28) ?_)
                    | (go_at_call 51; refine (kl _ (hB.trans (hc.bel.mono hB.size))).mono ?_; rintro r wz ⟨rfl, hbz⟩; replace hc := hc.call hbz; clear kl hbz))
                  all_goals
                    go_ret
                    exact ⟨by rw [HR.out]; rfl, hc.bel⟩
            · rw [if_neg h3] at kl
              have hri : (if ri = true then (0 : Int) else 0) = 0 := by cases ri <;> rfl
              rw [hri] at kl
              rw [decide_eq_false h3] at q3
              by_cases h6 : ru = sInvite
              · rw [decide_eq_true h6] at q4
                by_cases h4 : M2 = sInvite
                · have HR : Hid (rJ2 ru ri M2 = 0) := by show _ = _; unfold rJ2; rw [if_neg h1, if_neg h2, if_neg h3, if_pos h6, if_pos h4]
                  rw [decide_eq_true h4] at q5
                  clear h1 h2 h3 h4 h6
                  go_wp2_with (first
                    | (refine v_load rfl 28 (.tmp 14) rfl 0 rfl hc rfl _ Tryz.underlying28 rfl (sz28 j28) ?_)
                    | (go_at_call 51; refine (kl _ (hB.trans (hc.bel.mono hB.size))).mono ?_; rintro r wz ⟨rfl, hbz⟩; replace hc := hc.call hbz; clear kl hbz))
                  all_goals
                    go_ret
                    exact ⟨by rw [HR.out]; rfl, hc.bel⟩
                · rw [decide_eq_false h4] at q5
                  by_cases h5 : M2 = sJoin
                  · have HR : Hid (rJ2 ru ri M2 = 0) := by show _ = _; unfold rJ2; rw [if_neg h1, if_neg h2, if_neg h3, if_pos h6, if_neg h4, if_pos h5]
                    rw [decide_eq_true h5] at q6
                    clear h1 h2 h3 h4 h5 h6
                    go_wp2_with (first
                      | (refine v_load rfl 28 (.tmp 14) rfl 0 rfl hc rfl _ Tryz.underlying28 rfl (sz28 j28) ?_)
                      | (go_at_call 51; refine (kl _ (hB.trans (hc.bel.mono hB.size))).mono ?_; rintro r wz ⟨rfl, hbz⟩; replace hc := hc.call hbz; clear kl hbz))
                    all_goals
                      go_ret
                      exact ⟨by rw [HR.out]; rfl, hc.bel⟩
                  · have HR : Hid (rJ2 ru ri M2 = 23) := by show _ = _; unfold rJ2; rw [if_neg h1, if_neg h2, if_neg h3, if_pos h6, if_neg h4, if_neg h5]
                    rw [decide_eq_false h5] at q6
                    clear h1 h2 h3 h4 h5 h6
                    go_wp2_with (first
                      | (refine v_load rfl 28 (.tmp 14) rfl 0 rfl hc rfl _ Tryz.underlying28 rfl (sz28 j28) ?_)
                      | (go_at_call 51; refine (kl _ (hB.trans (hc.bel.mono hB.size))).mono ?_; rintro r wz ⟨rfl, hbz⟩; replace hc := hc.call hbz; clear kl hbz))
                    all_goals
                      go_ret
                      exact ⟨by rw [HR.out]; rfl, hc.bel⟩
              · have HR : Hid (rJ2 ru ri M2 = 23) := by show _ = _; unfold rJ2; rw [if_neg h1, if_neg h2, if_neg h3, if_neg h6]
                rw [decide_eq_false h6] at q4
                clear h1 h2 h3 h6
                go_wp2_with (first
                  | (refine v_load rfl 28 (.tmp 14) rfl 0 rfl hc rfl _ Tryz.underlying28 rfl (sz28 j28) ?_)
                  | (go_at_call 51; refine (kl _ (hB.trans (hc.bel.mono hB.size))).mono ?_; rintro r wz ⟨rfl, hbz⟩; replace hc := hc.call hbz; clear kl hbz))
                all_goals
                  go_ret
                  exact ⟨by rw [HR.out]; rfl, hc.bel⟩
      · skip
        go_wp2
        all_goals
          go_ret
          exact ⟨rfl, hc.bel⟩
  · clear hJ2 hl he hD hk hU kl0
    unfold chkJ
    rw [if_neg hs]
    rw [decide_eq_false hs] at qs
    clear hs
    have kl0 : ∀ J, EC B y J → True := fun _ _ => trivial
    generalize stdD l tC s0 = x at *
    generalize (std tC s0 l).isSome = xb at *
    generalize memb l e.snd = M1 at *
    generalize memb l e.key = M2 at *
    generalize level l e.snd = L1 at *
    generalize level l e.key = L2 at *
    have z0 : True := trivial
    go_enter Tryz.func19, Tryz.ntmps19
    go_wp2_with (first
      | (have hq := z13; clear hq; go_at_call 49; refine (kr _ (hB.trans (hc.bel.mono hB.size))).mono ?_; rintro r wq ⟨rfl, hbq⟩; replace hc := hc.call hbq; replace c3 := hc.cell 2 rfl 3 e3; replace c5 := hc.cell 2 rfl 5 e5; clear kr; clear hbq; clear z13; have z14 : True := trivial)
      | (have hq := z12; clear hq; refine v_part rfl 26 (.tmp 82) rfl 0 DJ rfl hc rfl hinJ _ Tryz.underlying26 rfl (sz26 dj6) ?_; clear z12; have z13 : True := trivial)
      | (have hq := z11; clear hq; refine v_decl rfl rfl 28 rfl (.tmp 14) (.tmp 79) rfl zE J z28 (fun _ => rfl) (fun _ => rfl) (by rw [j28]; rfl) (sz28 j28) j1 hc ?_; intro wq Nq hcq _; replace hc := hcq; replace c3 := hc.cell 2 rfl 3 e3; replace c5 := hc.cell 2 rfl 5 e5; clear hcq; clear z11; have z12 : True := trivial)
      | (have hq := z10; clear hq; go_at_call 25; refine (kJ _ (hB.trans (hc.bel.mono hB.size))).mono ?_; rintro r wq ⟨J, rfl, hJ, hbq⟩; replace hc := hc.call hbq; have j28 := hJ.sz; have j1 := hJ.one; obtain ⟨DJ, hDJ, hinJ⟩ := hJ.con; have dj6 := hDJ.vc.sz; have kr := kR DJ hDJ; have kl := kl0 J hJ; clear hJ hDJ kJ kR kl0; clear hbq; clear z10; have z11 : True := trivial)
      | (have hq := z9; clear hq; go_at_call 20; refine (l2 _ (hB.trans (hc.bel.mono hB.size))).mono ?_; rintro r wq ⟨rfl, hbq⟩; replace hc := hc.call hbq; replace c3 := hc.cell 1 rfl 3 e3; replace c5 := hc.cell 1 rfl 5 e5; clear l2; clear hbq; clear z9; have z10 : True := trivial)
      | (have hq := z8; clear hq; go_at_call 20; refine (l1 _ (hB.trans (hc.bel.mono hB.size))).mono ?_; rintro r wq ⟨rfl, hbq⟩; replace hc := hc.call hbq; replace c3 := hc.cell 1 rfl 3 e3; replace c5 := hc.cell 1 rfl 5 e5; clear l1; clear hbq; clear z8; have z9 : True := trivial)
      | (have hq := z7; clear hq; go_at_call 21; refine (k2 _ (hB.trans (hc.bel.mono hB.size))).mono ?_; rintro r wq ⟨rfl, hbq⟩; replace hc := hc.call hbq; replace c3 := hc.cell 1 rfl 3 e3; replace c5 := hc.cell 1 rfl 5 e5; clear k2; clear hbq; clear z7; have z8 : True := trivial)
      | (have hq := z6; clear hq; go_at_call 21; refine (k1 _ (hB.trans (hc.bel.mono hB.size))).mono ?_; rintro r wq ⟨rfl, hbq⟩; replace hc := hc.call hbq; replace c3 := hc.cell 1 rfl 3 e3; replace c5 := hc.cell 1 rfl 5 e5; clear k1; clear hbq; clear z6; have z7 : True := trivial)
      | (have hq := z5; clear hq; refine v_decl rfl rfl 28 rfl (.tmp 8) (.tmp 53) rfl zE X z28 (fun _ => rfl) (fun _ => rfl) (by rw [x28]; rfl) (sz28 x28) x1 hc ?_; intro wq Nq hcq _; replace hc := hcq; have c3 := hc.cell 1 rfl 3 e3; have c5 := hc.cell 1 rfl 5 e5; clear hcq; clear z5; have z6 : True := trivial)
      | (have hq := z4; clear hq; go_at_call 25; refine (kC _ (hB.trans (hc.bel.mono hB.size))).mono ?_; rintro r wq ⟨X, rfl, hX, hbq⟩; replace hc := hc.call hbq; have x28 := hX.sz; have x1 := hX.one; have xi := hX.i0; have xs := hX.i3; clear hX kC c4 c5; clear hbq; clear z4; have z5 : True := trivial)
      | (have hq := z3; clear hq; go_at_call 49; refine (kW _ (hB.trans (hc.bel.mono hB.size))).mono ?_; rintro r wq ⟨rfl, hbq⟩; replace hc := hc.call hbq; replace c4 := hc.cell 0 rfl 4 e4; replace c5 := hc.cell 0 rfl 5 e5; clear kW; clear hbq; clear z3; have z4 : True := trivial)
      | (have hq := z2; clear hq; refine v_part rfl 26 (.tmp 22) rfl 0 D rfl hc rfl hin _ Tryz.underlying26 rfl (sz26 d6) ?_; clear z2; have z3 : True := trivial)
      | (have hq := z1; clear hq; go_at_call 48; refine (kU _).mono ?_; rintro r wq ⟨rfl, rfl⟩; clear kU; clear z1; have z2 : True := trivial)
      | (have hq := z0; clear hq; refine v_box rfl 28 (.tmp 0) rfl C rfl hc ?_; intro wq Nq hcq _; replace hc := hcq; have c4 := hc.cell 0 rfl 4 e4; have c5 := hc.cell 0 rfl 5 e5; clear hcq; clear z0; have z1 : True := trivial))
    all_goals
      go_ret
      exact ⟨rfl, hc.bel⟩
set_option maxRecDepth 100000 in
set_option maxHeartbeats 8000000 in
theorem rm_other (e : EV) (l : List EV) (C : Array Value) (v : Value) (B w : World) (hB : Below B.heap.size B w) (he : EC B e C) (hl : EvsAt B v l) (hk : e.hk = true) (hU : isU e.key = true)  (h1 : wrd e.con sMemb s0 ≠ sJoin) (h2 : wrd e.con sMemb s0 ≠ sInvite) (h3 : wrd e.con sMemb s0 ≠ sLeave) (h4 : wrd e.con sMemb s0 ≠ sBan) :
    Calls Tryz.prog 19 #[.agg C, v] w fun r w' => r = .returned (.int .i64 (20)) ∧ Below w.heap.size w w' := by
  have hc := Ctx.start w
  have e3 := he.i3
  have e4 := he.i4
  have e5 := he.i5
  have s5 := he.s5
  obtain ⟨D, hD, hin⟩ := he.con
  have d6 := hD.vc.sz
  rw [hk] at e4
  have kU : ∀ W, Calls Tryz.prog 48 #[.string e.key] W fun r w' => r = .returned (.bool (isU e.key)) ∧ w' = W := fun W => ruser_any' e.key W (by omega)
  rw [hU] at kU
  have kW := fun W h => rword_any e.con D sMemb B W h hD
  have kC : ∀ W, Below B.heap.size B W → Calls Tryz.prog 25 #[v, .string tC, .string s0] W fun r w' => ∃ X, r = .returned (.tuple #[.agg X, .bool (std tC s0 l).isSome]) ∧ EC B (stdD l tC s0) X ∧ Below W.heap.size W w' := fun W h => stands_any l v tC s0 B W h hl
  have k1 := fun W h => rmemb_any l v e.snd B W h hl
  have k2 := fun W h => rmemb_any l v e.key B W h hl
  have l1 := fun W h => rlevel_any l v e.snd B W h hl
  have l2 := fun W h => rlevel_any l v e.key B W h hl
  have kF := fun d W h => rlevelFor_any l v d B W h hl
  rw [← wordR_f] at h1 h2 h3 h4
  obtain ⟨⟨m, mi⟩, hm⟩ : ∃ p, wordR e.con sMemb = p := ⟨_, rfl⟩
  rw [hm] at kW h1 h2 h3 h4
  clear hm
  simp only at h1 h2 h3 h4
  have qm0 := beq_const m sJoin (l := [106, 111, 105, 110]) rfl
  rw [decide_eq_false h1] at qm0
  have qm1 := beq_const m sInvite (l := [105, 110, 118, 105, 116, 101]) rfl
  rw [decide_eq_false h2] at qm1
  have qm2 := beq_const m sLeave (l := [108, 101, 97, 118, 101]) rfl
  rw [decide_eq_false h3] at qm2
  have qm3 := beq_const m sBan (l := [98, 97, 110]) rfl
  rw [decide_eq_false h4] at qm3
  clear h1 h2 h3 h4 hl he hD hk hU kC k1 k2 l1 l2 kF
  have z0 : True := trivial
  go_enter Tryz.func19, Tryz.ntmps19
  go_wp2_with (first
    | (have hq := z3; clear hq; go_at_call 49; refine (kW _ (hB.trans (hc.bel.mono hB.size))).mono ?_; rintro r wq ⟨rfl, hbq⟩; replace hc := hc.call hbq; replace c4 := hc.cell 0 rfl 4 e4; replace c5 := hc.cell 0 rfl 5 e5; clear kW; clear hbq; clear z3; have z4 : True := trivial)
    | (have hq := z2; clear hq; refine v_part rfl 26 (.tmp 22) rfl 0 D rfl hc rfl hin _ Tryz.underlying26 rfl (sz26 d6) ?_; clear z2; have z3 : True := trivial)
    | (have hq := z1; clear hq; go_at_call 48; refine (kU _).mono ?_; rintro r wq ⟨rfl, rfl⟩; clear kU; clear z1; have z2 : True := trivial)
    | (have hq := z0; clear hq; refine v_box rfl 28 (.tmp 0) rfl C rfl hc ?_; intro wq Nq hcq _; replace hc := hcq; have c4 := hc.cell 0 rfl 4 e4; have c5 := hc.cell 0 rfl 5 e5; clear hcq; clear z0; have z1 : True := trivial))
  all_goals
    go_ret
    exact ⟨rfl, hc.bel⟩

set_option maxRecDepth 100000 in
set_option maxHeartbeats 8000000 in
theorem rm_bad (e : EV) (l : List EV) (C : Array Value) (v : Value) (B w : World) (hB : Below B.heap.size B w) (he : EC B e C) (_hl : EvsAt B v l) (hk : e.hk = false ∨ isU e.key = false) :
    Calls Tryz.prog 19 #[.agg C, v] w fun r w' => r = .returned (.int .i64 20) ∧ Below w.heap.size w w' := by
  have hc := Ctx.start w
  have e4 := he.i4
  have e5 := he.i5
  have s5 := he.s5
  obtain ⟨D, hD, hin⟩ := he.con
  have d6 := hD.vc.sz
  have kU : ∀ W, Calls Tryz.prog 48 #[.string e.key] W fun r w' => r = .returned (.bool (isU e.key)) ∧ w' = W := fun W => ruser_any' e.key W (by omega)
  have kW := fun W h => rword_any e.con D sMemb B W h hD
  generalize isU e.key = U at *
  generalize e.hk = h at *
  clear he hD
  rcases hk with rfl | rfl
  · skip
    have z0 : True := trivial
    go_enter Tryz.func19, Tryz.ntmps19
    go_wp2_with (first
      | (have hq := z3; clear hq; go_at_call 49; refine (kW _ (hB.trans (hc.bel.mono hB.size))).mono ?_; rintro r wq ⟨rfl, hbq⟩; replace hc := hc.call hbq; replace c4 := hc.cell 0 rfl 4 e4; replace c5 := hc.cell 0 rfl 5 e5; clear kW; clear hbq; clear z3; have z4 : True := trivial)
      | (have hq := z2; clear hq; refine v_part rfl 26 (.tmp 22) rfl 0 D rfl hc rfl hin _ Tryz.underlying26 rfl (sz26 d6) ?_; clear z2; have z3 : True := trivial)
      | (have hq := z1; clear hq; go_at_call 48; refine (kU _).mono ?_; rintro r wq ⟨rfl, rfl⟩; clear kU; clear z1; have z2 : True := trivial)
      | (have hq := z0; clear hq; refine v_box rfl 28 (.tmp 0) rfl C rfl hc ?_; intro wq Nq hcq _; replace hc := hcq; have c4 := hc.cell 0 rfl 4 e4; have c5 := hc.cell 0 rfl 5 e5; clear hcq; clear z0; have z1 : True := trivial))
    all_goals
      go_ret
      exact ⟨rfl, hc.bel⟩
  · cases h
    all_goals
      have z0 : True := trivial
      go_enter Tryz.func19, Tryz.ntmps19
      go_wp2_with (first
        | (have hq := z3; clear hq; go_at_call 49; refine (kW _ (hB.trans (hc.bel.mono hB.size))).mono ?_; rintro r wq ⟨rfl, hbq⟩; replace hc := hc.call hbq; replace c4 := hc.cell 0 rfl 4 e4; replace c5 := hc.cell 0 rfl 5 e5; clear kW; clear hbq; clear z3; have z4 : True := trivial)
        | (have hq := z2; clear hq; refine v_part rfl 26 (.tmp 22) rfl 0 D rfl hc rfl hin _ Tryz.underlying26 rfl (sz26 d6) ?_; clear z2; have z3 : True := trivial)
        | (have hq := z1; clear hq; go_at_call 48; refine (kU _).mono ?_; rintro r wq ⟨rfl, rfl⟩; clear kU; clear z1; have z2 : True := trivial)
        | (have hq := z0; clear hq; refine v_box rfl 28 (.tmp 0) rfl C rfl hc ?_; intro wq Nq hcq _; replace hc := hcq; have c4 := hc.cell 0 rfl 4 e4; have c5 := hc.cell 0 rfl 5 e5; clear hcq; clear z0; have z1 : True := trivial))
      all_goals
        go_ret
        exact ⟨rfl, hc.bel⟩

theorem rmember_any (e : EV) (l : List EV) (C : Array Value) (v : Value) (B w : World) (hB : Below B.heap.size B w) (he : EC B e C) (hl : EvsAt B v l) :
    Calls Tryz.prog 19 #[.agg C, v] w fun r w' => r = .returned (.int .i64 (chkM e l)) ∧ Below w.heap.size w w' := by
  unfold chkM
  cases hk : e.hk
  · exact rm_bad e l C v B w hB he hl (.inl hk)
  · rw [if_pos rfl]
    cases hU : isU e.key
    · exact rm_bad e l C v B w hB he hl (.inr hU)
    · rw [if_pos rfl]
      by_cases h1 : wrd e.con sMemb s0 = sJoin
      · rw [if_pos h1]
        exact rm_join e l C v B w hB he hl hk hU h1
      · rw [if_neg h1]
        by_cases h2 : wrd e.con sMemb s0 = sInvite
        · rw [if_pos h2]
          exact rm_invite e l C v B w hB he hl hk hU h2
        · rw [if_neg h2]
          by_cases h3 : wrd e.con sMemb s0 = sLeave
          · rw [if_pos h3]
            by_cases hs : e.snd = e.key
            · rw [if_pos hs]
              exact rm_leave e l C v B w hB he hl hk hU h3 hs
            · rw [if_neg hs]
              exact rm_kick e l C v B w hB he hl hk hU h3 hs
          · rw [if_neg h3]
            by_cases h4 : wrd e.con sMemb s0 = sBan
            · rw [if_pos h4]
              exact rm_ban e l C v B w hB he hl hk hU h4
            · rw [if_neg h4]
              exact rm_other e l C v B w hB he hl hk hU h1 h2 h3 h4
end Go.Proofs.YthplcnbfpcndbaaGreatDoor

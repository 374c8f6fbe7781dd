/- Who isn't joined: what the rules let them do; the walk of AuthJoined. -/
import Derived.Test.YthplcnbfpcndbaaDoorAs
import Derived.Test.YthplcnbfpcndbaaDoorAo
import Derived.Test.YthplcnbfpcndbaaDoorBk
namespace Go.Proofs.YthplcnbfpcndbaaDoor
open Go.RowKit

theorem joined_word {v : GV} (h : wrd v sMemb sLeave = sJoin) : (wordR v sMemb).2 = true ∧ (wordR v sMemb).1 = sJoin := by
  unfold wrd at h
  unfold wordR
  split at h
  · rename_i hk
    rw [if_pos hk]
    exact ⟨rfl, h⟩
  · exact absurd h (by decide)
theorem invite_word {v : GV} (h : wrd v sMemb sLeave = sInvite) : (wordR v sMemb).1 = sInvite := by
  unfold wrd at h
  unfold wordR
  split at h
  · rename_i hk
    rw [if_pos hk]
    exact h
  · exact absurd h (by decide)
theorem memb_std {l : List EV} {u : ByteArray} (h : memb l u = sJoin) : (std tM u l).isSome = true ∧ (wordR (stdD l tM u).con sMemb).2 = true ∧ (wordR (stdD l tM u).con sMemb).1 = sJoin := by
  refine ⟨?_, joined_word h⟩
  cases hs : std tM u l
  · exfalso
    unfold memb stdD at h
    rw [hs] at h
    revert h
    decide
  · rfl
/-- What is allowed to one who isn't joined. -/
theorem joined_plain {e : EV} {l : List EV} {V : EV → List EV → Int} (h0 : chk V e l = 0) (hn : ¬ ((std tM e.snd l).isSome = true ∧ (wordR (stdD l tM e.snd).con sMemb).2 = true ∧ (wordR (stdD l tM e.snd).con sMemb).1 = sJoin)) (hc : isF e tC s0 = false) :
    e.ty = tM ∧ e.key = e.snd ∧ (wrd e.con sMemb s0 = sJoin ∨ (wrd e.con sMemb s0 = sLeave ∧ (wordR (stdD l tM e.snd).con sMemb).1 = sInvite)) := by
  have hm : memb l e.snd ≠ sJoin := fun h => hn (memb_std h)
  unfold chk at h0
  rw [hc, if_neg Bool.false_ne_true] at h0
  split at h0
  · split at h0
    · rename_i ht
      refine ⟨ht, ?_⟩
      unfold chkM at h0
      split at h0
      · split at h0
        · split at h0
          · rename_i hj
            unfold chkJ at h0
            split at h0
            · rename_i hk
              exact ⟨hk.symm, .inl hj⟩
            · exact absurd h0 (by decide)
          · split at h0
            · unfold chkI at h0
              rw [if_neg hm] at h0
              exact absurd h0 (by decide)
            · split at h0
              · rename_i hl
                split at h0
                · rename_i hk
                  unfold chkO at h0
                  rw [← hk, if_neg hm] at h0
                  split at h0
                  · rename_i hi
                    exact ⟨hk.symm, .inr ⟨hl, invite_word hi⟩⟩
                  · exact absurd h0 (by decide)
                · unfold chkK at h0
                  rw [if_neg hm] at h0
                  exact absurd h0 (by decide)
              · split at h0
                · unfold chkB at h0
                  rw [if_neg hm] at h0
                  exact absurd h0 (by decide)
                · exact absurd h0 (by decide)
        · exact absurd h0 (by decide)
      · exact absurd h0 (by decide)
    · unfold chkX at h0
      rw [if_neg hm] at h0
      exact absurd h0 (by decide)
  · rename_i hl
    exact absurd h0 hl

set_option maxRecDepth 100000 in
set_option maxHeartbeats 8000000 in
theorem joined_law (e : EV) (l : List EV) (C : Array Value) (v : Value) (w : World) (he : EC w e C) (hl : EvsAt w v l) (hg : Sing w) :
    Calls Tryd.prog 6 #[.agg C, v] w fun r w' => r = .returned (.bool true) ∧ Below w.heap.size w w' := by
  have hB : Below w.heap.size w w := Below.refl _ _
  have hc0 := Ctx.start w
  have hE := he.sz
  have e1 := he.i1
  have e3 := he.i3
  have e5 := he.i5
  obtain ⟨Dc, hDc, hin⟩ := he.con
  have c6 := hDc.vc.sz
  have ku := fun W => up_any W
  have kC := fun W h => check_any chkV e l C v w W h he hl (fun _ W2 h2 => checkLevels_any e l C v w W2 h2 he hl hg)
  have kS := fun W h => stands_any l v tM e.snd w W h hl
  have kW := fun D (hD : LaidV w (stdD l tM e.snd).con D) W h => rword_any (stdD l tM e.snd).con D sMemb w W h hD
  have kI := fun W => risCreate_any e C w W he
  have kK := fun W h => rword_any e.con Dc sMemb w W h hDc
  have hP := @joined_plain e l chkV
  have hfst := wordR_fst e.con sMemb
  clear he hl hDc hg
  obtain ⟨n, hn⟩ : ∃ n, chk chkV e l = n := ⟨_, rfl⟩
  obtain ⟨⟨k, ki⟩, hk⟩ : ∃ p, wordR e.con sMemb = p := ⟨_, rfl⟩
  rw [hn] at kC hP
  rw [hk] at kK hfst
  rw [← hfst] at hP
  obtain ⟨⟨m, mi⟩, hm⟩ : ∃ p, wordR (stdD l tM e.snd).con sMemb = p := ⟨_, rfl⟩
  rw [hm] at kW hP
  have kS' : ∀ W, Below w.heap.size w W → Calls Tryd.prog 12 #[v, .string tM, .string e.snd] W fun r w' => ∃ C, r = .returned (.tuple #[.agg C, .bool (std tM e.snd l).isSome]) ∧ EC w (stdD l tM e.snd) C ∧ Below W.heap.size W w' := kS
  clear kS hn hk hm hfst
  generalize (std tM e.snd l).isSome = h at *
  generalize stdD l tM e.snd = x at *
  generalize isF e tC s0 = F at *
  have qT := beq_const e.ty tM (l := [109, 46, 114, 111, 111, 109, 46, 109, 101, 109, 98, 101, 114]) rfl
  have qK := beq_bytes e.key e.snd
  have qJ := beq_const m sJoin (l := [106, 111, 105, 110]) rfl
  have qI := beq_const m sInvite (l := [105, 110, 118, 105, 116, 101]) rfl
  have qj := beq_const k sJoin (l := [106, 111, 105, 110]) rfl
  have ql := beq_const k sLeave (l := [108, 101, 97, 118, 101]) rfl
  generalize e.ty = ty at *
  generalize e.key = ky at *
  generalize e.snd = sn at *
  by_cases h0 : n = 0
  · subst h0
    replace hP := hP rfl
    by_cases hJ : m = sJoin
    · rw [decide_eq_true hJ] at qJ
      cases h
      · replace hP := fun hF => hP (by simp) hF
        cases F
        · obtain ⟨hT, hK, hj | ⟨hl, hi⟩⟩ := hP rfl
          · rw [decide_eq_true hT] at qT
            rw [decide_eq_true hK] at qK
            replace hj : k = sJoin := hj
            rw [decide_eq_true hj] at qj
            clear hP hT hK hj
            go_enter Tryd.func6, Tryd.ntmps6
            go_wp2_with (first
              | (have hq := f3; clear hq; go_at_call 14; refine (kK _ (hB.trans (hc.bel.mono hB.size))).mono ?_; rintro r wy ⟨rfl, hby⟩; replace hc := hc.call hby; have c1 := hc.cell 1 rfl 1 e1; have c3 := hc.cell 1 rfl 3 e3; have c5 := hc.cell 1 rfl 5 e5; clear hby kK f3)
              | (refine v_part rfl 26 (.tmp 46) rfl 1 Dc rfl hc rfl hin _ Tryd.underlying26 rfl (sz26 c6) ?_)
              | (have hq := f2; clear hq; go_at_call 15; refine (kI _).mono ?_; rintro r wy ⟨rfl, hby⟩; replace hc := hc.call hby; clear hby kI f2; have f3 : True := trivial)
              | (have hq := f1; clear hq; refine v_load rfl 28 (.tmp 2) rfl 1 rfl hc rfl _ Tryd.underlying28 rfl (sz28 hE) ?_; clear f1; have f2 : True := trivial)
              | (have hq := kw; clear hq; go_at_call 14; refine (kw _ (hB.trans (hc.bel.mono hB.size))).mono ?_; rintro r wy ⟨rfl, hby⟩; replace hc := hc.call hby; clear hby kw; have f1 : True := trivial)
              | (refine v_part rfl 26 (.tmp 27) rfl 0 Dx rfl hc rfl hinx _ Tryd.underlying26 rfl (sz26 x6) ?_)
              | (refine v_decl rfl rfl 28 rfl (.tmp 6) (.tmp 24) rfl zE X z28 (fun _ => rfl) (fun _ => rfl) (by rw [x1]; rfl) (sz28 x1) x2 hc ?_; intro wz N6 hcz _; replace hc := hcz; clear hcz)
              | (go_at_call 12; refine (kS' _ (hB.trans (hc.bel.mono hB.size))).mono ?_; rintro r wy ⟨X, rfl, hX, hby⟩; replace hc := hc.call hby; have x1 := hX.sz; have x2 := hX.one; obtain ⟨Dx, hDx, hinx⟩ := hX.con; have x6 := hDx.vc.sz; have kw := kW Dx hDx; clear hby kS' hX hDx kW c3)
              | (go_at_call 13; refine (kC _ (hB.trans (hc.bel.mono hB.size))).mono ?_; rintro r wy ⟨rfl, hby⟩; replace hc := hc.call hby; have c3 := hc.cell 0 rfl 3 e3; clear hby kC)
              | (have hq := kC; clear hq; refine v_load rfl 28 (.tmp 2) rfl 0 rfl hc rfl _ Tryd.underlying28 rfl (sz28 hE) ?_)
              | (go_at_call 7; refine (ku _).mono ?_; rintro r wy ⟨rfl, hby⟩; replace hc := hc.call hby; clear hby ku)
              | (refine v_box rfl 28 (.tmp 0) rfl C rfl hc0 ?_; intro w1 N1 hc _; clear hc0))
            go_ret
            exact ⟨rfl, hc.bel⟩
          · exact absurd (hJ.symm.trans hi) (by decide)
        · clear hP
          go_enter Tryd.func6, Tryd.ntmps6
          go_wp2_with (first
            | (have hq := f2; clear hq; go_at_call 15; refine (kI _).mono ?_; rintro r wy ⟨rfl, hby⟩; replace hc := hc.call hby; clear hby kI f2; have f3 : True := trivial)
            | (have hq := f1; clear hq; refine v_load rfl 28 (.tmp 2) rfl 1 rfl hc rfl _ Tryd.underlying28 rfl (sz28 hE) ?_; clear f1; have f2 : True := trivial)
            | (have hq := kw; clear hq; go_at_call 14; refine (kw _ (hB.trans (hc.bel.mono hB.size))).mono ?_; rintro r wy ⟨rfl, hby⟩; replace hc := hc.call hby; clear hby kw; have f1 : True := trivial)
            | (refine v_part rfl 26 (.tmp 27) rfl 0 Dx rfl hc rfl hinx _ Tryd.underlying26 rfl (sz26 x6) ?_)
            | (refine v_decl rfl rfl 28 rfl (.tmp 6) (.tmp 24) rfl zE X z28 (fun _ => rfl) (fun _ => rfl) (by rw [x1]; rfl) (sz28 x1) x2 hc ?_; intro wz N6 hcz _; replace hc := hcz; clear hcz)
            | (go_at_call 12; refine (kS' _ (hB.trans (hc.bel.mono hB.size))).mono ?_; rintro r wy ⟨X, rfl, hX, hby⟩; replace hc := hc.call hby; have x1 := hX.sz; have x2 := hX.one; obtain ⟨Dx, hDx, hinx⟩ := hX.con; have x6 := hDx.vc.sz; have kw := kW Dx hDx; clear hby kS' hX hDx kW c3)
            | (go_at_call 13; refine (kC _ (hB.trans (hc.bel.mono hB.size))).mono ?_; rintro r wy ⟨rfl, hby⟩; replace hc := hc.call hby; have c3 := hc.cell 0 rfl 3 e3; clear hby kC)
            | (have hq := kC; clear hq; refine v_load rfl 28 (.tmp 2) rfl 0 rfl hc rfl _ Tryd.underlying28 rfl (sz28 hE) ?_)
            | (go_at_call 7; refine (ku _).mono ?_; rintro r wy ⟨rfl, hby⟩; replace hc := hc.call hby; clear hby ku)
            | (refine v_box rfl 28 (.tmp 0) rfl C rfl hc0 ?_; intro w1 N1 hc _; clear hc0))
          go_ret
          exact ⟨rfl, hc.bel⟩
      · cases mi
        · replace hP := fun hF => hP (by simp) hF
          cases F
          · obtain ⟨hT, hK, hj | ⟨hl, hi⟩⟩ := hP rfl
            · rw [decide_eq_true hT] at qT
              rw [decide_eq_true hK] at qK
              replace hj : k = sJoin := hj
              rw [decide_eq_true hj] at qj
              clear hP hT hK hj
              go_enter Tryd.func6, Tryd.ntmps6
              go_wp2_with (first
                | (have hq := f3; clear hq; go_at_call 14; refine (kK _ (hB.trans (hc.bel.mono hB.size))).mono ?_; rintro r wy ⟨rfl, hby⟩; replace hc := hc.call hby; have c1 := hc.cell 1 rfl 1 e1; have c3 := hc.cell 1 rfl 3 e3; have c5 := hc.cell 1 rfl 5 e5; clear hby kK f3)
                | (refine v_part rfl 26 (.tmp 46) rfl 1 Dc rfl hc rfl hin _ Tryd.underlying26 rfl (sz26 c6) ?_)
                | (have hq := f2; clear hq; go_at_call 15; refine (kI _).mono ?_; rintro r wy ⟨rfl, hby⟩; replace hc := hc.call hby; clear hby kI f2; have f3 : True := trivial)
                | (have hq := f1; clear hq; refine v_load rfl 28 (.tmp 2) rfl 1 rfl hc rfl _ Tryd.underlying28 rfl (sz28 hE) ?_; clear f1; have f2 : True := trivial)
                | (have hq := kw; clear hq; go_at_call 14; refine (kw _ (hB.trans (hc.bel.mono hB.size))).mono ?_; rintro r wy ⟨rfl, hby⟩; replace hc := hc.call hby; clear hby kw; have f1 : True := trivial)
                | (refine v_part rfl 26 (.tmp 27) rfl 0 Dx rfl hc rfl hinx _ Tryd.underlying26 rfl (sz26 x6) ?_)
                | (refine v_decl rfl rfl 28 rfl (.tmp 6) (.tmp 24) rfl zE X z28 (fun _ => rfl) (fun _ => rfl) (by rw [x1]; rfl) (sz28 x1) x2 hc ?_; intro wz N6 hcz _; replace hc := hcz; clear hcz)
                | (go_at_call 12; refine (kS' _ (hB.trans (hc.bel.mono hB.size))).mono ?_; rintro r wy ⟨X, rfl, hX, hby⟩; replace hc := hc.call hby; have x1 := hX.sz; have x2 := hX.one; obtain ⟨Dx, hDx, hinx⟩ := hX.con; have x6 := hDx.vc.sz; have kw := kW Dx hDx; clear hby kS' hX hDx kW c3)
                | (go_at_call 13; refine (kC _ (hB.trans (hc.bel.mono hB.size))).mono ?_; rintro r wy ⟨rfl, hby⟩; replace hc := hc.call hby; have c3 := hc.cell 0 rfl 3 e3; clear hby kC)
                | (have hq := kC; clear hq; refine v_load rfl 28 (.tmp 2) rfl 0 rfl hc rfl _ Tryd.underlying28 rfl (sz28 hE) ?_)
                | (go_at_call 7; refine (ku _).mono ?_; rintro r wy ⟨rfl, hby⟩; replace hc := hc.call hby; clear hby ku)
                | (refine v_box rfl 28 (.tmp 0) rfl C rfl hc0 ?_; intro w1 N1 hc _; clear hc0))
              go_ret
              exact ⟨rfl, hc.bel⟩
            · exact absurd (hJ.symm.trans hi) (by decide)
          · clear hP
            go_enter Tryd.func6, Tryd.ntmps6
            go_wp2_with (first
              | (have hq := f2; clear hq; go_at_call 15; refine (kI _).mono ?_; rintro r wy ⟨rfl, hby⟩; replace hc := hc.call hby; clear hby kI f2; have f3 : True := trivial)
              | (have hq := f1; clear hq; refine v_load rfl 28 (.tmp 2) rfl 1 rfl hc rfl _ Tryd.underlying28 rfl (sz28 hE) ?_; clear f1; have f2 : True := trivial)
              | (have hq := kw; clear hq; go_at_call 14; refine (kw _ (hB.trans (hc.bel.mono hB.size))).mono ?_; rintro r wy ⟨rfl, hby⟩; replace hc := hc.call hby; clear hby kw; have f1 : True := trivial)
              | (refine v_part rfl 26 (.tmp 27) rfl 0 Dx rfl hc rfl hinx _ Tryd.underlying26 rfl (sz26 x6) ?_)
              | (refine v_decl rfl rfl 28 rfl (.tmp 6) (.tmp 24) rfl zE X z28 (fun _ => rfl) (fun _ => rfl) (by rw [x1]; rfl) (sz28 x1) x2 hc ?_; intro wz N6 hcz _; replace hc := hcz; clear hcz)
              | (go_at_call 12; refine (kS' _ (hB.trans (hc.bel.mono hB.size))).mono ?_; rintro r wy ⟨X, rfl, hX, hby⟩; replace hc := hc.call hby; have x1 := hX.sz; have x2 := hX.one; obtain ⟨Dx, hDx, hinx⟩ := hX.con; have x6 := hDx.vc.sz; have kw := kW Dx hDx; clear hby kS' hX hDx kW c3)
              | (go_at_call 13; refine (kC _ (hB.trans (hc.bel.mono hB.size))).mono ?_; rintro r wy ⟨rfl, hby⟩; replace hc := hc.call hby; have c3 := hc.cell 0 rfl 3 e3; clear hby kC)
              | (have hq := kC; clear hq; refine v_load rfl 28 (.tmp 2) rfl 0 rfl hc rfl _ Tryd.underlying28 rfl (sz28 hE) ?_)
              | (go_at_call 7; refine (ku _).mono ?_; rintro r wy ⟨rfl, hby⟩; replace hc := hc.call hby; clear hby ku)
              | (refine v_box rfl 28 (.tmp 0) rfl C rfl hc0 ?_; intro w1 N1 hc _; clear hc0))
            go_ret
            exact ⟨rfl, hc.bel⟩
        · clear hP
          go_enter Tryd.func6, Tryd.ntmps6
          go_wp2_with (first
            | (have hq := kw; clear hq; go_at_call 14; refine (kw _ (hB.trans (hc.bel.mono hB.size))).mono ?_; rintro r wy ⟨rfl, hby⟩; replace hc := hc.call hby; clear hby kw; have f1 : True := trivial)
            | (refine v_part rfl 26 (.tmp 27) rfl 0 Dx rfl hc rfl hinx _ Tryd.underlying26 rfl (sz26 x6) ?_)
            | (refine v_decl rfl rfl 28 rfl (.tmp 6) (.tmp 24) rfl zE X z28 (fun _ => rfl) (fun _ => rfl) (by rw [x1]; rfl) (sz28 x1) x2 hc ?_; intro wz N6 hcz _; replace hc := hcz; clear hcz)
            | (go_at_call 12; refine (kS' _ (hB.trans (hc.bel.mono hB.size))).mono ?_; rintro r wy ⟨X, rfl, hX, hby⟩; replace hc := hc.call hby; have x1 := hX.sz; have x2 := hX.one; obtain ⟨Dx, hDx, hinx⟩ := hX.con; have x6 := hDx.vc.sz; have kw := kW Dx hDx; clear hby kS' hX hDx kW c3)
            | (go_at_call 13; refine (kC _ (hB.trans (hc.bel.mono hB.size))).mono ?_; rintro r wy ⟨rfl, hby⟩; replace hc := hc.call hby; have c3 := hc.cell 0 rfl 3 e3; clear hby kC)
            | (have hq := kC; clear hq; refine v_load rfl 28 (.tmp 2) rfl 0 rfl hc rfl _ Tryd.underlying28 rfl (sz28 hE) ?_)
            | (go_at_call 7; refine (ku _).mono ?_; rintro r wy ⟨rfl, hby⟩; replace hc := hc.call hby; clear hby ku)
            | (refine v_box rfl 28 (.tmp 0) rfl C rfl hc0 ?_; intro w1 N1 hc _; clear hc0))
          go_ret
          exact ⟨rfl, hc.bel⟩
    · rw [decide_eq_false hJ] at qJ
      replace hP := fun hF => hP (fun hx => hJ hx.2.2) hF
      cases h
      · skip
        cases F
        · obtain ⟨hT, hK, hj | ⟨hl, hi⟩⟩ := hP rfl
          · rw [decide_eq_true hT] at qT
            rw [decide_eq_true hK] at qK
            replace hj : k = sJoin := hj
            rw [decide_eq_true hj] at qj
            clear hP hT hK hj
            go_enter Tryd.func6, Tryd.ntmps6
            go_wp2_with (first
              | (have hq := f3; clear hq; go_at_call 14; refine (kK _ (hB.trans (hc.bel.mono hB.size))).mono ?_; rintro r wy ⟨rfl, hby⟩; replace hc := hc.call hby; have c1 := hc.cell 1 rfl 1 e1; have c3 := hc.cell 1 rfl 3 e3; have c5 := hc.cell 1 rfl 5 e5; clear hby kK f3)
              | (refine v_part rfl 26 (.tmp 46) rfl 1 Dc rfl hc rfl hin _ Tryd.underlying26 rfl (sz26 c6) ?_)
              | (have hq := f2; clear hq; go_at_call 15; refine (kI _).mono ?_; rintro r wy ⟨rfl, hby⟩; replace hc := hc.call hby; clear hby kI f2; have f3 : True := trivial)
              | (have hq := f1; clear hq; refine v_load rfl 28 (.tmp 2) rfl 1 rfl hc rfl _ Tryd.underlying28 rfl (sz28 hE) ?_; clear f1; have f2 : True := trivial)
              | (have hq := kw; clear hq; go_at_call 14; refine (kw _ (hB.trans (hc.bel.mono hB.size))).mono ?_; rintro r wy ⟨rfl, hby⟩; replace hc := hc.call hby; clear hby kw; have f1 : True := trivial)
              | (refine v_part rfl 26 (.tmp 27) rfl 0 Dx rfl hc rfl hinx _ Tryd.underlying26 rfl (sz26 x6) ?_)
              | (refine v_decl rfl rfl 28 rfl (.tmp 6) (.tmp 24) rfl zE X z28 (fun _ => rfl) (fun _ => rfl) (by rw [x1]; rfl) (sz28 x1) x2 hc ?_; intro wz N6 hcz _; replace hc := hcz; clear hcz)
              | (go_at_call 12; refine (kS' _ (hB.trans (hc.bel.mono hB.size))).mono ?_; rintro r wy ⟨X, rfl, hX, hby⟩; replace hc := hc.call hby; have x1 := hX.sz; have x2 := hX.one; obtain ⟨Dx, hDx, hinx⟩ := hX.con; have x6 := hDx.vc.sz; have kw := kW Dx hDx; clear hby kS' hX hDx kW c3)
              | (go_at_call 13; refine (kC _ (hB.trans (hc.bel.mono hB.size))).mono ?_; rintro r wy ⟨rfl, hby⟩; replace hc := hc.call hby; have c3 := hc.cell 0 rfl 3 e3; clear hby kC)
              | (have hq := kC; clear hq; refine v_load rfl 28 (.tmp 2) rfl 0 rfl hc rfl _ Tryd.underlying28 rfl (sz28 hE) ?_)
              | (go_at_call 7; refine (ku _).mono ?_; rintro r wy ⟨rfl, hby⟩; replace hc := hc.call hby; clear hby ku)
              | (refine v_box rfl 28 (.tmp 0) rfl C rfl hc0 ?_; intro w1 N1 hc _; clear hc0))
            go_ret
            exact ⟨rfl, hc.bel⟩
          · rw [decide_eq_true hT] at qT
            rw [decide_eq_true hK] at qK
            replace hl : k = sLeave := hl
            replace hi : m = sInvite := hi
            have hlj : k ≠ sJoin := by rw [hl]; decide
            rw [decide_eq_false hlj] at qj
            rw [decide_eq_true hl] at ql
            rw [decide_eq_true hi] at qI
            clear hP hT hK hl hi hlj
            go_enter Tryd.func6, Tryd.ntmps6
            go_wp2_with (first
              | (have hq := f3; clear hq; go_at_call 14; refine (kK _ (hB.trans (hc.bel.mono hB.size))).mono ?_; rintro r wy ⟨rfl, hby⟩; replace hc := hc.call hby; have c1 := hc.cell 1 rfl 1 e1; have c3 := hc.cell 1 rfl 3 e3; have c5 := hc.cell 1 rfl 5 e5; clear hby kK f3)
              | (refine v_part rfl 26 (.tmp 46) rfl 1 Dc rfl hc rfl hin _ Tryd.underlying26 rfl (sz26 c6) ?_)
              | (have hq := f2; clear hq; go_at_call 15; refine (kI _).mono ?_; rintro r wy ⟨rfl, hby⟩; replace hc := hc.call hby; clear hby kI f2; have f3 : True := trivial)
              | (have hq := f1; clear hq; refine v_load rfl 28 (.tmp 2) rfl 1 rfl hc rfl _ Tryd.underlying28 rfl (sz28 hE) ?_; clear f1; have f2 : True := trivial)
              | (have hq := kw; clear hq; go_at_call 14; refine (kw _ (hB.trans (hc.bel.mono hB.size))).mono ?_; rintro r wy ⟨rfl, hby⟩; replace hc := hc.call hby; clear hby kw; have f1 : True := trivial)
              | (refine v_part rfl 26 (.tmp 27) rfl 0 Dx rfl hc rfl hinx _ Tryd.underlying26 rfl (sz26 x6) ?_)
              | (refine v_decl rfl rfl 28 rfl (.tmp 6) (.tmp 24) rfl zE X z28 (fun _ => rfl) (fun _ => rfl) (by rw [x1]; rfl) (sz28 x1) x2 hc ?_; intro wz N6 hcz _; replace hc := hcz; clear hcz)
              | (go_at_call 12; refine (kS' _ (hB.trans (hc.bel.mono hB.size))).mono ?_; rintro r wy ⟨X, rfl, hX, hby⟩; replace hc := hc.call hby; have x1 := hX.sz; have x2 := hX.one; obtain ⟨Dx, hDx, hinx⟩ := hX.con; have x6 := hDx.vc.sz; have kw := kW Dx hDx; clear hby kS' hX hDx kW c3)
              | (go_at_call 13; refine (kC _ (hB.trans (hc.bel.mono hB.size))).mono ?_; rintro r wy ⟨rfl, hby⟩; replace hc := hc.call hby; have c3 := hc.cell 0 rfl 3 e3; clear hby kC)
              | (have hq := kC; clear hq; refine v_load rfl 28 (.tmp 2) rfl 0 rfl hc rfl _ Tryd.underlying28 rfl (sz28 hE) ?_)
              | (go_at_call 7; refine (ku _).mono ?_; rintro r wy ⟨rfl, hby⟩; replace hc := hc.call hby; clear hby ku)
              | (refine v_box rfl 28 (.tmp 0) rfl C rfl hc0 ?_; intro w1 N1 hc _; clear hc0))
            go_ret
            exact ⟨rfl, hc.bel⟩
        · clear hP
          go_enter Tryd.func6, Tryd.ntmps6
          go_wp2_with (first
            | (have hq := f2; clear hq; go_at_call 15; refine (kI _).mono ?_; rintro r wy ⟨rfl, hby⟩; replace hc := hc.call hby; clear hby kI f2; have f3 : True := trivial)
            | (have hq := f1; clear hq; refine v_load rfl 28 (.tmp 2) rfl 1 rfl hc rfl _ Tryd.underlying28 rfl (sz28 hE) ?_; clear f1; have f2 : True := trivial)
            | (have hq := kw; clear hq; go_at_call 14; refine (kw _ (hB.trans (hc.bel.mono hB.size))).mono ?_; rintro r wy ⟨rfl, hby⟩; replace hc := hc.call hby; clear hby kw; have f1 : True := trivial)
            | (refine v_part rfl 26 (.tmp 27) rfl 0 Dx rfl hc rfl hinx _ Tryd.underlying26 rfl (sz26 x6) ?_)
            | (refine v_decl rfl rfl 28 rfl (.tmp 6) (.tmp 24) rfl zE X z28 (fun _ => rfl) (fun _ => rfl) (by rw [x1]; rfl) (sz28 x1) x2 hc ?_; intro wz N6 hcz _; replace hc := hcz; clear hcz)
            | (go_at_call 12; refine (kS' _ (hB.trans (hc.bel.mono hB.size))).mono ?_; rintro r wy ⟨X, rfl, hX, hby⟩; replace hc := hc.call hby; have x1 := hX.sz; have x2 := hX.one; obtain ⟨Dx, hDx, hinx⟩ := hX.con; have x6 := hDx.vc.sz; have kw := kW Dx hDx; clear hby kS' hX hDx kW c3)
            | (go_at_call 13; refine (kC _ (hB.trans (hc.bel.mono hB.size))).mono ?_; rintro r wy ⟨rfl, hby⟩; replace hc := hc.call hby; have c3 := hc.cell 0 rfl 3 e3; clear hby kC)
            | (have hq := kC; clear hq; refine v_load rfl 28 (.tmp 2) rfl 0 rfl hc rfl _ Tryd.underlying28 rfl (sz28 hE) ?_)
            | (go_at_call 7; refine (ku _).mono ?_; rintro r wy ⟨rfl, hby⟩; replace hc := hc.call hby; clear hby ku)
            | (refine v_box rfl 28 (.tmp 0) rfl C rfl hc0 ?_; intro w1 N1 hc _; clear hc0))
          go_ret
          exact ⟨rfl, hc.bel⟩
      · cases mi
        · skip
          cases F
          · obtain ⟨hT, hK, hj | ⟨hl, hi⟩⟩ := hP rfl
            · rw [decide_eq_true hT] at qT
              rw [decide_eq_true hK] at qK
              replace hj : k = sJoin := hj
              rw [decide_eq_true hj] at qj
              clear hP hT hK hj
              go_enter Tryd.func6, Tryd.ntmps6
              go_wp2_with (first
                | (have hq := f3; clear hq; go_at_call 14; refine (kK _ (hB.trans (hc.bel.mono hB.size))).mono ?_; rintro r wy ⟨rfl, hby⟩; replace hc := hc.call hby; have c1 := hc.cell 1 rfl 1 e1; have c3 := hc.cell 1 rfl 3 e3; have c5 := hc.cell 1 rfl 5 e5; clear hby kK f3)
                | (refine v_part rfl 26 (.tmp 46) rfl 1 Dc rfl hc rfl hin _ Tryd.underlying26 rfl (sz26 c6) ?_)
                | (have hq := f2; clear hq; go_at_call 15; refine (kI _).mono ?_; rintro r wy ⟨rfl, hby⟩; replace hc := hc.call hby; clear hby kI f2; have f3 : True := trivial)
                | (have hq := f1; clear hq; refine v_load rfl 28 (.tmp 2) rfl 1 rfl hc rfl _ Tryd.underlying28 rfl (sz28 hE) ?_; clear f1; have f2 : True := trivial)
                | (have hq := kw; clear hq; go_at_call 14; refine (kw _ (hB.trans (hc.bel.mono hB.size))).mono ?_; rintro r wy ⟨rfl, hby⟩; replace hc := hc.call hby; clear hby kw; have f1 : True := trivial)
                | (refine v_part rfl 26 (.tmp 27) rfl 0 Dx rfl hc rfl hinx _ Tryd.underlying26 rfl (sz26 x6) ?_)
                | (refine v_decl rfl rfl 28 rfl (.tmp 6) (.tmp 24) rfl zE X z28 (fun _ => rfl) (fun _ => rfl) (by rw [x1]; rfl) (sz28 x1) x2 hc ?_; intro wz N6 hcz _; replace hc := hcz; clear hcz)
                | (go_at_call 12; refine (kS' _ (hB.trans (hc.bel.mono hB.size))).mono ?_; rintro r wy ⟨X, rfl, hX, hby⟩; replace hc := hc.call hby; have x1 := hX.sz; have x2 := hX.one; obtain ⟨Dx, hDx, hinx⟩ := hX.con; have x6 := hDx.vc.sz; have kw := kW Dx hDx; clear hby kS' hX hDx kW c3)
                | (go_at_call 13; refine (kC _ (hB.trans (hc.bel.mono hB.size))).mono ?_; rintro r wy ⟨rfl, hby⟩; replace hc := hc.call hby; have c3 := hc.cell 0 rfl 3 e3; clear hby kC)
                | (have hq := kC; clear hq; refine v_load rfl 28 (.tmp 2) rfl 0 rfl hc rfl _ Tryd.underlying28 rfl (sz28 hE) ?_)
                | (go_at_call 7; refine (ku _).mono ?_; rintro r wy ⟨rfl, hby⟩; replace hc := hc.call hby; clear hby ku)
                | (refine v_box rfl 28 (.tmp 0) rfl C rfl hc0 ?_; intro w1 N1 hc _; clear hc0))
              go_ret
              exact ⟨rfl, hc.bel⟩
            · rw [decide_eq_true hT] at qT
              rw [decide_eq_true hK] at qK
              replace hl : k = sLeave := hl
              replace hi : m = sInvite := hi
              have hlj : k ≠ sJoin := by rw [hl]; decide
              rw [decide_eq_false hlj] at qj
              rw [decide_eq_true hl] at ql
              rw [decide_eq_true hi] at qI
              clear hP hT hK hl hi hlj
              go_enter Tryd.func6, Tryd.ntmps6
              go_wp2_with (first
                | (have hq := f3; clear hq; go_at_call 14; refine (kK _ (hB.trans (hc.bel.mono hB.size))).mono ?_; rintro r wy ⟨rfl, hby⟩; replace hc := hc.call hby; have c1 := hc.cell 1 rfl 1 e1; have c3 := hc.cell 1 rfl 3 e3; have c5 := hc.cell 1 rfl 5 e5; clear hby kK f3)
                | (refine v_part rfl 26 (.tmp 46) rfl 1 Dc rfl hc rfl hin _ Tryd.underlying26 rfl (sz26 c6) ?_)
                | (have hq := f2; clear hq; go_at_call 15; refine (kI _).mono ?_; rintro r wy ⟨rfl, hby⟩; replace hc := hc.call hby; clear hby kI f2; have f3 : True := trivial)
                | (have hq := f1; clear hq; refine v_load rfl 28 (.tmp 2) rfl 1 rfl hc rfl _ Tryd.underlying28 rfl (sz28 hE) ?_; clear f1; have f2 : True := trivial)
                | (have hq := kw; clear hq; go_at_call 14; refine (kw _ (hB.trans (hc.bel.mono hB.size))).mono ?_; rintro r wy ⟨rfl, hby⟩; replace hc := hc.call hby; clear hby kw; have f1 : True := trivial)
                | (refine v_part rfl 26 (.tmp 27) rfl 0 Dx rfl hc rfl hinx _ Tryd.underlying26 rfl (sz26 x6) ?_)
                | (refine v_decl rfl rfl 28 rfl (.tmp 6) (.tmp 24) rfl zE X z28 (fun _ => rfl) (fun _ => rfl) (by rw [x1]; rfl) (sz28 x1) x2 hc ?_; intro wz N6 hcz _; replace hc := hcz; clear hcz)
                | (go_at_call 12; refine (kS' _ (hB.trans (hc.bel.mono hB.size))).mono ?_; rintro r wy ⟨X, rfl, hX, hby⟩; replace hc := hc.call hby; have x1 := hX.sz; have x2 := hX.one; obtain ⟨Dx, hDx, hinx⟩ := hX.con; have x6 := hDx.vc.sz; have kw := kW Dx hDx; clear hby kS' hX hDx kW c3)
                | (go_at_call 13; refine (kC _ (hB.trans (hc.bel.mono hB.size))).mono ?_; rintro r wy ⟨rfl, hby⟩; replace hc := hc.call hby; have c3 := hc.cell 0 rfl 3 e3; clear hby kC)
                | (have hq := kC; clear hq; refine v_load rfl 28 (.tmp 2) rfl 0 rfl hc rfl _ Tryd.underlying28 rfl (sz28 hE) ?_)
                | (go_at_call 7; refine (ku _).mono ?_; rintro r wy ⟨rfl, hby⟩; replace hc := hc.call hby; clear hby ku)
                | (refine v_box rfl 28 (.tmp 0) rfl C rfl hc0 ?_; intro w1 N1 hc _; clear hc0))
              go_ret
              exact ⟨rfl, hc.bel⟩
          · clear hP
            go_enter Tryd.func6, Tryd.ntmps6
            go_wp2_with (first
              | (have hq := f2; clear hq; go_at_call 15; refine (kI _).mono ?_; rintro r wy ⟨rfl, hby⟩; replace hc := hc.call hby; clear hby kI f2; have f3 : True := trivial)
              | (have hq := f1; clear hq; refine v_load rfl 28 (.tmp 2) rfl 1 rfl hc rfl _ Tryd.underlying28 rfl (sz28 hE) ?_; clear f1; have f2 : True := trivial)
              | (have hq := kw; clear hq; go_at_call 14; refine (kw _ (hB.trans (hc.bel.mono hB.size))).mono ?_; rintro r wy ⟨rfl, hby⟩; replace hc := hc.call hby; clear hby kw; have f1 : True := trivial)
              | (refine v_part rfl 26 (.tmp 27) rfl 0 Dx rfl hc rfl hinx _ Tryd.underlying26 rfl (sz26 x6) ?_)
              | (refine v_decl rfl rfl 28 rfl (.tmp 6) (.tmp 24) rfl zE X z28 (fun _ => rfl) (fun _ => rfl) (by rw [x1]; rfl) (sz28 x1) x2 hc ?_; intro wz N6 hcz _; replace hc := hcz; clear hcz)
              | (go_at_call 12; refine (kS' _ (hB.trans (hc.bel.mono hB.size))).mono ?_; rintro r wy ⟨X, rfl, hX, hby⟩; replace hc := hc.call hby; have x1 := hX.sz; have x2 := hX.one; obtain ⟨Dx, hDx, hinx⟩ := hX.con; have x6 := hDx.vc.sz; have kw := kW Dx hDx; clear hby kS' hX hDx kW c3)
              | (go_at_call 13; refine (kC _ (hB.trans (hc.bel.mono hB.size))).mono ?_; rintro r wy ⟨rfl, hby⟩; replace hc := hc.call hby; have c3 := hc.cell 0 rfl 3 e3; clear hby kC)
              | (have hq := kC; clear hq; refine v_load rfl 28 (.tmp 2) rfl 0 rfl hc rfl _ Tryd.underlying28 rfl (sz28 hE) ?_)
              | (go_at_call 7; refine (ku _).mono ?_; rintro r wy ⟨rfl, hby⟩; replace hc := hc.call hby; clear hby ku)
              | (refine v_box rfl 28 (.tmp 0) rfl C rfl hc0 ?_; intro w1 N1 hc _; clear hc0))
            go_ret
            exact ⟨rfl, hc.bel⟩
        · skip
          cases F
          · obtain ⟨hT, hK, hj | ⟨hl, hi⟩⟩ := hP rfl
            · rw [decide_eq_true hT] at qT
              rw [decide_eq_true hK] at qK
              replace hj : k = sJoin := hj
              rw [decide_eq_true hj] at qj
              clear hP hT hK hj
              go_enter Tryd.func6, Tryd.ntmps6
              go_wp2_with (first
                | (have hq := f3; clear hq; go_at_call 14; refine (kK _ (hB.trans (hc.bel.mono hB.size))).mono ?_; rintro r wy ⟨rfl, hby⟩; replace hc := hc.call hby; have c1 := hc.cell 1 rfl 1 e1; have c3 := hc.cell 1 rfl 3 e3; have c5 := hc.cell 1 rfl 5 e5; clear hby kK f3)
                | (refine v_part rfl 26 (.tmp 46) rfl 1 Dc rfl hc rfl hin _ Tryd.underlying26 rfl (sz26 c6) ?_)
                | (have hq := f2; clear hq; go_at_call 15; refine (kI _).mono ?_; rintro r wy ⟨rfl, hby⟩; replace hc := hc.call hby; clear hby kI f2; have f3 : True := trivial)
                | (have hq := f1; clear hq; refine v_load rfl 28 (.tmp 2) rfl 1 rfl hc rfl _ Tryd.underlying28 rfl (sz28 hE) ?_; clear f1; have f2 : True := trivial)
                | (have hq := kw; clear hq; go_at_call 14; refine (kw _ (hB.trans (hc.bel.mono hB.size))).mono ?_; rintro r wy ⟨rfl, hby⟩; replace hc := hc.call hby; clear hby kw; have f1 : True := trivial)
                | (refine v_part rfl 26 (.tmp 27) rfl 0 Dx rfl hc rfl hinx _ Tryd.underlying26 rfl (sz26 x6) ?_)
                | (refine v_decl rfl rfl 28 rfl (.tmp 6) (.tmp 24) rfl zE X z28 (fun _ => rfl) (fun _ => rfl) (by rw [x1]; rfl) (sz28 x1) x2 hc ?_; intro wz N6 hcz _; replace hc := hcz; clear hcz)
                | (go_at_call 12; refine (kS' _ (hB.trans (hc.bel.mono hB.size))).mono ?_; rintro r wy ⟨X, rfl, hX, hby⟩; replace hc := hc.call hby; have x1 := hX.sz; have x2 := hX.one; obtain ⟨Dx, hDx, hinx⟩ := hX.con; have x6 := hDx.vc.sz; have kw := kW Dx hDx; clear hby kS' hX hDx kW c3)
                | (go_at_call 13; refine (kC _ (hB.trans (hc.bel.mono hB.size))).mono ?_; rintro r wy ⟨rfl, hby⟩; replace hc := hc.call hby; have c3 := hc.cell 0 rfl 3 e3; clear hby kC)
                | (have hq := kC; clear hq; refine v_load rfl 28 (.tmp 2) rfl 0 rfl hc rfl _ Tryd.underlying28 rfl (sz28 hE) ?_)
                | (go_at_call 7; refine (ku _).mono ?_; rintro r wy ⟨rfl, hby⟩; replace hc := hc.call hby; clear hby ku)
                | (refine v_box rfl 28 (.tmp 0) rfl C rfl hc0 ?_; intro w1 N1 hc _; clear hc0))
              go_ret
              exact ⟨rfl, hc.bel⟩
            · rw [decide_eq_true hT] at qT
              rw [decide_eq_true hK] at qK
              replace hl : k = sLeave := hl
              replace hi : m = sInvite := hi
              have hlj : k ≠ sJoin := by rw [hl]; decide
              rw [decide_eq_false hlj] at qj
              rw [decide_eq_true hl] at ql
              rw [decide_eq_true hi] at qI
              clear hP hT hK hl hi hlj
              go_enter Tryd.func6, Tryd.ntmps6
              go_wp2_with (first
                | (have hq := f3; clear hq; go_at_call 14; refine (kK _ (hB.trans (hc.bel.mono hB.size))).mono ?_; rintro r wy ⟨rfl, hby⟩; replace hc := hc.call hby; have c1 := hc.cell 1 rfl 1 e1; have c3 := hc.cell 1 rfl 3 e3; have c5 := hc.cell 1 rfl 5 e5; clear hby kK f3)
                | (refine v_part rfl 26 (.tmp 46) rfl 1 Dc rfl hc rfl hin _ Tryd.underlying26 rfl (sz26 c6) ?_)
                | (have hq := f2; clear hq; go_at_call 15; refine (kI _).mono ?_; rintro r wy ⟨rfl, hby⟩; replace hc := hc.call hby; clear hby kI f2; have f3 : True := trivial)
                | (have hq := f1; clear hq; refine v_load rfl 28 (.tmp 2) rfl 1 rfl hc rfl _ Tryd.underlying28 rfl (sz28 hE) ?_; clear f1; have f2 : True := trivial)
                | (have hq := kw; clear hq; go_at_call 14; refine (kw _ (hB.trans (hc.bel.mono hB.size))).mono ?_; rintro r wy ⟨rfl, hby⟩; replace hc := hc.call hby; clear hby kw; have f1 : True := trivial)
                | (refine v_part rfl 26 (.tmp 27) rfl 0 Dx rfl hc rfl hinx _ Tryd.underlying26 rfl (sz26 x6) ?_)
                | (refine v_decl rfl rfl 28 rfl (.tmp 6) (.tmp 24) rfl zE X z28 (fun _ => rfl) (fun _ => rfl) (by rw [x1]; rfl) (sz28 x1) x2 hc ?_; intro wz N6 hcz _; replace hc := hcz; clear hcz)
                | (go_at_call 12; refine (kS' _ (hB.trans (hc.bel.mono hB.size))).mono ?_; rintro r wy ⟨X, rfl, hX, hby⟩; replace hc := hc.call hby; have x1 := hX.sz; have x2 := hX.one; obtain ⟨Dx, hDx, hinx⟩ := hX.con; have x6 := hDx.vc.sz; have kw := kW Dx hDx; clear hby kS' hX hDx kW c3)
                | (go_at_call 13; refine (kC _ (hB.trans (hc.bel.mono hB.size))).mono ?_; rintro r wy ⟨rfl, hby⟩; replace hc := hc.call hby; have c3 := hc.cell 0 rfl 3 e3; clear hby kC)
                | (have hq := kC; clear hq; refine v_load rfl 28 (.tmp 2) rfl 0 rfl hc rfl _ Tryd.underlying28 rfl (sz28 hE) ?_)
                | (go_at_call 7; refine (ku _).mono ?_; rintro r wy ⟨rfl, hby⟩; replace hc := hc.call hby; clear hby ku)
                | (refine v_box rfl 28 (.tmp 0) rfl C rfl hc0 ?_; intro w1 N1 hc _; clear hc0))
              go_ret
              exact ⟨rfl, hc.bel⟩
          · clear hP
            go_enter Tryd.func6, Tryd.ntmps6
            go_wp2_with (first
              | (have hq := f2; clear hq; go_at_call 15; refine (kI _).mono ?_; rintro r wy ⟨rfl, hby⟩; replace hc := hc.call hby; clear hby kI f2; have f3 : True := trivial)
              | (have hq := f1; clear hq; refine v_load rfl 28 (.tmp 2) rfl 1 rfl hc rfl _ Tryd.underlying28 rfl (sz28 hE) ?_; clear f1; have f2 : True := trivial)
              | (have hq := kw; clear hq; go_at_call 14; refine (kw _ (hB.trans (hc.bel.mono hB.size))).mono ?_; rintro r wy ⟨rfl, hby⟩; replace hc := hc.call hby; clear hby kw; have f1 : True := trivial)
              | (refine v_part rfl 26 (.tmp 27) rfl 0 Dx rfl hc rfl hinx _ Tryd.underlying26 rfl (sz26 x6) ?_)
              | (refine v_decl rfl rfl 28 rfl (.tmp 6) (.tmp 24) rfl zE X z28 (fun _ => rfl) (fun _ => rfl) (by rw [x1]; rfl) (sz28 x1) x2 hc ?_; intro wz N6 hcz _; replace hc := hcz; clear hcz)
              | (go_at_call 12; refine (kS' _ (hB.trans (hc.bel.mono hB.size))).mono ?_; rintro r wy ⟨X, rfl, hX, hby⟩; replace hc := hc.call hby; have x1 := hX.sz; have x2 := hX.one; obtain ⟨Dx, hDx, hinx⟩ := hX.con; have x6 := hDx.vc.sz; have kw := kW Dx hDx; clear hby kS' hX hDx kW c3)
              | (go_at_call 13; refine (kC _ (hB.trans (hc.bel.mono hB.size))).mono ?_; rintro r wy ⟨rfl, hby⟩; replace hc := hc.call hby; have c3 := hc.cell 0 rfl 3 e3; clear hby kC)
              | (have hq := kC; clear hq; refine v_load rfl 28 (.tmp 2) rfl 0 rfl hc rfl _ Tryd.underlying28 rfl (sz28 hE) ?_)
              | (go_at_call 7; refine (ku _).mono ?_; rintro r wy ⟨rfl, hby⟩; replace hc := hc.call hby; clear hby ku)
              | (refine v_box rfl 28 (.tmp 0) rfl C rfl hc0 ?_; intro w1 N1 hc _; clear hc0))
            go_ret
            exact ⟨rfl, hc.bel⟩
  · have hn : (n != 0) = true := by simp [h0]
    clear hP
    go_enter Tryd.func6, Tryd.ntmps6
    go_wp2_with (first
      | (go_at_call 13; refine (kC _ (hB.trans (hc.bel.mono hB.size))).mono ?_; rintro r wy ⟨rfl, hby⟩; replace hc := hc.call hby; have c3 := hc.cell 0 rfl 3 e3; clear hby kC)
      | (have hq := kC; clear hq; refine v_load rfl 28 (.tmp 2) rfl 0 rfl hc rfl _ Tryd.underlying28 rfl (sz28 hE) ?_)
      | (go_at_call 7; refine (ku _).mono ?_; rintro r wy ⟨rfl, hby⟩; replace hc := hc.call hby; clear hby ku)
      | (refine v_box rfl 28 (.tmp 0) rfl C rfl hc0 ?_; intro w1 N1 hc _; clear hc0))
    go_ret
    exact ⟨rfl, hc.bel⟩
end Go.Proofs.YthplcnbfpcndbaaDoor

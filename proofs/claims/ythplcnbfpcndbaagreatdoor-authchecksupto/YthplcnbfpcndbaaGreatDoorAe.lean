/- A user's level, the level for a deed, the level of a type: contracts, by walking their text. -/
import Derived.Test.YthplcnbfpcndbaaGreatDoorRc
namespace Go.Proofs.YthplcnbfpcndbaaGreatDoor
open Go.RowKit

set_option maxRecDepth 100000 in
set_option maxHeartbeats 4000000 in
theorem level_any (l : List EV) (v : Value) (u : ByteArray) (B w : World) (hB : Below B.heap.size B w) (hl : EvsAt B v l) :
    Calls Tryz.prog 27 #[v, .string u] w fun e w' => e = .returned (.int .i64 (level l u)) ∧ Below w.heap.size w w' := by
  have hc0 := Ctx.start w
  have hlv : ∀ W, Below B.heap.size B W → Calls Tryz.prog 59 #[v] W fun e w' => ∃ D, e = .returned (.tuple #[.agg D, .bool (hasL l)]) ∧ LaidV B (lvls l) D ∧ Below W.heap.size W w' := fun W h => levels_any l v B W h hl
  have hic := fun W h => isCreator_any l v u B W h hl
  clear hl
  unfold level
  generalize hasL l = h at hlv
  generalize isCr l u = c at hic
  cases h
  · cases c
    · show Calls Tryz.prog 27 #[v, .string u] w fun e w' => e = .returned (.int .i64 (orN (num (fldD (lvls l) sUsers) u) (orN (num (lvls l) sUD) 0))) ∧ Below w.heap.size w w'
      go_enter Tryz.func27, Tryz.ntmps27
      go_wp2_with (first
        | (go_at_call 59; refine (hlv _ (hB.trans (hc0.bel.mono hB.size))).mono ?_; rintro e wf ⟨D, rfl, hD, hbf⟩; replace hc0 := hc0.call hbf; have d6 := hD.vc.sz; have d1 := hD.vc.one; have hfu := fun W h => field_any (lvls l) D sUsers B W h hD; have hn2 := fun W h => numberOf_any (lvls l) D sUD B W h hD; clear hD; clear hlv)
        | (refine v_decl rfl rfl 26 rfl (.tmp 5) (.tmp 12) rfl zV D z26 (fun _ => rfl) (fun _ => rfl) (by rw [d6]; rfl) (sz26 d6) d1 hc0 ?_; intro whc2 Nhc2 hc2 _; clear hc0)
        | (go_at_call 60; refine (hic _ (hB.trans (hc2.bel.mono hB.size))).mono ?_; rintro e wi ⟨rfl, hbi⟩; replace hc2 := hc2.call hbi)
        | (refine v_load rfl 26 (.tmp 5) rfl 0 rfl hc2 rfl _ Tryz.underlying26 rfl (sz26 d6) ?_)
        | (go_at_call 61; refine (hfu _ (hB.trans (hc2.bel.mono hB.size))).mono ?_; rintro e wg ⟨E, rfl, hE, hbg⟩; replace hc2 := hc2.call hbg; have e6 := hE.vc.sz; have e1 := hE.vc.one; have hn1 := fun W h => numberOf_any (fldD (lvls l) sUsers) E u B W h hE; clear hE hfu)
        | (refine v_decl rfl rfl 26 rfl (.tmp 7) (.tmp 24) rfl zV E z26 (fun _ => rfl) (fun _ => rfl) (by rw [e6]; rfl) (sz26 e6) e1 hc2 ?_; intro whc3 Nhc3 hc3 _; clear hc2))
      have HQ7 := (show Hid _ from hc3.clr 0 rfl)
      have HQ5 := (show Hid _ from hc3.clr 1 rfl)
      have HT := (show Hid _ from hc3.to hB)
      have hne := Cl.ne whc3.heap.size whc3
      refine region_cl (N := whc3.heap.size) (W := whc3) (by kernel_rfl) (by kernel_rfl) (Below.refl _ _) ?_
      go_big_quiet_want
      refine quiet_load 26 _ rfl Nhc3 0 rfl E.toList _ HQ7.out Tryz.underlying26 rfl (by simpa using sz26 e6) ?_
      simp only [Act.put, List.setIfInBounds_toArray, List.set_cons_zero, List.set_cons_succ, Array.toArray_toList]
      go_big_quiet_on
      go_big_quiet_step (fail)
      go_big_quiet_step ((go_at_call 62; exact cl_of (hn1 _ (HT.out _)) (Nat.le_refl _)))
      go_big_quiet_want
      refine quiet_load 26 _ rfl Nhc2 0 rfl D.toList _ HQ5.out Tryz.underlying26 rfl (by simpa using sz26 d6) ?_
      simp only [Act.put, List.setIfInBounds_toArray, List.set_cons_zero, List.set_cons_succ, Array.toArray_toList]
      go_big_quiet_on
      go_big_quiet_step ((go_at_call 62; exact cl_of (hn2 _ (HT.out _)) (Nat.le_refl _)))
      go_big_quiet_step ((go_at_call 63; exact cl_of (or_any _ _ _) (Nat.le_refl _)))
      go_big_quiet_step ((go_at_call 63; exact cl_of (or_any _ _ _) (Nat.le_refl _)))
      go_big_quiet_step (fail)
      refine wpQuiet_nil ?_
      rintro _ ⟨x, rfl⟩
      have hx := x.h
      go_wp2
      go_ret
      exact ⟨rfl, (hc3.call hx).bel⟩
    · show Calls Tryz.prog 27 #[v, .string u] w fun e w' => e = .returned (.int .i64 100) ∧ Below w.heap.size w w'
      go_enter Tryz.func27, Tryz.ntmps27
      go_wp2_with (first
        | (go_at_call 59; refine (hlv _ (hB.trans (hc0.bel.mono hB.size))).mono ?_; rintro e wf ⟨D, rfl, hD, hbf⟩; replace hc0 := hc0.call hbf; have d6 := hD.vc.sz; have d1 := hD.vc.one; clear hD; clear hlv)
        | (refine v_decl rfl rfl 26 rfl (.tmp 5) (.tmp 12) rfl zV D z26 (fun _ => rfl) (fun _ => rfl) (by rw [d6]; rfl) (sz26 d6) d1 hc0 ?_; intro whc2 Nhc2 hc2 _; clear hc0)
        | (go_at_call 60; refine (hic _ (hB.trans (hc2.bel.mono hB.size))).mono ?_; rintro e wi ⟨rfl, hbi⟩; replace hc2 := hc2.call hbi))
      go_ret
      exact ⟨rfl, hc2.bel⟩
  · show Calls Tryz.prog 27 #[v, .string u] w fun e w' => e = .returned (.int .i64 (orN (num (fldD (lvls l) sUsers) u) (orN (num (lvls l) sUD) 0))) ∧ Below w.heap.size w w'
    go_enter Tryz.func27, Tryz.ntmps27
    go_wp2_with (first
      | (go_at_call 59; refine (hlv _ (hB.trans (hc0.bel.mono hB.size))).mono ?_; rintro e wf ⟨D, rfl, hD, hbf⟩; replace hc0 := hc0.call hbf; have d6 := hD.vc.sz; have d1 := hD.vc.one; have hfu := fun W h => field_any (lvls l) D sUsers B W h hD; have hn2 := fun W h => numberOf_any (lvls l) D sUD B W h hD; clear hD; clear hlv)
      | (refine v_decl rfl rfl 26 rfl (.tmp 5) (.tmp 12) rfl zV D z26 (fun _ => rfl) (fun _ => rfl) (by rw [d6]; rfl) (sz26 d6) d1 hc0 ?_; intro whc2 Nhc2 hc2 _; clear hc0)
      | (go_at_call 60; refine (hic _ (hB.trans (hc2.bel.mono hB.size))).mono ?_; rintro e wi ⟨rfl, hbi⟩; replace hc2 := hc2.call hbi)
      | (refine v_load rfl 26 (.tmp 5) rfl 0 rfl hc2 rfl _ Tryz.underlying26 rfl (sz26 d6) ?_)
      | (go_at_call 61; refine (hfu _ (hB.trans (hc2.bel.mono hB.size))).mono ?_; rintro e wg ⟨E, rfl, hE, hbg⟩; replace hc2 := hc2.call hbg; have e6 := hE.vc.sz; have e1 := hE.vc.one; have hn1 := fun W h => numberOf_any (fldD (lvls l) sUsers) E u B W h hE; clear hE hfu)
      | (refine v_decl rfl rfl 26 rfl (.tmp 7) (.tmp 24) rfl zV E z26 (fun _ => rfl) (fun _ => rfl) (by rw [e6]; rfl) (sz26 e6) e1 hc2 ?_; intro whc3 Nhc3 hc3 _; clear hc2))
    have HQ7 := (show Hid _ from hc3.clr 0 rfl)
    have HQ5 := (show Hid _ from hc3.clr 1 rfl)
    have HT := (show Hid _ from hc3.to hB)
    have hne := Cl.ne whc3.heap.size whc3
    refine region_cl (N := whc3.heap.size) (W := whc3) (by kernel_rfl) (by kernel_rfl) (Below.refl _ _) ?_
    go_big_quiet_want
    refine quiet_load 26 _ rfl Nhc3 0 rfl E.toList _ HQ7.out Tryz.underlying26 rfl (by simpa using sz26 e6) ?_
    simp only [Act.put, List.setIfInBounds_toArray, List.set_cons_zero, List.set_cons_succ, Array.toArray_toList]
    go_big_quiet_on
    go_big_quiet_step (fail)
    go_big_quiet_step ((go_at_call 62; exact cl_of (hn1 _ (HT.out _)) (Nat.le_refl _)))
    go_big_quiet_want
    refine quiet_load 26 _ rfl Nhc2 0 rfl D.toList _ HQ5.out Tryz.underlying26 rfl (by simpa using sz26 d6) ?_
    simp only [Act.put, List.setIfInBounds_toArray, List.set_cons_zero, List.set_cons_succ, Array.toArray_toList]
    go_big_quiet_on
    go_big_quiet_step ((go_at_call 62; exact cl_of (hn2 _ (HT.out _)) (Nat.le_refl _)))
    go_big_quiet_step ((go_at_call 63; exact cl_of (or_any _ _ _) (Nat.le_refl _)))
    go_big_quiet_step ((go_at_call 63; exact cl_of (or_any _ _ _) (Nat.le_refl _)))
    go_big_quiet_step (fail)
    refine wpQuiet_nil ?_
    rintro _ ⟨x, rfl⟩
    have hx := x.h
    go_wp2
    go_ret
    exact ⟨rfl, (hc3.call hx).bel⟩

theorem Level_any (l : List EV) (v : Value) (u : ByteArray) (B w : World) (hB : Below B.heap.size B w) (hl : EvsAt B v l) :
    Calls Tryz.prog 9 #[.string u, v] w fun e w' => e = .returned (.int .i64 (level l u)) ∧ Below w.heap.size w w' := by
  have h := fun W h => level_any l v u B W h hl
  go_enter Tryz.func9, Tryz.ntmps9
  go_wp2_with (go_at_call 27; refine (h _ hB).mono ?_; rintro e w1 ⟨rfl, hb⟩)
  go_ret
  exact ⟨rfl, hb⟩

set_option maxRecDepth 100000 in
set_option maxHeartbeats 4000000 in
theorem levelFor_any (l : List EV) (v : Value) (d : ByteArray) (B w : World) (hB : Below B.heap.size B w) (hl : EvsAt B v l) :
    Calls Tryz.prog 75 #[v, .string d] w fun e w' => e = .returned (.int .i64 (lvFor l d)) ∧ Below w.heap.size w w' := by
  have hc0 := Ctx.start w
  have hlv : ∀ W, Below B.heap.size B W → Calls Tryz.prog 59 #[v] W fun e w' => ∃ D, e = .returned (.tuple #[.agg D, .bool (hasL l)]) ∧ LaidV B (lvls l) D ∧ Below W.heap.size W w' := fun W h => levels_any l v B W h hl
  clear hl
  have hq := beq_const d sInvite (l := [105, 110, 118, 105, 116, 101]) rfl
  unfold lvFor
  by_cases hd : d = sInvite
  · rw [if_pos hd]
    rw [decide_eq_true hd] at hq
    clear hd
    go_enter Tryz.func75, Tryz.ntmps75
    go_wp2_with (first
      | (go_at_call 59; refine (hlv _ (hB.trans (hc0.bel.mono hB.size))).mono ?_; rintro e wf ⟨D, rfl, hD, hbf⟩; replace hc0 := hc0.call hbf; have d6 := hD.vc.sz; have d1 := hD.vc.one; have hn2 := fun W h => numberOf_any (lvls l) D d B W h hD; clear hD; clear hlv)
      | (refine v_decl rfl rfl 26 rfl (.tmp 5) (.tmp 10) rfl zV D z26 (fun _ => rfl) (fun _ => rfl) (by rw [d6]; rfl) (sz26 d6) d1 hc0 ?_; intro whc2 Nhc2 hc2 _; clear hc0)
      | (refine v_load rfl 26 (.tmp 5) rfl 0 rfl hc2 rfl _ Tryz.underlying26 rfl (sz26 d6) ?_)
      | (go_at_call 62; refine (hn2 _ (hB.trans (hc2.bel.mono hB.size))).mono ?_; rintro e wi ⟨rfl, hbi⟩; replace hc2 := hc2.call hbi)
      | (go_at_call 63; refine (or_any _ _ _).mono ?_; rintro e wi ⟨rfl, hbi⟩; replace hc2 := hc2.call hbi))
    go_ret
    exact ⟨rfl, hc2.bel⟩
  · rw [if_neg hd]
    rw [decide_eq_false hd] at hq
    clear hd
    go_enter Tryz.func75, Tryz.ntmps75
    go_wp2_with (first
      | (go_at_call 59; refine (hlv _ (hB.trans (hc0.bel.mono hB.size))).mono ?_; rintro e wf ⟨D, rfl, hD, hbf⟩; replace hc0 := hc0.call hbf; have d6 := hD.vc.sz; have d1 := hD.vc.one; have hn2 := fun W h => numberOf_any (lvls l) D d B W h hD; clear hD; clear hlv)
      | (refine v_decl rfl rfl 26 rfl (.tmp 5) (.tmp 10) rfl zV D z26 (fun _ => rfl) (fun _ => rfl) (by rw [d6]; rfl) (sz26 d6) d1 hc0 ?_; intro whc2 Nhc2 hc2 _; clear hc0)
      | (refine v_load rfl 26 (.tmp 5) rfl 0 rfl hc2 rfl _ Tryz.underlying26 rfl (sz26 d6) ?_)
      | (go_at_call 62; refine (hn2 _ (hB.trans (hc2.bel.mono hB.size))).mono ?_; rintro e wi ⟨rfl, hbi⟩; replace hc2 := hc2.call hbi)
      | (go_at_call 63; refine (or_any _ _ _).mono ?_; rintro e wi ⟨rfl, hbi⟩; replace hc2 := hc2.call hbi))
    go_ret
    exact ⟨rfl, hc2.bel⟩

set_option maxRecDepth 100000 in
set_option maxHeartbeats 4000000 in
theorem levelOfType_any (l : List EV) (v : Value) (e : EV) (C : Array Value) (B w : World) (hB : Below B.heap.size B w) (hl : EvsAt B v l) (he : EC B e C) :
    Calls Tryz.prog 43 #[v, .agg C] w fun r w' => r = .returned (.int .i64 (lvOf l e)) ∧ Below w.heap.size w w' := by
  have hc0 := Ctx.start w
  have hlv : ∀ W, Below B.heap.size B W → Calls Tryz.prog 59 #[v] W fun e w' => ∃ D, e = .returned (.tuple #[.agg D, .bool (hasL l)]) ∧ LaidV B (lvls l) D ∧ Below W.heap.size W w' := fun W h => levels_any l v B W h hl
  clear hl
  have x1 := he.i1
  have x4 := he.i4
  unfold lvOf
  generalize hasL l = h at hlv
  generalize e.hk = k at x4
  generalize e.ty = ty at x1
  clear he
  cases h
  · show Calls Tryz.prog 43 #[v, .agg C] w fun r w' => r = .returned (.int .i64 0) ∧ Below w.heap.size w w'
    go_enter Tryz.func43, Tryz.ntmps43
    go_wp2_with (first
      | (refine v_box rfl 28 (.tmp 1) rfl C rfl hc0 ?_; intro w1 N1 hc1 _; clear hc0)
      | (go_at_call 59; refine (hlv _ (hB.trans (hc1.bel.mono hB.size))).mono ?_; rintro e wf ⟨D, rfl, hD, hbf⟩; replace hc1 := hc1.call hbf; have d6 := hD.vc.sz; have d1 := hD.vc.one; have hfu := fun W h => field_any (lvls l) D sEvents B W h hD; clear hD; clear hlv)
      | (refine v_decl rfl rfl 26 rfl (.tmp 5) (.tmp 13) rfl zV D z26 (fun _ => rfl) (fun _ => rfl) (by rw [d6]; rfl) (sz26 d6) d1 hc1 ?_; intro whc2 Nhc2 hc2 _; clear hc1))
    go_ret
    exact ⟨rfl, hc2.bel⟩
  · rw [if_pos rfl]
    obtain ⟨p, hp⟩ : ∃ p, num (fldD (lvls l) sEvents) ty = p := ⟨_, rfl⟩
    rw [hp]
    obtain ⟨n, s⟩ := p
    cases s
    · cases k
      · show Calls Tryz.prog 43 #[v, .agg C] w fun r w' => r = .returned (.int .i64 (orN (num (lvls l) sED) 0)) ∧ Below w.heap.size w w'
        go_enter Tryz.func43, Tryz.ntmps43
        go_wp2_with (first
          | (refine v_box rfl 28 (.tmp 1) rfl C rfl hc0 ?_; intro w1 N1 hc1 _; clear hc0)
          | (go_at_call 59; refine (hlv _ (hB.trans (hc1.bel.mono hB.size))).mono ?_; rintro e wf ⟨D, rfl, hD, hbf⟩; replace hc1 := hc1.call hbf; have d6 := hD.vc.sz; have d1 := hD.vc.one; have hfu := fun W h => field_any (lvls l) D sEvents B W h hD; have hn2 := fun W h => numberOf_any (lvls l) D sED B W h hD; clear hD; clear hlv)
          | (refine v_decl rfl rfl 26 rfl (.tmp 5) (.tmp 13) rfl zV D z26 (fun _ => rfl) (fun _ => rfl) (by rw [d6]; rfl) (sz26 d6) d1 hc1 ?_; intro whc2 Nhc2 hc2 _; clear hc1)
          | (refine v_load rfl 26 (.tmp 5) rfl 0 rfl hc2 rfl _ Tryz.underlying26 rfl (sz26 d6) ?_)
          | (go_at_call 61; refine (hfu _ (hB.trans (hc2.bel.mono hB.size))).mono ?_; rintro e wg ⟨E, rfl, hE, hbg⟩; replace hc2 := hc2.call hbg; have e6 := hE.vc.sz; have e1 := hE.vc.one; have hn1 := fun W h => numberOf_any (fldD (lvls l) sEvents) E ty B W h hE; rw [hp] at hn1; clear hE hfu)
          | (refine v_decl rfl rfl 26 rfl (.tmp 7) (.tmp 20) rfl zV E z26 (fun _ => rfl) (fun _ => rfl) (by rw [e6]; rfl) (sz26 e6) e1 hc2 ?_; intro whc3 Nhc3 hc3 _; have c1 := hc3.cell 2 rfl 1 x1; clear hc2)
          | (refine v_load rfl 26 (.tmp 7) rfl 0 rfl hc3 rfl _ Tryz.underlying26 rfl (sz26 e6) ?_)
          | (go_at_call 62; refine (hn1 _ (hB.trans (hc3.bel.mono hB.size))).mono ?_; rintro e wi ⟨rfl, hbi⟩; replace hc3 := hc3.call hbi; clear hn1)
          | (refine v_decl rfl rfl 75 rfl (.tmp 9) (.tmp 25) rfl (nC (0, false)) (nC (n, false)) z63 (fun _ => rfl) (fun _ => rfl) rfl n63 (nC_one _) hc3 ?_; intro whc4 Nhc4 hc4 _; have c9 := hc4.cell 0 rfl 0 rfl; have c91 := hc4.cell 0 rfl 1 rfl; have c4 := hc4.cell 3 rfl 4 x4; clear hc3)
          | (refine v_load rfl 26 (.tmp 5) rfl 2 rfl hc4 rfl _ Tryz.underlying26 rfl (sz26 d6) ?_)
          | (go_at_call 62; refine (hn2 _ (hB.trans (hc4.bel.mono hB.size))).mono ?_; rintro e wi ⟨rfl, hbi⟩; replace hc4 := hc4.call hbi; clear hn2)
          | (go_at_call 63; refine (or_any _ _ _).mono ?_; rintro e wi ⟨rfl, hbi⟩; replace hc4 := hc4.call hbi))
        go_ret
        exact ⟨rfl, hc4.bel⟩
      · show Calls Tryz.prog 43 #[v, .agg C] w fun r w' => r = .returned (.int .i64 (orN (num (lvls l) sSD) 50)) ∧ Below w.heap.size w w'
        go_enter Tryz.func43, Tryz.ntmps43
        go_wp2_with (first
          | (refine v_box rfl 28 (.tmp 1) rfl C rfl hc0 ?_; intro w1 N1 hc1 _; clear hc0)
          | (go_at_call 59; refine (hlv _ (hB.trans (hc1.bel.mono hB.size))).mono ?_; rintro e wf ⟨D, rfl, hD, hbf⟩; replace hc1 := hc1.call hbf; have d6 := hD.vc.sz; have d1 := hD.vc.one; have hfu := fun W h => field_any (lvls l) D sEvents B W h hD; have hn2 := fun W h => numberOf_any (lvls l) D sSD B W h hD; clear hD; clear hlv)
          | (refine v_decl rfl rfl 26 rfl (.tmp 5) (.tmp 13) rfl zV D z26 (fun _ => rfl) (fun _ => rfl) (by rw [d6]; rfl) (sz26 d6) d1 hc1 ?_; intro whc2 Nhc2 hc2 _; clear hc1)
          | (refine v_load rfl 26 (.tmp 5) rfl 0 rfl hc2 rfl _ Tryz.underlying26 rfl (sz26 d6) ?_)
          | (go_at_call 61; refine (hfu _ (hB.trans (hc2.bel.mono hB.size))).mono ?_; rintro e wg ⟨E, rfl, hE, hbg⟩; replace hc2 := hc2.call hbg; have e6 := hE.vc.sz; have e1 := hE.vc.one; have hn1 := fun W h => numberOf_any (fldD (lvls l) sEvents) E ty B W h hE; rw [hp] at hn1; clear hE hfu)
          | (refine v_decl rfl rfl 26 rfl (.tmp 7) (.tmp 20) rfl zV E z26 (fun _ => rfl) (fun _ => rfl) (by rw [e6]; rfl) (sz26 e6) e1 hc2 ?_; intro whc3 Nhc3 hc3 _; have c1 := hc3.cell 2 rfl 1 x1; clear hc2)
          | (refine v_load rfl 26 (.tmp 7) rfl 0 rfl hc3 rfl _ Tryz.underlying26 rfl (sz26 e6) ?_)
          | (go_at_call 62; refine (hn1 _ (hB.trans (hc3.bel.mono hB.size))).mono ?_; rintro e wi ⟨rfl, hbi⟩; replace hc3 := hc3.call hbi; clear hn1)
          | (refine v_decl rfl rfl 75 rfl (.tmp 9) (.tmp 25) rfl (nC (0, false)) (nC (n, false)) z63 (fun _ => rfl) (fun _ => rfl) rfl n63 (nC_one _) hc3 ?_; intro whc4 Nhc4 hc4 _; have c9 := hc4.cell 0 rfl 0 rfl; have c91 := hc4.cell 0 rfl 1 rfl; have c4 := hc4.cell 3 rfl 4 x4; clear hc3)
          | (refine v_load rfl 26 (.tmp 5) rfl 2 rfl hc4 rfl _ Tryz.underlying26 rfl (sz26 d6) ?_)
          | (go_at_call 62; refine (hn2 _ (hB.trans (hc4.bel.mono hB.size))).mono ?_; rintro e wi ⟨rfl, hbi⟩; replace hc4 := hc4.call hbi; clear hn2)
          | (go_at_call 63; refine (or_any _ _ _).mono ?_; rintro e wi ⟨rfl, hbi⟩; replace hc4 := hc4.call hbi))
        go_ret
        exact ⟨rfl, hc4.bel⟩
    · show Calls Tryz.prog 43 #[v, .agg C] w fun r w' => r = .returned (.int .i64 n) ∧ Below w.heap.size w w'
      go_enter Tryz.func43, Tryz.ntmps43
      go_wp2_with (first
        | (refine v_box rfl 28 (.tmp 1) rfl C rfl hc0 ?_; intro w1 N1 hc1 _; clear hc0)
        | (go_at_call 59; refine (hlv _ (hB.trans (hc1.bel.mono hB.size))).mono ?_; rintro e wf ⟨D, rfl, hD, hbf⟩; replace hc1 := hc1.call hbf; have d6 := hD.vc.sz; have d1 := hD.vc.one; have hfu := fun W h => field_any (lvls l) D sEvents B W h hD; clear hD; clear hlv)
        | (refine v_decl rfl rfl 26 rfl (.tmp 5) (.tmp 13) rfl zV D z26 (fun _ => rfl) (fun _ => rfl) (by rw [d6]; rfl) (sz26 d6) d1 hc1 ?_; intro whc2 Nhc2 hc2 _; clear hc1)
        | (refine v_load rfl 26 (.tmp 5) rfl 0 rfl hc2 rfl _ Tryz.underlying26 rfl (sz26 d6) ?_)
        | (go_at_call 61; refine (hfu _ (hB.trans (hc2.bel.mono hB.size))).mono ?_; rintro e wg ⟨E, rfl, hE, hbg⟩; replace hc2 := hc2.call hbg; have e6 := hE.vc.sz; have e1 := hE.vc.one; have hn1 := fun W h => numberOf_any (fldD (lvls l) sEvents) E ty B W h hE; rw [hp] at hn1; clear hE hfu)
        | (refine v_decl rfl rfl 26 rfl (.tmp 7) (.tmp 20) rfl zV E z26 (fun _ => rfl) (fun _ => rfl) (by rw [e6]; rfl) (sz26 e6) e1 hc2 ?_; intro whc3 Nhc3 hc3 _; have c1 := hc3.cell 2 rfl 1 x1; clear hc2)
        | (refine v_load rfl 26 (.tmp 7) rfl 0 rfl hc3 rfl _ Tryz.underlying26 rfl (sz26 e6) ?_)
        | (go_at_call 62; refine (hn1 _ (hB.trans (hc3.bel.mono hB.size))).mono ?_; rintro e wi ⟨rfl, hbi⟩; replace hc3 := hc3.call hbi; clear hn1)
        | (refine v_decl rfl rfl 75 rfl (.tmp 9) (.tmp 25) rfl (nC (0, false)) (nC (n, true)) z63 (fun _ => rfl) (fun _ => rfl) rfl n63 (nC_one _) hc3 ?_; intro whc4 Nhc4 hc4 _; have c9 := hc4.cell 0 rfl 0 rfl; have c91 := hc4.cell 0 rfl 1 rfl; have c4 := hc4.cell 3 rfl 4 x4; clear hc3))
      go_ret
      exact ⟨rfl, hc4.bel⟩
end Go.Proofs.YthplcnbfpcndbaaGreatDoor

/- A join; an event of the type member: contracts, by walking their text. -/
import Derived.Test.YthplcnbfpcndbaaGreatDoorAg
import Derived.Test.YthplcnbfpcndbaaGreatDoorLc
namespace Go.Proofs.YthplcnbfpcndbaaGreatDoor
open Go.RowKit

theorem equal_one (pv : Value) (prev : List ByteArray) (id : ByteArray) (N : Nat) (W : World) (hp : TxAt W pv prev) (hps : prev.length ≤ 1048576) (hc : W.cell? ⟨N, 0, none⟩ = some (.string id)) :
    Calls Tryz.prog 72 #[pv, .slice (some ⟨N, 0, none⟩) 1 1] W fun e w' => e = .returned (.bool (decide (prev = [id]))) ∧ Below W.heap.size W w' := by
  obtain ⟨a, c, rfl, -, h⟩ := hp
  cases prev with
  | nil =>
    have h := AnyG.slices_Equal_string_empty eqS a (some ⟨N, 0, none⟩) c 1 1 W (by omega)
    change Calls Tryz.prog 72 _ _ _ at h
    refine h.mono ?_
    rintro e w' ⟨rfl, rfl⟩
    exact ⟨by simp, Below.refl _ _⟩
  | cons p r =>
    obtain ⟨b, off, rfl, -⟩ := h 0 (by simp)
    have h := AnyG.slices_Equal_string eqS b off (p :: r).length c N 0 1 1 (p :: r) [id] W (Nat.le_refl _) (by simp) (by omega) (by omega) (fun j hj => by
      obtain ⟨b', off', he, hcell⟩ := h j hj
      cases he
      rw [hcell]
      simp [List.getD, List.getElem?_eq_getElem hj]) (fun j hj => by
      have : j = 0 := by simpa using hj
      subst this
      exact hc)
    change Calls Tryz.prog 72 _ _ _ at h
    refine h.mono ?_
    rintro e w' ⟨rfl, q, rfl⟩
    exact ⟨by simp, below_drewN (Below.refl _ _) q⟩

set_option maxRecDepth 100000 in
set_option maxHeartbeats 8000000 in
theorem join_any (e : EV) (l : List EV) (C : Array Value) (v : Value) (B w : World) (hB : Below B.heap.size B w) (he : EC B e C) (hl : EvsAt B v l) :
    Calls Tryz.prog 37 #[.agg C, v] w fun r w' => r = .returned (.int .i64 (chkJ e l)) ∧ Below w.heap.size w w' := by
  have hc0 := Ctx.start w
  obtain ⟨pv, e6, hpv⟩ := he.i6
  have hps := he.ps
  have kf : ∀ W, Below B.heap.size B W → Calls Tryz.prog 71 #[v, .string tC, .string s0] W fun r w' => ∃ E, r = .returned (.tuple #[.agg E, .bool (std tC s0 l).isSome]) ∧ EC B (stdD l tC s0) E ∧ Below W.heap.size W w' := fun W h => find_any l v tC s0 B W h hl
  have m5 := fun W h => membership_any l v e.key B W h hl
  have ki := fun W h => isCreator_any l v e.key B W h hl
  have kj := fun W h => joinRule_any l v B W h hl
  have kl := fun W => lets_any (jrule l) (memb l e.key) W
  have keq := fun W N (h : Below B.heap.size B W) (hc : W.cell? ⟨N, 0, none⟩ = some (.string (stdD l tC s0).id)) => equal_one pv e.prev (stdD l tC s0).id N W (hpv.below h) hps hc
  have e3 := he.i3
  have e5 := he.i5
  clear he hl
  unfold chkJ chkJ2
  generalize lets (jrule l) (memb l e.key) = LT at *
  generalize memb l e.key = K at *
  generalize jrule l = J at *
  generalize isCr l e.key = Q at *
  generalize decide (e.prev = [(stdD l tC s0).id]) = Pd at *
  generalize (std tC s0 l).isSome = sm at *
  generalize e.key = ky at *
  generalize e.snd = sn at *
  have qKsBan := beq_const K sBan (l := [98, 97, 110]) rfl
  have qsnky := beq_bytes sn ky
  by_cases h0 : sn = ky
  · rw [if_pos h0]
    rw [decide_eq_true h0] at qsnky
    clear h0
    cases Pd
    · rw [if_neg Bool.false_ne_true]
      by_cases h2 : K = sBan
      · rw [if_pos h2]
        rw [decide_eq_true h2] at qKsBan
        clear h2
        go_enter Tryz.func37, Tryz.ntmps37
        go_wp2_with (first
          | (refine v_box rfl 28 (.tmp 0) rfl C rfl hc0 ?_; intro w1 N1 hc1 _; have c5 := hc1.cell 0 rfl 5 e5; clear hc0)
          | (go_at_call 71; refine (kf _ (hB.trans (hc1.bel.mono hB.size))).mono ?_; rintro r wf ⟨E, rfl, hE, hbf⟩; replace hc1 := hc1.call hbf; have e28 := hE.sz; have eo := hE.one; have x0 := hE.i0; clear hE kf hbf)
          | (refine v_decl rfl rfl 28 rfl (.tmp 5) (.tmp 11) rfl zE E z28 (fun _ => rfl) (fun _ => rfl) (by rw [e28]; rfl) (sz28 e28) eo hc1 ?_; intro wd Nd hc2 _; have c3 := hc2.cell 1 rfl 3 e3; replace c5 := hc2.cell 1 rfl 5 e5; have c6 := hc2.cell 1 rfl 6 e6; have d0 := hc2.cell 0 rfl 0 x0; clear hc1)
          | (go_at_call 42; refine (m5 _ (hB.trans (hc2.bel.mono hB.size))).mono ?_; rintro r wc ⟨rfl, hbc⟩; replace hc2 := hc2.call hbc; replace c3 := hc2.cell 1 rfl 3 e3; replace c5 := hc2.cell 1 rfl 5 e5; replace c6 := hc2.cell 1 rfl 6 e6; replace d0 := hc2.cell 0 rfl 0 x0; clear hbc m5)
          | (go_at_call 72; refine (keq _ _ (hB.trans ((hc2.bel.trans ((Below.refl _ _).alloc hc2.bel.size _)).mono hB.size)) (cell_alloc_new _ _ _ _ rfl)).mono ?_; rintro r wc ⟨rfl, hbc⟩; replace hc2 := (hc2.call ((Below.refl _ _).alloc (Nat.le_refl _) _)).call hbc; replace c3 := hc2.cell 1 rfl 3 e3; replace c5 := hc2.cell 1 rfl 5 e5; replace c6 := hc2.cell 1 rfl 6 e6; replace d0 := hc2.cell 0 rfl 0 x0; clear hbc keq)
          | (go_at_call 60; refine (ki _ (hB.trans (hc2.bel.mono hB.size))).mono ?_; rintro r wc ⟨rfl, hbc⟩; replace hc2 := hc2.call hbc; replace c3 := hc2.cell 1 rfl 3 e3; replace c5 := hc2.cell 1 rfl 5 e5; replace c6 := hc2.cell 1 rfl 6 e6; replace d0 := hc2.cell 0 rfl 0 x0; clear hbc ki)
          | (go_at_call 74; refine (kj _ (hB.trans (hc2.bel.mono hB.size))).mono ?_; rintro r wc ⟨rfl, hbc⟩; replace hc2 := hc2.call hbc; replace c3 := hc2.cell 1 rfl 3 e3; replace c5 := hc2.cell 1 rfl 5 e5; replace c6 := hc2.cell 1 rfl 6 e6; replace d0 := hc2.cell 0 rfl 0 x0; clear hbc kj)
          | (go_at_call 73; refine (kl _).mono ?_; rintro r wc ⟨rfl, hbc⟩; replace hc2 := hc2.call hbc; clear hbc kl))
        go_ret
        exact ⟨rfl, hc2.bel⟩
      · rw [if_neg h2]
        rw [decide_eq_false h2] at qKsBan
        clear h2
        cases LT
        · rw [if_neg Bool.false_ne_true]
          go_enter Tryz.func37, Tryz.ntmps37
          go_wp2_with (first
            | (refine v_box rfl 28 (.tmp 0) rfl C rfl hc0 ?_; intro w1 N1 hc1 _; have c5 := hc1.cell 0 rfl 5 e5; clear hc0)
            | (go_at_call 71; refine (kf _ (hB.trans (hc1.bel.mono hB.size))).mono ?_; rintro r wf ⟨E, rfl, hE, hbf⟩; replace hc1 := hc1.call hbf; have e28 := hE.sz; have eo := hE.one; have x0 := hE.i0; clear hE kf hbf)
            | (refine v_decl rfl rfl 28 rfl (.tmp 5) (.tmp 11) rfl zE E z28 (fun _ => rfl) (fun _ => rfl) (by rw [e28]; rfl) (sz28 e28) eo hc1 ?_; intro wd Nd hc2 _; have c3 := hc2.cell 1 rfl 3 e3; replace c5 := hc2.cell 1 rfl 5 e5; have c6 := hc2.cell 1 rfl 6 e6; have d0 := hc2.cell 0 rfl 0 x0; clear hc1)
            | (go_at_call 42; refine (m5 _ (hB.trans (hc2.bel.mono hB.size))).mono ?_; rintro r wc ⟨rfl, hbc⟩; replace hc2 := hc2.call hbc; replace c3 := hc2.cell 1 rfl 3 e3; replace c5 := hc2.cell 1 rfl 5 e5; replace c6 := hc2.cell 1 rfl 6 e6; replace d0 := hc2.cell 0 rfl 0 x0; clear hbc m5)
            | (go_at_call 72; refine (keq _ _ (hB.trans ((hc2.bel.trans ((Below.refl _ _).alloc hc2.bel.size _)).mono hB.size)) (cell_alloc_new _ _ _ _ rfl)).mono ?_; rintro r wc ⟨rfl, hbc⟩; replace hc2 := (hc2.call ((Below.refl _ _).alloc (Nat.le_refl _) _)).call hbc; replace c3 := hc2.cell 1 rfl 3 e3; replace c5 := hc2.cell 1 rfl 5 e5; replace c6 := hc2.cell 1 rfl 6 e6; replace d0 := hc2.cell 0 rfl 0 x0; clear hbc keq)
            | (go_at_call 60; refine (ki _ (hB.trans (hc2.bel.mono hB.size))).mono ?_; rintro r wc ⟨rfl, hbc⟩; replace hc2 := hc2.call hbc; replace c3 := hc2.cell 1 rfl 3 e3; replace c5 := hc2.cell 1 rfl 5 e5; replace c6 := hc2.cell 1 rfl 6 e6; replace d0 := hc2.cell 0 rfl 0 x0; clear hbc ki)
            | (go_at_call 74; refine (kj _ (hB.trans (hc2.bel.mono hB.size))).mono ?_; rintro r wc ⟨rfl, hbc⟩; replace hc2 := hc2.call hbc; replace c3 := hc2.cell 1 rfl 3 e3; replace c5 := hc2.cell 1 rfl 5 e5; replace c6 := hc2.cell 1 rfl 6 e6; replace d0 := hc2.cell 0 rfl 0 x0; clear hbc kj)
            | (go_at_call 73; refine (kl _).mono ?_; rintro r wc ⟨rfl, hbc⟩; replace hc2 := hc2.call hbc; clear hbc kl))
          go_ret
          exact ⟨rfl, hc2.bel⟩
        · rw [if_pos rfl]
          go_enter Tryz.func37, Tryz.ntmps37
          go_wp2_with (first
            | (refine v_box rfl 28 (.tmp 0) rfl C rfl hc0 ?_; intro w1 N1 hc1 _; have c5 := hc1.cell 0 rfl 5 e5; clear hc0)
            | (go_at_call 71; refine (kf _ (hB.trans (hc1.bel.mono hB.size))).mono ?_; rintro r wf ⟨E, rfl, hE, hbf⟩; replace hc1 := hc1.call hbf; have e28 := hE.sz; have eo := hE.one; have x0 := hE.i0; clear hE kf hbf)
            | (refine v_decl rfl rfl 28 rfl (.tmp 5) (.tmp 11) rfl zE E z28 (fun _ => rfl) (fun _ => rfl) (by rw [e28]; rfl) (sz28 e28) eo hc1 ?_; intro wd Nd hc2 _; have c3 := hc2.cell 1 rfl 3 e3; replace c5 := hc2.cell 1 rfl 5 e5; have c6 := hc2.cell 1 rfl 6 e6; have d0 := hc2.cell 0 rfl 0 x0; clear hc1)
            | (go_at_call 42; refine (m5 _ (hB.trans (hc2.bel.mono hB.size))).mono ?_; rintro r wc ⟨rfl, hbc⟩; replace hc2 := hc2.call hbc; replace c3 := hc2.cell 1 rfl 3 e3; replace c5 := hc2.cell 1 rfl 5 e5; replace c6 := hc2.cell 1 rfl 6 e6; replace d0 := hc2.cell 0 rfl 0 x0; clear hbc m5)
            | (go_at_call 72; refine (keq _ _ (hB.trans ((hc2.bel.trans ((Below.refl _ _).alloc hc2.bel.size _)).mono hB.size)) (cell_alloc_new _ _ _ _ rfl)).mono ?_; rintro r wc ⟨rfl, hbc⟩; replace hc2 := (hc2.call ((Below.refl _ _).alloc (Nat.le_refl _) _)).call hbc; replace c3 := hc2.cell 1 rfl 3 e3; replace c5 := hc2.cell 1 rfl 5 e5; replace c6 := hc2.cell 1 rfl 6 e6; replace d0 := hc2.cell 0 rfl 0 x0; clear hbc keq)
            | (go_at_call 60; refine (ki _ (hB.trans (hc2.bel.mono hB.size))).mono ?_; rintro r wc ⟨rfl, hbc⟩; replace hc2 := hc2.call hbc; replace c3 := hc2.cell 1 rfl 3 e3; replace c5 := hc2.cell 1 rfl 5 e5; replace c6 := hc2.cell 1 rfl 6 e6; replace d0 := hc2.cell 0 rfl 0 x0; clear hbc ki)
            | (go_at_call 74; refine (kj _ (hB.trans (hc2.bel.mono hB.size))).mono ?_; rintro r wc ⟨rfl, hbc⟩; replace hc2 := hc2.call hbc; replace c3 := hc2.cell 1 rfl 3 e3; replace c5 := hc2.cell 1 rfl 5 e5; replace c6 := hc2.cell 1 rfl 6 e6; replace d0 := hc2.cell 0 rfl 0 x0; clear hbc kj)
            | (go_at_call 73; refine (kl _).mono ?_; rintro r wc ⟨rfl, hbc⟩; replace hc2 := hc2.call hbc; clear hbc kl))
          go_ret
          exact ⟨rfl, hc2.bel⟩
    · rw [if_pos rfl]
      cases Q
      · rw [if_neg Bool.false_ne_true]
        by_cases h3 : K = sBan
        · rw [if_pos h3]
          rw [decide_eq_true h3] at qKsBan
          clear h3
          go_enter Tryz.func37, Tryz.ntmps37
          go_wp2_with (first
            | (refine v_box rfl 28 (.tmp 0) rfl C rfl hc0 ?_; intro w1 N1 hc1 _; have c5 := hc1.cell 0 rfl 5 e5; clear hc0)
            | (go_at_call 71; refine (kf _ (hB.trans (hc1.bel.mono hB.size))).mono ?_; rintro r wf ⟨E, rfl, hE, hbf⟩; replace hc1 := hc1.call hbf; have e28 := hE.sz; have eo := hE.one; have x0 := hE.i0; clear hE kf hbf)
            | (refine v_decl rfl rfl 28 rfl (.tmp 5) (.tmp 11) rfl zE E z28 (fun _ => rfl) (fun _ => rfl) (by rw [e28]; rfl) (sz28 e28) eo hc1 ?_; intro wd Nd hc2 _; have c3 := hc2.cell 1 rfl 3 e3; replace c5 := hc2.cell 1 rfl 5 e5; have c6 := hc2.cell 1 rfl 6 e6; have d0 := hc2.cell 0 rfl 0 x0; clear hc1)
            | (go_at_call 42; refine (m5 _ (hB.trans (hc2.bel.mono hB.size))).mono ?_; rintro r wc ⟨rfl, hbc⟩; replace hc2 := hc2.call hbc; replace c3 := hc2.cell 1 rfl 3 e3; replace c5 := hc2.cell 1 rfl 5 e5; replace c6 := hc2.cell 1 rfl 6 e6; replace d0 := hc2.cell 0 rfl 0 x0; clear hbc m5)
            | (go_at_call 72; refine (keq _ _ (hB.trans ((hc2.bel.trans ((Below.refl _ _).alloc hc2.bel.size _)).mono hB.size)) (cell_alloc_new _ _ _ _ rfl)).mono ?_; rintro r wc ⟨rfl, hbc⟩; replace hc2 := (hc2.call ((Below.refl _ _).alloc (Nat.le_refl _) _)).call hbc; replace c3 := hc2.cell 1 rfl 3 e3; replace c5 := hc2.cell 1 rfl 5 e5; replace c6 := hc2.cell 1 rfl 6 e6; replace d0 := hc2.cell 0 rfl 0 x0; clear hbc keq)
            | (go_at_call 60; refine (ki _ (hB.trans (hc2.bel.mono hB.size))).mono ?_; rintro r wc ⟨rfl, hbc⟩; replace hc2 := hc2.call hbc; replace c3 := hc2.cell 1 rfl 3 e3; replace c5 := hc2.cell 1 rfl 5 e5; replace c6 := hc2.cell 1 rfl 6 e6; replace d0 := hc2.cell 0 rfl 0 x0; clear hbc ki)
            | (go_at_call 74; refine (kj _ (hB.trans (hc2.bel.mono hB.size))).mono ?_; rintro r wc ⟨rfl, hbc⟩; replace hc2 := hc2.call hbc; replace c3 := hc2.cell 1 rfl 3 e3; replace c5 := hc2.cell 1 rfl 5 e5; replace c6 := hc2.cell 1 rfl 6 e6; replace d0 := hc2.cell 0 rfl 0 x0; clear hbc kj)
            | (go_at_call 73; refine (kl _).mono ?_; rintro r wc ⟨rfl, hbc⟩; replace hc2 := hc2.call hbc; clear hbc kl))
          go_ret
          exact ⟨rfl, hc2.bel⟩
        · rw [if_neg h3]
          rw [decide_eq_false h3] at qKsBan
          clear h3
          cases LT
          · rw [if_neg Bool.false_ne_true]
            go_enter Tryz.func37, Tryz.ntmps37
            go_wp2_with (first
              | (refine v_box rfl 28 (.tmp 0) rfl C rfl hc0 ?_; intro w1 N1 hc1 _; have c5 := hc1.cell 0 rfl 5 e5; clear hc0)
              | (go_at_call 71; refine (kf _ (hB.trans (hc1.bel.mono hB.size))).mono ?_; rintro r wf ⟨E, rfl, hE, hbf⟩; replace hc1 := hc1.call hbf; have e28 := hE.sz; have eo := hE.one; have x0 := hE.i0; clear hE kf hbf)
              | (refine v_decl rfl rfl 28 rfl (.tmp 5) (.tmp 11) rfl zE E z28 (fun _ => rfl) (fun _ => rfl) (by rw [e28]; rfl) (sz28 e28) eo hc1 ?_; intro wd Nd hc2 _; have c3 := hc2.cell 1 rfl 3 e3; replace c5 := hc2.cell 1 rfl 5 e5; have c6 := hc2.cell 1 rfl 6 e6; have d0 := hc2.cell 0 rfl 0 x0; clear hc1)
              | (go_at_call 42; refine (m5 _ (hB.trans (hc2.bel.mono hB.size))).mono ?_; rintro r wc ⟨rfl, hbc⟩; replace hc2 := hc2.call hbc; replace c3 := hc2.cell 1 rfl 3 e3; replace c5 := hc2.cell 1 rfl 5 e5; replace c6 := hc2.cell 1 rfl 6 e6; replace d0 := hc2.cell 0 rfl 0 x0; clear hbc m5)
              | (go_at_call 72; refine (keq _ _ (hB.trans ((hc2.bel.trans ((Below.refl _ _).alloc hc2.bel.size _)).mono hB.size)) (cell_alloc_new _ _ _ _ rfl)).mono ?_; rintro r wc ⟨rfl, hbc⟩; replace hc2 := (hc2.call ((Below.refl _ _).alloc (Nat.le_refl _) _)).call hbc; replace c3 := hc2.cell 1 rfl 3 e3; replace c5 := hc2.cell 1 rfl 5 e5; replace c6 := hc2.cell 1 rfl 6 e6; replace d0 := hc2.cell 0 rfl 0 x0; clear hbc keq)
              | (go_at_call 60; refine (ki _ (hB.trans (hc2.bel.mono hB.size))).mono ?_; rintro r wc ⟨rfl, hbc⟩; replace hc2 := hc2.call hbc; replace c3 := hc2.cell 1 rfl 3 e3; replace c5 := hc2.cell 1 rfl 5 e5; replace c6 := hc2.cell 1 rfl 6 e6; replace d0 := hc2.cell 0 rfl 0 x0; clear hbc ki)
              | (go_at_call 74; refine (kj _ (hB.trans (hc2.bel.mono hB.size))).mono ?_; rintro r wc ⟨rfl, hbc⟩; replace hc2 := hc2.call hbc; replace c3 := hc2.cell 1 rfl 3 e3; replace c5 := hc2.cell 1 rfl 5 e5; replace c6 := hc2.cell 1 rfl 6 e6; replace d0 := hc2.cell 0 rfl 0 x0; clear hbc kj)
              | (go_at_call 73; refine (kl _).mono ?_; rintro r wc ⟨rfl, hbc⟩; replace hc2 := hc2.call hbc; clear hbc kl))
            go_ret
            exact ⟨rfl, hc2.bel⟩
          · rw [if_pos rfl]
            go_enter Tryz.func37, Tryz.ntmps37
            go_wp2_with (first
              | (refine v_box rfl 28 (.tmp 0) rfl C rfl hc0 ?_; intro w1 N1 hc1 _; have c5 := hc1.cell 0 rfl 5 e5; clear hc0)
              | (go_at_call 71; refine (kf _ (hB.trans (hc1.bel.mono hB.size))).mono ?_; rintro r wf ⟨E, rfl, hE, hbf⟩; replace hc1 := hc1.call hbf; have e28 := hE.sz; have eo := hE.one; have x0 := hE.i0; clear hE kf hbf)
              | (refine v_decl rfl rfl 28 rfl (.tmp 5) (.tmp 11) rfl zE E z28 (fun _ => rfl) (fun _ => rfl) (by rw [e28]; rfl) (sz28 e28) eo hc1 ?_; intro wd Nd hc2 _; have c3 := hc2.cell 1 rfl 3 e3; replace c5 := hc2.cell 1 rfl 5 e5; have c6 := hc2.cell 1 rfl 6 e6; have d0 := hc2.cell 0 rfl 0 x0; clear hc1)
              | (go_at_call 42; refine (m5 _ (hB.trans (hc2.bel.mono hB.size))).mono ?_; rintro r wc ⟨rfl, hbc⟩; replace hc2 := hc2.call hbc; replace c3 := hc2.cell 1 rfl 3 e3; replace c5 := hc2.cell 1 rfl 5 e5; replace c6 := hc2.cell 1 rfl 6 e6; replace d0 := hc2.cell 0 rfl 0 x0; clear hbc m5)
              | (go_at_call 72; refine (keq _ _ (hB.trans ((hc2.bel.trans ((Below.refl _ _).alloc hc2.bel.size _)).mono hB.size)) (cell_alloc_new _ _ _ _ rfl)).mono ?_; rintro r wc ⟨rfl, hbc⟩; replace hc2 := (hc2.call ((Below.refl _ _).alloc (Nat.le_refl _) _)).call hbc; replace c3 := hc2.cell 1 rfl 3 e3; replace c5 := hc2.cell 1 rfl 5 e5; replace c6 := hc2.cell 1 rfl 6 e6; replace d0 := hc2.cell 0 rfl 0 x0; clear hbc keq)
              | (go_at_call 60; refine (ki _ (hB.trans (hc2.bel.mono hB.size))).mono ?_; rintro r wc ⟨rfl, hbc⟩; replace hc2 := hc2.call hbc; replace c3 := hc2.cell 1 rfl 3 e3; replace c5 := hc2.cell 1 rfl 5 e5; replace c6 := hc2.cell 1 rfl 6 e6; replace d0 := hc2.cell 0 rfl 0 x0; clear hbc ki)
              | (go_at_call 74; refine (kj _ (hB.trans (hc2.bel.mono hB.size))).mono ?_; rintro r wc ⟨rfl, hbc⟩; replace hc2 := hc2.call hbc; replace c3 := hc2.cell 1 rfl 3 e3; replace c5 := hc2.cell 1 rfl 5 e5; replace c6 := hc2.cell 1 rfl 6 e6; replace d0 := hc2.cell 0 rfl 0 x0; clear hbc kj)
              | (go_at_call 73; refine (kl _).mono ?_; rintro r wc ⟨rfl, hbc⟩; replace hc2 := hc2.call hbc; clear hbc kl))
            go_ret
            exact ⟨rfl, hc2.bel⟩
      · rw [if_pos rfl]
        go_enter Tryz.func37, Tryz.ntmps37
        go_wp2_with (first
          | (refine v_box rfl 28 (.tmp 0) rfl C rfl hc0 ?_; intro w1 N1 hc1 _; have c5 := hc1.cell 0 rfl 5 e5; clear hc0)
          | (go_at_call 71; refine (kf _ (hB.trans (hc1.bel.mono hB.size))).mono ?_; rintro r wf ⟨E, rfl, hE, hbf⟩; replace hc1 := hc1.call hbf; have e28 := hE.sz; have eo := hE.one; have x0 := hE.i0; clear hE kf hbf)
          | (refine v_decl rfl rfl 28 rfl (.tmp 5) (.tmp 11) rfl zE E z28 (fun _ => rfl) (fun _ => rfl) (by rw [e28]; rfl) (sz28 e28) eo hc1 ?_; intro wd Nd hc2 _; have c3 := hc2.cell 1 rfl 3 e3; replace c5 := hc2.cell 1 rfl 5 e5; have c6 := hc2.cell 1 rfl 6 e6; have d0 := hc2.cell 0 rfl 0 x0; clear hc1)
          | (go_at_call 42; refine (m5 _ (hB.trans (hc2.bel.mono hB.size))).mono ?_; rintro r wc ⟨rfl, hbc⟩; replace hc2 := hc2.call hbc; replace c3 := hc2.cell 1 rfl 3 e3; replace c5 := hc2.cell 1 rfl 5 e5; replace c6 := hc2.cell 1 rfl 6 e6; replace d0 := hc2.cell 0 rfl 0 x0; clear hbc m5)
          | (go_at_call 72; refine (keq _ _ (hB.trans ((hc2.bel.trans ((Below.refl _ _).alloc hc2.bel.size _)).mono hB.size)) (cell_alloc_new _ _ _ _ rfl)).mono ?_; rintro r wc ⟨rfl, hbc⟩; replace hc2 := (hc2.call ((Below.refl _ _).alloc (Nat.le_refl _) _)).call hbc; replace c3 := hc2.cell 1 rfl 3 e3; replace c5 := hc2.cell 1 rfl 5 e5; replace c6 := hc2.cell 1 rfl 6 e6; replace d0 := hc2.cell 0 rfl 0 x0; clear hbc keq)
          | (go_at_call 60; refine (ki _ (hB.trans (hc2.bel.mono hB.size))).mono ?_; rintro r wc ⟨rfl, hbc⟩; replace hc2 := hc2.call hbc; replace c3 := hc2.cell 1 rfl 3 e3; replace c5 := hc2.cell 1 rfl 5 e5; replace c6 := hc2.cell 1 rfl 6 e6; replace d0 := hc2.cell 0 rfl 0 x0; clear hbc ki)
          | (go_at_call 74; refine (kj _ (hB.trans (hc2.bel.mono hB.size))).mono ?_; rintro r wc ⟨rfl, hbc⟩; replace hc2 := hc2.call hbc; replace c3 := hc2.cell 1 rfl 3 e3; replace c5 := hc2.cell 1 rfl 5 e5; replace c6 := hc2.cell 1 rfl 6 e6; replace d0 := hc2.cell 0 rfl 0 x0; clear hbc kj)
          | (go_at_call 73; refine (kl _).mono ?_; rintro r wc ⟨rfl, hbc⟩; replace hc2 := hc2.call hbc; clear hbc kl))
        go_ret
        exact ⟨rfl, hc2.bel⟩
  · rw [if_neg h0]
    rw [decide_eq_false h0] at qsnky
    clear h0
    go_enter Tryz.func37, Tryz.ntmps37
    go_wp2_with (first
      | (refine v_box rfl 28 (.tmp 0) rfl C rfl hc0 ?_; intro w1 N1 hc1 _; have c5 := hc1.cell 0 rfl 5 e5; clear hc0)
      | (go_at_call 71; refine (kf _ (hB.trans (hc1.bel.mono hB.size))).mono ?_; rintro r wf ⟨E, rfl, hE, hbf⟩; replace hc1 := hc1.call hbf; have e28 := hE.sz; have eo := hE.one; have x0 := hE.i0; clear hE kf hbf)
      | (refine v_decl rfl rfl 28 rfl (.tmp 5) (.tmp 11) rfl zE E z28 (fun _ => rfl) (fun _ => rfl) (by rw [e28]; rfl) (sz28 e28) eo hc1 ?_; intro wd Nd hc2 _; have c3 := hc2.cell 1 rfl 3 e3; replace c5 := hc2.cell 1 rfl 5 e5; have c6 := hc2.cell 1 rfl 6 e6; have d0 := hc2.cell 0 rfl 0 x0; clear hc1)
      | (go_at_call 42; refine (m5 _ (hB.trans (hc2.bel.mono hB.size))).mono ?_; rintro r wc ⟨rfl, hbc⟩; replace hc2 := hc2.call hbc; replace c3 := hc2.cell 1 rfl 3 e3; replace c5 := hc2.cell 1 rfl 5 e5; replace c6 := hc2.cell 1 rfl 6 e6; replace d0 := hc2.cell 0 rfl 0 x0; clear hbc m5)
      | (go_at_call 72; refine (keq _ _ (hB.trans ((hc2.bel.trans ((Below.refl _ _).alloc hc2.bel.size _)).mono hB.size)) (cell_alloc_new _ _ _ _ rfl)).mono ?_; rintro r wc ⟨rfl, hbc⟩; replace hc2 := (hc2.call ((Below.refl _ _).alloc (Nat.le_refl _) _)).call hbc; replace c3 := hc2.cell 1 rfl 3 e3; replace c5 := hc2.cell 1 rfl 5 e5; replace c6 := hc2.cell 1 rfl 6 e6; replace d0 := hc2.cell 0 rfl 0 x0; clear hbc keq)
      | (go_at_call 60; refine (ki _ (hB.trans (hc2.bel.mono hB.size))).mono ?_; rintro r wc ⟨rfl, hbc⟩; replace hc2 := hc2.call hbc; replace c3 := hc2.cell 1 rfl 3 e3; replace c5 := hc2.cell 1 rfl 5 e5; replace c6 := hc2.cell 1 rfl 6 e6; replace d0 := hc2.cell 0 rfl 0 x0; clear hbc ki)
      | (go_at_call 74; refine (kj _ (hB.trans (hc2.bel.mono hB.size))).mono ?_; rintro r wc ⟨rfl, hbc⟩; replace hc2 := hc2.call hbc; replace c3 := hc2.cell 1 rfl 3 e3; replace c5 := hc2.cell 1 rfl 5 e5; replace c6 := hc2.cell 1 rfl 6 e6; replace d0 := hc2.cell 0 rfl 0 x0; clear hbc kj)
      | (go_at_call 73; refine (kl _).mono ?_; rintro r wc ⟨rfl, hbc⟩; replace hc2 := hc2.call hbc; clear hbc kl))
    go_ret
    exact ⟨rfl, hc2.bel⟩

set_option maxRecDepth 100000 in
set_option maxHeartbeats 8000000 in
theorem member_any (e : EV) (l : List EV) (C : Array Value) (v : Value) (B w : World) (hB : Below B.heap.size B w) (he : EC B e C) (hl : EvsAt B v l) :
    Calls Tryz.prog 14 #[.agg C, v] w fun r w' => r = .returned (.int .i64 (chkM e l)) ∧ Below w.heap.size w w' := by
  have hc0 := Ctx.start w
  have hE := he.sz
  obtain ⟨D, hD, hin⟩ := he.con
  have d6 := hD.vc.sz
  have s5 := he.s5
  have e4 := he.i4
  have ku : ∀ W, Calls Tryz.prog 31 #[.string e.key] W fun r w' => r = .returned (.bool (isU e.key)) ∧ Below W.heap.size W w' := fun W => user_any e.key W (by omega)
  have hwd := fun W h => word_any e.con D sMemb s0 B W h hD
  have fJ := fun W h => join_any e l C v B W h he hl
  have fI := fun W h => invite_any e l C v B W h he hl
  have fO := fun W h => ownLeave_any e l C v B W h he hl
  have fK := fun W h => kick_any e l C v B W h he hl
  have fB := fun W h => ban_any e l C v B W h he hl
  have e3 := he.i3
  have e5 := he.i5
  clear he hl hD
  unfold chkM
  generalize chkJ e l = rJ at *
  generalize chkI e l = rI at *
  generalize chkO e l = rO at *
  generalize chkK e l = rK at *
  generalize chkB e l = rB at *
  generalize wrd e.con sMemb s0 = V at *
  generalize isU e.key = U at *
  generalize e.hk = HK at *
  generalize e.key = ky at *
  generalize e.snd = sn at *
  have qVsJoin := beq_const V sJoin (l := [106, 111, 105, 110]) rfl
  have qVsInvite := beq_const V sInvite (l := [105, 110, 118, 105, 116, 101]) rfl
  have qVsLeave := beq_const V sLeave (l := [108, 101, 97, 118, 101]) rfl
  have qVsBan := beq_const V sBan (l := [98, 97, 110]) rfl
  have qsnky := beq_bytes sn ky
  cases HK
  · rw [if_neg Bool.false_ne_true]
    go_enter Tryz.func14, Tryz.ntmps14
    go_wp2_with (first
      | (refine v_box rfl 28 (.tmp 0) rfl C rfl hc0 ?_; intro w1 N1 hc1 _; have c3 := hc1.cell 0 rfl 3 e3; have c4 := hc1.cell 0 rfl 4 e4; have c5 := hc1.cell 0 rfl 5 e5; clear hc0)
      | (go_at_call 31; refine (ku _).mono ?_; rintro r wc ⟨rfl, hbc⟩; replace hc1 := hc1.call hbc; replace c3 := hc1.cell 0 rfl 3 e3; replace c5 := hc1.cell 0 rfl 5 e5; clear hbc ku)
      | (refine v_part rfl 26 (.tmp 14) rfl 0 D rfl hc1 rfl hin _ Tryz.underlying26 rfl (sz26 d6) ?_)
      | (go_at_call 28; refine (hwd _ (hB.trans (hc1.bel.mono hB.size))).mono ?_; rintro r wc ⟨rfl, hbc⟩; replace hc1 := hc1.call hbc; replace c3 := hc1.cell 0 rfl 3 e3; replace c5 := hc1.cell 0 rfl 5 e5; clear hbc hwd)
      | (refine v_load rfl 28 (.tmp 2) rfl 0 rfl hc1 rfl _ Tryz.underlying28 rfl (sz28 hE) ?_)
      | (go_at_call 37; refine (fJ _ (hB.trans (hc1.bel.mono hB.size))).mono ?_; rintro r wc ⟨rfl, hbc⟩; replace hc1 := hc1.call hbc; clear hbc fJ)
      | (go_at_call 38; refine (fI _ (hB.trans (hc1.bel.mono hB.size))).mono ?_; rintro r wc ⟨rfl, hbc⟩; replace hc1 := hc1.call hbc; clear hbc fI)
      | (go_at_call 39; refine (fO _ (hB.trans (hc1.bel.mono hB.size))).mono ?_; rintro r wc ⟨rfl, hbc⟩; replace hc1 := hc1.call hbc; clear hbc fO)
      | (go_at_call 40; refine (fK _ (hB.trans (hc1.bel.mono hB.size))).mono ?_; rintro r wc ⟨rfl, hbc⟩; replace hc1 := hc1.call hbc; clear hbc fK)
      | (go_at_call 41; refine (fB _ (hB.trans (hc1.bel.mono hB.size))).mono ?_; rintro r wc ⟨rfl, hbc⟩; replace hc1 := hc1.call hbc; clear hbc fB))
    go_ret
    exact ⟨rfl, hc1.bel⟩
  · rw [if_pos rfl]
    cases U
    · rw [if_neg Bool.false_ne_true]
      go_enter Tryz.func14, Tryz.ntmps14
      go_wp2_with (first
        | (refine v_box rfl 28 (.tmp 0) rfl C rfl hc0 ?_; intro w1 N1 hc1 _; have c3 := hc1.cell 0 rfl 3 e3; have c4 := hc1.cell 0 rfl 4 e4; have c5 := hc1.cell 0 rfl 5 e5; clear hc0)
        | (go_at_call 31; refine (ku _).mono ?_; rintro r wc ⟨rfl, hbc⟩; replace hc1 := hc1.call hbc; replace c3 := hc1.cell 0 rfl 3 e3; replace c5 := hc1.cell 0 rfl 5 e5; clear hbc ku)
        | (refine v_part rfl 26 (.tmp 14) rfl 0 D rfl hc1 rfl hin _ Tryz.underlying26 rfl (sz26 d6) ?_)
        | (go_at_call 28; refine (hwd _ (hB.trans (hc1.bel.mono hB.size))).mono ?_; rintro r wc ⟨rfl, hbc⟩; replace hc1 := hc1.call hbc; replace c3 := hc1.cell 0 rfl 3 e3; replace c5 := hc1.cell 0 rfl 5 e5; clear hbc hwd)
        | (refine v_load rfl 28 (.tmp 2) rfl 0 rfl hc1 rfl _ Tryz.underlying28 rfl (sz28 hE) ?_)
        | (go_at_call 37; refine (fJ _ (hB.trans (hc1.bel.mono hB.size))).mono ?_; rintro r wc ⟨rfl, hbc⟩; replace hc1 := hc1.call hbc; clear hbc fJ)
        | (go_at_call 38; refine (fI _ (hB.trans (hc1.bel.mono hB.size))).mono ?_; rintro r wc ⟨rfl, hbc⟩; replace hc1 := hc1.call hbc; clear hbc fI)
        | (go_at_call 39; refine (fO _ (hB.trans (hc1.bel.mono hB.size))).mono ?_; rintro r wc ⟨rfl, hbc⟩; replace hc1 := hc1.call hbc; clear hbc fO)
        | (go_at_call 40; refine (fK _ (hB.trans (hc1.bel.mono hB.size))).mono ?_; rintro r wc ⟨rfl, hbc⟩; replace hc1 := hc1.call hbc; clear hbc fK)
        | (go_at_call 41; refine (fB _ (hB.trans (hc1.bel.mono hB.size))).mono ?_; rintro r wc ⟨rfl, hbc⟩; replace hc1 := hc1.call hbc; clear hbc fB))
      go_ret
      exact ⟨rfl, hc1.bel⟩
    · rw [if_pos rfl]
      by_cases h2 : V = sJoin
      · rw [if_pos h2]
        rw [decide_eq_true h2] at qVsJoin
        clear h2
        go_enter Tryz.func14, Tryz.ntmps14
        go_wp2_with (first
          | (refine v_box rfl 28 (.tmp 0) rfl C rfl hc0 ?_; intro w1 N1 hc1 _; have c3 := hc1.cell 0 rfl 3 e3; have c4 := hc1.cell 0 rfl 4 e4; have c5 := hc1.cell 0 rfl 5 e5; clear hc0)
          | (go_at_call 31; refine (ku _).mono ?_; rintro r wc ⟨rfl, hbc⟩; replace hc1 := hc1.call hbc; replace c3 := hc1.cell 0 rfl 3 e3; replace c5 := hc1.cell 0 rfl 5 e5; clear hbc ku)
          | (refine v_part rfl 26 (.tmp 14) rfl 0 D rfl hc1 rfl hin _ Tryz.underlying26 rfl (sz26 d6) ?_)
          | (go_at_call 28; refine (hwd _ (hB.trans (hc1.bel.mono hB.size))).mono ?_; rintro r wc ⟨rfl, hbc⟩; replace hc1 := hc1.call hbc; replace c3 := hc1.cell 0 rfl 3 e3; replace c5 := hc1.cell 0 rfl 5 e5; clear hbc hwd)
          | (refine v_load rfl 28 (.tmp 2) rfl 0 rfl hc1 rfl _ Tryz.underlying28 rfl (sz28 hE) ?_)
          | (go_at_call 37; refine (fJ _ (hB.trans (hc1.bel.mono hB.size))).mono ?_; rintro r wc ⟨rfl, hbc⟩; replace hc1 := hc1.call hbc; clear hbc fJ)
          | (go_at_call 38; refine (fI _ (hB.trans (hc1.bel.mono hB.size))).mono ?_; rintro r wc ⟨rfl, hbc⟩; replace hc1 := hc1.call hbc; clear hbc fI)
          | (go_at_call 39; refine (fO _ (hB.trans (hc1.bel.mono hB.size))).mono ?_; rintro r wc ⟨rfl, hbc⟩; replace hc1 := hc1.call hbc; clear hbc fO)
          | (go_at_call 40; refine (fK _ (hB.trans (hc1.bel.mono hB.size))).mono ?_; rintro r wc ⟨rfl, hbc⟩; replace hc1 := hc1.call hbc; clear hbc fK)
          | (go_at_call 41; refine (fB _ (hB.trans (hc1.bel.mono hB.size))).mono ?_; rintro r wc ⟨rfl, hbc⟩; replace hc1 := hc1.call hbc; clear hbc fB))
        go_ret
        exact ⟨rfl, hc1.bel⟩
      · rw [if_neg h2]
        rw [decide_eq_false h2] at qVsJoin
        clear h2
        by_cases h3 : V = sInvite
        · rw [if_pos h3]
          rw [decide_eq_true h3] at qVsInvite
          clear h3
          go_enter Tryz.func14, Tryz.ntmps14
          go_wp2_with (first
            | (refine v_box rfl 28 (.tmp 0) rfl C rfl hc0 ?_; intro w1 N1 hc1 _; have c3 := hc1.cell 0 rfl 3 e3; have c4 := hc1.cell 0 rfl 4 e4; have c5 := hc1.cell 0 rfl 5 e5; clear hc0)
            | (go_at_call 31; refine (ku _).mono ?_; rintro r wc ⟨rfl, hbc⟩; replace hc1 := hc1.call hbc; replace c3 := hc1.cell 0 rfl 3 e3; replace c5 := hc1.cell 0 rfl 5 e5; clear hbc ku)
            | (refine v_part rfl 26 (.tmp 14) rfl 0 D rfl hc1 rfl hin _ Tryz.underlying26 rfl (sz26 d6) ?_)
            | (go_at_call 28; refine (hwd _ (hB.trans (hc1.bel.mono hB.size))).mono ?_; rintro r wc ⟨rfl, hbc⟩; replace hc1 := hc1.call hbc; replace c3 := hc1.cell 0 rfl 3 e3; replace c5 := hc1.cell 0 rfl 5 e5; clear hbc hwd)
            | (refine v_load rfl 28 (.tmp 2) rfl 0 rfl hc1 rfl _ Tryz.underlying28 rfl (sz28 hE) ?_)
            | (go_at_call 37; refine (fJ _ (hB.trans (hc1.bel.mono hB.size))).mono ?_; rintro r wc ⟨rfl, hbc⟩; replace hc1 := hc1.call hbc; clear hbc fJ)
            | (go_at_call 38; refine (fI _ (hB.trans (hc1.bel.mono hB.size))).mono ?_; rintro r wc ⟨rfl, hbc⟩; replace hc1 := hc1.call hbc; clear hbc fI)
            | (go_at_call 39; refine (fO _ (hB.trans (hc1.bel.mono hB.size))).mono ?_; rintro r wc ⟨rfl, hbc⟩; replace hc1 := hc1.call hbc; clear hbc fO)
            | (go_at_call 40; refine (fK _ (hB.trans (hc1.bel.mono hB.size))).mono ?_; rintro r wc ⟨rfl, hbc⟩; replace hc1 := hc1.call hbc; clear hbc fK)
            | (go_at_call 41; refine (fB _ (hB.trans (hc1.bel.mono hB.size))).mono ?_; rintro r wc ⟨rfl, hbc⟩; replace hc1 := hc1.call hbc; clear hbc fB))
          go_ret
          exact ⟨rfl, hc1.bel⟩
        · rw [if_neg h3]
          rw [decide_eq_false h3] at qVsInvite
          clear h3
          by_cases h4 : V = sLeave
          · rw [if_pos h4]
            rw [decide_eq_true h4] at qVsLeave
            clear h4
            by_cases h5 : sn = ky
            · rw [if_pos h5]
              rw [decide_eq_true h5] at qsnky
              clear h5
              go_enter Tryz.func14, Tryz.ntmps14
              go_wp2_with (first
                | (refine v_box rfl 28 (.tmp 0) rfl C rfl hc0 ?_; intro w1 N1 hc1 _; have c3 := hc1.cell 0 rfl 3 e3; have c4 := hc1.cell 0 rfl 4 e4; have c5 := hc1.cell 0 rfl 5 e5; clear hc0)
                | (go_at_call 31; refine (ku _).mono ?_; rintro r wc ⟨rfl, hbc⟩; replace hc1 := hc1.call hbc; replace c3 := hc1.cell 0 rfl 3 e3; replace c5 := hc1.cell 0 rfl 5 e5; clear hbc ku)
                | (refine v_part rfl 26 (.tmp 14) rfl 0 D rfl hc1 rfl hin _ Tryz.underlying26 rfl (sz26 d6) ?_)
                | (go_at_call 28; refine (hwd _ (hB.trans (hc1.bel.mono hB.size))).mono ?_; rintro r wc ⟨rfl, hbc⟩; replace hc1 := hc1.call hbc; replace c3 := hc1.cell 0 rfl 3 e3; replace c5 := hc1.cell 0 rfl 5 e5; clear hbc hwd)
                | (refine v_load rfl 28 (.tmp 2) rfl 0 rfl hc1 rfl _ Tryz.underlying28 rfl (sz28 hE) ?_)
                | (go_at_call 37; refine (fJ _ (hB.trans (hc1.bel.mono hB.size))).mono ?_; rintro r wc ⟨rfl, hbc⟩; replace hc1 := hc1.call hbc; clear hbc fJ)
                | (go_at_call 38; refine (fI _ (hB.trans (hc1.bel.mono hB.size))).mono ?_; rintro r wc ⟨rfl, hbc⟩; replace hc1 := hc1.call hbc; clear hbc fI)
                | (go_at_call 39; refine (fO _ (hB.trans (hc1.bel.mono hB.size))).mono ?_; rintro r wc ⟨rfl, hbc⟩; replace hc1 := hc1.call hbc; clear hbc fO)
                | (go_at_call 40; refine (fK _ (hB.trans (hc1.bel.mono hB.size))).mono ?_; rintro r wc ⟨rfl, hbc⟩; replace hc1 := hc1.call hbc; clear hbc fK)
                | (go_at_call 41; refine (fB _ (hB.trans (hc1.bel.mono hB.size))).mono ?_; rintro r wc ⟨rfl, hbc⟩; replace hc1 := hc1.call hbc; clear hbc fB))
              go_ret
              exact ⟨rfl, hc1.bel⟩
            · rw [if_neg h5]
              rw [decide_eq_false h5] at qsnky
              clear h5
              go_enter Tryz.func14, Tryz.ntmps14
              go_wp2_with (first
                | (refine v_box rfl 28 (.tmp 0) rfl C rfl hc0 ?_; intro w1 N1 hc1 _; have c3 := hc1.cell 0 rfl 3 e3; have c4 := hc1.cell 0 rfl 4 e4; have c5 := hc1.cell 0 rfl 5 e5; clear hc0)
                | (go_at_call 31; refine (ku _).mono ?_; rintro r wc ⟨rfl, hbc⟩; replace hc1 := hc1.call hbc; replace c3 := hc1.cell 0 rfl 3 e3; replace c5 := hc1.cell 0 rfl 5 e5; clear hbc ku)
                | (refine v_part rfl 26 (.tmp 14) rfl 0 D rfl hc1 rfl hin _ Tryz.underlying26 rfl (sz26 d6) ?_)
                | (go_at_call 28; refine (hwd _ (hB.trans (hc1.bel.mono hB.size))).mono ?_; rintro r wc ⟨rfl, hbc⟩; replace hc1 := hc1.call hbc; replace c3 := hc1.cell 0 rfl 3 e3; replace c5 := hc1.cell 0 rfl 5 e5; clear hbc hwd)
                | (refine v_load rfl 28 (.tmp 2) rfl 0 rfl hc1 rfl _ Tryz.underlying28 rfl (sz28 hE) ?_)
                | (go_at_call 37; refine (fJ _ (hB.trans (hc1.bel.mono hB.size))).mono ?_; rintro r wc ⟨rfl, hbc⟩; replace hc1 := hc1.call hbc; clear hbc fJ)
                | (go_at_call 38; refine (fI _ (hB.trans (hc1.bel.mono hB.size))).mono ?_; rintro r wc ⟨rfl, hbc⟩; replace hc1 := hc1.call hbc; clear hbc fI)
                | (go_at_call 39; refine (fO _ (hB.trans (hc1.bel.mono hB.size))).mono ?_; rintro r wc ⟨rfl, hbc⟩; replace hc1 := hc1.call hbc; clear hbc fO)
                | (go_at_call 40; refine (fK _ (hB.trans (hc1.bel.mono hB.size))).mono ?_; rintro r wc ⟨rfl, hbc⟩; replace hc1 := hc1.call hbc; clear hbc fK)
                | (go_at_call 41; refine (fB _ (hB.trans (hc1.bel.mono hB.size))).mono ?_; rintro r wc ⟨rfl, hbc⟩; replace hc1 := hc1.call hbc; clear hbc fB))
              go_ret
              exact ⟨rfl, hc1.bel⟩
          · rw [if_neg h4]
            rw [decide_eq_false h4] at qVsLeave
            clear h4
            by_cases h5 : V = sBan
            · rw [if_pos h5]
              rw [decide_eq_true h5] at qVsBan
              clear h5
              go_enter Tryz.func14, Tryz.ntmps14
              go_wp2_with (first
                | (refine v_box rfl 28 (.tmp 0) rfl C rfl hc0 ?_; intro w1 N1 hc1 _; have c3 := hc1.cell 0 rfl 3 e3; have c4 := hc1.cell 0 rfl 4 e4; have c5 := hc1.cell 0 rfl 5 e5; clear hc0)
                | (go_at_call 31; refine (ku _).mono ?_; rintro r wc ⟨rfl, hbc⟩; replace hc1 := hc1.call hbc; replace c3 := hc1.cell 0 rfl 3 e3; replace c5 := hc1.cell 0 rfl 5 e5; clear hbc ku)
                | (refine v_part rfl 26 (.tmp 14) rfl 0 D rfl hc1 rfl hin _ Tryz.underlying26 rfl (sz26 d6) ?_)
                | (go_at_call 28; refine (hwd _ (hB.trans (hc1.bel.mono hB.size))).mono ?_; rintro r wc ⟨rfl, hbc⟩; replace hc1 := hc1.call hbc; replace c3 := hc1.cell 0 rfl 3 e3; replace c5 := hc1.cell 0 rfl 5 e5; clear hbc hwd)
                | (refine v_load rfl 28 (.tmp 2) rfl 0 rfl hc1 rfl _ Tryz.underlying28 rfl (sz28 hE) ?_)
                | (go_at_call 37; refine (fJ _ (hB.trans (hc1.bel.mono hB.size))).mono ?_; rintro r wc ⟨rfl, hbc⟩; replace hc1 := hc1.call hbc; clear hbc fJ)
                | (go_at_call 38; refine (fI _ (hB.trans (hc1.bel.mono hB.size))).mono ?_; rintro r wc ⟨rfl, hbc⟩; replace hc1 := hc1.call hbc; clear hbc fI)
                | (go_at_call 39; refine (fO _ (hB.trans (hc1.bel.mono hB.size))).mono ?_; rintro r wc ⟨rfl, hbc⟩; replace hc1 := hc1.call hbc; clear hbc fO)
                | (go_at_call 40; refine (fK _ (hB.trans (hc1.bel.mono hB.size))).mono ?_; rintro r wc ⟨rfl, hbc⟩; replace hc1 := hc1.call hbc; clear hbc fK)
                | (go_at_call 41; refine (fB _ (hB.trans (hc1.bel.mono hB.size))).mono ?_; rintro r wc ⟨rfl, hbc⟩; replace hc1 := hc1.call hbc; clear hbc fB))
              go_ret
              exact ⟨rfl, hc1.bel⟩
            · rw [if_neg h5]
              rw [decide_eq_false h5] at qVsBan
              clear h5
              go_enter Tryz.func14, Tryz.ntmps14
              go_wp2_with (first
                | (refine v_box rfl 28 (.tmp 0) rfl C rfl hc0 ?_; intro w1 N1 hc1 _; have c3 := hc1.cell 0 rfl 3 e3; have c4 := hc1.cell 0 rfl 4 e4; have c5 := hc1.cell 0 rfl 5 e5; clear hc0)
                | (go_at_call 31; refine (ku _).mono ?_; rintro r wc ⟨rfl, hbc⟩; replace hc1 := hc1.call hbc; replace c3 := hc1.cell 0 rfl 3 e3; replace c5 := hc1.cell 0 rfl 5 e5; clear hbc ku)
                | (refine v_part rfl 26 (.tmp 14) rfl 0 D rfl hc1 rfl hin _ Tryz.underlying26 rfl (sz26 d6) ?_)
                | (go_at_call 28; refine (hwd _ (hB.trans (hc1.bel.mono hB.size))).mono ?_; rintro r wc ⟨rfl, hbc⟩; replace hc1 := hc1.call hbc; replace c3 := hc1.cell 0 rfl 3 e3; replace c5 := hc1.cell 0 rfl 5 e5; clear hbc hwd)
                | (refine v_load rfl 28 (.tmp 2) rfl 0 rfl hc1 rfl _ Tryz.underlying28 rfl (sz28 hE) ?_)
                | (go_at_call 37; refine (fJ _ (hB.trans (hc1.bel.mono hB.size))).mono ?_; rintro r wc ⟨rfl, hbc⟩; replace hc1 := hc1.call hbc; clear hbc fJ)
                | (go_at_call 38; refine (fI _ (hB.trans (hc1.bel.mono hB.size))).mono ?_; rintro r wc ⟨rfl, hbc⟩; replace hc1 := hc1.call hbc; clear hbc fI)
                | (go_at_call 39; refine (fO _ (hB.trans (hc1.bel.mono hB.size))).mono ?_; rintro r wc ⟨rfl, hbc⟩; replace hc1 := hc1.call hbc; clear hbc fO)
                | (go_at_call 40; refine (fK _ (hB.trans (hc1.bel.mono hB.size))).mono ?_; rintro r wc ⟨rfl, hbc⟩; replace hc1 := hc1.call hbc; clear hbc fK)
                | (go_at_call 41; refine (fB _ (hB.trans (hc1.bel.mono hB.size))).mono ?_; rintro r wc ⟨rfl, hbc⟩; replace hc1 := hc1.call hbc; clear hbc fB))
              go_ret
              exact ⟨rfl, hc1.bel⟩

end Go.Proofs.YthplcnbfpcndbaaGreatDoor

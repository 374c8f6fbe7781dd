/- Whether a list can authorise an event; an event of an ordinary type; Check: contracts, by walking their text. -/
import Derived.Test.YthplcnbfpcndbaaGreatDoorAl
namespace Go.Proofs.YthplcnbfpcndbaaGreatDoor
open Go.RowKit

theorem sel_pos {e : EV} (h : isF e tC s0 = false) : 0 < (sel e).length := by
  unfold sel
  rw [h, if_neg Bool.false_ne_true]
  simp

set_option maxRecDepth 100000 in
set_option maxHeartbeats 8000000 in
theorem list_any (e : EV) (l : List EV) (C : Array Value) (v : Value) (B w : World) (hB : Below B.heap.size B w) (he : EC B e C) (hl : EvsAt B v l) (hF : isF e tC s0 = false) :
    Calls Tryz.prog 13 #[.agg C, v] w fun r w' => r = .returned (.int .i64 (chkL e l)) ∧ Below w.heap.size w w' := by
  have hc0 := Ctx.start w
  have hE := he.sz
  have e2 := he.i2
  have kt := fun W h => hasTwo_any l v B W h hl
  have ks := fun W h => select_any e C B W h he
  have hpos := sel_pos hF
  have kg := fun W h sv (hs : EntsAt W sv (sel e)) => goes_any l v (sel e) sv B W h hl hs hpos
  have kl := fun W h => leaves_any l v e.room B W h hl
  have kh := fun W h => has_any l v tC B W h hl
  clear he hl hpos hF
  unfold chkL
  generalize two [] l = T2 at *
  generalize goes (sel e) l = G at *
  generalize sel e = S at *
  generalize leaves e.room l = LV at *
  generalize (std tC s0 l).isSome = H at *
  generalize e.room = rm at *
  cases T2
  · rw [if_neg Bool.false_ne_true]
    cases G
    · rw [if_neg Bool.false_ne_true]
      cases LV
      · rw [if_neg Bool.false_ne_true]
        cases H
        · rw [if_neg Bool.false_ne_true]
          go_enter Tryz.func13, Tryz.ntmps13
          go_wp2_with (first
            | (refine v_box rfl 28 (.tmp 0) rfl C rfl hc0 ?_; intro w1 N1 hc1 _; have c2 := hc1.cell 0 rfl 2 e2; clear hc0)
            | (go_at_call 33; refine (kt _ (hB.trans (hc1.bel.mono hB.size))).mono ?_; rintro r wc ⟨rfl, hbc⟩; replace hc1 := hc1.call hbc; replace c2 := hc1.cell 0 rfl 2 e2; clear hbc kt)
            | (refine v_load rfl 28 (.tmp 2) rfl 0 rfl hc1 rfl _ Tryz.underlying28 rfl (sz28 hE) ?_)
            | (go_at_call 10; refine (ks _ (hB.trans (hc1.bel.mono hB.size))).mono ?_; rintro r wc ⟨sv, rfl, hsv, hbc⟩; replace hc1 := hc1.call hbc; replace c2 := hc1.cell 0 rfl 2 e2; clear hbc ks)
            | (go_at_call 34; refine (kg _ (hB.trans (hc1.bel.mono hB.size)) _ hsv).mono ?_; rintro r wc ⟨rfl, hbc⟩; replace hc1 := hc1.call hbc; replace c2 := hc1.cell 0 rfl 2 e2; clear hbc kg hsv)
            | (go_at_call 35; refine (kl _ (hB.trans (hc1.bel.mono hB.size))).mono ?_; rintro r wc ⟨rfl, hbc⟩; replace hc1 := hc1.call hbc; replace c2 := hc1.cell 0 rfl 2 e2; clear hbc kl)
            | (go_at_call 36; refine (kh _ (hB.trans (hc1.bel.mono hB.size))).mono ?_; rintro r wc ⟨rfl, hbc⟩; replace hc1 := hc1.call hbc; clear hbc kh))
          go_ret
          exact ⟨rfl, hc1.bel⟩
        · rw [if_pos rfl]
          go_enter Tryz.func13, Tryz.ntmps13
          go_wp2_with (first
            | (refine v_box rfl 28 (.tmp 0) rfl C rfl hc0 ?_; intro w1 N1 hc1 _; have c2 := hc1.cell 0 rfl 2 e2; clear hc0)
            | (go_at_call 33; refine (kt _ (hB.trans (hc1.bel.mono hB.size))).mono ?_; rintro r wc ⟨rfl, hbc⟩; replace hc1 := hc1.call hbc; replace c2 := hc1.cell 0 rfl 2 e2; clear hbc kt)
            | (refine v_load rfl 28 (.tmp 2) rfl 0 rfl hc1 rfl _ Tryz.underlying28 rfl (sz28 hE) ?_)
            | (go_at_call 10; refine (ks _ (hB.trans (hc1.bel.mono hB.size))).mono ?_; rintro r wc ⟨sv, rfl, hsv, hbc⟩; replace hc1 := hc1.call hbc; replace c2 := hc1.cell 0 rfl 2 e2; clear hbc ks)
            | (go_at_call 34; refine (kg _ (hB.trans (hc1.bel.mono hB.size)) _ hsv).mono ?_; rintro r wc ⟨rfl, hbc⟩; replace hc1 := hc1.call hbc; replace c2 := hc1.cell 0 rfl 2 e2; clear hbc kg hsv)
            | (go_at_call 35; refine (kl _ (hB.trans (hc1.bel.mono hB.size))).mono ?_; rintro r wc ⟨rfl, hbc⟩; replace hc1 := hc1.call hbc; replace c2 := hc1.cell 0 rfl 2 e2; clear hbc kl)
            | (go_at_call 36; refine (kh _ (hB.trans (hc1.bel.mono hB.size))).mono ?_; rintro r wc ⟨rfl, hbc⟩; replace hc1 := hc1.call hbc; clear hbc kh))
          go_ret
          exact ⟨rfl, hc1.bel⟩
      · rw [if_pos rfl]
        go_enter Tryz.func13, Tryz.ntmps13
        go_wp2_with (first
          | (refine v_box rfl 28 (.tmp 0) rfl C rfl hc0 ?_; intro w1 N1 hc1 _; have c2 := hc1.cell 0 rfl 2 e2; clear hc0)
          | (go_at_call 33; refine (kt _ (hB.trans (hc1.bel.mono hB.size))).mono ?_; rintro r wc ⟨rfl, hbc⟩; replace hc1 := hc1.call hbc; replace c2 := hc1.cell 0 rfl 2 e2; clear hbc kt)
          | (refine v_load rfl 28 (.tmp 2) rfl 0 rfl hc1 rfl _ Tryz.underlying28 rfl (sz28 hE) ?_)
          | (go_at_call 10; refine (ks _ (hB.trans (hc1.bel.mono hB.size))).mono ?_; rintro r wc ⟨sv, rfl, hsv, hbc⟩; replace hc1 := hc1.call hbc; replace c2 := hc1.cell 0 rfl 2 e2; clear hbc ks)
          | (go_at_call 34; refine (kg _ (hB.trans (hc1.bel.mono hB.size)) _ hsv).mono ?_; rintro r wc ⟨rfl, hbc⟩; replace hc1 := hc1.call hbc; replace c2 := hc1.cell 0 rfl 2 e2; clear hbc kg hsv)
          | (go_at_call 35; refine (kl _ (hB.trans (hc1.bel.mono hB.size))).mono ?_; rintro r wc ⟨rfl, hbc⟩; replace hc1 := hc1.call hbc; replace c2 := hc1.cell 0 rfl 2 e2; clear hbc kl)
          | (go_at_call 36; refine (kh _ (hB.trans (hc1.bel.mono hB.size))).mono ?_; rintro r wc ⟨rfl, hbc⟩; replace hc1 := hc1.call hbc; clear hbc kh))
        go_ret
        exact ⟨rfl, hc1.bel⟩
    · rw [if_pos rfl]
      go_enter Tryz.func13, Tryz.ntmps13
      go_wp2_with (first
        | (refine v_box rfl 28 (.tmp 0) rfl C rfl hc0 ?_; intro w1 N1 hc1 _; have c2 := hc1.cell 0 rfl 2 e2; clear hc0)
        | (go_at_call 33; refine (kt _ (hB.trans (hc1.bel.mono hB.size))).mono ?_; rintro r wc ⟨rfl, hbc⟩; replace hc1 := hc1.call hbc; replace c2 := hc1.cell 0 rfl 2 e2; clear hbc kt)
        | (refine v_load rfl 28 (.tmp 2) rfl 0 rfl hc1 rfl _ Tryz.underlying28 rfl (sz28 hE) ?_)
        | (go_at_call 10; refine (ks _ (hB.trans (hc1.bel.mono hB.size))).mono ?_; rintro r wc ⟨sv, rfl, hsv, hbc⟩; replace hc1 := hc1.call hbc; replace c2 := hc1.cell 0 rfl 2 e2; clear hbc ks)
        | (go_at_call 34; refine (kg _ (hB.trans (hc1.bel.mono hB.size)) _ hsv).mono ?_; rintro r wc ⟨rfl, hbc⟩; replace hc1 := hc1.call hbc; replace c2 := hc1.cell 0 rfl 2 e2; clear hbc kg hsv)
        | (go_at_call 35; refine (kl _ (hB.trans (hc1.bel.mono hB.size))).mono ?_; rintro r wc ⟨rfl, hbc⟩; replace hc1 := hc1.call hbc; replace c2 := hc1.cell 0 rfl 2 e2; clear hbc kl)
        | (go_at_call 36; refine (kh _ (hB.trans (hc1.bel.mono hB.size))).mono ?_; rintro r wc ⟨rfl, hbc⟩; replace hc1 := hc1.call hbc; clear hbc kh))
      go_ret
      exact ⟨rfl, hc1.bel⟩
  · rw [if_pos rfl]
    go_enter Tryz.func13, Tryz.ntmps13
    go_wp2_with (first
      | (refine v_box rfl 28 (.tmp 0) rfl C rfl hc0 ?_; intro w1 N1 hc1 _; have c2 := hc1.cell 0 rfl 2 e2; clear hc0)
      | (go_at_call 33; refine (kt _ (hB.trans (hc1.bel.mono hB.size))).mono ?_; rintro r wc ⟨rfl, hbc⟩; replace hc1 := hc1.call hbc; replace c2 := hc1.cell 0 rfl 2 e2; clear hbc kt)
      | (refine v_load rfl 28 (.tmp 2) rfl 0 rfl hc1 rfl _ Tryz.underlying28 rfl (sz28 hE) ?_)
      | (go_at_call 10; refine (ks _ (hB.trans (hc1.bel.mono hB.size))).mono ?_; rintro r wc ⟨sv, rfl, hsv, hbc⟩; replace hc1 := hc1.call hbc; replace c2 := hc1.cell 0 rfl 2 e2; clear hbc ks)
      | (go_at_call 34; refine (kg _ (hB.trans (hc1.bel.mono hB.size)) _ hsv).mono ?_; rintro r wc ⟨rfl, hbc⟩; replace hc1 := hc1.call hbc; replace c2 := hc1.cell 0 rfl 2 e2; clear hbc kg hsv)
      | (go_at_call 35; refine (kl _ (hB.trans (hc1.bel.mono hB.size))).mono ?_; rintro r wc ⟨rfl, hbc⟩; replace hc1 := hc1.call hbc; replace c2 := hc1.cell 0 rfl 2 e2; clear hbc kl)
      | (go_at_call 36; refine (kh _ (hB.trans (hc1.bel.mono hB.size))).mono ?_; rintro r wc ⟨rfl, hbc⟩; replace hc1 := hc1.call hbc; clear hbc kh))
    go_ret
    exact ⟨rfl, hc1.bel⟩

set_option maxHeartbeats 4000000 in
theorem hasPrefix_any (s p : ByteArray) (w : World) (_hs : s.size ≤ 1048576) : Calls Tryz.prog 44 #[.string s, .string p] w fun r w' => r = .returned (.bool (Lib.hasPrefix s.data.toList p.data.toList)) ∧ w' = w := by
  have h := fun W => Any.stringslite_HasPrefix (P := Tryz.prog) (ρ := lays103_ren) { lays103 with } s p W
  change ∀ W, Calls Tryz.prog 76 _ _ _ at h
  go_enter Tryz.func44, Tryz.ntmps44
  go_wp2_with (go_at_call 76; refine (h _).mono ?_; rintro r w1 ⟨rfl, rfl⟩)
  go_ret
  exact ⟨rfl, rfl⟩

set_option maxRecDepth 100000 in
set_option maxHeartbeats 8000000 in
theorem other_any (V : EV → List EV → Int) (e : EV) (l : List EV) (C : Array Value) (v : Value) (B w : World) (hB : Below B.heap.size B w) (he : EC B e C) (hl : EvsAt B v l)
    (kx : isF e tL s0 = true → ∀ W, Below B.heap.size B W → Calls Tryz.prog 45 #[.agg C, v] W fun r w' => r = .returned (.int .i64 (V e l)) ∧ Below W.heap.size W w') :
    Calls Tryz.prog 15 #[.agg C, v] w fun r w' => r = .returned (.int .i64 (chkX V e l)) ∧ Below w.heap.size w w' := by
  have hc0 := Ctx.start w
  have hE := he.sz
  have e3 := he.i3
  have e4 := he.i4
  have e5 := he.i5
  have km := fun W h => membership_any l v e.snd B W h hl
  have kv := fun W h => level_any l v e.snd B W h hl
  have ko := fun W h => levelOfType_any l v e C B W h hl he
  have kp := fun W => hasPrefix_any e.key ⟨#[64]⟩ W he.s5
  have kf := fun W => isFor_any e C tL s0 B W he
  have qA := beq_const (memb l e.snd) sJoin (l := [106, 111, 105, 110]) rfl
  have qK := beq_bytes e.key e.snd
  change ∀ W, Calls Tryz.prog 44 #[.string e.key, .string ⟨#[64]⟩] W fun r w' => r = .returned (.bool (Lib.hasPrefix e.key.data.toList [64])) ∧ w' = W at kp
  clear he hl
  unfold chkX
  generalize isF e tL s0 = FL at *
  generalize Lib.hasPrefix e.key.data.toList [64] = P at *
  generalize V e l = X at *
  generalize lvOf l e = F at *
  generalize level l e.snd = L at *
  generalize memb l e.snd = A at *
  generalize decide (e.key = e.snd) = K at *
  generalize e.hk = hk at *
  generalize e.key = ky at *
  generalize e.snd = sn at *
  by_cases hA : A = sJoin
  · rw [if_pos hA]
    rw [decide_eq_true hA] at qA
    clear hA
    by_cases hL : L < F
    · rw [if_pos hL]
      go_enter Tryz.func15, Tryz.ntmps15
      go_wp2_with (first
        | (refine v_box rfl 28 (.tmp 0) rfl C rfl hc0 ?_; intro w1 N1 hc1 _; have c3 := hc1.cell 0 rfl 3 e3; clear hc0)
        | (go_at_call 42; refine (km _ (hB.trans (hc1.bel.mono hB.size))).mono ?_; rintro r wz ⟨rfl, hbc⟩; replace hc1 := hc1.call hbc; clear hbc km c3))
      have Q3 := hc1.clc 0 rfl 3 e3
      have HQ2 := (show Hid _ from hc1.clr 0 rfl)
      have HT := (show Hid _ from hc1.to hB)
      have hne := Cl.ne wz.heap.size wz
      refine region_cl (N := wz.heap.size) (W := wz) (by kernel_rfl) (by kernel_rfl) (Below.refl _ _) ?_
      go_big_quiet_step (fail)
      go_big_quiet_step (fail)
      go_big_quiet_step (fail)
      go_big_quiet_step ((go_at_call 27; exact cl_of (kv _ (HT.out _)) (Nat.le_refl _)))
      go_big_quiet_step (fail)
      go_big_quiet_want
      refine quiet_load 28 _ rfl N1 0 rfl C.toList _ HQ2.out Tryz.underlying28 rfl (by simpa using sz28 hE) ?_
      simp only [Act.put, List.setIfInBounds_toArray, List.set_cons_zero, List.set_cons_succ, Array.toArray_toList]
      go_big_quiet_on
      go_big_quiet_step ((go_at_call 43; exact cl_of (ko _ (HT.out _)) (Nat.le_refl _)))
      repeat (go_big_quiet_step (fail))
      refine wpQuiet_nil ?_
      rintro _ ⟨x, rfl⟩
      have hx := x.h
      replace hc1 := hc1.call hx
      clear Q3 HQ2 HT
      have c3 := hc1.cell 0 rfl 3 e3
      have c4 := hc1.cell 0 rfl 4 e4
      have c5 := hc1.cell 0 rfl 5 e5
      go_wp2
      go_ret
      exact ⟨rfl, hc1.bel⟩
    · rw [if_neg hL]
      cases hk
      · show Calls Tryz.prog 15 #[.agg C, v] w fun r w' => r = .returned (.int .i64 (if FL = true then X else 0)) ∧ Below w.heap.size w w'
        cases FL
        · rw [if_neg Bool.false_ne_true]
          go_enter Tryz.func15, Tryz.ntmps15
          go_wp2_with (first
            | (refine v_box rfl 28 (.tmp 0) rfl C rfl hc0 ?_; intro w1 N1 hc1 _; have c3 := hc1.cell 0 rfl 3 e3; clear hc0)
            | (go_at_call 42; refine (km _ (hB.trans (hc1.bel.mono hB.size))).mono ?_; rintro r wz ⟨rfl, hbc⟩; replace hc1 := hc1.call hbc; clear hbc km c3))
          have Q3 := hc1.clc 0 rfl 3 e3
          have HQ2 := (show Hid _ from hc1.clr 0 rfl)
          have HT := (show Hid _ from hc1.to hB)
          have hne := Cl.ne wz.heap.size wz
          refine region_cl (N := wz.heap.size) (W := wz) (by kernel_rfl) (by kernel_rfl) (Below.refl _ _) ?_
          go_big_quiet_step (fail)
          go_big_quiet_step (fail)
          go_big_quiet_step (fail)
          go_big_quiet_step ((go_at_call 27; exact cl_of (kv _ (HT.out _)) (Nat.le_refl _)))
          go_big_quiet_step (fail)
          go_big_quiet_want
          refine quiet_load 28 _ rfl N1 0 rfl C.toList _ HQ2.out Tryz.underlying28 rfl (by simpa using sz28 hE) ?_
          simp only [Act.put, List.setIfInBounds_toArray, List.set_cons_zero, List.set_cons_succ, Array.toArray_toList]
          go_big_quiet_on
          go_big_quiet_step ((go_at_call 43; exact cl_of (ko _ (HT.out _)) (Nat.le_refl _)))
          repeat (go_big_quiet_step (fail))
          refine wpQuiet_nil ?_
          rintro _ ⟨x, rfl⟩
          have hx := x.h
          replace hc1 := hc1.call hx
          clear Q3 HQ2 HT
          have c3 := hc1.cell 0 rfl 3 e3
          have c4 := hc1.cell 0 rfl 4 e4
          have c5 := hc1.cell 0 rfl 5 e5
          go_wp2_with (first
            | (go_at_call 44; refine (kp _).mono ?_; rintro r wc ⟨rfl, rfl⟩)
            | (refine v_load rfl 28 (.tmp 2) rfl 0 rfl hc1 rfl _ Tryz.underlying28 rfl (sz28 hE) ?_)
            | (go_at_call 11; refine (kf _).mono ?_; rintro r wc ⟨rfl, hbc⟩; replace hc1 := hc1.call hbc; clear hbc kf)
            | (go_at_call 45; refine (kx (by first | rfl | trivial) _ (hB.trans (hc1.bel.mono hB.size))).mono ?_; rintro r wc ⟨rfl, hbc⟩; replace hc1 := hc1.call hbc; clear hbc))
          go_ret
          exact ⟨rfl, hc1.bel⟩
        · rw [if_pos rfl]
          go_enter Tryz.func15, Tryz.ntmps15
          go_wp2_with (first
            | (refine v_box rfl 28 (.tmp 0) rfl C rfl hc0 ?_; intro w1 N1 hc1 _; have c3 := hc1.cell 0 rfl 3 e3; clear hc0)
            | (go_at_call 42; refine (km _ (hB.trans (hc1.bel.mono hB.size))).mono ?_; rintro r wz ⟨rfl, hbc⟩; replace hc1 := hc1.call hbc; clear hbc km c3))
          have Q3 := hc1.clc 0 rfl 3 e3
          have HQ2 := (show Hid _ from hc1.clr 0 rfl)
          have HT := (show Hid _ from hc1.to hB)
          have hne := Cl.ne wz.heap.size wz
          refine region_cl (N := wz.heap.size) (W := wz) (by kernel_rfl) (by kernel_rfl) (Below.refl _ _) ?_
          go_big_quiet_step (fail)
          go_big_quiet_step (fail)
          go_big_quiet_step (fail)
          go_big_quiet_step ((go_at_call 27; exact cl_of (kv _ (HT.out _)) (Nat.le_refl _)))
          go_big_quiet_step (fail)
          go_big_quiet_want
          refine quiet_load 28 _ rfl N1 0 rfl C.toList _ HQ2.out Tryz.underlying28 rfl (by simpa using sz28 hE) ?_
          simp only [Act.put, List.setIfInBounds_toArray, List.set_cons_zero, List.set_cons_succ, Array.toArray_toList]
          go_big_quiet_on
          go_big_quiet_step ((go_at_call 43; exact cl_of (ko _ (HT.out _)) (Nat.le_refl _)))
          repeat (go_big_quiet_step (fail))
          refine wpQuiet_nil ?_
          rintro _ ⟨x, rfl⟩
          have hx := x.h
          replace hc1 := hc1.call hx
          clear Q3 HQ2 HT
          have c3 := hc1.cell 0 rfl 3 e3
          have c4 := hc1.cell 0 rfl 4 e4
          have c5 := hc1.cell 0 rfl 5 e5
          go_wp2_with (first
            | (go_at_call 44; refine (kp _).mono ?_; rintro r wc ⟨rfl, rfl⟩)
            | (refine v_load rfl 28 (.tmp 2) rfl 0 rfl hc1 rfl _ Tryz.underlying28 rfl (sz28 hE) ?_)
            | (go_at_call 11; refine (kf _).mono ?_; rintro r wc ⟨rfl, hbc⟩; replace hc1 := hc1.call hbc; clear hbc kf)
            | (go_at_call 45; refine (kx (by first | rfl | trivial) _ (hB.trans (hc1.bel.mono hB.size))).mono ?_; rintro r wc ⟨rfl, hbc⟩; replace hc1 := hc1.call hbc; clear hbc))
          go_ret
          exact ⟨rfl, hc1.bel⟩
      · cases P
        · show Calls Tryz.prog 15 #[.agg C, v] w fun r w' => r = .returned (.int .i64 (if FL = true then X else 0)) ∧ Below w.heap.size w w'
          cases FL
          · rw [if_neg Bool.false_ne_true]
            go_enter Tryz.func15, Tryz.ntmps15
            go_wp2_with (first
              | (refine v_box rfl 28 (.tmp 0) rfl C rfl hc0 ?_; intro w1 N1 hc1 _; have c3 := hc1.cell 0 rfl 3 e3; clear hc0)
              | (go_at_call 42; refine (km _ (hB.trans (hc1.bel.mono hB.size))).mono ?_; rintro r wz ⟨rfl, hbc⟩; replace hc1 := hc1.call hbc; clear hbc km c3))
            have Q3 := hc1.clc 0 rfl 3 e3
            have HQ2 := (show Hid _ from hc1.clr 0 rfl)
            have HT := (show Hid _ from hc1.to hB)
            have hne := Cl.ne wz.heap.size wz
            refine region_cl (N := wz.heap.size) (W := wz) (by kernel_rfl) (by kernel_rfl) (Below.refl _ _) ?_
            go_big_quiet_step (fail)
            go_big_quiet_step (fail)
            go_big_quiet_step (fail)
            go_big_quiet_step ((go_at_call 27; exact cl_of (kv _ (HT.out _)) (Nat.le_refl _)))
            go_big_quiet_step (fail)
            go_big_quiet_want
            refine quiet_load 28 _ rfl N1 0 rfl C.toList _ HQ2.out Tryz.underlying28 rfl (by simpa using sz28 hE) ?_
            simp only [Act.put, List.setIfInBounds_toArray, List.set_cons_zero, List.set_cons_succ, Array.toArray_toList]
            go_big_quiet_on
            go_big_quiet_step ((go_at_call 43; exact cl_of (ko _ (HT.out _)) (Nat.le_refl _)))
            repeat (go_big_quiet_step (fail))
            refine wpQuiet_nil ?_
            rintro _ ⟨x, rfl⟩
            have hx := x.h
            replace hc1 := hc1.call hx
            clear Q3 HQ2 HT
            have c3 := hc1.cell 0 rfl 3 e3
            have c4 := hc1.cell 0 rfl 4 e4
            have c5 := hc1.cell 0 rfl 5 e5
            go_wp2_with (first
              | (go_at_call 44; refine (kp _).mono ?_; rintro r wc ⟨rfl, rfl⟩)
              | (refine v_load rfl 28 (.tmp 2) rfl 0 rfl hc1 rfl _ Tryz.underlying28 rfl (sz28 hE) ?_)
              | (go_at_call 11; refine (kf _).mono ?_; rintro r wc ⟨rfl, hbc⟩; replace hc1 := hc1.call hbc; clear hbc kf)
              | (go_at_call 45; refine (kx (by first | rfl | trivial) _ (hB.trans (hc1.bel.mono hB.size))).mono ?_; rintro r wc ⟨rfl, hbc⟩; replace hc1 := hc1.call hbc; clear hbc))
            go_ret
            exact ⟨rfl, hc1.bel⟩
          · rw [if_pos rfl]
            go_enter Tryz.func15, Tryz.ntmps15
            go_wp2_with (first
              | (refine v_box rfl 28 (.tmp 0) rfl C rfl hc0 ?_; intro w1 N1 hc1 _; have c3 := hc1.cell 0 rfl 3 e3; clear hc0)
              | (go_at_call 42; refine (km _ (hB.trans (hc1.bel.mono hB.size))).mono ?_; rintro r wz ⟨rfl, hbc⟩; replace hc1 := hc1.call hbc; clear hbc km c3))
            have Q3 := hc1.clc 0 rfl 3 e3
            have HQ2 := (show Hid _ from hc1.clr 0 rfl)
            have HT := (show Hid _ from hc1.to hB)
            have hne := Cl.ne wz.heap.size wz
            refine region_cl (N := wz.heap.size) (W := wz) (by kernel_rfl) (by kernel_rfl) (Below.refl _ _) ?_
            go_big_quiet_step (fail)
            go_big_quiet_step (fail)
            go_big_quiet_step (fail)
            go_big_quiet_step ((go_at_call 27; exact cl_of (kv _ (HT.out _)) (Nat.le_refl _)))
            go_big_quiet_step (fail)
            go_big_quiet_want
            refine quiet_load 28 _ rfl N1 0 rfl C.toList _ HQ2.out Tryz.underlying28 rfl (by simpa using sz28 hE) ?_
            simp only [Act.put, List.setIfInBounds_toArray, List.set_cons_zero, List.set_cons_succ, Array.toArray_toList]
            go_big_quiet_on
            go_big_quiet_step ((go_at_call 43; exact cl_of (ko _ (HT.out _)) (Nat.le_refl _)))
            repeat (go_big_quiet_step (fail))
            refine wpQuiet_nil ?_
            rintro _ ⟨x, rfl⟩
            have hx := x.h
            replace hc1 := hc1.call hx
            clear Q3 HQ2 HT
            have c3 := hc1.cell 0 rfl 3 e3
            have c4 := hc1.cell 0 rfl 4 e4
            have c5 := hc1.cell 0 rfl 5 e5
            go_wp2_with (first
              | (go_at_call 44; refine (kp _).mono ?_; rintro r wc ⟨rfl, rfl⟩)
              | (refine v_load rfl 28 (.tmp 2) rfl 0 rfl hc1 rfl _ Tryz.underlying28 rfl (sz28 hE) ?_)
              | (go_at_call 11; refine (kf _).mono ?_; rintro r wc ⟨rfl, hbc⟩; replace hc1 := hc1.call hbc; clear hbc kf)
              | (go_at_call 45; refine (kx (by first | rfl | trivial) _ (hB.trans (hc1.bel.mono hB.size))).mono ?_; rintro r wc ⟨rfl, hbc⟩; replace hc1 := hc1.call hbc; clear hbc))
            go_ret
            exact ⟨rfl, hc1.bel⟩
        · cases K
          · show Calls Tryz.prog 15 #[.agg C, v] w fun r w' => r = .returned (.int .i64 42) ∧ Below w.heap.size w w'
            go_enter Tryz.func15, Tryz.ntmps15
            go_wp2_with (first
              | (refine v_box rfl 28 (.tmp 0) rfl C rfl hc0 ?_; intro w1 N1 hc1 _; have c3 := hc1.cell 0 rfl 3 e3; clear hc0)
              | (go_at_call 42; refine (km _ (hB.trans (hc1.bel.mono hB.size))).mono ?_; rintro r wz ⟨rfl, hbc⟩; replace hc1 := hc1.call hbc; clear hbc km c3))
            have Q3 := hc1.clc 0 rfl 3 e3
            have HQ2 := (show Hid _ from hc1.clr 0 rfl)
            have HT := (show Hid _ from hc1.to hB)
            have hne := Cl.ne wz.heap.size wz
            refine region_cl (N := wz.heap.size) (W := wz) (by kernel_rfl) (by kernel_rfl) (Below.refl _ _) ?_
            go_big_quiet_step (fail)
            go_big_quiet_step (fail)
            go_big_quiet_step (fail)
            go_big_quiet_step ((go_at_call 27; exact cl_of (kv _ (HT.out _)) (Nat.le_refl _)))
            go_big_quiet_step (fail)
            go_big_quiet_want
            refine quiet_load 28 _ rfl N1 0 rfl C.toList _ HQ2.out Tryz.underlying28 rfl (by simpa using sz28 hE) ?_
            simp only [Act.put, List.setIfInBounds_toArray, List.set_cons_zero, List.set_cons_succ, Array.toArray_toList]
            go_big_quiet_on
            go_big_quiet_step ((go_at_call 43; exact cl_of (ko _ (HT.out _)) (Nat.le_refl _)))
            repeat (go_big_quiet_step (fail))
            refine wpQuiet_nil ?_
            rintro _ ⟨x, rfl⟩
            have hx := x.h
            replace hc1 := hc1.call hx
            clear Q3 HQ2 HT
            have c3 := hc1.cell 0 rfl 3 e3
            have c4 := hc1.cell 0 rfl 4 e4
            have c5 := hc1.cell 0 rfl 5 e5
            go_wp2_with (first
              | (go_at_call 44; refine (kp _).mono ?_; rintro r wc ⟨rfl, rfl⟩)
              | (refine v_load rfl 28 (.tmp 2) rfl 0 rfl hc1 rfl _ Tryz.underlying28 rfl (sz28 hE) ?_)
              | (go_at_call 11; refine (kf _).mono ?_; rintro r wc ⟨rfl, hbc⟩; replace hc1 := hc1.call hbc; clear hbc kf)
              | (go_at_call 45; refine (kx (by first | rfl | trivial) _ (hB.trans (hc1.bel.mono hB.size))).mono ?_; rintro r wc ⟨rfl, hbc⟩; replace hc1 := hc1.call hbc; clear hbc))
            go_ret
            exact ⟨rfl, hc1.bel⟩
          · show Calls Tryz.prog 15 #[.agg C, v] w fun r w' => r = .returned (.int .i64 (if FL = true then X else 0)) ∧ Below w.heap.size w w'
            cases FL
            · rw [if_neg Bool.false_ne_true]
              go_enter Tryz.func15, Tryz.ntmps15
              go_wp2_with (first
                | (refine v_box rfl 28 (.tmp 0) rfl C rfl hc0 ?_; intro w1 N1 hc1 _; have c3 := hc1.cell 0 rfl 3 e3; clear hc0)
                | (go_at_call 42; refine (km _ (hB.trans (hc1.bel.mono hB.size))).mono ?_; rintro r wz ⟨rfl, hbc⟩; replace hc1 := hc1.call hbc; clear hbc km c3))
              have Q3 := hc1.clc 0 rfl 3 e3
              have HQ2 := (show Hid _ from hc1.clr 0 rfl)
              have HT := (show Hid _ from hc1.to hB)
              have hne := Cl.ne wz.heap.size wz
              refine region_cl (N := wz.heap.size) (W := wz) (by kernel_rfl) (by kernel_rfl) (Below.refl _ _) ?_
              go_big_quiet_step (fail)
              go_big_quiet_step (fail)
              go_big_quiet_step (fail)
              go_big_quiet_step ((go_at_call 27; exact cl_of (kv _ (HT.out _)) (Nat.le_refl _)))
              go_big_quiet_step (fail)
              go_big_quiet_want
              refine quiet_load 28 _ rfl N1 0 rfl C.toList _ HQ2.out Tryz.underlying28 rfl (by simpa using sz28 hE) ?_
              simp only [Act.put, List.setIfInBounds_toArray, List.set_cons_zero, List.set_cons_succ, Array.toArray_toList]
              go_big_quiet_on
              go_big_quiet_step ((go_at_call 43; exact cl_of (ko _ (HT.out _)) (Nat.le_refl _)))
              repeat (go_big_quiet_step (fail))
              refine wpQuiet_nil ?_
              rintro _ ⟨x, rfl⟩
              have hx := x.h
              replace hc1 := hc1.call hx
              clear Q3 HQ2 HT
              have c3 := hc1.cell 0 rfl 3 e3
              have c4 := hc1.cell 0 rfl 4 e4
              have c5 := hc1.cell 0 rfl 5 e5
              go_wp2_with (first
                | (go_at_call 44; refine (kp _).mono ?_; rintro r wc ⟨rfl, rfl⟩)
                | (refine v_load rfl 28 (.tmp 2) rfl 0 rfl hc1 rfl _ Tryz.underlying28 rfl (sz28 hE) ?_)
                | (go_at_call 11; refine (kf _).mono ?_; rintro r wc ⟨rfl, hbc⟩; replace hc1 := hc1.call hbc; clear hbc kf)
                | (go_at_call 45; refine (kx (by first | rfl | trivial) _ (hB.trans (hc1.bel.mono hB.size))).mono ?_; rintro r wc ⟨rfl, hbc⟩; replace hc1 := hc1.call hbc; clear hbc))
              go_ret
              exact ⟨rfl, hc1.bel⟩
            · rw [if_pos rfl]
              go_enter Tryz.func15, Tryz.ntmps15
              go_wp2_with (first
                | (refine v_box rfl 28 (.tmp 0) rfl C rfl hc0 ?_; intro w1 N1 hc1 _; have c3 := hc1.cell 0 rfl 3 e3; clear hc0)
                | (go_at_call 42; refine (km _ (hB.trans (hc1.bel.mono hB.size))).mono ?_; rintro r wz ⟨rfl, hbc⟩; replace hc1 := hc1.call hbc; clear hbc km c3))
              have Q3 := hc1.clc 0 rfl 3 e3
              have HQ2 := (show Hid _ from hc1.clr 0 rfl)
              have HT := (show Hid _ from hc1.to hB)
              have hne := Cl.ne wz.heap.size wz
              refine region_cl (N := wz.heap.size) (W := wz) (by kernel_rfl) (by kernel_rfl) (Below.refl _ _) ?_
              go_big_quiet_step (fail)
              go_big_quiet_step (fail)
              go_big_quiet_step (fail)
              go_big_quiet_step ((go_at_call 27; exact cl_of (kv _ (HT.out _)) (Nat.le_refl _)))
              go_big_quiet_step (fail)
              go_big_quiet_want
              refine quiet_load 28 _ rfl N1 0 rfl C.toList _ HQ2.out Tryz.underlying28 rfl (by simpa using sz28 hE) ?_
              simp only [Act.put, List.setIfInBounds_toArray, List.set_cons_zero, List.set_cons_succ, Array.toArray_toList]
              go_big_quiet_on
              go_big_quiet_step ((go_at_call 43; exact cl_of (ko _ (HT.out _)) (Nat.le_refl _)))
              repeat (go_big_quiet_step (fail))
              refine wpQuiet_nil ?_
              rintro _ ⟨x, rfl⟩
              have hx := x.h
              replace hc1 := hc1.call hx
              clear Q3 HQ2 HT
              have c3 := hc1.cell 0 rfl 3 e3
              have c4 := hc1.cell 0 rfl 4 e4
              have c5 := hc1.cell 0 rfl 5 e5
              go_wp2_with (first
                | (go_at_call 44; refine (kp _).mono ?_; rintro r wc ⟨rfl, rfl⟩)
                | (refine v_load rfl 28 (.tmp 2) rfl 0 rfl hc1 rfl _ Tryz.underlying28 rfl (sz28 hE) ?_)
                | (go_at_call 11; refine (kf _).mono ?_; rintro r wc ⟨rfl, hbc⟩; replace hc1 := hc1.call hbc; clear hbc kf)
                | (go_at_call 45; refine (kx (by first | rfl | trivial) _ (hB.trans (hc1.bel.mono hB.size))).mono ?_; rintro r wc ⟨rfl, hbc⟩; replace hc1 := hc1.call hbc; clear hbc))
              go_ret
              exact ⟨rfl, hc1.bel⟩
  · rw [if_neg hA]
    rw [decide_eq_false hA] at qA
    clear hA
    go_enter Tryz.func15, Tryz.ntmps15
    go_wp2_with (first
      | (refine v_box rfl 28 (.tmp 0) rfl C rfl hc0 ?_; intro w1 N1 hc1 _; have c3 := hc1.cell 0 rfl 3 e3; clear hc0)
      | (go_at_call 42; refine (km _ (hB.trans (hc1.bel.mono hB.size))).mono ?_; rintro r wz ⟨rfl, hbc⟩; replace hc1 := hc1.call hbc; clear hbc km c3))
    go_ret
    exact ⟨rfl, hc1.bel⟩
set_option maxRecDepth 100000 in
set_option maxHeartbeats 8000000 in
theorem check_any (V : EV → List EV → Int) (e : EV) (l : List EV) (C : Array Value) (v : Value) (B w : World) (hB : Below B.heap.size B w) (he : EC B e C) (hl : EvsAt B v l)
    (kx : isF e tL s0 = true → ∀ W, Below B.heap.size B W → Calls Tryz.prog 45 #[.agg C, v] W fun r w' => r = .returned (.int .i64 (V e l)) ∧ Below W.heap.size W w') :
    Calls Tryz.prog 5 #[.agg C, v] w fun r w' => r = .returned (.int .i64 (chk V e l)) ∧ Below w.heap.size w w' := by
  have hc0 := Ctx.start w
  have hE := he.sz
  have kf := fun W => isFor_any e C tC s0 B W he
  have e1 := he.i1
  have qT := beq_const e.ty tM (l := [109, 46, 114, 111, 111, 109, 46, 109, 101, 109, 98, 101, 114]) rfl
  have kC := fun W h => create_any e C B W h he
  have kM := fun W h => member_any e l C v B W h he hl
  have kX := fun W h => other_any V e l C v B W h he hl kx
  unfold chk
  cases hFC : isF e tC s0
  · have kL := fun W h => list_any e l C v B W h he hl hFC
    rw [if_neg Bool.false_ne_true]
    rw [hFC] at kf
    clear he hl kx hFC kC
    generalize chkL e l = RL at *
    generalize chkM e l = RM at *
    generalize chkX V e l = RX at *
    generalize e.ty = ty at *
    by_cases hz : RL = 0
    · subst hz
      rw [if_pos rfl]
      by_cases hT : ty = tM
      · rw [if_pos hT]
        rw [decide_eq_true hT] at qT
        clear hT
        go_enter Tryz.func5, Tryz.ntmps5
        go_wp2_with (first
          | (refine v_box rfl 28 (.tmp 0) rfl C rfl hc0 ?_; intro w1 N1 hc1 _; have c1 := hc1.cell 0 rfl 1 e1; clear hc0)
          | (refine v_load rfl 28 (.tmp 2) rfl 0 rfl hc1 rfl _ Tryz.underlying28 rfl (sz28 hE) ?_)
          | (go_at_call 11; refine (kf _).mono ?_; rintro r wc ⟨rfl, hbc⟩; replace hc1 := hc1.call hbc; replace c1 := hc1.cell 0 rfl 1 e1; clear hbc kf)
          | (go_at_call 13; refine (kL _ (hB.trans (hc1.bel.mono hB.size))).mono ?_; rintro r wc ⟨rfl, hbc⟩; replace hc1 := hc1.call hbc; replace c1 := hc1.cell 0 rfl 1 e1; clear hbc kL)
          | (go_at_call 14; refine (kM _ (hB.trans (hc1.bel.mono hB.size))).mono ?_; rintro r wc ⟨rfl, hbc⟩; replace hc1 := hc1.call hbc; clear hbc kM))
        go_ret
        exact ⟨rfl, hc1.bel⟩
      · rw [if_neg hT]
        rw [decide_eq_false hT] at qT
        clear hT
        go_enter Tryz.func5, Tryz.ntmps5
        go_wp2_with (first
          | (refine v_box rfl 28 (.tmp 0) rfl C rfl hc0 ?_; intro w1 N1 hc1 _; have c1 := hc1.cell 0 rfl 1 e1; clear hc0)
          | (refine v_load rfl 28 (.tmp 2) rfl 0 rfl hc1 rfl _ Tryz.underlying28 rfl (sz28 hE) ?_)
          | (go_at_call 11; refine (kf _).mono ?_; rintro r wc ⟨rfl, hbc⟩; replace hc1 := hc1.call hbc; replace c1 := hc1.cell 0 rfl 1 e1; clear hbc kf)
          | (go_at_call 13; refine (kL _ (hB.trans (hc1.bel.mono hB.size))).mono ?_; rintro r wc ⟨rfl, hbc⟩; replace hc1 := hc1.call hbc; replace c1 := hc1.cell 0 rfl 1 e1; clear hbc kL)
          | (go_at_call 15; refine (kX _ (hB.trans (hc1.bel.mono hB.size))).mono ?_; rintro r wc ⟨rfl, hbc⟩; replace hc1 := hc1.call hbc; clear hbc kX))
        go_ret
        exact ⟨rfl, hc1.bel⟩
    · rw [if_neg hz]
      have hz' : (RL != 0) = true := by simp [hz]
      clear hz
      go_enter Tryz.func5, Tryz.ntmps5
      go_wp2_with (first
        | (refine v_box rfl 28 (.tmp 0) rfl C rfl hc0 ?_; intro w1 N1 hc1 _; have c1 := hc1.cell 0 rfl 1 e1; clear hc0)
        | (refine v_load rfl 28 (.tmp 2) rfl 0 rfl hc1 rfl _ Tryz.underlying28 rfl (sz28 hE) ?_)
        | (go_at_call 11; refine (kf _).mono ?_; rintro r wc ⟨rfl, hbc⟩; replace hc1 := hc1.call hbc; replace c1 := hc1.cell 0 rfl 1 e1; clear hbc kf)
        | (go_at_call 13; refine (kL _ (hB.trans (hc1.bel.mono hB.size))).mono ?_; rintro r wc ⟨rfl, hbc⟩; replace hc1 := hc1.call hbc; clear hbc kL))
      go_ret
      exact ⟨rfl, hc1.bel⟩
  · rw [if_pos rfl]
    rw [hFC] at kf
    clear he hl kx hFC kM kX
    generalize chkC e = RC at *
    go_enter Tryz.func5, Tryz.ntmps5
    go_wp2_with (first
      | (refine v_box rfl 28 (.tmp 0) rfl C rfl hc0 ?_; intro w1 N1 hc1 _; have c1 := hc1.cell 0 rfl 1 e1; clear hc0)
      | (refine v_load rfl 28 (.tmp 2) rfl 0 rfl hc1 rfl _ Tryz.underlying28 rfl (sz28 hE) ?_)
      | (go_at_call 11; refine (kf _).mono ?_; rintro r wc ⟨rfl, hbc⟩; replace hc1 := hc1.call hbc; replace c1 := hc1.cell 0 rfl 1 e1; clear hbc kf)
      | (go_at_call 12; refine (kC _ (hB.trans (hc1.bel.mono hB.size))).mono ?_; rintro r wc ⟨rfl, hbc⟩; replace hc1 := hc1.call hbc; clear hbc kC))
    go_ret
    exact ⟨rfl, hc1.bel⟩

end Go.Proofs.YthplcnbfpcndbaaGreatDoor

/- Which pairs may authorise an event: Select, walked. -/
import Derived.Test.YthplcnbfpcndbaaGreatDoorAk
namespace Go.Proofs.YthplcnbfpcndbaaGreatDoor
open Go.RowKit

/-- How Select ends. -/
def SlOut (S : List Pr) (w : World) (r : Ending) (w' : World) : Prop := ∃ v, r = .returned v ∧ EntsAt w' v S ∧ Below w.heap.size w w'
theorem en_range (w : World) (p : Pr) (cs : Array Value) (h : cs.toList = enE p) : (w.alloc (.cells cs 53)).rangeAt w.heap.size 0 (enE p) := fun j v hv => by
  rw [← h] at hv
  have := World.cell?_alloc_mark w cs 53 (0, 0) j
  rw [Nat.zero_add, this]
  simpa using hv
theorem RowE.call {base : Nat} {w w' : World} {v : Value} {S : List Pr} (h : RowE base w v S) (hb : Below w.heap.size w w') : RowE base w' v S :=
  World.ownsRow.kept (row := none) h ⟨hb.os, hb.tape, hb.output, hb.size, fun i hi _ => hb.block i hi⟩ (by cases v.ownBlock <;> simp)
theorem RowE.more {base : Nat} {w : World} {v : Value} {S : List Pr} (h : RowE base w v S) (o : Obj) : RowE base (w.alloc o) v S := World.ownsRow.alloc h o

set_option maxRecDepth 100000 in
set_option maxHeartbeats 8000000 in
theorem select_any (e : EV) (C : Array Value) (B w : World) (hB : Below B.heap.size B w) (he : EC B e C) :
    Calls Tryz.prog 10 #[.agg C] w (SlOut (sel e) w) := by
  have hc0 := Ctx.start w
  have hE := he.sz
  have e1 := he.i1
  have e3 := he.i3
  have e4 := he.i4
  have e5 := he.i5
  have s3 := he.s3
  have s5 := he.s5
  obtain ⟨D, hD, hin⟩ := he.con
  have d6 := hD.vc.sz
  have kf := fun W => isFor_any e C tC s0 B W he
  have kw := fun W h => word_any e.con D sMemb s0 B W h hD
  have kc := fun s (h : s.size ≤ 1048576) W => clone_any s W (by omega)
  have qT := beq_const e.ty tM (l := [109, 46, 114, 111, 111, 109, 46, 109, 101, 109, 98, 101, 114]) rfl
  have qJ := beq_const (wrd e.con sMemb s0) sJoin (l := [106, 111, 105, 110]) rfl
  have qI := beq_const (wrd e.con sMemb s0) sInvite (l := [105, 110, 118, 105, 116, 101]) rfl
  have qK := beq_bytes e.key e.snd
  obtain ⟨S, hS⟩ : ∃ S, sel e = S := ⟨_, rfl⟩
  rw [hS]
  unfold sel selJ selK at hS
  clear he hD
  generalize isF e tC s0 = F at *
  generalize decide (e.ty = tM) = T at *
  generalize decide (wrd e.con sMemb s0 = sJoin) = J at *
  generalize decide (wrd e.con sMemb s0 = sInvite) = I at *
  generalize decide (e.key = e.snd) = K at *
  generalize e.ty = ty at *
  generalize e.snd = sn at *
  generalize e.key = ky at *
  generalize e.hk = hk at *
  generalize wrd e.con sMemb s0 = V at *
  cases F
  · cases T
    · replace hS : [(tC, s0), (tL, s0)] ++ [(tM, sn)] = S := hS
      subst hS
      go_enter Tryz.func10, Tryz.ntmps10
      go_wp2_with (first
        | (refine v_box rfl 28 (.tmp 0) rfl C rfl hc0 ?_; intro w1 N1 hc1 _; have hN1 := (hc1.holds _ (List.mem_cons_self ..)).2.1; have hL : ∀ x ∈ [(N1, 28, C)], x.1 < w1.heap.size := (fun x hx => by rw [List.mem_singleton] at hx; subst hx; exact hN1); have h0 := hc1.bel.size; clear hc0)
        | (refine v_load rfl 28 (.tmp 1) rfl 0 rfl hc1 rfl _ Tryz.underlying28 rfl (sz28 hE) ?_)
        | (go_at_call 11; refine (kf _).mono ?_; rintro r w2 ⟨rfl, hb2⟩; have hbs := hb2.size; have hr : RowE w1.heap.size (w2.alloc (.cells #[.string tC, .string s0, .string s0, .string tL, .string s0, .string s0] 53)) (.slice (some ⟨w2.heap.size, 0, none⟩) 2 2) [(tC, s0), (tL, s0)] := row_new w2 _ _ 2 _ hbs rfl rfl (by decide); replace hbs : w1.heap.size ≤ (w2.alloc (.cells #[.string tC, .string s0, .string s0, .string tL, .string s0, .string s0] 53)).heap.size := Nat.le_trans hbs (by simp); replace hc1 := (hc1.call hb2).call ((Below.refl _ _).alloc (Nat.le_refl _) (.cells #[.string tC, .string s0, .string s0, .string tL, .string s0, .string s0] 53)); have c1 := hc1.cell 0 rfl 1 e1; clear hb2 kf)
        | (refine v_part rfl 26 (.tmp 14) rfl 0 D rfl hc1 rfl hin _ Tryz.underlying26 rfl (sz26 d6) ?_)
        | (go_at_call 28; refine (kw _ (hB.trans (hc1.bel.mono hB.size))).mono ?_; rintro r w3 ⟨rfl, hb3⟩; replace hr := hr.call hb3; replace hbs := Nat.le_trans hbs hb3.size; replace hc1 := hc1.call hb3; have c3 := hc1.cell 0 rfl 3 e3; have c4 := hc1.cell 0 rfl 4 e4; have c5 := hc1.cell 0 rfl 5 e5; clear hb3 kw c1)
        | (refine app_e rfl (.tmp 26) (.tmp 28) rfl w1.heap.size _ _ rfl (hr.more _) _ (tJ, s0) rfl (en_range _ (tJ, s0) _ rfl) (by simp) (Nat.le_trans hbs (by simp)) ?_; intro vn wn hrn hbn; replace hr := hrn; replace hbs := Nat.le_trans (Nat.le_trans hbs (by simp)) hbn.size; replace hc1 := (hc1.call ((Below.refl _ _).alloc (Nat.le_refl _) _)).low hL h0 hbn; replace c3 := hc1.cell 0 rfl 3 e3; replace c4 := hc1.cell 0 rfl 4 e4; replace c5 := hc1.cell 0 rfl 5 e5; clear hrn hbn)
        | (go_at_call 29; refine (kc _ (by first | exact s3 | exact s5) _).mono ?_; rintro r wn ⟨rfl, hbn⟩; replace hr := hr.call hbn; replace hbs := Nat.le_trans hbs hbn.size; replace hc1 := hc1.call hbn; replace c3 := hc1.cell 0 rfl 3 e3; replace c4 := hc1.cell 0 rfl 4 e4; replace c5 := hc1.cell 0 rfl 5 e5; clear hbn)
        | (refine app_e rfl (.tmp 30) (.tmp 35) rfl w1.heap.size _ _ rfl (hr.more _) _ (tM, sn) rfl (en_range _ (tM, sn) _ rfl) (by simp) (Nat.le_trans hbs (by simp)) ?_; intro vn wn hrn hbn; replace hr := hrn; replace hbs := Nat.le_trans (Nat.le_trans hbs (by simp)) hbn.size; replace hc1 := (hc1.call ((Below.refl _ _).alloc (Nat.le_refl _) _)).low hL h0 hbn; replace c3 := hc1.cell 0 rfl 3 e3; replace c4 := hc1.cell 0 rfl 4 e4; replace c5 := hc1.cell 0 rfl 5 e5; clear hrn hbn)
        | (refine app_e rfl (.tmp 49) (.tmp 54) rfl w1.heap.size _ _ rfl (hr.more _) _ (tM, ky) rfl (en_range _ (tM, ky) _ rfl) (by simp) (Nat.le_trans hbs (by simp)) ?_; intro vn wn hrn hbn; replace hr := hrn; replace hbs := Nat.le_trans (Nat.le_trans hbs (by simp)) hbn.size; replace hc1 := (hc1.call ((Below.refl _ _).alloc (Nat.le_refl _) _)).low hL h0 hbn; replace c3 := hc1.cell 0 rfl 3 e3; replace c4 := hc1.cell 0 rfl 4 e4; replace c5 := hc1.cell 0 rfl 5 e5; clear hrn hbn))
      go_ret
      exact ⟨_, rfl, hr.ents (by simp), hc1.bel⟩
    · cases J
      · cases I
        · skip
          cases hk
          · replace hS : [(tC, s0), (tL, s0)] ++ [(tM, sn)] = S := hS
            subst hS
            go_enter Tryz.func10, Tryz.ntmps10
            go_wp2_with (first
              | (refine v_box rfl 28 (.tmp 0) rfl C rfl hc0 ?_; intro w1 N1 hc1 _; have hN1 := (hc1.holds _ (List.mem_cons_self ..)).2.1; have hL : ∀ x ∈ [(N1, 28, C)], x.1 < w1.heap.size := (fun x hx => by rw [List.mem_singleton] at hx; subst hx; exact hN1); have h0 := hc1.bel.size; clear hc0)
              | (refine v_load rfl 28 (.tmp 1) rfl 0 rfl hc1 rfl _ Tryz.underlying28 rfl (sz28 hE) ?_)
              | (go_at_call 11; refine (kf _).mono ?_; rintro r w2 ⟨rfl, hb2⟩; have hbs := hb2.size; have hr : RowE w1.heap.size (w2.alloc (.cells #[.string tC, .string s0, .string s0, .string tL, .string s0, .string s0] 53)) (.slice (some ⟨w2.heap.size, 0, none⟩) 2 2) [(tC, s0), (tL, s0)] := row_new w2 _ _ 2 _ hbs rfl rfl (by decide); replace hbs : w1.heap.size ≤ (w2.alloc (.cells #[.string tC, .string s0, .string s0, .string tL, .string s0, .string s0] 53)).heap.size := Nat.le_trans hbs (by simp); replace hc1 := (hc1.call hb2).call ((Below.refl _ _).alloc (Nat.le_refl _) (.cells #[.string tC, .string s0, .string s0, .string tL, .string s0, .string s0] 53)); have c1 := hc1.cell 0 rfl 1 e1; clear hb2 kf)
              | (refine v_part rfl 26 (.tmp 14) rfl 0 D rfl hc1 rfl hin _ Tryz.underlying26 rfl (sz26 d6) ?_)
              | (go_at_call 28; refine (kw _ (hB.trans (hc1.bel.mono hB.size))).mono ?_; rintro r w3 ⟨rfl, hb3⟩; replace hr := hr.call hb3; replace hbs := Nat.le_trans hbs hb3.size; replace hc1 := hc1.call hb3; have c3 := hc1.cell 0 rfl 3 e3; have c4 := hc1.cell 0 rfl 4 e4; have c5 := hc1.cell 0 rfl 5 e5; clear hb3 kw c1)
              | (refine app_e rfl (.tmp 26) (.tmp 28) rfl w1.heap.size _ _ rfl (hr.more _) _ (tJ, s0) rfl (en_range _ (tJ, s0) _ rfl) (by simp) (Nat.le_trans hbs (by simp)) ?_; intro vn wn hrn hbn; replace hr := hrn; replace hbs := Nat.le_trans (Nat.le_trans hbs (by simp)) hbn.size; replace hc1 := (hc1.call ((Below.refl _ _).alloc (Nat.le_refl _) _)).low hL h0 hbn; replace c3 := hc1.cell 0 rfl 3 e3; replace c4 := hc1.cell 0 rfl 4 e4; replace c5 := hc1.cell 0 rfl 5 e5; clear hrn hbn)
              | (go_at_call 29; refine (kc _ (by first | exact s3 | exact s5) _).mono ?_; rintro r wn ⟨rfl, hbn⟩; replace hr := hr.call hbn; replace hbs := Nat.le_trans hbs hbn.size; replace hc1 := hc1.call hbn; replace c3 := hc1.cell 0 rfl 3 e3; replace c4 := hc1.cell 0 rfl 4 e4; replace c5 := hc1.cell 0 rfl 5 e5; clear hbn)
              | (refine app_e rfl (.tmp 30) (.tmp 35) rfl w1.heap.size _ _ rfl (hr.more _) _ (tM, sn) rfl (en_range _ (tM, sn) _ rfl) (by simp) (Nat.le_trans hbs (by simp)) ?_; intro vn wn hrn hbn; replace hr := hrn; replace hbs := Nat.le_trans (Nat.le_trans hbs (by simp)) hbn.size; replace hc1 := (hc1.call ((Below.refl _ _).alloc (Nat.le_refl _) _)).low hL h0 hbn; replace c3 := hc1.cell 0 rfl 3 e3; replace c4 := hc1.cell 0 rfl 4 e4; replace c5 := hc1.cell 0 rfl 5 e5; clear hrn hbn)
              | (refine app_e rfl (.tmp 49) (.tmp 54) rfl w1.heap.size _ _ rfl (hr.more _) _ (tM, ky) rfl (en_range _ (tM, ky) _ rfl) (by simp) (Nat.le_trans hbs (by simp)) ?_; intro vn wn hrn hbn; replace hr := hrn; replace hbs := Nat.le_trans (Nat.le_trans hbs (by simp)) hbn.size; replace hc1 := (hc1.call ((Below.refl _ _).alloc (Nat.le_refl _) _)).low hL h0 hbn; replace c3 := hc1.cell 0 rfl 3 e3; replace c4 := hc1.cell 0 rfl 4 e4; replace c5 := hc1.cell 0 rfl 5 e5; clear hrn hbn))
            go_ret
            exact ⟨_, rfl, hr.ents (by simp), hc1.bel⟩
          · cases K
            · replace hS : [(tC, s0), (tL, s0)] ++ [(tM, sn)] ++ [(tM, ky)] = S := hS
              subst hS
              go_enter Tryz.func10, Tryz.ntmps10
              go_wp2_with (first
                | (refine v_box rfl 28 (.tmp 0) rfl C rfl hc0 ?_; intro w1 N1 hc1 _; have hN1 := (hc1.holds _ (List.mem_cons_self ..)).2.1; have hL : ∀ x ∈ [(N1, 28, C)], x.1 < w1.heap.size := (fun x hx => by rw [List.mem_singleton] at hx; subst hx; exact hN1); have h0 := hc1.bel.size; clear hc0)
                | (refine v_load rfl 28 (.tmp 1) rfl 0 rfl hc1 rfl _ Tryz.underlying28 rfl (sz28 hE) ?_)
                | (go_at_call 11; refine (kf _).mono ?_; rintro r w2 ⟨rfl, hb2⟩; have hbs := hb2.size; have hr : RowE w1.heap.size (w2.alloc (.cells #[.string tC, .string s0, .string s0, .string tL, .string s0, .string s0] 53)) (.slice (some ⟨w2.heap.size, 0, none⟩) 2 2) [(tC, s0), (tL, s0)] := row_new w2 _ _ 2 _ hbs rfl rfl (by decide); replace hbs : w1.heap.size ≤ (w2.alloc (.cells #[.string tC, .string s0, .string s0, .string tL, .string s0, .string s0] 53)).heap.size := Nat.le_trans hbs (by simp); replace hc1 := (hc1.call hb2).call ((Below.refl _ _).alloc (Nat.le_refl _) (.cells #[.string tC, .string s0, .string s0, .string tL, .string s0, .string s0] 53)); have c1 := hc1.cell 0 rfl 1 e1; clear hb2 kf)
                | (refine v_part rfl 26 (.tmp 14) rfl 0 D rfl hc1 rfl hin _ Tryz.underlying26 rfl (sz26 d6) ?_)
                | (go_at_call 28; refine (kw _ (hB.trans (hc1.bel.mono hB.size))).mono ?_; rintro r w3 ⟨rfl, hb3⟩; replace hr := hr.call hb3; replace hbs := Nat.le_trans hbs hb3.size; replace hc1 := hc1.call hb3; have c3 := hc1.cell 0 rfl 3 e3; have c4 := hc1.cell 0 rfl 4 e4; have c5 := hc1.cell 0 rfl 5 e5; clear hb3 kw c1)
                | (refine app_e rfl (.tmp 26) (.tmp 28) rfl w1.heap.size _ _ rfl (hr.more _) _ (tJ, s0) rfl (en_range _ (tJ, s0) _ rfl) (by simp) (Nat.le_trans hbs (by simp)) ?_; intro vn wn hrn hbn; replace hr := hrn; replace hbs := Nat.le_trans (Nat.le_trans hbs (by simp)) hbn.size; replace hc1 := (hc1.call ((Below.refl _ _).alloc (Nat.le_refl _) _)).low hL h0 hbn; replace c3 := hc1.cell 0 rfl 3 e3; replace c4 := hc1.cell 0 rfl 4 e4; replace c5 := hc1.cell 0 rfl 5 e5; clear hrn hbn)
                | (go_at_call 29; refine (kc _ (by first | exact s3 | exact s5) _).mono ?_; rintro r wn ⟨rfl, hbn⟩; replace hr := hr.call hbn; replace hbs := Nat.le_trans hbs hbn.size; replace hc1 := hc1.call hbn; replace c3 := hc1.cell 0 rfl 3 e3; replace c4 := hc1.cell 0 rfl 4 e4; replace c5 := hc1.cell 0 rfl 5 e5; clear hbn)
                | (refine app_e rfl (.tmp 30) (.tmp 35) rfl w1.heap.size _ _ rfl (hr.more _) _ (tM, sn) rfl (en_range _ (tM, sn) _ rfl) (by simp) (Nat.le_trans hbs (by simp)) ?_; intro vn wn hrn hbn; replace hr := hrn; replace hbs := Nat.le_trans (Nat.le_trans hbs (by simp)) hbn.size; replace hc1 := (hc1.call ((Below.refl _ _).alloc (Nat.le_refl _) _)).low hL h0 hbn; replace c3 := hc1.cell 0 rfl 3 e3; replace c4 := hc1.cell 0 rfl 4 e4; replace c5 := hc1.cell 0 rfl 5 e5; clear hrn hbn)
                | (refine app_e rfl (.tmp 49) (.tmp 54) rfl w1.heap.size _ _ rfl (hr.more _) _ (tM, ky) rfl (en_range _ (tM, ky) _ rfl) (by simp) (Nat.le_trans hbs (by simp)) ?_; intro vn wn hrn hbn; replace hr := hrn; replace hbs := Nat.le_trans (Nat.le_trans hbs (by simp)) hbn.size; replace hc1 := (hc1.call ((Below.refl _ _).alloc (Nat.le_refl _) _)).low hL h0 hbn; replace c3 := hc1.cell 0 rfl 3 e3; replace c4 := hc1.cell 0 rfl 4 e4; replace c5 := hc1.cell 0 rfl 5 e5; clear hrn hbn))
              go_ret
              exact ⟨_, rfl, hr.ents (by simp), hc1.bel⟩
            · replace hS : [(tC, s0), (tL, s0)] ++ [(tM, sn)] = S := hS
              subst hS
              go_enter Tryz.func10, Tryz.ntmps10
              go_wp2_with (first
                | (refine v_box rfl 28 (.tmp 0) rfl C rfl hc0 ?_; intro w1 N1 hc1 _; have hN1 := (hc1.holds _ (List.mem_cons_self ..)).2.1; have hL : ∀ x ∈ [(N1, 28, C)], x.1 < w1.heap.size := (fun x hx => by rw [List.mem_singleton] at hx; subst hx; exact hN1); have h0 := hc1.bel.size; clear hc0)
                | (refine v_load rfl 28 (.tmp 1) rfl 0 rfl hc1 rfl _ Tryz.underlying28 rfl (sz28 hE) ?_)
                | (go_at_call 11; refine (kf _).mono ?_; rintro r w2 ⟨rfl, hb2⟩; have hbs := hb2.size; have hr : RowE w1.heap.size (w2.alloc (.cells #[.string tC, .string s0, .string s0, .string tL, .string s0, .string s0] 53)) (.slice (some ⟨w2.heap.size, 0, none⟩) 2 2) [(tC, s0), (tL, s0)] := row_new w2 _ _ 2 _ hbs rfl rfl (by decide); replace hbs : w1.heap.size ≤ (w2.alloc (.cells #[.string tC, .string s0, .string s0, .string tL, .string s0, .string s0] 53)).heap.size := Nat.le_trans hbs (by simp); replace hc1 := (hc1.call hb2).call ((Below.refl _ _).alloc (Nat.le_refl _) (.cells #[.string tC, .string s0, .string s0, .string tL, .string s0, .string s0] 53)); have c1 := hc1.cell 0 rfl 1 e1; clear hb2 kf)
                | (refine v_part rfl 26 (.tmp 14) rfl 0 D rfl hc1 rfl hin _ Tryz.underlying26 rfl (sz26 d6) ?_)
                | (go_at_call 28; refine (kw _ (hB.trans (hc1.bel.mono hB.size))).mono ?_; rintro r w3 ⟨rfl, hb3⟩; replace hr := hr.call hb3; replace hbs := Nat.le_trans hbs hb3.size; replace hc1 := hc1.call hb3; have c3 := hc1.cell 0 rfl 3 e3; have c4 := hc1.cell 0 rfl 4 e4; have c5 := hc1.cell 0 rfl 5 e5; clear hb3 kw c1)
                | (refine app_e rfl (.tmp 26) (.tmp 28) rfl w1.heap.size _ _ rfl (hr.more _) _ (tJ, s0) rfl (en_range _ (tJ, s0) _ rfl) (by simp) (Nat.le_trans hbs (by simp)) ?_; intro vn wn hrn hbn; replace hr := hrn; replace hbs := Nat.le_trans (Nat.le_trans hbs (by simp)) hbn.size; replace hc1 := (hc1.call ((Below.refl _ _).alloc (Nat.le_refl _) _)).low hL h0 hbn; replace c3 := hc1.cell 0 rfl 3 e3; replace c4 := hc1.cell 0 rfl 4 e4; replace c5 := hc1.cell 0 rfl 5 e5; clear hrn hbn)
                | (go_at_call 29; refine (kc _ (by first | exact s3 | exact s5) _).mono ?_; rintro r wn ⟨rfl, hbn⟩; replace hr := hr.call hbn; replace hbs := Nat.le_trans hbs hbn.size; replace hc1 := hc1.call hbn; replace c3 := hc1.cell 0 rfl 3 e3; replace c4 := hc1.cell 0 rfl 4 e4; replace c5 := hc1.cell 0 rfl 5 e5; clear hbn)
                | (refine app_e rfl (.tmp 30) (.tmp 35) rfl w1.heap.size _ _ rfl (hr.more _) _ (tM, sn) rfl (en_range _ (tM, sn) _ rfl) (by simp) (Nat.le_trans hbs (by simp)) ?_; intro vn wn hrn hbn; replace hr := hrn; replace hbs := Nat.le_trans (Nat.le_trans hbs (by simp)) hbn.size; replace hc1 := (hc1.call ((Below.refl _ _).alloc (Nat.le_refl _) _)).low hL h0 hbn; replace c3 := hc1.cell 0 rfl 3 e3; replace c4 := hc1.cell 0 rfl 4 e4; replace c5 := hc1.cell 0 rfl 5 e5; clear hrn hbn)
                | (refine app_e rfl (.tmp 49) (.tmp 54) rfl w1.heap.size _ _ rfl (hr.more _) _ (tM, ky) rfl (en_range _ (tM, ky) _ rfl) (by simp) (Nat.le_trans hbs (by simp)) ?_; intro vn wn hrn hbn; replace hr := hrn; replace hbs := Nat.le_trans (Nat.le_trans hbs (by simp)) hbn.size; replace hc1 := (hc1.call ((Below.refl _ _).alloc (Nat.le_refl _) _)).low hL h0 hbn; replace c3 := hc1.cell 0 rfl 3 e3; replace c4 := hc1.cell 0 rfl 4 e4; replace c5 := hc1.cell 0 rfl 5 e5; clear hrn hbn))
              go_ret
              exact ⟨_, rfl, hr.ents (by simp), hc1.bel⟩
        · skip
          cases hk
          · replace hS : [(tC, s0), (tL, s0)] ++ [(tJ, s0)] ++ [(tM, sn)] = S := hS
            subst hS
            go_enter Tryz.func10, Tryz.ntmps10
            go_wp2_with (first
              | (refine v_box rfl 28 (.tmp 0) rfl C rfl hc0 ?_; intro w1 N1 hc1 _; have hN1 := (hc1.holds _ (List.mem_cons_self ..)).2.1; have hL : ∀ x ∈ [(N1, 28, C)], x.1 < w1.heap.size := (fun x hx => by rw [List.mem_singleton] at hx; subst hx; exact hN1); have h0 := hc1.bel.size; clear hc0)
              | (refine v_load rfl 28 (.tmp 1) rfl 0 rfl hc1 rfl _ Tryz.underlying28 rfl (sz28 hE) ?_)
              | (go_at_call 11; refine (kf _).mono ?_; rintro r w2 ⟨rfl, hb2⟩; have hbs := hb2.size; have hr : RowE w1.heap.size (w2.alloc (.cells #[.string tC, .string s0, .string s0, .string tL, .string s0, .string s0] 53)) (.slice (some ⟨w2.heap.size, 0, none⟩) 2 2) [(tC, s0), (tL, s0)] := row_new w2 _ _ 2 _ hbs rfl rfl (by decide); replace hbs : w1.heap.size ≤ (w2.alloc (.cells #[.string tC, .string s0, .string s0, .string tL, .string s0, .string s0] 53)).heap.size := Nat.le_trans hbs (by simp); replace hc1 := (hc1.call hb2).call ((Below.refl _ _).alloc (Nat.le_refl _) (.cells #[.string tC, .string s0, .string s0, .string tL, .string s0, .string s0] 53)); have c1 := hc1.cell 0 rfl 1 e1; clear hb2 kf)
              | (refine v_part rfl 26 (.tmp 14) rfl 0 D rfl hc1 rfl hin _ Tryz.underlying26 rfl (sz26 d6) ?_)
              | (go_at_call 28; refine (kw _ (hB.trans (hc1.bel.mono hB.size))).mono ?_; rintro r w3 ⟨rfl, hb3⟩; replace hr := hr.call hb3; replace hbs := Nat.le_trans hbs hb3.size; replace hc1 := hc1.call hb3; have c3 := hc1.cell 0 rfl 3 e3; have c4 := hc1.cell 0 rfl 4 e4; have c5 := hc1.cell 0 rfl 5 e5; clear hb3 kw c1)
              | (refine app_e rfl (.tmp 26) (.tmp 28) rfl w1.heap.size _ _ rfl (hr.more _) _ (tJ, s0) rfl (en_range _ (tJ, s0) _ rfl) (by simp) (Nat.le_trans hbs (by simp)) ?_; intro vn wn hrn hbn; replace hr := hrn; replace hbs := Nat.le_trans (Nat.le_trans hbs (by simp)) hbn.size; replace hc1 := (hc1.call ((Below.refl _ _).alloc (Nat.le_refl _) _)).low hL h0 hbn; replace c3 := hc1.cell 0 rfl 3 e3; replace c4 := hc1.cell 0 rfl 4 e4; replace c5 := hc1.cell 0 rfl 5 e5; clear hrn hbn)
              | (go_at_call 29; refine (kc _ (by first | exact s3 | exact s5) _).mono ?_; rintro r wn ⟨rfl, hbn⟩; replace hr := hr.call hbn; replace hbs := Nat.le_trans hbs hbn.size; replace hc1 := hc1.call hbn; replace c3 := hc1.cell 0 rfl 3 e3; replace c4 := hc1.cell 0 rfl 4 e4; replace c5 := hc1.cell 0 rfl 5 e5; clear hbn)
              | (refine app_e rfl (.tmp 30) (.tmp 35) rfl w1.heap.size _ _ rfl (hr.more _) _ (tM, sn) rfl (en_range _ (tM, sn) _ rfl) (by simp) (Nat.le_trans hbs (by simp)) ?_; intro vn wn hrn hbn; replace hr := hrn; replace hbs := Nat.le_trans (Nat.le_trans hbs (by simp)) hbn.size; replace hc1 := (hc1.call ((Below.refl _ _).alloc (Nat.le_refl _) _)).low hL h0 hbn; replace c3 := hc1.cell 0 rfl 3 e3; replace c4 := hc1.cell 0 rfl 4 e4; replace c5 := hc1.cell 0 rfl 5 e5; clear hrn hbn)
              | (refine app_e rfl (.tmp 49) (.tmp 54) rfl w1.heap.size _ _ rfl (hr.more _) _ (tM, ky) rfl (en_range _ (tM, ky) _ rfl) (by simp) (Nat.le_trans hbs (by simp)) ?_; intro vn wn hrn hbn; replace hr := hrn; replace hbs := Nat.le_trans (Nat.le_trans hbs (by simp)) hbn.size; replace hc1 := (hc1.call ((Below.refl _ _).alloc (Nat.le_refl _) _)).low hL h0 hbn; replace c3 := hc1.cell 0 rfl 3 e3; replace c4 := hc1.cell 0 rfl 4 e4; replace c5 := hc1.cell 0 rfl 5 e5; clear hrn hbn))
            go_ret
            exact ⟨_, rfl, hr.ents (by simp), hc1.bel⟩
          · cases K
            · replace hS : [(tC, s0), (tL, s0)] ++ [(tJ, s0)] ++ [(tM, sn)] ++ [(tM, ky)] = S := hS
              subst hS
              go_enter Tryz.func10, Tryz.ntmps10
              go_wp2_with (first
                | (refine v_box rfl 28 (.tmp 0) rfl C rfl hc0 ?_; intro w1 N1 hc1 _; have hN1 := (hc1.holds _ (List.mem_cons_self ..)).2.1; have hL : ∀ x ∈ [(N1, 28, C)], x.1 < w1.heap.size := (fun x hx => by rw [List.mem_singleton] at hx; subst hx; exact hN1); have h0 := hc1.bel.size; clear hc0)
                | (refine v_load rfl 28 (.tmp 1) rfl 0 rfl hc1 rfl _ Tryz.underlying28 rfl (sz28 hE) ?_)
                | (go_at_call 11; refine (kf _).mono ?_; rintro r w2 ⟨rfl, hb2⟩; have hbs := hb2.size; have hr : RowE w1.heap.size (w2.alloc (.cells #[.string tC, .string s0, .string s0, .string tL, .string s0, .string s0] 53)) (.slice (some ⟨w2.heap.size, 0, none⟩) 2 2) [(tC, s0), (tL, s0)] := row_new w2 _ _ 2 _ hbs rfl rfl (by decide); replace hbs : w1.heap.size ≤ (w2.alloc (.cells #[.string tC, .string s0, .string s0, .string tL, .string s0, .string s0] 53)).heap.size := Nat.le_trans hbs (by simp); replace hc1 := (hc1.call hb2).call ((Below.refl _ _).alloc (Nat.le_refl _) (.cells #[.string tC, .string s0, .string s0, .string tL, .string s0, .string s0] 53)); have c1 := hc1.cell 0 rfl 1 e1; clear hb2 kf)
                | (refine v_part rfl 26 (.tmp 14) rfl 0 D rfl hc1 rfl hin _ Tryz.underlying26 rfl (sz26 d6) ?_)
                | (go_at_call 28; refine (kw _ (hB.trans (hc1.bel.mono hB.size))).mono ?_; rintro r w3 ⟨rfl, hb3⟩; replace hr := hr.call hb3; replace hbs := Nat.le_trans hbs hb3.size; replace hc1 := hc1.call hb3; have c3 := hc1.cell 0 rfl 3 e3; have c4 := hc1.cell 0 rfl 4 e4; have c5 := hc1.cell 0 rfl 5 e5; clear hb3 kw c1)
                | (refine app_e rfl (.tmp 26) (.tmp 28) rfl w1.heap.size _ _ rfl (hr.more _) _ (tJ, s0) rfl (en_range _ (tJ, s0) _ rfl) (by simp) (Nat.le_trans hbs (by simp)) ?_; intro vn wn hrn hbn; replace hr := hrn; replace hbs := Nat.le_trans (Nat.le_trans hbs (by simp)) hbn.size; replace hc1 := (hc1.call ((Below.refl _ _).alloc (Nat.le_refl _) _)).low hL h0 hbn; replace c3 := hc1.cell 0 rfl 3 e3; replace c4 := hc1.cell 0 rfl 4 e4; replace c5 := hc1.cell 0 rfl 5 e5; clear hrn hbn)
                | (go_at_call 29; refine (kc _ (by first | exact s3 | exact s5) _).mono ?_; rintro r wn ⟨rfl, hbn⟩; replace hr := hr.call hbn; replace hbs := Nat.le_trans hbs hbn.size; replace hc1 := hc1.call hbn; replace c3 := hc1.cell 0 rfl 3 e3; replace c4 := hc1.cell 0 rfl 4 e4; replace c5 := hc1.cell 0 rfl 5 e5; clear hbn)
                | (refine app_e rfl (.tmp 30) (.tmp 35) rfl w1.heap.size _ _ rfl (hr.more _) _ (tM, sn) rfl (en_range _ (tM, sn) _ rfl) (by simp) (Nat.le_trans hbs (by simp)) ?_; intro vn wn hrn hbn; replace hr := hrn; replace hbs := Nat.le_trans (Nat.le_trans hbs (by simp)) hbn.size; replace hc1 := (hc1.call ((Below.refl _ _).alloc (Nat.le_refl _) _)).low hL h0 hbn; replace c3 := hc1.cell 0 rfl 3 e3; replace c4 := hc1.cell 0 rfl 4 e4; replace c5 := hc1.cell 0 rfl 5 e5; clear hrn hbn)
                | (refine app_e rfl (.tmp 49) (.tmp 54) rfl w1.heap.size _ _ rfl (hr.more _) _ (tM, ky) rfl (en_range _ (tM, ky) _ rfl) (by simp) (Nat.le_trans hbs (by simp)) ?_; intro vn wn hrn hbn; replace hr := hrn; replace hbs := Nat.le_trans (Nat.le_trans hbs (by simp)) hbn.size; replace hc1 := (hc1.call ((Below.refl _ _).alloc (Nat.le_refl _) _)).low hL h0 hbn; replace c3 := hc1.cell 0 rfl 3 e3; replace c4 := hc1.cell 0 rfl 4 e4; replace c5 := hc1.cell 0 rfl 5 e5; clear hrn hbn))
              go_ret
              exact ⟨_, rfl, hr.ents (by simp), hc1.bel⟩
            · replace hS : [(tC, s0), (tL, s0)] ++ [(tJ, s0)] ++ [(tM, sn)] = S := hS
              subst hS
              go_enter Tryz.func10, Tryz.ntmps10
              go_wp2_with (first
                | (refine v_box rfl 28 (.tmp 0) rfl C rfl hc0 ?_; intro w1 N1 hc1 _; have hN1 := (hc1.holds _ (List.mem_cons_self ..)).2.1; have hL : ∀ x ∈ [(N1, 28, C)], x.1 < w1.heap.size := (fun x hx => by rw [List.mem_singleton] at hx; subst hx; exact hN1); have h0 := hc1.bel.size; clear hc0)
                | (refine v_load rfl 28 (.tmp 1) rfl 0 rfl hc1 rfl _ Tryz.underlying28 rfl (sz28 hE) ?_)
                | (go_at_call 11; refine (kf _).mono ?_; rintro r w2 ⟨rfl, hb2⟩; have hbs := hb2.size; have hr : RowE w1.heap.size (w2.alloc (.cells #[.string tC, .string s0, .string s0, .string tL, .string s0, .string s0] 53)) (.slice (some ⟨w2.heap.size, 0, none⟩) 2 2) [(tC, s0), (tL, s0)] := row_new w2 _ _ 2 _ hbs rfl rfl (by decide); replace hbs : w1.heap.size ≤ (w2.alloc (.cells #[.string tC, .string s0, .string s0, .string tL, .string s0, .string s0] 53)).heap.size := Nat.le_trans hbs (by simp); replace hc1 := (hc1.call hb2).call ((Below.refl _ _).alloc (Nat.le_refl _) (.cells #[.string tC, .string s0, .string s0, .string tL, .string s0, .string s0] 53)); have c1 := hc1.cell 0 rfl 1 e1; clear hb2 kf)
                | (refine v_part rfl 26 (.tmp 14) rfl 0 D rfl hc1 rfl hin _ Tryz.underlying26 rfl (sz26 d6) ?_)
                | (go_at_call 28; refine (kw _ (hB.trans (hc1.bel.mono hB.size))).mono ?_; rintro r w3 ⟨rfl, hb3⟩; replace hr := hr.call hb3; replace hbs := Nat.le_trans hbs hb3.size; replace hc1 := hc1.call hb3; have c3 := hc1.cell 0 rfl 3 e3; have c4 := hc1.cell 0 rfl 4 e4; have c5 := hc1.cell 0 rfl 5 e5; clear hb3 kw c1)
                | (refine app_e rfl (.tmp 26) (.tmp 28) rfl w1.heap.size _ _ rfl (hr.more _) _ (tJ, s0) rfl (en_range _ (tJ, s0) _ rfl) (by simp) (Nat.le_trans hbs (by simp)) ?_; intro vn wn hrn hbn; replace hr := hrn; replace hbs := Nat.le_trans (Nat.le_trans hbs (by simp)) hbn.size; replace hc1 := (hc1.call ((Below.refl _ _).alloc (Nat.le_refl _) _)).low hL h0 hbn; replace c3 := hc1.cell 0 rfl 3 e3; replace c4 := hc1.cell 0 rfl 4 e4; replace c5 := hc1.cell 0 rfl 5 e5; clear hrn hbn)
                | (go_at_call 29; refine (kc _ (by first | exact s3 | exact s5) _).mono ?_; rintro r wn ⟨rfl, hbn⟩; replace hr := hr.call hbn; replace hbs := Nat.le_trans hbs hbn.size; replace hc1 := hc1.call hbn; replace c3 := hc1.cell 0 rfl 3 e3; replace c4 := hc1.cell 0 rfl 4 e4; replace c5 := hc1.cell 0 rfl 5 e5; clear hbn)
                | (refine app_e rfl (.tmp 30) (.tmp 35) rfl w1.heap.size _ _ rfl (hr.more _) _ (tM, sn) rfl (en_range _ (tM, sn) _ rfl) (by simp) (Nat.le_trans hbs (by simp)) ?_; intro vn wn hrn hbn; replace hr := hrn; replace hbs := Nat.le_trans (Nat.le_trans hbs (by simp)) hbn.size; replace hc1 := (hc1.call ((Below.refl _ _).alloc (Nat.le_refl _) _)).low hL h0 hbn; replace c3 := hc1.cell 0 rfl 3 e3; replace c4 := hc1.cell 0 rfl 4 e4; replace c5 := hc1.cell 0 rfl 5 e5; clear hrn hbn)
                | (refine app_e rfl (.tmp 49) (.tmp 54) rfl w1.heap.size _ _ rfl (hr.more _) _ (tM, ky) rfl (en_range _ (tM, ky) _ rfl) (by simp) (Nat.le_trans hbs (by simp)) ?_; intro vn wn hrn hbn; replace hr := hrn; replace hbs := Nat.le_trans (Nat.le_trans hbs (by simp)) hbn.size; replace hc1 := (hc1.call ((Below.refl _ _).alloc (Nat.le_refl _) _)).low hL h0 hbn; replace c3 := hc1.cell 0 rfl 3 e3; replace c4 := hc1.cell 0 rfl 4 e4; replace c5 := hc1.cell 0 rfl 5 e5; clear hrn hbn))
              go_ret
              exact ⟨_, rfl, hr.ents (by simp), hc1.bel⟩
      · skip
        cases hk
        · replace hS : [(tC, s0), (tL, s0)] ++ [(tJ, s0)] ++ [(tM, sn)] = S := hS
          subst hS
          go_enter Tryz.func10, Tryz.ntmps10
          go_wp2_with (first
            | (refine v_box rfl 28 (.tmp 0) rfl C rfl hc0 ?_; intro w1 N1 hc1 _; have hN1 := (hc1.holds _ (List.mem_cons_self ..)).2.1; have hL : ∀ x ∈ [(N1, 28, C)], x.1 < w1.heap.size := (fun x hx => by rw [List.mem_singleton] at hx; subst hx; exact hN1); have h0 := hc1.bel.size; clear hc0)
            | (refine v_load rfl 28 (.tmp 1) rfl 0 rfl hc1 rfl _ Tryz.underlying28 rfl (sz28 hE) ?_)
            | (go_at_call 11; refine (kf _).mono ?_; rintro r w2 ⟨rfl, hb2⟩; have hbs := hb2.size; have hr : RowE w1.heap.size (w2.alloc (.cells #[.string tC, .string s0, .string s0, .string tL, .string s0, .string s0] 53)) (.slice (some ⟨w2.heap.size, 0, none⟩) 2 2) [(tC, s0), (tL, s0)] := row_new w2 _ _ 2 _ hbs rfl rfl (by decide); replace hbs : w1.heap.size ≤ (w2.alloc (.cells #[.string tC, .string s0, .string s0, .string tL, .string s0, .string s0] 53)).heap.size := Nat.le_trans hbs (by simp); replace hc1 := (hc1.call hb2).call ((Below.refl _ _).alloc (Nat.le_refl _) (.cells #[.string tC, .string s0, .string s0, .string tL, .string s0, .string s0] 53)); have c1 := hc1.cell 0 rfl 1 e1; clear hb2 kf)
            | (refine v_part rfl 26 (.tmp 14) rfl 0 D rfl hc1 rfl hin _ Tryz.underlying26 rfl (sz26 d6) ?_)
            | (go_at_call 28; refine (kw _ (hB.trans (hc1.bel.mono hB.size))).mono ?_; rintro r w3 ⟨rfl, hb3⟩; replace hr := hr.call hb3; replace hbs := Nat.le_trans hbs hb3.size; replace hc1 := hc1.call hb3; have c3 := hc1.cell 0 rfl 3 e3; have c4 := hc1.cell 0 rfl 4 e4; have c5 := hc1.cell 0 rfl 5 e5; clear hb3 kw c1)
            | (refine app_e rfl (.tmp 26) (.tmp 28) rfl w1.heap.size _ _ rfl (hr.more _) _ (tJ, s0) rfl (en_range _ (tJ, s0) _ rfl) (by simp) (Nat.le_trans hbs (by simp)) ?_; intro vn wn hrn hbn; replace hr := hrn; replace hbs := Nat.le_trans (Nat.le_trans hbs (by simp)) hbn.size; replace hc1 := (hc1.call ((Below.refl _ _).alloc (Nat.le_refl _) _)).low hL h0 hbn; replace c3 := hc1.cell 0 rfl 3 e3; replace c4 := hc1.cell 0 rfl 4 e4; replace c5 := hc1.cell 0 rfl 5 e5; clear hrn hbn)
            | (go_at_call 29; refine (kc _ (by first | exact s3 | exact s5) _).mono ?_; rintro r wn ⟨rfl, hbn⟩; replace hr := hr.call hbn; replace hbs := Nat.le_trans hbs hbn.size; replace hc1 := hc1.call hbn; replace c3 := hc1.cell 0 rfl 3 e3; replace c4 := hc1.cell 0 rfl 4 e4; replace c5 := hc1.cell 0 rfl 5 e5; clear hbn)
            | (refine app_e rfl (.tmp 30) (.tmp 35) rfl w1.heap.size _ _ rfl (hr.more _) _ (tM, sn) rfl (en_range _ (tM, sn) _ rfl) (by simp) (Nat.le_trans hbs (by simp)) ?_; intro vn wn hrn hbn; replace hr := hrn; replace hbs := Nat.le_trans (Nat.le_trans hbs (by simp)) hbn.size; replace hc1 := (hc1.call ((Below.refl _ _).alloc (Nat.le_refl _) _)).low hL h0 hbn; replace c3 := hc1.cell 0 rfl 3 e3; replace c4 := hc1.cell 0 rfl 4 e4; replace c5 := hc1.cell 0 rfl 5 e5; clear hrn hbn)
            | (refine app_e rfl (.tmp 49) (.tmp 54) rfl w1.heap.size _ _ rfl (hr.more _) _ (tM, ky) rfl (en_range _ (tM, ky) _ rfl) (by simp) (Nat.le_trans hbs (by simp)) ?_; intro vn wn hrn hbn; replace hr := hrn; replace hbs := Nat.le_trans (Nat.le_trans hbs (by simp)) hbn.size; replace hc1 := (hc1.call ((Below.refl _ _).alloc (Nat.le_refl _) _)).low hL h0 hbn; replace c3 := hc1.cell 0 rfl 3 e3; replace c4 := hc1.cell 0 rfl 4 e4; replace c5 := hc1.cell 0 rfl 5 e5; clear hrn hbn))
          go_ret
          exact ⟨_, rfl, hr.ents (by simp), hc1.bel⟩
        · cases K
          · replace hS : [(tC, s0), (tL, s0)] ++ [(tJ, s0)] ++ [(tM, sn)] ++ [(tM, ky)] = S := hS
            subst hS
            go_enter Tryz.func10, Tryz.ntmps10
            go_wp2_with (first
              | (refine v_box rfl 28 (.tmp 0) rfl C rfl hc0 ?_; intro w1 N1 hc1 _; have hN1 := (hc1.holds _ (List.mem_cons_self ..)).2.1; have hL : ∀ x ∈ [(N1, 28, C)], x.1 < w1.heap.size := (fun x hx => by rw [List.mem_singleton] at hx; subst hx; exact hN1); have h0 := hc1.bel.size; clear hc0)
              | (refine v_load rfl 28 (.tmp 1) rfl 0 rfl hc1 rfl _ Tryz.underlying28 rfl (sz28 hE) ?_)
              | (go_at_call 11; refine (kf _).mono ?_; rintro r w2 ⟨rfl, hb2⟩; have hbs := hb2.size; have hr : RowE w1.heap.size (w2.alloc (.cells #[.string tC, .string s0, .string s0, .string tL, .string s0, .string s0] 53)) (.slice (some ⟨w2.heap.size, 0, none⟩) 2 2) [(tC, s0), (tL, s0)] := row_new w2 _ _ 2 _ hbs rfl rfl (by decide); replace hbs : w1.heap.size ≤ (w2.alloc (.cells #[.string tC, .string s0, .string s0, .string tL, .string s0, .string s0] 53)).heap.size := Nat.le_trans hbs (by simp); replace hc1 := (hc1.call hb2).call ((Below.refl _ _).alloc (Nat.le_refl _) (.cells #[.string tC, .string s0, .string s0, .string tL, .string s0, .string s0] 53)); have c1 := hc1.cell 0 rfl 1 e1; clear hb2 kf)
              | (refine v_part rfl 26 (.tmp 14) rfl 0 D rfl hc1 rfl hin _ Tryz.underlying26 rfl (sz26 d6) ?_)
              | (go_at_call 28; refine (kw _ (hB.trans (hc1.bel.mono hB.size))).mono ?_; rintro r w3 ⟨rfl, hb3⟩; replace hr := hr.call hb3; replace hbs := Nat.le_trans hbs hb3.size; replace hc1 := hc1.call hb3; have c3 := hc1.cell 0 rfl 3 e3; have c4 := hc1.cell 0 rfl 4 e4; have c5 := hc1.cell 0 rfl 5 e5; clear hb3 kw c1)
              | (refine app_e rfl (.tmp 26) (.tmp 28) rfl w1.heap.size _ _ rfl (hr.more _) _ (tJ, s0) rfl (en_range _ (tJ, s0) _ rfl) (by simp) (Nat.le_trans hbs (by simp)) ?_; intro vn wn hrn hbn; replace hr := hrn; replace hbs := Nat.le_trans (Nat.le_trans hbs (by simp)) hbn.size; replace hc1 := (hc1.call ((Below.refl _ _).alloc (Nat.le_refl _) _)).low hL h0 hbn; replace c3 := hc1.cell 0 rfl 3 e3; replace c4 := hc1.cell 0 rfl 4 e4; replace c5 := hc1.cell 0 rfl 5 e5; clear hrn hbn)
              | (go_at_call 29; refine (kc _ (by first | exact s3 | exact s5) _).mono ?_; rintro r wn ⟨rfl, hbn⟩; replace hr := hr.call hbn; replace hbs := Nat.le_trans hbs hbn.size; replace hc1 := hc1.call hbn; replace c3 := hc1.cell 0 rfl 3 e3; replace c4 := hc1.cell 0 rfl 4 e4; replace c5 := hc1.cell 0 rfl 5 e5; clear hbn)
              | (refine app_e rfl (.tmp 30) (.tmp 35) rfl w1.heap.size _ _ rfl (hr.more _) _ (tM, sn) rfl (en_range _ (tM, sn) _ rfl) (by simp) (Nat.le_trans hbs (by simp)) ?_; intro vn wn hrn hbn; replace hr := hrn; replace hbs := Nat.le_trans (Nat.le_trans hbs (by simp)) hbn.size; replace hc1 := (hc1.call ((Below.refl _ _).alloc (Nat.le_refl _) _)).low hL h0 hbn; replace c3 := hc1.cell 0 rfl 3 e3; replace c4 := hc1.cell 0 rfl 4 e4; replace c5 := hc1.cell 0 rfl 5 e5; clear hrn hbn)
              | (refine app_e rfl (.tmp 49) (.tmp 54) rfl w1.heap.size _ _ rfl (hr.more _) _ (tM, ky) rfl (en_range _ (tM, ky) _ rfl) (by simp) (Nat.le_trans hbs (by simp)) ?_; intro vn wn hrn hbn; replace hr := hrn; replace hbs := Nat.le_trans (Nat.le_trans hbs (by simp)) hbn.size; replace hc1 := (hc1.call ((Below.refl _ _).alloc (Nat.le_refl _) _)).low hL h0 hbn; replace c3 := hc1.cell 0 rfl 3 e3; replace c4 := hc1.cell 0 rfl 4 e4; replace c5 := hc1.cell 0 rfl 5 e5; clear hrn hbn))
            go_ret
            exact ⟨_, rfl, hr.ents (by simp), hc1.bel⟩
          · replace hS : [(tC, s0), (tL, s0)] ++ [(tJ, s0)] ++ [(tM, sn)] = S := hS
            subst hS
            go_enter Tryz.func10, Tryz.ntmps10
            go_wp2_with (first
              | (refine v_box rfl 28 (.tmp 0) rfl C rfl hc0 ?_; intro w1 N1 hc1 _; have hN1 := (hc1.holds _ (List.mem_cons_self ..)).2.1; have hL : ∀ x ∈ [(N1, 28, C)], x.1 < w1.heap.size := (fun x hx => by rw [List.mem_singleton] at hx; subst hx; exact hN1); have h0 := hc1.bel.size; clear hc0)
              | (refine v_load rfl 28 (.tmp 1) rfl 0 rfl hc1 rfl _ Tryz.underlying28 rfl (sz28 hE) ?_)
              | (go_at_call 11; refine (kf _).mono ?_; rintro r w2 ⟨rfl, hb2⟩; have hbs := hb2.size; have hr : RowE w1.heap.size (w2.alloc (.cells #[.string tC, .string s0, .string s0, .string tL, .string s0, .string s0] 53)) (.slice (some ⟨w2.heap.size, 0, none⟩) 2 2) [(tC, s0), (tL, s0)] := row_new w2 _ _ 2 _ hbs rfl rfl (by decide); replace hbs : w1.heap.size ≤ (w2.alloc (.cells #[.string tC, .string s0, .string s0, .string tL, .string s0, .string s0] 53)).heap.size := Nat.le_trans hbs (by simp); replace hc1 := (hc1.call hb2).call ((Below.refl _ _).alloc (Nat.le_refl _) (.cells #[.string tC, .string s0, .string s0, .string tL, .string s0, .string s0] 53)); have c1 := hc1.cell 0 rfl 1 e1; clear hb2 kf)
              | (refine v_part rfl 26 (.tmp 14) rfl 0 D rfl hc1 rfl hin _ Tryz.underlying26 rfl (sz26 d6) ?_)
              | (go_at_call 28; refine (kw _ (hB.trans (hc1.bel.mono hB.size))).mono ?_; rintro r w3 ⟨rfl, hb3⟩; replace hr := hr.call hb3; replace hbs := Nat.le_trans hbs hb3.size; replace hc1 := hc1.call hb3; have c3 := hc1.cell 0 rfl 3 e3; have c4 := hc1.cell 0 rfl 4 e4; have c5 := hc1.cell 0 rfl 5 e5; clear hb3 kw c1)
              | (refine app_e rfl (.tmp 26) (.tmp 28) rfl w1.heap.size _ _ rfl (hr.more _) _ (tJ, s0) rfl (en_range _ (tJ, s0) _ rfl) (by simp) (Nat.le_trans hbs (by simp)) ?_; intro vn wn hrn hbn; replace hr := hrn; replace hbs := Nat.le_trans (Nat.le_trans hbs (by simp)) hbn.size; replace hc1 := (hc1.call ((Below.refl _ _).alloc (Nat.le_refl _) _)).low hL h0 hbn; replace c3 := hc1.cell 0 rfl 3 e3; replace c4 := hc1.cell 0 rfl 4 e4; replace c5 := hc1.cell 0 rfl 5 e5; clear hrn hbn)
              | (go_at_call 29; refine (kc _ (by first | exact s3 | exact s5) _).mono ?_; rintro r wn ⟨rfl, hbn⟩; replace hr := hr.call hbn; replace hbs := Nat.le_trans hbs hbn.size; replace hc1 := hc1.call hbn; replace c3 := hc1.cell 0 rfl 3 e3; replace c4 := hc1.cell 0 rfl 4 e4; replace c5 := hc1.cell 0 rfl 5 e5; clear hbn)
              | (refine app_e rfl (.tmp 30) (.tmp 35) rfl w1.heap.size _ _ rfl (hr.more _) _ (tM, sn) rfl (en_range _ (tM, sn) _ rfl) (by simp) (Nat.le_trans hbs (by simp)) ?_; intro vn wn hrn hbn; replace hr := hrn; replace hbs := Nat.le_trans (Nat.le_trans hbs (by simp)) hbn.size; replace hc1 := (hc1.call ((Below.refl _ _).alloc (Nat.le_refl _) _)).low hL h0 hbn; replace c3 := hc1.cell 0 rfl 3 e3; replace c4 := hc1.cell 0 rfl 4 e4; replace c5 := hc1.cell 0 rfl 5 e5; clear hrn hbn)
              | (refine app_e rfl (.tmp 49) (.tmp 54) rfl w1.heap.size _ _ rfl (hr.more _) _ (tM, ky) rfl (en_range _ (tM, ky) _ rfl) (by simp) (Nat.le_trans hbs (by simp)) ?_; intro vn wn hrn hbn; replace hr := hrn; replace hbs := Nat.le_trans (Nat.le_trans hbs (by simp)) hbn.size; replace hc1 := (hc1.call ((Below.refl _ _).alloc (Nat.le_refl _) _)).low hL h0 hbn; replace c3 := hc1.cell 0 rfl 3 e3; replace c4 := hc1.cell 0 rfl 4 e4; replace c5 := hc1.cell 0 rfl 5 e5; clear hrn hbn))
            go_ret
            exact ⟨_, rfl, hr.ents (by simp), hc1.bel⟩
  · replace hS : [] = S := hS
    subst hS
    go_enter Tryz.func10, Tryz.ntmps10
    go_wp2_with (first
      | (refine v_box rfl 28 (.tmp 0) rfl C rfl hc0 ?_; intro w1 N1 hc1 _; have hN1 := (hc1.holds _ (List.mem_cons_self ..)).2.1; have hL : ∀ x ∈ [(N1, 28, C)], x.1 < w1.heap.size := (fun x hx => by rw [List.mem_singleton] at hx; subst hx; exact hN1); have h0 := hc1.bel.size; clear hc0)
      | (refine v_load rfl 28 (.tmp 1) rfl 0 rfl hc1 rfl _ Tryz.underlying28 rfl (sz28 hE) ?_)
      | (go_at_call 11; refine (kf _).mono ?_; rintro r w2 ⟨rfl, hb2⟩; replace hc1 := hc1.call hb2))
    go_ret
    exact ⟨_, rfl, ⟨by decide, none, 0, rfl, fun i h => by cases h⟩, hc1.bel⟩

end Go.Proofs.YthplcnbfpcndbaaGreatDoor

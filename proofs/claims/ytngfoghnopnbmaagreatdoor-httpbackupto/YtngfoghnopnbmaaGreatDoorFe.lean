/- The small functions of a feed: what is awaited, what is kept. -/
import Derived.Test.YtngfoghnopnbmaaGreatDoorFd
import Derived.Laws.EntriesVeiled
namespace Go.Proofs.YtngfoghnopnbmaaGreatDoor
open Go.RowKit
namespace Ht
open Bw

theorem allocB' (W : World) (o : Obj) : Below W.heap.size W (W.alloc o) := (Below.refl _ _).alloc (Nat.le_refl _) _
def tbl : Array Value := #[.nilFunc, .func (.func 91) #[] #[], .func (.func 92) #[] #[], .func (.func 93) #[] #[], .func (.func 94) #[] #[], .func (.func 95) #[] #[], .func (.func 96) #[] #[], .func (.func 97) #[] #[], .func (.func 98) #[] #[], .func (.func 99) #[] #[], .func (.func 100) #[] #[], .func (.func 101) #[] #[], .func (.func 102) #[] #[], .func (.func 103) #[] #[], .func (.func 104) #[] #[], .func (.func 105) #[] #[], .func (.func 106) #[] #[], .func (.func 107) #[] #[], .func (.func 108) #[] #[], .func (.func 109) #[] #[]]
theorem idx_1 (w : World) : (Instr.index 135 (.agg tbl) (.int .i64 1)).run Tryz.prog w = .ok (fnOf 1) w := by kernel_rfl
theorem idx_2 (w : World) : (Instr.index 135 (.agg tbl) (.int .i64 2)).run Tryz.prog w = .ok (fnOf 2) w := by kernel_rfl
theorem idx_3 (w : World) : (Instr.index 135 (.agg tbl) (.int .i64 3)).run Tryz.prog w = .ok (fnOf 3) w := by kernel_rfl
theorem idx_4 (w : World) : (Instr.index 135 (.agg tbl) (.int .i64 4)).run Tryz.prog w = .ok (fnOf 4) w := by kernel_rfl
theorem idx_5 (w : World) : (Instr.index 135 (.agg tbl) (.int .i64 5)).run Tryz.prog w = .ok (fnOf 5) w := by kernel_rfl
theorem idx_6 (w : World) : (Instr.index 135 (.agg tbl) (.int .i64 6)).run Tryz.prog w = .ok (fnOf 6) w := by kernel_rfl
theorem idx_7 (w : World) : (Instr.index 135 (.agg tbl) (.int .i64 7)).run Tryz.prog w = .ok (fnOf 7) w := by kernel_rfl
theorem idx_8 (w : World) : (Instr.index 135 (.agg tbl) (.int .i64 8)).run Tryz.prog w = .ok (fnOf 8) w := by kernel_rfl
theorem idx_9 (w : World) : (Instr.index 135 (.agg tbl) (.int .i64 9)).run Tryz.prog w = .ok (fnOf 9) w := by kernel_rfl
theorem idx_10 (w : World) : (Instr.index 135 (.agg tbl) (.int .i64 10)).run Tryz.prog w = .ok (fnOf 10) w := by kernel_rfl
theorem idx_11 (w : World) : (Instr.index 135 (.agg tbl) (.int .i64 11)).run Tryz.prog w = .ok (fnOf 11) w := by kernel_rfl
theorem idx_12 (w : World) : (Instr.index 135 (.agg tbl) (.int .i64 12)).run Tryz.prog w = .ok (fnOf 12) w := by kernel_rfl
theorem idx_13 (w : World) : (Instr.index 135 (.agg tbl) (.int .i64 13)).run Tryz.prog w = .ok (fnOf 13) w := by kernel_rfl
theorem idx_14 (w : World) : (Instr.index 135 (.agg tbl) (.int .i64 14)).run Tryz.prog w = .ok (fnOf 14) w := by kernel_rfl
theorem idx_15 (w : World) : (Instr.index 135 (.agg tbl) (.int .i64 15)).run Tryz.prog w = .ok (fnOf 15) w := by kernel_rfl
theorem idx_16 (w : World) : (Instr.index 135 (.agg tbl) (.int .i64 16)).run Tryz.prog w = .ok (fnOf 16) w := by kernel_rfl
theorem idx_17 (w : World) : (Instr.index 135 (.agg tbl) (.int .i64 17)).run Tryz.prog w = .ok (fnOf 17) w := by kernel_rfl
theorem idx_18 (w : World) : (Instr.index 135 (.agg tbl) (.int .i64 18)).run Tryz.prog w = .ok (fnOf 18) w := by kernel_rfl
theorem idx_19 (w : World) : (Instr.index 135 (.agg tbl) (.int .i64 19)).run Tryz.prog w = .ok (fnOf 19) w := by kernel_rfl
theorem idx135 (n : Int) (h1 : 1 ≤ n) (h2 : n ≤ 19) (w : World) : (Instr.index 135 (.agg #[.nilFunc, .func (.func 91) #[] #[], .func (.func 92) #[] #[], .func (.func 93) #[] #[], .func (.func 94) #[] #[], .func (.func 95) #[] #[], .func (.func 96) #[] #[], .func (.func 97) #[] #[], .func (.func 98) #[] #[], .func (.func 99) #[] #[], .func (.func 100) #[] #[], .func (.func 101) #[] #[], .func (.func 102) #[] #[], .func (.func 103) #[] #[], .func (.func 104) #[] #[], .func (.func 105) #[] #[], .func (.func 106) #[] #[], .func (.func 107) #[] #[], .func (.func 108) #[] #[], .func (.func 109) #[] #[]]) (.int .i64 n)).run Tryz.prog w = .ok (fnOf n) w := by
  have h : n = 1 ∨ n = 2 ∨ n = 3 ∨ n = 4 ∨ n = 5 ∨ n = 6 ∨ n = 7 ∨ n = 8 ∨ n = 9 ∨ n = 10 ∨ n = 11 ∨ n = 12 ∨ n = 13 ∨ n = 14 ∨ n = 15 ∨ n = 16 ∨ n = 17 ∨ n = 18 ∨ n = 19 := by omega
  rcases h with rfl | rfl | rfl | rfl | rfl | rfl | rfl | rfl | rfl | rfl | rfl | rfl | rfl | rfl | rfl | rfl | rfl | rfl | rfl
  · exact idx_1 w
  · exact idx_2 w
  · exact idx_3 w
  · exact idx_4 w
  · exact idx_5 w
  · exact idx_6 w
  · exact idx_7 w
  · exact idx_8 w
  · exact idx_9 w
  · exact idx_10 w
  · exact idx_11 w
  · exact idx_12 w
  · exact idx_13 w
  · exact idx_14 w
  · exact idx_15 w
  · exact idx_16 w
  · exact idx_17 w
  · exact idx_18 w
  · exact idx_19 w
set_option maxRecDepth 20000 in
set_option maxHeartbeats 4000000 in
theorem step54 (n : Int) (h1 : 1 ≤ n) (h2 : n ≤ 19) (w : World) : Calls Tryz.prog 54 #[.int .i64 n] w fun e w' => e = .returned (fnOf n) ∧ w' = w := by
  have hix := idx135 n h1 h2
  obtain ⟨F, hF⟩ : ∃ F, fnOf n = F := ⟨_, rfl⟩
  rw [hF] at hix ⊢
  clear hF
  go_enter Tryz.func54, Tryz.ntmps54
  go_wp2
  go_ret
  exact ⟨rfl, rfl⟩
section
variable {G : Nat → Prop} {base fb : Nat} {m : FM} {vt vh vb vw : Value} {zs : List Value} {w : World}
theorem fr_set (w : World) (i : Nat) (v : Value) : Fr (fun k => k = fb) w (w.setCell ⟨fb, i, none⟩ v) := Fr.setCell _ _ _ rfl
theorem frf_of {w' : World} (h : Fr (fun k => k = fb) w w') : Frf G base fb w w' := h.mono (fun _ _ e => .inl e)
set_option maxRecDepth 20000 in
set_option maxHeartbeats 1000000 in
theorem await31 (h : FA G base fb m vt vh vb vw zs w) (n : Int) (h1 : 1 ≤ n) (h2 : n ≤ 19) : Calls Tryz.prog 31 #[.pointer (some ⟨fb, 0, none⟩), .int .i64 n] w fun e w' => e = .returned (.tuple #[]) ∧ FA G base fb { m with wt := n } vt vh vb vw zs w' ∧ Frf G base fb w w' := by
  have q := step54 n h1 h2 w
  have c1 := h.at 1
  have c2 := h.at 2
  have z1 := h.fz 1
  have z2 := h.fz 2
  have H : Hid (FA G base fb { m with wt := n } vt vh vb vw zs ((w.setCell ⟨fb, 1, none⟩ (.int .i64 n)).setCell ⟨fb, 2, none⟩ (fnOf n)) ∧ Frf G base fb w ((w.setCell ⟨fb, 1, none⟩ (.int .i64 n)).setCell ⟨fb, 2, none⟩ (fnOf n))) := by
    have fr := (fr_set (fb := fb) w 1 (.int .i64 n)).and (fr_set _ 2 (fnOf n)) (fun _ _ x => x)
    exact ⟨h.upd fr (heap_set (heap_set h.c 1 _) 2 _) rfl rfl rfl rfl, frf_of fr⟩
  obtain ⟨F, hF⟩ : ∃ k, fnOf n = .func (.func k) #[] #[] := ⟨_, by unfold fnOf; rw [if_neg (by omega)]⟩
  rw [hF] at q H
  simp at c1 c2
  clear h hF
  go_enter Tryz.func31, Tryz.ntmps31
  go_wp2_with (go_at_call 54; refine q.mono ?_; rintro e w1 ⟨rfl, rfl⟩)
  go_end0
  exact ⟨rfl, H.out⟩
theorem FA.own_t (h : FA G base fb m vt vh vb vw zs w) : vt.ownBlock ≠ some fb := fun e => by
  have := (own_in h.t e).1
  have := h.f
  omega
theorem FA.own_h (h : FA G base fb m vt vh vb vw zs w) : vh.ownBlock ≠ some fb := fun e => by
  have := (own_in h.h e).1
  have := h.f
  omega
theorem FA.own_b (h : FA G base fb m vt vh vb vw zs w) : vb.ownBlock ≠ some fb := fun e => by
  have := (own_in h.b e).1
  have := h.f
  omega
theorem FA.own_o (h : FA G base fb m vt vh vb vw zs w) : vw.ownBlock ≠ some fb := fun e => by
  have := (own_in h.o e).1
  have := h.f
  omega
theorem blk_grown {w1 w3 : World} {v : Value} (h : FA G base fb m vt vh vb vw zs w) (h1 : Below w.heap.size w w1) (g : w1.grownBy w3 v.ownBlock) (hv : v.ownBlock ≠ some fb) : w3.heap[fb]? = w.heap[fb]? := by
  have hl := lt_of_block h.c
  have hs := h1.size
  rw [g.block fb (by omega) (fun e => hv e.symm), h1.block fb hl]
theorem cell_grown {w1 w3 : World} {v : Value} (h : FA G base fb m vt vh vb vw zs w) (h1 : Below w.heap.size w w1) (g : w1.grownBy w3 v.ownBlock) (hv : v.ownBlock ≠ some fb) (i : Nat) : w3.cell? ⟨fb, i, none⟩ = #[.bool m.ans, .int .i64 m.wt, fnOf m.wt, .int .i64 m.tk, .int .i64 m.hd, vt, .int .i64 m.lf, .string m.g.me, .string m.g.ta, .int .i64 m.g.st, .string m.g.re, vh, vb, vw][i]? := by
  rw [World.cell?_of_block (a := ⟨fb, i, none⟩) (blk_grown h h1 g hv)]
  exact h.at i
theorem fz_grown {w1 w3 : World} {v : Value} (h : FA G base fb m vt vh vb vw zs w) (h1 : Below w.heap.size w w1) (g : w1.grownBy w3 v.ownBlock) (hv : v.ownBlock ≠ some fb) (i : Nat) : w3.frozen? ⟨fb, i, none⟩ = false := by
  have e := (blk_grown h h1 g hv).trans h.c
  simp [World.frozen?, e]
theorem frf_grown {w1 w3 : World} {v : Value} (_h : FA G base fb m vt vh vb vw zs w) (h1 : Below w.heap.size w w1) (g : w1.grownBy w3 v.ownBlock) (hv : ∀ k, v.ownBlock = some k → base ≤ k ∧ ¬ G k) (i : Nat) (u : Value) : Frf G base fb w (w3.setCell ⟨fb, i, none⟩ u) :=
  ((Fr.of_below h1 : Frf G base fb w w1).and (Fr.grown (S := fun k => k = fb ∨ (base ≤ k ∧ ¬ G k)) g (fun k hk _ => .inr (hv k hk))) (fun _ _ x => x)).and (Fr.setCell (S := fun k => k = fb ∨ (base ≤ k ∧ ¬ G k)) w3 ⟨fb, i, none⟩ u (.inl rfl)) (fun _ _ x => x)
theorem one_sl (w : World) (c : UInt8) : SlM (w.alloc (.cells #[.int .u8 (c.toNat : Int)] 5)) (.slice (some ⟨w.heap.size, 0, none⟩) 1 1) [c] := by
  refine .inr ⟨w.heap.size, 0, 1, rfl, by simp, by simp, fun j hj => ?_⟩
  have hj0 : j = 0 := by simpa using hj
  subst hj0
  have e : (w.alloc (.cells #[.int .u8 (c.toNat : Int)] 5)).heap[w.heap.size]? = some (.cells #[.int .u8 (c.toNat : Int)] 5 (0, 0)) := heap_alloc_new _ _
  simp only [World.cell?, e, Nat.add_zero]
  rfl
set_option maxRecDepth 20000 in
set_option maxHeartbeats 1000000 in
theorem keep130 (h : FA G base fb m vt vh vb vw zs w) (c : UInt8) (hl : m.tx.length ≤ 1000000000) : Calls Tryz.prog 130 #[.pointer (some ⟨fb, 0, none⟩), .int .u8 (c.toNat : Int)] w fun e w' => e = .returned (.tuple #[]) ∧ FeedAt G base fb { m with tx := m.tx ++ [c] } w' ∧ Frf G base fb w w' := by
  have c5 := h.at 5
  simp at c5
  have hs := h.s
  have ha := allocB' w (.cells #[.int .u8 (c.toNat : Int)] 5)
  go_enter Tryz.func130, Tryz.ntmps130
  go_wp2_with (refine appb_at rfl (.tmp 8) (.tmp 10) rfl base vt m.tx rfl ((h.keep ha).t) (.slice (some ⟨w.heap.size, 0, none⟩) 1 1) [c] rfl (one_sl w c) (by simp; omega) (by simp; omega) ?_; intro v' w3 hr hg hloc; have H3 := h.text ha hg hr (hloc.imp id (fun e k hk => by rw [e] at hk; injection hk with hk; omega)); have hfb := h.own_t; have c5' := cell_grown h ha hg hfb 5; have z5' := fz_grown h ha hg hfb 5; have H2 : Hid (Frf G base fb w (w3.setCell ⟨fb, 5, none⟩ v')) := frf_grown h ha hg (fun _ hk => h.nt hk) 5 v'; obtain ⟨va, vl, vc, rfl⟩ : ∃ va vl vc, v' = .slice va vl vc := (by obtain ⟨a, c, e⟩ := hr.form; exact ⟨_, _, _, e⟩); have H : Hid _ := H3; clear hr hg hloc H3; simp at c5')
  go_end0
  exact ⟨rfl, ⟨_, _, _, _, _, H.out⟩, H2.out⟩
theorem text_nil (h : FA G base fb m vt vh vb vw zs w) : FA G base fb { m with tx := [] } (.slice none 0 0) vh vb vw zs (w.setCell ⟨fb, 5, none⟩ (.slice none 0 0)) :=
  h.text (w1 := w) (w3 := w) (Below.refl _ _) ⟨rfl, rfl, rfl, Nat.le_refl _, fun _ _ _ => rfl⟩ (RowB.nil _ _) (.inr (fun k hk => by cases hk))
set_option maxRecDepth 20000 in
set_option maxHeartbeats 1000000 in
theorem word131 (h : FA G base fb m vt vh vb vw zs w) : Calls Tryz.prog 131 #[.pointer (some ⟨fb, 0, none⟩)] w fun e w' => e = .returned (.string ⟨m.tx.toArray⟩) ∧ FA G base fb { m with tx := [] } (.slice none 0 0) vh vb vw zs w' ∧ Frf G base fb w w' := by
  have c5 := h.at 5
  simp at c5
  have z5 := h.fz 5
  have hcv := conv_sl h.t.slm
  have H : Hid _ := text_nil h
  have H2 : Hid (Frf G base fb w (w.setCell ⟨fb, 5, none⟩ (.slice none 0 0))) := frf_of (fr_set w 5 _)
  obtain ⟨va, vl, vc, rfl⟩ : ∃ va vl vc, vt = .slice va vl vc := by obtain ⟨a, c, e⟩ := h.t.form; exact ⟨_, _, _, e⟩
  clear h
  go_enter Tryz.func131, Tryz.ntmps131
  go_wp2
  go_ret
  exact ⟨rfl, H.out, H2.out⟩
/-- What is amiss. -/
def amissC (n : Int) : Int := if n = 4 then 11 else if n < 12 then 3 else 12
end
end Ht
end Go.Proofs.YtngfoghnopnbmaaGreatDoor

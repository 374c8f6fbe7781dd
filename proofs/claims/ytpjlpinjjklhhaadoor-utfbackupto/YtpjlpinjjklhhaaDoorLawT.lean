/- UtfTexts answers true at every slice of numbers, in every world that holds errors.errorType's handle: the walk of the statement itself; and how an argument of type []int is opened. -/
import Derived.Test.YtpjlpinjjklhhaaDoorRefT
import Derived.Test.YtpjlpinjjklhhaaDoorWit
import Derived.SizedLaws
namespace Go.Proofs.YtpjlpinjjklhhaaDoor
open Go.ChangeShapes Go.WideShapes Go.ChangeAt Go.RowKit
namespace RefW

set_option maxHeartbeats 4000000 in
theorem texts_ok (v0 : Value) (zs : List Int) (w : World) (hlen : zs.length ≤ 17592186044416) (hv : SlIs w v0 zs) (hb : badPt zs 0 = -1) :
    Calls Tryd.prog 4 #[v0] w fun e w' => e = .returned (.bool true) ∧ Below w.heap.size w w' := by
  have hb0 := Below.refl w.heap.size w
  have cT : ∀ W, Below w.heap.size w W → Calls Tryd.prog 15 #[v0] W fun e w' => e = .returned (.tuple #[.string (runesBytes zs), .nilIface]) ∧ Below W.heap.size W w' := fun W hW => by
    refine (text_any v0 zs W hlen (hv.below hW)).mono ?_
    rintro e w' ⟨t, v, rfl, h1, ⟨_, rfl, rfl⟩ | ⟨h2, _⟩⟩
    · exact ⟨rfl, h1⟩
    · exact absurd hb h2
  have cR : ∀ W, Below w.heap.size w W → Calls Tryd.prog 16 #[v0] W fun e w' => e = .returned (.tuple #[.string (runesBytes zs), .int .i64 (-1)]) ∧ Below W.heap.size W w' := fun W hW => by
    refine (rtext_any v0 zs W hlen (hv.below hW)).mono ?_
    rintro e w' ⟨t, rfl, h1, h2⟩
    rw [hb, h2 hb]
    exact ⟨rfl, h1⟩
  clear hv hb
  go_enter Tryd.func4, Tryd.ntmps4
  go_wp2_with (first
    | (go_at_call 9; refine (shown_any _).mono ?_; rintro e w1 ⟨rfl, hb1⟩; replace hb0 := hb0.trans (hb1.mono hb0.size); clear hb1)
    | (go_at_call 15; refine (cT _ hb0).mono ?_; rintro e w2 ⟨rfl, hb1⟩; replace hb0 := hb0.trans (hb1.mono hb0.size); clear hb1)
    | (go_at_call 16; refine (cR _ hb0).mono ?_; rintro e w3 ⟨rfl, hb1⟩; replace hb0 := hb0.trans (hb1.mono hb0.size); clear hb1))
  go_ret
  exact ⟨rfl, hb0⟩
set_option maxHeartbeats 4000000 in
theorem texts_bad (v0 : Value) (zs : List Int) (w : World) (hlen : zs.length ≤ 17592186044416) (hv : SlIs w v0 zs) (hg : ErrT w) (hb : badPt zs 0 ≠ -1) :
    Calls Tryd.prog 4 #[v0] w fun e w' => e = .returned (.bool true) ∧ Below w.heap.size w w' := by
  have hb0 := Below.refl w.heap.size w
  obtain ⟨N, hN⟩ : ∃ N, badPt zs 0 = N := ⟨_, rfl⟩
  have hn0 : 0 ≤ N := by rcases badPt_ge zs 0 with h | h <;> omega
  have cT : ∀ W, Below w.heap.size w W → Calls Tryd.prog 15 #[v0] W fun e w' => ∃ v, e = .returned (.tuple #[.string ⟨#[]⟩, v]) ∧ Below W.heap.size W w' ∧ FaultAt W.heap.size N v w' := fun W hW => by
    refine (text_any v0 zs W hlen (hv.below hW)).mono ?_
    rintro e w' ⟨t, v, rfl, h1, ⟨h2, _⟩ | ⟨_, rfl, h3⟩⟩
    · exact absurd h2 hb
    · rw [hN] at h3
      exact ⟨v, rfl, h1, h3⟩
  have cR : ∀ W, Below w.heap.size w W → Calls Tryd.prog 16 #[v0] W fun e w' => ∃ t, e = .returned (.tuple #[.string t, .int .i64 N]) ∧ Below W.heap.size W w' := fun W hW => by
    refine (rtext_any v0 zs W hlen (hv.below hW)).mono ?_
    rintro e w' ⟨t, rfl, h1, _⟩
    rw [hN]
    exact ⟨t, rfl, h1⟩
  clear hv hb hN
  go_enter Tryd.func4, Tryd.ntmps4
  go_wp2_with (first
    | (go_at_call 9; refine (shown_any _).mono ?_; rintro e w1 ⟨rfl, hb1⟩; replace hb0 := hb0.trans (hb1.mono hb0.size); clear hb1)
    | (go_at_call 15; refine (cT _ hb0).mono ?_; rintro e w2 ⟨v, rfl, hb1, hF⟩; replace hb0 := hb0.trans (hb1.mono hb0.size); clear hb1)
    | (go_at_call 16; refine (cR _ hb0).mono ?_; rintro e w3 ⟨t, rfl, hb1⟩; replace hb0 := hb0.trans (hb1.mono hb0.size); replace hF := FaultAt.below hF hb1; clear hb1)
    | (go_at_call 13; refine (Is_fault hF (hg.below hb0)).mono ?_; rintro e w5 ⟨rfl, hb1⟩; replace hb0 := hb0.trans (hb1.mono hb0.size); clear hb1))
  go_ret
  exact ⟨rfl, hb0⟩
theorem texts_law (v0 : Value) (zs : List Int) (w : World) (hlen : zs.length ≤ 17592186044416) (hv : SlIs w v0 zs) (hg : ErrT w) :
    Calls Tryd.prog 4 #[v0] w fun e w' => e = .returned (.bool true) ∧ Below w.heap.size w w' := by
  by_cases hb : badPt zs 0 = -1
  · exact texts_ok v0 zs w hlen hv hb
  · exact texts_bad v0 zs w hlen hv hg hb

theorem cells3 : Tryd.prog.cellsOf 3 = 1 := by kernel_rfl
theorem bytes3 : Tryd.prog.bytesOf 3 = 8 := by kernel_rfl
theorem laidOut : laidOutB Tryd.prog = true := by kernel_rfl
theorem add_off (b off j : Nat) : (⟨b, off, none⟩ : Addr).add j = ⟨b, off + j, none⟩ := by
  unfold Addr.add
  by_cases hj : j = 0
  · subst hj; rfl
  · simp [hj]

set_option maxRecDepth 100000 in
/-- An argument of type []int: the numbers that it holds, and what it reads as. -/
theorem open_sl {H : Type} {enc : TypeId × Value → H} {W : World} {base : Nat} {v : Value} {d : DataW H} {ps : List MemPlace}
    (hval : Value.okWide Tryd.prog W .any base 24 v) (h : DataW.Trod enc Tryd.prog W 0 (fun _ => true) true 24 v d ps) :
    ∃ zs : List Int, SlIs W v zs ∧ ((d = .nil ∧ zs = []) ∨ ∃ sp : List Int, d = .slice (lits .i64 zs) (lits .i64 sp)) := by
  obtain ⟨a0, len, cap, rfl⟩ := okWide_slice Tryd.underlying24 hval
  obtain ⟨fuel, hf⟩ := h
  rcases open_ints Tryd.underlying24 Tryd.underlying3 cells3 hf with ⟨hcs, hx⟩ | ⟨a, len', cap', zs, hcs, _, hl, hm, hz, hx, hcell, hwz⟩
  · simp [Value.cells] at hcs
    obtain ⟨rfl, rfl, rfl⟩ := hcs
    simp only [Prod.mk.injEq] at hx
    exact ⟨[], .inl ⟨rfl, none, 0, rfl⟩, .inl ⟨hx.1, rfl⟩⟩
  · simp [Value.cells] at hcs
    obtain ⟨rfl, rfl, rfl⟩ := hcs
    simp only [Prod.mk.injEq] at hx
    simp only [if_true] at hz
    refine ⟨zs.take len, ?_, .inr ⟨zs.drop len, hx.1⟩⟩
    by_cases hl0 : len = 0
    · subst hl0
      exact .inl ⟨by simp, _, _, rfl⟩
    · obtain ⟨b, off, spot⟩ := a
      have hspot : spot = none := by simpa [Addr.add] using World.cell?_spot (hcell 0 (by omega))
      subst hspot
      have hle : (zs.take len).length = len := by rw [List.length_take]; omega
      refine .inr ⟨b, off, cap, by rw [hle], fun j hj => ?_⟩
      rw [hle] at hj
      rw [← add_off, hcell j (by omega), List.getElem?_take, if_pos hj, List.getD_eq_getElem?_getD]
end RefW
end Go.Proofs.YtpjlpinjjklhhaaDoor

/- UtfPoints answers true at every string of bounded length, in every world that holds errors.errorType's handle: the walk of the statement itself. -/
import Derived.Test.YtpjlpinjjklhhaaDoorInts
import Derived.Test.YtpjlpinjjklhhaaDoorIsB
namespace Go.Proofs.YtpjlpinjjklhhaaDoor
open Go.RowKit
namespace RefW

/-- errors.errorType's cell. -/
def ErrT (w : World) : Prop := w.cell? ⟨0, 0, none⟩ = some (.iface 87 (.agg #[.pointer (some ⟨3, 26, none⟩)]))
theorem ErrT.lt {w : World} (h : ErrT w) : 0 < w.heap.size := by
  rcases Nat.eq_zero_or_pos w.heap.size with h0 | h1
  · simp [ErrT, World.cell?, h0] at h
  · exact h1
theorem ErrT.below {w w' : World} (h : ErrT w) (hb : Below w.heap.size w w') : ErrT w' := (hb.cell (p := ⟨0, 0, none⟩) h.lt).trans h
theorem FaultAt.below {B : Nat} {n : Int} {v : Value} {w w' : World} (h : FaultAt B n v w) (hb : Below w.heap.size w w') : FaultAt B n v w' := by
  obtain ⟨b, h1, h2, h3⟩ := h
  exact ⟨b, h1, h2, (hb.block b (lt_of_block h3)).trans h3⟩
theorem Is_fault {B : Nat} {n : Int} {v : Value} {w : World} (h : FaultAt B n v w) (hg : ErrT w) :
    Calls Tryd.prog 13 #[v, .int .i64 n, .int .i64 7] w fun ev w' => ev = .returned (.bool true) ∧ Below w.heap.size w w' := by
  obtain ⟨b, rfl, h2, h3⟩ := h
  exact AsW.Is_any b n w h3 hg

set_option maxHeartbeats 4000000 in
theorem points_law_bad (s : ByteArray) (w : World) (hs : s.size ≤ 17592186044416) (hg : ErrT w) (hb : badAt s 0 ≠ -1) :
    Calls Tryd.prog 3 #[.string s] w fun e w' => e = .returned (.bool true) ∧ Below w.heap.size w w' := by
  have hbd := badAt_bd s
  have hb0 := Below.refl w.heap.size w
  obtain ⟨N, hN⟩ : ∃ N, badAt s 0 = N := ⟨_, rfl⟩
  have cB := fun W => bad_any s W (by omega)
  have cP := fun W => points_bad s W (by omega) hb
  have cR := fun W => points_any s W hs
  rw [hN] at cB cP cR hbd hb
  clear hN
  have hn0 : 0 ≤ N := by omega
  have hn1 : (N != N) = false := by simp
  go_enter Tryd.func3, Tryd.ntmps3
  go_wp2_with (first
    | (go_at_call 9; refine (shown_any _).mono ?_; rintro e w1 ⟨rfl, hb1⟩; replace hb0 := hb0.trans (hb1.mono hb0.size); clear hb1)
    | (go_at_call 10; refine (cB _).mono ?_; rintro e w2 ⟨rfl, hb1⟩; replace hb0 := hb0.trans (hb1.mono hb0.size); clear hb1)
    | (go_at_call 11; refine (cP _).mono ?_; rintro e w3 ⟨v, rfl, hF, hb1⟩; replace hb0 := hb0.trans (hb1.mono hb0.size); clear hb1)
    | (go_at_call 12; refine (cR _).mono ?_; rintro e w4 ⟨v4, n4, xs4, rfl, _, hb1, _⟩; replace hb0 := hb0.trans (hb1.mono hb0.size); replace hF := FaultAt.below hF hb1; clear hb1)
    | (go_at_call 13; refine (Is_fault hF (hg.below hb0)).mono ?_; rintro e w5 ⟨rfl, hb1⟩; replace hb0 := hb0.trans (hb1.mono hb0.size); clear hb1))
  go_ret
  exact ⟨rfl, hb0⟩

set_option maxHeartbeats 4000000 in
theorem points_law_ok (s : ByteArray) (w : World) (hs : s.size ≤ 17592186044416) (hb : badAt s 0 = -1) (hl : (ptsAt s 0).length ≤ 17592186044416) :
    Calls Tryd.prog 3 #[.string s] w fun e w' => e = .returned (.bool true) ∧ Below w.heap.size w w' := by
  have hb0 := Below.refl w.heap.size w
  have cB := fun W => bad_any s W (by omega)
  have cP := fun W => points_ok s W hs hb
  have cR := fun W => points_any s W hs
  rw [hb] at cB cR
  clear hb
  go_enter Tryd.func3, Tryd.ntmps3
  go_wp2_with (first
    | (go_at_call 9; refine (shown_any _).mono ?_; rintro e w1 ⟨rfl, hb1⟩; replace hb0 := hb0.trans (hb1.mono hb0.size); clear hb1)
    | (go_at_call 10; refine (cB _).mono ?_; rintro e w2 ⟨rfl, hb1⟩; replace hb0 := hb0.trans (hb1.mono hb0.size); clear hb1)
    | (go_at_call 11; refine (cP _).mono ?_; rintro e w3 ⟨v, rfl, hown, hb1⟩; replace hb0 := hb0.trans (hb1.mono hb0.size); replace hown := SlIs.own hown; clear hb1)
    | (go_at_call 12; refine (cR _).mono ?_; rintro e w4 ⟨v4, n4, xs4, rfl, hown4, hb1, hx4⟩; replace hb0 := hb0.trans (hb1.mono hb0.size); replace hown := hown.below hb1; obtain ⟨rfl, rfl⟩ := hx4 (by first | trivial | rfl); replace hown4 := SlIs.own hown4; clear hb1 hx4)
    | (go_at_call 14; refine (ints_any _ _ _ _ (by rw [List.length_map]; omega) hown hown4).mono ?_; rintro e w5 ⟨rfl, hb1⟩; replace hb0 := hb0.trans (hb1.mono hb0.size); clear hb1))
  go_ret
  exact ⟨rfl, hb0⟩
theorem ptsF_len (s : ByteArray) : ∀ f pos, (ptsF s f pos).length ≤ f
  | 0, _ => Nat.le_refl _
  | f + 1, pos => by
    unfold ptsF
    split
    · have := ptsF_len s f (pos + (Utf8.decode s pos).2)
      simp; omega
    · simp
theorem ptsAt_len (s : ByteArray) : (ptsAt s 0).length ≤ s.size := by
  have := ptsF_len s (s.size - 0) 0
  unfold ptsAt
  omega
theorem points_law (s : ByteArray) (w : World) (hs : s.size ≤ 17592186044416) (hg : ErrT w) :
    Calls Tryd.prog 3 #[.string s] w fun e w' => e = .returned (.bool true) ∧ Below w.heap.size w w' := by
  by_cases hb : badAt s 0 = -1
  · exact points_law_ok s w hs hb (by have := ptsAt_len s; omega)
  · exact points_law_bad s w hs hg hb
end RefW
end Go.Proofs.YtpjlpinjjklhhaaDoor

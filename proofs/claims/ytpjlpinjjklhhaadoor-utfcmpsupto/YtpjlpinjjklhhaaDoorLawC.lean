/- What the reference's Cut does at every sound text, and the walk of UtfCuts itself. -/
import Derived.Test.YtpjlpinjjklhhaaDoorLawP
import Derived.Test.YtpjlpinjjklhhaaDoorCut
namespace Go.Proofs.YtpjlpinjjklhhaaDoor
open Go.RowKit
namespace RefW

/-- A character that stands whole ends within its text. -/
theorem width_fit (s : ByteArray) (pos : Nat) (hp : pos < s.size) (h : noChar s pos = false) : pos + (Utf8.decode s pos).2 ≤ s.size := by
  unfold noChar at h
  rw [decide_eq_false_iff_not] at h
  rw [Lib.decode_at] at h ⊢
  revert h
  unfold Lib.decodeN
  repeat' split
  all_goals
    intro h
    first
      | (exact absurd rfl h)
      | (simp only; omega)
theorem badAt_sound (s : ByteArray) (pos : Nat) (hp : pos < s.size) (h : badAt s pos = -1) : noChar s pos = false := by
  cases hn : noChar s pos with
  | false => rfl
  | true => rw [badAt_hit s pos hp hn] at h; omega

theorem lenF_fuel (s : ByteArray) (most : Int) : ∀ f g pos e, s.size ≤ pos + f → s.size ≤ pos + g → lenF s most f pos e = lenF s most g pos e
  | 0, 0, _, _, _, _ => rfl
  | 0, g + 1, pos, e, h, _ => by simp [lenF, show ¬ pos < s.size by omega]
  | f + 1, 0, pos, e, _, h => by simp [lenF, show ¬ pos < s.size by omega]
  | f + 1, g + 1, pos, e, h1, h2 => by
    unfold lenF
    split
    · rename_i hp
      have := Lib.decode_width_pos s pos hp
      rw [lenF_fuel s most f g _ _ (by omega) (by omega)]
    · rfl
theorem lenF_step (s : ByteArray) (most : Int) (pos e : Nat) (hp : pos < s.size) (hm : (pos : Int) ≤ most) :
    lenF s most (s.size - pos) pos e = lenF s most (s.size - (pos + (Utf8.decode s pos).2)) (pos + (Utf8.decode s pos).2) pos := by
  have hw := Lib.decode_width_pos s pos hp
  obtain ⟨k, hk⟩ : ∃ k, s.size - pos = k + 1 := ⟨s.size - pos - 1, by omega⟩
  rw [hk, lenF, if_pos hp, if_neg (by omega)]
  exact lenF_fuel s most _ _ _ _ (by omega) (by omega)
theorem lenF_stop (s : ByteArray) (most : Int) (pos e : Nat) (h : most < pos ∨ s.size ≤ pos) : lenF s most (s.size - pos) pos e = e := by
  cases hk : s.size - pos with
  | zero => rfl
  | succ k =>
    rw [lenF]
    split
    · rw [if_pos (by omega)]
    · rfl

/-- What the reference's loop keeps at a place. -/
def CutInv (s : ByteArray) (most : Int) (pos : Nat) : Prop := (pos : Int) ≤ s.size ∧ (most < s.size → (pos : Int) ≤ most ∧ ∃ e, lenF s most (s.size - pos) pos e = lenW s most)
theorem cut_start (s : ByteArray) (most : Int) (hm : 0 ≤ most) : CutInv s most 0 := by
  refine ⟨by omega, fun h => ⟨by omega, 0, ?_⟩⟩
  unfold lenW
  rw [if_neg (by omega)]
  rfl
theorem cut_next (s : ByteArray) (most : Int) (pos : Nat) (hp : pos < s.size) (hn : noChar s pos = false) (h : CutInv s most pos) (hq : ((pos + (Utf8.decode s pos).2 : Nat) : Int) ≤ most) : CutInv s most (pos + (Utf8.decode s pos).2) := by
  have hf := width_fit s pos hp hn
  refine ⟨by omega, fun hm => ⟨hq, pos, ?_⟩⟩
  obtain ⟨h1, e, h2⟩ := h.2 hm
  rw [← h2, lenF_step s most pos e hp h1]
theorem cut_hit (s : ByteArray) (most : Int) (pos : Nat) (hp : pos < s.size) (hn : noChar s pos = false) (h : CutInv s most pos) (hq : most < ((pos + (Utf8.decode s pos).2 : Nat) : Int)) : lenW s most = pos := by
  have hf := width_fit s pos hp hn
  obtain ⟨h1, e, h2⟩ := h.2 (by omega)
  rw [← h2, lenF_step s most pos e hp h1, lenF_stop s most _ _ (.inl hq)]
theorem cut_end (s : ByteArray) (most : Int) (pos : Nat) (hp : ¬ pos < s.size) (h : CutInv s most pos) : s.extract 0 (lenW s most) = s := by
  have hm : (s.size : Int) ≤ most := by
    by_cases hm : most < s.size
    · obtain ⟨h1, _⟩ := h.2 hm
      omega
    · omega
  have e : lenW s most = s.size := by unfold lenW; rw [if_pos hm]
  rw [e]
  exact ByteArray.extract_zero_size

set_option maxHeartbeats 4000000 in
theorem rcut_any (s : ByteArray) (most : Int) (w : World) (hs : s.size ≤ 17592186044416) (hm : 0 ≤ most) (hb : badAt s 0 = -1) :
    Calls Tryd.prog 19 #[.string s, .int .i64 most] w fun e w' => e = .returned (.string (s.extract 0 (lenW s most))) ∧ Below w.heap.size w w' := by
  go_enter Tryd.func19, Tryd.ntmps19
  go_wp2
  go_loopw [5] (fun x wr => ∃ pos : Nat, x = .int .i64 (pos : Int) ∧ Hid (CutInv s most pos) ∧ Hid (badAt s pos = -1) ∧ Below w.heap.size w wr ∧ pos ≤ s.size) (fun x _ => s.size - (intOf x).toNat)
  case atStart => exact ⟨0, rfl, cut_start s most hm, hb, Below.refl _ _, Nat.zero_le _⟩
  case round =>
    obtain ⟨pos, rfl, HI, HB, hbw, hle⟩ := hrel
    clear hb
    have hsz := hbw.size
    by_cases hp : pos < s.size
    · have hn := badAt_sound s pos hp HB.out
      have hwd := Lib.decode_width_pos s pos hp
      have hw4 := decode_w s pos
      have hfit := width_fit s pos hp hn
      by_cases hq : most < ((pos + (Utf8.decode s pos).2 : Nat) : Int)
      · have HL : Hid (lenW s most = pos) := cut_hit s most pos hp hn HI.out hq
        have hq' : most < (pos : Int) + ((Utf8.decode s pos).2 : Int) := by omega
        clear hq
        go_wp2_with (go_at_call 25; refine (at_yes s pos _ (by omega) hp hn).mono ?_; rintro e w2 ⟨rfl, hb2⟩; replace hbw := hbw.trans (hb2.mono hsz))
        go_ret
        rw [HL.out]
        exact ⟨rfl, hbw⟩
      · have HQ : Hid (CutInv s most (pos + (Utf8.decode s pos).2)) := cut_next s most pos hp hn HI.out (by omega)
        have HB2 : Hid (badAt s (pos + (Utf8.decode s pos).2) = -1) := by show _ = _; rw [← badAt_next s pos hp hn]; exact HB.out
        have hq' : ¬ most < (pos : Int) + ((Utf8.decode s pos).2 : Int) := by omega
        clear hq
        go_wp2_with (go_at_call 25; refine (at_yes s pos _ (by omega) hp hn).mono ?_; rintro e w2 ⟨rfl, hb2⟩; replace hbw := hbw.trans (hb2.mono hsz))
        go_roundw
        case rel => exact ⟨pos + (Utf8.decode s pos).2, by go_num, HQ, HB2, hbw, hfit⟩
        case measure => simp [intOf]; omega
    · have HL : Hid (s.extract 0 (lenW s most) = s) := cut_end s most pos hp HI.out
      go_wp2
      go_ret
      rw [HL.out]
      exact ⟨rfl, hbw⟩

set_option maxHeartbeats 4000000 in
theorem cuts_neg (s : ByteArray) (most : Int) (w : World) (hm : most < 0) :
    Calls Tryd.prog 5 #[.string s, .int .i64 most] w fun e w' => e = .returned (.bool true) ∧ Below w.heap.size w w' := by
  have h11 := eq11
  go_enter Tryd.func5, Tryd.ntmps5
  go_wp2_with (first
    | (go_at_call 9; refine (shown_any _).mono ?_; rintro e w1 ⟨rfl, hb1⟩)
    | (go_at_call 17; refine (cut_neg _ _ _ hm).mono ?_; rintro e w2 ⟨rfl, hw2⟩; replace hw2 := hw2.symm; subst hw2))
  go_ret
  exact ⟨rfl, hb1⟩
set_option maxHeartbeats 4000000 in
theorem cuts_bad (s : ByteArray) (most : Int) (w : World) (hs : s.size ≤ 17592186044416) (hg : ErrT w) (hm : 0 ≤ most) (hb : badAt s 0 ≠ -1) :
    Calls Tryd.prog 5 #[.string s, .int .i64 most] w fun e w' => e = .returned (.bool true) ∧ Below w.heap.size w w' := by
  have hb0 := Below.refl w.heap.size w
  have hbd := badAt_bd s
  obtain ⟨N, hN⟩ : ∃ N, badAt s 0 = N := ⟨_, rfl⟩
  have cB := fun W => Bad_any s W hs
  have cC := fun W => cut_bad s most W (by omega) hm hb
  rw [hN] at cB cC hbd hb
  clear hN
  have hn0 : 0 ≤ N := by omega
  have hm' : ¬ most < 0 := by omega
  go_enter Tryd.func5, Tryd.ntmps5
  go_wp2_with (first
    | (go_at_call 9; refine (shown_any _).mono ?_; rintro e w1 ⟨rfl, hb1⟩; replace hb0 := hb0.trans (hb1.mono hb0.size); clear hb1)
    | (go_at_call 17; refine (cC _).mono ?_; rintro e w2 ⟨v, rfl, hF, hb1⟩; replace hb0 := hb0.trans (hb1.mono hb0.size); clear hb1)
    | (go_at_call 18; refine (cB _).mono ?_; rintro e w3 ⟨rfl, hb1⟩; replace hb0 := hb0.trans (hb1.mono hb0.size); replace hF := FaultAt.below hF hb1; clear hb1)
    | (go_at_call 13; refine (Is_fault hF (hg.below hb0)).mono ?_; rintro e w5 ⟨rfl, hb1⟩; replace hb0 := hb0.trans (hb1.mono hb0.size); clear hb1))
  go_ret
  exact ⟨rfl, hb0⟩
set_option maxHeartbeats 4000000 in
theorem cuts_ok (s : ByteArray) (most : Int) (w : World) (hs : s.size ≤ 17592186044416) (hm : 0 ≤ most) (hb : badAt s 0 = -1) :
    Calls Tryd.prog 5 #[.string s, .int .i64 most] w fun e w' => e = .returned (.bool true) ∧ Below w.heap.size w w' := by
  have hb0 := Below.refl w.heap.size w
  have cB := fun W => Bad_any s W hs
  have cC := fun W => cut_ok s most W (by omega) hm hb
  have cR := fun W => rcut_any s most W hs hm hb
  rw [hb] at cB
  clear hb
  obtain ⟨T, hT⟩ : ∃ T, s.extract 0 (lenW s most) = T := ⟨_, rfl⟩
  rw [hT] at cC cR
  clear hT
  have hm' : ¬ most < 0 := by omega
  go_enter Tryd.func5, Tryd.ntmps5
  go_wp2_with (first
    | (go_at_call 9; refine (shown_any _).mono ?_; rintro e w1 ⟨rfl, hb1⟩; replace hb0 := hb0.trans (hb1.mono hb0.size); clear hb1)
    | (go_at_call 17; refine (cC _).mono ?_; rintro e w2 ⟨rfl, hb1⟩; replace hb0 := hb0.trans (hb1.mono hb0.size); clear hb1)
    | (go_at_call 18; refine (cB _).mono ?_; rintro e w3 ⟨rfl, hb1⟩; replace hb0 := hb0.trans (hb1.mono hb0.size); clear hb1)
    | (go_at_call 19; refine (cR _).mono ?_; rintro e w4 ⟨rfl, hb1⟩; replace hb0 := hb0.trans (hb1.mono hb0.size); clear hb1))
  go_ret
  exact ⟨rfl, hb0⟩
theorem cuts_law (s : ByteArray) (most : Int) (w : World) (hs : s.size ≤ 17592186044416) (hg : ErrT w) :
    Calls Tryd.prog 5 #[.string s, .int .i64 most] w fun e w' => e = .returned (.bool true) ∧ Below w.heap.size w w' := by
  by_cases hm : most < 0
  · exact cuts_neg s most w hm
  · by_cases hb : badAt s 0 = -1
    · exact cuts_ok s most w hs (by omega) hb
    · exact cuts_bad s most w hs hg (by omega) hb
end RefW
end Go.Proofs.YtpjlpinjjklhhaaDoor

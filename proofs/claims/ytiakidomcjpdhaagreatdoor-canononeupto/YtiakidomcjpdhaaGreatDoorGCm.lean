/- What utf.Cmp does at every two sound texts, and the world that it leaves: blocks laid behind, draws, nothing more. -/
import Derived.Test.YtiakidomcjpdhaaGreatDoorGRf
import Derived.Lib.QuietBelow
namespace Go.Proofs.YtiakidomcjpdhaaGreatDoor
open Go.RowKit
namespace Dc
open RefW
open Go.Lib (decodeN firstT)

theorem Gr.drawn {w w' : World} (h : Gr w w') : w.drawn ≤ w'.drawn := by
  obtain ⟨q, os, rfl⟩ := h
  exact Nat.le_add_right _ _
theorem Gr.of {w w' : World} (hb : Below w.heap.size w w') (hd : w.drawn ≤ w'.drawn) : Gr w w' := by
  obtain ⟨⟨d, os⟩, rfl⟩ := regrown_of_below hb
  have hd' : w.drawn ≤ d := hd
  refine ⟨d - w.drawn, os, ?_⟩
  show Sort.grow _ os = Sort.grow _ os
  rw [show redrawn w d = w.drewN (d - w.drawn) by unfold redrawn World.drewN; rw [Nat.add_sub_cancel' hd']]
set_option maxHeartbeats 4000000 in
theorem bad_gr (s : ByteArray) (w : World) :
    Calls Tryz.prog 68 #[.string s] w fun e w' => e = .returned (.int .i64 (badAt s 0)) ∧ Gr w w' := by
  go_enter Tryz.func68, Tryz.ntmps68
  go_wp2
  go_loopw [] (fun w' => ∃ pos : Nat, w' = w.iter s pos ∧ badAt s pos = badAt s 0) (fun w' => s.size - w'.iterPos w.heap.size)
  case atStart => exact ⟨0, rfl, rfl⟩
  case round =>
    obtain ⟨pos, rfl, hb⟩ := hrel
    by_cases hp : pos < s.size
    · have hnx : ∀ ty, (Instr.next (.pointer (some ⟨w.heap.size, 0, none⟩)) true ty).run Tryz.prog (w.iter s pos) = _ := fun ty => run_next_any w s pos ty hp
      have hwd := Lib.decode_width_pos s pos hp
      by_cases hr : (Utf8.decode s pos).1 = 65533
      · go_wp2
        · go_ret
          rw [← hb, badAt_hit s pos hp (noChar_long s pos true hr (by assumption) (by assumption))]
          exact ⟨rfl, Gr.one _ _⟩
        · go_roundw
          case rel => exact ⟨_, rfl, by rw [← hb, badAt_next s pos hp (noChar_long s pos false hr (by assumption) (by assumption))]⟩
          case measure => simp; omega
        · go_ret
          rw [← hb, badAt_hit s pos hp (noChar_short s pos hr (by assumption))]
          exact ⟨rfl, Gr.one _ _⟩
      · have hr' : (((Utf8.decode s pos).1 : Int) == 65533) = false := by simp; omega
        go_wp2
        go_roundw
        case rel => exact ⟨_, rfl, by rw [← hb, badAt_next s pos hp (noChar_not s pos hr)]⟩
        case measure => simp; omega
    · have hnx : ∀ ty, (Instr.next (.pointer (some ⟨w.heap.size, 0, none⟩)) true ty).run Tryz.prog (w.iter s pos) = _ := fun ty => run_next_end w s pos ty hp
      go_wp2
      go_ret
      rw [← hb, badAt_end s pos hp]
      exact ⟨rfl, Gr.one _ _⟩
theorem width_fit (s : ByteArray) (pos : Nat) (hp : pos < s.size) (h : noChar s pos = false) : pos + (Utf8.decode s pos).2 ≤ s.size := by
  unfold noChar at h
  rw [decide_eq_false_iff_not] at h
  rw [Lib.decode_at] at h ⊢
  revert h
  unfold Lib.decodeN
  repeat' split
  all_goals
    intro h
    first
      | (exact absurd rfl h)
      | (simp only; omega)
/-- utf8.DecodeRuneInString at a text that begins with a whole character. -/
theorem dec_gr (t : ByteArray) (w : World) (hT : Tabs w) (h0 : 0 < t.size) :
    Calls Tryz.prog 87 #[.string t] w fun e w' => e = .returned (.tuple #[.int .i32 ((Utf8.decode t 0).1 : Int), .int .i64 ((Utf8.decode t 0).2 : Int)]) ∧ Gr w w' := by
  have hne : t.toList.isEmpty = false := by
    rw [Lib.toList_data]
    cases h : t.data.toList with
    | nil => rw [Lib.size_eq, h] at h0; simp at h0
    | cons _ _ => rfl
  have hz0 : (0 : Int) < (t.size : Int) := by omega
  by_cases ha : (t.get! 0).toNat < 128
  · obtain ⟨x0, hx0⟩ : ∃ x, (t.get! 0).toNat = x := ⟨_, rfl⟩
    have e0 : (t[0]'h0).toNat = x0 := by rw [← hx0, get_lt t 0 h0]
    have hd : Utf8.decode t 0 = (x0, 1) := by
      rw [Lib.decode_at, hx0]
      unfold decodeN
      rw [if_pos (by omega)]
    rw [hx0] at ha
    rw [hd]
    clear hx0 hd
    have haz : (x0 : Int) < 128 := by omega
    go_enter Tryz.func87, Tryz.ntmps87
    go_wp2
    go_ret2
    exact ⟨rfl, Gr.refl _⟩
  · have cS := slow_gr t w hT h0 (by omega)
    obtain ⟨x0, hx0⟩ : ∃ x, (t.get! 0).toNat = x := ⟨_, rfl⟩
    have e0 : (t[0]'h0).toNat = x0 := by rw [← hx0, get_lt t 0 h0]
    rw [hx0] at ha
    obtain ⟨R, hR⟩ : ∃ R, (Utf8.decode t 0).1 = R := ⟨_, rfl⟩
    obtain ⟨K, hK⟩ : ∃ K, (Utf8.decode t 0).2 = K := ⟨_, rfl⟩
    rw [hR, hK] at cS ⊢
    clear hx0 hR hK
    have haz : ¬ ((x0 : Int) < 128) := by omega
    go_enter Tryz.func87, Tryz.ntmps87
    go_wp2_with (go_at_call 122; refine cS.mono ?_; rintro e w' ⟨rfl, hb⟩)
    go_ret2
    exact ⟨rfl, hb⟩
/-- The order of lists of numbers: -1, 0 or 1. -/
def cmpL : List Nat → List Nat → Int
  | [], [] => 0
  | [], _ :: _ => -1
  | _ :: _, [] => 1
  | x :: xs, y :: ys => if x < y then -1 else if y < x then 1 else cmpL xs ys
theorem cmpL_same : ∀ xs, cmpL xs xs = 0
  | [] => rfl
  | x :: xs => by simp [cmpL, cmpL_same xs]
theorem cmpL_neg : ∀ xs ys, cmpL ys xs = -cmpL xs ys
  | [], [] => rfl
  | [], _ :: _ => rfl
  | _ :: _, [] => rfl
  | x :: xs, y :: ys => by
    unfold cmpL
    by_cases h1 : x < y
    · rw [if_neg (show ¬ y < x by omega), if_pos h1, if_pos h1]; rfl
    · by_cases h2 : y < x
      · rw [if_pos h2, if_neg h1, if_pos h2]
      · rw [if_neg h2, if_neg h1, if_neg h1, if_neg h2]; exact cmpL_neg xs ys
theorem cmpL_bd : ∀ xs ys, -1 ≤ cmpL xs ys ∧ cmpL xs ys ≤ 1
  | [], [] => by decide
  | [], _ :: _ => by simp [cmpL]
  | _ :: _, [] => by simp [cmpL]
  | x :: xs, y :: ys => by
    unfold cmpL
    have := cmpL_bd xs ys
    repeat' split
    all_goals omega

theorem compare_rune (x y : Int) (w : World) : Calls Tryz.prog 88 #[.int .i32 x, .int .i32 y] w fun e w' => e = .returned (.int .i64 (if x < y then -1 else if y < x then 1 else 0)) ∧ w' = w := by
  have hx : (x != x) = false := by simp
  have hy : (y != y) = false := by simp
  by_cases h1 : x < y
  · rw [if_pos h1]
    go_enter Tryz.func88, Tryz.ntmps88
    go_wp2
    go_ret
    exact ⟨rfl, rfl⟩
  · rw [if_neg h1]
    by_cases h2 : y < x
    · rw [if_pos h2]
      go_enter Tryz.func88, Tryz.ntmps88
      go_wp2
      go_ret
      exact ⟨rfl, rfl⟩
    · rw [if_neg h2]
      go_enter Tryz.func88, Tryz.ntmps88
      go_wp2
      go_ret
      exact ⟨rfl, rfl⟩
theorem compare_int (x y : Int) (w : World) : Calls Tryz.prog 89 #[.int .i64 x, .int .i64 y] w fun e w' => e = .returned (.int .i64 (if x < y then -1 else if y < x then 1 else 0)) ∧ w' = w := by
  have hx : (x != x) = false := by simp
  have hy : (y != y) = false := by simp
  by_cases h1 : x < y
  · rw [if_pos h1]
    go_enter Tryz.func89, Tryz.ntmps89
    go_wp2
    go_ret
    exact ⟨rfl, rfl⟩
  · rw [if_neg h1]
    by_cases h2 : y < x
    · rw [if_pos h2]
      go_enter Tryz.func89, Tryz.ntmps89
      go_wp2
      go_ret
      exact ⟨rfl, rfl⟩
    · rw [if_neg h2]
      go_enter Tryz.func89, Tryz.ntmps89
      go_wp2
      go_ret
      exact ⟨rfl, rfl⟩

def wOf (r : Nat) : Nat := if r < 128 then 1 else if r < 2048 then 2 else if r < 65536 then 3 else 4
theorem width_of (s : ByteArray) (pos : Nat) (h : noChar s pos = false) : (Utf8.decode s pos).2 = wOf (Utf8.decode s pos).1 := by
  unfold noChar at h
  rw [decide_eq_false_iff_not] at h
  have b0 := (s.get! pos).toNat_lt
  have b1 := (s.get! (pos + 1)).toNat_lt
  rw [Lib.decode_at] at h ⊢
  revert h
  unfold Lib.decodeN wOf
  repeat' split
  all_goals
    intro h
    first
      | (exact absurd rfl h)
      | rfl
      | (exfalso; simp only at *; omega)

/-- What the loop keeps at a place. -/
def CmpInv (a b : ByteArray) (pos : Nat) : Prop :=
  pos ≤ a.size ∧ pos ≤ b.size ∧ badAt a pos = -1 ∧ badAt b pos = -1 ∧ cmpL (ptsAt a pos) (ptsAt b pos) = cmpL (ptsAt a 0) (ptsAt b 0)
theorem inv_next {a b : ByteArray} {pos : Nat} (h : CmpInv a b pos) (ha : pos < a.size) (hb : pos < b.size) (he : (Utf8.decode a pos).1 = (Utf8.decode b pos).1) : CmpInv a b (pos + (Utf8.decode a pos).2) := by
  obtain ⟨_, _, h3, h4, h5⟩ := h
  have na := badAt_sound a pos ha h3
  have nb := badAt_sound b pos hb h4
  have ew : (Utf8.decode a pos).2 = (Utf8.decode b pos).2 := by rw [width_of a pos na, width_of b pos nb, he]
  have fa := width_fit a pos ha na
  have fb := width_fit b pos hb nb
  refine ⟨fa, by omega, ?_, ?_, ?_⟩
  · rw [← badAt_next a pos ha na]; exact h3
  · rw [ew, ← badAt_next b pos hb nb]; exact h4
  · rw [← h5, ptsAt_next a pos ha, ptsAt_next b pos hb, he, ← ew]
    simp [cmpL]
theorem inv_part {a b : ByteArray} {pos : Nat} (h : CmpInv a b pos) (ha : pos < a.size) (hb : pos < b.size) (he : (Utf8.decode a pos).1 ≠ (Utf8.decode b pos).1) :
    (if ((Utf8.decode a pos).1 : Int) < ((Utf8.decode b pos).1 : Int) then (-1 : Int) else if ((Utf8.decode b pos).1 : Int) < ((Utf8.decode a pos).1 : Int) then 1 else 0) = cmpL (ptsAt a 0) (ptsAt b 0) := by
  obtain ⟨_, _, _, _, h5⟩ := h
  rw [← h5, ptsAt_next a pos ha, ptsAt_next b pos hb]
  unfold cmpL
  by_cases h1 : (Utf8.decode a pos).1 < (Utf8.decode b pos).1
  · rw [if_pos (by omega), if_pos h1]
  · rw [if_neg (by omega), if_neg h1, if_pos (by omega), if_pos (by omega)]
theorem inv_over {a b : ByteArray} {pos : Nat} (h : CmpInv a b pos) (ha : pos < a.size) (hb : pos = b.size) : cmpL (ptsAt a 0) (ptsAt b 0) = 1 := by
  obtain ⟨_, _, _, _, h5⟩ := h
  rw [← h5, ptsAt_next a pos ha, ptsAt_end b pos (by omega)]
  rfl
theorem inv_end {a b : ByteArray} {pos : Nat} (h : CmpInv a b pos) (ha : ¬ pos < a.size) : (if (a.size : Int) < (b.size : Int) then (-1 : Int) else if (b.size : Int) < (a.size : Int) then 1 else 0) = cmpL (ptsAt a 0) (ptsAt b 0) := by
  obtain ⟨h1, h2, _, _, h5⟩ := h
  have ep : pos = a.size := by omega
  rw [← h5, ptsAt_end a pos ha]
  by_cases hb : pos < b.size
  · rw [if_pos (by omega), ptsAt_next b pos hb]
    rfl
  · rw [if_neg (by omega), if_neg (by omega), ptsAt_end b pos hb]
    rfl

theorem dec_at (b : ByteArray) (pos : Nat) (w : World) (hT : Tabs w) (hp : pos < b.size) :
    Calls Tryz.prog 87 #[.string (b.extract pos b.size)] w fun e w' => e = .returned (.tuple #[.int .i32 ((Utf8.decode b pos).1 : Int), .int .i64 ((Utf8.decode b pos).2 : Int)]) ∧ Gr w w' := by
  have h := dec_gr (b.extract pos b.size) w hT (by rw [cut_size]; omega)
  rw [cut_decode] at h
  exact h
theorem tabs_below {w w' : World} (h : Tabs w) (hb : Below w.heap.size w w') : Tabs w' := h.of (hb.block 1 (by have := h.lt; omega)) (hb.block 2 h.lt)
set_option maxHeartbeats 4000000 in
theorem cmp_ok (a b : ByteArray) (w : World) (_ha : a.size ≤ 17592186044416) (_hb : b.size ≤ 17592186044416) (h1 : badAt a 0 = -1) (h2 : badAt b 0 = -1) (hT : Tabs w) :
    Calls Tryz.prog 63 #[.string a, .string b] w fun e w' => e = .returned (.tuple #[.int .i64 (cmpL (ptsAt a 0) (ptsAt b 0)), .nilIface]) ∧ Gr w w' := by
  have H0 : Hid (CmpInv a b 0) := ⟨Nat.zero_le _, Nat.zero_le _, h1, h2, rfl⟩
  have hb0 := Below.refl w.heap.size w
  have hd0 : w.drawn ≤ w.drawn := Nat.le_refl _
  obtain ⟨V, hV⟩ : ∃ V, cmpL (ptsAt a 0) (ptsAt b 0) = V := ⟨_, rfl⟩
  have HV : Hid (cmpL (ptsAt a 0) (ptsAt b 0) = V) := hV
  rw [hV]
  clear hV
  go_enter Tryz.func63, Tryz.ntmps63
  go_wp2_with (go_at_call 68; refine (bad_gr _ _).mono ?_; rintro e w1 ⟨rfl, hb1⟩; replace hb0 := hb0.trans (hb1.below.mono hb0.size); replace hd0 := Nat.le_trans hd0 hb1.drawn; clear hb1)
  clear h1 h2
  go_loopw [] (fun wr => ∃ pos : Nat, wr.heap[w1.heap.size]? = some (.stringIter a pos) ∧ Below w.heap.size w wr ∧ w.drawn ≤ wr.drawn ∧ Hid (CmpInv a b pos)) (fun wr => a.size - wr.iterPos w1.heap.size)
  case atStart => exact ⟨0, World.iter_heap w1 a 0, hb0.alloc hb0.size _, hd0, H0⟩
  case round =>
    obtain ⟨pos, hit, hbw, hdw, HI⟩ := hrel
    have hpos0 := iterPos_of hit
    have hsz := hb0.size
    clear hb0 H0 hd0
    by_cases hp : pos < a.size
    · have hnx : ∀ ty, (Instr.next (.pointer (some ⟨w1.heap.size, 0, none⟩)) true ty).run Tryz.prog wr = _ := fun ty => Lib.run_next_any_at wr w1.heap.size a pos ty hit hp
      have hwd := Lib.decode_width_pos a pos hp
      have hit2 := Lib.iterAt_heap wr w1.heap.size a pos (pos + (Utf8.decode a pos).2) hit
      have hbw2 := Lib.below_iterAt hbw (k := w1.heap.size) hsz a (pos + (Utf8.decode a pos).2)
      have hdw2 : w.drawn ≤ (wr.iterAt w1.heap.size a (pos + (Utf8.decode a pos).2)).drawn := hdw
      obtain ⟨W1, hW1⟩ : ∃ W1, W1 = wr.iterAt w1.heap.size a (pos + (Utf8.decode a pos).2) := ⟨_, rfl⟩
      rw [← hW1] at hnx hit2 hbw2 hdw2
      have hBlt := lt_of_block hit2
      clear hW1 hit hbw
      have hle : pos ≤ b.size := HI.out.2.1
      by_cases hq : pos = b.size
      · have HE : Hid (V = 1) := by show _ = _; rw [← HV.out]; exact inv_over HI.out hp hq
        have hq' : ((pos : Int) == (b.size : Int)) = true := by simp; omega
        clear hq
        go_wp2
        go_ret2
        rw [HE.out]
        exact ⟨rfl, Gr.of hbw2 hdw2⟩
      · have hq' : ((pos : Int) == (b.size : Int)) = false := by simp; omega
        have hpb : pos < b.size := by omega
        have cD := dec_at b pos W1 (tabs_below hT hbw2) hpb
        by_cases he : (Utf8.decode a pos).1 = (Utf8.decode b pos).1
        · have HN : Hid (CmpInv a b (pos + (Utf8.decode a pos).2)) := inv_next HI.out hp hpb he
          have he' : (((Utf8.decode a pos).1 : Int) != ((Utf8.decode b pos).1 : Int)) = false := by simp; omega
          clear he
          go_wp2_with (go_at_call 87; refine cD.mono ?_; rintro e w2 ⟨rfl, hb2⟩; have hit3 := (hb2.below.block _ hBlt).trans hit2; have hbw3 := hbw2.trans (hb2.below.mono hbw2.size); have hdw3 := Nat.le_trans hdw2 hb2.drawn)
          go_roundw
          case rel => exact ⟨_, hit3, hbw3, hdw3, HN⟩
          case measure => rw [iterPos_of hit3, hpos0]; omega
        · have HP : Hid ((if ((Utf8.decode a pos).1 : Int) < ((Utf8.decode b pos).1 : Int) then (-1 : Int) else if ((Utf8.decode b pos).1 : Int) < ((Utf8.decode a pos).1 : Int) then 1 else 0) = V) := by show _ = _; rw [← HV.out]; exact inv_part HI.out hp hpb he
          have he' : (((Utf8.decode a pos).1 : Int) != ((Utf8.decode b pos).1 : Int)) = true := by simp; omega
          have cC := fun W => compare_rune ((Utf8.decode a pos).1 : Int) ((Utf8.decode b pos).1 : Int) W
          rw [HP.out] at cC
          clear he
          go_wp2_with (first
            | (go_at_call 87; refine cD.mono ?_; rintro e w2 ⟨rfl, hb2⟩; have hbw3 := hbw2.trans (hb2.below.mono hbw2.size); have hdw3 := Nat.le_trans hdw2 hb2.drawn)
            | (go_at_call 88; refine (cC _).mono ?_; rintro e w3 ⟨rfl, hw3⟩; replace hw3 := hw3.symm; subst hw3))
          go_ret2
          exact ⟨rfl, Gr.of hbw3 hdw3⟩
    · have hnx : ∀ ty, (Instr.next (.pointer (some ⟨w1.heap.size, 0, none⟩)) true ty).run Tryz.prog wr = _ := fun ty => Lib.run_next_end_at wr w1.heap.size a pos ty hit hp
      have HE : Hid ((if (a.size : Int) < (b.size : Int) then (-1 : Int) else if (b.size : Int) < (a.size : Int) then 1 else 0) = V) := by show _ = _; rw [← HV.out]; exact inv_end HI.out hp
      have cC := fun W => compare_int (a.size : Int) (b.size : Int) W
      rw [HE.out] at cC
      go_wp2_with (go_at_call 89; refine (cC _).mono ?_; rintro e w3 ⟨rfl, hw3⟩; replace hw3 := hw3.symm; subst hw3)
      go_ret2
      exact ⟨rfl, Gr.of hbw hdw⟩
end Dc
end Go.Proofs.YtiakidomcjpdhaaGreatDoor

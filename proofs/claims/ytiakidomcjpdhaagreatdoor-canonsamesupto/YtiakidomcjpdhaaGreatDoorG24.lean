/- What utf.Cmp does at every two sound texts, and the world that it leaves: blocks laid behind, draws, nothing more. The one form of a value; what canon.oneForm does at every list. -/
import Derived.Test.YtiakidomcjpdhaaGreatDoorG23
import Derived.Lib.QuietBelow
import Derived.Test.YtiakidomcjpdhaaGreatDoorG07
import Derived.Deep.RegionHeld
namespace Go.Proofs.YtiakidomcjpdhaaGreatDoor
open Go.RowKit
namespace Dc
open RefW
open Go.Lib (decodeN firstT)

theorem Gr.drawn {w w' : World} (h : Gr w w') : w.drawn ≤ w'.drawn := by
  obtain ⟨q, os, rfl⟩ := h
  exact Nat.le_add_right _ _
theorem Gr.of {w w' : World} (hb : Below w.heap.size w w') (hd : w.drawn ≤ w'.drawn) : Gr w w' := by
  obtain ⟨⟨d, os⟩, rfl⟩ := regrown_of_below hb
  have hd' : w.drawn ≤ d := hd
  refine ⟨d - w.drawn, os, ?_⟩
  show Sort.grow _ os = Sort.grow _ os
  rw [show redrawn w d = w.drewN (d - w.drawn) by unfold redrawn World.drewN; rw [Nat.add_sub_cancel' hd']]
set_option maxHeartbeats 4000000 in
theorem bad_gr (s : ByteArray) (w : World) :
    Calls Tryz.prog 68 #[.string s] w fun e w' => e = .returned (.int .i64 (badAt s 0)) ∧ Gr w w' := by
  go_enter Tryz.func68, Tryz.ntmps68
  go_wp2
  go_loopw [] (fun w' => ∃ pos : Nat, w' = w.iter s pos ∧ badAt s pos = badAt s 0) (fun w' => s.size - w'.iterPos w.heap.size)
  case atStart => exact ⟨0, rfl, rfl⟩
  case round =>
    obtain ⟨pos, rfl, hb⟩ := hrel
    by_cases hp : pos < s.size
    · have hnx : ∀ ty, (Instr.next (.pointer (some ⟨w.heap.size, 0, none⟩)) true ty).run Tryz.prog (w.iter s pos) = _ := fun ty => run_next_any w s pos ty hp
      have hwd := Lib.decode_width_pos s pos hp
      by_cases hr : (Utf8.decode s pos).1 = 65533
      · go_wp2
        · go_ret
          rw [← hb, badAt_hit s pos hp (noChar_long s pos true hr (by assumption) (by assumption))]
          exact ⟨rfl, Gr.one _ _⟩
        · go_roundw
          case rel => exact ⟨_, rfl, by rw [← hb, badAt_next s pos hp (noChar_long s pos false hr (by assumption) (by assumption))]⟩
          case measure => simp; omega
        · go_ret
          rw [← hb, badAt_hit s pos hp (noChar_short s pos hr (by assumption))]
          exact ⟨rfl, Gr.one _ _⟩
      · have hr' : (((Utf8.decode s pos).1 : Int) == 65533) = false := by simp; omega
        go_wp2
        go_roundw
        case rel => exact ⟨_, rfl, by rw [← hb, badAt_next s pos hp (noChar_not s pos hr)]⟩
        case measure => simp; omega
    · have hnx : ∀ ty, (Instr.next (.pointer (some ⟨w.heap.size, 0, none⟩)) true ty).run Tryz.prog (w.iter s pos) = _ := fun ty => run_next_end w s pos ty hp
      go_wp2
      go_ret
      rw [← hb, badAt_end s pos hp]
      exact ⟨rfl, Gr.one _ _⟩
theorem width_fit (s : ByteArray) (pos : Nat) (hp : pos < s.size) (h : noChar s pos = false) : pos + (Utf8.decode s pos).2 ≤ s.size := by
  unfold noChar at h
  rw [decide_eq_false_iff_not] at h
  rw [Lib.decode_at] at h ⊢
  revert h
  unfold Lib.decodeN
  repeat' split
  all_goals
    intro h
    first
      | (exact absurd rfl h)
      | (simp only; omega)
/-- utf8.DecodeRuneInString at a text that begins with a whole character. -/
theorem dec_gr (t : ByteArray) (w : World) (hT : Tabs w) (h0 : 0 < t.size) :
    Calls Tryz.prog 87 #[.string t] w fun e w' => e = .returned (.tuple #[.int .i32 ((Utf8.decode t 0).1 : Int), .int .i64 ((Utf8.decode t 0).2 : Int)]) ∧ Gr w w' := by
  have hne : t.toList.isEmpty = false := by
    rw [Lib.toList_data]
    cases h : t.data.toList with
    | nil => rw [Lib.size_eq, h] at h0; simp at h0
    | cons _ _ => rfl
  have hz0 : (0 : Int) < (t.size : Int) := by omega
  by_cases ha : (t.get! 0).toNat < 128
  · obtain ⟨x0, hx0⟩ : ∃ x, (t.get! 0).toNat = x := ⟨_, rfl⟩
    have e0 : (t[0]'h0).toNat = x0 := by rw [← hx0, get_lt t 0 h0]
    have hd : Utf8.decode t 0 = (x0, 1) := by
      rw [Lib.decode_at, hx0]
      unfold decodeN
      rw [if_pos (by omega)]
    rw [hx0] at ha
    rw [hd]
    clear hx0 hd
    have haz : (x0 : Int) < 128 := by omega
    go_enter Tryz.func87, Tryz.ntmps87
    go_wp2
    go_ret2
    exact ⟨rfl, Gr.refl _⟩
  · have cS := slow_gr t w hT h0 (by omega)
    obtain ⟨x0, hx0⟩ : ∃ x, (t.get! 0).toNat = x := ⟨_, rfl⟩
    have e0 : (t[0]'h0).toNat = x0 := by rw [← hx0, get_lt t 0 h0]
    rw [hx0] at ha
    obtain ⟨R, hR⟩ : ∃ R, (Utf8.decode t 0).1 = R := ⟨_, rfl⟩
    obtain ⟨K, hK⟩ : ∃ K, (Utf8.decode t 0).2 = K := ⟨_, rfl⟩
    rw [hR, hK] at cS ⊢
    clear hx0 hR hK
    have haz : ¬ ((x0 : Int) < 128) := by omega
    go_enter Tryz.func87, Tryz.ntmps87
    go_wp2_with (go_at_call 122; refine cS.mono ?_; rintro e w' ⟨rfl, hb⟩)
    go_ret2
    exact ⟨rfl, hb⟩
/-- The order of lists of numbers: -1, 0 or 1. -/
def cmpL : List Nat → List Nat → Int
  | [], [] => 0
  | [], _ :: _ => -1
  | _ :: _, [] => 1
  | x :: xs, y :: ys => if x < y then -1 else if y < x then 1 else cmpL xs ys
theorem cmpL_same : ∀ xs, cmpL xs xs = 0
  | [] => rfl
  | x :: xs => by simp [cmpL, cmpL_same xs]
theorem cmpL_neg : ∀ xs ys, cmpL ys xs = -cmpL xs ys
  | [], [] => rfl
  | [], _ :: _ => rfl
  | _ :: _, [] => rfl
  | x :: xs, y :: ys => by
    unfold cmpL
    by_cases h1 : x < y
    · rw [if_neg (show ¬ y < x by omega), if_pos h1, if_pos h1]; rfl
    · by_cases h2 : y < x
      · rw [if_pos h2, if_neg h1, if_pos h2]
      · rw [if_neg h2, if_neg h1, if_neg h1, if_neg h2]; exact cmpL_neg xs ys
theorem cmpL_bd : ∀ xs ys, -1 ≤ cmpL xs ys ∧ cmpL xs ys ≤ 1
  | [], [] => by decide
  | [], _ :: _ => by simp [cmpL]
  | _ :: _, [] => by simp [cmpL]
  | x :: xs, y :: ys => by
    unfold cmpL
    have := cmpL_bd xs ys
    repeat' split
    all_goals omega

theorem compare_rune (x y : Int) (w : World) : Calls Tryz.prog 88 #[.int .i32 x, .int .i32 y] w fun e w' => e = .returned (.int .i64 (if x < y then -1 else if y < x then 1 else 0)) ∧ w' = w := by
  have hx : (x != x) = false := by simp
  have hy : (y != y) = false := by simp
  by_cases h1 : x < y
  · rw [if_pos h1]
    go_enter Tryz.func88, Tryz.ntmps88
    go_wp2
    go_ret
    exact ⟨rfl, rfl⟩
  · rw [if_neg h1]
    by_cases h2 : y < x
    · rw [if_pos h2]
      go_enter Tryz.func88, Tryz.ntmps88
      go_wp2
      go_ret
      exact ⟨rfl, rfl⟩
    · rw [if_neg h2]
      go_enter Tryz.func88, Tryz.ntmps88
      go_wp2
      go_ret
      exact ⟨rfl, rfl⟩
theorem compare_int (x y : Int) (w : World) : Calls Tryz.prog 89 #[.int .i64 x, .int .i64 y] w fun e w' => e = .returned (.int .i64 (if x < y then -1 else if y < x then 1 else 0)) ∧ w' = w := by
  have hx : (x != x) = false := by simp
  have hy : (y != y) = false := by simp
  by_cases h1 : x < y
  · rw [if_pos h1]
    go_enter Tryz.func89, Tryz.ntmps89
    go_wp2
    go_ret
    exact ⟨rfl, rfl⟩
  · rw [if_neg h1]
    by_cases h2 : y < x
    · rw [if_pos h2]
      go_enter Tryz.func89, Tryz.ntmps89
      go_wp2
      go_ret
      exact ⟨rfl, rfl⟩
    · rw [if_neg h2]
      go_enter Tryz.func89, Tryz.ntmps89
      go_wp2
      go_ret
      exact ⟨rfl, rfl⟩

def wOf (r : Nat) : Nat := if r < 128 then 1 else if r < 2048 then 2 else if r < 65536 then 3 else 4
theorem width_of (s : ByteArray) (pos : Nat) (h : noChar s pos = false) : (Utf8.decode s pos).2 = wOf (Utf8.decode s pos).1 := by
  unfold noChar at h
  rw [decide_eq_false_iff_not] at h
  have b0 := (s.get! pos).toNat_lt
  have b1 := (s.get! (pos + 1)).toNat_lt
  rw [Lib.decode_at] at h ⊢
  revert h
  unfold Lib.decodeN wOf
  repeat' split
  all_goals
    intro h
    first
      | (exact absurd rfl h)
      | rfl
      | (exfalso; simp only at *; omega)

/-- What the loop keeps at a place. -/
def CmpInv (a b : ByteArray) (pos : Nat) : Prop :=
  pos ≤ a.size ∧ pos ≤ b.size ∧ badAt a pos = -1 ∧ badAt b pos = -1 ∧ cmpL (ptsAt a pos) (ptsAt b pos) = cmpL (ptsAt a 0) (ptsAt b 0)
theorem inv_next {a b : ByteArray} {pos : Nat} (h : CmpInv a b pos) (ha : pos < a.size) (hb : pos < b.size) (he : (Utf8.decode a pos).1 = (Utf8.decode b pos).1) : CmpInv a b (pos + (Utf8.decode a pos).2) := by
  obtain ⟨_, _, h3, h4, h5⟩ := h
  have na := badAt_sound a pos ha h3
  have nb := badAt_sound b pos hb h4
  have ew : (Utf8.decode a pos).2 = (Utf8.decode b pos).2 := by rw [width_of a pos na, width_of b pos nb, he]
  have fa := width_fit a pos ha na
  have fb := width_fit b pos hb nb
  refine ⟨fa, by omega, ?_, ?_, ?_⟩
  · rw [← badAt_next a pos ha na]; exact h3
  · rw [ew, ← badAt_next b pos hb nb]; exact h4
  · rw [← h5, ptsAt_next a pos ha, ptsAt_next b pos hb, he, ← ew]
    simp [cmpL]
theorem inv_part {a b : ByteArray} {pos : Nat} (h : CmpInv a b pos) (ha : pos < a.size) (hb : pos < b.size) (he : (Utf8.decode a pos).1 ≠ (Utf8.decode b pos).1) :
    (if ((Utf8.decode a pos).1 : Int) < ((Utf8.decode b pos).1 : Int) then (-1 : Int) else if ((Utf8.decode b pos).1 : Int) < ((Utf8.decode a pos).1 : Int) then 1 else 0) = cmpL (ptsAt a 0) (ptsAt b 0) := by
  obtain ⟨_, _, _, _, h5⟩ := h
  rw [← h5, ptsAt_next a pos ha, ptsAt_next b pos hb]
  unfold cmpL
  by_cases h1 : (Utf8.decode a pos).1 < (Utf8.decode b pos).1
  · rw [if_pos (by omega), if_pos h1]
  · rw [if_neg (by omega), if_neg h1, if_pos (by omega), if_pos (by omega)]
theorem inv_over {a b : ByteArray} {pos : Nat} (h : CmpInv a b pos) (ha : pos < a.size) (hb : pos = b.size) : cmpL (ptsAt a 0) (ptsAt b 0) = 1 := by
  obtain ⟨_, _, _, _, h5⟩ := h
  rw [← h5, ptsAt_next a pos ha, ptsAt_end b pos (by omega)]
  rfl
theorem inv_end {a b : ByteArray} {pos : Nat} (h : CmpInv a b pos) (ha : ¬ pos < a.size) : (if (a.size : Int) < (b.size : Int) then (-1 : Int) else if (b.size : Int) < (a.size : Int) then 1 else 0) = cmpL (ptsAt a 0) (ptsAt b 0) := by
  obtain ⟨h1, h2, _, _, h5⟩ := h
  have ep : pos = a.size := by omega
  rw [← h5, ptsAt_end a pos ha]
  by_cases hb : pos < b.size
  · rw [if_pos (by omega), ptsAt_next b pos hb]
    rfl
  · rw [if_neg (by omega), if_neg (by omega), ptsAt_end b pos hb]
    rfl

theorem dec_at (b : ByteArray) (pos : Nat) (w : World) (hT : Tabs w) (hp : pos < b.size) :
    Calls Tryz.prog 87 #[.string (b.extract pos b.size)] w fun e w' => e = .returned (.tuple #[.int .i32 ((Utf8.decode b pos).1 : Int), .int .i64 ((Utf8.decode b pos).2 : Int)]) ∧ Gr w w' := by
  have h := dec_gr (b.extract pos b.size) w hT (by rw [cut_size]; omega)
  rw [cut_decode] at h
  exact h
theorem tabs_below {w w' : World} (h : Tabs w) (hb : Below w.heap.size w w') : Tabs w' := h.of (hb.block 1 (by have := h.lt; omega)) (hb.block 2 h.lt)
set_option maxHeartbeats 4000000 in
theorem cmp_ok (a b : ByteArray) (w : World) (_ha : a.size ≤ 17592186044416) (_hb : b.size ≤ 17592186044416) (h1 : badAt a 0 = -1) (h2 : badAt b 0 = -1) (hT : Tabs w) :
    Calls Tryz.prog 63 #[.string a, .string b] w fun e w' => e = .returned (.tuple #[.int .i64 (cmpL (ptsAt a 0) (ptsAt b 0)), .nilIface]) ∧ Gr w w' := by
  have H0 : Hid (CmpInv a b 0) := ⟨Nat.zero_le _, Nat.zero_le _, h1, h2, rfl⟩
  have hb0 := Below.refl w.heap.size w
  have hd0 : w.drawn ≤ w.drawn := Nat.le_refl _
  obtain ⟨V, hV⟩ : ∃ V, cmpL (ptsAt a 0) (ptsAt b 0) = V := ⟨_, rfl⟩
  have HV : Hid (cmpL (ptsAt a 0) (ptsAt b 0) = V) := hV
  rw [hV]
  clear hV
  go_enter Tryz.func63, Tryz.ntmps63
  go_wp2_with (go_at_call 68; refine (bad_gr _ _).mono ?_; rintro e w1 ⟨rfl, hb1⟩; replace hb0 := hb0.trans (hb1.below.mono hb0.size); replace hd0 := Nat.le_trans hd0 hb1.drawn; clear hb1)
  clear h1 h2
  go_loopw [] (fun wr => ∃ pos : Nat, wr.heap[w1.heap.size]? = some (.stringIter a pos) ∧ Below w.heap.size w wr ∧ w.drawn ≤ wr.drawn ∧ Hid (CmpInv a b pos)) (fun wr => a.size - wr.iterPos w1.heap.size)
  case atStart => exact ⟨0, World.iter_heap w1 a 0, hb0.alloc hb0.size _, hd0, H0⟩
  case round =>
    obtain ⟨pos, hit, hbw, hdw, HI⟩ := hrel
    have hpos0 := iterPos_of hit
    have hsz := hb0.size
    clear hb0 H0 hd0
    by_cases hp : pos < a.size
    · have hnx : ∀ ty, (Instr.next (.pointer (some ⟨w1.heap.size, 0, none⟩)) true ty).run Tryz.prog wr = _ := fun ty => Lib.run_next_any_at wr w1.heap.size a pos ty hit hp
      have hwd := Lib.decode_width_pos a pos hp
      have hit2 := Lib.iterAt_heap wr w1.heap.size a pos (pos + (Utf8.decode a pos).2) hit
      have hbw2 := Lib.below_iterAt hbw (k := w1.heap.size) hsz a (pos + (Utf8.decode a pos).2)
      have hdw2 : w.drawn ≤ (wr.iterAt w1.heap.size a (pos + (Utf8.decode a pos).2)).drawn := hdw
      obtain ⟨W1, hW1⟩ : ∃ W1, W1 = wr.iterAt w1.heap.size a (pos + (Utf8.decode a pos).2) := ⟨_, rfl⟩
      rw [← hW1] at hnx hit2 hbw2 hdw2
      have hBlt := lt_of_block hit2
      clear hW1 hit hbw
      have hle : pos ≤ b.size := HI.out.2.1
      by_cases hq : pos = b.size
      · have HE : Hid (V = 1) := by show _ = _; rw [← HV.out]; exact inv_over HI.out hp hq
        have hq' : ((pos : Int) == (b.size : Int)) = true := by simp; omega
        clear hq
        go_wp2
        go_ret2
        rw [HE.out]
        exact ⟨rfl, Gr.of hbw2 hdw2⟩
      · have hq' : ((pos : Int) == (b.size : Int)) = false := by simp; omega
        have hpb : pos < b.size := by omega
        have cD := dec_at b pos W1 (tabs_below hT hbw2) hpb
        by_cases he : (Utf8.decode a pos).1 = (Utf8.decode b pos).1
        · have HN : Hid (CmpInv a b (pos + (Utf8.decode a pos).2)) := inv_next HI.out hp hpb he
          have he' : (((Utf8.decode a pos).1 : Int) != ((Utf8.decode b pos).1 : Int)) = false := by simp; omega
          clear he
          go_wp2_with (go_at_call 87; refine cD.mono ?_; rintro e w2 ⟨rfl, hb2⟩; have hit3 := (hb2.below.block _ hBlt).trans hit2; have hbw3 := hbw2.trans (hb2.below.mono hbw2.size); have hdw3 := Nat.le_trans hdw2 hb2.drawn)
          go_roundw
          case rel => exact ⟨_, hit3, hbw3, hdw3, HN⟩
          case measure => rw [iterPos_of hit3, hpos0]; omega
        · have HP : Hid ((if ((Utf8.decode a pos).1 : Int) < ((Utf8.decode b pos).1 : Int) then (-1 : Int) else if ((Utf8.decode b pos).1 : Int) < ((Utf8.decode a pos).1 : Int) then 1 else 0) = V) := by show _ = _; rw [← HV.out]; exact inv_part HI.out hp hpb he
          have he' : (((Utf8.decode a pos).1 : Int) != ((Utf8.decode b pos).1 : Int)) = true := by simp; omega
          have cC := fun W => compare_rune ((Utf8.decode a pos).1 : Int) ((Utf8.decode b pos).1 : Int) W
          rw [HP.out] at cC
          clear he
          go_wp2_with (first
            | (go_at_call 87; refine cD.mono ?_; rintro e w2 ⟨rfl, hb2⟩; have hbw3 := hbw2.trans (hb2.below.mono hbw2.size); have hdw3 := Nat.le_trans hdw2 hb2.drawn)
            | (go_at_call 88; refine (cC _).mono ?_; rintro e w3 ⟨rfl, hw3⟩; replace hw3 := hw3.symm; subst hw3))
          go_ret2
          exact ⟨rfl, Gr.of hbw3 hdw3⟩
    · have hnx : ∀ ty, (Instr.next (.pointer (some ⟨w1.heap.size, 0, none⟩)) true ty).run Tryz.prog wr = _ := fun ty => Lib.run_next_end_at wr w1.heap.size a pos ty hit hp
      have HE : Hid ((if (a.size : Int) < (b.size : Int) then (-1 : Int) else if (b.size : Int) < (a.size : Int) then 1 else 0) = V) := by show _ = _; rw [← HV.out]; exact inv_end HI.out hp
      have cC := fun W => compare_int (a.size : Int) (b.size : Int) W
      rw [HE.out] at cC
      go_wp2_with (go_at_call 89; refine (cC _).mono ?_; rintro e w3 ⟨rfl, hw3⟩; replace hw3 := hw3.symm; subst hw3)
      go_ret2
      exact ⟨rfl, Gr.of hbw hdw⟩
end Dc
end Go.Proofs.YtiakidomcjpdhaaGreatDoor

namespace Go.Proofs.YtiakidomcjpdhaaGreatDoor
open Go.RowKit
namespace Dc

/-- An object's fields in the order of their names. -/
def srt (f : List (ByteArray × GV)) : List (ByteArray × GV) := f.mergeSort (fun a b => decide (cmpL (ptsAt a.1 0) (ptsAt b.1 0) ≤ 0))
mutual
/-- The one form of a value: what its kind does not use is nought, the fields are in order. -/
def nfV : GV → GV
  | .mk k b n t l f => .mk k (if k = 1 then b else false) (if k = 2 then n else 0) (if k = 3 then t else ⟨#[]⟩) (if k = 4 then nfL l else []) (if k = 5 then srt (nfF f) else [])
def nfL : List GV → List GV
  | [] => []
  | x :: l => nfV x :: nfL l
def nfF : List (ByteArray × GV) → List (ByteArray × GV)
  | [] => []
  | x :: l => nfP x :: nfF l
def nfP : ByteArray × GV → ByteArray × GV
  | (nm, x) => (nm, nfV x)
end
theorem nfL_map : ∀ l : List GV, nfL l = l.map nfV
  | [] => by rw [nfL]; rfl
  | x :: l => by rw [nfL, nfL_map l]; rfl
theorem nfF_map : ∀ l : List (ByteArray × GV), nfF l = l.map (fun x => (x.1, nfV x.2))
  | [] => by rw [nfF]; rfl
  | (nm, x) :: l => by rw [nfF, nfP, nfF_map l]; rfl
def FormAt (x : GV) : Prop := ∀ (w : World) (ok : Nat → Prop) (cs : Array Value), LaidV w ok x cs.toList → Tabs w → Calls Tryz.prog 39 #[.agg cs] w fun e w' => VOut (fun b => w.heap.size ≤ b) (nfV x) e w' ∧ Below w.heap.size w w'
/-- The variables of oneForm, and that nothing old has turned. -/
structure Fm (w : World) (C : Array Value) (k : Int) (v4 v5 : Value) (w' : World) : Prop where
  a : w'.heap[w.heap.size]? = some (.cells C 25 (0, 0))
  z : w'.heap[w.heap.size + 1]? = some (.cells #[.int .i64 0, .bool false, .int .i64 0, .string ⟨#[]⟩, .slice none 0 0, .slice none 0 0] 25 (0, 0))
  v : w'.heap[w.heap.size + 1 + 1]? = some (.cells #[.int .i64 k, .bool false, .int .i64 0, .string ⟨#[]⟩, v4, v5] 25 (0, 0))
  b : Below w.heap.size w w'
  s : w.heap.size + 3 ≤ w'.heap.size
theorem Fm.keep {w : World} {C : Array Value} {k : Int} {v4 v5 : Value} {w1 w2 : World} (h : Fm w C k v4 v5 w1) (f : Below (w.heap.size + 3) w1 w2) : Fm w C k v4 v5 w2 :=
  ⟨(f.block _ (by omega)).trans h.a, (f.block _ (by omega)).trans h.z, (f.block _ (by omega)).trans h.v, h.b.trans (f.mono (by omega)), Nat.le_trans h.s f.size⟩
theorem Fm.new (w : World) (C : Array Value) (k : Int) : Fm w C k (.slice none 0 0) (.slice none 0 0) (((w.alloc (.cells C 25)).alloc (.cells #[.int .i64 0, .bool false, .int .i64 0, .string ⟨#[]⟩, .slice none 0 0, .slice none 0 0] 25)).alloc (.cells #[.int .i64 k, .bool false, .int .i64 0, .string ⟨#[]⟩, .slice none 0 0, .slice none 0 0] 25)) := by
  refine ⟨?_, ?_, ?_, (((Below.refl _ w).alloc (Nat.le_refl _) _).alloc (by simp) _).alloc (by simp; omega) _, by simp⟩
  · rw [Below.heap_alloc _ _ _ (by simp; omega), Below.heap_alloc _ _ _ (by simp)]
    exact heap_alloc_new _ _
  · rw [Below.heap_alloc _ _ _ (by simp)]
    exact heap_new1 _ _ _
  · have := heap_alloc_new ((w.alloc (.cells C 25)).alloc (.cells #[.int .i64 0, .bool false, .int .i64 0, .string ⟨#[]⟩, .slice none 0 0, .slice none 0 0] 25)) (.cells #[.int .i64 k, .bool false, .int .i64 0, .string ⟨#[]⟩, .slice none 0 0, .slice none 0 0] 25)
    rw [World.size_alloc, World.size_alloc] at this
    exact this
theorem Fm.set4 {w : World} {C : Array Value} {k : Int} {v4 v5 : Value} {w1 : World} (h : Fm w C k v4 v5 w1) (u : Value) : Fm w C k u v5 (w1.setCell ⟨w.heap.size + 1 + 1, 4, none⟩ u) :=
  ⟨(Below.heap_setCell _ _ _ _ (by simp; omega)).trans h.a, (Below.heap_setCell _ _ _ _ (by simp)).trans h.z, heap_set h.v 4 u, h.b.setCell (p := ⟨w.heap.size + 1 + 1, 4, none⟩) (by simp; omega) _, by simpa using h.s⟩
def numF : Value → Nat
  | .int _ n => n.toNat
  | _ => 0
theorem form_next {w wr W1 w2 w3 : World} {C : Array Value} {i : Nat} {v : Value} {va : Option Addr} {vc : Nat} {zs cs : List Value} {L L' : List GV} {NX : GV} {o : Obj} (hown : wr.ownsRow (w.heap.size + 3) 25 6 v i zs) (HLD : Hid (LaidL wr (fun b => w.heap.size + 3 ≤ b ∧ v.ownBlock ≠ some b) L zs)) (HTK : Hid (L' = L ++ [NX]))
    (hms : w.heap.size + 3 ≤ wr.heap.size) (hb12 : Below wr.heap.size wr w2) (hsz1 : W1.heap.size = wr.heap.size + 1) (hsz2 : W1.heap.size ≤ w2.heap.size) (hlx : LaidV w2 (fun b => W1.heap.size ≤ b) NX cs) (hown' : w3.ownsRow (w.heap.size + 3) 25 6 (.slice va (i + 1) vc) (i + 1) (zs ++ cs)) (hgrow3 : (w2.alloc o).grownBy w3 v.ownBlock) (hloc3 : (Value.slice va (i + 1) vc).ownBlock = v.ownBlock ∨ (Value.slice va (i + 1) vc).ownBlock = some (w2.alloc o).heap.size) (m3 : Fm w C 4 v (.slice none 0 0) w3) :
    Hid ((w3.setCell ⟨w.heap.size + 1 + 1, 4, none⟩ (.slice va (i + 1) vc)).ownsRow (w.heap.size + 3) 25 6 (.slice va (i + 1) vc) (i + 1) (zs ++ cs) ∧ Hid (LaidL (w3.setCell ⟨w.heap.size + 1 + 1, 4, none⟩ (.slice va (i + 1) vc)) (fun b => w.heap.size + 3 ≤ b ∧ (Value.slice va (i + 1) vc).ownBlock ≠ some b) L' (zs ++ cs)) ∧ Fm w C 4 (.slice va (i + 1) vc) (.slice none 0 0) (w3.setCell ⟨w.heap.size + 1 + 1, 4, none⟩ (.slice va (i + 1) vc))) := by
  have hs12 := hb12.size
  have hV1 : LaidL (w2.alloc o) (fun b => w.heap.size + 3 ≤ b ∧ v.ownBlock ≠ some b) L zs := HLD.out.conv (fun b hb hl' => ⟨hb, (Below.heap_alloc _ _ _ (by omega)).trans (hb12.block b hl')⟩)
  have hge : ∀ b, W1.heap.size ≤ b → v.ownBlock ≠ some b := fun b hb e => by
    have := (hown.lt _ e).2
    omega
  refine ⟨?_, ?_, m3.set4 _⟩
  · exact own_fr (S := fun k => k = w.heap.size + 1 + 1) hown' (Fr.setCell _ _ _ rfl) (fun k hk e => by omega)
  · show LaidL _ _ _ _
    rw [HTK.out]
    have hV2 : LaidV (w2.alloc o) (fun b => w.heap.size + 3 ≤ b ∧ v.ownBlock ≠ some b) NX cs := hlx.conv (fun b hb hl' => ⟨⟨by omega, hge b hb⟩, Below.heap_alloc _ _ _ hl'⟩)
    exact (snocL hgrow3 hloc3 hV1 hV2).conv (fun b hb _ => ⟨hb, Below.heap_setCell _ _ _ _ (by simp; omega)⟩)
set_option maxRecDepth 20000 in
set_option maxHeartbeats 8000000 in
theorem form_l (b : Bool) (n : Int) (t : ByteArray) (l : List GV) (f : List (ByteArray × GV)) (hsz : (GV.mk 4 b n t l f).sz ≤ 2000000) (hl : ∀ i (h : i < l.length), FormAt (l[i])) : FormAt (.mk 4 b n t l f) := by
  intro w ok cs hx hT
  obtain ⟨i0, hi, hz0, hz1, hz2⟩ := info_parts info26
  obtain ⟨a1, c1, a2, c2, xs, ys, hcs, hs1, -, hl1, -⟩ := hx.form
  obtain rfl : cs = #[.int .i64 4, .bool b, .int .i64 n, .string t, .slice a1 l.length c1, .slice a2 f.length c2] := by
    cases cs
    simpa using hcs
  have hll : l.length ≤ 2000000 := by have := szL_len l; unfold GV.sz at hsz; omega
  have hT3 := hT.lt
  clear hcs hx hsz
  have HT : Hid (Tabs w) := hT
  have HL : Hid (SlAt w ok (.slice a1 l.length c1) l.length 6 xs ∧ LaidL w ok l xs ∧ ∀ i (h : i < l.length), FormAt (l[i])) := ⟨hs1, hl1, hl⟩
  obtain ⟨N, hN⟩ : ∃ N, nfV (.mk 4 b n t l f) = N := ⟨_, rfl⟩
  have HN : Hid (.mk 4 false 0 ⟨#[]⟩ (l.map nfV) [] = N) := by show _ = _; rw [← hN, nfV, nfL_map]; simp
  rw [hN]
  clear hN hT hs1 hl1 hl
  obtain ⟨C, hC⟩ : ∃ C : Array Value, C = #[.int .i64 4, .bool b, .int .i64 n, .string t, .slice a1 l.length c1, .slice a2 f.length c2] := ⟨_, rfl⟩
  have m0 := Fm.new w C 4
  rw [hC] at m0
  go_enter Tryz.func39, Tryz.ntmps39
  go_wp2
  go_loopw [34] (fun u w' => ∃ (i : Nat) (v : Value) (zs : List Value), u = .int .i64 (i : Int) ∧ i ≤ l.length ∧ w'.ownsRow (w.heap.size + 3) 25 6 v i zs ∧ Hid (LaidL w' (fun b => w.heap.size + 3 ≤ b ∧ v.ownBlock ≠ some b) ((l.map nfV).take i) zs) ∧ Fm w #[.int .i64 4, .bool b, .int .i64 n, .string t, .slice a1 l.length c1, .slice a2 f.length c2] 4 v (.slice none 0 0) w') (fun u _ => l.length - numF u)
  case atStart => exact ⟨0, .slice none 0 0, [], rfl, Nat.zero_le _, World.ownsRow_nil _ _ _ _, by show LaidL _ _ _ _; simp [LaidL], m0⟩
  case round =>
    obtain ⟨i, v, zs, rfl, hil, hown, HLD, m⟩ := hrel
    have hmb := m.b
    have hms := m.s
    clear m0
    by_cases hlt : i < l.length
    · have hlt' : (i : Int) < (l.length : Int) := by omega
      obtain ⟨sb, off, es, ha1, hsb, hlv, hcell⟩ := SlAt.elem (HL.out.1.conv (ok' := fun b => b < w.heap.size) (w' := wr) (by decide) (fun b _ hb => ⟨hb, hmb.block b hb⟩)) (HL.out.2.1.conv (fun b _ hb => ⟨hb, hmb.block b hb⟩)) i hlt
      have hcp := HL.out.2.2 i hlt
      obtain ⟨X, hX⟩ : ∃ X, l[i] = X := ⟨_, rfl⟩
      have HTK : Hid ((l.map nfV).take (i + 1) = (l.map nfV).take i ++ [nfV X]) := by show _ = _; rw [List.take_succ_eq_append_getElem (by simpa using hlt), List.getElem_map, hX]
      rw [hX] at hlv hcp
      clear hX
      cases hXc : X with
      | mk k' b' n' t' l' f' =>
      rw [hXc] at hlv
      obtain ⟨p1, q1, p2, q2, _, _, rfl, -⟩ := hlv.form
      rw [← hXc] at hlv
      subst ha1
      have e0 := hcell 0 (by decide)
      have e1 := hcell 1 (by decide)
      have e2 := hcell 2 (by decide)
      have e3 := hcell 3 (by decide)
      have e4 := hcell 4 (by decide)
      have e5 := hcell 5 (by decide)
      simp only [List.getElem?_cons_zero, List.getElem?_cons_succ, Nat.add_zero] at e0 e1 e2 e3 e4 e5
      obtain ⟨NX, hNX⟩ : ∃ NX, nfV X = NX := ⟨_, rfl⟩
      obtain ⟨W1, hW1⟩ : ∃ W1, wr.alloc (.cells #[.int .i64 k', .bool b', .int .i64 n', .string t', .slice p1 l'.length q1, .slice p2 f'.length q2] 25) = W1 := ⟨_, rfl⟩
      have hb1 : Below wr.heap.size wr W1 := by rw [← hW1]; exact (Below.refl _ _).alloc (Nat.le_refl _) _
      have hsz1 : W1.heap.size = wr.heap.size + 1 := by rw [← hW1]; simp
      have hbx : W1.heap[wr.heap.size]? = some (.cells #[.int .i64 k', .bool b', .int .i64 n', .string t', .slice p1 l'.length q1, .slice p2 f'.length q2] 25 (0, 0)) := by rw [← hW1]; exact heap_alloc_new _ _
      have hcall := hcp W1.drew (fun b => b < w.heap.size) #[.int .i64 k', .bool b', .int .i64 n', .string t', .slice p1 l'.length q1, .slice p2 f'.length q2] (hlv.conv (w' := W1.drew) (fun b hb hl => ⟨hb, hb1.block b hl⟩)) (HT.out.of (w' := W1.drew) ((hb1.block 1 (by omega)).trans (hmb.block 1 (by omega))) ((hb1.block 2 (by omega)).trans (hmb.block 2 (by omega))))
      rw [hNX] at hcall HTK
      have LD : Hid (∀ wq, Below W1.heap.size W1 wq → wq.cell? ⟨w.heap.size + 1 + 1, 4, none⟩ = some v ∧ wq.heap[wr.heap.size]? = some (.cells #[.int .i64 k', .bool b', .int .i64 n', .string t', .slice p1 l'.length q1, .slice p2 f'.length q2] 25 (0, 0))) := by
        intro wq hq
        refine ⟨?_, (hq.block _ (by omega)).trans hbx⟩
        have h1 := (hq.block (w.heap.size + 1 + 1) (by omega)).trans ((hb1.block (w.heap.size + 1 + 1) (by omega)).trans m.v)
        simp [World.cell?, h1]
      clear hcell hXc hcp hlv hNX
      go_wp2
      have x4 : W1.cell? ⟨w.heap.size + 1 + 1, 4, none⟩ = some v := (LD.out W1 (Below.refl _ _)).1
      obtain ⟨y0, y1, y2, y3, y4, y5⟩ := box6 hbx
      have hq2 : ∀ w2, Below W1.drew.heap.size W1.drew w2 → Below W1.heap.size W1 w2 ∧ w2.cell? ⟨w.heap.size + 1 + 1, 4, none⟩ = some v := fun w2 h2 => by
        have hb2 : Below W1.heap.size W1 w2 := ⟨h2.os, h2.tape, h2.output, h2.size, h2.block⟩
        exact ⟨hb2, (LD.out w2 hb2).1⟩
      clear LD
      refine wp_region_any (by kernel_rfl) ?_
      change wpAny _ _ _ _ _ _ _ (World.drew _)
      refine wpAny_take (i := 0) (v := .pointer (some ⟨w.heap.size + 1 + 1, 4, none⟩)) rfl (by kernel_rfl) (by kernel_rfl) (by kernel_rfl) (fun _ _ _ h => h) (Or.inl ⟨by rfl, fun w => by go_simp⟩) ?_
      try simp only [Act.put, List.getElem_toArray, List.getElem_cons_zero, List.setIfInBounds_toArray, List.set_cons_zero, List.set_cons_succ]
      refine wpAny_ready (rs := [1, 2]) (by kernel_rfl) (by simp) ?_
      refine AllReady.cons rfl (fun K hK => ?_) (AllReady.cons rfl (fun K hK => ?_) AllReady.nil)
      · go_simp
        refine hK _ _ ?_
        clear hK K
        try simp only [Act.put, List.getElem_toArray, List.getElem_cons_succ, List.getElem_cons_zero, List.setIfInBounds_toArray, List.set_cons_zero, List.set_cons_succ]
        refine wpAny_ready (rs := [2]) (by kernel_rfl) (by simp) ?_
        refine AllReady.cons rfl (fun K hK => ?_) AllReady.nil
        go_simp
        refine hK _ _ ?_
        clear hK K
        try simp only [Act.put, List.getElem_toArray, List.getElem_cons_succ, List.getElem_cons_zero, List.setIfInBounds_toArray, List.set_cons_zero, List.set_cons_succ]
        refine wpAny_ready (rs := [3]) (by kernel_rfl) (by simp) ?_
        refine AllReady.cons rfl (fun K hK => ?_) AllReady.nil
        go_simp
        refine hcall.mono ?_
        rintro e w2 ⟨⟨kk, bb, nn, tt, r1, s1, u1, r2, s2, u2, rfl, hlx⟩, h2⟩
        obtain ⟨hb2, x42⟩ := hq2 w2 h2
        refine hK _ _ ?_
        clear hK K
        try simp only [Act.put, List.getElem_toArray, List.getElem_cons_succ, List.getElem_cons_zero, List.setIfInBounds_toArray, List.set_cons_zero, List.set_cons_succ]
        refine wpAny_ready (rs := [4]) (by kernel_rfl) (by simp) ?_
        refine AllReady.cons rfl (fun K hK => ?_) AllReady.nil
        go_simp
        refine hK _ _ ?_
        clear hK K
        try simp only [Act.put, List.getElem_toArray, List.getElem_cons_succ, List.getElem_cons_zero, List.setIfInBounds_toArray, List.set_cons_zero, List.set_cons_succ]
        have hsz2 := hb2.size
        have hb12 : Below wr.heap.size wr w2 := hb1.trans (hb2.mono (by omega))
        have hown2 := own_kept hown hb12
        refine wpAny_ready (rs := [5]) (by kernel_rfl) (by simp) ?_
        refine AllReady.cons rfl (fun K hK => ?_) AllReady.nil
        refine step_append_own rfl (.tmp 39) (.tmp 42) 22 rfl (w.heap.size + 3) 25 i0 _ 6 88 Tryz.underlying22 hi hz0 hz1 hz2 rfl (by decide) v i zs rfl (hown2.alloc _) ⟨w2.heap.size, 0, none⟩ 1 1 [.int .i64 kk, .bool bb, .int .i64 nn, .string tt, .slice r1 s1 u1, .slice r2 s2 u2] rfl rfl (cells6 (heap_alloc_new _ _)) (by simp [Value.oneCell']) (by unfold maxLen; omega) (by omega) (by simp; omega) ?_
        intro v' w3 hown' hgrow3 hloc3
        have hb23 : Below (w.heap.size + 3) wr w3 := Below.grown ((hb12.mono hms).alloc (by omega) _) hgrow3 (by simp; omega) (fun j hj => (hown.lt _ hj).1)
        have m3 := m.keep hb23
        have c4 : w3.cell? ⟨w.heap.size + 1 + 1, 4, none⟩ = some v := by simp [World.cell?, m3.v]
        have z4 := box_fz m3.v 4
        refine hK _ _ ?_
        clear hK K
        try simp only [Act.put, List.getElem_toArray, List.getElem_cons_succ, List.getElem_cons_zero, List.setIfInBounds_toArray, List.set_cons_zero, List.set_cons_succ]
        refine wpAny_take (i := 6) (v := .pointer (some ⟨w.heap.size + 1 + 1, 4, none⟩)) rfl (by kernel_rfl) (by kernel_rfl) (by kernel_rfl) (fun _ _ _ h => h) (Or.inl ⟨by rfl, fun w => by go_simp⟩) ?_
        try simp only [Act.put, List.getElem_toArray, List.getElem_cons_succ, List.getElem_cons_zero, List.setIfInBounds_toArray, List.set_cons_zero, List.set_cons_succ]
        refine wpAny_ready (rs := [7]) (by kernel_rfl) (by simp) ?_
        refine AllReady.cons rfl (fun K hK => ?_) AllReady.nil
        obtain ⟨va, vc, rfl⟩ := own_form hown'
        go_simp
        refine hK _ _ ?_
        clear hK K
        try simp only [Act.put, List.getElem_toArray, List.getElem_cons_succ, List.getElem_cons_zero, List.setIfInBounds_toArray, List.set_cons_zero, List.set_cons_succ]
        refine wpAny_done (by kernel_rfl) ?_ _
        have H4 := form_next hown HLD HTK hms hb12 hsz1 hsz2 hlx hown' hgrow3 hloc3 m3
        clear c4 z4 hown2 hlx hgrow3 hloc3 hown' HLD HTK x4
        go_wp2
        go_roundw
        case rel => exact ⟨i + 1, _, _, by simp, hlt, H4.out.1, H4.out.2.1, H4.out.2.2⟩
        case measure => simp [numF]; omega
      · go_simp
        refine hK _ _ ?_
        clear hK K
        try simp only [Act.put, List.getElem_toArray, List.getElem_cons_succ, List.getElem_cons_zero, List.setIfInBounds_toArray, List.set_cons_zero, List.set_cons_succ]
        refine wpAny_ready (rs := [1, 3]) (by kernel_rfl) (by simp) ?_
        refine AllReady.cons rfl (fun K hK => ?_) (AllReady.cons rfl (fun K hK => ?_) AllReady.nil)
        · go_simp
          refine hK _ _ ?_
          clear hK K
          try simp only [Act.put, List.getElem_toArray, List.getElem_cons_succ, List.getElem_cons_zero, List.setIfInBounds_toArray, List.set_cons_zero, List.set_cons_succ]
          refine wpAny_ready (rs := [3]) (by kernel_rfl) (by simp) ?_
          refine AllReady.cons rfl (fun K hK => ?_) AllReady.nil
          go_simp
          refine hcall.mono ?_
          rintro e w2 ⟨⟨kk, bb, nn, tt, r1, s1, u1, r2, s2, u2, rfl, hlx⟩, h2⟩
          obtain ⟨hb2, x42⟩ := hq2 w2 h2
          refine hK _ _ ?_
          clear hK K
          try simp only [Act.put, List.getElem_toArray, List.getElem_cons_succ, List.getElem_cons_zero, List.setIfInBounds_toArray, List.set_cons_zero, List.set_cons_succ]
          refine wpAny_ready (rs := [4]) (by kernel_rfl) (by simp) ?_
          refine AllReady.cons rfl (fun K hK => ?_) AllReady.nil
          go_simp
          refine hK _ _ ?_
          clear hK K
          try simp only [Act.put, List.getElem_toArray, List.getElem_cons_succ, List.getElem_cons_zero, List.setIfInBounds_toArray, List.set_cons_zero, List.set_cons_succ]
          have hsz2 := hb2.size
          have hb12 : Below wr.heap.size wr w2 := hb1.trans (hb2.mono (by omega))
          have hown2 := own_kept hown hb12
          refine wpAny_ready (rs := [5]) (by kernel_rfl) (by simp) ?_
          refine AllReady.cons rfl (fun K hK => ?_) AllReady.nil
          refine step_append_own rfl (.tmp 39) (.tmp 42) 22 rfl (w.heap.size + 3) 25 i0 _ 6 88 Tryz.underlying22 hi hz0 hz1 hz2 rfl (by decide) v i zs rfl (hown2.alloc _) ⟨w2.heap.size, 0, none⟩ 1 1 [.int .i64 kk, .bool bb, .int .i64 nn, .string tt, .slice r1 s1 u1, .slice r2 s2 u2] rfl rfl (cells6 (heap_alloc_new _ _)) (by simp [Value.oneCell']) (by unfold maxLen; omega) (by omega) (by simp; omega) ?_
          intro v' w3 hown' hgrow3 hloc3
          have hb23 : Below (w.heap.size + 3) wr w3 := Below.grown ((hb12.mono hms).alloc (by omega) _) hgrow3 (by simp; omega) (fun j hj => (hown.lt _ hj).1)
          have m3 := m.keep hb23
          have c4 : w3.cell? ⟨w.heap.size + 1 + 1, 4, none⟩ = some v := by simp [World.cell?, m3.v]
          have z4 := box_fz m3.v 4
          refine hK _ _ ?_
          clear hK K
          try simp only [Act.put, List.getElem_toArray, List.getElem_cons_succ, List.getElem_cons_zero, List.setIfInBounds_toArray, List.set_cons_zero, List.set_cons_succ]
          refine wpAny_take (i := 6) (v := .pointer (some ⟨w.heap.size + 1 + 1, 4, none⟩)) rfl (by kernel_rfl) (by kernel_rfl) (by kernel_rfl) (fun _ _ _ h => h) (Or.inl ⟨by rfl, fun w => by go_simp⟩) ?_
          try simp only [Act.put, List.getElem_toArray, List.getElem_cons_succ, List.getElem_cons_zero, List.setIfInBounds_toArray, List.set_cons_zero, List.set_cons_succ]
          refine wpAny_ready (rs := [7]) (by kernel_rfl) (by simp) ?_
          refine AllReady.cons rfl (fun K hK => ?_) AllReady.nil
          obtain ⟨va, vc, rfl⟩ := own_form hown'
          go_simp
          refine hK _ _ ?_
          clear hK K
          try simp only [Act.put, List.getElem_toArray, List.getElem_cons_succ, List.getElem_cons_zero, List.setIfInBounds_toArray, List.set_cons_zero, List.set_cons_succ]
          refine wpAny_done (by kernel_rfl) ?_ _
          have H4 := form_next hown HLD HTK hms hb12 hsz1 hsz2 hlx hown' hgrow3 hloc3 m3
          clear c4 z4 hown2 hlx hgrow3 hloc3 hown' HLD HTK x4
          go_wp2
          go_roundw
          case rel => exact ⟨i + 1, _, _, by simp, hlt, H4.out.1, H4.out.2.1, H4.out.2.2⟩
          case measure => simp [numF]; omega
        · go_simp
          refine hcall.mono ?_
          rintro e w2 ⟨⟨kk, bb, nn, tt, r1, s1, u1, r2, s2, u2, rfl, hlx⟩, h2⟩
          obtain ⟨hb2, x42⟩ := hq2 w2 h2
          refine hK _ _ ?_
          clear hK K
          try simp only [Act.put, List.getElem_toArray, List.getElem_cons_succ, List.getElem_cons_zero, List.setIfInBounds_toArray, List.set_cons_zero, List.set_cons_succ]
          refine wpAny_ready (rs := [1, 4]) (by kernel_rfl) (by simp) ?_
          refine AllReady.cons rfl (fun K hK => ?_) (AllReady.cons rfl (fun K hK => ?_) AllReady.nil)
          · go_simp
            refine hK _ _ ?_
            clear hK K
            try simp only [Act.put, List.getElem_toArray, List.getElem_cons_succ, List.getElem_cons_zero, List.setIfInBounds_toArray, List.set_cons_zero, List.set_cons_succ]
            refine wpAny_ready (rs := [4]) (by kernel_rfl) (by simp) ?_
            refine AllReady.cons rfl (fun K hK => ?_) AllReady.nil
            go_simp
            refine hK _ _ ?_
            clear hK K
            try simp only [Act.put, List.getElem_toArray, List.getElem_cons_succ, List.getElem_cons_zero, List.setIfInBounds_toArray, List.set_cons_zero, List.set_cons_succ]
            have hsz2 := hb2.size
            have hb12 : Below wr.heap.size wr w2 := hb1.trans (hb2.mono (by omega))
            have hown2 := own_kept hown hb12
            refine wpAny_ready (rs := [5]) (by kernel_rfl) (by simp) ?_
            refine AllReady.cons rfl (fun K hK => ?_) AllReady.nil
            refine step_append_own rfl (.tmp 39) (.tmp 42) 22 rfl (w.heap.size + 3) 25 i0 _ 6 88 Tryz.underlying22 hi hz0 hz1 hz2 rfl (by decide) v i zs rfl (hown2.alloc _) ⟨w2.heap.size, 0, none⟩ 1 1 [.int .i64 kk, .bool bb, .int .i64 nn, .string tt, .slice r1 s1 u1, .slice r2 s2 u2] rfl rfl (cells6 (heap_alloc_new _ _)) (by simp [Value.oneCell']) (by unfold maxLen; omega) (by omega) (by simp; omega) ?_
            intro v' w3 hown' hgrow3 hloc3
            have hb23 : Below (w.heap.size + 3) wr w3 := Below.grown ((hb12.mono hms).alloc (by omega) _) hgrow3 (by simp; omega) (fun j hj => (hown.lt _ hj).1)
            have m3 := m.keep hb23
            have c4 : w3.cell? ⟨w.heap.size + 1 + 1, 4, none⟩ = some v := by simp [World.cell?, m3.v]
            have z4 := box_fz m3.v 4
            refine hK _ _ ?_
            clear hK K
            try simp only [Act.put, List.getElem_toArray, List.getElem_cons_succ, List.getElem_cons_zero, List.setIfInBounds_toArray, List.set_cons_zero, List.set_cons_succ]
            refine wpAny_take (i := 6) (v := .pointer (some ⟨w.heap.size + 1 + 1, 4, none⟩)) rfl (by kernel_rfl) (by kernel_rfl) (by kernel_rfl) (fun _ _ _ h => h) (Or.inl ⟨by rfl, fun w => by go_simp⟩) ?_
            try simp only [Act.put, List.getElem_toArray, List.getElem_cons_succ, List.getElem_cons_zero, List.setIfInBounds_toArray, List.set_cons_zero, List.set_cons_succ]
            refine wpAny_ready (rs := [7]) (by kernel_rfl) (by simp) ?_
            refine AllReady.cons rfl (fun K hK => ?_) AllReady.nil
            obtain ⟨va, vc, rfl⟩ := own_form hown'
            go_simp
            refine hK _ _ ?_
            clear hK K
            try simp only [Act.put, List.getElem_toArray, List.getElem_cons_succ, List.getElem_cons_zero, List.setIfInBounds_toArray, List.set_cons_zero, List.set_cons_succ]
            refine wpAny_done (by kernel_rfl) ?_ _
            have H4 := form_next hown HLD HTK hms hb12 hsz1 hsz2 hlx hown' hgrow3 hloc3 m3
            clear c4 z4 hown2 hlx hgrow3 hloc3 hown' HLD HTK x4
            go_wp2
            go_roundw
            case rel => exact ⟨i + 1, _, _, by simp, hlt, H4.out.1, H4.out.2.1, H4.out.2.2⟩
            case measure => simp [numF]; omega
          · go_simp
            refine hK _ _ ?_
            clear hK K
            try simp only [Act.put, List.getElem_toArray, List.getElem_cons_succ, List.getElem_cons_zero, List.setIfInBounds_toArray, List.set_cons_zero, List.set_cons_succ]
            have x43 : (w2.alloc (.cells #[.int .i64 kk, .bool bb, .int .i64 nn, .string tt, .slice r1 s1 u1, .slice r2 s2 u2] 25)).cell? ⟨w.heap.size + 1 + 1, 4, none⟩ = some v := (World.cell?_alloc_some _ _ _ (by rw [x42]; rfl)).trans x42
            refine wpAny_ready (rs := [1]) (by kernel_rfl) (by simp) ?_
            refine AllReady.cons rfl (fun K hK => ?_) AllReady.nil
            go_simp
            refine hK _ _ ?_
            clear hK K
            try simp only [Act.put, List.getElem_toArray, List.getElem_cons_succ, List.getElem_cons_zero, List.setIfInBounds_toArray, List.set_cons_zero, List.set_cons_succ]
            have hsz2 := hb2.size
            have hb12 : Below wr.heap.size wr w2 := hb1.trans (hb2.mono (by omega))
            have hown2 := own_kept hown hb12
            refine wpAny_ready (rs := [5]) (by kernel_rfl) (by simp) ?_
            refine AllReady.cons rfl (fun K hK => ?_) AllReady.nil
            refine step_append_own rfl (.tmp 39) (.tmp 42) 22 rfl (w.heap.size + 3) 25 i0 _ 6 88 Tryz.underlying22 hi hz0 hz1 hz2 rfl (by decide) v i zs rfl (hown2.alloc _) ⟨w2.heap.size, 0, none⟩ 1 1 [.int .i64 kk, .bool bb, .int .i64 nn, .string tt, .slice r1 s1 u1, .slice r2 s2 u2] rfl rfl (cells6 (heap_alloc_new _ _)) (by simp [Value.oneCell']) (by unfold maxLen; omega) (by omega) (by simp; omega) ?_
            intro v' w3 hown' hgrow3 hloc3
            have hb23 : Below (w.heap.size + 3) wr w3 := Below.grown ((hb12.mono hms).alloc (by omega) _) hgrow3 (by simp; omega) (fun j hj => (hown.lt _ hj).1)
            have m3 := m.keep hb23
            have c4 : w3.cell? ⟨w.heap.size + 1 + 1, 4, none⟩ = some v := by simp [World.cell?, m3.v]
            have z4 := box_fz m3.v 4
            refine hK _ _ ?_
            clear hK K
            try simp only [Act.put, List.getElem_toArray, List.getElem_cons_succ, List.getElem_cons_zero, List.setIfInBounds_toArray, List.set_cons_zero, List.set_cons_succ]
            refine wpAny_take (i := 6) (v := .pointer (some ⟨w.heap.size + 1 + 1, 4, none⟩)) rfl (by kernel_rfl) (by kernel_rfl) (by kernel_rfl) (fun _ _ _ h => h) (Or.inl ⟨by rfl, fun w => by go_simp⟩) ?_
            try simp only [Act.put, List.getElem_toArray, List.getElem_cons_succ, List.getElem_cons_zero, List.setIfInBounds_toArray, List.set_cons_zero, List.set_cons_succ]
            refine wpAny_ready (rs := [7]) (by kernel_rfl) (by simp) ?_
            refine AllReady.cons rfl (fun K hK => ?_) AllReady.nil
            obtain ⟨va, vc, rfl⟩ := own_form hown'
            go_simp
            refine hK _ _ ?_
            clear hK K
            try simp only [Act.put, List.getElem_toArray, List.getElem_cons_succ, List.getElem_cons_zero, List.setIfInBounds_toArray, List.set_cons_zero, List.set_cons_succ]
            refine wpAny_done (by kernel_rfl) ?_ _
            have H4 := form_next hown HLD HTK hms hb12 hsz1 hsz2 hlx hown' hgrow3 hloc3 m3
            clear c4 z4 hown2 hlx hgrow3 hloc3 hown' HLD HTK x4
            go_wp2
            go_roundw
            case rel => exact ⟨i + 1, _, _, by simp, hlt, H4.out.1, H4.out.2.1, H4.out.2.2⟩
            case measure => simp [numF]; omega
    · have hlt' : ¬ (i : Int) < (l.length : Int) := by omega
      obtain rfl : i = l.length := by omega
      obtain ⟨va, vc, rfl⟩ := own_form hown
      obtain ⟨x0, x1, x2, x3, x4, x5⟩ := box6 m.v
      obtain ⟨y0, y1, y2, y3, y4, y5⟩ := box6 m.z
      have z0 := box_fz m.z 0
      have z1 := box_fz m.z 1
      have z2 := box_fz m.z 2
      have z3 := box_fz m.z 3
      have z4 := box_fz m.z 4
      have z5 := box_fz m.z 5
      have HV : Hid (LaidV wr (fun b => w.heap.size + 3 ≤ b) N [.int .i64 4, .bool false, .int .i64 0, .string ⟨#[]⟩, .slice va l.length vc, .slice none 0 0]) := by
        show LaidV _ _ _ _
        rw [← HN.out]
        unfold LaidV
        have h1 := HLD.out
        rw [List.take_of_length_le (by simp)] at h1
        refine ⟨_, _, zs, [], rfl, ?_, ⟨rfl, .inl ⟨none, 0, rfl, rfl⟩⟩, h1.conv (fun b hb hl => ⟨hb.1, rfl⟩), by unfold LaidF; rfl⟩
        rw [List.length_map]
        exact slAt_of_own hown
      clear HLD hown HL hil hlt
      go_wp2
      refine bodyPost_ret (v := .agg #[.int .i64 4, .bool false, .int .i64 0, .string ⟨#[]⟩, .slice va l.length vc, .slice none 0 0]) (by simp [results, Tryz.results39, go_sem, *]) rfl ⟨⟨_, _, _, _, _, _, _, _, _, _, rfl, ?_⟩, ?_⟩
      · refine HV.out.conv (fun b hb hl => ⟨by omega, ?_⟩)
        rw [Below.heap_setCell _ _ _ _ (by simp; omega), Below.heap_setCell _ _ _ _ (by simp; omega), Below.heap_setCell _ _ _ _ (by simp; omega), Below.heap_setCell _ _ _ _ (by simp; omega), Below.heap_setCell _ _ _ _ (by simp; omega), Below.heap_setCell _ _ _ _ (by simp; omega)]
      · exact (((((hmb.setCell (p := ⟨w.heap.size + 1, 0, none⟩) (by simp) _).setCell (p := ⟨w.heap.size + 1, 1, none⟩) (by simp) _).setCell (p := ⟨w.heap.size + 1, 2, none⟩) (by simp) _).setCell (p := ⟨w.heap.size + 1, 3, none⟩) (by simp) _).setCell (p := ⟨w.heap.size + 1, 4, none⟩) (by simp) _).setCell (p := ⟨w.heap.size + 1, 5, none⟩) (by simp) _
end Dc
end Go.Proofs.YtiakidomcjpdhaaGreatDoor

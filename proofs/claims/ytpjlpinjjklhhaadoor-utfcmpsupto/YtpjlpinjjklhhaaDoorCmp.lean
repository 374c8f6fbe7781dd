/- What utf.Cmp does at every two texts: contracts, by walking its text over the two tables of unicode/utf8. -/
import Derived.Test.YtpjlpinjjklhhaaDoorDecB
import Derived.Test.YtpjlpinjjklhhaaDoorLawC
namespace Go.Proofs.YtpjlpinjjklhhaaDoor
open Go.RowKit
namespace CmpW
open DecW RefW

/-- The order of lists of numbers: -1, 0 or 1. -/
def cmpL : List Nat → List Nat → Int
  | [], [] => 0
  | [], _ :: _ => -1
  | _ :: _, [] => 1
  | x :: xs, y :: ys => if x < y then -1 else if y < x then 1 else cmpL xs ys
theorem cmpL_same : ∀ xs, cmpL xs xs = 0
  | [] => rfl
  | x :: xs => by simp [cmpL, cmpL_same xs]
theorem cmpL_neg : ∀ xs ys, cmpL ys xs = -cmpL xs ys
  | [], [] => rfl
  | [], _ :: _ => rfl
  | _ :: _, [] => rfl
  | x :: xs, y :: ys => by
    unfold cmpL
    by_cases h1 : x < y
    · rw [if_neg (show ¬ y < x by omega), if_pos h1, if_pos h1]; rfl
    · by_cases h2 : y < x
      · rw [if_pos h2, if_neg h1, if_pos h2]
      · rw [if_neg h2, if_neg h1, if_neg h1, if_neg h2]; exact cmpL_neg xs ys
theorem cmpL_bd : ∀ xs ys, -1 ≤ cmpL xs ys ∧ cmpL xs ys ≤ 1
  | [], [] => by decide
  | [], _ :: _ => by simp [cmpL]
  | _ :: _, [] => by simp [cmpL]
  | x :: xs, y :: ys => by
    unfold cmpL
    have := cmpL_bd xs ys
    repeat' split
    all_goals omega

theorem compare_rune (x y : Int) (w : World) : Calls Tryd.prog 35 #[.int .i32 x, .int .i32 y] w fun e w' => e = .returned (.int .i64 (if x < y then -1 else if y < x then 1 else 0)) ∧ w' = w := by
  have hx : (x != x) = false := by simp
  have hy : (y != y) = false := by simp
  by_cases h1 : x < y
  · rw [if_pos h1]
    go_enter Tryd.func35, Tryd.ntmps35
    go_wp2
    go_ret
    exact ⟨rfl, rfl⟩
  · rw [if_neg h1]
    by_cases h2 : y < x
    · rw [if_pos h2]
      go_enter Tryd.func35, Tryd.ntmps35
      go_wp2
      go_ret
      exact ⟨rfl, rfl⟩
    · rw [if_neg h2]
      go_enter Tryd.func35, Tryd.ntmps35
      go_wp2
      go_ret
      exact ⟨rfl, rfl⟩
theorem compare_int (x y : Int) (w : World) : Calls Tryd.prog 36 #[.int .i64 x, .int .i64 y] w fun e w' => e = .returned (.int .i64 (if x < y then -1 else if y < x then 1 else 0)) ∧ w' = w := by
  have hx : (x != x) = false := by simp
  have hy : (y != y) = false := by simp
  by_cases h1 : x < y
  · rw [if_pos h1]
    go_enter Tryd.func36, Tryd.ntmps36
    go_wp2
    go_ret
    exact ⟨rfl, rfl⟩
  · rw [if_neg h1]
    by_cases h2 : y < x
    · rw [if_pos h2]
      go_enter Tryd.func36, Tryd.ntmps36
      go_wp2
      go_ret
      exact ⟨rfl, rfl⟩
    · rw [if_neg h2]
      go_enter Tryd.func36, Tryd.ntmps36
      go_wp2
      go_ret
      exact ⟨rfl, rfl⟩

/-! A text cut at a place is decoded as the text at that place; a character's width is told by its number. -/
theorem cut_data (b : ByteArray) (pos : Nat) : (b.extract pos b.size).data.toList = b.data.toList.drop pos := by
  rw [Lib.extract_data, List.take_of_length_le]
  rw [List.length_drop, ← Lib.size_eq]
  exact Nat.le_refl _
theorem cut_size (b : ByteArray) (pos : Nat) : (b.extract pos b.size).size = b.size - pos := by
  rw [Lib.size_eq, cut_data, List.length_drop, ← Lib.size_eq]
theorem cut_get (b : ByteArray) (pos k : Nat) : (b.extract pos b.size).get! k = b.get! (pos + k) := by
  have h := get_drop (b.extract pos b.size) 0 k
  rw [Nat.zero_add, cut_data, List.drop_zero] at h
  rw [h, get_drop]
theorem cut_decode (b : ByteArray) (pos : Nat) : Utf8.decode (b.extract pos b.size) 0 = Utf8.decode b pos := by
  rw [Lib.decode_at, Lib.decode_at, cut_size, cut_get, cut_get, cut_get, cut_get]
  simp only [Nat.sub_zero, Nat.add_zero, Nat.zero_add]
def wOf (r : Nat) : Nat := if r < 128 then 1 else if r < 2048 then 2 else if r < 65536 then 3 else 4
theorem width_of (s : ByteArray) (pos : Nat) (h : noChar s pos = false) : (Utf8.decode s pos).2 = wOf (Utf8.decode s pos).1 := by
  unfold noChar at h
  rw [decide_eq_false_iff_not] at h
  have b0 := (s.get! pos).toNat_lt
  have b1 := (s.get! (pos + 1)).toNat_lt
  rw [Lib.decode_at] at h ⊢
  revert h
  unfold Lib.decodeN wOf
  repeat' split
  all_goals
    intro h
    first
      | (exact absurd rfl h)
      | rfl
      | (exfalso; simp only at *; omega)

/-- What the loop keeps at a place. -/
def CmpInv (a b : ByteArray) (pos : Nat) : Prop :=
  pos ≤ a.size ∧ pos ≤ b.size ∧ badAt a pos = -1 ∧ badAt b pos = -1 ∧ cmpL (ptsAt a pos) (ptsAt b pos) = cmpL (ptsAt a 0) (ptsAt b 0)
theorem inv_next {a b : ByteArray} {pos : Nat} (h : CmpInv a b pos) (ha : pos < a.size) (hb : pos < b.size) (he : (Utf8.decode a pos).1 = (Utf8.decode b pos).1) : CmpInv a b (pos + (Utf8.decode a pos).2) := by
  obtain ⟨_, _, h3, h4, h5⟩ := h
  have na := badAt_sound a pos ha h3
  have nb := badAt_sound b pos hb h4
  have ew : (Utf8.decode a pos).2 = (Utf8.decode b pos).2 := by rw [width_of a pos na, width_of b pos nb, he]
  have fa := width_fit a pos ha na
  have fb := width_fit b pos hb nb
  refine ⟨fa, by omega, ?_, ?_, ?_⟩
  · rw [← badAt_next a pos ha na]; exact h3
  · rw [ew, ← badAt_next b pos hb nb]; exact h4
  · rw [← h5, ptsAt_next a pos ha, ptsAt_next b pos hb, he, ← ew]
    simp [cmpL]
theorem inv_part {a b : ByteArray} {pos : Nat} (h : CmpInv a b pos) (ha : pos < a.size) (hb : pos < b.size) (he : (Utf8.decode a pos).1 ≠ (Utf8.decode b pos).1) :
    (if ((Utf8.decode a pos).1 : Int) < ((Utf8.decode b pos).1 : Int) then (-1 : Int) else if ((Utf8.decode b pos).1 : Int) < ((Utf8.decode a pos).1 : Int) then 1 else 0) = cmpL (ptsAt a 0) (ptsAt b 0) := by
  obtain ⟨_, _, _, _, h5⟩ := h
  rw [← h5, ptsAt_next a pos ha, ptsAt_next b pos hb]
  unfold cmpL
  by_cases h1 : (Utf8.decode a pos).1 < (Utf8.decode b pos).1
  · rw [if_pos (by omega), if_pos h1]
  · rw [if_neg (by omega), if_neg h1, if_pos (by omega), if_pos (by omega)]
theorem inv_over {a b : ByteArray} {pos : Nat} (h : CmpInv a b pos) (ha : pos < a.size) (hb : pos = b.size) : cmpL (ptsAt a 0) (ptsAt b 0) = 1 := by
  obtain ⟨_, _, _, _, h5⟩ := h
  rw [← h5, ptsAt_next a pos ha, ptsAt_end b pos (by omega)]
  rfl
theorem inv_end {a b : ByteArray} {pos : Nat} (h : CmpInv a b pos) (ha : ¬ pos < a.size) : (if (a.size : Int) < (b.size : Int) then (-1 : Int) else if (b.size : Int) < (a.size : Int) then 1 else 0) = cmpL (ptsAt a 0) (ptsAt b 0) := by
  obtain ⟨h1, h2, _, _, h5⟩ := h
  have ep : pos = a.size := by omega
  rw [← h5, ptsAt_end a pos ha]
  by_cases hb : pos < b.size
  · rw [if_pos (by omega), ptsAt_next b pos hb]
    rfl
  · rw [if_neg (by omega), if_neg (by omega), ptsAt_end b pos hb]
    rfl

theorem dec_at (b : ByteArray) (pos : Nat) (w : World) (hT : Tabs w) (hp : pos < b.size) :
    Calls Tryd.prog 34 #[.string (b.extract pos b.size)] w fun e w' => e = .returned (.tuple #[.int .i32 ((Utf8.decode b pos).1 : Int), .int .i64 ((Utf8.decode b pos).2 : Int)]) ∧ Below w.heap.size w w' := by
  have h := dec_any (b.extract pos b.size) w hT (by rw [cut_size]; omega)
  rw [cut_decode] at h
  exact h

set_option maxHeartbeats 4000000 in
theorem cmp_ok (a b : ByteArray) (w : World) (ha : a.size ≤ 17592186044416) (hb : b.size ≤ 17592186044416) (h1 : badAt a 0 = -1) (h2 : badAt b 0 = -1) (hT : Tabs w) :
    Calls Tryd.prog 20 #[.string a, .string b] w fun e w' => e = .returned (.tuple #[.int .i64 (cmpL (ptsAt a 0) (ptsAt b 0)), .nilIface]) ∧ Below w.heap.size w w' := by
  have H0 : Hid (CmpInv a b 0) := ⟨Nat.zero_le _, Nat.zero_le _, h1, h2, rfl⟩
  have hb0 := Below.refl w.heap.size w
  obtain ⟨V, hV⟩ : ∃ V, cmpL (ptsAt a 0) (ptsAt b 0) = V := ⟨_, rfl⟩
  have HV : Hid (cmpL (ptsAt a 0) (ptsAt b 0) = V) := hV
  rw [hV]
  clear hV
  have hla : a.size ≤ 140737488351232 := by omega
  have hlb : b.size ≤ 140737488351232 := by omega
  go_enter Tryd.func20, Tryd.ntmps20
  go_wp2_with (go_at_call 10; refine (bad_any _ _ (by first | exact hla | exact hlb)).mono ?_; rintro e w1 ⟨rfl, hb1⟩; replace hb0 := hb0.trans (hb1.mono hb0.size); clear hb1)
  clear h1 h2
  go_loopw [] (fun wr => ∃ pos : Nat, wr.heap[w1.heap.size]? = some (.stringIter a pos) ∧ Below w.heap.size w wr ∧ Hid (CmpInv a b pos)) (fun wr => a.size - wr.iterPos w1.heap.size)
  case atStart => exact ⟨0, World.iter_heap w1 a 0, hb0.alloc hb0.size _, H0⟩
  case round =>
    obtain ⟨pos, hit, hbw, HI⟩ := hrel
    have hpos0 := iterPos_of hit
    have hsz := hb0.size
    clear hb0 H0
    by_cases hp : pos < a.size
    · have hnx : ∀ ty, (Instr.next (.pointer (some ⟨w1.heap.size, 0, none⟩)) true ty).run Tryd.prog wr = _ := fun ty => Lib.run_next_any_at wr w1.heap.size a pos ty hit hp
      have hwd := Lib.decode_width_pos a pos hp
      have hit2 := Lib.iterAt_heap wr w1.heap.size a pos (pos + (Utf8.decode a pos).2) hit
      have hbw2 := Lib.below_iterAt hbw (k := w1.heap.size) hsz a (pos + (Utf8.decode a pos).2)
      obtain ⟨W1, hW1⟩ : ∃ W1, W1 = wr.iterAt w1.heap.size a (pos + (Utf8.decode a pos).2) := ⟨_, rfl⟩
      rw [← hW1] at hnx hit2 hbw2
      have hBlt := lt_of_block hit2
      clear hW1 hit hbw
      have hle : pos ≤ b.size := HI.out.2.1
      by_cases hq : pos = b.size
      · have HE : Hid (V = 1) := by show _ = _; rw [← HV.out]; exact inv_over HI.out hp hq
        have hq' : ((pos : Int) == (b.size : Int)) = true := by simp; omega
        clear hq
        go_wp2
        go_ret2
        rw [HE.out]
        exact ⟨rfl, hbw2⟩
      · have hq' : ((pos : Int) == (b.size : Int)) = false := by simp; omega
        have hpb : pos < b.size := by omega
        have cD := dec_at b pos W1 (hT.below hbw2) hpb
        by_cases he : (Utf8.decode a pos).1 = (Utf8.decode b pos).1
        · have HN : Hid (CmpInv a b (pos + (Utf8.decode a pos).2)) := inv_next HI.out hp hpb he
          have he' : (((Utf8.decode a pos).1 : Int) != ((Utf8.decode b pos).1 : Int)) = false := by simp; omega
          clear he
          go_wp2_with (go_at_call 34; refine cD.mono ?_; rintro e w2 ⟨rfl, hb2⟩; have hit3 := (hb2.block _ hBlt).trans hit2; have hbw3 := hbw2.trans (hb2.mono hbw2.size))
          go_roundw
          case rel => exact ⟨_, hit3, hbw3, HN⟩
          case measure => rw [iterPos_of hit3, hpos0]; omega
        · have HP : Hid ((if ((Utf8.decode a pos).1 : Int) < ((Utf8.decode b pos).1 : Int) then (-1 : Int) else if ((Utf8.decode b pos).1 : Int) < ((Utf8.decode a pos).1 : Int) then 1 else 0) = V) := by show _ = _; rw [← HV.out]; exact inv_part HI.out hp hpb he
          have he' : (((Utf8.decode a pos).1 : Int) != ((Utf8.decode b pos).1 : Int)) = true := by simp; omega
          have cC := fun W => compare_rune ((Utf8.decode a pos).1 : Int) ((Utf8.decode b pos).1 : Int) W
          rw [HP.out] at cC
          clear he
          go_wp2_with (first
            | (go_at_call 34; refine cD.mono ?_; rintro e w2 ⟨rfl, hb2⟩; have hbw3 := hbw2.trans (hb2.mono hbw2.size))
            | (go_at_call 35; refine (cC _).mono ?_; rintro e w3 ⟨rfl, hw3⟩; replace hw3 := hw3.symm; subst hw3))
          go_ret2
          exact ⟨rfl, hbw3⟩
    · have hnx : ∀ ty, (Instr.next (.pointer (some ⟨w1.heap.size, 0, none⟩)) true ty).run Tryd.prog wr = _ := fun ty => Lib.run_next_end_at wr w1.heap.size a pos ty hit hp
      have HE : Hid ((if (a.size : Int) < (b.size : Int) then (-1 : Int) else if (b.size : Int) < (a.size : Int) then 1 else 0) = V) := by show _ = _; rw [← HV.out]; exact inv_end HI.out hp
      have cC := fun W => compare_int (a.size : Int) (b.size : Int) W
      rw [HE.out] at cC
      go_wp2_with (go_at_call 36; refine (cC _).mono ?_; rintro e w3 ⟨rfl, hw3⟩; replace hw3 := hw3.symm; subst hw3)
      go_ret2
      exact ⟨rfl, hbw⟩
end CmpW
end Go.Proofs.YtpjlpinjjklhhaaDoor

/- What the reference's At answers at every place of a string, in one contract: no character's bytes stand whole there, or the character that a range gives there. What the reference's Points and Bad answer at every string of bounded length: contracts, by walking their text. What coveylaw02.sound answers at every value of bounded size: a contract, by induction, and by walking its text. What the reference's Count does: it answers some number; a contract, by walking its text. Plain mathematics: how great the value of a text is: at most four times its bytes. Nothing of the program. -/
import Derived.Test.YtiakidomcjpdhaaGreatDoorGRefA
import Derived.Test.YtiakidomcjpdhaaGreatDoorGGvb
import Derived.Test.YtiakidomcjpdhaaGreatDoorGObD
namespace Go.Proofs.YtiakidomcjpdhaaGreatDoor
open Go.RowKit
namespace RefW
open Go.Lib (decodeN)

/-- The character at a place and its bytes' number; (0, 0): none stands there whole. -/
def refAt (s : ByteArray) (pos : Nat) : Nat × Nat := if noChar s pos then (0, 0) else Utf8.decode s pos

theorem d0 (n b0 b1 b2 b3 : Nat) (h : (128 ≤ b0 ∧ b0 < 192) ∨ (248 ≤ b0 ∧ b0 < 256)) : decodeN n b0 b1 b2 b3 = (65533, 1) := by
  unfold decodeN; rw [if_neg (by omega), if_neg (by omega), if_neg (by omega), if_neg (by omega)]
theorem d2n (n b0 b1 b2 b3 : Nat) (h : 192 ≤ b0 ∧ b0 < 224) (h' : n < 2 ∨ b1 < 128 ∨ 191 < b1) : decodeN n b0 b1 b2 b3 = (65533, 1) := by
  unfold decodeN; rw [if_neg (by omega), if_neg (by omega), if_neg (by omega), if_neg (by omega)]
theorem d2l (n b0 b1 b2 b3 : Nat) (h : 192 ≤ b0 ∧ b0 < 224) (h' : 2 ≤ n ∧ 128 ≤ b1 ∧ b1 < 192) (hl : (64 * ((b0 : Int) - 192) + b1 - 128) < 128) : decodeN n b0 b1 b2 b3 = (65533, 1) := by
  unfold decodeN; rw [if_neg (by omega), if_pos (by omega), if_neg (by omega)]
theorem d2y (n b0 b1 b2 b3 : Nat) (h : 192 ≤ b0 ∧ b0 < 224) (h' : 2 ≤ n ∧ 128 ≤ b1 ∧ b1 < 192) (hl : 128 ≤ (64 * ((b0 : Int) - 192) + b1 - 128)) : decodeN n b0 b1 b2 b3 = (b0 % 32 * 64 + b1 % 64, 2) := by
  unfold decodeN; rw [if_neg (by omega), if_pos (by omega), if_pos (by omega)]
theorem d3n (n b0 b1 b2 b3 : Nat) (h : 224 ≤ b0 ∧ b0 < 240) (h' : n < 3 ∨ b1 < 128 ∨ 191 < b1 ∨ b2 < 128 ∨ 191 < b2) : decodeN n b0 b1 b2 b3 = (65533, 1) := by
  unfold decodeN; rw [if_neg (by omega), if_neg (by omega), if_neg (by omega), if_neg (by omega)]
theorem d3l (n b0 b1 b2 b3 : Nat) (h : 224 ≤ b0 ∧ b0 < 240) (h' : 3 ≤ n ∧ 128 ≤ b1 ∧ b1 < 192 ∧ 128 ≤ b2 ∧ b2 < 192)
    (hl : (64 * (64 * ((b0 : Int) - 224) + b1 - 128) + b2 - 128) < 2048 ∨ isPt (64 * (64 * ((b0 : Int) - 224) + b1 - 128) + b2 - 128) = false) : decodeN n b0 b1 b2 b3 = (65533, 1) := by
  unfold isPt at hl
  rw [decide_eq_false_iff_not] at hl
  unfold decodeN; rw [if_neg (by omega), if_neg (by omega), if_pos (by omega), if_neg (by omega)]
theorem d3y (n b0 b1 b2 b3 : Nat) (h : 224 ≤ b0 ∧ b0 < 240) (h' : 3 ≤ n ∧ 128 ≤ b1 ∧ b1 < 192 ∧ 128 ≤ b2 ∧ b2 < 192)
    (hl : 2048 ≤ (64 * (64 * ((b0 : Int) - 224) + b1 - 128) + b2 - 128)) (hp : isPt (64 * (64 * ((b0 : Int) - 224) + b1 - 128) + b2 - 128) = true) : decodeN n b0 b1 b2 b3 = (b0 % 16 * 4096 + b1 % 64 * 64 + b2 % 64, 3) := by
  unfold isPt at hp
  rw [decide_eq_true_eq] at hp
  unfold decodeN; rw [if_neg (by omega), if_neg (by omega), if_pos (by omega), if_pos (by omega)]
theorem d4n (n b0 b1 b2 b3 : Nat) (h : 240 ≤ b0 ∧ b0 < 248) (h' : n < 4 ∨ b1 < 128 ∨ 191 < b1 ∨ b2 < 128 ∨ 191 < b2 ∨ b3 < 128 ∨ 191 < b3) : decodeN n b0 b1 b2 b3 = (65533, 1) := by
  unfold decodeN; rw [if_neg (by omega), if_neg (by omega), if_neg (by omega), if_neg (by omega)]
theorem d4l (n b0 b1 b2 b3 : Nat) (h : 240 ≤ b0 ∧ b0 < 248) (h' : 4 ≤ n ∧ 128 ≤ b1 ∧ b1 < 192 ∧ 128 ≤ b2 ∧ b2 < 192 ∧ 128 ≤ b3 ∧ b3 < 192)
    (hl : (64 * (64 * (64 * ((b0 : Int) - 240) + b1 - 128) + b2 - 128) + b3 - 128) < 65536 ∨ isPt (64 * (64 * (64 * ((b0 : Int) - 240) + b1 - 128) + b2 - 128) + b3 - 128) = false) : decodeN n b0 b1 b2 b3 = (65533, 1) := by
  unfold isPt at hl
  rw [decide_eq_false_iff_not] at hl
  unfold decodeN; rw [if_neg (by omega), if_neg (by omega), if_neg (by omega), if_pos (by omega), if_neg (by omega)]
theorem d4y (n b0 b1 b2 b3 : Nat) (h : 240 ≤ b0 ∧ b0 < 248) (h' : 4 ≤ n ∧ 128 ≤ b1 ∧ b1 < 192 ∧ 128 ≤ b2 ∧ b2 < 192 ∧ 128 ≤ b3 ∧ b3 < 192)
    (hl : 65536 ≤ (64 * (64 * (64 * ((b0 : Int) - 240) + b1 - 128) + b2 - 128) + b3 - 128)) (hp : isPt (64 * (64 * (64 * ((b0 : Int) - 240) + b1 - 128) + b2 - 128) + b3 - 128) = true) :
    decodeN n b0 b1 b2 b3 = (b0 % 8 * 262144 + b1 % 64 * 4096 + b2 % 64 * 64 + b3 % 64, 4) := by
  unfold isPt at hp
  rw [decide_eq_true_eq] at hp
  unfold decodeN; rw [if_neg (by omega), if_neg (by omega), if_neg (by omega), if_pos (by omega), if_pos (by omega)]

/-- How many bytes a character's number takes. -/
theorem len_cases (p : Int) (hp : isPt p = true) : (p < 128 ∧ (Lib.runeCells p).length = 1) ∨ (128 ≤ p ∧ p < 2048 ∧ (Lib.runeCells p).length = 2) ∨ (2048 ≤ p ∧ p < 65536 ∧ (Lib.runeCells p).length = 3) ∨ (65536 ≤ p ∧ (Lib.runeCells p).length = 4) := by
  unfold isPt at hp
  rw [decide_eq_true_eq] at hp
  unfold Lib.runeCells
  rcases (show p < 128 ∨ (128 ≤ p ∧ p < 2048) ∨ (2048 ≤ p ∧ p < 65536) ∨ 65536 ≤ p by omega) with h | h | h | h
  · rw [Lib.encodeRuneZ_one (by omega) (by omega)]; exact .inl ⟨h, rfl⟩
  · rw [Lib.encodeRuneZ_two (by omega) (by omega)]; exact .inr (.inl ⟨h.1, h.2, rfl⟩)
  · rw [Lib.encodeRuneZ_three (by omega)]; exact .inr (.inr (.inl ⟨h.1, h.2, rfl⟩))
  · rw [Lib.encodeRuneZ_four (by omega) (by omega)]; exact .inr (.inr (.inr ⟨h, rfl⟩))

def AtSays (s : ByteArray) (pos : Nat) (w : World) (p q : Int) : Prop :=
  Calls Tryz.prog 110 #[.string s, .int .i64 pos] w fun e w' => e = .returned (.tuple #[.int .i64 p, .int .i64 q]) ∧ Below w.heap.size w w'

theorem at_any (s : ByteArray) (pos : Nat) (w : World) (hs : s.size ≤ 140737488351232) (hp : pos < s.size) :
    AtSays s pos w (refAt s pos).1 (refAt s pos).2 := by
  obtain ⟨x0, hx0⟩ : ∃ x, (s.get! pos).toNat = x := ⟨_, rfl⟩
  obtain ⟨x1, hx1⟩ : ∃ x, (s.get! (pos + 1)).toNat = x := ⟨_, rfl⟩
  obtain ⟨x2, hx2⟩ : ∃ x, (s.get! (pos + 2)).toNat = x := ⟨_, rfl⟩
  obtain ⟨x3, hx3⟩ : ∃ x, (s.get! (pos + 3)).toNat = x := ⟨_, rfl⟩
  have l0 : x0 < 256 := by rw [← hx0]; exact UInt8.toNat_lt _
  have l1 : x1 < 256 := by rw [← hx1]; exact UInt8.toNat_lt _
  have l2 : x2 < 256 := by rw [← hx2]; exact UInt8.toNat_lt _
  have l3 : x3 < 256 := by rw [← hx3]; exact UInt8.toNat_lt _
  have e0 : (s[pos]'hp).toNat = x0 := by rw [← hx0, get_lt s pos hp]
  have e1 : ∀ h : pos + 1 < s.size, (s[pos + 1]'h).toNat = x1 := fun h => by rw [← hx1, get_lt s (pos + 1) h]
  have e2 : ∀ h : pos + 2 < s.size, (s[pos + 2]'h).toNat = x2 := fun h => by rw [← hx2, get_lt s (pos + 2) h]
  have e3 : ∀ h : pos + 3 < s.size, (s[pos + 3]'h).toNat = x3 := fun h => by rw [← hx3, get_lt s (pos + 3) h]
  have hd : Utf8.decode s pos = decodeN (s.size - pos) x0 x1 x2 x3 := by rw [Lib.decode_at, hx0, hx1, hx2, hx3]
  have no : decodeN (s.size - pos) x0 x1 x2 x3 = (65533, 1) → AtSays s pos w 0 0 → AtSays s pos w (refAt s pos).1 (refAt s pos).2 := fun h c => by
    have : refAt s pos = (0, 0) := by unfold refAt noChar; rw [hd, h]; rfl
    rw [this]; exact c
  have yes : ∀ (p k : Nat) (P K : Int), decodeN (s.size - pos) x0 x1 x2 x3 = (p, k) → (k ≠ 1 ∨ p ≠ 65533) → P = p → K = k → AtSays s pos w P K → AtSays s pos w (refAt s pos).1 (refAt s pos).2 := fun p k P K h hne hP hK c => by
    have : refAt s pos = (p, k) := by
      unfold refAt noChar
      rw [hd, h, decide_eq_false (by rw [Prod.mk.injEq]; omega)]
      rfl
    rw [this, ← hP, ← hK]
    exact c
  clear hx0 hx1 hx2 hx3
  rcases (show x0 < 128 ∨ ((128 ≤ x0 ∧ x0 < 192) ∨ (248 ≤ x0 ∧ x0 < 256)) ∨ (192 ≤ x0 ∧ x0 < 224) ∨ (224 ≤ x0 ∧ x0 < 240) ∨ (240 ≤ x0 ∧ x0 < 248) by omega) with h | h | h | h | h
  · exact yes x0 1 _ _ (by unfold decodeN; rw [if_pos h]) (by omega) rfl rfl (at_1 s pos w hs hp x0 e0 h)
  · exact no (d0 _ _ _ _ _ h) (at_0 s pos w hs hp x0 e0 h)
  · by_cases hq : s.size < pos + 2
    · exact no (d2n _ _ _ _ _ h (by omega)) (at_2_short s pos w hs hp hq x0 e0 h.1 h.2)
    · by_cases c1 : x1 < 128 ∨ (191 < x1 ∧ x1 < 256)
      · exact no (d2n _ _ _ _ _ h (by omega)) (at_2_c1 s pos w hs (by omega) x0 x1 e0 (e1 (by omega)) h.1 h.2 c1)
      · have hpt : isPt (64 * ((x0 : Int) - 192) + x1 - 128) = true := by unfold isPt; rw [decide_eq_true_eq]; omega
        rcases len_cases _ hpt with g | g | g | g
        · exact no (d2l _ _ _ _ _ h (by omega) g.1) (at_2_long s pos w hs (by omega) x0 x1 e0 (e1 (by omega)) h.1 h.2 (by omega) (by omega) g.1 1 (by decide) hpt g.2)
        · exact yes _ 2 _ _ (d2y _ _ _ _ _ h (by omega) g.1) (by omega) (by omega) rfl (at_2 s pos w hs (by omega) x0 x1 e0 (e1 (by omega)) h.1 h.2 (by omega) (by omega) hpt g.2.2)
        · exfalso; omega
        · exfalso; omega
  · by_cases hq : s.size < pos + 3
    · exact no (d3n _ _ _ _ _ h (by omega)) (at_3_short s pos w hs hp hq x0 e0 h.1 h.2)
    · by_cases c1 : x1 < 128 ∨ (191 < x1 ∧ x1 < 256)
      · exact no (d3n _ _ _ _ _ h (by omega)) (at_3_c1 s pos w hs (by omega) x0 x1 e0 (e1 (by omega)) h.1 h.2 c1)
      · by_cases c2 : x2 < 128 ∨ (191 < x2 ∧ x2 < 256)
        · exact no (d3n _ _ _ _ _ h (by omega)) (at_3_c2 s pos w hs (by omega) x0 x1 x2 e0 (e1 (by omega)) (e2 (by omega)) h.1 h.2 (by omega) (by omega) c2)
        · cases hpt : isPt (64 * (64 * ((x0 : Int) - 224) + x1 - 128) + x2 - 128) with
          | false => exact no (d3l _ _ _ _ _ h (by omega) (.inr hpt)) (at_3_none s pos w hs (by omega) x0 x1 x2 e0 (e1 (by omega)) (e2 (by omega)) h.1 h.2 (by omega) (by omega) (by omega) (by omega) hpt)
          | true =>
            rcases len_cases _ hpt with g | g | g | g
            · exact no (d3l _ _ _ _ _ h (by omega) (.inl (by omega))) (at_3_long s pos w hs (by omega) x0 x1 x2 e0 (e1 (by omega)) (e2 (by omega)) h.1 h.2 (by omega) (by omega) (by omega) (by omega) (by omega) 1 (by decide) hpt g.2)
            · exact no (d3l _ _ _ _ _ h (by omega) (.inl (by omega))) (at_3_long s pos w hs (by omega) x0 x1 x2 e0 (e1 (by omega)) (e2 (by omega)) h.1 h.2 (by omega) (by omega) (by omega) (by omega) (by omega) 2 (by decide) hpt g.2.2)
            · exact yes _ 3 _ _ (d3y _ _ _ _ _ h (by omega) g.1 hpt) (by omega) (by omega) rfl (at_3 s pos w hs (by omega) x0 x1 x2 e0 (e1 (by omega)) (e2 (by omega)) h.1 h.2 (by omega) (by omega) (by omega) (by omega) hpt g.2.2)
            · exfalso; omega
  · by_cases hq : s.size < pos + 4
    · exact no (d4n _ _ _ _ _ h (by omega)) (at_4_short s pos w hs hp hq x0 e0 h.1 h.2)
    · by_cases c1 : x1 < 128 ∨ (191 < x1 ∧ x1 < 256)
      · exact no (d4n _ _ _ _ _ h (by omega)) (at_4_c1 s pos w hs (by omega) x0 x1 e0 (e1 (by omega)) h.1 h.2 c1)
      · by_cases c2 : x2 < 128 ∨ (191 < x2 ∧ x2 < 256)
        · exact no (d4n _ _ _ _ _ h (by omega)) (at_4_c2 s pos w hs (by omega) x0 x1 x2 e0 (e1 (by omega)) (e2 (by omega)) h.1 h.2 (by omega) (by omega) c2)
        · by_cases c3 : x3 < 128 ∨ (191 < x3 ∧ x3 < 256)
          · exact no (d4n _ _ _ _ _ h (by omega)) (at_4_c3 s pos w hs (by omega) x0 x1 x2 x3 e0 (e1 (by omega)) (e2 (by omega)) (e3 (by omega)) h.1 h.2 (by omega) (by omega) (by omega) (by omega) c3)
          · cases hpt : isPt (64 * (64 * (64 * ((x0 : Int) - 240) + x1 - 128) + x2 - 128) + x3 - 128) with
            | false => exact no (d4l _ _ _ _ _ h (by omega) (.inr hpt)) (at_4_none s pos w hs (by omega) x0 x1 x2 x3 e0 (e1 (by omega)) (e2 (by omega)) (e3 (by omega)) h.1 h.2 (by omega) (by omega) (by omega) (by omega) (by omega) (by omega) hpt)
            | true =>
              rcases len_cases _ hpt with g | g | g | g
              · exact no (d4l _ _ _ _ _ h (by omega) (.inl (by omega))) (at_4_long s pos w hs (by omega) x0 x1 x2 x3 e0 (e1 (by omega)) (e2 (by omega)) (e3 (by omega)) h.1 h.2 (by omega) (by omega) (by omega) (by omega) (by omega) (by omega) (by omega) 1 (by decide) hpt g.2)
              · exact no (d4l _ _ _ _ _ h (by omega) (.inl (by omega))) (at_4_long s pos w hs (by omega) x0 x1 x2 x3 e0 (e1 (by omega)) (e2 (by omega)) (e3 (by omega)) h.1 h.2 (by omega) (by omega) (by omega) (by omega) (by omega) (by omega) (by omega) 2 (by decide) hpt g.2.2)
              · exact no (d4l _ _ _ _ _ h (by omega) (.inl (by omega))) (at_4_long s pos w hs (by omega) x0 x1 x2 x3 e0 (e1 (by omega)) (e2 (by omega)) (e3 (by omega)) h.1 h.2 (by omega) (by omega) (by omega) (by omega) (by omega) (by omega) (by omega) 3 (by decide) hpt g.2.2)
              · exact yes _ 4 _ _ (d4y _ _ _ _ _ h (by omega) g.1 hpt) (by omega) (by omega) rfl (at_4 s pos w hs (by omega) x0 x1 x2 x3 e0 (e1 (by omega)) (e2 (by omega)) (e3 (by omega)) h.1 h.2 (by omega) (by omega) (by omega) (by omega) (by omega) (by omega) hpt g.2)
end RefW
end Go.Proofs.YtiakidomcjpdhaaGreatDoor

namespace Go.Proofs.YtiakidomcjpdhaaGreatDoor
open Go.RowKit
namespace RefW

theorem info3 : (Tryz.prog.info? 3).map (fun i => (i.zero, i.size, i.bytes)) = some (some (.int .i64 0), 1, 8) := by kernel_rfl
/-- Numbers as the cells of a slice of int. -/
def nums (l : List Nat) : List Value := l.map fun (n : Nat) => Value.int .i64 (n : Int)

theorem own_kept {w w' : World} {base : Nat} {e : TypeId} {size : Nat} {v : Value} {n : Nat} {xs : List Value} (h : w.ownsRow base e size v n xs) (hb : Below w.heap.size w w') : w'.ownsRow base e size v n xs := by
  obtain ⟨h1, h2⟩ := h
  refine ⟨h1, ?_⟩
  rcases h2 with h2 | ⟨g, cap, cur, a, b, c, d⟩
  · exact .inl h2
  · exact .inr ⟨g, cap, cur, a, b, (hb.block g (lt_of_block c)).trans c, d⟩

theorem refAt_no (s : ByteArray) (pos : Nat) (h : noChar s pos = true) : refAt s pos = (0, 0) := by unfold refAt; rw [h]; rfl
theorem refAt_yes (s : ByteArray) (pos : Nat) (h : noChar s pos = false) : refAt s pos = Utf8.decode s pos := by unfold refAt; rw [h]; rfl

theorem at_no (s : ByteArray) (pos : Nat) (w : World) (hs : s.size ≤ 140737488351232) (hp : pos < s.size) (h : noChar s pos = true) :
    Calls Tryz.prog 110 #[.string s, .int .i64 pos] w fun e w' => e = .returned (.tuple #[.int .i64 0, .int .i64 0]) ∧ Below w.heap.size w w' := by
  have c := at_any s pos w hs hp
  rw [refAt_no s pos h] at c
  exact c
theorem at_yes (s : ByteArray) (pos : Nat) (w : World) (hs : s.size ≤ 140737488351232) (hp : pos < s.size) (h : noChar s pos = false) :
    Calls Tryz.prog 110 #[.string s, .int .i64 pos] w fun e w' => e = .returned (.tuple #[.int .i64 (Utf8.decode s pos).1, .int .i64 (Utf8.decode s pos).2]) ∧ Below w.heap.size w w' := by
  have c := at_any s pos w hs hp
  rw [refAt_yes s pos h] at c
  exact c
theorem decode_w (s : ByteArray) (pos : Nat) : (Utf8.decode s pos).2 ≤ 4 := by
  rw [Lib.decode_at]
  unfold Lib.decodeN
  repeat' split
  all_goals simp

set_option maxHeartbeats 4000000 in
theorem points_any (s : ByteArray) (w : World) (hs : s.size ≤ 17592186044416) :
    Calls Tryz.prog 78 #[.string s] w fun e w' => ∃ v n xs, e = .returned (.tuple #[v, .int .i64 (badAt s 0)]) ∧ w'.ownsRow w.heap.size 3 1 v n xs ∧ Below w.heap.size w w' ∧ (badAt s 0 = -1 → n = (ptsAt s 0).length ∧ xs = nums (ptsAt s 0)) := by
  obtain ⟨i0, hi, hz0, hz1, hz2⟩ := info_parts info3
  go_enter Tryz.func78, Tryz.ntmps78
  go_wp2
  go_loopw [4, 5] (fun v x wr => ∃ (pos : Nat) (done : List Nat), x = .int .i64 (pos : Int) ∧ wr.ownsRow w.heap.size 3 1 v done.length (nums done) ∧ Below w.heap.size w wr ∧ Hid (done ++ ptsAt s pos = ptsAt s 0) ∧ Hid (badAt s pos = badAt s 0) ∧ done.length ≤ pos) (fun _ x _ => s.size - (intOf x).toNat)
  case atStart => exact ⟨0, [], rfl, World.ownsRow_nil _ _ _ _, Below.refl _ _, rfl, rfl, Nat.le_refl _⟩
  case round =>
    obtain ⟨pos, done, rfl, hown, hbw, HS, HB, hlen⟩ := hrel
    have hsz := hbw.size
    by_cases hp : pos < s.size
    · cases hn : noChar s pos with
      | true =>
        go_wp2_with (go_at_call 110; refine (at_no s pos _ (by omega) hp hn).mono ?_; rintro e w2 ⟨rfl, hb2⟩)
        go_ret2
        have e : badAt s 0 = pos := by rw [← HB.out, badAt_hit s pos hp hn]
        rw [e]
        exact ⟨_, _, _, rfl, own_kept hown hb2, hbw.trans (hb2.mono hsz), fun h => by omega⟩
      | false =>
        have hwd := Lib.decode_width_pos s pos hp
        have hw4 := decode_w s pos
        have hdl := decode_le s pos
        have hk0 : (((Utf8.decode s pos).2 : Int) == 0) = false := by simp; omega
        go_wp2_with (first
          | (go_at_call 110; refine (at_yes s pos _ (by omega) hp hn).mono ?_; rintro e w2 ⟨rfl, hb2⟩; have hown2 := own_kept hown hb2; have hbw2 := hbw.trans (hb2.mono hsz); have hsz2 := hb2.size)
          | (at_builtin; refine wpList_append_own _ rfl _ _ 106 rfl w.heap.size 3 i0 (.int .i64 0) 1 8 Tryz.underlying106 hi hz0 hz1 hz2 rfl (by decide) _ _ _ rfl (hown2.alloc _) ⟨w2.heap.size, 0, none⟩ 1 1 [.int .i64 ((Utf8.decode s pos).1 : Int)] rfl rfl (cell_one_new _ _ _) (fun x hx => by simp at hx; subst hx; rfl) (by unfold maxLen; omega) (by omega) (by simp; omega) ?_; intro v' w3 hown' hgrow3 hnil3))
        have hbw3 : Below w.heap.size w w3 := Below.grown (hbw2.alloc (by omega) _) hgrow3 (by simp; omega) (fun j hj => by have := (hown2.lt _ hj).1; omega)
        go_roundw
        case rel => exact ⟨pos + (Utf8.decode s pos).2, done ++ [(Utf8.decode s pos).1], by go_num, by simpa [nums] using hown', hbw3, (by show _ = _; rw [← HS.out, ptsAt_next s pos hp]; simp), (by show _ = _; rw [← HB.out, badAt_next s pos hp hn]), by simp; omega⟩
        case measure => simp [intOf]; omega
    · go_wp2
      go_ret2
      have e : badAt s 0 = -1 := by rw [← HB.out, badAt_end s pos hp]
      have e2 : ptsAt s 0 = done := by rw [← HS.out, ptsAt_end s pos hp]; simp
      rw [e, e2]
      exact ⟨_, _, _, rfl, hown, hbw, fun _ => ⟨rfl, rfl⟩⟩
theorem Bad_any (s : ByteArray) (w : World) (hs : s.size ≤ 17592186044416) :
    Calls Tryz.prog 54 #[.string s] w fun e w' => e = .returned (.int .i64 (badAt s 0)) ∧ Below w.heap.size w w' := by
  go_enter Tryz.func54, Tryz.ntmps54
  go_wp2_with (go_at_call 78; refine (points_any _ _ hs).mono ?_; rintro e w' ⟨v, n, xs, rfl, hown, hbel, _⟩)
  go_ret
  exact ⟨rfl, hbel⟩
end RefW
end Go.Proofs.YtiakidomcjpdhaaGreatDoor

namespace Go.Proofs.YtiakidomcjpdhaaGreatDoor
open Go.RowKit
namespace SndW
open RefW EncW

theorem sndL_get : ∀ {l : List GV} {d : Int}, sndL l d = true ↔ ∀ i (h : i < l.length), sndV l[i] d = true
  | [], d => by simp [sndL]
  | x :: l, d => by
    simp only [sndL, Bool.and_eq_true]
    rw [sndL_get (l := l)]
    constructor
    · rintro ⟨h0, h1⟩ i h
      match i, h with
      | 0, _ => exact h0
      | i + 1, h => exact h1 i (by simpa using h)
    · intro h
      exact ⟨h 0 (by simp), fun i hi => h (i + 1) (by simpa using hi)⟩
theorem sndF_get : ∀ {l : List (ByteArray × GV)} {d : Int}, sndF l d = true ↔ ∀ i (h : i < l.length), badAt (l[i]).1 0 < 0 ∧ sndV (l[i]).2 d = true
  | [], d => by simp [sndF]
  | (nm, x) :: l, d => by
    simp only [sndF, sndP, Bool.and_eq_true, decide_eq_true_eq]
    rw [sndF_get (l := l)]
    constructor
    · rintro ⟨h0, h1⟩ i h
      match i, h with
      | 0, _ => exact h0
      | i + 1, h => exact h1 i (by simpa using h)
    · intro h
      exact ⟨h 0 (by simp), fun i hi => h (i + 1) (by simpa using hi)⟩
theorem names_get {l : List (ByteArray × GV)} : (l.map (·.1)).Nodup ↔ ∀ i j (hi : i < l.length) (hj : j < l.length), i < j → (l[i]).1 ≠ (l[j]).1 := by
  unfold List.Nodup
  rw [List.pairwise_iff_getElem]
  constructor
  · intro h i j hi hj hij
    have := h i j (by simpa using hi) (by simpa using hj) hij
    simpa using this
  · intro h i j hi hj hij
    simpa using h i j (by simpa using hi) (by simpa using hj) hij


/-- The variable of sound, and that nothing old has turned. -/
structure OneAt (w : World) (c : Array Value) (w' : World) : Prop where
  v : w'.heap[w.heap.size]? = some (.cells c 25 (0, 0))
  b : Below w.heap.size w w'
  s : w.heap.size + 1 ≤ w'.heap.size
theorem OneAt.keep {w : World} {c : Array Value} {w1 w2 : World} (h : OneAt w c w1) (f : Below w1.heap.size w1 w2) : OneAt w c w2 :=
  ⟨(f.block _ (by have := h.s; omega)).trans h.v, h.b.trans (f.mono h.b.size), Nat.le_trans h.s f.size⟩
/-- The number in a slot. -/
def numOf : Value → Nat
  | .int _ n => n.toNat
  | _ => 0

end SndW
end Go.Proofs.YtiakidomcjpdhaaGreatDoor

namespace Go.Proofs.YtiakidomcjpdhaaGreatDoor
open Go.RowKit
namespace PlnW

/-- What is asked of Count at one value. -/
def CountAt (x : GV) : Prop := ∀ (w : World) (ok : Nat → Prop) (cs : Array Value) (z : Int), LaidV w ok x cs.toList → 0 ≤ z → z ≤ 65536 → Calls Tryz.prog 37 #[.agg cs, .int .i64 z] w fun e w' => ∃ m : Int, e = .returned (.int .i64 m) ∧ 0 ≤ m ∧ m ≤ 65537 ∧ Below w.heap.size w w'

set_option maxRecDepth 20000 in
set_option maxHeartbeats 4000000 in
theorem count_small (k : Int) (b : Bool) (n : Int) (t : ByteArray) (l : List GV) (f : List (ByteArray × GV)) (hk : k ≠ 4 ∧ k ≠ 5) : CountAt (.mk k b n t l f) := by
  intro w ok cs z hx hz0 hz1
  obtain ⟨a1, c1, a2, c2, xs, ys, hcs, _⟩ := hx.form
  obtain rfl : cs = #[.int .i64 k, .bool b, .int .i64 n, .string t, .slice a1 l.length c1, .slice a2 f.length c2] := by
    cases cs
    simpa using hcs
  clear hcs hx
  have k4 : (k == 4) = false := by simpa using hk.1
  have k5 : (k == 5) = false := by simpa using hk.2
  go_enter Tryz.func37, Tryz.ntmps37
  go_wp2
  go_ret
  exact ⟨_, rfl, by omega, by omega, (Below.refl _ _).alloc (Nat.le_refl _) _⟩
set_option maxRecDepth 20000 in
set_option maxHeartbeats 4000000 in
theorem count_l (b : Bool) (n : Int) (t : ByteArray) (l : List GV) (f : List (ByteArray × GV)) (hsz : (GV.mk 4 b n t l f).sz ≤ 2000000) (hl : ∀ i (h : i < l.length), CountAt (l[i])) : CountAt (.mk 4 b n t l f) := by
  intro w ok cs z hx hz0 hz1
  obtain ⟨a1, c1, a2, c2, xs, ys, hcs, hs1, hs2, hl1, hf1⟩ := hx.form
  obtain rfl : cs = #[.int .i64 4, .bool b, .int .i64 n, .string t, .slice a1 l.length c1, .slice a2 f.length c2] := by
    cases cs
    simpa using hcs
  have hll : l.length ≤ 2000000 := by have := szL_len l; have := szF_len f; unfold GV.sz at hsz; omega
  clear hcs hx hsz
  obtain ⟨C, hC⟩ : ∃ C : Array Value, C = #[.int .i64 4, .bool b, .int .i64 n, .string t, .slice a1 l.length c1, .slice a2 f.length c2] := ⟨_, rfl⟩
  have m0 : SndW.OneAt w C (w.alloc (.cells C 25)) := ⟨heap_alloc_new _ _, (Below.refl _ _).alloc (Nat.le_refl _) _, by simp⟩
  have x0 := (box6 (hC ▸ m0.v)).1
  rw [hC] at m0
  go_enter Tryz.func37, Tryz.ntmps37
  go_wp2
  clear x0
  go_loopw [1, 5] (fun y u w' => ∃ (i : Nat) (z : Int), y = .int .i64 z ∧ 0 ≤ z ∧ z ≤ 65537 ∧ u = .int .i64 (i : Int) ∧ i ≤ l.length ∧ SndW.OneAt w #[.int .i64 4, .bool b, .int .i64 n, .string t, .slice a1 l.length c1, .slice a2 f.length c2] w') (fun _ u _ => l.length - numOfF u)
  case atStart => exact ⟨0, z + 1, rfl, by omega, by omega, rfl, Nat.zero_le _, m0⟩
  case round =>
    obtain ⟨i, z, rfl, hz2, hz3, rfl, hil, m⟩ := hrel
    have hmb := m.b
    have hms := m.s
    obtain ⟨x0, x1, x2, x3, x4, x5⟩ := box6 m.v
    clear m0
    by_cases hlt : i < l.length
    · have hlt' : (i : Int) < (l.length : Int) := by omega
      by_cases hzz : z ≤ 65536
      · obtain ⟨sb, off, es, ha, hsb, hlv, hcell⟩ := SlAt.elem (hs1.conv (ok' := fun b => b < wr.heap.size) (w' := wr) (by decide) (fun b _ hb => ⟨Nat.lt_of_lt_of_le hb hmb.size, hmb.block b hb⟩)) (hl1.conv (fun b _ hb => ⟨Nat.lt_of_lt_of_le hb hmb.size, hmb.block b hb⟩)) i hlt
        have hcp := hl i hlt
        obtain ⟨X, hX⟩ : ∃ X, (l[i]) = X := ⟨_, rfl⟩
        rw [hX] at hlv hcp
        cases hXc : X with
        | mk k' b' n' t' l' f' =>
        rw [hXc] at hlv
        obtain ⟨p1, q1, p2, q2, _, _, rfl, _⟩ := hlv.form
        rw [← hXc] at hlv
        subst ha
        have e0 := hcell 0 (by decide)
        have e1 := hcell 1 (by decide)
        have e2 := hcell 2 (by decide)
        have e3 := hcell 3 (by decide)
        have e4 := hcell 4 (by decide)
        have e5 := hcell 5 (by decide)
        simp only [List.getElem?_cons_zero, List.getElem?_cons_succ, Nat.add_zero] at e0 e1 e2 e3 e4 e5
        have hcall := hcp wr (fun b => b < wr.heap.size) #[.int .i64 k', .bool b', .int .i64 n', .string t', .slice p1 l'.length q1, .slice p2 f'.length q2] z hlv hz2 hzz
        clear hcell hXc hlv hcp hX
        go_wp2_with (go_at_call 37; refine hcall.mono ?_; rintro e w2 ⟨z2, rfl, g1, g2, h2⟩)
        go_roundw
        case rel => exact ⟨i + 1, z2, rfl, g1, g2, by simp, hlt, m.keep h2⟩
        case measure => simp [numOfF]; omega
      · have hzz' : ¬ z ≤ 65536 := hzz
        go_wp2
        go_ret
        exact ⟨_, rfl, hz2, hz3, hmb⟩
    · have hlt' : ¬ (i : Int) < (l.length : Int) := by omega
      go_wp2
      go_ret
      exact ⟨_, rfl, hz2, hz3, hmb⟩
set_option maxRecDepth 20000 in
set_option maxHeartbeats 4000000 in
theorem count_f (b : Bool) (n : Int) (t : ByteArray) (l : List GV) (f : List (ByteArray × GV)) (hsz : (GV.mk 5 b n t l f).sz ≤ 2000000) (hl : ∀ i (h : i < f.length), CountAt (f[i]).2) : CountAt (.mk 5 b n t l f) := by
  intro w ok cs z hx hz0 hz1
  obtain ⟨a1, c1, a2, c2, xs, ys, hcs, hs1, hs2, hl1, hf1⟩ := hx.form
  obtain rfl : cs = #[.int .i64 5, .bool b, .int .i64 n, .string t, .slice a1 l.length c1, .slice a2 f.length c2] := by
    cases cs
    simpa using hcs
  have hll : f.length ≤ 2000000 := by have := szL_len l; have := szF_len f; unfold GV.sz at hsz; omega
  clear hcs hx hsz
  obtain ⟨C, hC⟩ : ∃ C : Array Value, C = #[.int .i64 5, .bool b, .int .i64 n, .string t, .slice a1 l.length c1, .slice a2 f.length c2] := ⟨_, rfl⟩
  have m0 : SndW.OneAt w C (w.alloc (.cells C 25)) := ⟨heap_alloc_new _ _, (Below.refl _ _).alloc (Nat.le_refl _) _, by simp⟩
  have x0 := (box6 (hC ▸ m0.v)).1
  rw [hC] at m0
  go_enter Tryz.func37, Tryz.ntmps37
  go_wp2
  clear x0
  go_loopw [1, 6] (fun y u w' => ∃ (i : Nat) (z : Int), y = .int .i64 z ∧ 0 ≤ z ∧ z ≤ 65537 ∧ u = .int .i64 (i : Int) ∧ i ≤ f.length ∧ SndW.OneAt w #[.int .i64 5, .bool b, .int .i64 n, .string t, .slice a1 l.length c1, .slice a2 f.length c2] w') (fun _ u _ => f.length - numOfF u)
  case atStart => exact ⟨0, z + 1, rfl, by omega, by omega, rfl, Nat.zero_le _, m0⟩
  case round =>
    obtain ⟨i, z, rfl, hz2, hz3, rfl, hil, m⟩ := hrel
    have hmb := m.b
    have hms := m.s
    obtain ⟨x0, x1, x2, x3, x4, x5⟩ := box6 m.v
    clear m0
    by_cases hlt : i < f.length
    · have hlt' : (i : Int) < (f.length : Int) := by omega
      by_cases hzz : z ≤ 65536
      · obtain ⟨sb, off, es, ha, hsb, hlv, hname, hcell⟩ := SlAt.field (hs2.conv (ok' := fun b => b < wr.heap.size) (w' := wr) (by decide) (fun b _ hb => ⟨Nat.lt_of_lt_of_le hb hmb.size, hmb.block b hb⟩)) (hf1.conv (fun b _ hb => ⟨Nat.lt_of_lt_of_le hb hmb.size, hmb.block b hb⟩)) i hlt
        have hcp := hl i hlt
        obtain ⟨X, hX⟩ : ∃ X, (f[i]).2 = X := ⟨_, rfl⟩
        rw [hX] at hlv hcp
        cases hXc : X with
        | mk k' b' n' t' l' f' =>
        rw [hXc] at hlv
        obtain ⟨p1, q1, p2, q2, _, _, rfl, _⟩ := hlv.form
        rw [← hXc] at hlv
        subst ha
        have e0 := hcell 0 (by decide)
        have e1 := hcell 1 (by decide)
        have e2 := hcell 2 (by decide)
        have e3 := hcell 3 (by decide)
        have e4 := hcell 4 (by decide)
        have e5 := hcell 5 (by decide)
        simp only [List.getElem?_cons_zero, List.getElem?_cons_succ, Nat.add_zero, Nat.reduceAdd] at e0 e1 e2 e3 e4 e5
        have hcall := hcp wr (fun b => b < wr.heap.size) #[.int .i64 k', .bool b', .int .i64 n', .string t', .slice p1 l'.length q1, .slice p2 f'.length q2] z hlv hz2 hzz
        clear hcell hXc hlv hcp hX
        go_wp2_with (go_at_call 37; refine hcall.mono ?_; rintro e w2 ⟨z2, rfl, g1, g2, h2⟩)
        go_roundw
        case rel => exact ⟨i + 1, z2, rfl, g1, g2, by simp, hlt, m.keep h2⟩
        case measure => simp [numOfF]; omega
      · have hzz' : ¬ z ≤ 65536 := hzz
        go_wp2
        go_ret
        exact ⟨_, rfl, hz2, hz3, hmb⟩
    · have hlt' : ¬ (i : Int) < (f.length : Int) := by omega
      go_wp2
      go_ret
      exact ⟨_, rfl, hz2, hz3, hmb⟩

theorem count_any : ∀ (m : Nat) (x : GV), x.sz ≤ m → m ≤ 2000000 → CountAt x
  | 0, x, h, _ => by have := x.sz_pos; omega
  | m + 1, .mk k b n t l f, h, hm => by
    have h1 : 1 + t.size + szL l + szF f ≤ m + 1 := by unfold GV.sz at h; exact h
    by_cases h4 : k = 4
    · subst h4
      exact count_l b n t l f (by omega) (fun i hi => count_any m _ (by have := szL_get l i hi; omega) (by omega))
    · by_cases h5 : k = 5
      · subst h5
        exact count_f b n t l f (by omega) (fun i hi => count_any m _ (by have := szF_get f i hi; omega) (by omega))
      · exact count_small k b n t l f ⟨h4, h5⟩
end PlnW
end Go.Proofs.YtiakidomcjpdhaaGreatDoor

namespace Go.Proofs.YtiakidomcjpdhaaGreatDoor
open Go.RowKit
namespace SndW
open RefW EncW

theorem enc_le4 (r : Int) : (Lib.encodeRune r).length ≤ 4 := by
  have h := (Lib.runeCells_le r).2
  rw [← Lib.byteCells_encodeRune] at h
  simpa [Lib.byteCells] using h
theorem flat_le4 : ∀ zs : List Int, (zs.flatMap Lib.encodeRune).length ≤ 4 * zs.length
  | [] => by simp
  | z :: r => by
    have := flat_le4 r
    have := enc_le4 z
    simp only [List.flatMap_cons, List.length_append, List.length_cons]
    omega
theorem txt_le4 {cs : List Nat} (h : AllPt cs) : (txt cs).size ≤ 4 * cs.length := by
  unfold txt
  rw [runes_eq _ (badPt_all cs 0 h), Lib.size_eq]
  have := flat_le4 (cs.map fun (n : Nat) => (n : Int))
  simpa using this

theorem fw_bl {s : ByteArray} {p : Nat} (ha : Al s p) : p ≤ bl s p := (bl_le s p ha.2).1
theorem fw_word {s : ByteArray} : ∀ (t : List Nat) {p q : Nat}, wordS s t p = .ok q → q = p + t.length
  | [], p, q, h => by unfold wordS at h; injection h with h; simp [h]
  | c :: t, p, q, h => by
    unfold wordS at h
    split at h
    · have := fw_word t h
      simp only [List.length_cons]
      omega
    · cases h
theorem fw_dg {s : ByteArray} : ∀ (f n p : Nat), p ≤ (dgF s f n p).2
  | 0, n, p => Nat.le_refl _
  | f + 1, n, p => by
    unfold dgF
    split
    · have := fw_dg (s := s) f (min (n * 10 + (nx s p - 48)) 9007199254740992) (p + 1)
      omega
    · exact Nat.le_refl _
theorem fw_digits {s : ByteArray} {p n q : Nat} (h : digitsS s p = .ok (n, q)) : p < q := by
  unfold digitsS at h
  split at h
  · rename_i hd
    split at h
    · injection h with h
      injection h with h1 h2
      omega
    · injection h with h
      have hp : p < s.size := lt_of_nx (by intro e; rw [e] at hd; exact absurd hd (by decide))
      obtain ⟨k, hk⟩ : ∃ k, s.size - p = k + 1 := ⟨s.size - p - 1, by omega⟩
      rw [hk, dgF, if_pos hd] at h
      have := fw_dg (s := s) k (min (0 * 10 + (nx s p - 48)) 9007199254740992) (p + 1)
      rw [h] at this
      simp only at this
      omega
  · cases h
theorem fw_number {s : ByteArray} {p q : Nat} {n : Int} (h : numberS s p = .ok (n, q)) : p < q := by
  unfold numberS at h
  generalize hr : digitsS s (if nx s p = 45 then p + 1 else p) = r at h
  cases r with
  | error x => cases h
  | ok x =>
    obtain ⟨m, q'⟩ := x
    have h1 := fw_digits hr
    simp only at h
    split at h
    · cases h
    · injection h with h
      injection h with e1 e2
      subst e2
      split at h1 <;> omega
theorem fw_hex {s : ByteArray} : ∀ (k : Nat) {n p m q : Nat}, Al s p → hexF s (badAt s 0) k n p = .ok (m, q) → p ≤ q
  | 0, n, p, m, q, ha, h => by
    unfold hexF at h
    injection h with h
    injection h with h1 h2
    omega
  | k + 1, n, p, m, q, ha, h => by
    unfold hexF at h
    generalize hr : chS s (badAt s 0) p = r at h
    cases r with
    | error x => cases h
    | ok x =>
      obtain ⟨c, q1⟩ := x
      simp only at h
      split at h
      · cases h
      · have := fw_hex k (al_ch ha hr).2 h
        have := chS_ok hr ha.2
        omega
theorem fw_numbered {s : ByteArray} {slash p c q : Nat} (ha : Al s p) (h : numberedS s (badAt s 0) slash p = .ok (c, q)) : p ≤ q := by
  unfold numberedS at h
  generalize hr : hexF s (badAt s 0) 4 0 p = r at h
  cases r with
  | error x => cases h
  | ok x =>
    obtain ⟨n, q1⟩ := x
    have hh := fw_hex 4 ha hr
    simp only at h
    split at h
    · injection h with h
      injection h with e1 e2
      omega
    · split at h
      · injection h with h
        injection h with e1 e2
        omega
      · cases h
theorem fw_esc {s : ByteArray} {slash p c q : Nat} (ha : Al s p) (h : escS s (badAt s 0) slash p = .ok (c, q)) : p < q := by
  unfold escS at h
  generalize hr : chS s (badAt s 0) p = r at h
  cases r with
  | error x => cases h
  | ok x =>
    obtain ⟨d, q1⟩ := x
    have h1 := (al_ch ha hr).2
    have h2 := chS_ok hr ha.2
    simp only [escC] at h
    repeat' split at h
    all_goals
      first
        | (have := fw_numbered h1 h; omega)
        | cases h; done
        | (injection h with h; injection h with e1 e2; omega)
theorem fw_qu {s : ByteArray} : ∀ (f : Nat) {acc : List Nat} {p : Nat} {cs : List Nat} {q : Nat}, Al s p → quF s (badAt s 0) f acc p = .ok (cs, q) → cs.length + p < acc.length + q
  | 0, acc, p, cs, q, _, h => by unfold quF at h; cases h
  | f + 1, acc, p, cs, q, ha, h => by
    unfold quF at h
    generalize hr : chS s (badAt s 0) p = r at h
    cases r with
    | error x => cases h
    | ok x =>
      obtain ⟨c, q1⟩ := x
      have h1 := al_ch ha hr
      have h0 := chS_ok hr ha.2
      simp only at h
      split at h
      · injection h with h
        injection h with e1 e2
        subst e1
        omega
      · split at h
        · generalize hr2 : escS s (badAt s 0) p q1 = r2 at h
          cases r2 with
          | error x => cases h
          | ok x =>
            obtain ⟨d, q2⟩ := x
            have h2 := al_esc h1.2 hr2
            have h3 := fw_esc h1.2 hr2
            have := fw_qu f h2.2 h
            simp only [List.length_append, List.length_cons, List.length_nil] at this
            omega
        · split at h
          · cases h
          · have := fw_qu f h1.2 h
            simp only [List.length_append, List.length_cons, List.length_nil] at this
            omega
theorem fw_quoted {s : ByteArray} {p : Nat} {cs : List Nat} {q : Nat} (ha : Al s p) (h : quotedS s (badAt s 0) p = .ok (cs, q)) : (txt cs).size + 4 * p + 8 ≤ 4 * q := by
  unfold quotedS at h
  split at h
  · have h1 := al_ascii ha (by omega) (by omega)
    have h2 := al_qu _ (by intro y hy; simp at hy) h1 h
    have h3 := fw_qu _ h1 h
    have h4 := txt_le4 h2.1
    simp only [List.length_nil] at h3
    omega
  · cases h

theorem fw_elems {σ : Type} {s : ByteArray} {one : σ → Nat → Except (Nat × Nat) (σ × Nat)} {close : Nat} {J : σ → Nat} (hc : 0 < close ∧ close < 128)
    (hone : ∀ st p st2 q, Al s p → one st p = .ok (st2, q) → Al s q ∧ J st2 + 4 * p ≤ J st + 4 * q) : ∀ (f : Nat) {st : σ} {p : Nat} {st2 : σ} {q : Nat}, Al s p → elemsF s one close f st p = .ok (st2, q) → J st2 + 4 * p + 4 ≤ J st + 4 * q
  | 0, st, p, st2, q, _, h => by unfold elemsF at h; cases h
  | f + 1, st, p, st2, q, ha, h => by
    unfold elemsF at h
    generalize hr : one st p = r at h
    cases r with
    | error x => cases h
    | ok x =>
      obtain ⟨st1, q1⟩ := x
      have h1 := hone _ _ _ _ ha hr
      have h2 := al_bl h1.1
      have h3 := fw_bl h1.1
      simp only at h
      split at h
      · injection h with h
        injection h with e1 e2
        subst e1
        omega
      · split at h
        · have h4 := al_ascii h2 (by omega) (by omega)
          have := fw_elems hc hone f (al_bl h4) h
          have := fw_bl h4
          omega
        · cases h
theorem fw_bracket {σ : Type} {s : ByteArray} {one : σ → Nat → Except (Nat × Nat) (σ × Nat)} {close : Nat} {J : σ → Nat} (hc : 0 < close ∧ close < 128)
    (hone : ∀ st p st2 q, Al s p → one st p = .ok (st2, q) → Al s q ∧ J st2 + 4 * p ≤ J st + 4 * q) {st : σ} {p : Nat} {st2 : σ} {q : Nat} (ha : Al s (p + 1)) (h : bracketS s one close st p = .ok (st2, q)) : J st2 + 4 * p + 4 ≤ J st + 4 * q := by
  unfold bracketS at h
  have h1 := fw_bl ha
  split at h
  · injection h with h
    injection h with e1 e2
    subst e1
    omega
  · have := fw_elems hc hone _ (al_bl ha) h
    omega
theorem szL_snoc (l : List GV) (x : GV) : szL (l ++ [x]) = szL l + x.sz := by
  induction l with
  | nil => simp [szL]
  | cons y l ih => simp [szL, ih, Nat.add_assoc]
theorem szF_snoc (l : List (ByteArray × GV)) (x : ByteArray × GV) : szF (l ++ [x]) = szF l + szP x := by
  induction l with
  | nil => simp [szF]
  | cons y l ih => simp [szF, ih, Nat.add_assoc]

theorem sz_list {s : ByteArray} {val : Nat → Except (Nat × Nat) (GV × Nat)} (hval : ∀ p x q, Al s p → val p = .ok (x, q) → Al s q ∧ x.sz + 4 * p ≤ 4 * q) {p : Nat} {x : GV} {q : Nat} (ha : Al s (p + 1)) (h : listS s val p = .ok (x, q)) : x.sz + 4 * p ≤ 4 * q := by
  unfold listS at h
  generalize hr : bracketS s (oneL val) 93 [] p = r at h
  cases r with
  | error x => cases h
  | ok y =>
    obtain ⟨l, q1⟩ := y
    injection h with h
    injection h with e1 e2
    subst e1
    subst e2
    have := fw_bracket (J := szL) (by decide) (fun st p st2 q ha h => by
      unfold oneL at h
      generalize hr : val p = r at h
      cases r with
      | error x => cases h
      | ok y =>
        obtain ⟨x, q1⟩ := y
        injection h with h
        injection h with e1 e2
        subst e1
        subst e2
        have := hval _ _ _ ha hr
        refine ⟨this.1, ?_⟩
        rw [szL_snoc]
        omega) ha hr
    simp [GV.sz, szL, szF, ByteArray.size] at this ⊢
    omega
theorem sz_obj {s : ByteArray} {val : Nat → Except (Nat × Nat) (GV × Nat)} (hval : ∀ p x q, Al s p → val p = .ok (x, q) → Al s q ∧ x.sz + 4 * p ≤ 4 * q) {p : Nat} {x : GV} {q : Nat} (ha : Al s (p + 1)) (h : objS s (badAt s 0) val p = .ok (x, q)) : x.sz + 4 * p ≤ 4 * q := by
  unfold objS at h
  generalize hr : bracketS s (oneF s (badAt s 0) val) 125 [] p = r at h
  cases r with
  | error x => cases h
  | ok y =>
    obtain ⟨l, q1⟩ := y
    injection h with h
    injection h with e1 e2
    subst e1
    subst e2
    have := fw_bracket (J := szF) (by decide) (fun st p st2 q ha h => by
      unfold oneF at h
      generalize hr : quotedS s (badAt s 0) p = r at h
      cases r with
      | error x => cases h
      | ok y =>
        obtain ⟨cs, q1⟩ := y
        have hq := al_quoted ha hr
        have hq2 := fw_quoted ha hr
        simp only at h
        split at h
        · cases h
        · split at h
          · have hb0 := al_bl hq.2
            have hb1 := al_ascii hb0 (by omega) (by omega)
            have hb := al_bl hb1
            have f0 := fw_bl hq.2
            have f1 := fw_bl hb1
            generalize hr2 : val (bl s (bl s q1 + 1)) = r2 at h
            cases r2 with
            | error x => cases h
            | ok y =>
              obtain ⟨x, q2⟩ := y
              injection h with h
              injection h with e1 e2
              subst e1
              subst e2
              have hv := hval _ _ _ hb hr2
              refine ⟨hv.1, ?_⟩
              rw [szF_snoc]
              simp only [szP]
              omega
          · cases h) ha hr
    simp [GV.sz, szL, szF, ByteArray.size] at this ⊢
    omega
theorem sz0 : (⟨#[]⟩ : ByteArray).size = 0 := rfl
theorem sz_valC {s : ByteArray} {lst obj : Nat → Except (Nat × Nat) (GV × Nat)}
    (hl : ∀ p x q, Al s (p + 1) → lst p = .ok (x, q) → x.sz + 4 * p ≤ 4 * q) (ho : ∀ p x q, Al s (p + 1) → obj p = .ok (x, q) → x.sz + 4 * p ≤ 4 * q)
    {p : Nat} {x : GV} {q : Nat} (ha : Al s p) (h : valC s (badAt s 0) lst obj p = .ok (x, q)) : x.sz + 4 * p ≤ 4 * q := by
  unfold valC at h
  split at h
  · generalize hr : wordS s [110, 117, 108, 108] p = r at h
    cases r with
    | error x => cases h
    | ok y =>
      injection h with h
      injection h with e1 e2
      subst e1
      have := fw_word _ hr
      simp [GV.sz, szL, szF, sz0] at this ⊢
      omega
  split at h
  · generalize hr : wordS s [116, 114, 117, 101] p = r at h
    cases r with
    | error x => cases h
    | ok y =>
      injection h with h
      injection h with e1 e2
      subst e1
      have := fw_word _ hr
      simp [GV.sz, szL, szF, sz0] at this ⊢
      omega
  split at h
  · generalize hr : wordS s [102, 97, 108, 115, 101] p = r at h
    cases r with
    | error x => cases h
    | ok y =>
      injection h with h
      injection h with e1 e2
      subst e1
      have := fw_word _ hr
      simp [GV.sz, szL, szF, sz0] at this ⊢
      omega
  split at h
  · generalize hr : quotedS s (badAt s 0) p = r at h
    cases r with
    | error x => cases h
    | ok y =>
      obtain ⟨cs, q1⟩ := y
      injection h with h
      injection h with e1 e2
      subst e1
      have := fw_quoted ha hr
      simp [GV.sz, szL, szF]
      omega
  split at h
  · exact hl _ _ _ (al_ascii ha (by omega) (by omega)) h
  split at h
  · exact ho _ _ _ (al_ascii ha (by omega) (by omega)) h
  split at h
  · generalize hr : numberS s p = r at h
    cases r with
    | error x => cases h
    | ok y =>
      obtain ⟨n, q1⟩ := y
      injection h with h
      injection h with e1 e2
      subst e1
      have := fw_number hr
      simp [GV.sz, szL, szF, sz0]
      omega
  · cases h
theorem sz_val {s : ByteArray} : ∀ (k : Nat) {p : Nat} {x : GV} {q : Nat}, Al s p → valS s (badAt s 0) k p = .ok (x, q) → x.sz + 4 * p ≤ 4 * q
  | 0, p, x, q, ha, h => by
    unfold valS at h
    exact sz_valC (fun _ _ _ _ h => by cases h) (fun _ _ _ _ h => by cases h) ha h
  | k + 1, p, x, q, ha, h => by
    have h' := h
    unfold valS at h'
    have ih : ∀ p x q, Al s p → valS s (badAt s 0) k p = .ok (x, q) → Al s q ∧ x.sz + 4 * p ≤ 4 * q := fun p x q ha h => ⟨(snd_val k ha h).2, sz_val k ha h⟩
    exact sz_valC (fun _ _ _ ha h => sz_list ih ha h) (fun _ _ _ ha h => sz_obj ih ha h) ha h'
/-- The value of a text is no greater than four times its bytes. -/
theorem sz_parse {s : ByteArray} {x : GV} (h : parseS s = .ok x) : x.sz ≤ 4 * s.size := by
  unfold parseS at h
  generalize hr : valS s (badAt s 0) 32 (bl s 0) = r at h
  cases r with
  | error x => cases h
  | ok y =>
    obtain ⟨z, q⟩ := y
    simp only at h
    split at h
    · cases h
    · injection h with h
      subst h
      have h0 : Al s (bl s 0) := al_bl ⟨rfl, Nat.zero_le _⟩
      have h1 := sz_val 32 h0 hr
      have h2 := (snd_val 32 h0 hr).2.2
      omega
end SndW
end Go.Proofs.YtiakidomcjpdhaaGreatDoor

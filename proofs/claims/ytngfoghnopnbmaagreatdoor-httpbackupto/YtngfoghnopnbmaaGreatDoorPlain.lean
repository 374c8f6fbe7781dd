/- Plain mathematics on the characters of a string: where a text is no UTF-8, and which numbers its characters have; nothing of the program. -/
import Derived.Lib.RuneCount
import Derived.Lib.DecodeN
import Derived.Lib.Strings
import Derived.KernelRfl
namespace Go.Proofs.YtngfoghnopnbmaaGreatDoor

/-- No character's bytes stand whole at a place. -/
def noChar (s : ByteArray) (pos : Nat) : Bool := decide (Utf8.decode s pos = (65533, 1))

def badF (s : ByteArray) : Nat → Nat → Int
  | 0, _ => -1
  | f + 1, pos => if pos < s.size then (if noChar s pos then (pos : Int) else badF s f (pos + (Utf8.decode s pos).2)) else -1
/-- The first place from pos on at which no character stands whole; -1: none. -/
def badAt (s : ByteArray) (pos : Nat) : Int := badF s (s.size - pos) pos

def ptsF (s : ByteArray) : Nat → Nat → List Nat
  | 0, _ => []
  | f + 1, pos => if pos < s.size then (Utf8.decode s pos).1 :: ptsF s f (pos + (Utf8.decode s pos).2) else []
/-- The numbers that a range gives from pos on. -/
def ptsAt (s : ByteArray) (pos : Nat) : List Nat := ptsF s (s.size - pos) pos

theorem badF_fuel (s : ByteArray) : ∀ f g pos, s.size ≤ pos + f → s.size ≤ pos + g → badF s f pos = badF s g pos
  | 0, 0, _, _, _ => rfl
  | 0, g + 1, pos, h, _ => by simp [badF, show ¬ pos < s.size by omega]
  | f + 1, 0, pos, _, h => by simp [badF, show ¬ pos < s.size by omega]
  | f + 1, g + 1, pos, h1, h2 => by
    unfold badF
    split
    · rename_i hp
      have := Lib.decode_width_pos s pos hp
      rw [badF_fuel s f g _ (by omega) (by omega)]
    · rfl
theorem ptsF_fuel (s : ByteArray) : ∀ f g pos, s.size ≤ pos + f → s.size ≤ pos + g → ptsF s f pos = ptsF s g pos
  | 0, 0, _, _, _ => rfl
  | 0, g + 1, pos, h, _ => by simp [ptsF, show ¬ pos < s.size by omega]
  | f + 1, 0, pos, _, h => by simp [ptsF, show ¬ pos < s.size by omega]
  | f + 1, g + 1, pos, h1, h2 => by
    unfold ptsF
    split
    · rename_i hp
      have := Lib.decode_width_pos s pos hp
      rw [ptsF_fuel s f g _ (by omega) (by omega)]
    · rfl
theorem badAt_end (s : ByteArray) (pos : Nat) (h : ¬ pos < s.size) : badAt s pos = -1 := by
  unfold badAt
  rw [show s.size - pos = 0 by omega]
  rfl
theorem ptsAt_end (s : ByteArray) (pos : Nat) (h : ¬ pos < s.size) : ptsAt s pos = [] := by
  unfold ptsAt
  rw [show s.size - pos = 0 by omega]
  rfl
theorem badAt_hit (s : ByteArray) (pos : Nat) (h : pos < s.size) (hn : noChar s pos = true) : badAt s pos = pos := by
  unfold badAt
  obtain ⟨k, hk⟩ : ∃ k, s.size - pos = k + 1 := ⟨s.size - pos - 1, by omega⟩
  rw [hk, badF, if_pos h, if_pos hn]
theorem badAt_next (s : ByteArray) (pos : Nat) (h : pos < s.size) (hn : noChar s pos = false) : badAt s pos = badAt s (pos + (Utf8.decode s pos).2) := by
  have hw := Lib.decode_width_pos s pos h
  unfold badAt
  obtain ⟨k, hk⟩ : ∃ k, s.size - pos = k + 1 := ⟨s.size - pos - 1, by omega⟩
  rw [hk, badF, if_pos h, hn]
  exact badF_fuel s _ _ _ (by omega) (by omega)
theorem ptsAt_next (s : ByteArray) (pos : Nat) (h : pos < s.size) : ptsAt s pos = (Utf8.decode s pos).1 :: ptsAt s (pos + (Utf8.decode s pos).2) := by
  have hw := Lib.decode_width_pos s pos h
  unfold ptsAt
  obtain ⟨k, hk⟩ : ∃ k, s.size - pos = k + 1 := ⟨s.size - pos - 1, by omega⟩
  rw [hk, ptsF, if_pos h]
  rw [ptsF_fuel s k (s.size - (pos + (Utf8.decode s pos).2)) _ (by omega) (by omega)]
theorem badAt_ge (s : ByteArray) : ∀ n pos, s.size ≤ pos + n → badAt s pos = -1 ∨ ((pos : Int) ≤ badAt s pos ∧ badAt s pos < s.size)
  | 0, pos, h => .inl (badAt_end s pos (by omega))
  | n + 1, pos, h => by
    by_cases hp : pos < s.size
    · cases hn : noChar s pos with
      | true => rw [badAt_hit s pos hp hn]; right; omega
      | false =>
        have hw := Lib.decode_width_pos s pos hp
        rw [badAt_next s pos hp hn]
        rcases badAt_ge s n (pos + (Utf8.decode s pos).2) (by omega) with h1 | h1
        · exact .inl h1
        · right; omega
    · exact .inl (badAt_end s pos hp)
theorem badAt_bd (s : ByteArray) : -1 ≤ badAt s 0 ∧ badAt s 0 ≤ s.size := by
  rcases badAt_ge s s.size 0 (by omega) with h | h <;> omega

/-! The test of the program: the rune fffd, and the text there does not begin with fffd's own bytes. -/

theorem get_drop (s : ByteArray) (pos k : Nat) : s.get! (pos + k) = (s.data.toList.drop pos).getD k 0 := by
  cases s with
  | mk d =>
    show d[pos + k]! = _
    rw [List.getD_eq_getElem?_getD, List.getElem?_drop, Array.getElem!_eq_getD, Array.getD_eq_getD_getElem?, Array.getElem?_toList]
    rfl
theorem byte_eq (a c : UInt8) : (c == a) = decide (a.toNat = c.toNat) := by
  rw [Bool.eq_iff_iff]
  simp only [beq_iff_eq, decide_eq_true_eq, UInt8.toNat_inj]
  exact eq_comm
theorem pre3 (l : List UInt8) : Lib.hasPrefix l [239, 191, 189] = decide (3 ≤ l.length ∧ (l.getD 0 0).toNat = 239 ∧ (l.getD 1 0).toNat = 191 ∧ (l.getD 2 0).toNat = 189) := by
  match l with
  | [] => rfl
  | [a] => simp only [Lib.hasPrefix, List.isPrefixOf, Bool.and_false]; rfl
  | [a, b] => simp only [Lib.hasPrefix, List.isPrefixOf, Bool.and_false]; rfl
  | a :: b :: c :: t =>
    simp only [Lib.hasPrefix, List.isPrefixOf, Bool.and_true]
    rw [byte_eq, byte_eq, byte_eq, Bool.eq_iff_iff]
    simp
theorem dec_err (n b0 b1 b2 b3 : Nat) (hr : (Lib.decodeN n b0 b1 b2 b3).1 = 65533) :
    decide (Lib.decodeN n b0 b1 b2 b3 = (65533, 1)) = !decide (3 ≤ n ∧ b0 = 239 ∧ b1 = 191 ∧ b2 = 189) := by
  rw [Bool.eq_iff_iff]
  simp only [decide_eq_true_eq, Bool.not_eq_true', decide_eq_false_iff_not]
  revert hr
  unfold Lib.decodeN
  repeat' split
  all_goals
    simp only [Prod.mk.injEq]
    intro hr
    first
      | (refine ⟨fun h1 h2 => ?_, fun h => ⟨?_, ?_⟩⟩ <;> omega)
      | (refine ⟨fun h1 h2 => ?_, fun h => trivial⟩; omega)
theorem decode_err (s : ByteArray) (pos : Nat) (hr : (Utf8.decode s pos).1 = 65533) :
    noChar s pos = !(Lib.hasPrefix (s.data.toList.drop pos) [239, 191, 189]) := by
  unfold noChar
  rw [Lib.decode_at] at hr ⊢
  rw [dec_err _ _ _ _ _ hr, pre3, ← get_drop s pos 0, ← get_drop s pos 1, ← get_drop s pos 2, List.length_drop, ← Lib.size_eq]
  rfl
theorem noChar_not (s : ByteArray) (pos : Nat) (hr : (Utf8.decode s pos).1 ≠ 65533) : noChar s pos = false := by
  unfold noChar
  rw [decide_eq_false_iff_not]
  intro h
  rw [h] at hr
  exact hr rfl

theorem noChar_raw (s : ByteArray) (pos : Nat) (hr : (Utf8.decode s pos).1 = 65533) :
    noChar s pos = !(decide (3 ≤ s.size - pos) && (((s.extract pos s.size).extract 0 3).toList == [239, 191, 189])) := by
  have h := Lib.hasPrefix_raw (s.extract pos s.size) ⟨#[239, 191, 189]⟩
  rw [decode_err s pos hr]
  have e1 : (s.extract pos s.size).data.toList = s.data.toList.drop pos := by
    rw [Lib.extract_data, List.take_of_length_le]
    rw [List.length_drop, ← Lib.size_eq]
    exact Nat.le_refl _
  have e2 : (s.extract pos s.size).size = s.size - pos := by
    rw [Lib.size_eq, e1, List.length_drop, ← Lib.size_eq]
  have e3 : (⟨#[239, 191, 189]⟩ : ByteArray).toList = [239, 191, 189] := Lib.toList_data _
  rw [e1, e2, e3] at h
  exact congrArg _ h.symm
theorem noChar_short (s : ByteArray) (pos : Nat) (hr : (Utf8.decode s pos).1 = 65533) (h : ((s.size - pos : Nat) : Int) < 3) : noChar s pos = true := by
  rw [noChar_raw s pos hr, decide_eq_false (by omega)]
  rfl
theorem noChar_long (s : ByteArray) (pos : Nat) (b : Bool) (hr : (Utf8.decode s pos).1 = 65533) (h : 3 ≤ ((s.size - pos : Nat) : Int)) (hb : (!((s.extract pos s.size).extract 0 3).toList == [239, 191, 189]) = b) : noChar s pos = b := by
  rw [noChar_raw s pos hr, decide_eq_true (show 3 ≤ s.size - pos by omega), ← hb]
  rfl

/-! A text cut at a place is decoded as the text at that place. -/
theorem cut_data (b : ByteArray) (pos : Nat) : (b.extract pos b.size).data.toList = b.data.toList.drop pos := by
  rw [Lib.extract_data, List.take_of_length_le]
  rw [List.length_drop, ← Lib.size_eq]
  exact Nat.le_refl _
theorem cut_size (b : ByteArray) (pos : Nat) : (b.extract pos b.size).size = b.size - pos := by
  rw [Lib.size_eq, cut_data, List.length_drop, ← Lib.size_eq]
theorem cut_get (b : ByteArray) (pos k : Nat) : (b.extract pos b.size).get! k = b.get! (pos + k) := by
  have h := get_drop (b.extract pos b.size) 0 k
  rw [Nat.zero_add, cut_data, List.drop_zero] at h
  rw [h, get_drop]
theorem cut_decode (b : ByteArray) (pos : Nat) : Utf8.decode (b.extract pos b.size) 0 = Utf8.decode b pos := by
  rw [Lib.decode_at, Lib.decode_at, cut_size, cut_get, cut_get, cut_get, cut_get]
  simp only [Nat.sub_zero, Nat.add_zero, Nat.zero_add]
theorem decN_le (n b0 b1 b2 b3 : Nat) (h : 0 < n) : (Lib.decodeN n b0 b1 b2 b3).2 ≤ n := by
  unfold Lib.decodeN
  repeat' split
  all_goals (simp only []; omega)
theorem decode_fits (s : ByteArray) (pos : Nat) (h : pos < s.size) : 0 < (Utf8.decode s pos).2 ∧ pos + (Utf8.decode s pos).2 ≤ s.size := by
  have h1 := Lib.decode_width_pos s pos h
  have h2 := decN_le (s.size - pos) (s.get! pos).toNat (s.get! (pos + 1)).toNat (s.get! (pos + 2)).toNat (s.get! (pos + 3)).toNat (by omega)
  rw [← Lib.decode_at] at h2
  omega

end Go.Proofs.YtngfoghnopnbmaaGreatDoor

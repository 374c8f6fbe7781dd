/- Plain mathematics: what is read and told again is the same; the order of the characters is that of the bytes; what is joined and what is cut stays sound. -/
import Derived.Test.YtpjlpinjjklhhaaDoorEnc
namespace Go.Proofs.YtpjlpinjjklhhaaDoor
namespace EncW
open RefW CmpW
open Go.Lib (decodeN encodeRune encodeRuneZ)

/-- The bytes of some numbers. -/
def flatN (xs : List Nat) : List UInt8 := flat (xs.map fun (n : Nat) => (n : Int))
def AllPt (xs : List Nat) : Prop := ∀ x ∈ xs, isPt (x : Int) = true
theorem flatN_cons (x : Nat) (xs : List Nat) : flatN (x :: xs) = encodeRune (x : Int) ++ flatN xs := by simp [flatN, flat]
theorem flatN_append (xs ys : List Nat) : flatN (xs ++ ys) = flatN xs ++ flatN ys := by simp [flatN, flat]

theorem noChar_drop (s : ByteArray) (pos : Nat) : noChar s pos = decide (decL (s.data.toList.drop pos) = (65533, 1)) := by
  unfold noChar
  rw [decode_drop]
theorem drop_lt {s : ByteArray} {pos : Nat} {r : Int} {rest : List UInt8} (h : s.data.toList.drop pos = encodeRune r ++ rest) : pos < s.size := by
  have := congrArg List.length h
  rw [List.length_drop, ← Lib.size_eq, List.length_append] at this
  have := enc_len r
  omega
theorem at_enc {s : ByteArray} {pos : Nat} {r : Int} {rest : List UInt8} (hr : isPt r = true) (h : s.data.toList.drop pos = encodeRune r ++ rest) :
    Utf8.decode s pos = (r.toNat, (encodeRune r).length) ∧ noChar s pos = false ∧ s.data.toList.drop (pos + (encodeRune r).length) = rest := by
  refine ⟨?_, ?_, ?_⟩
  · rw [decode_drop, h, decL_enc r hr]
  · rw [noChar_drop, h, decL_enc r hr, decide_eq_false (enc_char r hr)]
  · rw [← List.drop_drop, h, List.drop_left]

/-- Told and read again. -/
theorem flat_read : ∀ (xs : List Nat) (_ : AllPt xs) (s : ByteArray) (pos : Nat), s.data.toList.drop pos = flatN xs → badAt s pos = -1 ∧ ptsAt s pos = xs
  | [], _, s, pos, h => by
    have hp : ¬ pos < s.size := by
      intro hp
      have := congrArg List.length h
      rw [List.length_drop, ← Lib.size_eq] at this
      simp [flatN, flat] at this
      omega
    exact ⟨badAt_end s pos hp, ptsAt_end s pos hp⟩
  | x :: xs, hx, s, pos, h => by
    rw [flatN_cons] at h
    have hr := hx x (by simp)
    have hp := drop_lt h
    obtain ⟨h1, h2, h3⟩ := at_enc hr h
    obtain ⟨i1, i2⟩ := flat_read xs (fun y hy => hx y (by simp [hy])) s _ h3
    have e1 : (Utf8.decode s pos).1 = x := by rw [h1]; simp
    have e2 : (Utf8.decode s pos).2 = (encodeRune (x : Int)).length := by rw [h1]
    refine ⟨?_, ?_⟩
    · rw [badAt_next s pos hp h2, e2]; exact i1
    · rw [ptsAt_next s pos hp, e1, e2, i2]

/-- Read and told again. -/
theorem read_flat : ∀ (n : Nat) (s : ByteArray) (pos : Nat), s.size ≤ pos + n → badAt s pos = -1 → AllPt (ptsAt s pos) ∧ s.data.toList.drop pos = flatN (ptsAt s pos)
  | 0, s, pos, hn, _ => by
    rw [ptsAt_end s pos (by omega), List.drop_of_length_le (by rw [← Lib.size_eq]; omega)]
    exact ⟨fun x hx => by simp at hx, rfl⟩
  | n + 1, s, pos, hn, hb => by
    by_cases hp : pos < s.size
    · have hc := badAt_sound s pos hp hb
      have hw := Lib.decode_width_pos s pos hp
      have hne : s.data.toList.drop pos ≠ [] := by
        intro e
        have := congrArg List.length e
        rw [List.length_drop, ← Lib.size_eq] at this
        simp at this
        omega
      have hc' : decL (s.data.toList.drop pos) ≠ (65533, 1) := by
        rw [noChar_drop, decide_eq_false_iff_not] at hc
        exact hc
      obtain ⟨g1, g2, g3⟩ := decL_back _ hne hc'
      rw [← decode_drop] at g1 g2 g3
      rw [badAt_next s pos hp hc] at hb
      obtain ⟨i1, i2⟩ := read_flat n s _ (by omega) hb
      rw [ptsAt_next s pos hp]
      refine ⟨fun x hx => ?_, ?_⟩
      · rcases List.mem_cons.1 hx with rfl | hx
        · exact g1
        · exact i1 x hx
      · rw [flatN_cons, ← i2, ← List.drop_drop]
        exact g2
    · rw [ptsAt_end s pos hp, List.drop_of_length_le (by rw [← Lib.size_eq]; omega)]
      exact ⟨fun x hx => by simp at hx, rfl⟩
theorem sound_flat (s : ByteArray) (hb : badAt s 0 = -1) : AllPt (ptsAt s 0) ∧ s.data.toList = flatN (ptsAt s 0) := by
  have := read_flat s.size s 0 (by omega) hb
  rw [List.drop_zero] at this
  exact this
theorem bytes_ext {s t : ByteArray} (h : s.data.toList = t.data.toList) : s = t := by
  apply ByteArray.ext
  exact Array.toList_inj.1 h

theorem badPt_all : ∀ (xs : List Nat) (k : Nat), AllPt xs → badPt (xs.map fun (n : Nat) => (n : Int)) k = -1
  | [], _, _ => rfl
  | x :: xs, k, h => by
    simp only [List.map_cons]
    unfold badPt
    rw [h x (by simp), if_pos rfl]
    exact badPt_all xs (k + 1) (fun y hy => h y (by simp [hy]))
theorem all_badPt : ∀ (zs : List Int) (k : Nat), badPt zs k = -1 → ∀ z ∈ zs, isPt z = true
  | [], _, _, z, hz => by simp at hz
  | y :: zs, k, h, z, hz => by
    unfold badPt at h
    cases hy : isPt y with
    | false => rw [hy] at h; simp at h
    | true =>
      rw [hy, if_pos rfl] at h
      rcases List.mem_cons.1 hz with rfl | hz
      · exact hy
      · exact all_badPt zs (k + 1) h z hz
/-- P1.7: a sound text's characters, told, are the text. -/
theorem text_back (s : ByteArray) (hb : badAt s 0 = -1) : badPt ((ptsAt s 0).map fun (n : Nat) => (n : Int)) 0 = -1 ∧ runesBytes ((ptsAt s 0).map fun (n : Nat) => (n : Int)) = s := by
  obtain ⟨h1, h2⟩ := sound_flat s hb
  have h3 := badPt_all (ptsAt s 0) 0 h1
  refine ⟨h3, ?_⟩
  rw [runes_eq _ h3]
  apply bytes_ext
  rw [h2]
  simp [flatN, flat]
/-- P1.7: characters told, read again. -/
theorem back_text (zs : List Int) (h : badPt zs 0 = -1) : badAt (runesBytes zs) 0 = -1 ∧ (ptsAt (runesBytes zs) 0).map (fun (n : Nat) => (n : Int)) = zs := by
  have ha := all_badPt zs 0 h
  have e : (zs.map Int.toNat).map (fun (n : Nat) => (n : Int)) = zs := by
    rw [List.map_map]
    conv => rhs; rw [← List.map_id zs]
    apply List.map_congr_left
    intro z hz
    have := isPt_bd (ha z hz)
    simp only [Function.comp, id]
    omega
  have hall : AllPt (zs.map Int.toNat) := by
    intro x hx
    obtain ⟨z, hz, rfl⟩ := List.mem_map.1 hx
    have hb := isPt_bd (ha z hz)
    rw [show ((z.toNat : Nat) : Int) = z by omega]
    exact ha z hz
  have hd : (runesBytes zs).data.toList.drop 0 = flatN (zs.map Int.toNat) := by
    rw [List.drop_zero, runes_eq zs h]
    unfold flatN flat
    rw [e]
  obtain ⟨i1, i2⟩ := flat_read _ hall _ 0 hd
  exact ⟨i1, by rw [i2]; exact e⟩

theorem join_data (s t : ByteArray) : (s ++ t).data.toList = s.data.toList ++ t.data.toList := by rw [ByteArray.data_append, Array.toList_append]
/-- What is joined stays sound. -/
theorem join_sound (s t : ByteArray) (hs : badAt s 0 = -1) (ht : badAt t 0 = -1) : badAt (s ++ t) 0 = -1 := by
  obtain ⟨a1, a2⟩ := sound_flat s hs
  obtain ⟨b1, b2⟩ := sound_flat t ht
  refine (flat_read (ptsAt s 0 ++ ptsAt t 0) ?_ (s ++ t) 0 ?_).1
  · intro x hx
    rcases List.mem_append.1 hx with h | h
    · exact a1 x h
    · exact b1 x h
  · rw [List.drop_zero, join_data, flatN_append, ← a2, ← b2]

/-- What is cut of a joined text at the first one's length is the first one. -/
theorem join_dec (s t : ByteArray) (pos : Nat) (hp : pos < s.size) (hb : badAt s pos = -1) : Utf8.decode (s ++ t) pos = Utf8.decode s pos ∧ noChar (s ++ t) pos = false := by
  obtain ⟨h1, h2⟩ := read_flat s.size s pos (by omega) hb
  rw [ptsAt_next s pos hp] at h1 h2
  rw [flatN_cons] at h2
  have hr := h1 _ (List.mem_cons_self ..)
  have h3 : (s ++ t).data.toList.drop pos = encodeRune ((Utf8.decode s pos).1 : Int) ++ (flatN (ptsAt s (pos + (Utf8.decode s pos).2)) ++ t.data.toList) := by
    rw [join_data, List.drop_append_of_le_length (by rw [← Lib.size_eq]; omega), h2, List.append_assoc]
  obtain ⟨i1, i2, _⟩ := at_enc hr h3
  obtain ⟨j1, _, _⟩ := at_enc hr h2
  exact ⟨by rw [i1, ← j1], i2⟩
theorem join_inv (s t : ByteArray) : ∀ (n pos : Nat), s.size ≤ pos + n → pos ≤ s.size → badAt s pos = -1 → CutInv (s ++ t) s.size pos → CutInv (s ++ t) s.size s.size
  | 0, pos, h1, h2, _, h => by
    have e : pos = s.size := by omega
    rw [e] at h
    exact h
  | n + 1, pos, h1, h2, hb, h => by
    by_cases hp : pos < s.size
    · have hc := badAt_sound s pos hp hb
      have hf := width_fit s pos hp hc
      have hw := Lib.decode_width_pos s pos hp
      obtain ⟨i1, i2⟩ := join_dec s t pos hp hb
      have hs : (s ++ t).size = s.size + t.size := ByteArray.size_append
      have h' := cut_next (s ++ t) s.size pos (by omega) i2 h (by rw [i1]; omega)
      rw [i1] at h'
      exact join_inv s t n _ (by omega) hf (by rw [← badAt_next s pos hp hc]; exact hb) h'
    · have e : pos = s.size := by omega
      rw [e] at h
      exact h
theorem join_cut (s t : ByteArray) (hs : badAt s 0 = -1) (ht : badAt t 0 = -1) : (s ++ t).extract 0 (lenW (s ++ t) s.size) = s := by
  have hz : (s ++ t).size = s.size + t.size := ByteArray.size_append
  have h := join_inv s t s.size 0 (by omega) (by omega) hs (cut_start (s ++ t) s.size (by omega))
  by_cases h0 : t.size = 0
  · have et : t = ByteArray.empty := by
      apply ByteArray.ext
      exact Array.eq_empty_of_size_eq_zero h0
    rw [cut_end (s ++ t) s.size s.size (by omega) h, et]
    exact ByteArray.append_empty
  · have hp : s.size < (s ++ t).size := by omega
    have hw := Lib.decode_width_pos (s ++ t) s.size hp
    have hd : (s ++ t).data.toList.drop s.size = t.data.toList := by
      rw [join_data, Lib.size_eq, List.drop_left]
    have hc : noChar (s ++ t) s.size = false := by
      have h1 := badAt_sound t 0 (by omega) ht
      rw [noChar_drop, List.drop_zero] at h1
      rw [noChar_drop, hd]
      exact h1
    rw [cut_hit (s ++ t) s.size s.size hp hc h (by omega)]
    apply bytes_ext
    rw [Lib.extract_data, List.drop_zero, join_data, Nat.sub_zero, Lib.size_eq, List.take_left]
end EncW
end Go.Proofs.YtpjlpinjjklhhaaDoor

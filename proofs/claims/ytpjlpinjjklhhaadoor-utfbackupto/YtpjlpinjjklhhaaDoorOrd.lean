/- Plain mathematics: the order of the characters is that of the bytes. -/
import Derived.Test.YtpjlpinjjklhhaaDoorEncB
namespace Go.Proofs.YtpjlpinjjklhhaaDoor
namespace EncW
open RefW CmpW
open Go.Lib (decodeN encodeRune encodeRuneZ)
open Go.Op (bytesLess)

/-- One list of bytes stands ahead of another, and not the other way round. -/
def Ahead (l m : List UInt8) : Prop := bytesLess l m = true ∧ bytesLess m l = false
theorem ahead_hd {a b : UInt8} {x y : List UInt8} (h : (a.toNat : Int) < b.toNat) : Ahead (a :: x) (b :: y) := by
  have h1 : a < b := UInt8.lt_iff_toNat_lt.2 (by omega)
  have h2 : ¬ b < a := fun g => by have := UInt8.lt_iff_toNat_lt.1 g; omega
  have h3 : ¬ b = a := fun g => by subst g; omega
  refine ⟨?_, ?_⟩
  · simp [bytesLess, h1]
  · simp [bytesLess, h2, h3]
theorem ahead_tl {a b : UInt8} {x y : List UInt8} (h : a = b) (hx : Ahead x y) : Ahead (a :: x) (b :: y) := by
  subst h
  have h0 : ¬ a < a := fun g => by have := UInt8.lt_iff_toNat_lt.1 g; omega
  refine ⟨?_, ?_⟩
  · simp [bytesLess, h0, hx.1]
  · simp [bytesLess, h0, hx.2]
theorem same_u8 {p q : Int} (h : p = q) : p.toNat.toUInt8 = q.toNat.toUInt8 := by rw [h]
theorem u8_lt {p q : Int} (h : p < q) (h0 : 0 ≤ p) (h1 : q < 256) : ((p.toNat.toUInt8).toNat : Int) < (q.toNat.toUInt8).toNat := by
  rw [u8n p h0 (by omega), u8n q (by omega) h1]
  exact h

theorem enc_ahead {x y : Int} (hx : isPt x = true) (hy : isPt y = true) (h : x < y) (a b : List UInt8) : Ahead (encodeRune x ++ a) (encodeRune y ++ b) := by
  rcases pt_cases hx with gx | gx | gx | gx
  · rw [enc1 gx.1 gx.2]
    rcases pt_cases hy with gy | gy | gy | gy
    · rw [enc1 gy.1 gy.2]; exact ahead_hd (u8_lt h (by omega) (by omega))
    · rw [enc2 gy.1 gy.2]; exact ahead_hd (u8_lt (by omega) (by omega) (by omega))
    · rw [enc3 gy.1 gy.2 hy]; exact ahead_hd (u8_lt (by omega) (by omega) (by omega))
    · rw [enc4 gy.1 hy]; exact ahead_hd (u8_lt (by omega) (by omega) (by omega))
  · rw [enc2 gx.1 gx.2]
    rcases pt_cases hy with gy | gy | gy | gy
    · omega
    · rw [enc2 gy.1 gy.2]
      rcases (show x / 64 < y / 64 ∨ (x / 64 = y / 64 ∧ x % 64 < y % 64) by omega) with g | g
      · exact ahead_hd (u8_lt (by omega) (by omega) (by omega))
      · exact ahead_tl (same_u8 (by omega)) (ahead_hd (u8_lt (by omega) (by omega) (by omega)))
    · rw [enc3 gy.1 gy.2 hy]; exact ahead_hd (u8_lt (by omega) (by omega) (by omega))
    · rw [enc4 gy.1 hy]; exact ahead_hd (u8_lt (by omega) (by omega) (by omega))
  · rw [enc3 gx.1 gx.2 hx]
    rcases pt_cases hy with gy | gy | gy | gy
    · omega
    · omega
    · rw [enc3 gy.1 gy.2 hy]
      rcases (show x / 4096 < y / 4096 ∨ (x / 4096 = y / 4096 ∧ x / 64 % 64 < y / 64 % 64) ∨ (x / 4096 = y / 4096 ∧ x / 64 % 64 = y / 64 % 64 ∧ x % 64 < y % 64) by omega) with g | g | g
      · exact ahead_hd (u8_lt (by omega) (by omega) (by omega))
      · exact ahead_tl (same_u8 (by omega)) (ahead_hd (u8_lt (by omega) (by omega) (by omega)))
      · exact ahead_tl (same_u8 (by omega)) (ahead_tl (same_u8 (by omega)) (ahead_hd (u8_lt (by omega) (by omega) (by omega))))
    · rw [enc4 gy.1 hy]; exact ahead_hd (u8_lt (by omega) (by omega) (by omega))
  · rw [enc4 gx.1 hx]
    rcases pt_cases hy with gy | gy | gy | gy
    · omega
    · omega
    · omega
    · rw [enc4 gy.1 hy]
      rcases (show x / 262144 < y / 262144 ∨ (x / 262144 = y / 262144 ∧ x / 4096 % 64 < y / 4096 % 64) ∨ (x / 262144 = y / 262144 ∧ x / 4096 % 64 = y / 4096 % 64 ∧ x / 64 % 64 < y / 64 % 64) ∨ (x / 262144 = y / 262144 ∧ x / 4096 % 64 = y / 4096 % 64 ∧ x / 64 % 64 = y / 64 % 64 ∧ x % 64 < y % 64) by omega) with g | g | g | g
      · exact ahead_hd (u8_lt (by omega) (by omega) (by omega))
      · exact ahead_tl (same_u8 (by omega)) (ahead_hd (u8_lt (by omega) (by omega) (by omega)))
      · exact ahead_tl (same_u8 (by omega)) (ahead_tl (same_u8 (by omega)) (ahead_hd (u8_lt (by omega) (by omega) (by omega))))
      · exact ahead_tl (same_u8 (by omega)) (ahead_tl (same_u8 (by omega)) (ahead_tl (same_u8 (by omega)) (ahead_hd (u8_lt (by omega) (by omega) (by omega)))))

theorem less_prefix : ∀ (p a b : List UInt8), bytesLess (p ++ a) (p ++ b) = bytesLess a b
  | [], _, _ => rfl
  | c :: p, a, b => by
    have h0 : ¬ c < c := fun g => by have := UInt8.lt_iff_toNat_lt.1 g; omega
    simp [bytesLess, h0, less_prefix p a b]
theorem less_flat : ∀ (xs ys : List Nat), AllPt xs → AllPt ys → bytesLess (flatN xs) (flatN ys) = decide (cmpL xs ys < 0)
  | [], [], _, _ => rfl
  | [], y :: ys, _, _ => by
    rw [flatN_cons]
    have hl := enc_len (y : Int)
    cases h : encodeRune (y : Int) with
    | nil => rw [h] at hl; simp at hl
    | cons c r => rfl
  | x :: xs, [], _, _ => by
    show bytesLess _ [] = _
    cases flatN (x :: xs) <;> rfl
  | x :: xs, y :: ys, hx, hy => by
    rw [flatN_cons, flatN_cons]
    have px := hx x (by simp)
    have py := hy y (by simp)
    unfold cmpL
    by_cases h1 : x < y
    · rw [if_pos h1, (enc_ahead px py (by omega) _ _).1]; rfl
    · by_cases h2 : y < x
      · rw [if_neg h1, if_pos h2, (enc_ahead py px (by omega) _ _).2]; rfl
      · have e : x = y := by omega
        subst e
        rw [if_neg h1, if_neg h2, less_prefix]
        exact less_flat xs ys (fun z hz => hx z (by simp [hz])) (fun z hz => hy z (by simp [hz]))
theorem cmpL_zero : ∀ (xs ys : List Nat), cmpL xs ys = 0 → xs = ys
  | [], [], _ => rfl
  | [], _ :: _, h => by simp [cmpL] at h
  | _ :: _, [], h => by simp [cmpL] at h
  | x :: xs, y :: ys, h => by
    unfold cmpL at h
    by_cases h1 : x < y
    · rw [if_pos h1] at h; omega
    · by_cases h2 : y < x
      · rw [if_neg h1, if_pos h2] at h; omega
      · rw [if_neg h1, if_neg h2] at h
        rw [cmpL_zero xs ys h, show x = y by omega]

/-- P1.7: the order of the characters is that of the bytes. -/
theorem order (s t : ByteArray) (hs : badAt s 0 = -1) (ht : badAt t 0 = -1) :
    bytesLess s.toList t.toList = decide (cmpL (ptsAt s 0) (ptsAt t 0) < 0) ∧ (s.toList == t.toList) = (cmpL (ptsAt s 0) (ptsAt t 0) == 0) := by
  obtain ⟨a1, a2⟩ := sound_flat s hs
  obtain ⟨b1, b2⟩ := sound_flat t ht
  rw [Lib.toList_data, Lib.toList_data]
  refine ⟨by rw [a2, b2]; exact less_flat _ _ a1 b1, ?_⟩
  rw [Bool.eq_iff_iff]
  simp only [beq_iff_eq]
  refine ⟨fun h => ?_, fun h => ?_⟩
  · have e : s = t := bytes_ext h
    rw [e]
    exact cmpL_same _
  · have e := cmpL_zero _ _ h
    rw [a2, b2, e]
end EncW
end Go.Proofs.YtpjlpinjjklhhaaDoor

/- The reference's numerals and trimmed texts. -/
import Derived.Test.YtngfoghnopnbmaaGreatDoorWa
import Derived.Laws.IdiomStrings
import Derived.Laws.Bits64
import Derived.Lib.ItoaNum
namespace Go.Proofs.YtngfoghnopnbmaaGreatDoor
open Go.RowKit
namespace Ht
open Bw

def digF : Nat → Nat → List UInt8 → List UInt8
  | 0, _, acc => acc
  | f + 1, x, acc => if 0 < x ∨ acc = [] then digF f (x / 10) ((48 + x % 10).toUInt8 :: acc) else acc
theorem dd_small {x : Nat} (h : x < 10) : Lib.decDigits x = [UInt8.ofNat (48 + x)] := by rw [Lib.decDigits, dif_pos h]
theorem dd_big {x : Nat} (h : ¬ x < 10) : Lib.decDigits x = Lib.decDigits (x / 10) ++ [UInt8.ofNat (48 + x % 10)] := by rw [Lib.decDigits, dif_neg h]
theorem digF_dec : ∀ (f x : Nat) (acc : List UInt8), acc ≠ [] → x < 10 ^ f → digF f x acc = (if x = 0 then [] else Lib.decDigits x) ++ acc
  | 0, x, acc, _, hx => by
    have : x = 0 := by simpa using hx
    rw [digF, if_pos this]
    rfl
  | f + 1, x, acc, ha, hx => by
    have hx' : x / 10 < 10 ^ f := by rw [Nat.pow_succ] at hx; omega
    rw [digF]
    by_cases h0 : x = 0
    · rw [if_neg (by rw [h0]; simp [ha]), if_pos h0]
      rfl
    · rw [if_pos (.inl (by omega)), digF_dec f (x / 10) _ (by simp) hx', if_neg h0]
      by_cases h1 : x < 10
      · rw [dd_small h1, if_pos (by omega), Nat.mod_eq_of_lt h1]
        rfl
      · rw [dd_big h1, if_neg (by omega), List.append_assoc]
        rfl
theorem dig_dec (x : Nat) (hx : x < 10 ^ 20) : digF 20 x [] = Lib.decDigits x := by
  have hx' : x / 10 < 10 ^ 19 := by omega
  rw [digF, if_pos (.inr rfl), digF_dec 19 (x / 10) _ (by simp) hx']
  by_cases h1 : x < 10
  · rw [dd_small h1, if_pos (by omega), Nat.mod_eq_of_lt h1]
    rfl
  · rw [dd_big h1, if_neg (by omega)]
theorem conv_one (W : World) (d : Nat) (hd : d < 256) : (convert 29 9 (.slice (some ⟨W.heap.size, 0, none⟩) 1 1)).run Tryz.prog (W.alloc (.cells #[.int .u8 (d : Int)] 5)) = .ok (.string ⟨#[d.toUInt8]⟩) (W.alloc (.cells #[.int .u8 (d : Int)] 5)) := by
  have := run_convert_bytes_back (P := Tryz.prog) (W.alloc (.cells #[.int .u8 (d : Int)] 5)) 29 9 5 ⟨W.heap.size, 0, none⟩ 1 [d.toUInt8] Tryz.underlying29 Tryz.underlying5 Tryz.underlying9 (fun j hj => by
    have hj0 : j = 0 := by simpa using hj
    subst hj0
    have e : ((d.toUInt8).toNat : Int) = (d : Int) := by
      have : (d.toUInt8).toNat = d % 256 := UInt8.toNat_ofNat'
      rw [this]
      omega
    have h1 := cells_new W [.int .u8 (d : Int)] 5 0 (.int .u8 (d : Int)) rfl
    simp only [List.getElem_cons_zero, e]
    exact h1)
  exact this
/-- The number in a slot; 1 for an empty text. -/
def numOfF : Value → Nat
  | .int _ n => n.toNat
  | _ => 0
def empOf : Value → Nat
  | .string s => if s.size = 0 then 1 else 0
  | _ => 0

set_option maxRecDepth 20000 in
set_option maxHeartbeats 4000000 in
theorem dec42 (N : Nat) (hNb : N ≤ 9223372036854775807) (w : World) : Calls Tryz.prog 42 #[.int .i64 (N : Int)] w fun e w' => e = .returned (.string ⟨(Lib.itoa (N : Int)).toArray⟩) ∧ Below w.heap.size w w' := by
  have hf : Lib.itoa (N : Int) = digF 20 N [] := by
    unfold Lib.itoa
    rw [if_neg (by omega), Int.toNat_natCast, dig_dec _ (by omega)]
  obtain ⟨T, hT⟩ : ∃ T, digF 20 N [] = T := ⟨_, rfl⟩
  rw [hf, hT]
  clear hf
  go_enter Tryz.func42, Tryz.ntmps42
  go_wp2
  go_loopw [3, 0] (fun v u w' => ∃ (x f : Nat) (acc : List UInt8), v = .string ⟨acc.toArray⟩ ∧ u = .int .i64 (x : Int) ∧ Hid (digF f x acc = T) ∧ x ≤ 9223372036854775807 ∧ x < 10 ^ f ∧ (acc = [] → f = 20) ∧ acc.length + f ≤ 20 ∧ Below w.heap.size w w') (fun v u _ => 2 * numOfF u + empOf v)
  case atStart => exact ⟨N, 20, [], rfl, rfl, hT, hNb, Nat.lt_of_le_of_lt hNb (by decide), fun _ => rfl, by simp, Below.refl _ _⟩
  case round =>
    obtain ⟨x, f, acc, rfl, rfl, HD, hxb, hx, hemp, hal, hb⟩ := hrel
    by_cases hgo : 0 < x ∨ acc = []
    · obtain ⟨f, rfl⟩ : ∃ g, f = g + 1 := by
        refine ⟨f - 1, ?_⟩
        rcases hgo with h | h
        · by_cases hf : f = 0
          · subst hf; simp at hx; omega
          · omega
        · have := hemp h; omega
      have HE : Hid (digF f (x / 10) ((48 + x % 10).toUInt8 :: acc) = T) := by
        show _ = _
        rw [← HD.out, digF, if_pos hgo]
      have hx10 : x / 10 < 10 ^ f := by
        rw [Nat.pow_succ] at hx
        omega
      obtain ⟨Q, hQ⟩ : ∃ Q, x / 10 = Q := ⟨_, rfl⟩
      obtain ⟨D, hD⟩ : ∃ D, 48 + x % 10 = D := ⟨_, rfl⟩
      rw [hQ] at HE hx10
      rw [hD] at HE
      have hDl : D < 256 := by omega
      have q1 : (x : Int) / 10 = (Q : Int) := by omega
      have q2 : Int.tdiv (x : Int) 10 = (Q : Int) := by rw [Int.tdiv_eq_ediv_of_nonneg (by omega)]; exact q1
      have r1 : Int.tmod (x : Int) 10 = (D : Int) - 48 := by rw [Int.tmod_eq_emod_of_nonneg (by omega)]; omega
      have r4 : 48 + ((D : Int) - 48) = (D : Int) := by omega
      have r6 : IntKind.u8.wrap (D : Int) = (D : Int) := by rw [IntKind.wrap_u8]; omega
      have hcv := conv_one wr D hDl
      have hsz : (⟨acc.toArray⟩ : ByteArray).size ≤ 20 := by rw [Lib.size_eq]; simp; omega
      have hcat : (⟨#[D.toUInt8]⟩ : ByteArray) ++ ⟨acc.toArray⟩ = ⟨(D.toUInt8 :: acc).toArray⟩ := by apply ByteArray.ext; simp [ByteArray.data_append]
      have hmeas : 2 * Q + 0 < 2 * x + empOf (.string ⟨acc.toArray⟩) := by
        rcases hgo with h | h
        · omega
        · subst h
          have : empOf (.string ⟨([] : List UInt8).toArray⟩) = 1 := rfl
          omega
      have hQx : Q ≤ 9223372036854775807 := by omega
      have hemp2 : empOf (.string ⟨(D.toUInt8 :: acc).toArray⟩) = 0 := by
        simp only [empOf]
        rw [if_neg]
        rw [Lib.size_eq]
        simp
      have hcond : (decide (0 < (x : Int)) = true) ∨ (decide (0 < (x : Int)) = false ∧ acc = []) := by
        rcases hgo with h | h
        · left; simp; omega
        · by_cases hx0 : 0 < x
          · left; simp; omega
          · right; exact ⟨by simp; omega, h⟩
      clear hgo HD
      rcases hcond with hc | ⟨hc, hacc⟩
      · have hc' : (0 : Int) < (x : Int) := by simpa using hc
        clear hc hQ hD
        go_wp2
        refine ⟨⟨Q, f, D.toUInt8 :: acc, rfl, rfl, HE, hQx, hx10, fun h => by simp at h, by simp; omega, hb.alloc hb.size _⟩, ?_⟩
        have h5 : empOf (.string ⟨(UInt8.ofNat D :: acc).toArray⟩) = 0 := hemp2
        rw [h5]
        simpa [numOfF] using hmeas
      · subst hacc
        have hx0 : x = 0 := by have : ¬ (0 : Int) < (x : Int) := by simpa using hc
                               omega
        subst hx0
        obtain rfl : Q = 0 := by omega
        obtain rfl : D = 48 := by omega
        have hcv2 : (convert 29 9 (.slice (some ⟨wr.heap.size, 0, none⟩) 1 1)).run Tryz.prog (wr.alloc (.cells #[.int .u8 48] 5)) = .ok (.string ⟨#[48]⟩) (wr.alloc (.cells #[.int .u8 48] 5)) := conv_one wr 48 (by decide)
        clear hc hQ hD q1 q2 r1 r4 r6 hcat hcv
        go_wp2
        refine ⟨⟨0, f, [48], rfl, rfl, HE, hQx, hx10, fun h => by simp at h, by simp at hal ⊢; omega, hb.alloc hb.size _⟩, ?_⟩
        decide
    · have hx0 : x = 0 := by omega
      have hne : acc ≠ [] := fun h => hgo (.inr h)
      have HE : acc = T := by
        rw [← HD.out]
        cases f with
        | zero => rfl
        | succ f => rw [digF, if_neg hgo]
      subst hx0
      have hem : ((⟨acc.toArray⟩ : ByteArray).toList == []) = false := by
        rw [Lib.toList_data]
        cases acc with
        | nil => exact absurd rfl hne
        | cons a r => rfl
      have hem2 : (⟨acc.toArray⟩ : ByteArray).toList.isEmpty = false := by
        rw [Lib.toList_data]
        cases acc with
        | nil => exact absurd rfl hne
        | cons a r => rfl
      have hem3 : acc.isEmpty = false := by
        cases acc with
        | nil => exact absurd rfl hne
        | cons a r => rfl
      have hsz : (⟨acc.toArray⟩ : ByteArray).size ≤ 20 := by rw [Lib.size_eq]; simp; omega
      have hal2 : ((acc.length : Nat) : Int) ≤ 20 := by omega
      have hal3 : acc.length ≤ 20 := by omega
      subst HE
      clear HD hgo hT
      go_wp2
      go_ret
      exact ⟨rfl, hb⟩
end Ht
end Go.Proofs.YtngfoghnopnbmaaGreatDoor

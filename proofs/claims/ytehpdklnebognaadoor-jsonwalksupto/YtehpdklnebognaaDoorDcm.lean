/- What the reference's decimal does: a contract, by walking its text. -/
import Derived.Test.YtehpdklnebognaaDoorFig
namespace Go.Proofs.YtehpdklnebognaaDoor
open Go.RowKit
namespace WlkW
open PlnW

set_option maxRecDepth 20000 in
set_option maxHeartbeats 4000000 in
theorem decimal_any (N : Nat) (w : World) (hNb : N ≤ 9007199254740991) :
    Calls Tryd.prog 30 #[.int .i64 (N : Int)] w fun e w' => e = .returned (.string ⟨(digF 20 N []).toArray⟩) ∧ Below w.heap.size w w' := by
  obtain ⟨T, hT⟩ : ∃ T, digF 20 N [] = T := ⟨_, rfl⟩
  rw [hT]
  go_enter Tryd.func30, Tryd.ntmps30
  go_wp2
  go_loopw [0, 3] (fun u v w' => ∃ (x f : Nat) (acc : List UInt8), v = .string ⟨acc.toArray⟩ ∧ u = .int .i64 (x : Int) ∧ Hid (digF f x acc = T) ∧ x ≤ 9007199254740991 ∧ x < 10 ^ f ∧ (acc = [] → f = 20) ∧ acc.length + f ≤ 20 ∧ Below w.heap.size w w') (fun u v _ => 2 * numOfF u + empOf v)
  case atStart => exact ⟨N, 20, [], rfl, rfl, hT, hNb, Nat.lt_of_le_of_lt hNb (by decide), fun _ => rfl, by simp, Below.refl _ _⟩
  case round =>
    obtain ⟨x, f, acc, rfl, rfl, HD, hxb, hx, hemp, hal, hb⟩ := hrel
    by_cases hgo : 0 < x ∨ acc = []
    · obtain ⟨f, rfl⟩ : ∃ g, f = g + 1 := by
        refine ⟨f - 1, ?_⟩
        rcases hgo with h | h
        · by_cases hf : f = 0
          · subst hf; simp at hx; omega
          · omega
        · have := hemp h; omega
      have HE : Hid (digF f (x / 10) ((48 + x % 10).toUInt8 :: acc) = T) := by
        show _ = _
        rw [← HD.out, digF, if_pos hgo]
      have hx10 : x / 10 < 10 ^ f := by
        rw [Nat.pow_succ] at hx
        omega
      obtain ⟨Q, hQ⟩ : ∃ Q, x / 10 = Q := ⟨_, rfl⟩
      obtain ⟨D, hD⟩ : ∃ D, 48 + x % 10 = D := ⟨_, rfl⟩
      rw [hQ] at HE hx10
      rw [hD] at HE
      have hDl : D < 256 := by omega
      have q1 : (x : Int) / 10 = (Q : Int) := by omega
      have q2 : Int.tdiv (x : Int) 10 = (Q : Int) := by rw [Int.tdiv_eq_ediv_of_nonneg (by omega)]; exact q1
      have r1 : Int.tmod (x : Int) 10 = (D : Int) - 48 := by rw [Int.tmod_eq_emod_of_nonneg (by omega)]; omega
      have r3 : IntKind.i64.wrap ((D : Int) - 48) = (D : Int) - 48 := by rw [IntKind.wrap_i64]; omega
      have r4 : 48 + ((D : Int) - 48) = (D : Int) := by omega
      have r5 : IntKind.i64.wrap (D : Int) = (D : Int) := by rw [IntKind.wrap_i64]; omega
      have r6 : IntKind.u8.wrap (D : Int) = (D : Int) := by rw [IntKind.wrap_u8]; omega
      have q3 : IntKind.i64.wrap (Q : Int) = (Q : Int) := by rw [IntKind.wrap_i64]; omega
      have hcv := conv_one wr D hDl
      have hsz : (⟨acc.toArray⟩ : ByteArray).size ≤ 20 := by rw [Lib.size_eq]; simp; omega
      have hcat : (⟨#[D.toUInt8]⟩ : ByteArray) ++ ⟨acc.toArray⟩ = ⟨(D.toUInt8 :: acc).toArray⟩ := by apply ByteArray.ext; simp [ByteArray.data_append]
      have hmeas : 2 * Q + 0 < 2 * x + empOf (.string ⟨acc.toArray⟩) := by
        rcases hgo with h | h
        · omega
        · subst h
          have : empOf (.string ⟨([] : List UInt8).toArray⟩) = 1 := rfl
          omega
      have hQx : Q ≤ 9007199254740991 := by omega
      have hemp2 : empOf (.string ⟨(D.toUInt8 :: acc).toArray⟩) = 0 := by
        simp only [empOf]
        rw [if_neg]
        rw [Lib.size_eq]
        simp
      have hcond : (decide (0 < (x : Int)) = true) ∨ (decide (0 < (x : Int)) = false ∧ acc = []) := by
        rcases hgo with h | h
        · left; simp; omega
        · by_cases hx0 : 0 < x
          · left; simp; omega
          · right; exact ⟨by simp; omega, h⟩
      clear hgo HD
      rcases hcond with hc | ⟨hc, hacc⟩
      · have hc' : (0 : Int) < (x : Int) := by simpa using hc
        clear hc hQ hD
        go_wp2
        refine ⟨⟨Q, f, D.toUInt8 :: acc, rfl, rfl, HE, hQx, hx10, fun h => by simp at h, by simp; omega, hb.alloc hb.size _⟩, ?_⟩
        have h5 : empOf (.string ⟨(UInt8.ofNat D :: acc).toArray⟩) = 0 := hemp2
        rw [h5]
        simpa [numOfF] using hmeas
      · subst hacc
        have hx0 : x = 0 := by have : ¬ (0 : Int) < (x : Int) := by simpa using hc
                               omega
        subst hx0
        obtain rfl : Q = 0 := by omega
        obtain rfl : D = 48 := by omega
        have hcv2 : (convert 52 9 (.slice (some ⟨wr.heap.size, 0, none⟩) 1 1)).run Tryd.prog (wr.alloc (.cells #[.int .u8 48] 5)) = .ok (.string ⟨#[48]⟩) (wr.alloc (.cells #[.int .u8 48] 5)) := conv_one wr 48 (by decide)
        clear hc hQ hD q1 q2 q3 r1 r3 r4 r5 r6 hcat hcv
        go_wp2
        refine ⟨⟨0, f, [48], rfl, rfl, HE, hQx, hx10, fun h => by simp at h, by simp at hal ⊢; omega, hb.alloc hb.size _⟩, ?_⟩
        decide
    · have hx0 : x = 0 := by omega
      have hne : acc ≠ [] := fun h => hgo (.inr h)
      have HE : acc = T := by
        rw [← HD.out]
        cases f with
        | zero => rfl
        | succ f => rw [digF, if_neg hgo]
      subst hx0
      have hem : ((⟨acc.toArray⟩ : ByteArray).toList == []) = false := by
        rw [Lib.toList_data]
        cases acc with
        | nil => exact absurd rfl hne
        | cons a r => rfl
      have hem2 : (⟨acc.toArray⟩ : ByteArray).toList.isEmpty = false := by
        rw [Lib.toList_data]
        cases acc with
        | nil => exact absurd rfl hne
        | cons a r => rfl
      have hem3 : acc.isEmpty = false := by
        cases acc with
        | nil => exact absurd rfl hne
        | cons a r => rfl
      have hsz : (⟨acc.toArray⟩ : ByteArray).size ≤ 20 := by rw [Lib.size_eq]; simp; omega
      have hal2 : ((acc.length : Nat) : Int) ≤ 20 := by omega
      have hal3 : acc.length ≤ 20 := by omega
      subst HE
      clear HD hgo hT
      go_wp2
      go_ret
      exact ⟨rfl, hb⟩

end WlkW
end Go.Proofs.YtehpdklnebognaaDoor

/- What the two parts of a slice of bytes hold. -/
import Derived.Test.YtfmkkjnmadaplaaDoorWr
namespace Go.Proofs.YtfmkkjnmadaplaaDoor
open Go.RowKit
namespace Bw

theorem SlM.front {w : World} {a : Option Addr} {cap : Nat} {bs : List UInt8} (h : SlM w (.slice a bs.length cap) bs) (k : Nat) (hk : k ≤ bs.length) : SlM w (.slice a k cap) (bs.take k) := by
  rcases h with ⟨rfl, h | ⟨x, c, h, hc⟩⟩ | ⟨b, off, c, h, h1, h2, hc⟩
  · cases h
    simp at hk
    subst hk
    exact .inl ⟨rfl, .inl rfl⟩
  · cases h
    simp at hk
    subst hk
    exact .inl ⟨rfl, .inr ⟨_, _, rfl, hc⟩⟩
  · cases h
    have hl : (bs.take k).length = k := by rw [List.length_take]; omega
    refine .inr ⟨b, off, cap, by rw [hl], by omega, h2, fun j hj => ?_⟩
    rw [hl] at hj
    rw [hc j (by omega)]
    simp
theorem SlM.back {w : World} {a : Option Addr} {cap : Nat} {bs : List UInt8} (h : SlM w (.slice a bs.length cap) bs) (k : Nat) (hk : k ≤ bs.length) : SlM w (.slice (if cap = k then a else Option.map (fun x => x.add k) a) (bs.length - k) (cap - k)) (bs.drop k) := by
  rcases h with ⟨rfl, h | ⟨x, c, h, hc⟩⟩ | ⟨b, off, c, h, h1, h2, hc⟩
  · cases h
    simp at hk
    subst hk
    exact .inl ⟨rfl, .inl (by simp)⟩
  · cases h
    simp at hk
    subst hk
    refine .inl ⟨rfl, .inr ?_⟩
    by_cases h0 : cap = 0
    · exact ⟨x, cap - 0, by simp [h0], by omega⟩
    · exact ⟨x.add 0, cap - 0, by simp [h0], by omega⟩
  · cases h
    by_cases h0 : cap = k
    · have hl : bs.length = k := by omega
      refine .inl ⟨List.drop_of_length_le (by omega), .inr ⟨⟨b, off, none⟩, cap - k, ?_, by omega⟩⟩
      rw [if_pos h0, hl]
      simp
    · have hl : (bs.drop k).length = bs.length - k := by rw [List.length_drop]
      refine .inr ⟨b, off + k, cap - k, ?_, by omega, by omega, fun j hj => ?_⟩
      · rw [if_neg h0, hl]
        simp [addO]
      · rw [hl] at hj
        rw [Nat.add_assoc, hc (k + j) (by omega)]
        simp
end Bw
end Go.Proofs.YtfmkkjnmadaplaaDoor

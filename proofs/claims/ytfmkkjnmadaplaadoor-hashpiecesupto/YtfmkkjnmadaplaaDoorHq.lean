/- Two words of bytes are one of twice the width. Nothing of the program. -/
import Derived.Test.YtfmkkjnmadaplaaDoorHp
namespace Go.Proofs.YtfmkkjnmadaplaaDoor
namespace Hs

theorem beB_split (s x : Nat) : beB (2 * s) x = beB s (x / 2 ^ (8 * s)) ++ beB s (x % 2 ^ (8 * s)) := by
  apply List.ext_getElem
  · simp [beB_len]; omega
  · intro i h1 h2
    rw [beB_len] at h1
    rcases Nat.lt_or_ge i s with hi | hi
    · rw [List.getElem_append_left (by rw [beB_len]; exact hi)]
      simp only [beB, List.getElem_map, List.getElem_range]
      rw [Nat.div_div_eq_div_mul, ← Nat.pow_add]
      congr 4
      omega
    · rw [List.getElem_append_right (by rw [beB_len]; exact hi)]
      simp only [beB, List.getElem_map, List.getElem_range, List.length_map, List.length_range]
      obtain ⟨j, rfl⟩ : ∃ j, i = s + j := ⟨i - s, by omega⟩
      have hj : j < s := by omega
      have e1 : 2 * s - 1 - (s + j) = s - 1 - j := by omega
      have e2 : s + j - s = j := by omega
      have e3 : 8 * s = 8 * (s - 1 - j) + 8 * (j + 1) := by omega
      have e4 : (256 : Nat) ∣ 2 ^ (8 * (j + 1)) := ⟨2 ^ (8 * j), by rw [show 8 * (j + 1) = 8 + 8 * j by omega, Nat.pow_add]⟩
      rw [e1, e2]
      conv => rhs; rw [e3, Nat.pow_add, Nat.mod_mul_right_div_self, Nat.mod_mod_of_dvd _ e4]
end Hs
end Go.Proofs.YtfmkkjnmadaplaaDoor

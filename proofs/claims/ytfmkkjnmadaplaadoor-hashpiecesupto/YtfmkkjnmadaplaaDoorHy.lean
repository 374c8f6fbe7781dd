/- The digest as the reference reckons it: a text filled up as a whole. Plain mathematics. -/
import Derived.Test.YtfmkkjnmadaplaaDoorHr
import Derived.Test.YtfmkkjnmadaplaaDoorHq
namespace Go.Proofs.YtfmkkjnmadaplaaDoor
namespace Hs

theorem zs_rest (K : Kd) (n : Nat) : zs K (n - n / B K * B K) = zs K n := by
  unfold zs
  have h : (n - n / B K * B K) % B K = n % B K := by
    have h1 : n - n / B K * B K = n % B K := by
      have := Nat.div_add_mod n (B K)
      rw [Nat.mul_comm] at this
      omega
    rw [h1, Nat.mod_mod]
  rw [h]
/-- The digest of a text, filled up as a whole. -/
theorem sum_full (K : Kd) (bs : List UInt8) (hB : 0 < B K) : sum K bs = out K (blks K ((filled K bs bs.length).length / B K) (first K) (filled K bs bs.length)) := by
  have hle : bs.length / B K * B K ≤ bs.length := Nat.div_mul_le_self _ _
  have hrl : (bs.drop (bs.length / B K * B K)).length = bs.length - bs.length / B K * B K := List.length_drop
  have hz : zs K (bs.drop (bs.length / B K * B K)).length = zs K bs.length := by rw [hrl, zs_rest]
  have hf : filled K bs bs.length = bs ++ (128 :: List.replicate (zs K bs.length) 0 ++ beB (2 * K.sz) (8 * bs.length)) := by
    unfold filled
    rw [List.append_assoc]
  have hr : filled K (bs.drop (bs.length / B K * B K)) bs.length = bs.drop (bs.length / B K * B K) ++ (128 :: List.replicate (zs K bs.length) 0 ++ beB (2 * K.sz) (8 * bs.length)) := by
    unfold filled
    rw [hz, List.append_assoc]
  show out K (blks K ((filled K (bs.drop (bs.length / B K * B K)) bs.length).length / B K) (blks K (bs.length / B K) (first K) bs) (filled K (bs.drop (bs.length / B K * B K)) bs.length)) = _
  rw [hr, hf]
  have := more_blks K (first K) bs (128 :: List.replicate (zs K bs.length) 0 ++ beB (2 * K.sz) (8 * bs.length)) hB
  rw [this]
theorem be_step (bs : List UInt8) (j : Nat) (h : j < bs.length) : be (bs.take (j + 1)) = 256 * be (bs.take j) + bs[j].toNat := by
  rw [List.take_succ_eq_append_getElem h, be_snoc, Nat.mul_comm]
theorem be_take_lt (bs : List UInt8) (j : Nat) : be (bs.take j) < 256 ^ j := by
  have h := be_lt (bs.take j)
  have h2 : (bs.take j).length ≤ j := by rw [List.length_take]; omega
  exact Nat.lt_of_lt_of_le h (Nat.pow_le_pow_right (by decide) h2)
/-- The words of a text of whole blocks, from its k-th block on. -/
theorem word_at (K : Kd) (F : List UInt8) (k i : Nat) (hi : i < 16) : wordAt K ((F.drop (k * B K)).take (B K)) i = be ((F.drop (k * B K + i * K.sz)).take K.sz) := by
  unfold wordAt
  rw [List.drop_take, List.take_take, List.drop_drop, Nat.min_eq_left]
  unfold B
  have : i * K.sz + K.sz ≤ 16 * K.sz := by rw [← Nat.succ_mul]; exact Nat.mul_le_mul_right _ (by omega)
  omega
theorem beB_take_succ (n x k : Nat) (hk : k < n) : (beB n x).take (k + 1) = (beB n x).take k ++ [(x / 2 ^ (8 * (n - 1 - k)) % 256).toUInt8] := by
  rw [List.take_succ_eq_append_getElem (by rw [beB_len]; exact hk)]
  congr 2
  simp [beB]
end Hs
end Go.Proofs.YtfmkkjnmadaplaaDoor

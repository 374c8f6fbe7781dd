/- A text taken behind a rest: plain mathematics. Nothing of the program. -/
import Derived.Test.YtfmkkjnmadaplaaDoorHp
namespace Go.Proofs.YtfmkkjnmadaplaaDoor
namespace Hs

theorem join_len (K : Kd) (hB : 0 < B K) (r bs : List UInt8) (n : Nat) (hn : r.length + n = B K) (h2 : n ≤ bs.length) : (r ++ bs).length / B K = (bs.drop n).length / B K + 1 := by
  have : (r ++ bs).length = B K + (bs.drop n).length := by
    rw [List.length_append, List.length_drop]
    omega
  rw [this, Nat.add_div_left _ hB]
theorem join_drop (K : Kd) (r bs : List UInt8) (n : Nat) (hn : r.length + n = B K) : (r ++ bs).drop (B K) = bs.drop n := by
  rw [List.drop_append, List.drop_of_length_le (by omega), List.nil_append]
  congr 1
  omega
theorem join_take (K : Kd) (r bs : List UInt8) (n : Nat) (hn : r.length + n = B K) : (r ++ bs).take (B K) = r ++ bs.take n := by
  rw [List.take_append, List.take_of_length_le (by omega)]
  congr 2
  omega
theorem join_blks (K : Kd) (hB : 0 < B K) (H : H8) (r bs : List UInt8) (n : Nat) (hn : r.length + n = B K) (h2 : n ≤ bs.length) :
    blks K ((r ++ bs).length / B K) H (r ++ bs) = blks K ((bs.drop n).length / B K) (blk K H (r ++ bs.take n)) (bs.drop n) := by
  rw [join_len K hB r bs n hn h2]
  show blks K _ (blk K H ((r ++ bs).take (B K))) ((r ++ bs).drop (B K)) = _
  rw [join_take K r bs n hn, join_drop K r bs n hn]
theorem join_rest (K : Kd) (hB : 0 < B K) (r bs : List UInt8) (n : Nat) (hn : r.length + n = B K) (h2 : n ≤ bs.length) :
    (r ++ bs).drop ((r ++ bs).length / B K * B K) = (bs.drop n).drop ((bs.drop n).length / B K * B K) := by
  rw [join_len K hB r bs n hn h2, Nat.succ_mul, Nat.add_comm, ← List.drop_drop, join_drop K r bs n hn]
/-- What is taken behind a text of which the whole blocks were taken. -/
theorem more_blks (K : Kd) (H : H8) (T bs : List UInt8) (hB : 0 < B K) :
    blks K ((T.drop (T.length / B K * B K) ++ bs).length / B K) (blks K (T.length / B K) H T) (T.drop (T.length / B K * B K) ++ bs) = blks K ((T ++ bs).length / B K) H (T ++ bs) := by
  have hle : T.length / B K * B K ≤ T.length := Nat.div_mul_le_self _ _
  have hl : (T ++ bs).length / B K = T.length / B K + (T.drop (T.length / B K * B K) ++ bs).length / B K := by
    have : (T ++ bs).length = (T.drop (T.length / B K * B K) ++ bs).length + B K * (T.length / B K) := by
      rw [List.length_append, List.length_append, List.length_drop, Nat.mul_comm (B K)]
      omega
    rw [this, Nat.add_mul_div_left _ _ hB, Nat.add_comm]
  have hd : (T ++ bs).drop (T.length / B K * B K) = T.drop (T.length / B K * B K) ++ bs := List.drop_append_of_le_length hle
  rw [hl, blks_add, hd, blks_app K _ _ _ _ hle]
theorem more_rest (K : Kd) (T bs : List UInt8) (hB : 0 < B K) :
    (T.drop (T.length / B K * B K) ++ bs).drop ((T.drop (T.length / B K * B K) ++ bs).length / B K * B K) = (T ++ bs).drop ((T ++ bs).length / B K * B K) := by
  have hle : T.length / B K * B K ≤ T.length := Nat.div_mul_le_self _ _
  have hl : (T ++ bs).length / B K = T.length / B K + (T.drop (T.length / B K * B K) ++ bs).length / B K := by
    have : (T ++ bs).length = (T.drop (T.length / B K * B K) ++ bs).length + B K * (T.length / B K) := by
      rw [List.length_append, List.length_append, List.length_drop, Nat.mul_comm (B K)]
      omega
    rw [this, Nat.add_mul_div_left _ _ hB, Nat.add_comm]
  have hd : (T ++ bs).drop (T.length / B K * B K) = T.drop (T.length / B K * B K) ++ bs := List.drop_append_of_le_length hle
  rw [hl, Nat.add_mul, ← List.drop_drop, hd]
end Hs
end Go.Proofs.YtfmkkjnmadaplaaDoor

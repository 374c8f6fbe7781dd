/- The product of whole numbers, word by word: plain mathematics, no program. -/
import Derived.Test.YtgdekigdbbldoaaFh
namespace Go.Proofs.Ytgdekigdbbldoaa
open Go.RowKit
namespace Fd

def upd (M : Nat → Nat) (k v : Nat) : Nat → Nat := fun j => if j = k then v else M j
/-- Some steps of a row: the words and what goes over. -/
def inn (x : Nat) (b : Nat → Nat) (i : Nat) (M : Nat → Nat) : Nat → (Nat → Nat) × Nat
  | 0 => (M, 0)
  | j + 1 => (upd (inn x b i M j).1 (i + j) ((x * b j + (inn x b i M j).1 (i + j) + (inn x b i M j).2) % 18446744073709551616), (x * b j + (inn x b i M j).1 (i + j) + (inn x b i M j).2) / 18446744073709551616)
def row (x : Nat) (b : Nat → Nat) (i : Nat) (M : Nat → Nat) : Nat → Nat := upd (inn x b i M 4).1 (i + 4) (inn x b i M 4).2
def rows (a b : Nat → Nat) : Nat → Nat → Nat
  | 0 => fun _ => 0
  | i + 1 => row (a i) b i (rows a b i)
theorem upd_lt {M : Nat → Nat} {k v : Nat} (hM : ∀ j, M j < 18446744073709551616) (hv : v < 18446744073709551616) : ∀ j, upd M k v j < 18446744073709551616 := fun j => by
  unfold upd
  split
  · exact hv
  · exact hM j
theorem inn_lt {x : Nat} {b M : Nat → Nat} {i : Nat} (hx : x < 18446744073709551616) (hb : ∀ j, b j < 18446744073709551616) (hM : ∀ j, M j < 18446744073709551616) : ∀ j, (∀ k, (inn x b i M j).1 k < 18446744073709551616) ∧ (inn x b i M j).2 < 18446744073709551616
  | 0 => ⟨hM, show 0 < _ by decide⟩
  | j + 1 => by
    obtain ⟨h1, h2⟩ := inn_lt (i := i) hx hb hM j
    have h3 := mul_le x (b j) hx (hb j)
    have h4 := h1 (i + j)
    refine ⟨upd_lt h1 (Nat.mod_lt _ (by decide)), ?_⟩
    show (x * b j + (inn x b i M j).1 (i + j) + (inn x b i M j).2) / 18446744073709551616 < _
    omega
theorem row_lt {x : Nat} {b M : Nat → Nat} {i : Nat} (hx : x < 18446744073709551616) (hb : ∀ j, b j < 18446744073709551616) (hM : ∀ j, M j < 18446744073709551616) : ∀ j, row x b i M j < 18446744073709551616 :=
  upd_lt (inn_lt hx hb hM 4).1 (inn_lt hx hb hM 4).2
theorem rows_lt {a b : Nat → Nat} (ha : ∀ j, a j < 18446744073709551616) (hb : ∀ j, b j < 18446744073709551616) : ∀ i j, rows a b i j < 18446744073709551616
  | 0, _ => by simp [rows]
  | i + 1, j => row_lt (ha i) hb (rows_lt ha hb i) j
def val (M : Nat → Nat) : Nat := mk (M 0) (M 1) (M 2) (M 3) + 115792089237316195423570985008687907853269984665640564039457584007913129639936 * mk (M 4) (M 5) (M 6) (M 7)
/-- One row, its words as letters. -/
theorem row_sum (p0 p1 p2 p3 m0 m1 m2 m3 r0 r1 r2 r3 r4 : Nat) (h0 : r0 = (p0 + m0 + 0) % 18446744073709551616) (c1 c2 c3 : Nat) (k1 : c1 = (p0 + m0 + 0) / 18446744073709551616) (h1 : r1 = (p1 + m1 + c1) % 18446744073709551616) (k2 : c2 = (p1 + m1 + c1) / 18446744073709551616) (h2 : r2 = (p2 + m2 + c2) % 18446744073709551616) (k3 : c3 = (p2 + m2 + c2) / 18446744073709551616) (h3 : r3 = (p3 + m3 + c3) % 18446744073709551616) (h4 : r4 = (p3 + m3 + c3) / 18446744073709551616) :
    mk r0 r1 r2 r3 + 115792089237316195423570985008687907853269984665640564039457584007913129639936 * r4 = mk m0 m1 m2 m3 + mk p0 p1 p2 p3 := by
  unfold mk
  omega
theorem row0 (x : Nat) (b M : Nat → Nat) (z : M 4 = 0) : val (row x b 0 M) = val M + mk (x * b 0) (x * b 1) (x * b 2) (x * b 3) := by
  have h := row_sum (x * b 0) (x * b 1) (x * b 2) (x * b 3) (M 0) (M 1) (M 2) (M 3) (row x b 0 M 0) (row x b 0 M 1) (row x b 0 M 2) (row x b 0 M 3) (row x b 0 M 4) rfl _ _ _ rfl rfl rfl rfl rfl rfl rfl
  have e5 : row x b 0 M 5 = M 5 := rfl
  have e6 : row x b 0 M 6 = M 6 := rfl
  have e7 : row x b 0 M 7 = M 7 := rfl
  unfold val
  rw [e5, e6, e7]
  unfold mk at *
  omega
theorem row1 (x : Nat) (b M : Nat → Nat) (z : M 5 = 0) : val (row x b 1 M) = val M + 18446744073709551616 * mk (x * b 0) (x * b 1) (x * b 2) (x * b 3) := by
  have h := row_sum (x * b 0) (x * b 1) (x * b 2) (x * b 3) (M 1) (M 2) (M 3) (M 4) (row x b 1 M 1) (row x b 1 M 2) (row x b 1 M 3) (row x b 1 M 4) (row x b 1 M 5) rfl _ _ _ rfl rfl rfl rfl rfl rfl rfl
  have e5 : row x b 1 M 0 = M 0 := rfl
  have e6 : row x b 1 M 6 = M 6 := rfl
  have e7 : row x b 1 M 7 = M 7 := rfl
  unfold val
  rw [e5, e6, e7]
  unfold mk at *
  omega
theorem row2 (x : Nat) (b M : Nat → Nat) (z : M 6 = 0) : val (row x b 2 M) = val M + 340282366920938463463374607431768211456 * mk (x * b 0) (x * b 1) (x * b 2) (x * b 3) := by
  have h := row_sum (x * b 0) (x * b 1) (x * b 2) (x * b 3) (M 2) (M 3) (M 4) (M 5) (row x b 2 M 2) (row x b 2 M 3) (row x b 2 M 4) (row x b 2 M 5) (row x b 2 M 6) rfl _ _ _ rfl rfl rfl rfl rfl rfl rfl
  have e5 : row x b 2 M 0 = M 0 := rfl
  have e6 : row x b 2 M 1 = M 1 := rfl
  have e7 : row x b 2 M 7 = M 7 := rfl
  unfold val
  rw [e5, e6, e7]
  unfold mk at *
  omega
theorem row3 (x : Nat) (b M : Nat → Nat) (z : M 7 = 0) : val (row x b 3 M) = val M + 6277101735386680763835789423207666416102355444464034512896 * mk (x * b 0) (x * b 1) (x * b 2) (x * b 3) := by
  have h := row_sum (x * b 0) (x * b 1) (x * b 2) (x * b 3) (M 3) (M 4) (M 5) (M 6) (row x b 3 M 3) (row x b 3 M 4) (row x b 3 M 5) (row x b 3 M 6) (row x b 3 M 7) rfl _ _ _ rfl rfl rfl rfl rfl rfl rfl
  have e5 : row x b 3 M 0 = M 0 := rfl
  have e6 : row x b 3 M 1 = M 1 := rfl
  have e7 : row x b 3 M 2 = M 2 := rfl
  unfold val
  rw [e5, e6, e7]
  unfold mk at *
  omega
theorem mul_mk1 (x b0 b1 b2 b3 : Nat) : x * mk b0 b1 b2 b3 = mk (x * b0) (x * b1) (x * b2) (x * b3) := by
  unfold mk
  rw [Nat.mul_add, Nat.mul_add, Nat.mul_add, Nat.mul_left_comm x _ b1, Nat.mul_left_comm x _ b2, Nat.mul_left_comm x _ b3]
theorem rows_val (a b : Nat → Nat) : val (rows a b 4) = mk (a 0) (a 1) (a 2) (a 3) * mk (b 0) (b 1) (b 2) (b 3) := by
  have h0 := row0 (a 0) b (rows a b 0) rfl
  have h1 := row1 (a 1) b (rows a b 1) rfl
  have h2 := row2 (a 2) b (rows a b 2) rfl
  have h3 := row3 (a 3) b (rows a b 3) rfl
  have z : val (rows a b 0) = 0 := rfl
  rw [← mul_mk1] at h0 h1 h2 h3
  have h0' : val (rows a b 1) = _ := h0
  have h1' : val (rows a b 2) = _ := h1
  have h2' : val (rows a b 3) = _ := h2
  have h3' : val (rows a b 4) = _ := h3
  obtain ⟨Y, hY⟩ : ∃ Y, mk (b 0) (b 1) (b 2) (b 3) = Y := ⟨_, rfl⟩
  rw [hY] at h0' h1' h2' h3' ⊢
  rw [h3', h2', h1', h0', z]
  conv => rhs; unfold mk
  rw [Nat.add_mul, Nat.add_mul, Nat.add_mul, Nat.mul_assoc, Nat.mul_assoc, Nat.mul_assoc, Nat.zero_add]
theorem ev_words (M : Nat → Nat) (hM : ∀ j, M j < 18446744073709551616) : ev (val M) = .agg (e8 (M 0) (M 1) (M 2) (M 3) (M 4) (M 5) (M 6) (M 7)).toArray := by
  have q := mk_lt _ _ _ _ (hM 0) (hM 1) (hM 2) (hM 3)
  have hd : val M / 115792089237316195423570985008687907853269984665640564039457584007913129639936 = mk (M 4) (M 5) (M 6) (M 7) := by
    unfold val
    omega
  obtain ⟨h4, h5, h6, h7⟩ := l_mk _ _ _ _ (hM 4) (hM 5) (hM 6) (hM 7)
  have e0 : l0 (val M) = M 0 ∧ l1 (val M) = M 1 ∧ l2 (val M) = M 2 ∧ l3 (val M) = M 3 := by
    have m0 := hM 0
    have m1 := hM 1
    have m2 := hM 2
    have m3 := hM 3
    unfold val mk l0 l1 l2 l3
    omega
  unfold ev
  rw [hd, h4, h5, h6, h7, e0.1, e0.2.1, e0.2.2.1, e0.2.2.2]
  rfl
end Fd
end Go.Proofs.Ytgdekigdbbldoaa

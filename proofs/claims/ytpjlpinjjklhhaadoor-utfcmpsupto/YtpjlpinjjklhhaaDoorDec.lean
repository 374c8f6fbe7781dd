/- What utf8.DecodeRuneInString answers at a text at whose head a character stands whole: contracts, by walking its text over the two tables. -/
import Derived.Test.YtpjlpinjjklhhaaDoorRefD
import Derived.Laws.BitsLemmas
import Derived.Laws.Strings3
import Derived.Lib.DecodeNEq
namespace Go.Proofs.YtpjlpinjjklhhaaDoor
open Go.RowKit
namespace DecW

set_option maxHeartbeats 4000000 in
set_option maxRecDepth 1000000 in
theorem slow_2 (t : ByteArray) (w : World) (x0 x1 : Nat) (hn : 1 < t.size) (e0 : (t[0]'(by omega)).toNat = x0) (e1 : (t[1]'(by omega)).toNat = x1)
    (hc0 : w.cell? ⟨1, x0, none⟩ = some (.int .u8 2)) (ha0 : w.cell? ⟨2, 0, none⟩ = some (.int .u8 128)) (ha1 : w.cell? ⟨2, 1, none⟩ = some (.int .u8 191))
    (h0 : 194 ≤ x0 ∧ x0 < 224) (h1 : 128 ≤ x1) (h1' : x1 ≤ 191) :
    Calls Tryd.prog 46 #[.string t] w fun e w' => e = .returned (.tuple #[.int .i32 ((x0 % 32 * 64 + x1 % 64 : Nat) : Int), .int .i64 2]) ∧ Below w.heap.size w w' := by
  have hz : ¬ ((t.size : Int) < 1) := by omega
  have hz0 : (0 : Int) < (t.size : Int) := by omega
  have hz1 : (1 : Int) < (t.size : Int) := by omega
  have hzs : ¬ ((t.size : Int) < 2) := by omega
  go_enter Tryd.func46, Tryd.ntmps46
  go_wp2
  go_ret2
  refine ⟨?_, (Below.refl _ _).alloc (Nat.le_refl _) _⟩
  first | rfl | (simp only [Int.natCast_add, Int.natCast_mul, Int.natCast_emod, Int.natCast_ofNat]; rfl)
set_option maxHeartbeats 4000000 in
set_option maxRecDepth 1000000 in
theorem slow_E0 (t : ByteArray) (w : World) (x0 x1 x2 : Nat) (hn : 2 < t.size) (e0 : (t[0]'(by omega)).toNat = x0) (e1 : (t[1]'(by omega)).toNat = x1) (e2 : (t[2]'(by omega)).toNat = x2)
    (hc0 : w.cell? ⟨1, x0, none⟩ = some (.int .u8 19)) (ha0 : w.cell? ⟨2, 2, none⟩ = some (.int .u8 160)) (ha1 : w.cell? ⟨2, 3, none⟩ = some (.int .u8 191))
    (h0 : x0 = 224) (h1 : 160 ≤ x1) (h1' : x1 ≤ 191) (h2 : 128 ≤ x2) (h2' : x2 ≤ 191) :
    Calls Tryd.prog 46 #[.string t] w fun e w' => e = .returned (.tuple #[.int .i32 ((x0 % 16 * 4096 + x1 % 64 * 64 + x2 % 64 : Nat) : Int), .int .i64 3]) ∧ Below w.heap.size w w' := by
  have hz : ¬ ((t.size : Int) < 1) := by omega
  subst h0
  have hz0 : (0 : Int) < (t.size : Int) := by omega
  have hz1 : (1 : Int) < (t.size : Int) := by omega
  have hz2 : (2 : Int) < (t.size : Int) := by omega
  have hzs : ¬ ((t.size : Int) < 3) := by omega
  go_enter Tryd.func46, Tryd.ntmps46
  go_wp2
  go_ret2
  refine ⟨?_, (Below.refl _ _).alloc (Nat.le_refl _) _⟩
  first | rfl | (simp only [Int.natCast_add, Int.natCast_mul, Int.natCast_emod, Int.natCast_ofNat]; rfl)
set_option maxHeartbeats 4000000 in
set_option maxRecDepth 1000000 in
theorem slow_E1 (t : ByteArray) (w : World) (x0 x1 x2 : Nat) (hn : 2 < t.size) (e0 : (t[0]'(by omega)).toNat = x0) (e1 : (t[1]'(by omega)).toNat = x1) (e2 : (t[2]'(by omega)).toNat = x2)
    (hc0 : w.cell? ⟨1, x0, none⟩ = some (.int .u8 3)) (ha0 : w.cell? ⟨2, 0, none⟩ = some (.int .u8 128)) (ha1 : w.cell? ⟨2, 1, none⟩ = some (.int .u8 191))
    (h0 : (225 ≤ x0 ∧ x0 < 237) ∨ (238 ≤ x0 ∧ x0 < 240)) (h1 : 128 ≤ x1) (h1' : x1 ≤ 191) (h2 : 128 ≤ x2) (h2' : x2 ≤ 191) :
    Calls Tryd.prog 46 #[.string t] w fun e w' => e = .returned (.tuple #[.int .i32 ((x0 % 16 * 4096 + x1 % 64 * 64 + x2 % 64 : Nat) : Int), .int .i64 3]) ∧ Below w.heap.size w w' := by
  have hz : ¬ ((t.size : Int) < 1) := by omega
  have hz0 : (0 : Int) < (t.size : Int) := by omega
  have hz1 : (1 : Int) < (t.size : Int) := by omega
  have hz2 : (2 : Int) < (t.size : Int) := by omega
  have hzs : ¬ ((t.size : Int) < 3) := by omega
  go_enter Tryd.func46, Tryd.ntmps46
  go_wp2
  go_ret2
  refine ⟨?_, (Below.refl _ _).alloc (Nat.le_refl _) _⟩
  first | rfl | (simp only [Int.natCast_add, Int.natCast_mul, Int.natCast_emod, Int.natCast_ofNat]; rfl)
set_option maxHeartbeats 4000000 in
set_option maxRecDepth 1000000 in
theorem slow_ED (t : ByteArray) (w : World) (x0 x1 x2 : Nat) (hn : 2 < t.size) (e0 : (t[0]'(by omega)).toNat = x0) (e1 : (t[1]'(by omega)).toNat = x1) (e2 : (t[2]'(by omega)).toNat = x2)
    (hc0 : w.cell? ⟨1, x0, none⟩ = some (.int .u8 35)) (ha0 : w.cell? ⟨2, 4, none⟩ = some (.int .u8 128)) (ha1 : w.cell? ⟨2, 5, none⟩ = some (.int .u8 159))
    (h0 : x0 = 237) (h1 : 128 ≤ x1) (h1' : x1 ≤ 159) (h2 : 128 ≤ x2) (h2' : x2 ≤ 191) :
    Calls Tryd.prog 46 #[.string t] w fun e w' => e = .returned (.tuple #[.int .i32 ((x0 % 16 * 4096 + x1 % 64 * 64 + x2 % 64 : Nat) : Int), .int .i64 3]) ∧ Below w.heap.size w w' := by
  have hz : ¬ ((t.size : Int) < 1) := by omega
  subst h0
  have hz0 : (0 : Int) < (t.size : Int) := by omega
  have hz1 : (1 : Int) < (t.size : Int) := by omega
  have hz2 : (2 : Int) < (t.size : Int) := by omega
  have hzs : ¬ ((t.size : Int) < 3) := by omega
  go_enter Tryd.func46, Tryd.ntmps46
  go_wp2
  go_ret2
  refine ⟨?_, (Below.refl _ _).alloc (Nat.le_refl _) _⟩
  first | rfl | (simp only [Int.natCast_add, Int.natCast_mul, Int.natCast_emod, Int.natCast_ofNat]; rfl)
set_option maxHeartbeats 4000000 in
set_option maxRecDepth 1000000 in
theorem slow_F0 (t : ByteArray) (w : World) (x0 x1 x2 x3 : Nat) (hn : 3 < t.size) (e0 : (t[0]'(by omega)).toNat = x0) (e1 : (t[1]'(by omega)).toNat = x1) (e2 : (t[2]'(by omega)).toNat = x2) (e3 : (t[3]'(by omega)).toNat = x3)
    (hc0 : w.cell? ⟨1, x0, none⟩ = some (.int .u8 52)) (ha0 : w.cell? ⟨2, 6, none⟩ = some (.int .u8 144)) (ha1 : w.cell? ⟨2, 7, none⟩ = some (.int .u8 191))
    (h0 : x0 = 240) (h1 : 144 ≤ x1) (h1' : x1 ≤ 191) (h2 : 128 ≤ x2) (h2' : x2 ≤ 191) (h3 : 128 ≤ x3) (h3' : x3 ≤ 191) :
    Calls Tryd.prog 46 #[.string t] w fun e w' => e = .returned (.tuple #[.int .i32 ((x0 % 8 * 262144 + x1 % 64 * 4096 + x2 % 64 * 64 + x3 % 64 : Nat) : Int), .int .i64 4]) ∧ Below w.heap.size w w' := by
  have hz : ¬ ((t.size : Int) < 1) := by omega
  subst h0
  have hz0 : (0 : Int) < (t.size : Int) := by omega
  have hz1 : (1 : Int) < (t.size : Int) := by omega
  have hz2 : (2 : Int) < (t.size : Int) := by omega
  have hz3 : (3 : Int) < (t.size : Int) := by omega
  have hzs : ¬ ((t.size : Int) < 4) := by omega
  go_enter Tryd.func46, Tryd.ntmps46
  go_wp2
  go_ret2
  refine ⟨?_, (Below.refl _ _).alloc (Nat.le_refl _) _⟩
  first | rfl | (simp only [Int.natCast_add, Int.natCast_mul, Int.natCast_emod, Int.natCast_ofNat]; rfl)
set_option maxHeartbeats 4000000 in
set_option maxRecDepth 1000000 in
theorem slow_F1 (t : ByteArray) (w : World) (x0 x1 x2 x3 : Nat) (hn : 3 < t.size) (e0 : (t[0]'(by omega)).toNat = x0) (e1 : (t[1]'(by omega)).toNat = x1) (e2 : (t[2]'(by omega)).toNat = x2) (e3 : (t[3]'(by omega)).toNat = x3)
    (hc0 : w.cell? ⟨1, x0, none⟩ = some (.int .u8 4)) (ha0 : w.cell? ⟨2, 0, none⟩ = some (.int .u8 128)) (ha1 : w.cell? ⟨2, 1, none⟩ = some (.int .u8 191))
    (h0 : 241 ≤ x0 ∧ x0 < 244) (h1 : 128 ≤ x1) (h1' : x1 ≤ 191) (h2 : 128 ≤ x2) (h2' : x2 ≤ 191) (h3 : 128 ≤ x3) (h3' : x3 ≤ 191) :
    Calls Tryd.prog 46 #[.string t] w fun e w' => e = .returned (.tuple #[.int .i32 ((x0 % 8 * 262144 + x1 % 64 * 4096 + x2 % 64 * 64 + x3 % 64 : Nat) : Int), .int .i64 4]) ∧ Below w.heap.size w w' := by
  have hz : ¬ ((t.size : Int) < 1) := by omega
  have hz0 : (0 : Int) < (t.size : Int) := by omega
  have hz1 : (1 : Int) < (t.size : Int) := by omega
  have hz2 : (2 : Int) < (t.size : Int) := by omega
  have hz3 : (3 : Int) < (t.size : Int) := by omega
  have hzs : ¬ ((t.size : Int) < 4) := by omega
  go_enter Tryd.func46, Tryd.ntmps46
  go_wp2
  go_ret2
  refine ⟨?_, (Below.refl _ _).alloc (Nat.le_refl _) _⟩
  first | rfl | (simp only [Int.natCast_add, Int.natCast_mul, Int.natCast_emod, Int.natCast_ofNat]; rfl)
set_option maxHeartbeats 4000000 in
set_option maxRecDepth 1000000 in
theorem slow_F4 (t : ByteArray) (w : World) (x0 x1 x2 x3 : Nat) (hn : 3 < t.size) (e0 : (t[0]'(by omega)).toNat = x0) (e1 : (t[1]'(by omega)).toNat = x1) (e2 : (t[2]'(by omega)).toNat = x2) (e3 : (t[3]'(by omega)).toNat = x3)
    (hc0 : w.cell? ⟨1, x0, none⟩ = some (.int .u8 68)) (ha0 : w.cell? ⟨2, 8, none⟩ = some (.int .u8 128)) (ha1 : w.cell? ⟨2, 9, none⟩ = some (.int .u8 143))
    (h0 : x0 = 244) (h1 : 128 ≤ x1) (h1' : x1 ≤ 143) (h2 : 128 ≤ x2) (h2' : x2 ≤ 191) (h3 : 128 ≤ x3) (h3' : x3 ≤ 191) :
    Calls Tryd.prog 46 #[.string t] w fun e w' => e = .returned (.tuple #[.int .i32 ((x0 % 8 * 262144 + x1 % 64 * 4096 + x2 % 64 * 64 + x3 % 64 : Nat) : Int), .int .i64 4]) ∧ Below w.heap.size w w' := by
  have hz : ¬ ((t.size : Int) < 1) := by omega
  subst h0
  have hz0 : (0 : Int) < (t.size : Int) := by omega
  have hz1 : (1 : Int) < (t.size : Int) := by omega
  have hz2 : (2 : Int) < (t.size : Int) := by omega
  have hz3 : (3 : Int) < (t.size : Int) := by omega
  have hzs : ¬ ((t.size : Int) < 4) := by omega
  go_enter Tryd.func46, Tryd.ntmps46
  go_wp2
  go_ret2
  refine ⟨?_, (Below.refl _ _).alloc (Nat.le_refl _) _⟩
  first | rfl | (simp only [Int.natCast_add, Int.natCast_mul, Int.natCast_emod, Int.natCast_ofNat]; rfl)
end DecW
end Go.Proofs.YtpjlpinjjklhhaaDoor

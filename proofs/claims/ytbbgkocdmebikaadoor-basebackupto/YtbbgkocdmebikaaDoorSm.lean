/- What the small functions of base and of the reference do: contracts, by walking their text. -/
import Derived.Test.YtbbgkocdmebikaaDoorWr
import Derived.BigCall
import Derived.Laws.BitsAllLaws
namespace Go.Proofs.YtbbgkocdmebikaaDoor
open Go.RowKit
namespace Bw
open Bs

theorem abcOf_any (u : Bool) (w : World) : Calls Tryd.prog 13 #[.bool u] w fun e w' => e = .returned (.string (abc u)) ∧ w' = w := by
  cases u
  · go_enter Tryd.func13, Tryd.ntmps13
    go_wp2
    go_ret
    exact ⟨rfl, rfl⟩
  · go_enter Tryd.func13, Tryd.ntmps13
    go_wp2
    go_ret
    exact ⟨rfl, rfl⟩
theorem rabc_any (u : Bool) (w : World) : Calls Tryd.prog 17 #[.bool u] w fun e w' => e = .returned (.string (abc u)) ∧ w' = w := by
  cases u
  · go_enter Tryd.func17, Tryd.ntmps17
    go_wp2
    go_ret
    exact ⟨by first | rfl | kernel_rfl, rfl⟩
  · go_enter Tryd.func17, Tryd.ntmps17
    go_wp2
    go_ret
    exact ⟨by first | rfl | kernel_rfl, rfl⟩
theorem textLen_any (n : Nat) (w : World) (h : n ≤ 1000000000000000) : Calls Tryd.prog 14 #[.int .i64 (n : Int)] w fun e w' => e = .returned (.int .i64 ((n + (n + 2) / 3 : Nat) : Int)) ∧ w' = w := by
  obtain ⟨Q, hQ⟩ : ∃ Q, (n + 2) / 3 = Q := ⟨_, rfl⟩
  have q1 : ((n : Int) + 2) / 3 = (Q : Int) := by omega
  have q2 : Int.tdiv ((n : Int) + 2) 3 = (Q : Int) := by rw [Int.tdiv_eq_ediv_of_nonneg (by omega)]; exact q1
  have hQb : Q ≤ 1000000000000000 := by omega
  rw [hQ]
  clear hQ q1
  go_enter Tryd.func14, Tryd.ntmps14
  go_wp2
  go_ret
  exact ⟨by go_num, rfl⟩
theorem fault_any (n : Int) (w : World) : Calls Tryd.prog 19 #[.int .i64 n] w fun e w' => e = .returned (.iface 50 (.pointer (some ⟨w.heap.size, 0, none⟩))) ∧ w' = w.alloc (.cells #[.int .i64 n, .iface 34 (.int .i64 3)] 55 (0, 0)) := by
  go_enter Tryd.func19, Tryd.ntmps19
  go_wp2
  go_ret
  exact ⟨rfl, rfl⟩
theorem idx28 (s : ByteArray) (c : Nat) (w : World) : Calls Tryd.prog 28 #[.string s, .int .u8 (c : Int)] w fun e w' => e = .returned (.int .i64 (Lib.indexByte s.data.toList (c : Int).toNat.toUInt8)) ∧ w' = w := by
  go_enter Tryd.func28, Tryd.ntmps28
  go_wp2
  rw [run_callFunc_extern Tryd.func35 (by kernel_rfl) (by kernel_rfl) (by kernel_rfl) (e := Extern.BytealgIndexByte.indexByte) (by kernel_rfl), Lib.run_indexByteString]
  simp only [Result.andThen]
  rw [Oper.upon_value]
  go_wp2
  go_ret
  exact ⟨rfl, rfl⟩
theorem idx18 (s : ByteArray) (c : Nat) (w : World) : Calls Tryd.prog 18 #[.string s, .int .u8 (c : Int)] w fun e w' => e = .returned (.int .i64 (Lib.indexByte s.data.toList (c : Int).toNat.toUInt8)) ∧ w' = w := by
  go_enter Tryd.func18, Tryd.ntmps18
  go_wp2_with (go_at_call 28; refine (idx28 s c _).mono ?_; rintro e w1 ⟨rfl, rfl⟩)
  go_ret
  exact ⟨rfl, rfl⟩
theorem wo_any (u : Bool) (c : UInt8) (w : World) : Calls Tryd.prog 18 #[.string (abc u), .int .u8 (c.toNat : Int)] w fun e w' => e = .returned (.int .i64 (wo u c)) ∧ w' = w := by
  have h := idx18 (abc u) c.toNat w
  have e : ((c.toNat : Int).toNat).toUInt8 = c := by simp
  rw [e] at h
  exact h
theorem value_any (u : Bool) (c : UInt8) (w : World) (hc : 0 ≤ wo u c) : Calls Tryd.prog 23 #[.int .u8 (c.toNat : Int), .string (abc u)] w fun e w' => e = .returned (.int .u32 (vl u c : Int)) ∧ w' = w := by
  have e0 : wo u c = (vl u c : Int) := by unfold vl; omega
  have hb := vl_lt u c
  have cw := fun W => wo_any u c W
  rw [e0] at cw
  obtain ⟨V, hV⟩ : ∃ V, vl u c = V := ⟨_, rfl⟩
  rw [hV] at cw hb ⊢
  clear hV e0 hc
  have hw : IntKind.u32.wrap (V : Int) = (V : Int) := by rw [IntKind.wrap_u32']; omega
  go_enter Tryd.func23, Tryd.ntmps23
  go_wp2_with (go_at_call 18; refine (cw _).mono ?_; rintro e w1 ⟨rfl, rfl⟩)
  go_ret
  exact ⟨by first | rfl | rw [hw] | simp [hw], rfl⟩
theorem bytesLen_any (n : Nat) (w : World) (h : n ≤ 1000000000000000) : Calls Tryd.prog 21 #[.int .i64 (n : Int)] w fun e w' => e = .returned (.int .i64 ((n / 4 * 3 + n % 4 * 6 / 8 : Nat) : Int)) ∧ w' = w := by
  obtain ⟨Q, hQ⟩ : ∃ Q, n / 4 = Q := ⟨_, rfl⟩
  obtain ⟨R, hR⟩ : ∃ R, n % 4 = R := ⟨_, rfl⟩
  obtain ⟨S, hS⟩ : ∃ S, R * 6 / 8 = S := ⟨_, rfl⟩
  have q2 : Int.tdiv (n : Int) 4 = (Q : Int) := by rw [Int.tdiv_eq_ediv_of_nonneg (by omega)]; omega
  have r2 : Int.tmod (n : Int) 4 = (R : Int) := by rw [Int.tmod_eq_emod_of_nonneg (by omega)]; omega
  have s2 : Int.tdiv ((R : Int) * 6) 8 = (S : Int) := by rw [Int.tdiv_eq_ediv_of_nonneg (by omega)]; omega
  have q3 : (n : Int) / 4 = (Q : Int) := by omega
  have r3 : (n : Int) % 4 = (R : Int) := by omega
  have s3 : ((R : Int) * 6) / 8 = (S : Int) := by omega
  have hQb : Q ≤ 1000000000000000 := by omega
  have hRb : R < 4 := by omega
  have hSb : S < 4 := by omega
  rw [hQ, hR, hS]
  clear hQ hR hS
  go_enter Tryd.func21, Tryd.ntmps21
  go_wp2
  go_ret
  exact ⟨by go_num, rfl⟩
theorem mask32 (B k : Nat) (hB : B < 4294967296) (hk : k ≤ 24) : bits .and .u32 (B : Int) ((2 ^ k - 1 : Nat) : Int) = ((B % 2 ^ k : Nat) : Int) := by
  have h2 : 2 ^ k ≤ 2 ^ 24 := Nat.pow_le_pow_right (by decide) hk
  rw [u32_and_nat _ _ hB (by omega), Nat.and_two_pow_sub_one_eq_mod]
theorem fill0 (w : World) : Calls Tryd.prog 22 #[.int .u32 0, .int .i64 0] w fun e w' => e = .returned (.int .u32 0) ∧ w' = w := by
  have m : bits .and .u32 0 16777215 = 0 := by kernel_rfl
  go_enter Tryd.func22, Tryd.ntmps22
  go_wp2
  go_ret
  exact ⟨by first | rfl | simp [m], rfl⟩
theorem fill1 (B : Nat) (w : World) (hB : B < 16777216) : Calls Tryd.prog 22 #[.int .u32 (B : Int), .int .i64 1] w fun e w' => e = .returned (.int .u32 ((B % 65536 : Nat) : Int)) ∧ w' = w := by
  have m : bits .and .u32 (B : Int) 65535 = ((B % 65536 : Nat) : Int) := mask32 B 16 (by omega) (by decide)
  obtain ⟨R, hR⟩ : ∃ R, B % 65536 = R := ⟨_, rfl⟩
  rw [hR] at m ⊢
  clear hR
  go_enter Tryd.func22, Tryd.ntmps22
  go_wp2
  go_ret
  exact ⟨by first | rfl | simp [m], rfl⟩
theorem fill2 (B : Nat) (w : World) (hB : B < 16777216) : Calls Tryd.prog 22 #[.int .u32 (B : Int), .int .i64 2] w fun e w' => e = .returned (.int .u32 ((B % 256 : Nat) : Int)) ∧ w' = w := by
  have m : bits .and .u32 (B : Int) 255 = ((B % 256 : Nat) : Int) := mask32 B 8 (by omega) (by decide)
  obtain ⟨R, hR⟩ : ∃ R, B % 256 = R := ⟨_, rfl⟩
  rw [hR] at m ⊢
  clear hR
  go_enter Tryd.func22, Tryd.ntmps22
  go_wp2
  go_ret
  exact ⟨by first | rfl | simp [m], rfl⟩
/-- Bits above and bits below, put together. -/
theorem orAdd (k a b : Nat) (hb : b < 2 ^ k) (h : 2 ^ k * a + b < 4294967296) : bits .or .u32 ((2 ^ k * a : Nat) : Int) (b : Int) = ((2 ^ k * a + b : Nat) : Int) := by
  rw [u32_or_nat _ _ (by omega) (by omega), Nat.two_pow_add_eq_or_of_lt hb]
theorem orAdd' (k a b : Nat) (hb : b < 2 ^ k) (h : 2 ^ k * a + b < 4294967296) : bits .or .u32 (b : Int) ((2 ^ k * a : Nat) : Int) = ((2 ^ k * a + b : Nat) : Int) := by
  rw [u32_or_nat _ _ (by omega) (by omega), Nat.or_comm, Nat.two_pow_add_eq_or_of_lt hb]
theorem or32 (k a b X Z : Nat) (hb : b < 2 ^ k) (hX : X = 2 ^ k * a) (hZ : Z = X + b) (h : Z < 4294967296) : bits .or .u32 (X : Int) (b : Int) = (Z : Int) := by
  subst hZ hX
  exact orAdd k a b hb h
theorem or32' (k a b X Z : Nat) (hb : b < 2 ^ k) (hX : X = 2 ^ k * a) (hZ : Z = X + b) (h : Z < 4294967296) : bits .or .u32 (b : Int) (X : Int) = (Z : Int) := by
  subst hZ hX
  exact orAdd' k a b hb h
/-- What is left over of three bytes. -/
def rest3 : List UInt8 → Nat
  | [a] => 65536 * a.toNat
  | [a, b] => 65536 * a.toNat + 256 * b.toNat
  | _ => 0
theorem rest_nil (a : Option Addr) (cap : Nat) (w : World) : Calls Tryd.prog 16 #[.slice a 0 cap] w fun e w' => e = .returned (.int .u32 0) ∧ w' = w := by
  go_enter Tryd.func16, Tryd.ntmps16
  go_wp2
  go_ret
  exact ⟨rfl, rfl⟩
theorem rest_one (b off cap : Nat) (x : UInt8) (w : World) (h : w.cell? ⟨b, off, none⟩ = some (.int .u8 (x.toNat : Int))) : Calls Tryd.prog 16 #[.slice (some ⟨b, off, none⟩) 1 cap] w fun e w' => e = .returned (.int .u32 (rest3 [x] : Int)) ∧ w' = w := by
  have hx := x.toNat_lt
  obtain ⟨n, hn⟩ : ∃ n, x.toNat = n := ⟨_, rfl⟩
  have e0 : rest3 [x] = 65536 * n := by simp [rest3, hn]
  rw [e0]
  rw [hn] at h hx
  clear hn e0
  obtain ⟨X, hX⟩ : ∃ X, 65536 * n = X := ⟨_, rfl⟩
  have m1 : (n : Int) * 65536 = (X : Int) := by omega
  have m2 : IntKind.u32.wrap (X : Int) = (X : Int) := by rw [IntKind.wrap_u32']; omega
  have m3 : bits .or .u32 0 (X : Int) = (X : Int) := or32' 16 n 0 X X (by decide) (by omega) (by omega) (by omega)
  have m4 : IntKind.u32.wrap (n : Int) = (n : Int) := by rw [IntKind.wrap_u32']; omega
  rw [hX]
  have hXb : X < 16777216 := by omega
  clear hX
  go_enter Tryd.func16, Tryd.ntmps16
  go_wp2
  go_ret
  exact ⟨by first | rfl | simp [m3], rfl⟩
theorem rest_two (b off cap : Nat) (x y : UInt8) (w : World) (h : w.cell? ⟨b, off, none⟩ = some (.int .u8 (x.toNat : Int))) (h1 : w.cell? ⟨b, off + 1, none⟩ = some (.int .u8 (y.toNat : Int))) : Calls Tryd.prog 16 #[.slice (some ⟨b, off, none⟩) 2 cap] w fun e w' => e = .returned (.int .u32 (rest3 [x, y] : Int)) ∧ w' = w := by
  have hx := x.toNat_lt
  have hy := y.toNat_lt
  obtain ⟨n, hn⟩ : ∃ n, x.toNat = n := ⟨_, rfl⟩
  obtain ⟨k, hk⟩ : ∃ k, y.toNat = k := ⟨_, rfl⟩
  have e0 : rest3 [x, y] = 65536 * n + 256 * k := by simp [rest3, hn, hk]
  rw [e0]
  rw [hn] at h hx
  rw [hk] at h1 hy
  clear hn hk e0
  obtain ⟨X, hX⟩ : ∃ X, 65536 * n = X := ⟨_, rfl⟩
  obtain ⟨Y, hY⟩ : ∃ Y, 256 * k = Y := ⟨_, rfl⟩
  obtain ⟨Z, hZ⟩ : ∃ Z, X + Y = Z := ⟨_, rfl⟩
  have m1 : (n : Int) * 65536 = (X : Int) := by omega
  have m2 : IntKind.u32.wrap (X : Int) = (X : Int) := by rw [IntKind.wrap_u32']; omega
  have m5 : (k : Int) * 256 = (Y : Int) := by omega
  have m6 : IntKind.u32.wrap (Y : Int) = (Y : Int) := by rw [IntKind.wrap_u32']; omega
  have m3 : bits .or .u32 (Y : Int) (X : Int) = (Z : Int) := or32' 16 n Y X Z (by omega) (by omega) (by omega) (by omega)
  rw [hX, hY, hZ]
  have hXb : X < 16777216 := by omega
  have hYb : Y < 16777216 := by omega
  clear hX hY hZ
  go_enter Tryd.func16, Tryd.ntmps16
  go_wp2
  go_ret
  exact ⟨by first | rfl | simp [m3], rfl⟩
end Bw
end Go.Proofs.YtbbgkocdmebikaaDoor

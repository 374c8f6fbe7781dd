/- What the reference's At answers at every place of a string: the character that stands there, or none. -/
import Derived.Test.YtehpdklnebognaaDoorRefA
namespace Go.Proofs.YtehpdklnebognaaDoor
open Go.RowKit
namespace RefW

theorem get_lt (s : ByteArray) (k : Nat) (h : k < s.size) : s.get! k = s[k]'h := by
  cases s with
  | mk d => exact getElem!_pos d k h
theorem sz1 {c : Int} (h : c < 128) : sz c = 1 := by unfold sz; rw [if_pos (by omega)]
theorem sz2 {c : Int} (h : 192 ≤ c) (h' : c < 224) : sz c = 2 := by unfold sz; rw [if_neg (by omega), if_pos (by omega)]
theorem sz3 {c : Int} (h : 224 ≤ c) (h' : c < 240) : sz c = 3 := by unfold sz; rw [if_neg (by omega), if_neg (by omega), if_pos (by omega)]
theorem sz4 {c : Int} (h : 240 ≤ c) (h' : c < 248) : sz c = 4 := by unfold sz; rw [if_neg (by omega), if_neg (by omega), if_neg (by omega), if_pos (by omega)]
theorem sz0 {c : Int} (h : (128 ≤ c ∧ c < 192) ∨ 248 ≤ c) : sz c = 0 := by unfold sz; rw [if_neg (by omega), if_neg (by omega), if_neg (by omega), if_neg (by omega)]

set_option maxHeartbeats 4000000 in
set_option maxRecDepth 100000 in
theorem at_1 (s : ByteArray) (pos : Nat) (w : World) (hs : s.size ≤ 140737488351232) (hp : pos < s.size) (x0 : Nat) (e0 : (s[pos]'(by omega)).toNat = x0) (h0 : x0 < 128) :
    Calls Tryd.prog 66 #[.string s, .int .i64 pos] w fun e w' => e = .returned (.tuple #[.int .i64 ((x0 : Int)), .int .i64 1]) ∧ Below w.heap.size w w' := by
  have hz := sz1 (c := (x0 : Int)) (by omega)
  have hpt : isPt (x0 : Int) = true := by unfold isPt; rw [decide_eq_true_eq]; omega
  have hlen : (Lib.runeCells (x0 : Int)).length = 1 := by unfold Lib.runeCells; rw [Lib.encodeRuneZ_one (by omega) (by omega)]; rfl
  have hl0 : (x0 : Int) ≤ 255 := by omega
  go_enter Tryd.func66, Tryd.ntmps66
  go_wp2_with (first
    | (go_at_call 83; refine (size_any _ _ hl0).mono ?_; rintro e w1 ⟨rfl, rfl⟩)
    | (go_at_call 84; refine (isPoint_any _ _).mono ?_; rintro e w1 ⟨rfl, rfl⟩)
    | (go_at_call 67; refine (Bytes_any _ _ hpt).mono ?_; rintro e w1 ⟨rfl, rfl⟩))
  refine wp_loop_rounds 1 ?_
  rw [rounds_succ]
  go_wp2_with (first
    | (go_at_call 83; refine (size_any _ _ hl0).mono ?_; rintro e w1 ⟨rfl, rfl⟩)
    | (go_at_call 84; refine (isPoint_any _ _).mono ?_; rintro e w1 ⟨rfl, rfl⟩)
    | (go_at_call 67; refine (Bytes_any _ _ hpt).mono ?_; rintro e w1 ⟨rfl, rfl⟩))
  go_ret2
  exact ⟨rfl, (Below.refl _ _).alloc (Nat.le_refl _) _⟩
set_option maxHeartbeats 4000000 in
set_option maxRecDepth 100000 in
theorem at_0 (s : ByteArray) (pos : Nat) (w : World) (_hs : s.size ≤ 140737488351232) (hp : pos < s.size) (x0 : Nat) (e0 : (s[pos]'(by omega)).toNat = x0) (h0 : (128 ≤ x0 ∧ x0 < 192) ∨ (248 ≤ x0 ∧ x0 < 256)) :
    Calls Tryd.prog 66 #[.string s, .int .i64 pos] w fun e w' => e = .returned (.tuple #[.int .i64 (0), .int .i64 0]) ∧ Below w.heap.size w w' := by
  have hz := sz0 (c := (x0 : Int)) (by omega)
  have hl0 : (x0 : Int) ≤ 255 := by omega
  have hpt : isPt 0 = true := rfl
  go_enter Tryd.func66, Tryd.ntmps66
  go_wp2_with (first
    | (go_at_call 83; refine (size_any _ _ hl0).mono ?_; rintro e w1 ⟨rfl, rfl⟩)
    | (go_at_call 84; refine (isPoint_any _ _).mono ?_; rintro e w1 ⟨rfl, rfl⟩)
    | (go_at_call 67; refine (Bytes_any _ _ hpt).mono ?_; rintro e w1 ⟨rfl, rfl⟩))
  go_ret2
  exact ⟨rfl, Below.refl _ _⟩
set_option maxHeartbeats 4000000 in
set_option maxRecDepth 100000 in
theorem at_2_short (s : ByteArray) (pos : Nat) (w : World) (hs : s.size ≤ 140737488351232) (hp : pos < s.size) (hq : s.size < pos + 2) (x0 : Nat) (e0 : (s[pos]'hp).toNat = x0) (h0 : 192 ≤ x0) (h0' : x0 < 224) :
    Calls Tryd.prog 66 #[.string s, .int .i64 pos] w fun e w' => e = .returned (.tuple #[.int .i64 (0), .int .i64 0]) ∧ Below w.heap.size w w' := by
  have hz := sz2 (c := (x0 : Int)) (by omega) (by omega)
  have hl0 : (x0 : Int) ≤ 255 := by omega
  have hpt : isPt 0 = true := rfl
  go_enter Tryd.func66, Tryd.ntmps66
  go_wp2_with (first
    | (go_at_call 83; refine (size_any _ _ hl0).mono ?_; rintro e w1 ⟨rfl, rfl⟩)
    | (go_at_call 84; refine (isPoint_any _ _).mono ?_; rintro e w1 ⟨rfl, rfl⟩)
    | (go_at_call 67; refine (Bytes_any _ _ hpt).mono ?_; rintro e w1 ⟨rfl, rfl⟩))
  go_ret2
  exact ⟨rfl, Below.refl _ _⟩
set_option maxHeartbeats 4000000 in
set_option maxRecDepth 100000 in
theorem at_2_c1 (s : ByteArray) (pos : Nat) (w : World) (hs : s.size ≤ 140737488351232) (hp : pos + 1 < s.size) (x0 x1 : Nat) (e0 : (s[pos]'(by omega)).toNat = x0) (e1 : (s[pos + 1]'(by omega)).toNat = x1) (h0 : 192 ≤ x0) (h0' : x0 < 224) (hk : x1 < 128 ∨ (191 < x1 ∧ x1 < 256)) :
    Calls Tryd.prog 66 #[.string s, .int .i64 pos] w fun e w' => e = .returned (.tuple #[.int .i64 (0), .int .i64 0]) ∧ Below w.heap.size w w' := by
  have hz := sz2 (c := (x0 : Int)) (by omega) (by omega)
  have hl0 : (x0 : Int) ≤ 255 := by omega
  have hpt : isPt 0 = true := rfl
  rcases hk with hk | ⟨hk, hk'⟩
  · go_enter Tryd.func66, Tryd.ntmps66
    go_wp2_with (first
      | (go_at_call 83; refine (size_any _ _ hl0).mono ?_; rintro e w1 ⟨rfl, rfl⟩)
      | (go_at_call 84; refine (isPoint_any _ _).mono ?_; rintro e w1 ⟨rfl, rfl⟩)
      | (go_at_call 67; refine (Bytes_any _ _ hpt).mono ?_; rintro e w1 ⟨rfl, rfl⟩))
    refine wp_loop_rounds 1 ?_
    rw [rounds_succ]
    go_wp2_with (first
      | (go_at_call 83; refine (size_any _ _ hl0).mono ?_; rintro e w1 ⟨rfl, rfl⟩)
      | (go_at_call 84; refine (isPoint_any _ _).mono ?_; rintro e w1 ⟨rfl, rfl⟩)
      | (go_at_call 67; refine (Bytes_any _ _ hpt).mono ?_; rintro e w1 ⟨rfl, rfl⟩))
    go_ret2
    exact ⟨rfl, Below.refl _ _⟩
  · go_enter Tryd.func66, Tryd.ntmps66
    go_wp2_with (first
      | (go_at_call 83; refine (size_any _ _ hl0).mono ?_; rintro e w1 ⟨rfl, rfl⟩)
      | (go_at_call 84; refine (isPoint_any _ _).mono ?_; rintro e w1 ⟨rfl, rfl⟩)
      | (go_at_call 67; refine (Bytes_any _ _ hpt).mono ?_; rintro e w1 ⟨rfl, rfl⟩))
    refine wp_loop_rounds 1 ?_
    rw [rounds_succ]
    go_wp2_with (first
      | (go_at_call 83; refine (size_any _ _ hl0).mono ?_; rintro e w1 ⟨rfl, rfl⟩)
      | (go_at_call 84; refine (isPoint_any _ _).mono ?_; rintro e w1 ⟨rfl, rfl⟩)
      | (go_at_call 67; refine (Bytes_any _ _ hpt).mono ?_; rintro e w1 ⟨rfl, rfl⟩))
    go_ret2
    exact ⟨rfl, Below.refl _ _⟩
set_option maxHeartbeats 4000000 in
set_option maxRecDepth 100000 in
theorem at_2_long (s : ByteArray) (pos : Nat) (w : World) (hs : s.size ≤ 140737488351232) (hp : pos + 1 < s.size) (x0 x1 : Nat) (e0 : (s[pos]'(by omega)).toNat = x0) (e1 : (s[pos + 1]'(by omega)).toNat = x1) (h0 : 192 ≤ x0) (h0' : x0 < 224) (h1 : 128 ≤ x1) (h1' : x1 < 192) (hl : 64 * ((x0 : Int) - 192) + x1 - 128 < 128) (m : Nat) (hm : m ≠ 2) (hpt : isPt (64 * ((x0 : Int) - 192) + x1 - 128) = true) (hlen : (Lib.runeCells (64 * ((x0 : Int) - 192) + x1 - 128)).length = m) :
    Calls Tryd.prog 66 #[.string s, .int .i64 pos] w fun e w' => e = .returned (.tuple #[.int .i64 (0), .int .i64 0]) ∧ Below w.heap.size w w' := by
  have hz := sz2 (c := (x0 : Int)) (by omega) (by omega)
  have hl0 : (x0 : Int) ≤ 255 := by omega
  have hm' : ((m : Int) != 2) = true := by simp; omega
  go_enter Tryd.func66, Tryd.ntmps66
  go_wp2_with (first
    | (go_at_call 83; refine (size_any _ _ hl0).mono ?_; rintro e w1 ⟨rfl, rfl⟩)
    | (go_at_call 84; refine (isPoint_any _ _).mono ?_; rintro e w1 ⟨rfl, rfl⟩)
    | (go_at_call 67; refine (Bytes_any _ _ hpt).mono ?_; rintro e w1 ⟨rfl, rfl⟩))
  refine wp_loop_rounds 2 ?_
  rw [rounds_succ]
  go_wp2
  rw [rounds_succ]
  go_wp2_with (first
    | (go_at_call 83; refine (size_any _ _ hl0).mono ?_; rintro e w1 ⟨rfl, rfl⟩)
    | (go_at_call 84; refine (isPoint_any _ _).mono ?_; rintro e w1 ⟨rfl, rfl⟩)
    | (go_at_call 67; refine (Bytes_any _ _ hpt).mono ?_; rintro e w1 ⟨rfl, rfl⟩))
  go_ret2
  exact ⟨rfl, (Below.refl _ _).alloc (Nat.le_refl _) _⟩
set_option maxHeartbeats 4000000 in
set_option maxRecDepth 100000 in
theorem at_2 (s : ByteArray) (pos : Nat) (w : World) (hs : s.size ≤ 140737488351232) (hp : pos + 1 < s.size) (x0 x1 : Nat) (e0 : (s[pos]'(by omega)).toNat = x0) (e1 : (s[pos + 1]'(by omega)).toNat = x1) (h0 : 192 ≤ x0) (h0' : x0 < 224) (h1 : 128 ≤ x1) (h1' : x1 < 192) (hpt : isPt (64 * ((x0 : Int) - 192) + x1 - 128) = true) (hlen : (Lib.runeCells (64 * ((x0 : Int) - 192) + x1 - 128)).length = 2) :
    Calls Tryd.prog 66 #[.string s, .int .i64 pos] w fun e w' => e = .returned (.tuple #[.int .i64 (64 * ((x0 : Int) - 192) + x1 - 128), .int .i64 2]) ∧ Below w.heap.size w w' := by
  have hz := sz2 (c := (x0 : Int)) (by omega) (by omega)
  have hl0 : (x0 : Int) ≤ 255 := by omega
  go_enter Tryd.func66, Tryd.ntmps66
  go_wp2_with (first
    | (go_at_call 83; refine (size_any _ _ hl0).mono ?_; rintro e w1 ⟨rfl, rfl⟩)
    | (go_at_call 84; refine (isPoint_any _ _).mono ?_; rintro e w1 ⟨rfl, rfl⟩)
    | (go_at_call 67; refine (Bytes_any _ _ hpt).mono ?_; rintro e w1 ⟨rfl, rfl⟩))
  refine wp_loop_rounds 2 ?_
  rw [rounds_succ]
  go_wp2
  rw [rounds_succ]
  go_wp2_with (first
    | (go_at_call 83; refine (size_any _ _ hl0).mono ?_; rintro e w1 ⟨rfl, rfl⟩)
    | (go_at_call 84; refine (isPoint_any _ _).mono ?_; rintro e w1 ⟨rfl, rfl⟩)
    | (go_at_call 67; refine (Bytes_any _ _ hpt).mono ?_; rintro e w1 ⟨rfl, rfl⟩))
  go_ret2
  exact ⟨rfl, (Below.refl _ _).alloc (Nat.le_refl _) _⟩
set_option maxHeartbeats 4000000 in
set_option maxRecDepth 100000 in
theorem at_3_short (s : ByteArray) (pos : Nat) (w : World) (hs : s.size ≤ 140737488351232) (hp : pos < s.size) (hq : s.size < pos + 3) (x0 : Nat) (e0 : (s[pos]'hp).toNat = x0) (h0 : 224 ≤ x0) (h0' : x0 < 240) :
    Calls Tryd.prog 66 #[.string s, .int .i64 pos] w fun e w' => e = .returned (.tuple #[.int .i64 (0), .int .i64 0]) ∧ Below w.heap.size w w' := by
  have hz := sz3 (c := (x0 : Int)) (by omega) (by omega)
  have hl0 : (x0 : Int) ≤ 255 := by omega
  have hpt : isPt 0 = true := rfl
  go_enter Tryd.func66, Tryd.ntmps66
  go_wp2_with (first
    | (go_at_call 83; refine (size_any _ _ hl0).mono ?_; rintro e w1 ⟨rfl, rfl⟩)
    | (go_at_call 84; refine (isPoint_any _ _).mono ?_; rintro e w1 ⟨rfl, rfl⟩)
    | (go_at_call 67; refine (Bytes_any _ _ hpt).mono ?_; rintro e w1 ⟨rfl, rfl⟩))
  go_ret2
  exact ⟨rfl, Below.refl _ _⟩
set_option maxHeartbeats 4000000 in
set_option maxRecDepth 100000 in
theorem at_3_c1 (s : ByteArray) (pos : Nat) (w : World) (hs : s.size ≤ 140737488351232) (hp : pos + 2 < s.size) (x0 x1 : Nat) (e0 : (s[pos]'(by omega)).toNat = x0) (e1 : (s[pos + 1]'(by omega)).toNat = x1) (h0 : 224 ≤ x0) (h0' : x0 < 240) (hk : x1 < 128 ∨ (191 < x1 ∧ x1 < 256)) :
    Calls Tryd.prog 66 #[.string s, .int .i64 pos] w fun e w' => e = .returned (.tuple #[.int .i64 (0), .int .i64 0]) ∧ Below w.heap.size w w' := by
  have hz := sz3 (c := (x0 : Int)) (by omega) (by omega)
  have hl0 : (x0 : Int) ≤ 255 := by omega
  have hpt : isPt 0 = true := rfl
  rcases hk with hk | ⟨hk, hk'⟩
  · go_enter Tryd.func66, Tryd.ntmps66
    go_wp2_with (first
      | (go_at_call 83; refine (size_any _ _ hl0).mono ?_; rintro e w1 ⟨rfl, rfl⟩)
      | (go_at_call 84; refine (isPoint_any _ _).mono ?_; rintro e w1 ⟨rfl, rfl⟩)
      | (go_at_call 67; refine (Bytes_any _ _ hpt).mono ?_; rintro e w1 ⟨rfl, rfl⟩))
    refine wp_loop_rounds 1 ?_
    rw [rounds_succ]
    go_wp2_with (first
      | (go_at_call 83; refine (size_any _ _ hl0).mono ?_; rintro e w1 ⟨rfl, rfl⟩)
      | (go_at_call 84; refine (isPoint_any _ _).mono ?_; rintro e w1 ⟨rfl, rfl⟩)
      | (go_at_call 67; refine (Bytes_any _ _ hpt).mono ?_; rintro e w1 ⟨rfl, rfl⟩))
    go_ret2
    exact ⟨rfl, Below.refl _ _⟩
  · go_enter Tryd.func66, Tryd.ntmps66
    go_wp2_with (first
      | (go_at_call 83; refine (size_any _ _ hl0).mono ?_; rintro e w1 ⟨rfl, rfl⟩)
      | (go_at_call 84; refine (isPoint_any _ _).mono ?_; rintro e w1 ⟨rfl, rfl⟩)
      | (go_at_call 67; refine (Bytes_any _ _ hpt).mono ?_; rintro e w1 ⟨rfl, rfl⟩))
    refine wp_loop_rounds 1 ?_
    rw [rounds_succ]
    go_wp2_with (first
      | (go_at_call 83; refine (size_any _ _ hl0).mono ?_; rintro e w1 ⟨rfl, rfl⟩)
      | (go_at_call 84; refine (isPoint_any _ _).mono ?_; rintro e w1 ⟨rfl, rfl⟩)
      | (go_at_call 67; refine (Bytes_any _ _ hpt).mono ?_; rintro e w1 ⟨rfl, rfl⟩))
    go_ret2
    exact ⟨rfl, Below.refl _ _⟩
set_option maxHeartbeats 4000000 in
set_option maxRecDepth 100000 in
theorem at_3_c2 (s : ByteArray) (pos : Nat) (w : World) (hs : s.size ≤ 140737488351232) (hp : pos + 2 < s.size) (x0 x1 x2 : Nat) (e0 : (s[pos]'(by omega)).toNat = x0) (e1 : (s[pos + 1]'(by omega)).toNat = x1) (e2 : (s[pos + 2]'(by omega)).toNat = x2) (h0 : 224 ≤ x0) (h0' : x0 < 240) (h1 : 128 ≤ x1) (h1' : x1 < 192) (hk : x2 < 128 ∨ (191 < x2 ∧ x2 < 256)) :
    Calls Tryd.prog 66 #[.string s, .int .i64 pos] w fun e w' => e = .returned (.tuple #[.int .i64 (0), .int .i64 0]) ∧ Below w.heap.size w w' := by
  have hz := sz3 (c := (x0 : Int)) (by omega) (by omega)
  have hl0 : (x0 : Int) ≤ 255 := by omega
  have hpt : isPt 0 = true := rfl
  rcases hk with hk | ⟨hk, hk'⟩
  · go_enter Tryd.func66, Tryd.ntmps66
    go_wp2_with (first
      | (go_at_call 83; refine (size_any _ _ hl0).mono ?_; rintro e w1 ⟨rfl, rfl⟩)
      | (go_at_call 84; refine (isPoint_any _ _).mono ?_; rintro e w1 ⟨rfl, rfl⟩)
      | (go_at_call 67; refine (Bytes_any _ _ hpt).mono ?_; rintro e w1 ⟨rfl, rfl⟩))
    refine wp_loop_rounds 2 ?_
    rw [rounds_succ]
    go_wp2
    rw [rounds_succ]
    go_wp2_with (first
      | (go_at_call 83; refine (size_any _ _ hl0).mono ?_; rintro e w1 ⟨rfl, rfl⟩)
      | (go_at_call 84; refine (isPoint_any _ _).mono ?_; rintro e w1 ⟨rfl, rfl⟩)
      | (go_at_call 67; refine (Bytes_any _ _ hpt).mono ?_; rintro e w1 ⟨rfl, rfl⟩))
    go_ret2
    exact ⟨rfl, Below.refl _ _⟩
  · go_enter Tryd.func66, Tryd.ntmps66
    go_wp2_with (first
      | (go_at_call 83; refine (size_any _ _ hl0).mono ?_; rintro e w1 ⟨rfl, rfl⟩)
      | (go_at_call 84; refine (isPoint_any _ _).mono ?_; rintro e w1 ⟨rfl, rfl⟩)
      | (go_at_call 67; refine (Bytes_any _ _ hpt).mono ?_; rintro e w1 ⟨rfl, rfl⟩))
    refine wp_loop_rounds 2 ?_
    rw [rounds_succ]
    go_wp2
    rw [rounds_succ]
    go_wp2_with (first
      | (go_at_call 83; refine (size_any _ _ hl0).mono ?_; rintro e w1 ⟨rfl, rfl⟩)
      | (go_at_call 84; refine (isPoint_any _ _).mono ?_; rintro e w1 ⟨rfl, rfl⟩)
      | (go_at_call 67; refine (Bytes_any _ _ hpt).mono ?_; rintro e w1 ⟨rfl, rfl⟩))
    go_ret2
    exact ⟨rfl, Below.refl _ _⟩
set_option maxHeartbeats 4000000 in
set_option maxRecDepth 100000 in
theorem at_3_long (s : ByteArray) (pos : Nat) (w : World) (hs : s.size ≤ 140737488351232) (hp : pos + 2 < s.size) (x0 x1 x2 : Nat) (e0 : (s[pos]'(by omega)).toNat = x0) (e1 : (s[pos + 1]'(by omega)).toNat = x1) (e2 : (s[pos + 2]'(by omega)).toNat = x2) (h0 : 224 ≤ x0) (h0' : x0 < 240) (h1 : 128 ≤ x1) (h1' : x1 < 192) (h2 : 128 ≤ x2) (h2' : x2 < 192) (hl : 64 * (64 * ((x0 : Int) - 224) + x1 - 128) + x2 - 128 < 2048) (m : Nat) (hm : m ≠ 3) (hpt : isPt (64 * (64 * ((x0 : Int) - 224) + x1 - 128) + x2 - 128) = true) (hlen : (Lib.runeCells (64 * (64 * ((x0 : Int) - 224) + x1 - 128) + x2 - 128)).length = m) :
    Calls Tryd.prog 66 #[.string s, .int .i64 pos] w fun e w' => e = .returned (.tuple #[.int .i64 (0), .int .i64 0]) ∧ Below w.heap.size w w' := by
  have hz := sz3 (c := (x0 : Int)) (by omega) (by omega)
  have hl0 : (x0 : Int) ≤ 255 := by omega
  have hm' : ((m : Int) != 3) = true := by simp; omega
  go_enter Tryd.func66, Tryd.ntmps66
  go_wp2_with (first
    | (go_at_call 83; refine (size_any _ _ hl0).mono ?_; rintro e w1 ⟨rfl, rfl⟩)
    | (go_at_call 84; refine (isPoint_any _ _).mono ?_; rintro e w1 ⟨rfl, rfl⟩)
    | (go_at_call 67; refine (Bytes_any _ _ hpt).mono ?_; rintro e w1 ⟨rfl, rfl⟩))
  refine wp_loop_rounds 3 ?_
  rw [rounds_succ]
  go_wp2
  rw [rounds_succ]
  go_wp2
  rw [rounds_succ]
  go_wp2_with (first
    | (go_at_call 83; refine (size_any _ _ hl0).mono ?_; rintro e w1 ⟨rfl, rfl⟩)
    | (go_at_call 84; refine (isPoint_any _ _).mono ?_; rintro e w1 ⟨rfl, rfl⟩)
    | (go_at_call 67; refine (Bytes_any _ _ hpt).mono ?_; rintro e w1 ⟨rfl, rfl⟩))
  go_ret2
  exact ⟨rfl, (Below.refl _ _).alloc (Nat.le_refl _) _⟩
set_option maxHeartbeats 4000000 in
set_option maxRecDepth 100000 in
theorem at_3_none (s : ByteArray) (pos : Nat) (w : World) (hs : s.size ≤ 140737488351232) (hp : pos + 2 < s.size) (x0 x1 x2 : Nat) (e0 : (s[pos]'(by omega)).toNat = x0) (e1 : (s[pos + 1]'(by omega)).toNat = x1) (e2 : (s[pos + 2]'(by omega)).toNat = x2) (h0 : 224 ≤ x0) (h0' : x0 < 240) (h1 : 128 ≤ x1) (h1' : x1 < 192) (h2 : 128 ≤ x2) (h2' : x2 < 192) (hno : isPt (64 * (64 * ((x0 : Int) - 224) + x1 - 128) + x2 - 128) = false) :
    Calls Tryd.prog 66 #[.string s, .int .i64 pos] w fun e w' => e = .returned (.tuple #[.int .i64 (0), .int .i64 0]) ∧ Below w.heap.size w w' := by
  have hz := sz3 (c := (x0 : Int)) (by omega) (by omega)
  have hl0 : (x0 : Int) ≤ 255 := by omega
  have hpt : isPt 0 = true := rfl
  go_enter Tryd.func66, Tryd.ntmps66
  go_wp2_with (first
    | (go_at_call 83; refine (size_any _ _ hl0).mono ?_; rintro e w1 ⟨rfl, rfl⟩)
    | (go_at_call 84; refine (isPoint_any _ _).mono ?_; rintro e w1 ⟨rfl, rfl⟩)
    | (go_at_call 67; refine (Bytes_any _ _ hpt).mono ?_; rintro e w1 ⟨rfl, rfl⟩))
  refine wp_loop_rounds 3 ?_
  rw [rounds_succ]
  go_wp2
  rw [rounds_succ]
  go_wp2
  rw [rounds_succ]
  go_wp2_with (first
    | (go_at_call 83; refine (size_any _ _ hl0).mono ?_; rintro e w1 ⟨rfl, rfl⟩)
    | (go_at_call 84; refine (isPoint_any _ _).mono ?_; rintro e w1 ⟨rfl, rfl⟩)
    | (go_at_call 67; refine (Bytes_any _ _ hpt).mono ?_; rintro e w1 ⟨rfl, rfl⟩))
  go_ret2
  exact ⟨rfl, Below.refl _ _⟩
set_option maxHeartbeats 4000000 in
set_option maxRecDepth 100000 in
theorem at_3 (s : ByteArray) (pos : Nat) (w : World) (hs : s.size ≤ 140737488351232) (hp : pos + 2 < s.size) (x0 x1 x2 : Nat) (e0 : (s[pos]'(by omega)).toNat = x0) (e1 : (s[pos + 1]'(by omega)).toNat = x1) (e2 : (s[pos + 2]'(by omega)).toNat = x2) (h0 : 224 ≤ x0) (h0' : x0 < 240) (h1 : 128 ≤ x1) (h1' : x1 < 192) (h2 : 128 ≤ x2) (h2' : x2 < 192) (hpt : isPt (64 * (64 * ((x0 : Int) - 224) + x1 - 128) + x2 - 128) = true) (hlen : (Lib.runeCells (64 * (64 * ((x0 : Int) - 224) + x1 - 128) + x2 - 128)).length = 3) :
    Calls Tryd.prog 66 #[.string s, .int .i64 pos] w fun e w' => e = .returned (.tuple #[.int .i64 (64 * (64 * ((x0 : Int) - 224) + x1 - 128) + x2 - 128), .int .i64 3]) ∧ Below w.heap.size w w' := by
  have hz := sz3 (c := (x0 : Int)) (by omega) (by omega)
  have hl0 : (x0 : Int) ≤ 255 := by omega
  go_enter Tryd.func66, Tryd.ntmps66
  go_wp2_with (first
    | (go_at_call 83; refine (size_any _ _ hl0).mono ?_; rintro e w1 ⟨rfl, rfl⟩)
    | (go_at_call 84; refine (isPoint_any _ _).mono ?_; rintro e w1 ⟨rfl, rfl⟩)
    | (go_at_call 67; refine (Bytes_any _ _ hpt).mono ?_; rintro e w1 ⟨rfl, rfl⟩))
  refine wp_loop_rounds 3 ?_
  rw [rounds_succ]
  go_wp2
  rw [rounds_succ]
  go_wp2
  rw [rounds_succ]
  go_wp2_with (first
    | (go_at_call 83; refine (size_any _ _ hl0).mono ?_; rintro e w1 ⟨rfl, rfl⟩)
    | (go_at_call 84; refine (isPoint_any _ _).mono ?_; rintro e w1 ⟨rfl, rfl⟩)
    | (go_at_call 67; refine (Bytes_any _ _ hpt).mono ?_; rintro e w1 ⟨rfl, rfl⟩))
  go_ret2
  exact ⟨rfl, (Below.refl _ _).alloc (Nat.le_refl _) _⟩
set_option maxHeartbeats 4000000 in
set_option maxRecDepth 100000 in
theorem at_4_short (s : ByteArray) (pos : Nat) (w : World) (hs : s.size ≤ 140737488351232) (hp : pos < s.size) (hq : s.size < pos + 4) (x0 : Nat) (e0 : (s[pos]'hp).toNat = x0) (h0 : 240 ≤ x0) (h0' : x0 < 248) :
    Calls Tryd.prog 66 #[.string s, .int .i64 pos] w fun e w' => e = .returned (.tuple #[.int .i64 (0), .int .i64 0]) ∧ Below w.heap.size w w' := by
  have hz := sz4 (c := (x0 : Int)) (by omega) (by omega)
  have hl0 : (x0 : Int) ≤ 255 := by omega
  have hpt : isPt 0 = true := rfl
  go_enter Tryd.func66, Tryd.ntmps66
  go_wp2_with (first
    | (go_at_call 83; refine (size_any _ _ hl0).mono ?_; rintro e w1 ⟨rfl, rfl⟩)
    | (go_at_call 84; refine (isPoint_any _ _).mono ?_; rintro e w1 ⟨rfl, rfl⟩)
    | (go_at_call 67; refine (Bytes_any _ _ hpt).mono ?_; rintro e w1 ⟨rfl, rfl⟩))
  go_ret2
  exact ⟨rfl, Below.refl _ _⟩
set_option maxHeartbeats 4000000 in
set_option maxRecDepth 100000 in
theorem at_4_c1 (s : ByteArray) (pos : Nat) (w : World) (hs : s.size ≤ 140737488351232) (hp : pos + 3 < s.size) (x0 x1 : Nat) (e0 : (s[pos]'(by omega)).toNat = x0) (e1 : (s[pos + 1]'(by omega)).toNat = x1) (h0 : 240 ≤ x0) (h0' : x0 < 248) (hk : x1 < 128 ∨ (191 < x1 ∧ x1 < 256)) :
    Calls Tryd.prog 66 #[.string s, .int .i64 pos] w fun e w' => e = .returned (.tuple #[.int .i64 (0), .int .i64 0]) ∧ Below w.heap.size w w' := by
  have hz := sz4 (c := (x0 : Int)) (by omega) (by omega)
  have hl0 : (x0 : Int) ≤ 255 := by omega
  have hpt : isPt 0 = true := rfl
  rcases hk with hk | ⟨hk, hk'⟩
  · go_enter Tryd.func66, Tryd.ntmps66
    go_wp2_with (first
      | (go_at_call 83; refine (size_any _ _ hl0).mono ?_; rintro e w1 ⟨rfl, rfl⟩)
      | (go_at_call 84; refine (isPoint_any _ _).mono ?_; rintro e w1 ⟨rfl, rfl⟩)
      | (go_at_call 67; refine (Bytes_any _ _ hpt).mono ?_; rintro e w1 ⟨rfl, rfl⟩))
    refine wp_loop_rounds 1 ?_
    rw [rounds_succ]
    go_wp2_with (first
      | (go_at_call 83; refine (size_any _ _ hl0).mono ?_; rintro e w1 ⟨rfl, rfl⟩)
      | (go_at_call 84; refine (isPoint_any _ _).mono ?_; rintro e w1 ⟨rfl, rfl⟩)
      | (go_at_call 67; refine (Bytes_any _ _ hpt).mono ?_; rintro e w1 ⟨rfl, rfl⟩))
    go_ret2
    exact ⟨rfl, Below.refl _ _⟩
  · go_enter Tryd.func66, Tryd.ntmps66
    go_wp2_with (first
      | (go_at_call 83; refine (size_any _ _ hl0).mono ?_; rintro e w1 ⟨rfl, rfl⟩)
      | (go_at_call 84; refine (isPoint_any _ _).mono ?_; rintro e w1 ⟨rfl, rfl⟩)
      | (go_at_call 67; refine (Bytes_any _ _ hpt).mono ?_; rintro e w1 ⟨rfl, rfl⟩))
    refine wp_loop_rounds 1 ?_
    rw [rounds_succ]
    go_wp2_with (first
      | (go_at_call 83; refine (size_any _ _ hl0).mono ?_; rintro e w1 ⟨rfl, rfl⟩)
      | (go_at_call 84; refine (isPoint_any _ _).mono ?_; rintro e w1 ⟨rfl, rfl⟩)
      | (go_at_call 67; refine (Bytes_any _ _ hpt).mono ?_; rintro e w1 ⟨rfl, rfl⟩))
    go_ret2
    exact ⟨rfl, Below.refl _ _⟩
set_option maxHeartbeats 4000000 in
set_option maxRecDepth 100000 in
theorem at_4_c2 (s : ByteArray) (pos : Nat) (w : World) (hs : s.size ≤ 140737488351232) (hp : pos + 3 < s.size) (x0 x1 x2 : Nat) (e0 : (s[pos]'(by omega)).toNat = x0) (e1 : (s[pos + 1]'(by omega)).toNat = x1) (e2 : (s[pos + 2]'(by omega)).toNat = x2) (h0 : 240 ≤ x0) (h0' : x0 < 248) (h1 : 128 ≤ x1) (h1' : x1 < 192) (hk : x2 < 128 ∨ (191 < x2 ∧ x2 < 256)) :
    Calls Tryd.prog 66 #[.string s, .int .i64 pos] w fun e w' => e = .returned (.tuple #[.int .i64 (0), .int .i64 0]) ∧ Below w.heap.size w w' := by
  have hz := sz4 (c := (x0 : Int)) (by omega) (by omega)
  have hl0 : (x0 : Int) ≤ 255 := by omega
  have hpt : isPt 0 = true := rfl
  rcases hk with hk | ⟨hk, hk'⟩
  · go_enter Tryd.func66, Tryd.ntmps66
    go_wp2_with (first
      | (go_at_call 83; refine (size_any _ _ hl0).mono ?_; rintro e w1 ⟨rfl, rfl⟩)
      | (go_at_call 84; refine (isPoint_any _ _).mono ?_; rintro e w1 ⟨rfl, rfl⟩)
      | (go_at_call 67; refine (Bytes_any _ _ hpt).mono ?_; rintro e w1 ⟨rfl, rfl⟩))
    refine wp_loop_rounds 2 ?_
    rw [rounds_succ]
    go_wp2
    rw [rounds_succ]
    go_wp2_with (first
      | (go_at_call 83; refine (size_any _ _ hl0).mono ?_; rintro e w1 ⟨rfl, rfl⟩)
      | (go_at_call 84; refine (isPoint_any _ _).mono ?_; rintro e w1 ⟨rfl, rfl⟩)
      | (go_at_call 67; refine (Bytes_any _ _ hpt).mono ?_; rintro e w1 ⟨rfl, rfl⟩))
    go_ret2
    exact ⟨rfl, Below.refl _ _⟩
  · go_enter Tryd.func66, Tryd.ntmps66
    go_wp2_with (first
      | (go_at_call 83; refine (size_any _ _ hl0).mono ?_; rintro e w1 ⟨rfl, rfl⟩)
      | (go_at_call 84; refine (isPoint_any _ _).mono ?_; rintro e w1 ⟨rfl, rfl⟩)
      | (go_at_call 67; refine (Bytes_any _ _ hpt).mono ?_; rintro e w1 ⟨rfl, rfl⟩))
    refine wp_loop_rounds 2 ?_
    rw [rounds_succ]
    go_wp2
    rw [rounds_succ]
    go_wp2_with (first
      | (go_at_call 83; refine (size_any _ _ hl0).mono ?_; rintro e w1 ⟨rfl, rfl⟩)
      | (go_at_call 84; refine (isPoint_any _ _).mono ?_; rintro e w1 ⟨rfl, rfl⟩)
      | (go_at_call 67; refine (Bytes_any _ _ hpt).mono ?_; rintro e w1 ⟨rfl, rfl⟩))
    go_ret2
    exact ⟨rfl, Below.refl _ _⟩
set_option maxHeartbeats 4000000 in
set_option maxRecDepth 100000 in
theorem at_4_c3 (s : ByteArray) (pos : Nat) (w : World) (hs : s.size ≤ 140737488351232) (hp : pos + 3 < s.size) (x0 x1 x2 x3 : Nat) (e0 : (s[pos]'(by omega)).toNat = x0) (e1 : (s[pos + 1]'(by omega)).toNat = x1) (e2 : (s[pos + 2]'(by omega)).toNat = x2) (e3 : (s[pos + 3]'(by omega)).toNat = x3) (h0 : 240 ≤ x0) (h0' : x0 < 248) (h1 : 128 ≤ x1) (h1' : x1 < 192) (h2 : 128 ≤ x2) (h2' : x2 < 192) (hk : x3 < 128 ∨ (191 < x3 ∧ x3 < 256)) :
    Calls Tryd.prog 66 #[.string s, .int .i64 pos] w fun e w' => e = .returned (.tuple #[.int .i64 (0), .int .i64 0]) ∧ Below w.heap.size w w' := by
  have hz := sz4 (c := (x0 : Int)) (by omega) (by omega)
  have hl0 : (x0 : Int) ≤ 255 := by omega
  have hpt : isPt 0 = true := rfl
  rcases hk with hk | ⟨hk, hk'⟩
  · go_enter Tryd.func66, Tryd.ntmps66
    go_wp2_with (first
      | (go_at_call 83; refine (size_any _ _ hl0).mono ?_; rintro e w1 ⟨rfl, rfl⟩)
      | (go_at_call 84; refine (isPoint_any _ _).mono ?_; rintro e w1 ⟨rfl, rfl⟩)
      | (go_at_call 67; refine (Bytes_any _ _ hpt).mono ?_; rintro e w1 ⟨rfl, rfl⟩))
    refine wp_loop_rounds 3 ?_
    rw [rounds_succ]
    go_wp2
    rw [rounds_succ]
    go_wp2
    rw [rounds_succ]
    go_wp2_with (first
      | (go_at_call 83; refine (size_any _ _ hl0).mono ?_; rintro e w1 ⟨rfl, rfl⟩)
      | (go_at_call 84; refine (isPoint_any _ _).mono ?_; rintro e w1 ⟨rfl, rfl⟩)
      | (go_at_call 67; refine (Bytes_any _ _ hpt).mono ?_; rintro e w1 ⟨rfl, rfl⟩))
    go_ret2
    exact ⟨rfl, Below.refl _ _⟩
  · go_enter Tryd.func66, Tryd.ntmps66
    go_wp2_with (first
      | (go_at_call 83; refine (size_any _ _ hl0).mono ?_; rintro e w1 ⟨rfl, rfl⟩)
      | (go_at_call 84; refine (isPoint_any _ _).mono ?_; rintro e w1 ⟨rfl, rfl⟩)
      | (go_at_call 67; refine (Bytes_any _ _ hpt).mono ?_; rintro e w1 ⟨rfl, rfl⟩))
    refine wp_loop_rounds 3 ?_
    rw [rounds_succ]
    go_wp2
    rw [rounds_succ]
    go_wp2
    rw [rounds_succ]
    go_wp2_with (first
      | (go_at_call 83; refine (size_any _ _ hl0).mono ?_; rintro e w1 ⟨rfl, rfl⟩)
      | (go_at_call 84; refine (isPoint_any _ _).mono ?_; rintro e w1 ⟨rfl, rfl⟩)
      | (go_at_call 67; refine (Bytes_any _ _ hpt).mono ?_; rintro e w1 ⟨rfl, rfl⟩))
    go_ret2
    exact ⟨rfl, Below.refl _ _⟩
set_option maxHeartbeats 4000000 in
set_option maxRecDepth 100000 in
theorem at_4_long (s : ByteArray) (pos : Nat) (w : World) (hs : s.size ≤ 140737488351232) (hp : pos + 3 < s.size) (x0 x1 x2 x3 : Nat) (e0 : (s[pos]'(by omega)).toNat = x0) (e1 : (s[pos + 1]'(by omega)).toNat = x1) (e2 : (s[pos + 2]'(by omega)).toNat = x2) (e3 : (s[pos + 3]'(by omega)).toNat = x3) (h0 : 240 ≤ x0) (h0' : x0 < 248) (h1 : 128 ≤ x1) (h1' : x1 < 192) (h2 : 128 ≤ x2) (h2' : x2 < 192) (h3 : 128 ≤ x3) (h3' : x3 < 192) (hl : 64 * (64 * (64 * ((x0 : Int) - 240) + x1 - 128) + x2 - 128) + x3 - 128 < 65536) (m : Nat) (hm : m ≠ 4) (hpt : isPt (64 * (64 * (64 * ((x0 : Int) - 240) + x1 - 128) + x2 - 128) + x3 - 128) = true) (hlen : (Lib.runeCells (64 * (64 * (64 * ((x0 : Int) - 240) + x1 - 128) + x2 - 128) + x3 - 128)).length = m) :
    Calls Tryd.prog 66 #[.string s, .int .i64 pos] w fun e w' => e = .returned (.tuple #[.int .i64 (0), .int .i64 0]) ∧ Below w.heap.size w w' := by
  have hz := sz4 (c := (x0 : Int)) (by omega) (by omega)
  have hl0 : (x0 : Int) ≤ 255 := by omega
  have hm' : ((m : Int) != 4) = true := by simp; omega
  go_enter Tryd.func66, Tryd.ntmps66
  go_wp2_with (first
    | (go_at_call 83; refine (size_any _ _ hl0).mono ?_; rintro e w1 ⟨rfl, rfl⟩)
    | (go_at_call 84; refine (isPoint_any _ _).mono ?_; rintro e w1 ⟨rfl, rfl⟩)
    | (go_at_call 67; refine (Bytes_any _ _ hpt).mono ?_; rintro e w1 ⟨rfl, rfl⟩))
  refine wp_loop_rounds 4 ?_
  rw [rounds_succ]
  go_wp2
  rw [rounds_succ]
  go_wp2
  rw [rounds_succ]
  go_wp2
  rw [rounds_succ]
  go_wp2_with (first
    | (go_at_call 83; refine (size_any _ _ hl0).mono ?_; rintro e w1 ⟨rfl, rfl⟩)
    | (go_at_call 84; refine (isPoint_any _ _).mono ?_; rintro e w1 ⟨rfl, rfl⟩)
    | (go_at_call 67; refine (Bytes_any _ _ hpt).mono ?_; rintro e w1 ⟨rfl, rfl⟩))
  go_ret2
  exact ⟨rfl, (Below.refl _ _).alloc (Nat.le_refl _) _⟩
set_option maxHeartbeats 4000000 in
set_option maxRecDepth 100000 in
theorem at_4_none (s : ByteArray) (pos : Nat) (w : World) (hs : s.size ≤ 140737488351232) (hp : pos + 3 < s.size) (x0 x1 x2 x3 : Nat) (e0 : (s[pos]'(by omega)).toNat = x0) (e1 : (s[pos + 1]'(by omega)).toNat = x1) (e2 : (s[pos + 2]'(by omega)).toNat = x2) (e3 : (s[pos + 3]'(by omega)).toNat = x3) (h0 : 240 ≤ x0) (h0' : x0 < 248) (h1 : 128 ≤ x1) (h1' : x1 < 192) (h2 : 128 ≤ x2) (h2' : x2 < 192) (h3 : 128 ≤ x3) (h3' : x3 < 192) (hno : isPt (64 * (64 * (64 * ((x0 : Int) - 240) + x1 - 128) + x2 - 128) + x3 - 128) = false) :
    Calls Tryd.prog 66 #[.string s, .int .i64 pos] w fun e w' => e = .returned (.tuple #[.int .i64 (0), .int .i64 0]) ∧ Below w.heap.size w w' := by
  have hz := sz4 (c := (x0 : Int)) (by omega) (by omega)
  have hl0 : (x0 : Int) ≤ 255 := by omega
  have hpt : isPt 0 = true := rfl
  go_enter Tryd.func66, Tryd.ntmps66
  go_wp2_with (first
    | (go_at_call 83; refine (size_any _ _ hl0).mono ?_; rintro e w1 ⟨rfl, rfl⟩)
    | (go_at_call 84; refine (isPoint_any _ _).mono ?_; rintro e w1 ⟨rfl, rfl⟩)
    | (go_at_call 67; refine (Bytes_any _ _ hpt).mono ?_; rintro e w1 ⟨rfl, rfl⟩))
  refine wp_loop_rounds 4 ?_
  rw [rounds_succ]
  go_wp2
  rw [rounds_succ]
  go_wp2
  rw [rounds_succ]
  go_wp2
  rw [rounds_succ]
  go_wp2_with (first
    | (go_at_call 83; refine (size_any _ _ hl0).mono ?_; rintro e w1 ⟨rfl, rfl⟩)
    | (go_at_call 84; refine (isPoint_any _ _).mono ?_; rintro e w1 ⟨rfl, rfl⟩)
    | (go_at_call 67; refine (Bytes_any _ _ hpt).mono ?_; rintro e w1 ⟨rfl, rfl⟩))
  go_ret2
  exact ⟨rfl, Below.refl _ _⟩
set_option maxHeartbeats 4000000 in
set_option maxRecDepth 100000 in
theorem at_4 (s : ByteArray) (pos : Nat) (w : World) (hs : s.size ≤ 140737488351232) (hp : pos + 3 < s.size) (x0 x1 x2 x3 : Nat) (e0 : (s[pos]'(by omega)).toNat = x0) (e1 : (s[pos + 1]'(by omega)).toNat = x1) (e2 : (s[pos + 2]'(by omega)).toNat = x2) (e3 : (s[pos + 3]'(by omega)).toNat = x3) (h0 : 240 ≤ x0) (h0' : x0 < 248) (h1 : 128 ≤ x1) (h1' : x1 < 192) (h2 : 128 ≤ x2) (h2' : x2 < 192) (h3 : 128 ≤ x3) (h3' : x3 < 192) (hpt : isPt (64 * (64 * (64 * ((x0 : Int) - 240) + x1 - 128) + x2 - 128) + x3 - 128) = true) (hlen : (Lib.runeCells (64 * (64 * (64 * ((x0 : Int) - 240) + x1 - 128) + x2 - 128) + x3 - 128)).length = 4) :
    Calls Tryd.prog 66 #[.string s, .int .i64 pos] w fun e w' => e = .returned (.tuple #[.int .i64 (64 * (64 * (64 * ((x0 : Int) - 240) + x1 - 128) + x2 - 128) + x3 - 128), .int .i64 4]) ∧ Below w.heap.size w w' := by
  have hz := sz4 (c := (x0 : Int)) (by omega) (by omega)
  have hl0 : (x0 : Int) ≤ 255 := by omega
  go_enter Tryd.func66, Tryd.ntmps66
  go_wp2_with (first
    | (go_at_call 83; refine (size_any _ _ hl0).mono ?_; rintro e w1 ⟨rfl, rfl⟩)
    | (go_at_call 84; refine (isPoint_any _ _).mono ?_; rintro e w1 ⟨rfl, rfl⟩)
    | (go_at_call 67; refine (Bytes_any _ _ hpt).mono ?_; rintro e w1 ⟨rfl, rfl⟩))
  refine wp_loop_rounds 4 ?_
  rw [rounds_succ]
  go_wp2
  rw [rounds_succ]
  go_wp2
  rw [rounds_succ]
  go_wp2
  rw [rounds_succ]
  go_wp2_with (first
    | (go_at_call 83; refine (size_any _ _ hl0).mono ?_; rintro e w1 ⟨rfl, rfl⟩)
    | (go_at_call 84; refine (isPoint_any _ _).mono ?_; rintro e w1 ⟨rfl, rfl⟩)
    | (go_at_call 67; refine (Bytes_any _ _ hpt).mono ?_; rintro e w1 ⟨rfl, rfl⟩))
  go_ret2
  exact ⟨rfl, (Below.refl _ _).alloc (Nat.le_refl _) _⟩
end RefW
end Go.Proofs.YtehpdklnebognaaDoor

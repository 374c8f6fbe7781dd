/- What the reference's Bad and what it calls (size, isPoint, Bytes, At, Points) do: contracts, by walking their text. -/
import Derived.Test.YtngfoghnopnbmaaGreatDoorSq
import Derived.Lib.RuneBytes
import Derived.Laws.RangeAny
namespace Go.Proofs.YtngfoghnopnbmaaGreatDoor
open Go.RowKit
namespace RefW

/-- How many bytes a character has whose first one is c; 0: there is none. -/
def sz (c : Int) : Int := if c < 128 then 1 else if 192 ≤ c ∧ c < 224 then 2 else if 224 ≤ c ∧ c < 240 then 3 else if 240 ≤ c ∧ c < 248 then 4 else 0
theorem size_any (c : Int) (w : World) (h1 : c ≤ 255) : Calls Tryz.prog 127 #[.int .u8 c] w fun e w' => e = .returned (.int .i64 (sz c)) ∧ w' = w := by
  have hc : c < 128 ∨ (128 ≤ c ∧ c < 192) ∨ (192 ≤ c ∧ c < 224) ∨ (224 ≤ c ∧ c < 240) ∨ (240 ≤ c ∧ c < 248) ∨ 248 ≤ c := by omega
  rcases hc with hc | hc | hc | hc | hc | hc
  all_goals
    first
      | have e : sz c = 1 := by unfold sz; rw [if_pos (by omega)]
      | have e : sz c = 2 := by unfold sz; rw [if_neg (by omega), if_pos (by omega)]
      | have e : sz c = 3 := by unfold sz; rw [if_neg (by omega), if_neg (by omega), if_pos (by omega)]
      | have e : sz c = 4 := by unfold sz; rw [if_neg (by omega), if_neg (by omega), if_neg (by omega), if_pos (by omega)]
      | have e : sz c = 0 := by unfold sz; rw [if_neg (by omega), if_neg (by omega), if_neg (by omega), if_neg (by omega)]
    rw [e]
    clear e
    go_enter Tryz.func127, Tryz.ntmps127
    go_wp2
    go_ret
    exact ⟨rfl, rfl⟩

theorem ret_bool {a b : Bool} (h : a = b) : Ending.returned (.bool a) = .returned (.bool b) := by rw [h]
/-- Is a number a character's? -/
def isPt (p : Int) : Bool := decide (0 ≤ p ∧ p ≤ 1114111 ∧ (p < 55296 ∨ 57343 < p))
theorem isPoint_any (p : Int) (w : World) : Calls Tryz.prog 128 #[.int .i64 p] w fun e w' => e = .returned (.bool (isPt p)) ∧ w' = w := by
  have hc : p < 0 ∨ 1114111 < p ∨ (0 ≤ p ∧ p < 55296) ∨ (55296 ≤ p ∧ p ≤ 57343) ∨ (57343 < p ∧ p ≤ 1114111) := by omega
  rcases hc with hc | hc | hc | hc | hc
  all_goals
    first
      | have e : isPt p = true := by unfold isPt; rw [decide_eq_true_eq]; omega
      | have e : isPt p = false := by unfold isPt; rw [decide_eq_false_iff_not]; omega
    rw [e]
    clear e
    go_enter Tryz.func128, Tryz.ntmps128
    go_wp2
    go_ret
    first
      | exact ⟨rfl, rfl⟩
      | exact ⟨ret_bool (by rw [decide_eq_false (by omega), decide_eq_false (by omega)]; rfl), rfl⟩
/-- A character's bytes lie in a new block. -/
theorem Bytes_any (p : Int) (w : World) (hp : isPt p = true) : Calls Tryz.prog 129 #[.int .i64 p] w fun e w' =>
    e = .returned (.slice (some ⟨w.heap.size, 0, none⟩) (Lib.runeCells p).length (Lib.runeCells p).length) ∧ w' = w.alloc (.cells (Lib.runeCells p).toArray 5) := by
  unfold isPt at hp
  rw [decide_eq_true_eq] at hp
  have hc : (0 ≤ p ∧ p < 128) ∨ (128 ≤ p ∧ p < 2048) ∨ (2048 ≤ p ∧ p < 65536) ∨ 65536 ≤ p := by omega
  rcases hc with hc | hc | hc | hc
  · have e : Lib.runeCells p = [.int .u8 p] := by unfold Lib.runeCells; rw [Lib.encodeRuneZ_one (by omega) (by omega)]; rfl
    rw [e]
    clear e
    go_enter Tryz.func129, Tryz.ntmps129
    go_wp2
    go_ret
    exact ⟨rfl, rfl⟩
  · have e : Lib.runeCells p = [.int .u8 (192 + p / 64), .int .u8 (128 + p % 64)] := by unfold Lib.runeCells; rw [Lib.encodeRuneZ_two (by omega) (by omega)]; rfl
    rw [e]
    clear e
    go_enter Tryz.func129, Tryz.ntmps129
    go_wp2
    go_ret
    exact ⟨rfl, rfl⟩
  · have e : Lib.runeCells p = [.int .u8 (224 + p / 4096), .int .u8 (128 + p / 64 % 64), .int .u8 (128 + p % 64)] := by unfold Lib.runeCells; rw [Lib.encodeRuneZ_three (by omega)]; rfl
    rw [e]
    clear e
    go_enter Tryz.func129, Tryz.ntmps129
    go_wp2
    go_ret
    exact ⟨rfl, rfl⟩
  · have e : Lib.runeCells p = [.int .u8 (240 + p / 262144), .int .u8 (128 + p / 4096 % 64), .int .u8 (128 + p / 64 % 64), .int .u8 (128 + p % 64)] := by unfold Lib.runeCells; rw [Lib.encodeRuneZ_four (by omega) (by omega)]; rfl
    rw [e]
    clear e
    go_enter Tryz.func129, Tryz.ntmps129
    go_wp2
    go_ret
    exact ⟨rfl, rfl⟩
end RefW
end Go.Proofs.YtngfoghnopnbmaaGreatDoor

namespace Go.Proofs.YtngfoghnopnbmaaGreatDoor
open Go.RowKit
namespace RefW

theorem get_lt (s : ByteArray) (k : Nat) (h : k < s.size) : s.get! k = s[k]'h := by
  cases s with
  | mk d => exact getElem!_pos d k h
theorem sz1 {c : Int} (h : c < 128) : sz c = 1 := by unfold sz; rw [if_pos (by omega)]
theorem sz2 {c : Int} (h : 192 ≤ c) (h' : c < 224) : sz c = 2 := by unfold sz; rw [if_neg (by omega), if_pos (by omega)]
theorem sz3 {c : Int} (h : 224 ≤ c) (h' : c < 240) : sz c = 3 := by unfold sz; rw [if_neg (by omega), if_neg (by omega), if_pos (by omega)]
theorem sz4 {c : Int} (h : 240 ≤ c) (h' : c < 248) : sz c = 4 := by unfold sz; rw [if_neg (by omega), if_neg (by omega), if_neg (by omega), if_pos (by omega)]
theorem sz0 {c : Int} (h : (128 ≤ c ∧ c < 192) ∨ 248 ≤ c) : sz c = 0 := by unfold sz; rw [if_neg (by omega), if_neg (by omega), if_neg (by omega), if_neg (by omega)]

set_option maxHeartbeats 4000000 in
set_option maxRecDepth 100000 in
theorem at_1 (s : ByteArray) (pos : Nat) (w : World) (hs : s.size ≤ 140737488351232) (hp : pos < s.size) (x0 : Nat) (e0 : (s[pos]'(by omega)).toNat = x0) (h0 : x0 < 128) :
    Calls Tryz.prog 90 #[.string s, .int .i64 pos] w fun e w' => e = .returned (.tuple #[.int .i64 ((x0 : Int)), .int .i64 1]) ∧ Below w.heap.size w w' := by
  have hz := sz1 (c := (x0 : Int)) (by omega)
  have hpt : isPt (x0 : Int) = true := by unfold isPt; rw [decide_eq_true_eq]; omega
  have hlen : (Lib.runeCells (x0 : Int)).length = 1 := by unfold Lib.runeCells; rw [Lib.encodeRuneZ_one (by omega) (by omega)]; rfl
  have hl0 : (x0 : Int) ≤ 255 := by omega
  go_enter Tryz.func90, Tryz.ntmps90
  go_wp2_with (first
    | (go_at_call 127; refine (size_any _ _ hl0).mono ?_; rintro e w1 ⟨rfl, rfl⟩)
    | (go_at_call 128; refine (isPoint_any _ _).mono ?_; rintro e w1 ⟨rfl, rfl⟩)
    | (go_at_call 129; refine (Bytes_any _ _ hpt).mono ?_; rintro e w1 ⟨rfl, rfl⟩))
  refine wp_loop_rounds 1 ?_
  rw [rounds_succ]
  go_wp2_with (first
    | (go_at_call 127; refine (size_any _ _ hl0).mono ?_; rintro e w1 ⟨rfl, rfl⟩)
    | (go_at_call 128; refine (isPoint_any _ _).mono ?_; rintro e w1 ⟨rfl, rfl⟩)
    | (go_at_call 129; refine (Bytes_any _ _ hpt).mono ?_; rintro e w1 ⟨rfl, rfl⟩))
  go_ret2
  exact ⟨rfl, (Below.refl _ _).alloc (Nat.le_refl _) _⟩
set_option maxHeartbeats 4000000 in
set_option maxRecDepth 100000 in
theorem at_0 (s : ByteArray) (pos : Nat) (w : World) (_hs : s.size ≤ 140737488351232) (hp : pos < s.size) (x0 : Nat) (e0 : (s[pos]'(by omega)).toNat = x0) (h0 : (128 ≤ x0 ∧ x0 < 192) ∨ (248 ≤ x0 ∧ x0 < 256)) :
    Calls Tryz.prog 90 #[.string s, .int .i64 pos] w fun e w' => e = .returned (.tuple #[.int .i64 (0), .int .i64 0]) ∧ Below w.heap.size w w' := by
  have hz := sz0 (c := (x0 : Int)) (by omega)
  have hl0 : (x0 : Int) ≤ 255 := by omega
  have hpt : isPt 0 = true := rfl
  go_enter Tryz.func90, Tryz.ntmps90
  go_wp2_with (first
    | (go_at_call 127; refine (size_any _ _ hl0).mono ?_; rintro e w1 ⟨rfl, rfl⟩)
    | (go_at_call 128; refine (isPoint_any _ _).mono ?_; rintro e w1 ⟨rfl, rfl⟩)
    | (go_at_call 129; refine (Bytes_any _ _ hpt).mono ?_; rintro e w1 ⟨rfl, rfl⟩))
  go_ret2
  exact ⟨rfl, Below.refl _ _⟩
set_option maxHeartbeats 4000000 in
set_option maxRecDepth 100000 in
theorem at_2_short (s : ByteArray) (pos : Nat) (w : World) (hs : s.size ≤ 140737488351232) (hp : pos < s.size) (hq : s.size < pos + 2) (x0 : Nat) (e0 : (s[pos]'hp).toNat = x0) (h0 : 192 ≤ x0) (h0' : x0 < 224) :
    Calls Tryz.prog 90 #[.string s, .int .i64 pos] w fun e w' => e = .returned (.tuple #[.int .i64 (0), .int .i64 0]) ∧ Below w.heap.size w w' := by
  have hz := sz2 (c := (x0 : Int)) (by omega) (by omega)
  have hl0 : (x0 : Int) ≤ 255 := by omega
  have hpt : isPt 0 = true := rfl
  go_enter Tryz.func90, Tryz.ntmps90
  go_wp2_with (first
    | (go_at_call 127; refine (size_any _ _ hl0).mono ?_; rintro e w1 ⟨rfl, rfl⟩)
    | (go_at_call 128; refine (isPoint_any _ _).mono ?_; rintro e w1 ⟨rfl, rfl⟩)
    | (go_at_call 129; refine (Bytes_any _ _ hpt).mono ?_; rintro e w1 ⟨rfl, rfl⟩))
  go_ret2
  exact ⟨rfl, Below.refl _ _⟩
set_option maxHeartbeats 4000000 in
set_option maxRecDepth 100000 in
theorem at_2_c1 (s : ByteArray) (pos : Nat) (w : World) (hs : s.size ≤ 140737488351232) (hp : pos + 1 < s.size) (x0 x1 : Nat) (e0 : (s[pos]'(by omega)).toNat = x0) (e1 : (s[pos + 1]'(by omega)).toNat = x1) (h0 : 192 ≤ x0) (h0' : x0 < 224) (hk : x1 < 128 ∨ (191 < x1 ∧ x1 < 256)) :
    Calls Tryz.prog 90 #[.string s, .int .i64 pos] w fun e w' => e = .returned (.tuple #[.int .i64 (0), .int .i64 0]) ∧ Below w.heap.size w w' := by
  have hz := sz2 (c := (x0 : Int)) (by omega) (by omega)
  have hl0 : (x0 : Int) ≤ 255 := by omega
  have hpt : isPt 0 = true := rfl
  rcases hk with hk | ⟨hk, hk'⟩
  · go_enter Tryz.func90, Tryz.ntmps90
    go_wp2_with (first
      | (go_at_call 127; refine (size_any _ _ hl0).mono ?_; rintro e w1 ⟨rfl, rfl⟩)
      | (go_at_call 128; refine (isPoint_any _ _).mono ?_; rintro e w1 ⟨rfl, rfl⟩)
      | (go_at_call 129; refine (Bytes_any _ _ hpt).mono ?_; rintro e w1 ⟨rfl, rfl⟩))
    refine wp_loop_rounds 1 ?_
    rw [rounds_succ]
    go_wp2_with (first
      | (go_at_call 127; refine (size_any _ _ hl0).mono ?_; rintro e w1 ⟨rfl, rfl⟩)
      | (go_at_call 128; refine (isPoint_any _ _).mono ?_; rintro e w1 ⟨rfl, rfl⟩)
      | (go_at_call 129; refine (Bytes_any _ _ hpt).mono ?_; rintro e w1 ⟨rfl, rfl⟩))
    go_ret2
    exact ⟨rfl, Below.refl _ _⟩
  · go_enter Tryz.func90, Tryz.ntmps90
    go_wp2_with (first
      | (go_at_call 127; refine (size_any _ _ hl0).mono ?_; rintro e w1 ⟨rfl, rfl⟩)
      | (go_at_call 128; refine (isPoint_any _ _).mono ?_; rintro e w1 ⟨rfl, rfl⟩)
      | (go_at_call 129; refine (Bytes_any _ _ hpt).mono ?_; rintro e w1 ⟨rfl, rfl⟩))
    refine wp_loop_rounds 1 ?_
    rw [rounds_succ]
    go_wp2_with (first
      | (go_at_call 127; refine (size_any _ _ hl0).mono ?_; rintro e w1 ⟨rfl, rfl⟩)
      | (go_at_call 128; refine (isPoint_any _ _).mono ?_; rintro e w1 ⟨rfl, rfl⟩)
      | (go_at_call 129; refine (Bytes_any _ _ hpt).mono ?_; rintro e w1 ⟨rfl, rfl⟩))
    go_ret2
    exact ⟨rfl, Below.refl _ _⟩
set_option maxHeartbeats 4000000 in
set_option maxRecDepth 100000 in
theorem at_2_long (s : ByteArray) (pos : Nat) (w : World) (hs : s.size ≤ 140737488351232) (hp : pos + 1 < s.size) (x0 x1 : Nat) (e0 : (s[pos]'(by omega)).toNat = x0) (e1 : (s[pos + 1]'(by omega)).toNat = x1) (h0 : 192 ≤ x0) (h0' : x0 < 224) (h1 : 128 ≤ x1) (h1' : x1 < 192) (hl : 64 * ((x0 : Int) - 192) + x1 - 128 < 128) (m : Nat) (hm : m ≠ 2) (hpt : isPt (64 * ((x0 : Int) - 192) + x1 - 128) = true) (hlen : (Lib.runeCells (64 * ((x0 : Int) - 192) + x1 - 128)).length = m) :
    Calls Tryz.prog 90 #[.string s, .int .i64 pos] w fun e w' => e = .returned (.tuple #[.int .i64 (0), .int .i64 0]) ∧ Below w.heap.size w w' := by
  have hz := sz2 (c := (x0 : Int)) (by omega) (by omega)
  have hl0 : (x0 : Int) ≤ 255 := by omega
  have hm' : ((m : Int) != 2) = true := by simp; omega
  go_enter Tryz.func90, Tryz.ntmps90
  go_wp2_with (first
    | (go_at_call 127; refine (size_any _ _ hl0).mono ?_; rintro e w1 ⟨rfl, rfl⟩)
    | (go_at_call 128; refine (isPoint_any _ _).mono ?_; rintro e w1 ⟨rfl, rfl⟩)
    | (go_at_call 129; refine (Bytes_any _ _ hpt).mono ?_; rintro e w1 ⟨rfl, rfl⟩))
  refine wp_loop_rounds 2 ?_
  rw [rounds_succ]
  go_wp2
  rw [rounds_succ]
  go_wp2_with (first
    | (go_at_call 127; refine (size_any _ _ hl0).mono ?_; rintro e w1 ⟨rfl, rfl⟩)
    | (go_at_call 128; refine (isPoint_any _ _).mono ?_; rintro e w1 ⟨rfl, rfl⟩)
    | (go_at_call 129; refine (Bytes_any _ _ hpt).mono ?_; rintro e w1 ⟨rfl, rfl⟩))
  go_ret2
  exact ⟨rfl, (Below.refl _ _).alloc (Nat.le_refl _) _⟩
set_option maxHeartbeats 4000000 in
set_option maxRecDepth 100000 in
theorem at_2 (s : ByteArray) (pos : Nat) (w : World) (hs : s.size ≤ 140737488351232) (hp : pos + 1 < s.size) (x0 x1 : Nat) (e0 : (s[pos]'(by omega)).toNat = x0) (e1 : (s[pos + 1]'(by omega)).toNat = x1) (h0 : 192 ≤ x0) (h0' : x0 < 224) (h1 : 128 ≤ x1) (h1' : x1 < 192) (hpt : isPt (64 * ((x0 : Int) - 192) + x1 - 128) = true) (hlen : (Lib.runeCells (64 * ((x0 : Int) - 192) + x1 - 128)).length = 2) :
    Calls Tryz.prog 90 #[.string s, .int .i64 pos] w fun e w' => e = .returned (.tuple #[.int .i64 (64 * ((x0 : Int) - 192) + x1 - 128), .int .i64 2]) ∧ Below w.heap.size w w' := by
  have hz := sz2 (c := (x0 : Int)) (by omega) (by omega)
  have hl0 : (x0 : Int) ≤ 255 := by omega
  go_enter Tryz.func90, Tryz.ntmps90
  go_wp2_with (first
    | (go_at_call 127; refine (size_any _ _ hl0).mono ?_; rintro e w1 ⟨rfl, rfl⟩)
    | (go_at_call 128; refine (isPoint_any _ _).mono ?_; rintro e w1 ⟨rfl, rfl⟩)
    | (go_at_call 129; refine (Bytes_any _ _ hpt).mono ?_; rintro e w1 ⟨rfl, rfl⟩))
  refine wp_loop_rounds 2 ?_
  rw [rounds_succ]
  go_wp2
  rw [rounds_succ]
  go_wp2_with (first
    | (go_at_call 127; refine (size_any _ _ hl0).mono ?_; rintro e w1 ⟨rfl, rfl⟩)
    | (go_at_call 128; refine (isPoint_any _ _).mono ?_; rintro e w1 ⟨rfl, rfl⟩)
    | (go_at_call 129; refine (Bytes_any _ _ hpt).mono ?_; rintro e w1 ⟨rfl, rfl⟩))
  go_ret2
  exact ⟨rfl, (Below.refl _ _).alloc (Nat.le_refl _) _⟩
set_option maxHeartbeats 4000000 in
set_option maxRecDepth 100000 in
theorem at_3_short (s : ByteArray) (pos : Nat) (w : World) (hs : s.size ≤ 140737488351232) (hp : pos < s.size) (hq : s.size < pos + 3) (x0 : Nat) (e0 : (s[pos]'hp).toNat = x0) (h0 : 224 ≤ x0) (h0' : x0 < 240) :
    Calls Tryz.prog 90 #[.string s, .int .i64 pos] w fun e w' => e = .returned (.tuple #[.int .i64 (0), .int .i64 0]) ∧ Below w.heap.size w w' := by
  have hz := sz3 (c := (x0 : Int)) (by omega) (by omega)
  have hl0 : (x0 : Int) ≤ 255 := by omega
  have hpt : isPt 0 = true := rfl
  go_enter Tryz.func90, Tryz.ntmps90
  go_wp2_with (first
    | (go_at_call 127; refine (size_any _ _ hl0).mono ?_; rintro e w1 ⟨rfl, rfl⟩)
    | (go_at_call 128; refine (isPoint_any _ _).mono ?_; rintro e w1 ⟨rfl, rfl⟩)
    | (go_at_call 129; refine (Bytes_any _ _ hpt).mono ?_; rintro e w1 ⟨rfl, rfl⟩))
  go_ret2
  exact ⟨rfl, Below.refl _ _⟩
set_option maxHeartbeats 4000000 in
set_option maxRecDepth 100000 in
theorem at_3_c1 (s : ByteArray) (pos : Nat) (w : World) (hs : s.size ≤ 140737488351232) (hp : pos + 2 < s.size) (x0 x1 : Nat) (e0 : (s[pos]'(by omega)).toNat = x0) (e1 : (s[pos + 1]'(by omega)).toNat = x1) (h0 : 224 ≤ x0) (h0' : x0 < 240) (hk : x1 < 128 ∨ (191 < x1 ∧ x1 < 256)) :
    Calls Tryz.prog 90 #[.string s, .int .i64 pos] w fun e w' => e = .returned (.tuple #[.int .i64 (0), .int .i64 0]) ∧ Below w.heap.size w w' := by
  have hz := sz3 (c := (x0 : Int)) (by omega) (by omega)
  have hl0 : (x0 : Int) ≤ 255 := by omega
  have hpt : isPt 0 = true := rfl
  rcases hk with hk | ⟨hk, hk'⟩
  · go_enter Tryz.func90, Tryz.ntmps90
    go_wp2_with (first
      | (go_at_call 127; refine (size_any _ _ hl0).mono ?_; rintro e w1 ⟨rfl, rfl⟩)
      | (go_at_call 128; refine (isPoint_any _ _).mono ?_; rintro e w1 ⟨rfl, rfl⟩)
      | (go_at_call 129; refine (Bytes_any _ _ hpt).mono ?_; rintro e w1 ⟨rfl, rfl⟩))
    refine wp_loop_rounds 1 ?_
    rw [rounds_succ]
    go_wp2_with (first
      | (go_at_call 127; refine (size_any _ _ hl0).mono ?_; rintro e w1 ⟨rfl, rfl⟩)
      | (go_at_call 128; refine (isPoint_any _ _).mono ?_; rintro e w1 ⟨rfl, rfl⟩)
      | (go_at_call 129; refine (Bytes_any _ _ hpt).mono ?_; rintro e w1 ⟨rfl, rfl⟩))
    go_ret2
    exact ⟨rfl, Below.refl _ _⟩
  · go_enter Tryz.func90, Tryz.ntmps90
    go_wp2_with (first
      | (go_at_call 127; refine (size_any _ _ hl0).mono ?_; rintro e w1 ⟨rfl, rfl⟩)
      | (go_at_call 128; refine (isPoint_any _ _).mono ?_; rintro e w1 ⟨rfl, rfl⟩)
      | (go_at_call 129; refine (Bytes_any _ _ hpt).mono ?_; rintro e w1 ⟨rfl, rfl⟩))
    refine wp_loop_rounds 1 ?_
    rw [rounds_succ]
    go_wp2_with (first
      | (go_at_call 127; refine (size_any _ _ hl0).mono ?_; rintro e w1 ⟨rfl, rfl⟩)
      | (go_at_call 128; refine (isPoint_any _ _).mono ?_; rintro e w1 ⟨rfl, rfl⟩)
      | (go_at_call 129; refine (Bytes_any _ _ hpt).mono ?_; rintro e w1 ⟨rfl, rfl⟩))
    go_ret2
    exact ⟨rfl, Below.refl _ _⟩
set_option maxHeartbeats 4000000 in
set_option maxRecDepth 100000 in
theorem at_3_c2 (s : ByteArray) (pos : Nat) (w : World) (hs : s.size ≤ 140737488351232) (hp : pos + 2 < s.size) (x0 x1 x2 : Nat) (e0 : (s[pos]'(by omega)).toNat = x0) (e1 : (s[pos + 1]'(by omega)).toNat = x1) (e2 : (s[pos + 2]'(by omega)).toNat = x2) (h0 : 224 ≤ x0) (h0' : x0 < 240) (h1 : 128 ≤ x1) (h1' : x1 < 192) (hk : x2 < 128 ∨ (191 < x2 ∧ x2 < 256)) :
    Calls Tryz.prog 90 #[.string s, .int .i64 pos] w fun e w' => e = .returned (.tuple #[.int .i64 (0), .int .i64 0]) ∧ Below w.heap.size w w' := by
  have hz := sz3 (c := (x0 : Int)) (by omega) (by omega)
  have hl0 : (x0 : Int) ≤ 255 := by omega
  have hpt : isPt 0 = true := rfl
  rcases hk with hk | ⟨hk, hk'⟩
  · go_enter Tryz.func90, Tryz.ntmps90
    go_wp2_with (first
      | (go_at_call 127; refine (size_any _ _ hl0).mono ?_; rintro e w1 ⟨rfl, rfl⟩)
      | (go_at_call 128; refine (isPoint_any _ _).mono ?_; rintro e w1 ⟨rfl, rfl⟩)
      | (go_at_call 129; refine (Bytes_any _ _ hpt).mono ?_; rintro e w1 ⟨rfl, rfl⟩))
    refine wp_loop_rounds 2 ?_
    rw [rounds_succ]
    go_wp2
    rw [rounds_succ]
    go_wp2_with (first
      | (go_at_call 127; refine (size_any _ _ hl0).mono ?_; rintro e w1 ⟨rfl, rfl⟩)
      | (go_at_call 128; refine (isPoint_any _ _).mono ?_; rintro e w1 ⟨rfl, rfl⟩)
      | (go_at_call 129; refine (Bytes_any _ _ hpt).mono ?_; rintro e w1 ⟨rfl, rfl⟩))
    go_ret2
    exact ⟨rfl, Below.refl _ _⟩
  · go_enter Tryz.func90, Tryz.ntmps90
    go_wp2_with (first
      | (go_at_call 127; refine (size_any _ _ hl0).mono ?_; rintro e w1 ⟨rfl, rfl⟩)
      | (go_at_call 128; refine (isPoint_any _ _).mono ?_; rintro e w1 ⟨rfl, rfl⟩)
      | (go_at_call 129; refine (Bytes_any _ _ hpt).mono ?_; rintro e w1 ⟨rfl, rfl⟩))
    refine wp_loop_rounds 2 ?_
    rw [rounds_succ]
    go_wp2
    rw [rounds_succ]
    go_wp2_with (first
      | (go_at_call 127; refine (size_any _ _ hl0).mono ?_; rintro e w1 ⟨rfl, rfl⟩)
      | (go_at_call 128; refine (isPoint_any _ _).mono ?_; rintro e w1 ⟨rfl, rfl⟩)
      | (go_at_call 129; refine (Bytes_any _ _ hpt).mono ?_; rintro e w1 ⟨rfl, rfl⟩))
    go_ret2
    exact ⟨rfl, Below.refl _ _⟩
set_option maxHeartbeats 4000000 in
set_option maxRecDepth 100000 in
theorem at_3_long (s : ByteArray) (pos : Nat) (w : World) (hs : s.size ≤ 140737488351232) (hp : pos + 2 < s.size) (x0 x1 x2 : Nat) (e0 : (s[pos]'(by omega)).toNat = x0) (e1 : (s[pos + 1]'(by omega)).toNat = x1) (e2 : (s[pos + 2]'(by omega)).toNat = x2) (h0 : 224 ≤ x0) (h0' : x0 < 240) (h1 : 128 ≤ x1) (h1' : x1 < 192) (h2 : 128 ≤ x2) (h2' : x2 < 192) (hl : 64 * (64 * ((x0 : Int) - 224) + x1 - 128) + x2 - 128 < 2048) (m : Nat) (hm : m ≠ 3) (hpt : isPt (64 * (64 * ((x0 : Int) - 224) + x1 - 128) + x2 - 128) = true) (hlen : (Lib.runeCells (64 * (64 * ((x0 : Int) - 224) + x1 - 128) + x2 - 128)).length = m) :
    Calls Tryz.prog 90 #[.string s, .int .i64 pos] w fun e w' => e = .returned (.tuple #[.int .i64 (0), .int .i64 0]) ∧ Below w.heap.size w w' := by
  have hz := sz3 (c := (x0 : Int)) (by omega) (by omega)
  have hl0 : (x0 : Int) ≤ 255 := by omega
  have hm' : ((m : Int) != 3) = true := by simp; omega
  go_enter Tryz.func90, Tryz.ntmps90
  go_wp2_with (first
    | (go_at_call 127; refine (size_any _ _ hl0).mono ?_; rintro e w1 ⟨rfl, rfl⟩)
    | (go_at_call 128; refine (isPoint_any _ _).mono ?_; rintro e w1 ⟨rfl, rfl⟩)
    | (go_at_call 129; refine (Bytes_any _ _ hpt).mono ?_; rintro e w1 ⟨rfl, rfl⟩))
  refine wp_loop_rounds 3 ?_
  rw [rounds_succ]
  go_wp2
  rw [rounds_succ]
  go_wp2
  rw [rounds_succ]
  go_wp2_with (first
    | (go_at_call 127; refine (size_any _ _ hl0).mono ?_; rintro e w1 ⟨rfl, rfl⟩)
    | (go_at_call 128; refine (isPoint_any _ _).mono ?_; rintro e w1 ⟨rfl, rfl⟩)
    | (go_at_call 129; refine (Bytes_any _ _ hpt).mono ?_; rintro e w1 ⟨rfl, rfl⟩))
  go_ret2
  exact ⟨rfl, (Below.refl _ _).alloc (Nat.le_refl _) _⟩
set_option maxHeartbeats 4000000 in
set_option maxRecDepth 100000 in
theorem at_3_none (s : ByteArray) (pos : Nat) (w : World) (hs : s.size ≤ 140737488351232) (hp : pos + 2 < s.size) (x0 x1 x2 : Nat) (e0 : (s[pos]'(by omega)).toNat = x0) (e1 : (s[pos + 1]'(by omega)).toNat = x1) (e2 : (s[pos + 2]'(by omega)).toNat = x2) (h0 : 224 ≤ x0) (h0' : x0 < 240) (h1 : 128 ≤ x1) (h1' : x1 < 192) (h2 : 128 ≤ x2) (h2' : x2 < 192) (hno : isPt (64 * (64 * ((x0 : Int) - 224) + x1 - 128) + x2 - 128) = false) :
    Calls Tryz.prog 90 #[.string s, .int .i64 pos] w fun e w' => e = .returned (.tuple #[.int .i64 (0), .int .i64 0]) ∧ Below w.heap.size w w' := by
  have hz := sz3 (c := (x0 : Int)) (by omega) (by omega)
  have hl0 : (x0 : Int) ≤ 255 := by omega
  have hpt : isPt 0 = true := rfl
  go_enter Tryz.func90, Tryz.ntmps90
  go_wp2_with (first
    | (go_at_call 127; refine (size_any _ _ hl0).mono ?_; rintro e w1 ⟨rfl, rfl⟩)
    | (go_at_call 128; refine (isPoint_any _ _).mono ?_; rintro e w1 ⟨rfl, rfl⟩)
    | (go_at_call 129; refine (Bytes_any _ _ hpt).mono ?_; rintro e w1 ⟨rfl, rfl⟩))
  refine wp_loop_rounds 3 ?_
  rw [rounds_succ]
  go_wp2
  rw [rounds_succ]
  go_wp2
  rw [rounds_succ]
  go_wp2_with (first
    | (go_at_call 127; refine (size_any _ _ hl0).mono ?_; rintro e w1 ⟨rfl, rfl⟩)
    | (go_at_call 128; refine (isPoint_any _ _).mono ?_; rintro e w1 ⟨rfl, rfl⟩)
    | (go_at_call 129; refine (Bytes_any _ _ hpt).mono ?_; rintro e w1 ⟨rfl, rfl⟩))
  go_ret2
  exact ⟨rfl, Below.refl _ _⟩
set_option maxHeartbeats 4000000 in
set_option maxRecDepth 100000 in
theorem at_3 (s : ByteArray) (pos : Nat) (w : World) (hs : s.size ≤ 140737488351232) (hp : pos + 2 < s.size) (x0 x1 x2 : Nat) (e0 : (s[pos]'(by omega)).toNat = x0) (e1 : (s[pos + 1]'(by omega)).toNat = x1) (e2 : (s[pos + 2]'(by omega)).toNat = x2) (h0 : 224 ≤ x0) (h0' : x0 < 240) (h1 : 128 ≤ x1) (h1' : x1 < 192) (h2 : 128 ≤ x2) (h2' : x2 < 192) (hpt : isPt (64 * (64 * ((x0 : Int) - 224) + x1 - 128) + x2 - 128) = true) (hlen : (Lib.runeCells (64 * (64 * ((x0 : Int) - 224) + x1 - 128) + x2 - 128)).length = 3) :
    Calls Tryz.prog 90 #[.string s, .int .i64 pos] w fun e w' => e = .returned (.tuple #[.int .i64 (64 * (64 * ((x0 : Int) - 224) + x1 - 128) + x2 - 128), .int .i64 3]) ∧ Below w.heap.size w w' := by
  have hz := sz3 (c := (x0 : Int)) (by omega) (by omega)
  have hl0 : (x0 : Int) ≤ 255 := by omega
  go_enter Tryz.func90, Tryz.ntmps90
  go_wp2_with (first
    | (go_at_call 127; refine (size_any _ _ hl0).mono ?_; rintro e w1 ⟨rfl, rfl⟩)
    | (go_at_call 128; refine (isPoint_any _ _).mono ?_; rintro e w1 ⟨rfl, rfl⟩)
    | (go_at_call 129; refine (Bytes_any _ _ hpt).mono ?_; rintro e w1 ⟨rfl, rfl⟩))
  refine wp_loop_rounds 3 ?_
  rw [rounds_succ]
  go_wp2
  rw [rounds_succ]
  go_wp2
  rw [rounds_succ]
  go_wp2_with (first
    | (go_at_call 127; refine (size_any _ _ hl0).mono ?_; rintro e w1 ⟨rfl, rfl⟩)
    | (go_at_call 128; refine (isPoint_any _ _).mono ?_; rintro e w1 ⟨rfl, rfl⟩)
    | (go_at_call 129; refine (Bytes_any _ _ hpt).mono ?_; rintro e w1 ⟨rfl, rfl⟩))
  go_ret2
  exact ⟨rfl, (Below.refl _ _).alloc (Nat.le_refl _) _⟩
set_option maxHeartbeats 4000000 in
set_option maxRecDepth 100000 in
theorem at_4_short (s : ByteArray) (pos : Nat) (w : World) (hs : s.size ≤ 140737488351232) (hp : pos < s.size) (hq : s.size < pos + 4) (x0 : Nat) (e0 : (s[pos]'hp).toNat = x0) (h0 : 240 ≤ x0) (h0' : x0 < 248) :
    Calls Tryz.prog 90 #[.string s, .int .i64 pos] w fun e w' => e = .returned (.tuple #[.int .i64 (0), .int .i64 0]) ∧ Below w.heap.size w w' := by
  have hz := sz4 (c := (x0 : Int)) (by omega) (by omega)
  have hl0 : (x0 : Int) ≤ 255 := by omega
  have hpt : isPt 0 = true := rfl
  go_enter Tryz.func90, Tryz.ntmps90
  go_wp2_with (first
    | (go_at_call 127; refine (size_any _ _ hl0).mono ?_; rintro e w1 ⟨rfl, rfl⟩)
    | (go_at_call 128; refine (isPoint_any _ _).mono ?_; rintro e w1 ⟨rfl, rfl⟩)
    | (go_at_call 129; refine (Bytes_any _ _ hpt).mono ?_; rintro e w1 ⟨rfl, rfl⟩))
  go_ret2
  exact ⟨rfl, Below.refl _ _⟩
set_option maxHeartbeats 4000000 in
set_option maxRecDepth 100000 in
theorem at_4_c1 (s : ByteArray) (pos : Nat) (w : World) (hs : s.size ≤ 140737488351232) (hp : pos + 3 < s.size) (x0 x1 : Nat) (e0 : (s[pos]'(by omega)).toNat = x0) (e1 : (s[pos + 1]'(by omega)).toNat = x1) (h0 : 240 ≤ x0) (h0' : x0 < 248) (hk : x1 < 128 ∨ (191 < x1 ∧ x1 < 256)) :
    Calls Tryz.prog 90 #[.string s, .int .i64 pos] w fun e w' => e = .returned (.tuple #[.int .i64 (0), .int .i64 0]) ∧ Below w.heap.size w w' := by
  have hz := sz4 (c := (x0 : Int)) (by omega) (by omega)
  have hl0 : (x0 : Int) ≤ 255 := by omega
  have hpt : isPt 0 = true := rfl
  rcases hk with hk | ⟨hk, hk'⟩
  · go_enter Tryz.func90, Tryz.ntmps90
    go_wp2_with (first
      | (go_at_call 127; refine (size_any _ _ hl0).mono ?_; rintro e w1 ⟨rfl, rfl⟩)
      | (go_at_call 128; refine (isPoint_any _ _).mono ?_; rintro e w1 ⟨rfl, rfl⟩)
      | (go_at_call 129; refine (Bytes_any _ _ hpt).mono ?_; rintro e w1 ⟨rfl, rfl⟩))
    refine wp_loop_rounds 1 ?_
    rw [rounds_succ]
    go_wp2_with (first
      | (go_at_call 127; refine (size_any _ _ hl0).mono ?_; rintro e w1 ⟨rfl, rfl⟩)
      | (go_at_call 128; refine (isPoint_any _ _).mono ?_; rintro e w1 ⟨rfl, rfl⟩)
      | (go_at_call 129; refine (Bytes_any _ _ hpt).mono ?_; rintro e w1 ⟨rfl, rfl⟩))
    go_ret2
    exact ⟨rfl, Below.refl _ _⟩
  · go_enter Tryz.func90, Tryz.ntmps90
    go_wp2_with (first
      | (go_at_call 127; refine (size_any _ _ hl0).mono ?_; rintro e w1 ⟨rfl, rfl⟩)
      | (go_at_call 128; refine (isPoint_any _ _).mono ?_; rintro e w1 ⟨rfl, rfl⟩)
      | (go_at_call 129; refine (Bytes_any _ _ hpt).mono ?_; rintro e w1 ⟨rfl, rfl⟩))
    refine wp_loop_rounds 1 ?_
    rw [rounds_succ]
    go_wp2_with (first
      | (go_at_call 127; refine (size_any _ _ hl0).mono ?_; rintro e w1 ⟨rfl, rfl⟩)
      | (go_at_call 128; refine (isPoint_any _ _).mono ?_; rintro e w1 ⟨rfl, rfl⟩)
      | (go_at_call 129; refine (Bytes_any _ _ hpt).mono ?_; rintro e w1 ⟨rfl, rfl⟩))
    go_ret2
    exact ⟨rfl, Below.refl _ _⟩
set_option maxHeartbeats 4000000 in
set_option maxRecDepth 100000 in
theorem at_4_c2 (s : ByteArray) (pos : Nat) (w : World) (hs : s.size ≤ 140737488351232) (hp : pos + 3 < s.size) (x0 x1 x2 : Nat) (e0 : (s[pos]'(by omega)).toNat = x0) (e1 : (s[pos + 1]'(by omega)).toNat = x1) (e2 : (s[pos + 2]'(by omega)).toNat = x2) (h0 : 240 ≤ x0) (h0' : x0 < 248) (h1 : 128 ≤ x1) (h1' : x1 < 192) (hk : x2 < 128 ∨ (191 < x2 ∧ x2 < 256)) :
    Calls Tryz.prog 90 #[.string s, .int .i64 pos] w fun e w' => e = .returned (.tuple #[.int .i64 (0), .int .i64 0]) ∧ Below w.heap.size w w' := by
  have hz := sz4 (c := (x0 : Int)) (by omega) (by omega)
  have hl0 : (x0 : Int) ≤ 255 := by omega
  have hpt : isPt 0 = true := rfl
  rcases hk with hk | ⟨hk, hk'⟩
  · go_enter Tryz.func90, Tryz.ntmps90
    go_wp2_with (first
      | (go_at_call 127; refine (size_any _ _ hl0).mono ?_; rintro e w1 ⟨rfl, rfl⟩)
      | (go_at_call 128; refine (isPoint_any _ _).mono ?_; rintro e w1 ⟨rfl, rfl⟩)
      | (go_at_call 129; refine (Bytes_any _ _ hpt).mono ?_; rintro e w1 ⟨rfl, rfl⟩))
    refine wp_loop_rounds 2 ?_
    rw [rounds_succ]
    go_wp2
    rw [rounds_succ]
    go_wp2_with (first
      | (go_at_call 127; refine (size_any _ _ hl0).mono ?_; rintro e w1 ⟨rfl, rfl⟩)
      | (go_at_call 128; refine (isPoint_any _ _).mono ?_; rintro e w1 ⟨rfl, rfl⟩)
      | (go_at_call 129; refine (Bytes_any _ _ hpt).mono ?_; rintro e w1 ⟨rfl, rfl⟩))
    go_ret2
    exact ⟨rfl, Below.refl _ _⟩
  · go_enter Tryz.func90, Tryz.ntmps90
    go_wp2_with (first
      | (go_at_call 127; refine (size_any _ _ hl0).mono ?_; rintro e w1 ⟨rfl, rfl⟩)
      | (go_at_call 128; refine (isPoint_any _ _).mono ?_; rintro e w1 ⟨rfl, rfl⟩)
      | (go_at_call 129; refine (Bytes_any _ _ hpt).mono ?_; rintro e w1 ⟨rfl, rfl⟩))
    refine wp_loop_rounds 2 ?_
    rw [rounds_succ]
    go_wp2
    rw [rounds_succ]
    go_wp2_with (first
      | (go_at_call 127; refine (size_any _ _ hl0).mono ?_; rintro e w1 ⟨rfl, rfl⟩)
      | (go_at_call 128; refine (isPoint_any _ _).mono ?_; rintro e w1 ⟨rfl, rfl⟩)
      | (go_at_call 129; refine (Bytes_any _ _ hpt).mono ?_; rintro e w1 ⟨rfl, rfl⟩))
    go_ret2
    exact ⟨rfl, Below.refl _ _⟩
set_option maxHeartbeats 4000000 in
set_option maxRecDepth 100000 in
theorem at_4_c3 (s : ByteArray) (pos : Nat) (w : World) (hs : s.size ≤ 140737488351232) (hp : pos + 3 < s.size) (x0 x1 x2 x3 : Nat) (e0 : (s[pos]'(by omega)).toNat = x0) (e1 : (s[pos + 1]'(by omega)).toNat = x1) (e2 : (s[pos + 2]'(by omega)).toNat = x2) (e3 : (s[pos + 3]'(by omega)).toNat = x3) (h0 : 240 ≤ x0) (h0' : x0 < 248) (h1 : 128 ≤ x1) (h1' : x1 < 192) (h2 : 128 ≤ x2) (h2' : x2 < 192) (hk : x3 < 128 ∨ (191 < x3 ∧ x3 < 256)) :
    Calls Tryz.prog 90 #[.string s, .int .i64 pos] w fun e w' => e = .returned (.tuple #[.int .i64 (0), .int .i64 0]) ∧ Below w.heap.size w w' := by
  have hz := sz4 (c := (x0 : Int)) (by omega) (by omega)
  have hl0 : (x0 : Int) ≤ 255 := by omega
  have hpt : isPt 0 = true := rfl
  rcases hk with hk | ⟨hk, hk'⟩
  · go_enter Tryz.func90, Tryz.ntmps90
    go_wp2_with (first
      | (go_at_call 127; refine (size_any _ _ hl0).mono ?_; rintro e w1 ⟨rfl, rfl⟩)
      | (go_at_call 128; refine (isPoint_any _ _).mono ?_; rintro e w1 ⟨rfl, rfl⟩)
      | (go_at_call 129; refine (Bytes_any _ _ hpt).mono ?_; rintro e w1 ⟨rfl, rfl⟩))
    refine wp_loop_rounds 3 ?_
    rw [rounds_succ]
    go_wp2
    rw [rounds_succ]
    go_wp2
    rw [rounds_succ]
    go_wp2_with (first
      | (go_at_call 127; refine (size_any _ _ hl0).mono ?_; rintro e w1 ⟨rfl, rfl⟩)
      | (go_at_call 128; refine (isPoint_any _ _).mono ?_; rintro e w1 ⟨rfl, rfl⟩)
      | (go_at_call 129; refine (Bytes_any _ _ hpt).mono ?_; rintro e w1 ⟨rfl, rfl⟩))
    go_ret2
    exact ⟨rfl, Below.refl _ _⟩
  · go_enter Tryz.func90, Tryz.ntmps90
    go_wp2_with (first
      | (go_at_call 127; refine (size_any _ _ hl0).mono ?_; rintro e w1 ⟨rfl, rfl⟩)
      | (go_at_call 128; refine (isPoint_any _ _).mono ?_; rintro e w1 ⟨rfl, rfl⟩)
      | (go_at_call 129; refine (Bytes_any _ _ hpt).mono ?_; rintro e w1 ⟨rfl, rfl⟩))
    refine wp_loop_rounds 3 ?_
    rw [rounds_succ]
    go_wp2
    rw [rounds_succ]
    go_wp2
    rw [rounds_succ]
    go_wp2_with (first
      | (go_at_call 127; refine (size_any _ _ hl0).mono ?_; rintro e w1 ⟨rfl, rfl⟩)
      | (go_at_call 128; refine (isPoint_any _ _).mono ?_; rintro e w1 ⟨rfl, rfl⟩)
      | (go_at_call 129; refine (Bytes_any _ _ hpt).mono ?_; rintro e w1 ⟨rfl, rfl⟩))
    go_ret2
    exact ⟨rfl, Below.refl _ _⟩
set_option maxHeartbeats 4000000 in
set_option maxRecDepth 100000 in
theorem at_4_long (s : ByteArray) (pos : Nat) (w : World) (hs : s.size ≤ 140737488351232) (hp : pos + 3 < s.size) (x0 x1 x2 x3 : Nat) (e0 : (s[pos]'(by omega)).toNat = x0) (e1 : (s[pos + 1]'(by omega)).toNat = x1) (e2 : (s[pos + 2]'(by omega)).toNat = x2) (e3 : (s[pos + 3]'(by omega)).toNat = x3) (h0 : 240 ≤ x0) (h0' : x0 < 248) (h1 : 128 ≤ x1) (h1' : x1 < 192) (h2 : 128 ≤ x2) (h2' : x2 < 192) (h3 : 128 ≤ x3) (h3' : x3 < 192) (hl : 64 * (64 * (64 * ((x0 : Int) - 240) + x1 - 128) + x2 - 128) + x3 - 128 < 65536) (m : Nat) (hm : m ≠ 4) (hpt : isPt (64 * (64 * (64 * ((x0 : Int) - 240) + x1 - 128) + x2 - 128) + x3 - 128) = true) (hlen : (Lib.runeCells (64 * (64 * (64 * ((x0 : Int) - 240) + x1 - 128) + x2 - 128) + x3 - 128)).length = m) :
    Calls Tryz.prog 90 #[.string s, .int .i64 pos] w fun e w' => e = .returned (.tuple #[.int .i64 (0), .int .i64 0]) ∧ Below w.heap.size w w' := by
  have hz := sz4 (c := (x0 : Int)) (by omega) (by omega)
  have hl0 : (x0 : Int) ≤ 255 := by omega
  have hm' : ((m : Int) != 4) = true := by simp; omega
  go_enter Tryz.func90, Tryz.ntmps90
  go_wp2_with (first
    | (go_at_call 127; refine (size_any _ _ hl0).mono ?_; rintro e w1 ⟨rfl, rfl⟩)
    | (go_at_call 128; refine (isPoint_any _ _).mono ?_; rintro e w1 ⟨rfl, rfl⟩)
    | (go_at_call 129; refine (Bytes_any _ _ hpt).mono ?_; rintro e w1 ⟨rfl, rfl⟩))
  refine wp_loop_rounds 4 ?_
  rw [rounds_succ]
  go_wp2
  rw [rounds_succ]
  go_wp2
  rw [rounds_succ]
  go_wp2
  rw [rounds_succ]
  go_wp2_with (first
    | (go_at_call 127; refine (size_any _ _ hl0).mono ?_; rintro e w1 ⟨rfl, rfl⟩)
    | (go_at_call 128; refine (isPoint_any _ _).mono ?_; rintro e w1 ⟨rfl, rfl⟩)
    | (go_at_call 129; refine (Bytes_any _ _ hpt).mono ?_; rintro e w1 ⟨rfl, rfl⟩))
  go_ret2
  exact ⟨rfl, (Below.refl _ _).alloc (Nat.le_refl _) _⟩
set_option maxHeartbeats 4000000 in
set_option maxRecDepth 100000 in
theorem at_4_none (s : ByteArray) (pos : Nat) (w : World) (hs : s.size ≤ 140737488351232) (hp : pos + 3 < s.size) (x0 x1 x2 x3 : Nat) (e0 : (s[pos]'(by omega)).toNat = x0) (e1 : (s[pos + 1]'(by omega)).toNat = x1) (e2 : (s[pos + 2]'(by omega)).toNat = x2) (e3 : (s[pos + 3]'(by omega)).toNat = x3) (h0 : 240 ≤ x0) (h0' : x0 < 248) (h1 : 128 ≤ x1) (h1' : x1 < 192) (h2 : 128 ≤ x2) (h2' : x2 < 192) (h3 : 128 ≤ x3) (h3' : x3 < 192) (hno : isPt (64 * (64 * (64 * ((x0 : Int) - 240) + x1 - 128) + x2 - 128) + x3 - 128) = false) :
    Calls Tryz.prog 90 #[.string s, .int .i64 pos] w fun e w' => e = .returned (.tuple #[.int .i64 (0), .int .i64 0]) ∧ Below w.heap.size w w' := by
  have hz := sz4 (c := (x0 : Int)) (by omega) (by omega)
  have hl0 : (x0 : Int) ≤ 255 := by omega
  have hpt : isPt 0 = true := rfl
  go_enter Tryz.func90, Tryz.ntmps90
  go_wp2_with (first
    | (go_at_call 127; refine (size_any _ _ hl0).mono ?_; rintro e w1 ⟨rfl, rfl⟩)
    | (go_at_call 128; refine (isPoint_any _ _).mono ?_; rintro e w1 ⟨rfl, rfl⟩)
    | (go_at_call 129; refine (Bytes_any _ _ hpt).mono ?_; rintro e w1 ⟨rfl, rfl⟩))
  refine wp_loop_rounds 4 ?_
  rw [rounds_succ]
  go_wp2
  rw [rounds_succ]
  go_wp2
  rw [rounds_succ]
  go_wp2
  rw [rounds_succ]
  go_wp2_with (first
    | (go_at_call 127; refine (size_any _ _ hl0).mono ?_; rintro e w1 ⟨rfl, rfl⟩)
    | (go_at_call 128; refine (isPoint_any _ _).mono ?_; rintro e w1 ⟨rfl, rfl⟩)
    | (go_at_call 129; refine (Bytes_any _ _ hpt).mono ?_; rintro e w1 ⟨rfl, rfl⟩))
  go_ret2
  exact ⟨rfl, Below.refl _ _⟩
set_option maxHeartbeats 4000000 in
set_option maxRecDepth 100000 in
theorem at_4 (s : ByteArray) (pos : Nat) (w : World) (hs : s.size ≤ 140737488351232) (hp : pos + 3 < s.size) (x0 x1 x2 x3 : Nat) (e0 : (s[pos]'(by omega)).toNat = x0) (e1 : (s[pos + 1]'(by omega)).toNat = x1) (e2 : (s[pos + 2]'(by omega)).toNat = x2) (e3 : (s[pos + 3]'(by omega)).toNat = x3) (h0 : 240 ≤ x0) (h0' : x0 < 248) (h1 : 128 ≤ x1) (h1' : x1 < 192) (h2 : 128 ≤ x2) (h2' : x2 < 192) (h3 : 128 ≤ x3) (h3' : x3 < 192) (hpt : isPt (64 * (64 * (64 * ((x0 : Int) - 240) + x1 - 128) + x2 - 128) + x3 - 128) = true) (hlen : (Lib.runeCells (64 * (64 * (64 * ((x0 : Int) - 240) + x1 - 128) + x2 - 128) + x3 - 128)).length = 4) :
    Calls Tryz.prog 90 #[.string s, .int .i64 pos] w fun e w' => e = .returned (.tuple #[.int .i64 (64 * (64 * (64 * ((x0 : Int) - 240) + x1 - 128) + x2 - 128) + x3 - 128), .int .i64 4]) ∧ Below w.heap.size w w' := by
  have hz := sz4 (c := (x0 : Int)) (by omega) (by omega)
  have hl0 : (x0 : Int) ≤ 255 := by omega
  go_enter Tryz.func90, Tryz.ntmps90
  go_wp2_with (first
    | (go_at_call 127; refine (size_any _ _ hl0).mono ?_; rintro e w1 ⟨rfl, rfl⟩)
    | (go_at_call 128; refine (isPoint_any _ _).mono ?_; rintro e w1 ⟨rfl, rfl⟩)
    | (go_at_call 129; refine (Bytes_any _ _ hpt).mono ?_; rintro e w1 ⟨rfl, rfl⟩))
  refine wp_loop_rounds 4 ?_
  rw [rounds_succ]
  go_wp2
  rw [rounds_succ]
  go_wp2
  rw [rounds_succ]
  go_wp2
  rw [rounds_succ]
  go_wp2_with (first
    | (go_at_call 127; refine (size_any _ _ hl0).mono ?_; rintro e w1 ⟨rfl, rfl⟩)
    | (go_at_call 128; refine (isPoint_any _ _).mono ?_; rintro e w1 ⟨rfl, rfl⟩)
    | (go_at_call 129; refine (Bytes_any _ _ hpt).mono ?_; rintro e w1 ⟨rfl, rfl⟩))
  go_ret2
  exact ⟨rfl, (Below.refl _ _).alloc (Nat.le_refl _) _⟩
end RefW
end Go.Proofs.YtngfoghnopnbmaaGreatDoor

namespace Go.Proofs.YtngfoghnopnbmaaGreatDoor
open Go.RowKit
namespace RefW
open Go.Lib (decodeN)

/-- The character at a place and its bytes' number; (0, 0): none stands there whole. -/
def refAt (s : ByteArray) (pos : Nat) : Nat × Nat := if noChar s pos then (0, 0) else Utf8.decode s pos

theorem d0 (n b0 b1 b2 b3 : Nat) (h : (128 ≤ b0 ∧ b0 < 192) ∨ (248 ≤ b0 ∧ b0 < 256)) : decodeN n b0 b1 b2 b3 = (65533, 1) := by
  unfold decodeN; rw [if_neg (by omega), if_neg (by omega), if_neg (by omega), if_neg (by omega)]
theorem d2n (n b0 b1 b2 b3 : Nat) (h : 192 ≤ b0 ∧ b0 < 224) (h' : n < 2 ∨ b1 < 128 ∨ 191 < b1) : decodeN n b0 b1 b2 b3 = (65533, 1) := by
  unfold decodeN; rw [if_neg (by omega), if_neg (by omega), if_neg (by omega), if_neg (by omega)]
theorem d2l (n b0 b1 b2 b3 : Nat) (h : 192 ≤ b0 ∧ b0 < 224) (h' : 2 ≤ n ∧ 128 ≤ b1 ∧ b1 < 192) (hl : (64 * ((b0 : Int) - 192) + b1 - 128) < 128) : decodeN n b0 b1 b2 b3 = (65533, 1) := by
  unfold decodeN; rw [if_neg (by omega), if_pos (by omega), if_neg (by omega)]
theorem d2y (n b0 b1 b2 b3 : Nat) (h : 192 ≤ b0 ∧ b0 < 224) (h' : 2 ≤ n ∧ 128 ≤ b1 ∧ b1 < 192) (hl : 128 ≤ (64 * ((b0 : Int) - 192) + b1 - 128)) : decodeN n b0 b1 b2 b3 = (b0 % 32 * 64 + b1 % 64, 2) := by
  unfold decodeN; rw [if_neg (by omega), if_pos (by omega), if_pos (by omega)]
theorem d3n (n b0 b1 b2 b3 : Nat) (h : 224 ≤ b0 ∧ b0 < 240) (h' : n < 3 ∨ b1 < 128 ∨ 191 < b1 ∨ b2 < 128 ∨ 191 < b2) : decodeN n b0 b1 b2 b3 = (65533, 1) := by
  unfold decodeN; rw [if_neg (by omega), if_neg (by omega), if_neg (by omega), if_neg (by omega)]
theorem d3l (n b0 b1 b2 b3 : Nat) (h : 224 ≤ b0 ∧ b0 < 240) (h' : 3 ≤ n ∧ 128 ≤ b1 ∧ b1 < 192 ∧ 128 ≤ b2 ∧ b2 < 192)
    (hl : (64 * (64 * ((b0 : Int) - 224) + b1 - 128) + b2 - 128) < 2048 ∨ isPt (64 * (64 * ((b0 : Int) - 224) + b1 - 128) + b2 - 128) = false) : decodeN n b0 b1 b2 b3 = (65533, 1) := by
  unfold isPt at hl
  rw [decide_eq_false_iff_not] at hl
  unfold decodeN; rw [if_neg (by omega), if_neg (by omega), if_pos (by omega), if_neg (by omega)]
theorem d3y (n b0 b1 b2 b3 : Nat) (h : 224 ≤ b0 ∧ b0 < 240) (h' : 3 ≤ n ∧ 128 ≤ b1 ∧ b1 < 192 ∧ 128 ≤ b2 ∧ b2 < 192)
    (hl : 2048 ≤ (64 * (64 * ((b0 : Int) - 224) + b1 - 128) + b2 - 128)) (hp : isPt (64 * (64 * ((b0 : Int) - 224) + b1 - 128) + b2 - 128) = true) : decodeN n b0 b1 b2 b3 = (b0 % 16 * 4096 + b1 % 64 * 64 + b2 % 64, 3) := by
  unfold isPt at hp
  rw [decide_eq_true_eq] at hp
  unfold decodeN; rw [if_neg (by omega), if_neg (by omega), if_pos (by omega), if_pos (by omega)]
theorem d4n (n b0 b1 b2 b3 : Nat) (h : 240 ≤ b0 ∧ b0 < 248) (h' : n < 4 ∨ b1 < 128 ∨ 191 < b1 ∨ b2 < 128 ∨ 191 < b2 ∨ b3 < 128 ∨ 191 < b3) : decodeN n b0 b1 b2 b3 = (65533, 1) := by
  unfold decodeN; rw [if_neg (by omega), if_neg (by omega), if_neg (by omega), if_neg (by omega)]
theorem d4l (n b0 b1 b2 b3 : Nat) (h : 240 ≤ b0 ∧ b0 < 248) (h' : 4 ≤ n ∧ 128 ≤ b1 ∧ b1 < 192 ∧ 128 ≤ b2 ∧ b2 < 192 ∧ 128 ≤ b3 ∧ b3 < 192)
    (hl : (64 * (64 * (64 * ((b0 : Int) - 240) + b1 - 128) + b2 - 128) + b3 - 128) < 65536 ∨ isPt (64 * (64 * (64 * ((b0 : Int) - 240) + b1 - 128) + b2 - 128) + b3 - 128) = false) : decodeN n b0 b1 b2 b3 = (65533, 1) := by
  unfold isPt at hl
  rw [decide_eq_false_iff_not] at hl
  unfold decodeN; rw [if_neg (by omega), if_neg (by omega), if_neg (by omega), if_pos (by omega), if_neg (by omega)]
theorem d4y (n b0 b1 b2 b3 : Nat) (h : 240 ≤ b0 ∧ b0 < 248) (h' : 4 ≤ n ∧ 128 ≤ b1 ∧ b1 < 192 ∧ 128 ≤ b2 ∧ b2 < 192 ∧ 128 ≤ b3 ∧ b3 < 192)
    (hl : 65536 ≤ (64 * (64 * (64 * ((b0 : Int) - 240) + b1 - 128) + b2 - 128) + b3 - 128)) (hp : isPt (64 * (64 * (64 * ((b0 : Int) - 240) + b1 - 128) + b2 - 128) + b3 - 128) = true) :
    decodeN n b0 b1 b2 b3 = (b0 % 8 * 262144 + b1 % 64 * 4096 + b2 % 64 * 64 + b3 % 64, 4) := by
  unfold isPt at hp
  rw [decide_eq_true_eq] at hp
  unfold decodeN; rw [if_neg (by omega), if_neg (by omega), if_neg (by omega), if_pos (by omega), if_pos (by omega)]

/-- How many bytes a character's number takes. -/
theorem len_cases (p : Int) (hp : isPt p = true) : (p < 128 ∧ (Lib.runeCells p).length = 1) ∨ (128 ≤ p ∧ p < 2048 ∧ (Lib.runeCells p).length = 2) ∨ (2048 ≤ p ∧ p < 65536 ∧ (Lib.runeCells p).length = 3) ∨ (65536 ≤ p ∧ (Lib.runeCells p).length = 4) := by
  unfold isPt at hp
  rw [decide_eq_true_eq] at hp
  unfold Lib.runeCells
  rcases (show p < 128 ∨ (128 ≤ p ∧ p < 2048) ∨ (2048 ≤ p ∧ p < 65536) ∨ 65536 ≤ p by omega) with h | h | h | h
  · rw [Lib.encodeRuneZ_one (by omega) (by omega)]; exact .inl ⟨h, rfl⟩
  · rw [Lib.encodeRuneZ_two (by omega) (by omega)]; exact .inr (.inl ⟨h.1, h.2, rfl⟩)
  · rw [Lib.encodeRuneZ_three (by omega)]; exact .inr (.inr (.inl ⟨h.1, h.2, rfl⟩))
  · rw [Lib.encodeRuneZ_four (by omega) (by omega)]; exact .inr (.inr (.inr ⟨h, rfl⟩))

def AtSays (s : ByteArray) (pos : Nat) (w : World) (p q : Int) : Prop :=
  Calls Tryz.prog 90 #[.string s, .int .i64 pos] w fun e w' => e = .returned (.tuple #[.int .i64 p, .int .i64 q]) ∧ Below w.heap.size w w'

theorem at_any (s : ByteArray) (pos : Nat) (w : World) (hs : s.size ≤ 140737488351232) (hp : pos < s.size) :
    AtSays s pos w (refAt s pos).1 (refAt s pos).2 := by
  obtain ⟨x0, hx0⟩ : ∃ x, (s.get! pos).toNat = x := ⟨_, rfl⟩
  obtain ⟨x1, hx1⟩ : ∃ x, (s.get! (pos + 1)).toNat = x := ⟨_, rfl⟩
  obtain ⟨x2, hx2⟩ : ∃ x, (s.get! (pos + 2)).toNat = x := ⟨_, rfl⟩
  obtain ⟨x3, hx3⟩ : ∃ x, (s.get! (pos + 3)).toNat = x := ⟨_, rfl⟩
  have l0 : x0 < 256 := by rw [← hx0]; exact UInt8.toNat_lt _
  have l1 : x1 < 256 := by rw [← hx1]; exact UInt8.toNat_lt _
  have l2 : x2 < 256 := by rw [← hx2]; exact UInt8.toNat_lt _
  have l3 : x3 < 256 := by rw [← hx3]; exact UInt8.toNat_lt _
  have e0 : (s[pos]'hp).toNat = x0 := by rw [← hx0, get_lt s pos hp]
  have e1 : ∀ h : pos + 1 < s.size, (s[pos + 1]'h).toNat = x1 := fun h => by rw [← hx1, get_lt s (pos + 1) h]
  have e2 : ∀ h : pos + 2 < s.size, (s[pos + 2]'h).toNat = x2 := fun h => by rw [← hx2, get_lt s (pos + 2) h]
  have e3 : ∀ h : pos + 3 < s.size, (s[pos + 3]'h).toNat = x3 := fun h => by rw [← hx3, get_lt s (pos + 3) h]
  have hd : Utf8.decode s pos = decodeN (s.size - pos) x0 x1 x2 x3 := by rw [Lib.decode_at, hx0, hx1, hx2, hx3]
  have no : decodeN (s.size - pos) x0 x1 x2 x3 = (65533, 1) → AtSays s pos w 0 0 → AtSays s pos w (refAt s pos).1 (refAt s pos).2 := fun h c => by
    have : refAt s pos = (0, 0) := by unfold refAt noChar; rw [hd, h]; rfl
    rw [this]; exact c
  have yes : ∀ (p k : Nat) (P K : Int), decodeN (s.size - pos) x0 x1 x2 x3 = (p, k) → (k ≠ 1 ∨ p ≠ 65533) → P = p → K = k → AtSays s pos w P K → AtSays s pos w (refAt s pos).1 (refAt s pos).2 := fun p k P K h hne hP hK c => by
    have : refAt s pos = (p, k) := by
      unfold refAt noChar
      rw [hd, h, decide_eq_false (by rw [Prod.mk.injEq]; omega)]
      rfl
    rw [this, ← hP, ← hK]
    exact c
  clear hx0 hx1 hx2 hx3
  rcases (show x0 < 128 ∨ ((128 ≤ x0 ∧ x0 < 192) ∨ (248 ≤ x0 ∧ x0 < 256)) ∨ (192 ≤ x0 ∧ x0 < 224) ∨ (224 ≤ x0 ∧ x0 < 240) ∨ (240 ≤ x0 ∧ x0 < 248) by omega) with h | h | h | h | h
  · exact yes x0 1 _ _ (by unfold decodeN; rw [if_pos h]) (by omega) rfl rfl (at_1 s pos w hs hp x0 e0 h)
  · exact no (d0 _ _ _ _ _ h) (at_0 s pos w hs hp x0 e0 h)
  · by_cases hq : s.size < pos + 2
    · exact no (d2n _ _ _ _ _ h (by omega)) (at_2_short s pos w hs hp hq x0 e0 h.1 h.2)
    · by_cases c1 : x1 < 128 ∨ (191 < x1 ∧ x1 < 256)
      · exact no (d2n _ _ _ _ _ h (by omega)) (at_2_c1 s pos w hs (by omega) x0 x1 e0 (e1 (by omega)) h.1 h.2 c1)
      · have hpt : isPt (64 * ((x0 : Int) - 192) + x1 - 128) = true := by unfold isPt; rw [decide_eq_true_eq]; omega
        rcases len_cases _ hpt with g | g | g | g
        · exact no (d2l _ _ _ _ _ h (by omega) g.1) (at_2_long s pos w hs (by omega) x0 x1 e0 (e1 (by omega)) h.1 h.2 (by omega) (by omega) g.1 1 (by decide) hpt g.2)
        · exact yes _ 2 _ _ (d2y _ _ _ _ _ h (by omega) g.1) (by omega) (by omega) rfl (at_2 s pos w hs (by omega) x0 x1 e0 (e1 (by omega)) h.1 h.2 (by omega) (by omega) hpt g.2.2)
        · exfalso; omega
        · exfalso; omega
  · by_cases hq : s.size < pos + 3
    · exact no (d3n _ _ _ _ _ h (by omega)) (at_3_short s pos w hs hp hq x0 e0 h.1 h.2)
    · by_cases c1 : x1 < 128 ∨ (191 < x1 ∧ x1 < 256)
      · exact no (d3n _ _ _ _ _ h (by omega)) (at_3_c1 s pos w hs (by omega) x0 x1 e0 (e1 (by omega)) h.1 h.2 c1)
      · by_cases c2 : x2 < 128 ∨ (191 < x2 ∧ x2 < 256)
        · exact no (d3n _ _ _ _ _ h (by omega)) (at_3_c2 s pos w hs (by omega) x0 x1 x2 e0 (e1 (by omega)) (e2 (by omega)) h.1 h.2 (by omega) (by omega) c2)
        · cases hpt : isPt (64 * (64 * ((x0 : Int) - 224) + x1 - 128) + x2 - 128) with
          | false => exact no (d3l _ _ _ _ _ h (by omega) (.inr hpt)) (at_3_none s pos w hs (by omega) x0 x1 x2 e0 (e1 (by omega)) (e2 (by omega)) h.1 h.2 (by omega) (by omega) (by omega) (by omega) hpt)
          | true =>
            rcases len_cases _ hpt with g | g | g | g
            · exact no (d3l _ _ _ _ _ h (by omega) (.inl (by omega))) (at_3_long s pos w hs (by omega) x0 x1 x2 e0 (e1 (by omega)) (e2 (by omega)) h.1 h.2 (by omega) (by omega) (by omega) (by omega) (by omega) 1 (by decide) hpt g.2)
            · exact no (d3l _ _ _ _ _ h (by omega) (.inl (by omega))) (at_3_long s pos w hs (by omega) x0 x1 x2 e0 (e1 (by omega)) (e2 (by omega)) h.1 h.2 (by omega) (by omega) (by omega) (by omega) (by omega) 2 (by decide) hpt g.2.2)
            · exact yes _ 3 _ _ (d3y _ _ _ _ _ h (by omega) g.1 hpt) (by omega) (by omega) rfl (at_3 s pos w hs (by omega) x0 x1 x2 e0 (e1 (by omega)) (e2 (by omega)) h.1 h.2 (by omega) (by omega) (by omega) (by omega) hpt g.2.2)
            · exfalso; omega
  · by_cases hq : s.size < pos + 4
    · exact no (d4n _ _ _ _ _ h (by omega)) (at_4_short s pos w hs hp hq x0 e0 h.1 h.2)
    · by_cases c1 : x1 < 128 ∨ (191 < x1 ∧ x1 < 256)
      · exact no (d4n _ _ _ _ _ h (by omega)) (at_4_c1 s pos w hs (by omega) x0 x1 e0 (e1 (by omega)) h.1 h.2 c1)
      · by_cases c2 : x2 < 128 ∨ (191 < x2 ∧ x2 < 256)
        · exact no (d4n _ _ _ _ _ h (by omega)) (at_4_c2 s pos w hs (by omega) x0 x1 x2 e0 (e1 (by omega)) (e2 (by omega)) h.1 h.2 (by omega) (by omega) c2)
        · by_cases c3 : x3 < 128 ∨ (191 < x3 ∧ x3 < 256)
          · exact no (d4n _ _ _ _ _ h (by omega)) (at_4_c3 s pos w hs (by omega) x0 x1 x2 x3 e0 (e1 (by omega)) (e2 (by omega)) (e3 (by omega)) h.1 h.2 (by omega) (by omega) (by omega) (by omega) c3)
          · cases hpt : isPt (64 * (64 * (64 * ((x0 : Int) - 240) + x1 - 128) + x2 - 128) + x3 - 128) with
            | false => exact no (d4l _ _ _ _ _ h (by omega) (.inr hpt)) (at_4_none s pos w hs (by omega) x0 x1 x2 x3 e0 (e1 (by omega)) (e2 (by omega)) (e3 (by omega)) h.1 h.2 (by omega) (by omega) (by omega) (by omega) (by omega) (by omega) hpt)
            | true =>
              rcases len_cases _ hpt with g | g | g | g
              · exact no (d4l _ _ _ _ _ h (by omega) (.inl (by omega))) (at_4_long s pos w hs (by omega) x0 x1 x2 x3 e0 (e1 (by omega)) (e2 (by omega)) (e3 (by omega)) h.1 h.2 (by omega) (by omega) (by omega) (by omega) (by omega) (by omega) (by omega) 1 (by decide) hpt g.2)
              · exact no (d4l _ _ _ _ _ h (by omega) (.inl (by omega))) (at_4_long s pos w hs (by omega) x0 x1 x2 x3 e0 (e1 (by omega)) (e2 (by omega)) (e3 (by omega)) h.1 h.2 (by omega) (by omega) (by omega) (by omega) (by omega) (by omega) (by omega) 2 (by decide) hpt g.2.2)
              · exact no (d4l _ _ _ _ _ h (by omega) (.inl (by omega))) (at_4_long s pos w hs (by omega) x0 x1 x2 x3 e0 (e1 (by omega)) (e2 (by omega)) (e3 (by omega)) h.1 h.2 (by omega) (by omega) (by omega) (by omega) (by omega) (by omega) (by omega) 3 (by decide) hpt g.2.2)
              · exact yes _ 4 _ _ (d4y _ _ _ _ _ h (by omega) g.1 hpt) (by omega) (by omega) rfl (at_4 s pos w hs (by omega) x0 x1 x2 x3 e0 (e1 (by omega)) (e2 (by omega)) (e3 (by omega)) h.1 h.2 (by omega) (by omega) (by omega) (by omega) (by omega) (by omega) hpt g.2)
end RefW
end Go.Proofs.YtngfoghnopnbmaaGreatDoor

namespace Go.Proofs.YtngfoghnopnbmaaGreatDoor
open Go.RowKit
namespace RefW

theorem info3 : (Tryz.prog.info? 3).map (fun i => (i.zero, i.size, i.bytes)) = some (some (.int .i64 0), 1, 8) := by kernel_rfl
/-- Numbers as the cells of a slice of int. -/
def nums (l : List Nat) : List Value := l.map fun (n : Nat) => Value.int .i64 (n : Int)

theorem own_kept {w w' : World} {base : Nat} {e : TypeId} {size : Nat} {v : Value} {n : Nat} {xs : List Value} (h : w.ownsRow base e size v n xs) (hb : Below w.heap.size w w') : w'.ownsRow base e size v n xs := by
  obtain ⟨h1, h2⟩ := h
  refine ⟨h1, ?_⟩
  rcases h2 with h2 | ⟨g, cap, cur, a, b, c, d⟩
  · exact .inl h2
  · exact .inr ⟨g, cap, cur, a, b, (hb.block g (lt_of_block c)).trans c, d⟩

theorem refAt_no (s : ByteArray) (pos : Nat) (h : noChar s pos = true) : refAt s pos = (0, 0) := by unfold refAt; rw [h]; rfl
theorem refAt_yes (s : ByteArray) (pos : Nat) (h : noChar s pos = false) : refAt s pos = Utf8.decode s pos := by unfold refAt; rw [h]; rfl

theorem at_no (s : ByteArray) (pos : Nat) (w : World) (hs : s.size ≤ 140737488351232) (hp : pos < s.size) (h : noChar s pos = true) :
    Calls Tryz.prog 90 #[.string s, .int .i64 pos] w fun e w' => e = .returned (.tuple #[.int .i64 0, .int .i64 0]) ∧ Below w.heap.size w w' := by
  have c := at_any s pos w hs hp
  rw [refAt_no s pos h] at c
  exact c
theorem at_yes (s : ByteArray) (pos : Nat) (w : World) (hs : s.size ≤ 140737488351232) (hp : pos < s.size) (h : noChar s pos = false) :
    Calls Tryz.prog 90 #[.string s, .int .i64 pos] w fun e w' => e = .returned (.tuple #[.int .i64 (Utf8.decode s pos).1, .int .i64 (Utf8.decode s pos).2]) ∧ Below w.heap.size w w' := by
  have c := at_any s pos w hs hp
  rw [refAt_yes s pos h] at c
  exact c
theorem decode_w (s : ByteArray) (pos : Nat) : (Utf8.decode s pos).2 ≤ 4 := by
  rw [Lib.decode_at]
  unfold Lib.decodeN
  repeat' split
  all_goals simp

set_option maxHeartbeats 4000000 in
theorem points_any (s : ByteArray) (w : World) (hs : s.size ≤ 17592186044416) :
    Calls Tryz.prog 53 #[.string s] w fun e w' => ∃ v n xs, e = .returned (.tuple #[v, .int .i64 (badAt s 0)]) ∧ w'.ownsRow w.heap.size 3 1 v n xs ∧ Below w.heap.size w w' ∧ (badAt s 0 = -1 → n = (ptsAt s 0).length ∧ xs = nums (ptsAt s 0)) := by
  obtain ⟨i0, hi, hz0, hz1, hz2⟩ := info_parts info3
  go_enter Tryz.func53, Tryz.ntmps53
  go_wp2
  go_loopw [4, 5] (fun v x wr => ∃ (pos : Nat) (done : List Nat), x = .int .i64 (pos : Int) ∧ wr.ownsRow w.heap.size 3 1 v done.length (nums done) ∧ Below w.heap.size w wr ∧ Hid (done ++ ptsAt s pos = ptsAt s 0) ∧ Hid (badAt s pos = badAt s 0) ∧ done.length ≤ pos) (fun _ x _ => s.size - (intOf x).toNat)
  case atStart => exact ⟨0, [], rfl, World.ownsRow_nil _ _ _ _, Below.refl _ _, rfl, rfl, Nat.le_refl _⟩
  case round =>
    obtain ⟨pos, done, rfl, hown, hbw, HS, HB, hlen⟩ := hrel
    have hsz := hbw.size
    by_cases hp : pos < s.size
    · cases hn : noChar s pos with
      | true =>
        go_wp2_with (go_at_call 90; refine (at_no s pos _ (by omega) hp hn).mono ?_; rintro e w2 ⟨rfl, hb2⟩)
        go_ret2
        have e : badAt s 0 = pos := by rw [← HB.out, badAt_hit s pos hp hn]
        rw [e]
        exact ⟨_, _, _, rfl, own_kept hown hb2, hbw.trans (hb2.mono hsz), fun h => by omega⟩
      | false =>
        have hwd := Lib.decode_width_pos s pos hp
        have hw4 := decode_w s pos
        have hdl := decode_le s pos
        have hk0 : (((Utf8.decode s pos).2 : Int) == 0) = false := by simp; omega
        go_wp2_with (first
          | (go_at_call 90; refine (at_yes s pos _ (by omega) hp hn).mono ?_; rintro e w2 ⟨rfl, hb2⟩; have hown2 := own_kept hown hb2; have hbw2 := hbw.trans (hb2.mono hsz); have hsz2 := hb2.size)
          | (at_builtin; refine wpList_append_own _ rfl _ _ 62 rfl w.heap.size 3 i0 (.int .i64 0) 1 8 Tryz.underlying62 hi hz0 hz1 hz2 rfl (by decide) _ _ _ rfl (hown2.alloc _) ⟨w2.heap.size, 0, none⟩ 1 1 [.int .i64 ((Utf8.decode s pos).1 : Int)] rfl rfl (cell_one_new _ _ _) (fun x hx => by simp at hx; subst hx; rfl) (by unfold maxLen; omega) (by omega) (by simp; omega) ?_; intro v' w3 hown' hgrow3 hnil3))
        have hbw3 : Below w.heap.size w w3 := Below.grown (hbw2.alloc (by omega) _) hgrow3 (by simp; omega) (fun j hj => by have := (hown2.lt _ hj).1; omega)
        go_roundw
        case rel => exact ⟨pos + (Utf8.decode s pos).2, done ++ [(Utf8.decode s pos).1], by go_num, by simpa [nums] using hown', hbw3, (by show _ = _; rw [← HS.out, ptsAt_next s pos hp]; simp), (by show _ = _; rw [← HB.out, badAt_next s pos hp hn]), by simp; omega⟩
        case measure => simp [intOf]; omega
    · go_wp2
      go_ret2
      have e : badAt s 0 = -1 := by rw [← HB.out, badAt_end s pos hp]
      have e2 : ptsAt s 0 = done := by rw [← HS.out, ptsAt_end s pos hp]; simp
      rw [e, e2]
      exact ⟨_, _, _, rfl, hown, hbw, fun _ => ⟨rfl, rfl⟩⟩
theorem Bad_any (s : ByteArray) (w : World) (hs : s.size ≤ 17592186044416) :
    Calls Tryz.prog 30 #[.string s] w fun e w' => e = .returned (.int .i64 (badAt s 0)) ∧ Below w.heap.size w w' := by
  go_enter Tryz.func30, Tryz.ntmps30
  go_wp2_with (go_at_call 53; refine (points_any _ _ hs).mono ?_; rintro e w' ⟨v, n, xs, rfl, hown, hbel, _⟩)
  go_ret
  exact ⟨rfl, hbel⟩
end RefW
end Go.Proofs.YtngfoghnopnbmaaGreatDoor

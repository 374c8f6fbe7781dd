/- What the reference's small functions do (size, isPoint, Bytes): contracts, by walking their text. -/
import Derived.Test.YtehpdklnebognaaDoorQu
import Derived.Lib.RuneBytes
namespace Go.Proofs.YtehpdklnebognaaDoor
open Go.RowKit
namespace RefW

/-- How many bytes a character has whose first one is c; 0: there is none. -/
def sz (c : Int) : Int := if c < 128 then 1 else if 192 ≤ c ∧ c < 224 then 2 else if 224 ≤ c ∧ c < 240 then 3 else if 240 ≤ c ∧ c < 248 then 4 else 0
theorem size_any (c : Int) (w : World) (h1 : c ≤ 255) : Calls Tryd.prog 83 #[.int .u8 c] w fun e w' => e = .returned (.int .i64 (sz c)) ∧ w' = w := by
  have hc : c < 128 ∨ (128 ≤ c ∧ c < 192) ∨ (192 ≤ c ∧ c < 224) ∨ (224 ≤ c ∧ c < 240) ∨ (240 ≤ c ∧ c < 248) ∨ 248 ≤ c := by omega
  rcases hc with hc | hc | hc | hc | hc | hc
  all_goals
    first
      | have e : sz c = 1 := by unfold sz; rw [if_pos (by omega)]
      | have e : sz c = 2 := by unfold sz; rw [if_neg (by omega), if_pos (by omega)]
      | have e : sz c = 3 := by unfold sz; rw [if_neg (by omega), if_neg (by omega), if_pos (by omega)]
      | have e : sz c = 4 := by unfold sz; rw [if_neg (by omega), if_neg (by omega), if_neg (by omega), if_pos (by omega)]
      | have e : sz c = 0 := by unfold sz; rw [if_neg (by omega), if_neg (by omega), if_neg (by omega), if_neg (by omega)]
    rw [e]
    clear e
    go_enter Tryd.func83, Tryd.ntmps83
    go_wp2
    go_ret
    exact ⟨rfl, rfl⟩

theorem ret_bool {a b : Bool} (h : a = b) : Ending.returned (.bool a) = .returned (.bool b) := by rw [h]
/-- Is a number a character's? -/
def isPt (p : Int) : Bool := decide (0 ≤ p ∧ p ≤ 1114111 ∧ (p < 55296 ∨ 57343 < p))
theorem isPoint_any (p : Int) (w : World) : Calls Tryd.prog 84 #[.int .i64 p] w fun e w' => e = .returned (.bool (isPt p)) ∧ w' = w := by
  have hc : p < 0 ∨ 1114111 < p ∨ (0 ≤ p ∧ p < 55296) ∨ (55296 ≤ p ∧ p ≤ 57343) ∨ (57343 < p ∧ p ≤ 1114111) := by omega
  rcases hc with hc | hc | hc | hc | hc
  all_goals
    first
      | have e : isPt p = true := by unfold isPt; rw [decide_eq_true_eq]; omega
      | have e : isPt p = false := by unfold isPt; rw [decide_eq_false_iff_not]; omega
    rw [e]
    clear e
    go_enter Tryd.func84, Tryd.ntmps84
    go_wp2
    go_ret
    first
      | exact ⟨rfl, rfl⟩
      | exact ⟨ret_bool (by rw [decide_eq_false (by omega), decide_eq_false (by omega)]; rfl), rfl⟩
/-- A character's bytes lie in a new block. -/
theorem Bytes_any (p : Int) (w : World) (hp : isPt p = true) : Calls Tryd.prog 67 #[.int .i64 p] w fun e w' =>
    e = .returned (.slice (some ⟨w.heap.size, 0, none⟩) (Lib.runeCells p).length (Lib.runeCells p).length) ∧ w' = w.alloc (.cells (Lib.runeCells p).toArray 5) := by
  unfold isPt at hp
  rw [decide_eq_true_eq] at hp
  have hc : (0 ≤ p ∧ p < 128) ∨ (128 ≤ p ∧ p < 2048) ∨ (2048 ≤ p ∧ p < 65536) ∨ 65536 ≤ p := by omega
  rcases hc with hc | hc | hc | hc
  · have e : Lib.runeCells p = [.int .u8 p] := by unfold Lib.runeCells; rw [Lib.encodeRuneZ_one (by omega) (by omega)]; rfl
    rw [e]
    clear e
    go_enter Tryd.func67, Tryd.ntmps67
    go_wp2
    go_ret
    exact ⟨rfl, rfl⟩
  · have e : Lib.runeCells p = [.int .u8 (192 + p / 64), .int .u8 (128 + p % 64)] := by unfold Lib.runeCells; rw [Lib.encodeRuneZ_two (by omega) (by omega)]; rfl
    rw [e]
    clear e
    go_enter Tryd.func67, Tryd.ntmps67
    go_wp2
    go_ret
    exact ⟨rfl, rfl⟩
  · have e : Lib.runeCells p = [.int .u8 (224 + p / 4096), .int .u8 (128 + p / 64 % 64), .int .u8 (128 + p % 64)] := by unfold Lib.runeCells; rw [Lib.encodeRuneZ_three (by omega)]; rfl
    rw [e]
    clear e
    go_enter Tryd.func67, Tryd.ntmps67
    go_wp2
    go_ret
    exact ⟨rfl, rfl⟩
  · have e : Lib.runeCells p = [.int .u8 (240 + p / 262144), .int .u8 (128 + p / 4096 % 64), .int .u8 (128 + p / 64 % 64), .int .u8 (128 + p % 64)] := by unfold Lib.runeCells; rw [Lib.encodeRuneZ_four (by omega) (by omega)]; rfl
    rw [e]
    clear e
    go_enter Tryd.func67, Tryd.ntmps67
    go_wp2
    go_ret
    exact ⟨rfl, rfl⟩
end RefW
end Go.Proofs.YtehpdklnebognaaDoor

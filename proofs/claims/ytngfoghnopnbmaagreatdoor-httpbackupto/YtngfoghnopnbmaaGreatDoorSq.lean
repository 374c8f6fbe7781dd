/- The reader of a target: its small functions. -/
import Derived.Test.YtngfoghnopnbmaaGreatDoorSp
namespace Go.Proofs.YtngfoghnopnbmaaGreatDoor
open Go.RowKit
namespace Ht
open Bw

theorem below_iter (w : World) (s : ByteArray) (pos : Nat) : Below w.heap.size w (w.iter s pos) := (Below.refl _ _).alloc (Nat.le_refl _) _
set_option maxHeartbeats 4000000 in
theorem bad150 (s : ByteArray) (w : World) (_hs : s.size ≤ 140737488351232) :
    Calls Tryz.prog 150 #[.string s] w fun e w' => e = .returned (.int .i64 (badAt s 0)) ∧ Below w.heap.size w w' := by
  go_enter Tryz.func150, Tryz.ntmps150
  go_wp2
  go_loopw [] (fun w' => ∃ pos : Nat, w' = w.iter s pos ∧ badAt s pos = badAt s 0) (fun w' => s.size - w'.iterPos w.heap.size)
  case atStart => exact ⟨0, rfl, rfl⟩
  case round =>
    obtain ⟨pos, rfl, hb⟩ := hrel
    by_cases hp : pos < s.size
    · have hnx : ∀ ty, (Instr.next (.pointer (some ⟨w.heap.size, 0, none⟩)) true ty).run Tryz.prog (w.iter s pos) = _ := fun ty => run_next_any w s pos ty hp
      have hwd := Lib.decode_width_pos s pos hp
      by_cases hr : (Utf8.decode s pos).1 = 65533
      · go_wp2
        · go_ret
          rw [← hb, badAt_hit s pos hp (noChar_long s pos true hr (by assumption) (by assumption))]
          exact ⟨rfl, below_iter _ _ _⟩
        · go_roundw
          case rel => exact ⟨_, rfl, by rw [← hb, badAt_next s pos hp (noChar_long s pos false hr (by assumption) (by assumption))]⟩
          case measure => simp; omega
        · go_ret
          rw [← hb, badAt_hit s pos hp (noChar_short s pos hr (by assumption))]
          exact ⟨rfl, below_iter _ _ _⟩
      · have hr' : (((Utf8.decode s pos).1 : Int) == 65533) = false := by simp; omega
        go_wp2
        go_roundw
        case rel => exact ⟨_, rfl, by rw [← hb, badAt_next s pos hp (noChar_not s pos hr)]⟩
        case measure => simp; omega
    · have hnx : ∀ ty, (Instr.next (.pointer (some ⟨w.heap.size, 0, none⟩)) true ty).run Tryz.prog (w.iter s pos) = _ := fun ty => run_next_end w s pos ty hp
      go_wp2
      go_ret
      rw [← hb, badAt_end s pos hp]
      exact ⟨rfl, below_iter _ _ _⟩
theorem sound123 (s : ByteArray) (w : World) (hs : s.size ≤ 140737488351232) : Calls Tryz.prog 123 #[.string s] w fun e w' => e = .returned (.bool (sndB s.data.toList)) ∧ Below w.heap.size w w' := by
  have q := bad150 s w hs
  have e0 : sndB s.data.toList = (badAt s 0 == -1) := by
    unfold sndB
    rw [Bool.eq_iff_iff]
    simp
  rw [e0]
  obtain ⟨B, hB⟩ : ∃ B, badAt s 0 = B := ⟨_, rfl⟩
  rw [hB] at q ⊢
  clear e0 hB
  go_enter Tryz.func123, Tryz.ntmps123
  go_wp2_with (go_at_call 150; refine q.mono ?_; rintro e w1 ⟨rfl, hb⟩)
  go_ret
  exact ⟨rfl, hb⟩
/-- A reader of a target, in block rb. -/
def RdAt (rb : Nat) (s : ByteArray) (p : Nat) (w : World) : Prop := w.heap[rb]? = some (.cells #[.string s, .int .i64 (p : Int)] 93 (0, 0))
section
variable {rb p : Nat} {s : ByteArray} {w w' : World}
theorem RdAt.c0 (h : RdAt rb s p w) : w.cell? ⟨rb, 0, none⟩ = some (.string s) := by
  unfold RdAt at h
  simp [World.cell?, h]
theorem RdAt.c1 (h : RdAt rb s p w) : w.cell? ⟨rb, 1, none⟩ = some (.int .i64 (p : Int)) := by
  unfold RdAt at h
  simp [World.cell?, h]
theorem RdAt.fz (h : RdAt rb s p w) (i : Nat) : w.frozen? ⟨rb, i, none⟩ = false := by
  unfold RdAt at h
  simp [World.frozen?, h]
theorem RdAt.below (h : RdAt rb s p w) (f : Below w.heap.size w w') : RdAt rb s p w' := (f.block _ (lt_of_block h)).trans h
theorem RdAt.set (h : RdAt rb s p w) (q : Nat) : RdAt rb s q (w.setCell ⟨rb, 1, none⟩ (.int .i64 (q : Int))) := heap_set h 1 _
theorem get_data {i : Nat} (h : i < s.size) : s.data.toList[i]? = some (s[i]'h) := by
  have h2 : i < s.data.toList.length := by rw [← Lib.size_eq]; exact h
  rw [List.getElem?_eq_getElem h2]
  rfl
set_option maxRecDepth 20000 in
set_option maxHeartbeats 1000000 in
theorem stands47 (h : RdAt rb s p w) (hp : p ≤ s.size) (x : UInt8) : Calls Tryz.prog 47 #[.pointer (some ⟨rb, 0, none⟩), .int .u8 (x.toNat : Int)] w fun e w' => e = .returned (.bool (decide (s.data.toList[p]? = some x))) ∧ ∃ k, w' = w.drewN k := by
  have c0 := h.c0
  have c1 := h.c1
  clear h
  by_cases hlt : p < s.size
  · have hlt' : (p : Int) < (s.size : Int) := by omega
    have e0 := get_data hlt
    obtain ⟨c, hc⟩ : ∃ c, s[p]'hlt = c := ⟨_, rfl⟩
    rw [hc] at e0
    have e1 : decide (s.data.toList[p]? = some x) = ((c.toNat : Int) == (x.toNat : Int)) := by
      rw [e0, Bool.eq_iff_iff]
      simp
      constructor
      · intro h; rw [h]
      · intro h; exact UInt8.toNat_inj.1 (by omega)
    rw [e1]
    clear e0 e1
    go_enter Tryz.func47, Tryz.ntmps47
    go_wp2
    go_quiet (fail)
    go_wp2
    go_ret
    exact ⟨rfl, _, rfl⟩
  · have hlt' : ¬ (p : Int) < (s.size : Int) := by omega
    have e1 : decide (s.data.toList[p]? = some x) = false := by
      rw [List.getElem?_eq_none (by rw [← Lib.size_eq]; omega)]
      rfl
    rw [e1]
    clear e1
    go_enter Tryz.func47, Tryz.ntmps47
    go_wp2
    go_quiet (fail)
    go_wp2
    go_ret
    exact ⟨rfl, _, rfl⟩
end
end Ht
end Go.Proofs.YtngfoghnopnbmaaGreatDoor

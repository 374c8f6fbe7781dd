/- A new feed; whether a feed stands within a message. -/
import Derived.Test.YtngfoghnopnbmaaGreatDoorTr
namespace Go.Proofs.YtngfoghnopnbmaaGreatDoor
open Go.RowKit
namespace Ht
open Bw

/-- A feed that takes nothing. -/
def FM.shut (ans : Bool) : FM := ⟨ans, 0, 0, 0, [], 0, Msg.zero, []⟩
section
variable {G : Nat → Prop} {base fb : Nat} {m : FM} {vt vh vb vw : Value} {zs : List Value} {w : World}
theorem open16 (h : FA G base fb m vt vh vb vw zs w) : Calls Tryz.prog 16 #[.pointer (some ⟨fb, 0, none⟩)] w fun e w' => e = .returned (.bool (decide (m.wt ≠ 0 ∧ m.wt ≠ 1))) ∧ w' = w := by
  have c1 := h.at 1
  simp at c1
  clear h
  by_cases h0 : m.wt = 0
  · rw [h0] at c1
    go_enter Tryz.func16, Tryz.ntmps16
    go_wp2
    go_ret
    exact ⟨by simp [h0], rfl⟩
  · by_cases h1 : m.wt = 1
    · rw [h1] at c1
      go_enter Tryz.func16, Tryz.ntmps16
      go_wp2
      go_ret
      exact ⟨by simp [h1], rfl⟩
    · go_enter Tryz.func16, Tryz.ntmps16
      go_wp2
      go_ret
      exact ⟨by simp [h0, h1], rfl⟩
/-- A block of such cells, its rows empty, is a feed. -/
theorem fa_shut (ans : Bool) (hc : w.heap[fb]? = some (.cells #[.bool ans, .int .i64 0, .nilFunc, .int .i64 0, .int .i64 0, .slice none 0 0, .int .i64 0, .string ⟨#[]⟩, .string ⟨#[]⟩, .int .i64 0, .string ⟨#[]⟩, .slice none 0 0, .slice none 0 0, .slice none 0 0] 75 (0, 0))) (hf : fb < base) (hs : base ≤ w.heap.size) (hG : ∀ k, G k → k < w.heap.size) : FA G base fb (FM.shut ans) (.slice none 0 0) (.slice none 0 0) (.slice none 0 0) (.slice none 0 0) [] w :=
  ⟨hc, RowB.nil _ _, World.ownsRow_nil _ _ _ _, RowB.nil _ _, fun k e => (by cases e), World.ownsRow_nil _ _ _ _, rfl, hf, hs, fun k hk => ⟨hG k hk, fun e => (by cases e), fun e => (by cases e), fun e => (by cases e), fun e => (by cases e)⟩⟩
set_option maxRecDepth 20000 in
set_option maxHeartbeats 1000000 in
theorem new10 (ans : Bool) (w : World) : Calls Tryz.prog 10 #[.bool ans] w fun e w' => e = .returned (.pointer (some ⟨w.heap.size, 0, none⟩)) ∧ FA (fun _ => False) (w.heap.size + 1) w.heap.size (FM.new ans) (.slice none 0 0) (.slice none 0 0) (.slice none 0 0) (.slice none 0 0) [] w' ∧ Below w.heap.size w w' := by
  obtain ⟨O, hO⟩ : ∃ O, O = Obj.cells #[.bool ans, .int .i64 0, .nilFunc, .int .i64 0, .int .i64 0, .slice none 0 0, .int .i64 0, .string ⟨#[]⟩, .string ⟨#[]⟩, .int .i64 0, .string ⟨#[]⟩, .slice none 0 0, .slice none 0 0, .slice none 0 0] 75 (0, 0) := ⟨_, rfl⟩
  have hc : (w.alloc O).heap[w.heap.size]? = some O := heap_alloc_new w O
  have h0 : FA (fun _ => False) (w.heap.size + 1) w.heap.size (FM.shut ans) (.slice none 0 0) (.slice none 0 0) (.slice none 0 0) (.slice none 0 0) [] (w.alloc O) := fa_shut ans (by rw [hc, hO]) (by omega) (by simp) (fun _ h => h.elim)
  have q := await31 h0 1 (by decide) (by decide)
  have hb := allocB' w O
  clear hc h0
  rw [hO] at q hb
  go_enter Tryz.func10, Tryz.ntmps10
  go_wp2_with (go_at_call 31; refine q.mono ?_; rintro e w1 ⟨rfl, k, fr⟩)
  go_ret
  exact ⟨rfl, k, hb.trans (Fr.below fr (by simp) (fun k hk => by omega))⟩
end
end Ht
end Go.Proofs.YtngfoghnopnbmaaGreatDoor

/- Bytes are fed: where a step errs. -/
import Derived.Test.YtngfoghnopnbmaaGreatDoorTt
namespace Go.Proofs.YtngfoghnopnbmaaGreatDoor
open Go.RowKit
namespace Ht
open Bw

section
variable {G : Nat → Prop} {base fb : Nat} {m : FM} {w : World}
theorem run_take_bad {m m' : FM} {x : Int} (l : List UInt8) (h : runM m l = (some x, m')) (i : Nat) (hi : i < l.length) {m1 : FM} (h1 : runM m (l.take i) = (none, m1)) : (∃ m2, nextM m1 l[i] = (none, m2) ∧ runM m (l.take (i + 1)) = (none, m2.tick)) ∨ nextM m1 l[i] = (some x, m') := by
  have e : l = l.take i ++ l[i] :: l.drop (i + 1) := by rw [← List.drop_eq_getElem_cons hi, List.take_append_drop]
  rw [e, run_app, h1] at h
  simp only [runM] at h
  rcases h2 : nextM m1 l[i] with ⟨e2, m2⟩
  rw [h2] at h
  cases e2 with
  | some e2 => exact .inr h
  | none =>
    refine .inl ⟨m2, rfl, ?_⟩
    rw [List.take_succ_eq_append_getElem hi, run_app, h1]
    simp only [runM, h2]
/-- How a call ends where a step errs with the code x. -/
def FedBad (G : Nat → Prop) (base fb : Nat) (m' : FM) (x : Int) (w : World) (e : Ending) (w' : World) : Prop := ∃ w1 vt vh vb vw zs k, e = .returned (.tuple #[vw, .iface 105 (.pointer (some ⟨k, 0, none⟩))]) ∧ FA G base fb m' vt vh vb vw zs w1 ∧ Frf G base fb w w1 ∧ w1.heap.size ≤ k ∧ w'.heap[k]? = some (.cells #[.int .i64 m'.tk, .iface 34 (.int .i64 x)] 107 (0, 0)) ∧ Fr (fun k => k = fb) w1 w' ∧ FA G base fb (FM.shut false) (.slice none 0 0) (.slice none 0 0) (.slice none 0 0) (.slice none 0 0) [] w'
set_option maxRecDepth 20000 in
set_option maxHeartbeats 4000000 in
theorem fault33 (t : Int) (v : Value) (w : World) (hv : ∃ x, v = .iface 34 x) : Calls Tryz.prog 33 #[.int .i64 t, v] w fun e w' => e = .returned (.iface 105 (.pointer (some ⟨w.heap.size, 0, none⟩))) ∧ w' = w.alloc (.cells #[.int .i64 t, v] 107) := by
  obtain ⟨x, rfl⟩ := hv
  go_enter Tryz.func33, Tryz.ntmps33
  go_wp2
  go_ret
  exact ⟨rfl, rfl⟩
end
end Ht
end Go.Proofs.YtngfoghnopnbmaaGreatDoor

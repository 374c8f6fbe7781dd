/- What coveylaw00.Is answers at a fault of the number 7 at its own place: true. -/
import Derived.Test.YtpjlpinjjklhhaaDoorIs
namespace Go.Proofs.YtpjlpinjjklhhaaDoor
open Go.RowKit Go.Extern.Stop Go.Stop Go.Extern
namespace AsW
theorem comp53 : (Tryd.prog.info? 53).map (·.comparable) = some true := by kernel_rfl
theorem some58 : (Tryd.prog.info? 58).map (fun _ => ()) = some () := by kernel_rfl
theorem neqSame (a : Addr) (w : World) : (binOp .neq 26 (.iface 53 (.pointer (some a))) (.iface 53 (.pointer (some a)))).run Tryd.prog w = .ok (.bool false) w := by
  obtain ⟨i, hi, hc⟩ := Option.map_eq_some_iff.1 comp53
  obtain ⟨j, hj, _⟩ := Option.map_eq_some_iff.1 some58
  simp only [binOp]
  simp [Op.equal, Op.maxDepth, run_equalIn_iface_ptr_same w 9998 a Tryd.underlying26 Tryd.underlying53 hi hc hj]

theorem as_below (e : Addr) (B : Nat) (w : World) (hB : w.heap.size = B + 1) (hg : w.cell? ⟨0, 0, none⟩ = some (.iface 87 (.agg #[.pointer (some ⟨3, 26, none⟩)]))) (old : Value) (ht0 : w.cell? ⟨B, 0, none⟩ = some old) (hf0 : w.frozen? ⟨B, 0, none⟩ = false) :
    Calls Tryd.prog 26 #[.iface 53 (.pointer (some e)), .iface 55 (.pointer (some ⟨B, 0, none⟩))] w fun ev w' => ev = .returned (.bool true) ∧ w'.cell? ⟨B, 0, none⟩ = some (.pointer (some e)) ∧ Below B w w' := by
  refine (as_hit e ⟨B, 0, none⟩ old w hg ht0 hf0).mono ?_
  rintro ev w' ⟨rfl, rfl⟩
  have hlt : B < w.heap.size := by omega
  refine ⟨rfl, ?_, ?_⟩
  · refine World.cell?_setCell_same _ _ _ (u := old) ?_
    rw [World.cell?_alloc_lt _ _ _ (by simp; omega), World.cell?_alloc_lt _ _ _ (by simp; omega), World.cell?_alloc_lt _ _ _ (by simp; omega), World.cell?_alloc_lt _ _ _ hlt]
    exact ht0
  · exact (((((Below.refl B w).alloc (by omega) _).alloc (by simp; omega) _).alloc (by simp; omega) _).alloc (by simp; omega) _).setCell (Nat.le_refl _) _

set_option maxHeartbeats 4000000 in
set_option maxRecDepth 100000 in
theorem Is_any (b : Nat) (n : Int) (w : World) (hf : w.heap[b]? = some (.cells #[.int .i64 n, .iface 32 (.int .i64 7)] 58 (0, 0))) (hg : w.cell? ⟨0, 0, none⟩ = some (.iface 87 (.agg #[.pointer (some ⟨3, 26, none⟩)]))) :
    Calls Tryd.prog 13 #[.iface 53 (.pointer (some ⟨b, 0, none⟩)), .int .i64 n, .int .i64 7] w fun ev w' => ev = .returned (.bool true) ∧ Below w.heap.size w w' := by
  obtain ⟨hc0, hc1, hlt⟩ := fault_cells hf
  have hlt0 : 0 < w.heap.size := by omega
  have hN := neqSame
  have h77 := eq77
  have hg1 : (w.alloc (.cells #[.pointer none] 53)).cell? ⟨0, 0, none⟩ = some (.iface 87 (.agg #[.pointer (some ⟨3, 26, none⟩)])) := by
    rw [World.cell?_alloc_lt _ _ ⟨0, 0, none⟩ hlt0]; exact hg
  have cA := as_below ⟨b, 0, none⟩ w.heap.size (w.alloc (.cells #[.pointer none] 53)) (by simp) hg1 (.pointer none) (by simp) (by simp)
  have hb0 : Below w.heap.size w (w.alloc (.cells #[.pointer none] 53)) := (Below.refl _ _).alloc (Nat.le_refl _) _
  go_enter Tryd.func13, Tryd.ntmps13
  go_wp2_with (first
    | (go_at_call 26; refine cA.mono ?_; rintro e w1 ⟨rfl, hcell, hb1⟩; have hf1 := ((hb1.block b hlt).trans (hb0.block b hlt)).trans hf; have hq0 := (fault_cells hf1).1; have hq1 := (fault_cells hf1).2.1)
    | (go_at_call 27; refine (is_hit b n _ hf1).mono ?_; rintro e w2 ⟨rfl, rfl⟩))
  go_ret
  exact ⟨rfl, hb0.trans hb1⟩
end AsW
end Go.Proofs.YtpjlpinjjklhhaaDoor

/- What errors.Is and coveylaw00.Is answer at a fault of the numbers 3 and 5: contracts, by walking their text. -/
import Derived.Test.YtehpdklnebognaaDoorAs
namespace Go.Proofs.YtehpdklnebognaaDoor
open Go.RowKit Go.Extern.Stop Go.Stop Go.Extern
namespace AsW
theorem comp32 (w : World) : (callFunc 132 #[.agg #[.pointer (some ⟨6, 31, none⟩)]]).run Tryd.prog w = .ok (.value (.bool true)) w := by kernel_rfl
theorem tOf32 (v : Value) (w : World) : (callFunc 51 #[.iface 31 v]).run Tryd.prog w = .ok (.value (.iface 115 (.agg #[.pointer (some ⟨6, 31, none⟩)]))) w := by kernel_rfl
theorem fault_cells3 {w : World} {b : Nat} {n : Int} (h : w.heap[b]? = some (.cells #[.int .i64 n, .iface 31 (.int .i64 3)] 70 (0, 0))) :
    w.cell? ⟨b, 0, none⟩ = some (.int .i64 n) ∧ w.cell? ⟨b, 1, none⟩ = some (.iface 31 (.int .i64 3)) ∧ b < w.heap.size := by
  refine ⟨?_, ?_, lt_of_block h⟩ <;> simp [World.cell?, h]

set_option maxHeartbeats 4000000 in
set_option maxRecDepth 100000 in
theorem is_hit3 (b : Nat) (n : Int) (w : World) (hf : w.heap[b]? = some (.cells #[.int .i64 n, .iface 31 (.int .i64 3)] 70 (0, 0))) :
    Calls Tryd.prog 28 #[.iface 55 (.pointer (some ⟨b, 0, none⟩)), .iface 31 (.int .i64 3)] w fun ev w' => ev = .returned (.bool true) ∧ w' = w := by
  obtain ⟨hc0, hc1, hlt⟩ := fault_cells3 hf
  have mC := methodComparable
  have c32 := comp32
  have t32 := tOf32
  have h1 := eqPC
  have h2 := noIs53
  have h3 := unwrap53
  have h4 := methodUnwrap
  have h77 := eq33
  clear hf
  go_enter Tryd.func28, Tryd.ntmps28
  go_wp2
  refine wp_loop_rounds 2 ?_
  rw [rounds_succ]
  go_wp2
  rw [rounds_succ]
  go_wp2
  go_ret
  exact ⟨rfl, rfl⟩
theorem fault_cells5 {w : World} {b : Nat} {n : Int} (h : w.heap[b]? = some (.cells #[.int .i64 n, .iface 31 (.int .i64 5)] 70 (0, 0))) :
    w.cell? ⟨b, 0, none⟩ = some (.int .i64 n) ∧ w.cell? ⟨b, 1, none⟩ = some (.iface 31 (.int .i64 5)) ∧ b < w.heap.size := by
  refine ⟨?_, ?_, lt_of_block h⟩ <;> simp [World.cell?, h]

set_option maxHeartbeats 4000000 in
set_option maxRecDepth 100000 in
theorem is_hit5 (b : Nat) (n : Int) (w : World) (hf : w.heap[b]? = some (.cells #[.int .i64 n, .iface 31 (.int .i64 5)] 70 (0, 0))) :
    Calls Tryd.prog 28 #[.iface 55 (.pointer (some ⟨b, 0, none⟩)), .iface 31 (.int .i64 5)] w fun ev w' => ev = .returned (.bool true) ∧ w' = w := by
  obtain ⟨hc0, hc1, hlt⟩ := fault_cells5 hf
  have mC := methodComparable
  have c32 := comp32
  have t32 := tOf32
  have h1 := eqPC5
  have h2 := noIs53
  have h3 := unwrap53
  have h4 := methodUnwrap
  have h77 := eq55
  clear hf
  go_enter Tryd.func28, Tryd.ntmps28
  go_wp2
  refine wp_loop_rounds 2 ?_
  rw [rounds_succ]
  go_wp2
  rw [rounds_succ]
  go_wp2
  go_ret
  exact ⟨rfl, rfl⟩
theorem comp53 : (Tryd.prog.info? 55).map (·.comparable) = some true := by kernel_rfl
theorem some58 : (Tryd.prog.info? 70).map (fun _ => ()) = some () := by kernel_rfl
theorem neqSame (a : Addr) (w : World) : (binOp .neq 28 (.iface 55 (.pointer (some a))) (.iface 55 (.pointer (some a)))).run Tryd.prog w = .ok (.bool false) w := by
  obtain ⟨i, hi, hc⟩ := Option.map_eq_some_iff.1 comp53
  obtain ⟨j, hj, _⟩ := Option.map_eq_some_iff.1 some58
  simp only [binOp]
  simp [Op.equal, Op.maxDepth, run_equalIn_iface_ptr_same w 9998 a Tryd.underlying28 Tryd.underlying55 hi hc hj]

theorem as_below (e : Addr) (B : Nat) (w : World) (hB : w.heap.size = B + 1) (hg : w.cell? ⟨0, 0, none⟩ = some (.iface 115 (.agg #[.pointer (some ⟨6, 28, none⟩)]))) (old : Value) (ht0 : w.cell? ⟨B, 0, none⟩ = some old) (hf0 : w.frozen? ⟨B, 0, none⟩ = false) :
    Calls Tryd.prog 27 #[.iface 55 (.pointer (some e)), .iface 67 (.pointer (some ⟨B, 0, none⟩))] w fun ev w' => ev = .returned (.bool true) ∧ w'.cell? ⟨B, 0, none⟩ = some (.pointer (some e)) ∧ Below B w w' := by
  refine (as_hit e ⟨B, 0, none⟩ old w hg ht0 hf0).mono ?_
  rintro ev w' ⟨rfl, rfl⟩
  have hlt : B < w.heap.size := by omega
  refine ⟨rfl, ?_, ?_⟩
  · refine World.cell?_setCell_same _ _ _ (u := old) ?_
    rw [World.cell?_alloc_lt _ _ _ (by simp; omega), World.cell?_alloc_lt _ _ _ (by simp; omega), World.cell?_alloc_lt _ _ _ (by simp; omega), World.cell?_alloc_lt _ _ _ hlt]
    exact ht0
  · exact (((((Below.refl B w).alloc (by omega) _).alloc (by simp; omega) _).alloc (by simp; omega) _).alloc (by simp; omega) _).setCell (Nat.le_refl _) _

set_option maxHeartbeats 4000000 in
set_option maxRecDepth 100000 in
theorem Is_any3 (b : Nat) (n : Int) (w : World) (hf : w.heap[b]? = some (.cells #[.int .i64 n, .iface 31 (.int .i64 3)] 70 (0, 0))) (hg : w.cell? ⟨0, 0, none⟩ = some (.iface 115 (.agg #[.pointer (some ⟨6, 28, none⟩)]))) :
    Calls Tryd.prog 12 #[.iface 55 (.pointer (some ⟨b, 0, none⟩)), .int .i64 n, .int .i64 3] w fun ev w' => ev = .returned (.bool true) ∧ Below w.heap.size w w' := by
  obtain ⟨hc0, hc1, hlt⟩ := fault_cells3 hf
  have hlt0 : 0 < w.heap.size := by omega
  have hN := neqSame
  have h77 := eq33
  have hg1 : (w.alloc (.cells #[.pointer none] 55)).cell? ⟨0, 0, none⟩ = some (.iface 115 (.agg #[.pointer (some ⟨6, 28, none⟩)])) := by
    rw [World.cell?_alloc_lt _ _ ⟨0, 0, none⟩ hlt0]; exact hg
  have cA := as_below ⟨b, 0, none⟩ w.heap.size (w.alloc (.cells #[.pointer none] 55)) (by simp) hg1 (.pointer none) (by simp) (by simp)
  have hb0 : Below w.heap.size w (w.alloc (.cells #[.pointer none] 55)) := (Below.refl _ _).alloc (Nat.le_refl _) _
  go_enter Tryd.func12, Tryd.ntmps12
  go_wp2_with (first
    | (go_at_call 27; refine cA.mono ?_; rintro e w1 ⟨rfl, hcell, hb1⟩; have hf1 := ((hb1.block b hlt).trans (hb0.block b hlt)).trans hf; have hq0 := (fault_cells3 hf1).1; have hq1 := (fault_cells3 hf1).2.1)
    | (go_at_call 28; refine (is_hit3 b n _ hf1).mono ?_; rintro e w2 ⟨rfl, rfl⟩))
  go_ret
  exact ⟨rfl, hb0.trans hb1⟩
set_option maxHeartbeats 4000000 in
set_option maxRecDepth 100000 in
theorem Is_any5 (b : Nat) (n : Int) (w : World) (hf : w.heap[b]? = some (.cells #[.int .i64 n, .iface 31 (.int .i64 5)] 70 (0, 0))) (hg : w.cell? ⟨0, 0, none⟩ = some (.iface 115 (.agg #[.pointer (some ⟨6, 28, none⟩)]))) :
    Calls Tryd.prog 12 #[.iface 55 (.pointer (some ⟨b, 0, none⟩)), .int .i64 n, .int .i64 5] w fun ev w' => ev = .returned (.bool true) ∧ Below w.heap.size w w' := by
  obtain ⟨hc0, hc1, hlt⟩ := fault_cells5 hf
  have hlt0 : 0 < w.heap.size := by omega
  have hN := neqSame
  have h77 := eq55
  have hg1 : (w.alloc (.cells #[.pointer none] 55)).cell? ⟨0, 0, none⟩ = some (.iface 115 (.agg #[.pointer (some ⟨6, 28, none⟩)])) := by
    rw [World.cell?_alloc_lt _ _ ⟨0, 0, none⟩ hlt0]; exact hg
  have cA := as_below ⟨b, 0, none⟩ w.heap.size (w.alloc (.cells #[.pointer none] 55)) (by simp) hg1 (.pointer none) (by simp) (by simp)
  have hb0 : Below w.heap.size w (w.alloc (.cells #[.pointer none] 55)) := (Below.refl _ _).alloc (Nat.le_refl _) _
  go_enter Tryd.func12, Tryd.ntmps12
  go_wp2_with (first
    | (go_at_call 27; refine cA.mono ?_; rintro e w1 ⟨rfl, hcell, hb1⟩; have hf1 := ((hb1.block b hlt).trans (hb0.block b hlt)).trans hf; have hq0 := (fault_cells5 hf1).1; have hq1 := (fault_cells5 hf1).2.1)
    | (go_at_call 28; refine (is_hit5 b n _ hf1).mono ?_; rintro e w2 ⟨rfl, rfl⟩))
  go_ret
  exact ⟨rfl, hb0.trans hb1⟩
end AsW
end Go.Proofs.YtehpdklnebognaaDoor

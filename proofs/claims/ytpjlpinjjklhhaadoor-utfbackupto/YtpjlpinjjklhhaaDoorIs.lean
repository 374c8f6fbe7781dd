/- What errors.Is and coveylaw00.Is answer at a fault of the number 7: contracts, by walking their text. -/
import Derived.Test.YtpjlpinjjklhhaaDoorAs
namespace Go.Proofs.YtpjlpinjjklhhaaDoor
open Go.RowKit Go.Extern.Stop Go.Stop Go.Extern
namespace AsW
theorem comp32 (w : World) : (callFunc 76 #[.agg #[.pointer (some ⟨3, 32, none⟩)]]).run Tryd.prog w = .ok (.value (.bool true)) w := by kernel_rfl
theorem tOf32 (v : Value) (w : World) : (callFunc 43 #[.iface 32 v]).run Tryd.prog w = .ok (.value (.iface 87 (.agg #[.pointer (some ⟨3, 32, none⟩)]))) w := by kernel_rfl
theorem fault_cells {w : World} {b : Nat} {n : Int} (h : w.heap[b]? = some (.cells #[.int .i64 n, .iface 32 (.int .i64 7)] 58 (0, 0))) :
    w.cell? ⟨b, 0, none⟩ = some (.int .i64 n) ∧ w.cell? ⟨b, 1, none⟩ = some (.iface 32 (.int .i64 7)) ∧ b < w.heap.size := by
  refine ⟨?_, ?_, lt_of_block h⟩ <;> simp [World.cell?, h]

set_option maxHeartbeats 4000000 in
set_option maxRecDepth 100000 in
theorem is_hit (b : Nat) (n : Int) (w : World) (hf : w.heap[b]? = some (.cells #[.int .i64 n, .iface 32 (.int .i64 7)] 58 (0, 0))) :
    Calls Tryd.prog 27 #[.iface 53 (.pointer (some ⟨b, 0, none⟩)), .iface 32 (.int .i64 7)] w fun ev w' => ev = .returned (.bool true) ∧ w' = w := by
  obtain ⟨hc0, hc1, hlt⟩ := fault_cells hf
  have mC := methodComparable
  have c32 := comp32
  have t32 := tOf32
  have h1 := eqPC
  have h2 := noIs53
  have h3 := unwrap53
  have h4 := methodUnwrap
  have h77 := eq77
  clear hf
  go_enter Tryd.func27, Tryd.ntmps27
  go_wp2
  refine wp_loop_rounds 2 ?_
  rw [rounds_succ]
  go_wp2
  rw [rounds_succ]
  go_wp2
  go_ret
  exact ⟨rfl, rfl⟩
end AsW
end Go.Proofs.YtpjlpinjjklhhaaDoor

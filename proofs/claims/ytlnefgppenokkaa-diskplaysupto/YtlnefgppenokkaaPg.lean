/- coveylaw00.Code at the errors that a disk answers. -/
import Derived.Test.YtlnefgppenokkaaPf
import Derived.Test.YtlnefgppenokkaaDj
namespace Go.Proofs.Ytlnefgppenokkaa
open Go.RowKit
namespace Rf
open Bw Rg Dk

/-- Errors' numbers that a disk answers. -/
def Cd (n : Int) : Prop := n = 0 ∨ n = 1 ∨ n = 9 ∨ n = 11 ∨ n = 12
theorem code_0 (w : World) : Calls Try.prog 25 #[.nilIface] w fun e w' => e = .returned (.int .i64 0) ∧ w' = w := by
  go_enter Try.func25, Try.ntmps25
  go_wp2
  go_ret
  exact ⟨rfl, rfl⟩
theorem code_1 (w : World) : Calls Try.prog 25 #[.iface 29 (.int .i64 1)] w fun e w' => e = .returned (.int .i64 1) ∧ w' = w := by
  have n1 : ∀ W : World, (binOp .eql 26 (.iface 29 (.int .i64 1)) (.iface 29 (.int .i64 1))).run Try.prog W = .ok (.bool true) W := fun W => bin_err 1 1 W
  go_enter Try.func25, Try.ntmps25
  go_wp2
  go_ret
  exact ⟨rfl, rfl⟩
theorem code_9 (w : World) : Calls Try.prog 25 #[.iface 29 (.int .i64 9)] w fun e w' => e = .returned (.int .i64 9) ∧ w' = w := by
  have n1 : ∀ W : World, (binOp .eql 26 (.iface 29 (.int .i64 9)) (.iface 29 (.int .i64 1))).run Try.prog W = .ok (.bool false) W := fun W => bin_err 9 1 W
  have n2 : ∀ W : World, (binOp .eql 26 (.iface 29 (.int .i64 9)) (.iface 29 (.int .i64 2))).run Try.prog W = .ok (.bool false) W := fun W => bin_err 9 2 W
  have n3 : ∀ W : World, (binOp .eql 26 (.iface 29 (.int .i64 9)) (.iface 29 (.int .i64 3))).run Try.prog W = .ok (.bool false) W := fun W => bin_err 9 3 W
  have n4 : ∀ W : World, (binOp .eql 26 (.iface 29 (.int .i64 9)) (.iface 29 (.int .i64 4))).run Try.prog W = .ok (.bool false) W := fun W => bin_err 9 4 W
  have n5 : ∀ W : World, (binOp .eql 26 (.iface 29 (.int .i64 9)) (.iface 29 (.int .i64 5))).run Try.prog W = .ok (.bool false) W := fun W => bin_err 9 5 W
  have n6 : ∀ W : World, (binOp .eql 26 (.iface 29 (.int .i64 9)) (.iface 29 (.int .i64 6))).run Try.prog W = .ok (.bool false) W := fun W => bin_err 9 6 W
  have n7 : ∀ W : World, (binOp .eql 26 (.iface 29 (.int .i64 9)) (.iface 29 (.int .i64 7))).run Try.prog W = .ok (.bool false) W := fun W => bin_err 9 7 W
  have n8 : ∀ W : World, (binOp .eql 26 (.iface 29 (.int .i64 9)) (.iface 29 (.int .i64 8))).run Try.prog W = .ok (.bool false) W := fun W => bin_err 9 8 W
  have n9 : ∀ W : World, (binOp .eql 26 (.iface 29 (.int .i64 9)) (.iface 29 (.int .i64 9))).run Try.prog W = .ok (.bool true) W := fun W => bin_err 9 9 W
  go_enter Try.func25, Try.ntmps25
  go_wp2
  go_ret
  exact ⟨rfl, rfl⟩
theorem code_11 (w : World) : Calls Try.prog 25 #[.iface 29 (.int .i64 11)] w fun e w' => e = .returned (.int .i64 11) ∧ w' = w := by
  have n1 : ∀ W : World, (binOp .eql 26 (.iface 29 (.int .i64 11)) (.iface 29 (.int .i64 1))).run Try.prog W = .ok (.bool false) W := fun W => bin_err 11 1 W
  have n2 : ∀ W : World, (binOp .eql 26 (.iface 29 (.int .i64 11)) (.iface 29 (.int .i64 2))).run Try.prog W = .ok (.bool false) W := fun W => bin_err 11 2 W
  have n3 : ∀ W : World, (binOp .eql 26 (.iface 29 (.int .i64 11)) (.iface 29 (.int .i64 3))).run Try.prog W = .ok (.bool false) W := fun W => bin_err 11 3 W
  have n4 : ∀ W : World, (binOp .eql 26 (.iface 29 (.int .i64 11)) (.iface 29 (.int .i64 4))).run Try.prog W = .ok (.bool false) W := fun W => bin_err 11 4 W
  have n5 : ∀ W : World, (binOp .eql 26 (.iface 29 (.int .i64 11)) (.iface 29 (.int .i64 5))).run Try.prog W = .ok (.bool false) W := fun W => bin_err 11 5 W
  have n6 : ∀ W : World, (binOp .eql 26 (.iface 29 (.int .i64 11)) (.iface 29 (.int .i64 6))).run Try.prog W = .ok (.bool false) W := fun W => bin_err 11 6 W
  have n7 : ∀ W : World, (binOp .eql 26 (.iface 29 (.int .i64 11)) (.iface 29 (.int .i64 7))).run Try.prog W = .ok (.bool false) W := fun W => bin_err 11 7 W
  have n8 : ∀ W : World, (binOp .eql 26 (.iface 29 (.int .i64 11)) (.iface 29 (.int .i64 8))).run Try.prog W = .ok (.bool false) W := fun W => bin_err 11 8 W
  have n9 : ∀ W : World, (binOp .eql 26 (.iface 29 (.int .i64 11)) (.iface 29 (.int .i64 9))).run Try.prog W = .ok (.bool false) W := fun W => bin_err 11 9 W
  have n10 : ∀ W : World, (binOp .eql 26 (.iface 29 (.int .i64 11)) (.iface 29 (.int .i64 10))).run Try.prog W = .ok (.bool false) W := fun W => bin_err 11 10 W
  have n11 : ∀ W : World, (binOp .eql 26 (.iface 29 (.int .i64 11)) (.iface 29 (.int .i64 11))).run Try.prog W = .ok (.bool true) W := fun W => bin_err 11 11 W
  go_enter Try.func25, Try.ntmps25
  go_wp2
  go_ret
  exact ⟨rfl, rfl⟩
theorem code_12 (w : World) : Calls Try.prog 25 #[.iface 29 (.int .i64 12)] w fun e w' => e = .returned (.int .i64 12) ∧ w' = w := by
  have n1 : ∀ W : World, (binOp .eql 26 (.iface 29 (.int .i64 12)) (.iface 29 (.int .i64 1))).run Try.prog W = .ok (.bool false) W := fun W => bin_err 12 1 W
  have n2 : ∀ W : World, (binOp .eql 26 (.iface 29 (.int .i64 12)) (.iface 29 (.int .i64 2))).run Try.prog W = .ok (.bool false) W := fun W => bin_err 12 2 W
  have n3 : ∀ W : World, (binOp .eql 26 (.iface 29 (.int .i64 12)) (.iface 29 (.int .i64 3))).run Try.prog W = .ok (.bool false) W := fun W => bin_err 12 3 W
  have n4 : ∀ W : World, (binOp .eql 26 (.iface 29 (.int .i64 12)) (.iface 29 (.int .i64 4))).run Try.prog W = .ok (.bool false) W := fun W => bin_err 12 4 W
  have n5 : ∀ W : World, (binOp .eql 26 (.iface 29 (.int .i64 12)) (.iface 29 (.int .i64 5))).run Try.prog W = .ok (.bool false) W := fun W => bin_err 12 5 W
  have n6 : ∀ W : World, (binOp .eql 26 (.iface 29 (.int .i64 12)) (.iface 29 (.int .i64 6))).run Try.prog W = .ok (.bool false) W := fun W => bin_err 12 6 W
  have n7 : ∀ W : World, (binOp .eql 26 (.iface 29 (.int .i64 12)) (.iface 29 (.int .i64 7))).run Try.prog W = .ok (.bool false) W := fun W => bin_err 12 7 W
  have n8 : ∀ W : World, (binOp .eql 26 (.iface 29 (.int .i64 12)) (.iface 29 (.int .i64 8))).run Try.prog W = .ok (.bool false) W := fun W => bin_err 12 8 W
  have n9 : ∀ W : World, (binOp .eql 26 (.iface 29 (.int .i64 12)) (.iface 29 (.int .i64 9))).run Try.prog W = .ok (.bool false) W := fun W => bin_err 12 9 W
  have n10 : ∀ W : World, (binOp .eql 26 (.iface 29 (.int .i64 12)) (.iface 29 (.int .i64 10))).run Try.prog W = .ok (.bool false) W := fun W => bin_err 12 10 W
  have n11 : ∀ W : World, (binOp .eql 26 (.iface 29 (.int .i64 12)) (.iface 29 (.int .i64 11))).run Try.prog W = .ok (.bool false) W := fun W => bin_err 12 11 W
  have n12 : ∀ W : World, (binOp .eql 26 (.iface 29 (.int .i64 12)) (.iface 29 (.int .i64 12))).run Try.prog W = .ok (.bool true) W := fun W => bin_err 12 12 W
  go_enter Try.func25, Try.ntmps25
  go_wp2
  go_ret
  exact ⟨rfl, rfl⟩
theorem code_any {n : Int} (h : Cd n) (w : World) : Calls Try.prog 25 #[codeV n] w fun e w' => e = .returned (.int .i64 n) ∧ w' = w := by
  rcases h with rfl | rfl | rfl | rfl | rfl
  · exact code_0 w
  · exact code_1 w
  · exact code_9 w
  · exact code_11 w
  · exact code_12 w
end Rf
end Go.Proofs.Ytlnefgppenokkaa

/- A world in which the package-level variable that the rows of layer 16 list holds what its initialiser lays: for the rows' witnesses. -/
import Derived.Test.YthplcnbfpcndbaaGreatDoorAr
import Derived.ProofKit
import Derived.LaidLaws
import Derived.Stop.Joined
import Derived.Deep.DeepHandedRow
import Derived.Lib.LaidU8
namespace Go.Proofs.YthplcnbfpcndbaaGreatDoor
open Go.ChangeShapes Go.WideShapes Go.ChangeAt Go.RowKit
namespace Wit

theorem own : ownKnob Tryz.prog.godebug = none := by kernel_rfl
theorem laidOut : laidOutB Tryz.prog = true := by kernel_rfl
/-- A block with other cells. -/
def put (cs : Array Value) : Obj → Obj
  | .cells _ t frozen => .cells cs t frozen
  | o => o
def singleCells : Array Value := #[.string ⟨#[98, 97, 110]⟩, .string ⟨#[107, 105, 99, 107]⟩, .string ⟨#[114, 101, 100, 97, 99, 116]⟩, .string ⟨#[105, 110, 118, 105, 116, 101]⟩, .string ⟨#[117, 115, 101, 114, 115, 95, 100, 101, 102, 97, 117, 108, 116]⟩, .string ⟨#[101, 118, 101, 110, 116, 115, 95, 100, 101, 102, 97, 117, 108, 116]⟩, .string ⟨#[115, 116, 97, 116, 101, 95, 100, 101, 102, 97, 117, 108, 116]⟩]
noncomputable def laidWorld (os : Os) : World := { World.holding Tryz.prog os ⟨#[], #[], []⟩ with heap := ((World.holding Tryz.prog os ⟨#[], #[], []⟩).heap.modify 0 (put singleCells)) }
def laid1 : List (String × DataW Unit) := [("covey/auth.singles", Rows.laid_covey_auth_singles)]
theorem n0 : Tryz.prog.globalNamed "covey/auth.singles" = some 0 := by kernel_rfl
set_option maxRecDepth 100000 in
theorem met1 (os : Os) (args : Array Value) : laidMet Tryz.prog laid1 ((laidWorld os).forCall (fun _ _ => 0) ⟨#[], args, []⟩).memory :=
  laidMet_of_run' 8 (by kernel_rfl) (by kernel_rfl)
end Wit
end Go.Proofs.YthplcnbfpcndbaaGreatDoor

/- A world in which the three package-level variables that the rows of layer 2 list hold what their initialisers lay: for the rows' witnesses; and what the list says of errors.errorType's cell and of the tables of unicode/utf8. -/
import Derived.Test.YtehpdklnebognaaDoorRows
import Derived.Test.YtehpdklnebognaaDoorShw
import Derived.ProofKit
import Derived.OpenShut
import Derived.LaidLaws
import Derived.LaidHandle
import Derived.Stop.Joined
import Derived.Deep.DeepHandedRow
import Derived.Lib.LaidU8
namespace Go.Proofs.YtehpdklnebognaaDoor
open Go.ChangeShapes Go.WideShapes Go.ChangeAt Go.RowKit
namespace Wit

theorem own : ownKnob Tryd.prog.godebug = none := by kernel_rfl
/-- A block with other cells. -/
def put (cs : Array Value) : Obj → Obj
  | .cells _ t frozen => .cells cs t frozen
  | o => o
def firstCells : Array Value := (Go.Pinned.utf8FirstZ.map fun (n : Nat) => Value.int .u8 (n : Int)).toArray
def acceptCells : Array Value := #[.int .u8 128, .int .u8 191, .int .u8 160, .int .u8 191, .int .u8 128, .int .u8 159, .int .u8 144, .int .u8 191, .int .u8 128, .int .u8 143, .int .u8 0, .int .u8 0, .int .u8 0, .int .u8 0, .int .u8 0, .int .u8 0, .int .u8 0, .int .u8 0, .int .u8 0, .int .u8 0, .int .u8 0, .int .u8 0, .int .u8 0, .int .u8 0, .int .u8 0, .int .u8 0, .int .u8 0, .int .u8 0, .int .u8 0, .int .u8 0, .int .u8 0, .int .u8 0]
def errorCells : Array Value := #[.iface 115 (.agg #[.pointer (some ⟨6, 28, none⟩)])]
noncomputable def laidWorld (os : Os) : World :=
  { World.holding Tryd.prog os ⟨#[], #[], []⟩ with heap := (((World.holding Tryd.prog os ⟨#[], #[], []⟩).heap.modify 0 (put errorCells)).modify 2 (put firstCells)).modify 3 (put acceptCells) }

/-- The list with two variables, and the list with three. -/
def laid2 : List (String × DataW Unit) := [("unicode/utf8.acceptRanges", Rows.laid_unicode_utf8_acceptRanges), ("unicode/utf8.first", Rows.laid_unicode_utf8_first)]
def laid3 : List (String × DataW Unit) := [("unicode/utf8.acceptRanges", Rows.laid_unicode_utf8_acceptRanges), ("errors.errorType", Rows.laid_errors_errorType), ("unicode/utf8.first", Rows.laid_unicode_utf8_first)]
set_option maxRecDepth 100000 in
theorem met2 (os : Os) (args : Array Value) : laidMet Tryd.prog laid2 ((laidWorld os).forCall (fun _ _ => 0) ⟨#[], args, []⟩).memory :=
  laidMet_of_run' 8 (by kernel_rfl) (by kernel_rfl)
set_option maxRecDepth 100000 in
theorem met3 (os : Os) (args : Array Value) : laidMetH Tryd.prog laid3 ((laidWorld os).forCall (fun _ _ => 0) ⟨#[], args, []⟩).memory :=
  laidMetH_of_parts (met2 os args) (by kernel_rfl)

theorem et : Tryd.prog.globalNamed "errors.errorType" = some 0 := by kernel_rfl
theorem rt : (Tryd.prog.cutTypes.find? (·.1 == "internal/reflectlite.rtype")).map (·.2) = some 115 := by kernel_rfl
theorem oneRow : ((List.range 195).filter fun t => Tryd.prog.rowNamed t [101, 114, 114, 111, 114]) = [28] := by kernel_rfl
theorem size : Tryd.prog.types.size = 195 := by kernel_rfl
/-- What the list says of errors.errorType. -/
theorem handle {W : World} (h : laidMetH Tryd.prog laid3 W) : Hand W := by
  have h' : laidMet Tryd.prog laid2 W ∧ handlesMet Tryd.prog [("errors.errorType", Rows.laid_errors_errorType)] W := h
  obtain ⟨name, u, ty, e1, e2, e3, e4, e5⟩ := h'.2 _ (List.mem_singleton.2 rfl)
  have en : name = [101, 114, 114, 111, 114] := (Option.some.inj e1).symm
  subst en
  obtain rfl := Option.some.inj (rt.symm.trans e2)
  have hm : ty ∈ (List.range 195).filter fun t => Tryd.prog.rowNamed t [101, 114, 114, 111, 114] := List.mem_filter.2 ⟨List.mem_range.2 (by rw [← size]; exact e3), e4⟩
  rw [oneRow] at hm
  obtain rfl := List.mem_singleton.1 hm
  have hh : typeHandle Tryd.prog 28 = .pointer (some ⟨6, 28, none⟩) := by kernel_rfl
  rw [hh] at e5
  unfold Hand
  simpa using World.var?_cell et e5 0

theorem n1 : Tryd.prog.globalNamed "unicode/utf8.first" = some 2 := by kernel_rfl
theorem n2 : Tryd.prog.globalNamed "unicode/utf8.acceptRanges" = some 3 := by kernel_rfl
theorem y1 : (Tryd.prog.globals[2]?).map (·.type) = some 160 := by kernel_rfl
theorem y2 : (Tryd.prog.globals[3]?).map (·.type) = some 163 := by kernel_rfl
theorem c5 : Tryd.prog.cellsOf 5 = 1 := by kernel_rfl
theorem c160 : Tryd.prog.cellsOf 160 = 256 := by kernel_rfl
theorem c162 : Tryd.prog.cellsOf 162 = 2 := by kernel_rfl
theorem first_eq : Rows.laid_unicode_utf8_first = Lib.firstData := by kernel_rfl
theorem accept_eq : (Rows.laid_unicode_utf8_acceptRanges : DataW Unit) = Lib.acceptData := by kernel_rfl
theorem extra : U8Extra Tryd.prog lays260_ren := { n3 := n1, n4 := n2, y3 := y1, y4 := y2, c5 := c5, c119 := c160, c138 := c162 }
/-- What the list says of the two tables. -/
theorem tabs {W : World} (h' : laidMetH Tryd.prog laid3 W) : Tabs W := by
  have h : laidMet Tryd.prog laid2 W := (show laidMet Tryd.prog laid2 W ∧ handlesMet Tryd.prog [("errors.errorType", Rows.laid_errors_errorType)] W from h').1
  have r1 := Lib.laidMet.reads h (n := "unicode/utf8.first") (d := Rows.laid_unicode_utf8_first) (by simp [laid2])
  have r2 := Lib.laidMet.reads h (n := "unicode/utf8.acceptRanges") (d := Rows.laid_unicode_utf8_acceptRanges) (by simp [laid2])
  rw [first_eq] at r1
  rw [accept_eq] at r2
  exact utf8Tabs_of_reads lays260 extra r1 r2
theorem six : Tryd.prog.globals.size ≤ 6 ∧ 6 < (begin Tryd.prog (fun _ _ => 0) default).world.heap.size := by
  constructor
  · exact of_decide_eq_true (by kernel_rfl)
  · exact of_decide_eq_true (by kernel_rfl)
/-- A world of the program's shape has more than six blocks. -/
theorem room {W : World} (h : W.ShapedOpen Tryd.prog) : 6 ≤ W.heap.size := by
  obtain ⟨o, _, h1, _⟩ := h.2 6 six.1 six.2
  exact Nat.le_of_lt (lt_of_block h1)
end Wit
end Go.Proofs.YtehpdklnebognaaDoor

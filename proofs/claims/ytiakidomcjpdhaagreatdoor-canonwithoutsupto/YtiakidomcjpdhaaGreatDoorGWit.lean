/- A world in which the five package-level variables that the rows of layer 3 list hold what their initialisers lay: for the rows' witnesses; and what the list says of them. -/
import Derived.Test.YtiakidomcjpdhaaGreatDoorRows
import Derived.Test.YtiakidomcjpdhaaGreatDoorGSe
import Derived.ProofKit
import Derived.OpenShut
import Derived.LaidLaws
import Derived.Stop.Joined
import Derived.Deep.DeepHandedRow
import Derived.Lib.LaidU8
namespace Go.Proofs.YtiakidomcjpdhaaGreatDoor
open Go.ChangeShapes Go.WideShapes Go.ChangeAt Go.RowKit
namespace Wit

theorem own : ownKnob Tryz.prog.godebug = none := by kernel_rfl
/-- A block with other cells. -/
def put (cs : Array Value) : Obj → Obj
  | .cells _ t frozen => .cells cs t frozen
  | o => o
def firstCells : Array Value := (Go.Pinned.utf8FirstZ.map fun (n : Nat) => Value.int .u8 (n : Int)).toArray
def acceptCells : Array Value := #[.int .u8 128, .int .u8 191, .int .u8 160, .int .u8 191, .int .u8 128, .int .u8 159, .int .u8 144, .int .u8 191, .int .u8 128, .int .u8 143, .int .u8 0, .int .u8 0, .int .u8 0, .int .u8 0, .int .u8 0, .int .u8 0, .int .u8 0, .int .u8 0, .int .u8 0, .int .u8 0, .int .u8 0, .int .u8 0, .int .u8 0, .int .u8 0, .int .u8 0, .int .u8 0, .int .u8 0, .int .u8 0, .int .u8 0, .int .u8 0, .int .u8 0, .int .u8 0]
def d32Cells : Array Value := #[.int .u8 0, .int .u8 1, .int .u8 28, .int .u8 2, .int .u8 29, .int .u8 14, .int .u8 24, .int .u8 3, .int .u8 30, .int .u8 22, .int .u8 20, .int .u8 15, .int .u8 25, .int .u8 17, .int .u8 4, .int .u8 8, .int .u8 31, .int .u8 27, .int .u8 13, .int .u8 23, .int .u8 21, .int .u8 19, .int .u8 16, .int .u8 7, .int .u8 26, .int .u8 12, .int .u8 18, .int .u8 6, .int .u8 11, .int .u8 5, .int .u8 10, .int .u8 9]
def d64Cells : Array Value := #[.int .u8 0, .int .u8 1, .int .u8 56, .int .u8 2, .int .u8 57, .int .u8 49, .int .u8 28, .int .u8 3, .int .u8 61, .int .u8 58, .int .u8 42, .int .u8 50, .int .u8 38, .int .u8 29, .int .u8 17, .int .u8 4, .int .u8 62, .int .u8 47, .int .u8 59, .int .u8 36, .int .u8 45, .int .u8 43, .int .u8 51, .int .u8 22, .int .u8 53, .int .u8 39, .int .u8 33, .int .u8 30, .int .u8 24, .int .u8 18, .int .u8 12, .int .u8 5, .int .u8 63, .int .u8 55, .int .u8 48, .int .u8 27, .int .u8 60, .int .u8 41, .int .u8 37, .int .u8 16, .int .u8 46, .int .u8 35, .int .u8 44, .int .u8 21, .int .u8 52, .int .u8 32, .int .u8 23, .int .u8 11, .int .u8 54, .int .u8 26, .int .u8 40, .int .u8 15, .int .u8 34, .int .u8 20, .int .u8 31, .int .u8 10, .int .u8 25, .int .u8 14, .int .u8 19, .int .u8 9, .int .u8 13, .int .u8 8, .int .u8 7, .int .u8 6]
def powCells : Array Value := #[.int .u64 1, .int .u64 10, .int .u64 100, .int .u64 1000, .int .u64 10000, .int .u64 100000, .int .u64 1000000, .int .u64 10000000, .int .u64 100000000, .int .u64 1000000000, .int .u64 10000000000, .int .u64 100000000000, .int .u64 1000000000000, .int .u64 10000000000000, .int .u64 100000000000000, .int .u64 1000000000000000, .int .u64 10000000000000000, .int .u64 100000000000000000, .int .u64 1000000000000000000, .int .u64 10000000000000000000]
noncomputable def laidWorld (os : Os) : World :=
  { World.holding Tryz.prog os ⟨#[], #[], []⟩ with heap := (((((World.holding Tryz.prog os ⟨#[], #[], []⟩).heap.modify 0 (put powCells)).modify 1 (put firstCells)).modify 2 (put acceptCells)).modify 3 (put d32Cells)).modify 4 (put d64Cells) }
def laid5 : List (String × DataW Unit) := [("math/bits.deBruijn32tab", Rows.laid_math_bits_deBruijn32tab), ("math/bits.deBruijn64tab", Rows.laid_math_bits_deBruijn64tab), ("internal/strconv.uint64pow10", Rows.laid_internal_strconv_uint64pow10), ("unicode/utf8.acceptRanges", Rows.laid_unicode_utf8_acceptRanges), ("unicode/utf8.first", Rows.laid_unicode_utf8_first)]
set_option maxRecDepth 100000 in
theorem met5 (os : Os) (args : Array Value) : laidMet Tryz.prog laid5 ((laidWorld os).forCall (fun _ _ => 0) ⟨#[], args, []⟩).memory :=
  laidMet_of_run' 8 (by kernel_rfl) (by kernel_rfl)
theorem n1 : Tryz.prog.globalNamed "unicode/utf8.first" = some 1 := by kernel_rfl
theorem n2 : Tryz.prog.globalNamed "unicode/utf8.acceptRanges" = some 2 := by kernel_rfl
theorem n0 : Tryz.prog.globalNamed "internal/strconv.uint64pow10" = some 0 := by kernel_rfl
theorem n4 : Tryz.prog.globalNamed "math/bits.deBruijn64tab" = some 4 := by kernel_rfl
theorem y0 : (Tryz.prog.globals[0]?).map (·.type) = some 161 := by kernel_rfl
theorem y1 : (Tryz.prog.globals[1]?).map (·.type) = some 170 := by kernel_rfl
theorem y2 : (Tryz.prog.globals[2]?).map (·.type) = some 173 := by kernel_rfl
theorem y4 : (Tryz.prog.globals[4]?).map (·.type) = some 181 := by kernel_rfl
theorem cD4 : Tryz.prog.cellsOf 181 = 64 := by kernel_rfl
theorem c5 : Tryz.prog.cellsOf 5 = 1 := by kernel_rfl
theorem c170 : Tryz.prog.cellsOf 170 = 256 := by kernel_rfl
theorem c172 : Tryz.prog.cellsOf 172 = 2 := by kernel_rfl
theorem c131 : Tryz.prog.cellsOf 131 = 1 := by kernel_rfl
theorem c161 : Tryz.prog.cellsOf 161 = 20 := by kernel_rfl
theorem first_eq : Rows.laid_unicode_utf8_first = Lib.firstData := by kernel_rfl
theorem accept_eq : (Rows.laid_unicode_utf8_acceptRanges : DataW Unit) = Lib.acceptData := by kernel_rfl
theorem pow_eq : (Rows.laid_internal_strconv_uint64pow10 : DataW Unit) = Lib.tabData .u64 Lib.pow10Tab := by kernel_rfl
theorem dbr_eq : (Rows.laid_math_bits_deBruijn64tab : DataW Unit) = Lib.tabData .u8 (Lib.deBruijn64tab.map fun n : Nat => (n : Int)) := by kernel_rfl
theorem extra : U8Extra Tryz.prog lays260_ren := { n3 := n1, n4 := n2, y3 := y1, y4 := y2, c5 := c5, c119 := c170, c138 := c172 }
/-- What the list says of the two tables of unicode/utf8. -/
theorem tabs {W : World} (h : laidMet Tryz.prog laid5 W) : Tabs W := by
  have r1 := Lib.laidMet.reads h (n := "unicode/utf8.first") (d := Rows.laid_unicode_utf8_first) (by simp [laid5])
  have r2 := Lib.laidMet.reads h (n := "unicode/utf8.acceptRanges") (d := Rows.laid_unicode_utf8_acceptRanges) (by simp [laid5])
  rw [first_eq] at r1
  rw [accept_eq] at r2
  exact utf8Tabs_of_reads lays260 extra r1 r2
/-- What the list says of the powers of ten, and of the table of math/bits. -/
theorem pow {W : World} (h : laidMet Tryz.prog laid5 W) : Pu.Pow10 W := by
  refine ⟨?_, ?_⟩
  · have r := Lib.laidMet.reads h (n := "internal/strconv.uint64pow10") (d := Rows.laid_internal_strconv_uint64pow10) (by simp [laid5])
    rw [pow_eq] at r
    obtain ⟨g, t, cs, fuel, p, hg, hty, hvar, hd⟩ := r
    obtain rfl := Option.some.inj (n0.symm.trans hg)
    obtain rfl := Option.some.inj (y0.symm.trans hty)
    unfold Pu.Pow Lib.TabIs
    rw [hvar, ← Lib.cells_of_tab Tryz.underlying161 Tryz.underlying131 c131 c161 hd]
  · have r := Lib.laidMet.reads h (n := "math/bits.deBruijn64tab") (d := Rows.laid_math_bits_deBruijn64tab) (by simp [laid5])
    rw [dbr_eq] at r
    obtain ⟨g, t, cs, fuel, p, hg, hty, hvar, hd⟩ := r
    obtain rfl := Option.some.inj (n4.symm.trans hg)
    obtain rfl := Option.some.inj (y4.symm.trans hty)
    unfold Pu.Dbr Lib.TabIs
    rw [hvar, ← Lib.cells_of_tab Tryz.underlying181 Tryz.underlying5 c5 cD4 hd]
theorem six : Tryz.prog.globals.size ≤ 6 ∧ 6 < (begin Tryz.prog (fun _ _ => 0) default).world.heap.size := by
  constructor
  · exact of_decide_eq_true (by kernel_rfl)
  · exact of_decide_eq_true (by kernel_rfl)
/-- A world of the program's shape has more than six blocks. -/
theorem room {W : World} (h : W.ShapedOpen Tryz.prog) : 6 ≤ W.heap.size := by
  obtain ⟨o, _, h1, _⟩ := h.2 6 six.1 six.2
  exact Nat.le_of_lt (lt_of_block h1)
end Wit
end Go.Proofs.YtiakidomcjpdhaaGreatDoor

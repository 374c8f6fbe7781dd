/-
  No cell of these rows narrows 'for every input' (looked for: loops, veiled, ifaces, maps, wideKeys, modest, calm, conditions, laid).
  DERIVED. THE GIVEN ROWS OF THIS SEAT. 4 by the template 'for every input the law returns true; each argument reads behind the call as it read before'; 0 by the template 'total and deterministic' (their statements: YtcinjdaanhpbjaaGreatTotals.lean).
  GIVEN WITH THE SEED: the statements are not yours to turn. If you find one false, say at which input.
  Laid BY PROGRAM, IN A SANDBOX (cutbox-rows.mjs): the forced cells as the released guide's own fill.sh prints them over the translation ee6cc1cb5dbe2865… (all of the seat's roots in one cut). By AI agents, Wed Nov 11 2026. No macro, syntax, notation, axiom, sorry.
-/
import Derived.Test.YtcinjdaanhpbjaaGreatChecked
import GoSem.Claim
import GoSem.ClaimJoined
import GoSem.ClaimMapViews
import Derived.JoinedTies
import Derived.KernelRfl
namespace Go.Proofs.YtcinjdaanhpbjaaGreat
/- THE CELL 'sum', in the pinned program and in every row, IS THE sha256 OF THE DUMP (.gsa) THAT YtcinjdaanhpbjaaGreatProg.lean LOADS. Nothing in Lean hashes anything: it is a label: what it is worth is what the hold of that sum in a sandbox is worth. -/
noncomputable def Tryz.pinned : Pinned := { name := "ytcinjdaanhpbjaagreat", sum := "ee6cc1cb5dbe28658e9dbcad0fb26d0bf770c46170c5ff8e12c5ee12173202ea", checked := Tryz.checked }
namespace Rows
def none {H : Type} : Left H := { results := [], args := [] }

/-- 'coveylaw12.KvPlays': WHATEVER THE INPUT: true; the input reads as it did. -/
def kvPlaysSpec : ChangeSpec := { name := "kvPlays", fn := fun _ => fun
  | [d] => { results := [.lit (.bool true)], args := [d] }
  | _ => none }
def kvPlaysRow : OpenClaim := { program := "ytcinjdaanhpbjaagreat", sum := "ee6cc1cb5dbe28658e9dbcad0fb26d0bf770c46170c5ff8e12c5ee12173202ea", func := "covey/coveylaw12.KvPlays", spec := "kvPlays", unfollowed := true, recurses := true, apart := false }
def KvPlaysSaid : Prop := kvPlaysRow.holds Tryz.pinned (OpenSpec.ofChange kvPlaysSpec)

/-- ITS FALSE NEIGHBOUR: 'it returns false'. Refute it at one input. -/
def kvPlaysWrong : ChangeSpec := { name := "kvPlays", fn := fun _ => fun
  | [d] => { results := [.lit (.bool false)], args := [d] }
  | _ => none }
def KvPlaysWrongFalsely : Prop := kvPlaysRow.holds Tryz.pinned (OpenSpec.ofChange kvPlaysWrong)

/-- 'coveylaw12.KvOpens': WHATEVER THE INPUT: true; the input reads as it did. -/
def kvOpensSpec : ChangeSpec := { name := "kvOpens", fn := fun _ => fun
  | [d1, d2, d3] => { results := [.lit (.bool true)], args := [d1, d2, d3] }
  | _ => none }
def kvOpensRow : OpenClaim := { program := "ytcinjdaanhpbjaagreat", sum := "ee6cc1cb5dbe28658e9dbcad0fb26d0bf770c46170c5ff8e12c5ee12173202ea", func := "covey/coveylaw12.KvOpens", spec := "kvOpens", unfollowed := true, recurses := true, apart := false }
def KvOpensSaid : Prop := kvOpensRow.holds Tryz.pinned (OpenSpec.ofChange kvOpensSpec)

/-- ITS FALSE NEIGHBOUR: 'it returns false'. Refute it at one input. -/
def kvOpensWrong : ChangeSpec := { name := "kvOpens", fn := fun _ => fun
  | [d1, d2, d3] => { results := [.lit (.bool false)], args := [d1, d2, d3] }
  | _ => none }
def KvOpensWrongFalsely : Prop := kvOpensRow.holds Tryz.pinned (OpenSpec.ofChange kvOpensWrong)

/-- 'coveylaw12.KvCuts': WHATEVER THE INPUT: true; the input reads as it did. -/
def kvCutsSpec : ChangeSpec := { name := "kvCuts", fn := fun _ => fun
  | [d1, d2] => { results := [.lit (.bool true)], args := [d1, d2] }
  | _ => none }
def kvCutsRow : OpenClaim := { program := "ytcinjdaanhpbjaagreat", sum := "ee6cc1cb5dbe28658e9dbcad0fb26d0bf770c46170c5ff8e12c5ee12173202ea", func := "covey/coveylaw12.KvCuts", spec := "kvCuts", unfollowed := true, recurses := true, apart := false }
def KvCutsSaid : Prop := kvCutsRow.holds Tryz.pinned (OpenSpec.ofChange kvCutsSpec)

/-- ITS FALSE NEIGHBOUR: 'it returns false'. Refute it at one input. -/
def kvCutsWrong : ChangeSpec := { name := "kvCuts", fn := fun _ => fun
  | [d1, d2] => { results := [.lit (.bool false)], args := [d1, d2] }
  | _ => none }
def KvCutsWrongFalsely : Prop := kvCutsRow.holds Tryz.pinned (OpenSpec.ofChange kvCutsWrong)

/-- 'coveylaw12.KvFull': WHATEVER THE INPUT: true; the input reads as it did. -/
def kvFullSpec : ChangeSpec := { name := "kvFull", fn := fun _ => fun
  | [d1, d2] => { results := [.lit (.bool true)], args := [d1, d2] }
  | _ => none }
def kvFullRow : OpenClaim := { program := "ytcinjdaanhpbjaagreat", sum := "ee6cc1cb5dbe28658e9dbcad0fb26d0bf770c46170c5ff8e12c5ee12173202ea", func := "covey/coveylaw12.KvFull", spec := "kvFull", unfollowed := true, recurses := true, apart := false }
def KvFullSaid : Prop := kvFullRow.holds Tryz.pinned (OpenSpec.ofChange kvFullSpec)

/-- ITS FALSE NEIGHBOUR: 'it returns false'. Refute it at one input. -/
def kvFullWrong : ChangeSpec := { name := "kvFull", fn := fun _ => fun
  | [d1, d2] => { results := [.lit (.bool false)], args := [d1, d2] }
  | _ => none }
def KvFullWrongFalsely : Prop := kvFullRow.holds Tryz.pinned (OpenSpec.ofChange kvFullWrong)

/- THE SECOND FORM. 'bulk': how many values and letters a reading holds, each counted each time it is reached (what is shared counts as often as it is met; a slice's spare places count too). A statement '..UptoSaid' is the law's where the arguments, and the package variables that the reading takes, are together of bulk at most 1048576: NARROWER than '..Said'. Prove '..Said' where nothing that the law and all that it calls make is longer than what came in: it says more and counts as full. Else prove '..UptoSaid'. A law counts once. -/
mutual
def uptoBulk {H : Type} : DataW H → Nat
  | .lit (.string bytes) => bytes.length + 1
  | .lit _ => 1
  | .nil => 1
  | .ptr d => uptoBulk d + 1
  | .slice elems spare => uptoBulkAll elems + uptoBulkAll spare + 1
  | .agg parts => uptoBulkAll parts + 1
  | .iface _ d => uptoBulk d + 1
  | .map entries => uptoBulkEntries entries + 1
  | .held _ => 1
def uptoBulkAll {H : Type} : List (DataW H) → Nat
  | [] => 0
  | d :: r => uptoBulk d + uptoBulkAll r
def uptoBulkEntries {H : Type} : List (Lit × DataW H) → Nat
  | [] => 0
  | x :: r => uptoBulkEntry x + uptoBulkEntries r
def uptoBulkEntry {H : Type} : Lit × DataW H → Nat
  | (.string bytes, d) => bytes.length + uptoBulk d + 1
  | (_, d) => uptoBulk d + 1
 end
def uptoSmall : (H : Type) → List (DataW H) → Bool := fun _ ds => decide (uptoBulkAll ds ≤ 1048576)
def OpenSpec.upto (s : _root_.Go.ChangeSpec) : _root_.Go.OpenSpec := { _root_.Go.OpenSpec.ofChange s with cond := some uptoSmall }

/-- 'coveylaw12.KvPlays', WHERE WHAT IT READS IS OF BULK AT MOST 1048576: true; the input reads as it did. -/
def kvPlaysUptoRow : OpenClaim := { program := "ytcinjdaanhpbjaagreat", sum := "ee6cc1cb5dbe28658e9dbcad0fb26d0bf770c46170c5ff8e12c5ee12173202ea", func := "covey/coveylaw12.KvPlays", spec := "kvPlays", unfollowed := true, recurses := true, apart := false, narrowed := true }
def KvPlaysUptoSaid : Prop := kvPlaysUptoRow.holds Tryz.pinned (OpenSpec.upto kvPlaysSpec)

/-- 'coveylaw12.KvOpens', WHERE WHAT IT READS IS OF BULK AT MOST 1048576: true; the input reads as it did. -/
def kvOpensUptoRow : OpenClaim := { program := "ytcinjdaanhpbjaagreat", sum := "ee6cc1cb5dbe28658e9dbcad0fb26d0bf770c46170c5ff8e12c5ee12173202ea", func := "covey/coveylaw12.KvOpens", spec := "kvOpens", unfollowed := true, recurses := true, apart := false, narrowed := true }
def KvOpensUptoSaid : Prop := kvOpensUptoRow.holds Tryz.pinned (OpenSpec.upto kvOpensSpec)

/-- 'coveylaw12.KvCuts', WHERE WHAT IT READS IS OF BULK AT MOST 1048576: true; the input reads as it did. -/
def kvCutsUptoRow : OpenClaim := { program := "ytcinjdaanhpbjaagreat", sum := "ee6cc1cb5dbe28658e9dbcad0fb26d0bf770c46170c5ff8e12c5ee12173202ea", func := "covey/coveylaw12.KvCuts", spec := "kvCuts", unfollowed := true, recurses := true, apart := false, narrowed := true }
def KvCutsUptoSaid : Prop := kvCutsUptoRow.holds Tryz.pinned (OpenSpec.upto kvCutsSpec)

/-- 'coveylaw12.KvFull', WHERE WHAT IT READS IS OF BULK AT MOST 1048576: true; the input reads as it did. -/
def kvFullUptoRow : OpenClaim := { program := "ytcinjdaanhpbjaagreat", sum := "ee6cc1cb5dbe28658e9dbcad0fb26d0bf770c46170c5ff8e12c5ee12173202ea", func := "covey/coveylaw12.KvFull", spec := "kvFull", unfollowed := true, recurses := true, apart := false, narrowed := true }
def KvFullUptoSaid : Prop := kvFullUptoRow.holds Tryz.pinned (OpenSpec.upto kvFullSpec)

end Rows
end Go.Proofs.YtcinjdaanhpbjaaGreat

/-
  NARROWER THAN 'FOR EVERY INPUT', by the rows' own cells (each row's printed sentence says how): AuthChecks: loops, laid.
  DERIVED. THE GIVEN ROWS OF THIS SEAT. 1 by the template 'for every input the law returns true; each argument reads behind the call as it read before'; 0 by the template 'total and deterministic' (their statements: YthplcnbfpcndbaaGreatDoorTotals.lean).
  GIVEN WITH THE SEED: the statements are not yours to turn. If you find one false, say at which input.
  Laid BY PROGRAM, IN A SANDBOX (cutbox-rows.mjs): the forced cells as the released guide's own fill.sh prints them over the translation 462802b842183063… (all of the seat's roots in one cut). By AI agents, Wed Nov 11 2026. No macro, syntax, notation, axiom, sorry.
-/
import Derived.Test.YthplcnbfpcndbaaGreatDoorChecked
import GoSem.Claim
import GoSem.ClaimJoined
import GoSem.ClaimMapViews
import Derived.JoinedTies
import Derived.KernelRfl
namespace Go.Proofs.YthplcnbfpcndbaaGreatDoor
/- THE CELL 'sum', in the pinned program and in every row, IS THE sha256 OF THE DUMP (.gsa) THAT YthplcnbfpcndbaaGreatDoorProg.lean LOADS. Nothing in Lean hashes anything: it is a label: what it is worth is what the hold of that sum in a sandbox is worth. -/
noncomputable def Tryz.pinned : Pinned := { name := "ythplcnbfpcndbaagreatdoor", sum := "462802b84218306379ffc03d17827793f54380263e833bf27498095a35ce2fa4", checked := Tryz.checked }
namespace Rows
def none {H : Type} : Left H := { results := [], args := [] }

/- WHAT THE LISTED PACKAGE-LEVEL VARIABLES READ AS WHEN THE CALL BEGINS. Each datum BY PROGRAM (the guide's laid-datum.mjs) off the statement by which the dump's own 'gosem.cut.vars' lays the variable. In a bare row this is a premise. The card (YthplcnbfpcndbaaGreatDoorCards.lean) ties it to the program's text. -/
def laid_covey_auth_singles {H : Type} : DataW H := .agg [.lit (.string [98, 97, 110]), .lit (.string [107, 105, 99, 107]), .lit (.string [114, 101, 100, 97, 99, 116]), .lit (.string [105, 110, 118, 105, 116, 101]), .lit (.string [117, 115, 101, 114, 115, 95, 100, 101, 102, 97, 117, 108, 116]), .lit (.string [101, 118, 101, 110, 116, 115, 95, 100, 101, 102, 97, 117, 108, 116]), .lit (.string [115, 116, 97, 116, 101, 95, 100, 101, 102, 97, 117, 108, 116])]

/-- 'coveylaw16.AuthChecks': WHATEVER THE INPUT: true; the input reads as it did. -/
def authChecksSpec : ChangeSpec := { name := "authChecks", fn := fun _ => fun
  | [d1, d2] => { results := [.lit (.bool true)], args := [d1, d2] }
  | _ => none }
def authChecksRow : OpenClaim := { program := "ythplcnbfpcndbaagreatdoor", sum := "462802b84218306379ffc03d17827793f54380263e833bf27498095a35ce2fa4", func := "covey/coveylaw16.AuthChecks", spec := "authChecks", inPlace := ["internal/bytealg.IndexByteString", "internal/bytealg.IndexString"], unfollowed := true, recurses := true, named := ["internal/bytealg.MaxLen", "covey/auth.singles"], loops := true, plainKeys := false, apart := false, laid := [("covey/auth.singles", laid_covey_auth_singles)] }
def AuthChecksSaid : Prop := authChecksRow.holds Tryz.pinned (OpenSpec.ofChange authChecksSpec)

/-- ITS FALSE NEIGHBOUR: 'it returns false'. Refute it at one input. -/
def authChecksWrong : ChangeSpec := { name := "authChecks", fn := fun _ => fun
  | [d1, d2] => { results := [.lit (.bool false)], args := [d1, d2] }
  | _ => none }
def AuthChecksWrongFalsely : Prop := authChecksRow.holds Tryz.pinned (OpenSpec.ofChange authChecksWrong)

/- THE SECOND FORM. 'bulk': how many values and letters a reading holds, each counted each time it is reached (what is shared counts as often as it is met; a slice's spare places count too). A statement '..UptoSaid' is the law's where the arguments, and the package variables that the reading takes, are together of bulk at most 1048576: NARROWER than '..Said'. Prove '..Said' where nothing that the law and all that it calls make is longer than what came in: it says more and counts as full. Else prove '..UptoSaid'. A law counts once. -/
mutual
def uptoBulk {H : Type} : DataW H → Nat
  | .lit (.string bytes) => bytes.length + 1
  | .lit _ => 1
  | .nil => 1
  | .ptr d => uptoBulk d + 1
  | .slice elems spare => uptoBulkAll elems + uptoBulkAll spare + 1
  | .agg parts => uptoBulkAll parts + 1
  | .iface _ d => uptoBulk d + 1
  | .map entries => uptoBulkEntries entries + 1
  | .held _ => 1
def uptoBulkAll {H : Type} : List (DataW H) → Nat
  | [] => 0
  | d :: r => uptoBulk d + uptoBulkAll r
def uptoBulkEntries {H : Type} : List (Lit × DataW H) → Nat
  | [] => 0
  | x :: r => uptoBulkEntry x + uptoBulkEntries r
def uptoBulkEntry {H : Type} : Lit × DataW H → Nat
  | (.string bytes, d) => bytes.length + uptoBulk d + 1
  | (_, d) => uptoBulk d + 1
 end
def uptoSmall : (H : Type) → List (DataW H) → Bool := fun _ ds => decide (uptoBulkAll ds ≤ 1048576)
def OpenSpec.upto (s : _root_.Go.ChangeSpec) : _root_.Go.OpenSpec := { _root_.Go.OpenSpec.ofChange s with cond := some uptoSmall }

/-- 'coveylaw16.AuthChecks', WHERE WHAT IT READS IS OF BULK AT MOST 1048576: true; the input reads as it did. -/
def authChecksUptoRow : OpenClaim := { program := "ythplcnbfpcndbaagreatdoor", sum := "462802b84218306379ffc03d17827793f54380263e833bf27498095a35ce2fa4", func := "covey/coveylaw16.AuthChecks", spec := "authChecks", inPlace := ["internal/bytealg.IndexByteString", "internal/bytealg.IndexString"], unfollowed := true, recurses := true, named := ["internal/bytealg.MaxLen", "covey/auth.singles"], loops := true, plainKeys := false, apart := false, laid := [("covey/auth.singles", laid_covey_auth_singles)], narrowed := true }
def AuthChecksUptoSaid : Prop := authChecksUptoRow.holds Tryz.pinned (OpenSpec.upto authChecksSpec)

end Rows
end Go.Proofs.YthplcnbfpcndbaaGreatDoor

/-
  DERIVED. GIVEN WITH THE SEED: THE CARDS: each row of YthplcnbfpcndbaaGreatDoorRows.lean that lists a variable, with what it lists TIED to the program's text (the seventh form; the later family's looks); each row that meets fmt, with fmt's text TOLD by the authors' own Lean function (tested against real Go, not proved from fmt's source: count such statements apart). THE CARD IS WHAT COUNTS. Prove the row's statement (the work); the ties are given (YthplcnbfpcndbaaGreatDoorTie.lean); close each card by the builder's one call (the guide's Derived/Test/ToyasCard.lean, 'card_holds'). Laid BY PROGRAM, IN A SANDBOX (cutbox-door.mjs). By AI agents, Wed Nov 11 2026. No macro, syntax, notation, axiom, sorry.
-/
import Derived.Test.YthplcnbfpcndbaaGreatDoorRows
import GoSem.ClaimSeven
namespace Go.Proofs.YthplcnbfpcndbaaGreatDoor
namespace Rows

/-- THE TIED CARD OF 'coveylaw16.AuthChecks'. -/
def authChecksCard : Claim7 := { stood := { row := authChecksRow, standIns := [], harness := (true, "a77cd79fb2ef4f634c217630bfa3d80f3e8260daed3218505ee73b562cdb6d9b"), looks := false }, kinds := [], alts := [], laidByText := true, laidKinds := [.data], laidTests := true, laidLooks := .later }
def AuthChecksCardSaid : Prop := Claim7.holds Tryz.pinned (.plain (OpenSpec.ofChange authChecksSpec)) authChecksCard

/-- THE SECOND FORM's CARD OF 'coveylaw16.AuthChecks'. -/
def authChecksUptoCard : Claim7 := { stood := { row := authChecksUptoRow, standIns := [], harness := (true, "a77cd79fb2ef4f634c217630bfa3d80f3e8260daed3218505ee73b562cdb6d9b"), looks := false }, kinds := [], alts := [], laidByText := true, laidKinds := [.data], laidTests := true, laidLooks := .later }
def AuthChecksUptoCardSaid : Prop := Claim7.holds Tryz.pinned (.plain (OpenSpec.upto authChecksSpec)) authChecksUptoCard
end Rows
end Go.Proofs.YthplcnbfpcndbaaGreatDoor

/-
  DERIVED. GIVEN WITH THE SEED: THE CARDS: each row of YthplcnbfpcndbaaDoorRows.lean that lists a variable, with what it lists TIED to the program's text (the seventh form; the later family's looks); each row that meets fmt, with fmt's text TOLD by the authors' own Lean function (tested against real Go, not proved from fmt's source: count such statements apart). THE CARD IS WHAT COUNTS. Prove the row's statement (the work); the ties are given (YthplcnbfpcndbaaDoorTie.lean); close each card by the builder's one call (the guide's Derived/Test/ToyasCard.lean, 'card_holds'). Laid BY PROGRAM, IN A SANDBOX (cutbox-door.mjs). By AI agents, Wed Nov 11 2026. No macro, syntax, notation, axiom, sorry.
-/
import Derived.Test.YthplcnbfpcndbaaDoorRows
import GoSem.ClaimSeven
namespace Go.Proofs.YthplcnbfpcndbaaDoor
namespace Rows

/-- THE TIED CARD OF 'coveylaw16.AuthSelects'. -/
def authSelectsCard : Claim7 := { stood := { row := authSelectsRow, standIns := [], harness := (true, "a1148c1003675107fe698292f5eb86e67ced0a3b7fd112234ef207707183fc03"), looks := false }, kinds := [], alts := [], laidByText := true, laidKinds := [.data], laidTests := true, laidLooks := .later }
def AuthSelectsCardSaid : Prop := Claim7.holds Tryd.pinned (.plain (OpenSpec.ofChange authSelectsSpec)) authSelectsCard

/-- THE TIED CARD OF 'coveylaw16.AuthLevels'. -/
def authLevelsCard : Claim7 := { stood := { row := authLevelsRow, standIns := [], harness := (true, "a1148c1003675107fe698292f5eb86e67ced0a3b7fd112234ef207707183fc03"), looks := false }, kinds := [], alts := [], laidByText := true, laidKinds := [.data], laidTests := true, laidLooks := .later }
def AuthLevelsCardSaid : Prop := Claim7.holds Tryd.pinned (.plain (OpenSpec.ofChange authLevelsSpec)) authLevelsCard

/-- THE TIED CARD OF 'coveylaw16.AuthRaises'. -/
def authRaisesCard : Claim7 := { stood := { row := authRaisesRow, standIns := [], harness := (true, "a1148c1003675107fe698292f5eb86e67ced0a3b7fd112234ef207707183fc03"), looks := false }, kinds := [], alts := [], laidByText := true, laidKinds := [.data], laidTests := true, laidLooks := .later }
def AuthRaisesCardSaid : Prop := Claim7.holds Tryd.pinned (.plain (OpenSpec.ofChange authRaisesSpec)) authRaisesCard

/-- THE TIED CARD OF 'coveylaw16.AuthJoined'. -/
def authJoinedCard : Claim7 := { stood := { row := authJoinedRow, standIns := [], harness := (true, "a1148c1003675107fe698292f5eb86e67ced0a3b7fd112234ef207707183fc03"), looks := false }, kinds := [], alts := [], laidByText := true, laidKinds := [.data], laidTests := true, laidLooks := .later }
def AuthJoinedCardSaid : Prop := Claim7.holds Tryd.pinned (.plain (OpenSpec.ofChange authJoinedSpec)) authJoinedCard

/-- THE SECOND FORM's CARD OF 'coveylaw16.AuthSelects'. -/
def authSelectsUptoCard : Claim7 := { stood := { row := authSelectsUptoRow, standIns := [], harness := (true, "a1148c1003675107fe698292f5eb86e67ced0a3b7fd112234ef207707183fc03"), looks := false }, kinds := [], alts := [], laidByText := true, laidKinds := [.data], laidTests := true, laidLooks := .later }
def AuthSelectsUptoCardSaid : Prop := Claim7.holds Tryd.pinned (.plain (OpenSpec.upto authSelectsSpec)) authSelectsUptoCard

/-- THE SECOND FORM's CARD OF 'coveylaw16.AuthLevels'. -/
def authLevelsUptoCard : Claim7 := { stood := { row := authLevelsUptoRow, standIns := [], harness := (true, "a1148c1003675107fe698292f5eb86e67ced0a3b7fd112234ef207707183fc03"), looks := false }, kinds := [], alts := [], laidByText := true, laidKinds := [.data], laidTests := true, laidLooks := .later }
def AuthLevelsUptoCardSaid : Prop := Claim7.holds Tryd.pinned (.plain (OpenSpec.upto authLevelsSpec)) authLevelsUptoCard

/-- THE SECOND FORM's CARD OF 'coveylaw16.AuthRaises'. -/
def authRaisesUptoCard : Claim7 := { stood := { row := authRaisesUptoRow, standIns := [], harness := (true, "a1148c1003675107fe698292f5eb86e67ced0a3b7fd112234ef207707183fc03"), looks := false }, kinds := [], alts := [], laidByText := true, laidKinds := [.data], laidTests := true, laidLooks := .later }
def AuthRaisesUptoCardSaid : Prop := Claim7.holds Tryd.pinned (.plain (OpenSpec.upto authRaisesSpec)) authRaisesUptoCard

/-- THE SECOND FORM's CARD OF 'coveylaw16.AuthJoined'. -/
def authJoinedUptoCard : Claim7 := { stood := { row := authJoinedUptoRow, standIns := [], harness := (true, "a1148c1003675107fe698292f5eb86e67ced0a3b7fd112234ef207707183fc03"), looks := false }, kinds := [], alts := [], laidByText := true, laidKinds := [.data], laidTests := true, laidLooks := .later }
def AuthJoinedUptoCardSaid : Prop := Claim7.holds Tryd.pinned (.plain (OpenSpec.upto authJoinedSpec)) authJoinedUptoCard
end Rows
end Go.Proofs.YthplcnbfpcndbaaDoor

/-
  DERIVED. GIVEN WITH THE SEED: THE CARDS: each row of YtehpdklnebognaaDoorRows.lean that lists a variable, with what it lists TIED to the program's text (the seventh form; the later family's looks); each row that meets fmt, with fmt's text TOLD by the authors' own Lean function (tested against real Go, not proved from fmt's source: count such statements apart). THE CARD IS WHAT COUNTS. Prove the row's statement (the work); the ties are given (YtehpdklnebognaaDoorTie.lean); close each card by the builder's one call (the guide's Derived/Test/ToyasCard.lean, 'card_holds'). Laid BY PROGRAM, IN A SANDBOX (cutbox-door.mjs). By AI agents, Wed Nov 11 2026. No macro, syntax, notation, axiom, sorry.
-/
import Derived.Test.YtehpdklnebognaaDoorRows
import GoSem.ClaimSeven
namespace Go.Proofs.YtehpdklnebognaaDoor
namespace Rows

/-- THE TIED CARD OF 'coveylaw02.JsonParses'. -/
def jsonParsesCard : Claim7 := { stood := { row := jsonParsesRow, standIns := [], harness := (true, "cd3ea9ae60a2d193d60454cb72cd6c86550894817434fcac3d8f6f9f267995f3"), looks := true }, kinds := [], alts := [], laidByText := true, laidKinds := [.data, .handle, .pinned], laidTests := true, laidLooks := .later }
def JsonParsesCardSaid : Prop := Claim7.holds Tryd.pinned (.plain (OpenSpec.ofChange jsonParsesSpec)) jsonParsesCard

/-- THE TIED CARD OF 'coveylaw02.JsonGets'. -/
def jsonGetsCard : Claim7 := { stood := { row := jsonGetsRow, standIns := [], harness := (true, "cd3ea9ae60a2d193d60454cb72cd6c86550894817434fcac3d8f6f9f267995f3"), looks := true }, kinds := [], alts := [], laidByText := true, laidKinds := [.data, .handle, .pinned], laidTests := true, laidLooks := .later }
def JsonGetsCardSaid : Prop := Claim7.holds Tryd.pinned (.plain (OpenSpec.ofChange jsonGetsSpec)) jsonGetsCard

/-- THE TIED CARD OF 'coveylaw02.JsonWalks'. -/
def jsonWalksCard : Claim7 := { stood := { row := jsonWalksRow, standIns := [], harness := (true, "cd3ea9ae60a2d193d60454cb72cd6c86550894817434fcac3d8f6f9f267995f3"), looks := true }, kinds := [], alts := [], laidByText := true, laidKinds := [.data, .data, .data, .data, .handle, .pinned], laidTests := true, laidLooks := .later }
def JsonWalksCardSaid : Prop := Claim7.holds Tryd.pinned (.plain (OpenSpec.ofChange jsonWalksSpec)) jsonWalksCard

/-- THE TIED CARD OF 'coveylaw02.JsonSound'. -/
def jsonSoundCard : Claim7 := { stood := { row := jsonSoundRow, standIns := [], harness := (true, "cd3ea9ae60a2d193d60454cb72cd6c86550894817434fcac3d8f6f9f267995f3"), looks := true }, kinds := [], alts := [], laidByText := true, laidKinds := [.data, .handle, .pinned], laidTests := true, laidLooks := .later }
def JsonSoundCardSaid : Prop := Claim7.holds Tryd.pinned (.plain (OpenSpec.ofChange jsonSoundSpec)) jsonSoundCard

/-- THE TIED CARD OF 'coveylaw02.JsonBlanks'. -/
def jsonBlanksCard : Claim7 := { stood := { row := jsonBlanksRow, standIns := [], harness := (true, "cd3ea9ae60a2d193d60454cb72cd6c86550894817434fcac3d8f6f9f267995f3"), looks := true }, kinds := [], alts := [], laidByText := true, laidKinds := [.data, .handle, .pinned], laidTests := true, laidLooks := .later }
def JsonBlanksCardSaid : Prop := Claim7.holds Tryd.pinned (.plain (OpenSpec.ofChange jsonBlanksSpec)) jsonBlanksCard

/-- THE SECOND FORM's CARD OF 'coveylaw02.JsonParses'. -/
def jsonParsesUptoCard : Claim7 := { stood := { row := jsonParsesUptoRow, standIns := [], harness := (true, "cd3ea9ae60a2d193d60454cb72cd6c86550894817434fcac3d8f6f9f267995f3"), looks := true }, kinds := [], alts := [], laidByText := true, laidKinds := [.data, .handle, .pinned], laidTests := true, laidLooks := .later }
def JsonParsesUptoCardSaid : Prop := Claim7.holds Tryd.pinned (.plain (OpenSpec.upto jsonParsesSpec)) jsonParsesUptoCard

/-- THE SECOND FORM's CARD OF 'coveylaw02.JsonGets'. -/
def jsonGetsUptoCard : Claim7 := { stood := { row := jsonGetsUptoRow, standIns := [], harness := (true, "cd3ea9ae60a2d193d60454cb72cd6c86550894817434fcac3d8f6f9f267995f3"), looks := true }, kinds := [], alts := [], laidByText := true, laidKinds := [.data, .handle, .pinned], laidTests := true, laidLooks := .later }
def JsonGetsUptoCardSaid : Prop := Claim7.holds Tryd.pinned (.plain (OpenSpec.upto jsonGetsSpec)) jsonGetsUptoCard

/-- THE SECOND FORM's CARD OF 'coveylaw02.JsonWalks'. -/
def jsonWalksUptoCard : Claim7 := { stood := { row := jsonWalksUptoRow, standIns := [], harness := (true, "cd3ea9ae60a2d193d60454cb72cd6c86550894817434fcac3d8f6f9f267995f3"), looks := true }, kinds := [], alts := [], laidByText := true, laidKinds := [.data, .data, .data, .data, .handle, .pinned], laidTests := true, laidLooks := .later }
def JsonWalksUptoCardSaid : Prop := Claim7.holds Tryd.pinned (.plain (OpenSpec.upto jsonWalksSpec)) jsonWalksUptoCard

/-- THE SECOND FORM's CARD OF 'coveylaw02.JsonSound'. -/
def jsonSoundUptoCard : Claim7 := { stood := { row := jsonSoundUptoRow, standIns := [], harness := (true, "cd3ea9ae60a2d193d60454cb72cd6c86550894817434fcac3d8f6f9f267995f3"), looks := true }, kinds := [], alts := [], laidByText := true, laidKinds := [.data, .handle, .pinned], laidTests := true, laidLooks := .later }
def JsonSoundUptoCardSaid : Prop := Claim7.holds Tryd.pinned (.plain (OpenSpec.upto jsonSoundSpec)) jsonSoundUptoCard

/-- THE SECOND FORM's CARD OF 'coveylaw02.JsonBlanks'. -/
def jsonBlanksUptoCard : Claim7 := { stood := { row := jsonBlanksUptoRow, standIns := [], harness := (true, "cd3ea9ae60a2d193d60454cb72cd6c86550894817434fcac3d8f6f9f267995f3"), looks := true }, kinds := [], alts := [], laidByText := true, laidKinds := [.data, .handle, .pinned], laidTests := true, laidLooks := .later }
def JsonBlanksUptoCardSaid : Prop := Claim7.holds Tryd.pinned (.plain (OpenSpec.upto jsonBlanksSpec)) jsonBlanksUptoCard
end Rows
end Go.Proofs.YtehpdklnebognaaDoor

/-
  DERIVED. GIVEN WITH THE SEED: THE CARDS: each row of YtgfppohfgconeaaGreatDoorRows.lean that lists a variable, with what it lists TIED to the program's text (the seventh form; the later family's looks); each row that meets fmt, with fmt's text TOLD by the authors' own Lean function (tested against real Go, not proved from fmt's source: count such statements apart). THE CARD IS WHAT COUNTS. Prove the row's statement (the work); the ties are given (YtgfppohfgconeaaGreatDoorTie.lean); close each card by the builder's one call (the guide's Derived/Test/ToyasCard.lean, 'card_holds'). Laid BY PROGRAM, IN A SANDBOX (cutbox-door.mjs). By AI agents, Wed Nov 11 2026. No macro, syntax, notation, axiom, sorry.
-/
import Derived.Test.YtgfppohfgconeaaGreatDoorRows
import GoSem.ClaimSeven
namespace Go.Proofs.YtgfppohfgconeaaGreatDoor
namespace Rows

/-- THE TIED CARD OF 'lineagekeep.Printed'. -/
def printedCard : Claim7 := { stood := { row := printedRow, standIns := [], harness := (true, "35b17491dc82a8a7615720e653dac1e843e8de90c48b8eebe93d6693a71c5f0f"), looks := true }, kinds := [], alts := [], goes := true, laidByText := true, laidKinds := [.data, .data, .data, .data, .sentinel, .sentinel, .data, .data, .data, .pinned, .pinned], laidTests := true, laidLooks := .later }
def PrintedCardSaid : Prop := Claim7.holds Tryz.pinned (.plain (OpenSpec.ofChange printedSpec)) printedCard

/-- THE TIED CARD OF 'lineagekeep.Counted'. -/
def countedCard : Claim7 := { stood := { row := countedRow, standIns := [], harness := (true, "35b17491dc82a8a7615720e653dac1e843e8de90c48b8eebe93d6693a71c5f0f"), looks := true }, kinds := [], alts := [], goes := true, laidByText := true, laidKinds := [.data, .data, .data, .data, .sentinel, .sentinel, .data, .data, .data, .pinned, .pinned], laidTests := true, laidLooks := .later }
def CountedCardSaid : Prop := Claim7.holds Tryz.pinned (.plain (OpenSpec.ofChange countedSpec)) countedCard

/-- THE TIED CARD OF 'lineagekeep.Reached'. -/
def reachedCard : Claim7 := { stood := { row := reachedRow, standIns := [], harness := (true, "35b17491dc82a8a7615720e653dac1e843e8de90c48b8eebe93d6693a71c5f0f"), looks := true }, kinds := [], alts := [], goes := true, laidByText := true, laidKinds := [.data, .data, .data, .data, .sentinel, .sentinel, .data, .data, .data, .pinned, .pinned], laidTests := true, laidLooks := .later }
def ReachedCardSaid : Prop := Claim7.holds Tryz.pinned (.plain (OpenSpec.ofChange reachedSpec)) reachedCard

/-- THE TIED CARD OF 'lineagekeep.Paths'. -/
def pathsCard : Claim7 := { stood := { row := pathsRow, standIns := [], harness := (true, "35b17491dc82a8a7615720e653dac1e843e8de90c48b8eebe93d6693a71c5f0f"), looks := true }, kinds := [], alts := [], goes := true, laidByText := true, laidKinds := [.data, .data, .data, .data, .sentinel, .sentinel, .data, .data, .data, .pinned, .pinned], laidTests := true, laidLooks := .later }
def PathsCardSaid : Prop := Claim7.holds Tryz.pinned (.plain (OpenSpec.ofChange pathsSpec)) pathsCard

/-- THE TIED CARD OF 'lineagekeep.Logic'. -/
def logicCard : Claim7 := { stood := { row := logicRow, standIns := [], harness := (true, "35b17491dc82a8a7615720e653dac1e843e8de90c48b8eebe93d6693a71c5f0f"), looks := true }, kinds := [], alts := [], goes := true, laidByText := true, laidKinds := [.data, .data, .data, .data, .sentinel, .sentinel, .data, .data, .data, .pinned, .pinned], laidTests := true, laidLooks := .later }
def LogicCardSaid : Prop := Claim7.holds Tryz.pinned (.plain (OpenSpec.ofChange logicSpec)) logicCard

/-- THE TIED CARD OF 'lineagekeep.Reckoned'. -/
def reckonedCard : Claim7 := { stood := { row := reckonedRow, standIns := [], harness := (true, "35b17491dc82a8a7615720e653dac1e843e8de90c48b8eebe93d6693a71c5f0f"), looks := true }, kinds := [], alts := [], goes := true, laidByText := true, laidKinds := [.data, .data, .data, .data, .sentinel, .sentinel, .data, .data, .data, .pinned, .pinned], laidTests := true, laidLooks := .later }
def ReckonedCardSaid : Prop := Claim7.holds Tryz.pinned (.plain (OpenSpec.ofChange reckonedSpec)) reckonedCard

/-- THE TIED CARD OF 'lineagekeep.Bags'. -/
def bagsCard : Claim7 := { stood := { row := bagsRow, standIns := [], harness := (true, "35b17491dc82a8a7615720e653dac1e843e8de90c48b8eebe93d6693a71c5f0f"), looks := true }, kinds := [], alts := [], goes := true, laidByText := true, laidKinds := [.data, .data, .data, .data, .sentinel, .sentinel, .data, .data, .data, .pinned, .pinned], laidTests := true, laidLooks := .later }
def BagsCardSaid : Prop := Claim7.holds Tryz.pinned (.plain (OpenSpec.ofChange bagsSpec)) bagsCard
end Rows
end Go.Proofs.YtgfppohfgconeaaGreatDoor

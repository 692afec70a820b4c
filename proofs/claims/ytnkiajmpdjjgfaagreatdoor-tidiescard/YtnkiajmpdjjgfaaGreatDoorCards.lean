/-
  DERIVED. GIVEN WITH THE SEED: THE CARDS: each row of YtnkiajmpdjjgfaaGreatDoorRows.lean that lists a variable, with what it lists TIED to the program's text (the seventh form; the later family's looks); each row that meets fmt, with fmt's text TOLD by the authors' own Lean function (tested against real Go, not proved from fmt's source: count such statements apart). THE CARD IS WHAT COUNTS. Prove the row's statement (the work); the ties are given (YtnkiajmpdjjgfaaGreatDoorTie.lean); close each card by the builder's one call (the guide's Derived/Test/ToyasCard.lean, 'card_holds'). Laid BY PROGRAM, IN A SANDBOX (cutbox-door.mjs). By AI agents, Wed Nov 11 2026. No macro, syntax, notation, axiom, sorry.
-/
import Derived.Test.YtnkiajmpdjjgfaaGreatDoorRows
import GoSem.ClaimSeven
namespace Go.Proofs.YtnkiajmpdjjgfaaGreatDoor
namespace Rows

/-- THE TIED CARD OF 'curtainlaw.Tidies'. -/
def tidiesCard : Claim7 := { stood := { row := tidiesRow, standIns := [], harness := (true, "dbcf36f5b8b9743f9422993898e0b3054de33c54961506ff2ff7992cd293238c"), looks := true }, kinds := [], alts := [], laidByText := true, laidKinds := [.data, .data, .data, .sentinel, .sentinel], laidTests := true, laidLooks := .later }
def TidiesCardSaid : Prop := Claim7.holds Tryz.pinned (.plain (OpenSpec.ofChange tidiesSpec)) tidiesCard

/-- THE TIED CARD OF 'curtainlaw.Checks'. -/
def checksCard : Claim7 := { stood := { row := checksRow, standIns := [], harness := (true, "dbcf36f5b8b9743f9422993898e0b3054de33c54961506ff2ff7992cd293238c"), looks := true }, kinds := [], alts := [], laidByText := true, laidKinds := [.data, .data, .data, .sentinel, .sentinel], laidTests := true, laidLooks := .later }
def ChecksCardSaid : Prop := Claim7.holds Tryz.pinned (.plain (OpenSpec.ofChange checksSpec)) checksCard

/-- THE TIED CARD OF 'curtainlaw.Calls'. -/
def callsCard : Claim7 := { stood := { row := callsRow, standIns := [], harness := (true, "dbcf36f5b8b9743f9422993898e0b3054de33c54961506ff2ff7992cd293238c"), looks := true }, kinds := [], alts := [], laidByText := true, laidKinds := [.data, .data, .data, .sentinel, .sentinel], laidTests := true, laidLooks := .later }
def CallsCardSaid : Prop := Claim7.holds Tryz.pinned (.plain (OpenSpec.ofChange callsSpec)) callsCard

/-- THE TIED CARD OF 'curtainkeep.Hushed'. -/
def hushedCard : Claim7 := { stood := { row := hushedRow, standIns := [], harness := (true, "dbcf36f5b8b9743f9422993898e0b3054de33c54961506ff2ff7992cd293238c"), looks := true }, kinds := [], alts := [], laidByText := true, laidKinds := [.data, .data, .data, .sentinel, .sentinel], laidTests := true, laidLooks := .later }
def HushedCardSaid : Prop := Claim7.holds Tryz.pinned (.plain (OpenSpec.ofChange hushedSpec)) hushedCard

/-- THE SECOND FORM's CARD OF 'curtainlaw.Tidies'. -/
def tidiesUptoCard : Claim7 := { stood := { row := tidiesUptoRow, standIns := [], harness := (true, "dbcf36f5b8b9743f9422993898e0b3054de33c54961506ff2ff7992cd293238c"), looks := true }, kinds := [], alts := [], laidByText := true, laidKinds := [.data, .data, .data, .sentinel, .sentinel], laidTests := true, laidLooks := .later }
def TidiesUptoCardSaid : Prop := Claim7.holds Tryz.pinned (.plain (OpenSpec.upto tidiesSpec)) tidiesUptoCard

/-- THE SECOND FORM's CARD OF 'curtainlaw.Checks'. -/
def checksUptoCard : Claim7 := { stood := { row := checksUptoRow, standIns := [], harness := (true, "dbcf36f5b8b9743f9422993898e0b3054de33c54961506ff2ff7992cd293238c"), looks := true }, kinds := [], alts := [], laidByText := true, laidKinds := [.data, .data, .data, .sentinel, .sentinel], laidTests := true, laidLooks := .later }
def ChecksUptoCardSaid : Prop := Claim7.holds Tryz.pinned (.plain (OpenSpec.upto checksSpec)) checksUptoCard

/-- THE SECOND FORM's CARD OF 'curtainlaw.Calls'. -/
def callsUptoCard : Claim7 := { stood := { row := callsUptoRow, standIns := [], harness := (true, "dbcf36f5b8b9743f9422993898e0b3054de33c54961506ff2ff7992cd293238c"), looks := true }, kinds := [], alts := [], laidByText := true, laidKinds := [.data, .data, .data, .sentinel, .sentinel], laidTests := true, laidLooks := .later }
def CallsUptoCardSaid : Prop := Claim7.holds Tryz.pinned (.plain (OpenSpec.upto callsSpec)) callsUptoCard

/-- THE SECOND FORM's CARD OF 'curtainkeep.Hushed'. -/
def hushedUptoCard : Claim7 := { stood := { row := hushedUptoRow, standIns := [], harness := (true, "dbcf36f5b8b9743f9422993898e0b3054de33c54961506ff2ff7992cd293238c"), looks := true }, kinds := [], alts := [], laidByText := true, laidKinds := [.data, .data, .data, .sentinel, .sentinel], laidTests := true, laidLooks := .later }
def HushedUptoCardSaid : Prop := Claim7.holds Tryz.pinned (.plain (OpenSpec.upto hushedSpec)) hushedUptoCard
end Rows
end Go.Proofs.YtnkiajmpdjjgfaaGreatDoor

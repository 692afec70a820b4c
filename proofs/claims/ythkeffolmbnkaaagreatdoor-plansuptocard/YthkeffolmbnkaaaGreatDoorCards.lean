/-
  DERIVED. GIVEN WITH THE SEED: THE CARDS: each row of YthkeffolmbnkaaaGreatDoorRows.lean that lists a variable, with what it lists TIED to the program's text (the seventh form; the later family's looks); each row that meets fmt, with fmt's text TOLD by the authors' own Lean function (tested against real Go, not proved from fmt's source: count such statements apart). THE CARD IS WHAT COUNTS. Prove the row's statement (the work); the ties are given (YthkeffolmbnkaaaGreatDoorTie.lean); close each card by the builder's one call (the guide's Derived/Test/ToyasCard.lean, 'card_holds'). Laid BY PROGRAM, IN A SANDBOX (cutbox-door.mjs). By AI agents, Wed Nov 11 2026. No macro, syntax, notation, axiom, sorry.
-/
import Derived.Test.YthkeffolmbnkaaaGreatDoorRows
import GoSem.ClaimSeven
namespace Go.Proofs.YthkeffolmbnkaaaGreatDoor
namespace Rows

/-- THE TIED CARD OF 'curtainlaw.Plans'. -/
def plansCard : Claim7 := { stood := { row := plansRow, standIns := [], harness := (true, "2b934f9f2242e9f9404610301c94434e66a0b5a85bab6a9a8145a115730def29"), looks := true }, kinds := [], alts := [], goes := true, laidByText := true, laidKinds := [.data, .data, .data, .sentinel, .sentinel], laidTests := true, laidLooks := .later }
def PlansCardSaid : Prop := Claim7.holds Tryz.pinned (.plain (OpenSpec.ofChange plansSpec)) plansCard

/-- THE SECOND FORM's CARD OF 'curtainlaw.Plans'. -/
def plansUptoCard : Claim7 := { stood := { row := plansUptoRow, standIns := [], harness := (true, "2b934f9f2242e9f9404610301c94434e66a0b5a85bab6a9a8145a115730def29"), looks := true }, kinds := [], alts := [], goes := true, laidByText := true, laidKinds := [.data, .data, .data, .sentinel, .sentinel], laidTests := true, laidLooks := .later }
def PlansUptoCardSaid : Prop := Claim7.holds Tryz.pinned (.plain (OpenSpec.upto plansSpec)) plansUptoCard
end Rows
end Go.Proofs.YthkeffolmbnkaaaGreatDoor

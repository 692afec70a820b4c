/-
  DERIVED. GIVEN WITH THE SEED: THE CARDS: each row of YtilfjpmeededmaaGreatDoorRows.lean that lists a variable, with what it lists TIED to the program's text (the seventh form; the later family's looks); each row that meets fmt, with fmt's text TOLD by the authors' own Lean function (tested against real Go, not proved from fmt's source: count such statements apart). THE CARD IS WHAT COUNTS. Prove the row's statement (the work); the ties are given (YtilfjpmeededmaaGreatDoorTie.lean); close each card by the builder's one call (the guide's Derived/Test/ToyasCard.lean, 'card_holds'). Laid BY PROGRAM, IN A SANDBOX (cutbox-door.mjs). By AI agents, Wed Nov 11 2026. No macro, syntax, notation, axiom, sorry.
-/
import Derived.Test.YtilfjpmeededmaaGreatDoorRows
import GoSem.ClaimSeven
namespace Go.Proofs.YtilfjpmeededmaaGreatDoor
namespace Rows

/-- THE TIED CARD OF 'curtainlaw.Tidies'. -/
def tidiesCard : Claim7 := { stood := { row := tidiesRow, standIns := [], harness := (true, "6fd12d082dd462b6ee9d8164c12dd7c438499c6601c3c9515c9beeaddf52b2cb"), looks := true }, kinds := [], alts := [], goes := true, laidByText := true, laidKinds := [.data, .data, .data, .sentinel, .sentinel], laidTests := true, laidLooks := .later }
def TidiesCardSaid : Prop := Claim7.holds Tryz.pinned (.plain (OpenSpec.ofChange tidiesSpec)) tidiesCard

/-- THE TIED CARD OF 'curtainlaw.Checks'. -/
def checksCard : Claim7 := { stood := { row := checksRow, standIns := [], harness := (true, "6fd12d082dd462b6ee9d8164c12dd7c438499c6601c3c9515c9beeaddf52b2cb"), looks := true }, kinds := [], alts := [], goes := true, laidByText := true, laidKinds := [.data, .data, .data, .sentinel, .sentinel], laidTests := true, laidLooks := .later }
def ChecksCardSaid : Prop := Claim7.holds Tryz.pinned (.plain (OpenSpec.ofChange checksSpec)) checksCard

/-- THE TIED CARD OF 'curtainlaw.Calls'. -/
def callsCard : Claim7 := { stood := { row := callsRow, standIns := [], harness := (true, "6fd12d082dd462b6ee9d8164c12dd7c438499c6601c3c9515c9beeaddf52b2cb"), looks := true }, kinds := [], alts := [], goes := true, laidByText := true, laidKinds := [.data, .data, .data, .sentinel, .sentinel], laidTests := true, laidLooks := .later }
def CallsCardSaid : Prop := Claim7.holds Tryz.pinned (.plain (OpenSpec.ofChange callsSpec)) callsCard

/-- THE TIED CARD OF 'curtainkeep.Hushed'. -/
def hushedCard : Claim7 := { stood := { row := hushedRow, standIns := [], harness := (true, "6fd12d082dd462b6ee9d8164c12dd7c438499c6601c3c9515c9beeaddf52b2cb"), looks := true }, kinds := [], alts := [], goes := true, laidByText := true, laidKinds := [.data, .data, .data, .sentinel, .sentinel], laidTests := true, laidLooks := .later }
def HushedCardSaid : Prop := Claim7.holds Tryz.pinned (.plain (OpenSpec.ofChange hushedSpec)) hushedCard

/-- THE TIED CARD OF 'curtainlaw.Sees'. -/
def seesCard : Claim7 := { stood := { row := seesRow, standIns := [], harness := (true, "6fd12d082dd462b6ee9d8164c12dd7c438499c6601c3c9515c9beeaddf52b2cb"), looks := true }, kinds := [], alts := [], goes := true, laidByText := true, laidKinds := [.data, .data, .data, .sentinel, .sentinel], laidTests := true, laidLooks := .later }
def SeesCardSaid : Prop := Claim7.holds Tryz.pinned (.plain (OpenSpec.ofChange seesSpec)) seesCard

/-- THE TIED CARD OF 'curtainlaw.Plans'. -/
def plansCard : Claim7 := { stood := { row := plansRow, standIns := [], harness := (true, "6fd12d082dd462b6ee9d8164c12dd7c438499c6601c3c9515c9beeaddf52b2cb"), looks := true }, kinds := [], alts := [], goes := true, laidByText := true, laidKinds := [.data, .data, .data, .sentinel, .sentinel], laidTests := true, laidLooks := .later }
def PlansCardSaid : Prop := Claim7.holds Tryz.pinned (.plain (OpenSpec.ofChange plansSpec)) plansCard

/-- THE TIED CARD OF 'curtainkeep.Least'. -/
def leastCard : Claim7 := { stood := { row := leastRow, standIns := [], harness := (true, "6fd12d082dd462b6ee9d8164c12dd7c438499c6601c3c9515c9beeaddf52b2cb"), looks := true }, kinds := [], alts := [], goes := true, laidByText := true, laidKinds := [.data, .data, .data, .sentinel, .sentinel], laidTests := true, laidLooks := .later }
def LeastCardSaid : Prop := Claim7.holds Tryz.pinned (.plain (OpenSpec.ofChange leastSpec)) leastCard

/-- THE TIED CARD OF 'curtainlaw.Runs'. -/
def runsCard : Claim7 := { stood := { row := runsRow, standIns := [], harness := (true, "6fd12d082dd462b6ee9d8164c12dd7c438499c6601c3c9515c9beeaddf52b2cb"), looks := true }, kinds := [], alts := [], goes := true, laidByText := true, laidKinds := [.data, .data, .data, .sentinel, .sentinel], laidTests := true, laidLooks := .later }
def RunsCardSaid : Prop := Claim7.holds Tryz.pinned (.plain (OpenSpec.ofChange runsSpec)) runsCard

/-- THE TIED CARD OF 'curtainkeep.Erased'. -/
def erasedCard : Claim7 := { stood := { row := erasedRow, standIns := [], harness := (true, "6fd12d082dd462b6ee9d8164c12dd7c438499c6601c3c9515c9beeaddf52b2cb"), looks := true }, kinds := [], alts := [], goes := true, laidByText := true, laidKinds := [.data, .data, .data, .sentinel, .sentinel], laidTests := true, laidLooks := .later }
def ErasedCardSaid : Prop := Claim7.holds Tryz.pinned (.plain (OpenSpec.ofChange erasedSpec)) erasedCard

/-- THE TIED CARD OF 'curtainkeep.Sized'. -/
def sizedCard : Claim7 := { stood := { row := sizedRow, standIns := [], harness := (true, "6fd12d082dd462b6ee9d8164c12dd7c438499c6601c3c9515c9beeaddf52b2cb"), looks := true }, kinds := [], alts := [], goes := true, laidByText := true, laidKinds := [.data, .data, .data, .sentinel, .sentinel], laidTests := true, laidLooks := .later }
def SizedCardSaid : Prop := Claim7.holds Tryz.pinned (.plain (OpenSpec.ofChange sizedSpec)) sizedCard

/-- THE TIED CARD OF 'curtainkeep.Sorted'. -/
def sortedCard : Claim7 := { stood := { row := sortedRow, standIns := [], harness := (true, "6fd12d082dd462b6ee9d8164c12dd7c438499c6601c3c9515c9beeaddf52b2cb"), looks := true }, kinds := [], alts := [], goes := true, laidByText := true, laidKinds := [.data, .data, .data, .sentinel, .sentinel], laidTests := true, laidLooks := .later }
def SortedCardSaid : Prop := Claim7.holds Tryz.pinned (.plain (OpenSpec.ofChange sortedSpec)) sortedCard

/-- THE SECOND FORM's CARD OF 'curtainlaw.Tidies'. -/
def tidiesUptoCard : Claim7 := { stood := { row := tidiesUptoRow, standIns := [], harness := (true, "6fd12d082dd462b6ee9d8164c12dd7c438499c6601c3c9515c9beeaddf52b2cb"), looks := true }, kinds := [], alts := [], goes := true, laidByText := true, laidKinds := [.data, .data, .data, .sentinel, .sentinel], laidTests := true, laidLooks := .later }
def TidiesUptoCardSaid : Prop := Claim7.holds Tryz.pinned (.plain (OpenSpec.upto tidiesSpec)) tidiesUptoCard

/-- THE SECOND FORM's CARD OF 'curtainlaw.Checks'. -/
def checksUptoCard : Claim7 := { stood := { row := checksUptoRow, standIns := [], harness := (true, "6fd12d082dd462b6ee9d8164c12dd7c438499c6601c3c9515c9beeaddf52b2cb"), looks := true }, kinds := [], alts := [], goes := true, laidByText := true, laidKinds := [.data, .data, .data, .sentinel, .sentinel], laidTests := true, laidLooks := .later }
def ChecksUptoCardSaid : Prop := Claim7.holds Tryz.pinned (.plain (OpenSpec.upto checksSpec)) checksUptoCard

/-- THE SECOND FORM's CARD OF 'curtainlaw.Calls'. -/
def callsUptoCard : Claim7 := { stood := { row := callsUptoRow, standIns := [], harness := (true, "6fd12d082dd462b6ee9d8164c12dd7c438499c6601c3c9515c9beeaddf52b2cb"), looks := true }, kinds := [], alts := [], goes := true, laidByText := true, laidKinds := [.data, .data, .data, .sentinel, .sentinel], laidTests := true, laidLooks := .later }
def CallsUptoCardSaid : Prop := Claim7.holds Tryz.pinned (.plain (OpenSpec.upto callsSpec)) callsUptoCard

/-- THE SECOND FORM's CARD OF 'curtainkeep.Hushed'. -/
def hushedUptoCard : Claim7 := { stood := { row := hushedUptoRow, standIns := [], harness := (true, "6fd12d082dd462b6ee9d8164c12dd7c438499c6601c3c9515c9beeaddf52b2cb"), looks := true }, kinds := [], alts := [], goes := true, laidByText := true, laidKinds := [.data, .data, .data, .sentinel, .sentinel], laidTests := true, laidLooks := .later }
def HushedUptoCardSaid : Prop := Claim7.holds Tryz.pinned (.plain (OpenSpec.upto hushedSpec)) hushedUptoCard

/-- THE SECOND FORM's CARD OF 'curtainlaw.Sees'. -/
def seesUptoCard : Claim7 := { stood := { row := seesUptoRow, standIns := [], harness := (true, "6fd12d082dd462b6ee9d8164c12dd7c438499c6601c3c9515c9beeaddf52b2cb"), looks := true }, kinds := [], alts := [], goes := true, laidByText := true, laidKinds := [.data, .data, .data, .sentinel, .sentinel], laidTests := true, laidLooks := .later }
def SeesUptoCardSaid : Prop := Claim7.holds Tryz.pinned (.plain (OpenSpec.upto seesSpec)) seesUptoCard

/-- THE SECOND FORM's CARD OF 'curtainlaw.Plans'. -/
def plansUptoCard : Claim7 := { stood := { row := plansUptoRow, standIns := [], harness := (true, "6fd12d082dd462b6ee9d8164c12dd7c438499c6601c3c9515c9beeaddf52b2cb"), looks := true }, kinds := [], alts := [], goes := true, laidByText := true, laidKinds := [.data, .data, .data, .sentinel, .sentinel], laidTests := true, laidLooks := .later }
def PlansUptoCardSaid : Prop := Claim7.holds Tryz.pinned (.plain (OpenSpec.upto plansSpec)) plansUptoCard

/-- THE SECOND FORM's CARD OF 'curtainkeep.Least'. -/
def leastUptoCard : Claim7 := { stood := { row := leastUptoRow, standIns := [], harness := (true, "6fd12d082dd462b6ee9d8164c12dd7c438499c6601c3c9515c9beeaddf52b2cb"), looks := true }, kinds := [], alts := [], goes := true, laidByText := true, laidKinds := [.data, .data, .data, .sentinel, .sentinel], laidTests := true, laidLooks := .later }
def LeastUptoCardSaid : Prop := Claim7.holds Tryz.pinned (.plain (OpenSpec.upto leastSpec)) leastUptoCard

/-- THE SECOND FORM's CARD OF 'curtainlaw.Runs'. -/
def runsUptoCard : Claim7 := { stood := { row := runsUptoRow, standIns := [], harness := (true, "6fd12d082dd462b6ee9d8164c12dd7c438499c6601c3c9515c9beeaddf52b2cb"), looks := true }, kinds := [], alts := [], goes := true, laidByText := true, laidKinds := [.data, .data, .data, .sentinel, .sentinel], laidTests := true, laidLooks := .later }
def RunsUptoCardSaid : Prop := Claim7.holds Tryz.pinned (.plain (OpenSpec.upto runsSpec)) runsUptoCard

/-- THE SECOND FORM's CARD OF 'curtainkeep.Erased'. -/
def erasedUptoCard : Claim7 := { stood := { row := erasedUptoRow, standIns := [], harness := (true, "6fd12d082dd462b6ee9d8164c12dd7c438499c6601c3c9515c9beeaddf52b2cb"), looks := true }, kinds := [], alts := [], goes := true, laidByText := true, laidKinds := [.data, .data, .data, .sentinel, .sentinel], laidTests := true, laidLooks := .later }
def ErasedUptoCardSaid : Prop := Claim7.holds Tryz.pinned (.plain (OpenSpec.upto erasedSpec)) erasedUptoCard

/-- THE SECOND FORM's CARD OF 'curtainkeep.Sized'. -/
def sizedUptoCard : Claim7 := { stood := { row := sizedUptoRow, standIns := [], harness := (true, "6fd12d082dd462b6ee9d8164c12dd7c438499c6601c3c9515c9beeaddf52b2cb"), looks := true }, kinds := [], alts := [], goes := true, laidByText := true, laidKinds := [.data, .data, .data, .sentinel, .sentinel], laidTests := true, laidLooks := .later }
def SizedUptoCardSaid : Prop := Claim7.holds Tryz.pinned (.plain (OpenSpec.upto sizedSpec)) sizedUptoCard

/-- THE SECOND FORM's CARD OF 'curtainkeep.Sorted'. -/
def sortedUptoCard : Claim7 := { stood := { row := sortedUptoRow, standIns := [], harness := (true, "6fd12d082dd462b6ee9d8164c12dd7c438499c6601c3c9515c9beeaddf52b2cb"), looks := true }, kinds := [], alts := [], goes := true, laidByText := true, laidKinds := [.data, .data, .data, .sentinel, .sentinel], laidTests := true, laidLooks := .later }
def SortedUptoCardSaid : Prop := Claim7.holds Tryz.pinned (.plain (OpenSpec.upto sortedSpec)) sortedUptoCard
end Rows
end Go.Proofs.YtilfjpmeededmaaGreatDoor

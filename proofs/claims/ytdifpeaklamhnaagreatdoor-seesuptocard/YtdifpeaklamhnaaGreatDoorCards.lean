/-
  DERIVED. GIVEN WITH THE SEED: THE CARDS: each row of YtdifpeaklamhnaaGreatDoorRows.lean that lists a variable, with what it lists TIED to the program's text (the seventh form; the later family's looks); each row that meets fmt, with fmt's text TOLD by the authors' own Lean function (tested against real Go, not proved from fmt's source: count such statements apart). THE CARD IS WHAT COUNTS. Prove the row's statement (the work); the ties are given (YtdifpeaklamhnaaGreatDoorTie.lean); close each card by the builder's one call (the guide's Derived/Test/ToyasCard.lean, 'card_holds'). Laid BY PROGRAM, IN A SANDBOX (cutbox-door.mjs). By AI agents, Wed Nov 11 2026. No macro, syntax, notation, axiom, sorry.
-/
import Derived.Test.YtdifpeaklamhnaaGreatDoorRows
import GoSem.ClaimSeven
namespace Go.Proofs.YtdifpeaklamhnaaGreatDoor
namespace Rows

/-- THE TIED CARD OF 'curtainlaw.Calls'. -/
def callsCard : Claim7 := { stood := { row := callsRow, standIns := [], harness := (true, "453de24607fd81f70f28704f7d13f11900e58ee688ee4dfc319e3c4a57320ff4"), looks := true }, kinds := [], alts := [], goes := true, laidByText := true, laidKinds := [.data, .data, .data, .sentinel, .sentinel], laidTests := true, laidLooks := .later }
def CallsCardSaid : Prop := Claim7.holds Tryz.pinned (.plain (OpenSpec.ofChange callsSpec)) callsCard

/-- THE TIED CARD OF 'curtainlaw.Sees'. -/
def seesCard : Claim7 := { stood := { row := seesRow, standIns := [], harness := (true, "453de24607fd81f70f28704f7d13f11900e58ee688ee4dfc319e3c4a57320ff4"), looks := true }, kinds := [], alts := [], goes := true, laidByText := true, laidKinds := [.data, .data, .data, .sentinel, .sentinel], laidTests := true, laidLooks := .later }
def SeesCardSaid : Prop := Claim7.holds Tryz.pinned (.plain (OpenSpec.ofChange seesSpec)) seesCard

/-- THE SECOND FORM's CARD OF 'curtainlaw.Calls'. -/
def callsUptoCard : Claim7 := { stood := { row := callsUptoRow, standIns := [], harness := (true, "453de24607fd81f70f28704f7d13f11900e58ee688ee4dfc319e3c4a57320ff4"), looks := true }, kinds := [], alts := [], goes := true, laidByText := true, laidKinds := [.data, .data, .data, .sentinel, .sentinel], laidTests := true, laidLooks := .later }
def CallsUptoCardSaid : Prop := Claim7.holds Tryz.pinned (.plain (OpenSpec.upto callsSpec)) callsUptoCard

/-- THE SECOND FORM's CARD OF 'curtainlaw.Sees'. -/
def seesUptoCard : Claim7 := { stood := { row := seesUptoRow, standIns := [], harness := (true, "453de24607fd81f70f28704f7d13f11900e58ee688ee4dfc319e3c4a57320ff4"), looks := true }, kinds := [], alts := [], goes := true, laidByText := true, laidKinds := [.data, .data, .data, .sentinel, .sentinel], laidTests := true, laidLooks := .later }
def SeesUptoCardSaid : Prop := Claim7.holds Tryz.pinned (.plain (OpenSpec.upto seesSpec)) seesUptoCard
end Rows
end Go.Proofs.YtdifpeaklamhnaaGreatDoor

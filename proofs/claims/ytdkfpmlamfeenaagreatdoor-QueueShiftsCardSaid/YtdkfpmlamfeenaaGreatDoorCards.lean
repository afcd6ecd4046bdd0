/-
  DERIVED. GIVEN WITH THE SEED: THE CARDS: each row of YtdkfpmlamfeenaaGreatDoorRows.lean that lists a variable, with what it lists TIED to the program's text (the seventh form; the later family's looks); each row that meets fmt, with fmt's text TOLD by the authors' own Lean function (tested against real Go, not proved from fmt's source: count such statements apart). THE CARD IS WHAT COUNTS. Prove the row's statement (the work); the ties are given (YtdkfpmlamfeenaaGreatDoorTie.lean); close each card by the builder's one call (the guide's Derived/Test/ToyasCard.lean, 'card_holds'). Laid BY PROGRAM, IN A SANDBOX (cutbox-door.mjs). By AI agents, Wed Nov 11 2026. No macro, syntax, notation, axiom, sorry.
-/
import Derived.Test.YtdkfpmlamfeenaaGreatDoorRows
import GoSem.ClaimSeven
namespace Go.Proofs.YtdkfpmlamfeenaaGreatDoor
namespace Rows

/-- THE TIED CARD OF 'turnstonelaw14.QueueShifts'. -/
def queueShiftsCard : Claim7 := { stood := { row := queueShiftsRow, standIns := [], harness := (true, "8de12fdc39575a4c9e260ba91e2796881f1c762f2c01b9bd8ba26137c55cedb1"), looks := true }, kinds := [], alts := [], laidByText := true, laidKinds := [.data, .data, .data], laidTests := true, laidLooks := .later }
def QueueShiftsCardSaid : Prop := Claim7.holds Tryz.pinned (.plain (OpenSpec.ofChange queueShiftsSpec)) queueShiftsCard

/-- THE TIED CARD OF 'turnstonelaw14.QueueServes'. -/
def queueServesCard : Claim7 := { stood := { row := queueServesRow, standIns := [], harness := (true, "8de12fdc39575a4c9e260ba91e2796881f1c762f2c01b9bd8ba26137c55cedb1"), looks := true }, kinds := [], alts := [], laidByText := true, laidKinds := [.data, .data, .data], laidTests := true, laidLooks := .later }
def QueueServesCardSaid : Prop := Claim7.holds Tryz.pinned (.plain (OpenSpec.ofChange queueServesSpec)) queueServesCard

/-- THE TIED CARD OF 'turnstonelaw14.QueueBack'. -/
def queueBackCard : Claim7 := { stood := { row := queueBackRow, standIns := [], harness := (true, "8de12fdc39575a4c9e260ba91e2796881f1c762f2c01b9bd8ba26137c55cedb1"), looks := true }, kinds := [], alts := [], laidByText := true, laidKinds := [.data, .data, .data], laidTests := true, laidLooks := .later }
def QueueBackCardSaid : Prop := Claim7.holds Tryz.pinned (.plain (OpenSpec.ofChange queueBackSpec)) queueBackCard

/-- THE SECOND FORM's CARD OF 'turnstonelaw14.QueueShifts'. -/
def queueShiftsUptoCard : Claim7 := { stood := { row := queueShiftsUptoRow, standIns := [], harness := (true, "8de12fdc39575a4c9e260ba91e2796881f1c762f2c01b9bd8ba26137c55cedb1"), looks := true }, kinds := [], alts := [], laidByText := true, laidKinds := [.data, .data, .data], laidTests := true, laidLooks := .later }
def QueueShiftsUptoCardSaid : Prop := Claim7.holds Tryz.pinned (.plain (OpenSpec.upto queueShiftsSpec)) queueShiftsUptoCard

/-- THE SECOND FORM's CARD OF 'turnstonelaw14.QueueServes'. -/
def queueServesUptoCard : Claim7 := { stood := { row := queueServesUptoRow, standIns := [], harness := (true, "8de12fdc39575a4c9e260ba91e2796881f1c762f2c01b9bd8ba26137c55cedb1"), looks := true }, kinds := [], alts := [], laidByText := true, laidKinds := [.data, .data, .data], laidTests := true, laidLooks := .later }
def QueueServesUptoCardSaid : Prop := Claim7.holds Tryz.pinned (.plain (OpenSpec.upto queueServesSpec)) queueServesUptoCard

/-- THE SECOND FORM's CARD OF 'turnstonelaw14.QueueBack'. -/
def queueBackUptoCard : Claim7 := { stood := { row := queueBackUptoRow, standIns := [], harness := (true, "8de12fdc39575a4c9e260ba91e2796881f1c762f2c01b9bd8ba26137c55cedb1"), looks := true }, kinds := [], alts := [], laidByText := true, laidKinds := [.data, .data, .data], laidTests := true, laidLooks := .later }
def QueueBackUptoCardSaid : Prop := Claim7.holds Tryz.pinned (.plain (OpenSpec.upto queueBackSpec)) queueBackUptoCard
end Rows
end Go.Proofs.YtdkfpmlamfeenaaGreatDoor

/-
  DERIVED. GIVEN WITH THE SEED: THE CARDS: each row of YtkddkllepbhnhaaGreatDoorRows.lean that lists a variable, with what it lists TIED to the program's text (the seventh form; the later family's looks); each row that meets fmt, with fmt's text TOLD by the authors' own Lean function (tested against real Go, not proved from fmt's source: count such statements apart). THE CARD IS WHAT COUNTS. Prove the row's statement (the work); the ties are given (YtkddkllepbhnhaaGreatDoorTie.lean); close each card by the builder's one call (the guide's Derived/Test/ToyasCard.lean, 'card_holds'). Laid BY PROGRAM, IN A SANDBOX (cutbox-door.mjs). By AI agents, Wed Nov 11 2026. No macro, syntax, notation, axiom, sorry.
-/
import Derived.Test.YtkddkllepbhnhaaGreatDoorRows
import GoSem.ClaimSeven
namespace Go.Proofs.YtkddkllepbhnhaaGreatDoor
namespace Rows

/-- THE TIED CARD OF 'turnstonelaw08.MeanSums'. -/
def meanSumsCard : Claim7 := { stood := { row := meanSumsRow, standIns := [], harness := (true, "909eca1429a38066122d522b1b1af228c728af8dc939226ca745ee4f4b4a19ff"), looks := true }, kinds := [], alts := [], laidByText := true, laidKinds := [.data, .data, .data], laidTests := true, laidLooks := .later }
def MeanSumsCardSaid : Prop := Claim7.holds Tryz.pinned (.plain (OpenSpec.ofChange meanSumsSpec)) meanSumsCard

/-- THE TIED CARD OF 'turnstonelaw09.LagNought'. -/
def lagNoughtCard : Claim7 := { stood := { row := lagNoughtRow, standIns := [], harness := (true, "909eca1429a38066122d522b1b1af228c728af8dc939226ca745ee4f4b4a19ff"), looks := true }, kinds := [], alts := [], laidByText := true, laidKinds := [.data, .data, .data], laidTests := true, laidLooks := .later }
def LagNoughtCardSaid : Prop := Claim7.holds Tryz.pinned (.plain (OpenSpec.ofChange lagNoughtSpec)) lagNoughtCard

/-- THE TIED CARD OF 'turnstonelaw12.ClampCarries'. -/
def clampCarriesCard : Claim7 := { stood := { row := clampCarriesRow, standIns := [], harness := (true, "909eca1429a38066122d522b1b1af228c728af8dc939226ca745ee4f4b4a19ff"), looks := true }, kinds := [], alts := [], laidByText := true, laidKinds := [.data, .data, .data], laidTests := true, laidLooks := .later }
def ClampCarriesCardSaid : Prop := Claim7.holds Tryz.pinned (.plain (OpenSpec.ofChange clampCarriesSpec)) clampCarriesCard

/-- THE TIED CARD OF 'turnstonelaw13.SpanTells'. -/
def spanTellsCard : Claim7 := { stood := { row := spanTellsRow, standIns := [], harness := (true, "909eca1429a38066122d522b1b1af228c728af8dc939226ca745ee4f4b4a19ff"), looks := true }, kinds := [], alts := [], laidByText := true, laidKinds := [.data, .data, .data], laidTests := true, laidLooks := .later }
def SpanTellsCardSaid : Prop := Claim7.holds Tryz.pinned (.plain (OpenSpec.ofChange spanTellsSpec)) spanTellsCard

/-- THE TIED CARD OF 'turnstonelaw13.SpanBases'. -/
def spanBasesCard : Claim7 := { stood := { row := spanBasesRow, standIns := [], harness := (true, "909eca1429a38066122d522b1b1af228c728af8dc939226ca745ee4f4b4a19ff"), looks := true }, kinds := [], alts := [], laidByText := true, laidKinds := [.data, .data, .data], laidTests := true, laidLooks := .later }
def SpanBasesCardSaid : Prop := Claim7.holds Tryz.pinned (.plain (OpenSpec.ofChange spanBasesSpec)) spanBasesCard

/-- THE TIED CARD OF 'turnstonelaw13.SpanGrows'. -/
def spanGrowsCard : Claim7 := { stood := { row := spanGrowsRow, standIns := [], harness := (true, "909eca1429a38066122d522b1b1af228c728af8dc939226ca745ee4f4b4a19ff"), looks := true }, kinds := [], alts := [], laidByText := true, laidKinds := [.data, .data, .data], laidTests := true, laidLooks := .later }
def SpanGrowsCardSaid : Prop := Claim7.holds Tryz.pinned (.plain (OpenSpec.ofChange spanGrowsSpec)) spanGrowsCard

/-- THE TIED CARD OF 'turnstonelaw14.QueueShifts'. -/
def queueShiftsCard : Claim7 := { stood := { row := queueShiftsRow, standIns := [], harness := (true, "909eca1429a38066122d522b1b1af228c728af8dc939226ca745ee4f4b4a19ff"), looks := true }, kinds := [], alts := [], laidByText := true, laidKinds := [.data, .data, .data], laidTests := true, laidLooks := .later }
def QueueShiftsCardSaid : Prop := Claim7.holds Tryz.pinned (.plain (OpenSpec.ofChange queueShiftsSpec)) queueShiftsCard

/-- THE TIED CARD OF 'turnstonelaw14.QueueServes'. -/
def queueServesCard : Claim7 := { stood := { row := queueServesRow, standIns := [], harness := (true, "909eca1429a38066122d522b1b1af228c728af8dc939226ca745ee4f4b4a19ff"), looks := true }, kinds := [], alts := [], laidByText := true, laidKinds := [.data, .data, .data], laidTests := true, laidLooks := .later }
def QueueServesCardSaid : Prop := Claim7.holds Tryz.pinned (.plain (OpenSpec.ofChange queueServesSpec)) queueServesCard

/-- THE TIED CARD OF 'turnstonelaw14.QueueNone'. -/
def queueNoneCard : Claim7 := { stood := { row := queueNoneRow, standIns := [], harness := (true, "909eca1429a38066122d522b1b1af228c728af8dc939226ca745ee4f4b4a19ff"), looks := true }, kinds := [], alts := [], laidByText := true, laidKinds := [.data, .data, .data], laidTests := true, laidLooks := .later }
def QueueNoneCardSaid : Prop := Claim7.holds Tryz.pinned (.plain (OpenSpec.ofChange queueNoneSpec)) queueNoneCard

/-- THE TIED CARD OF 'turnstonelaw14.QueueBack'. -/
def queueBackCard : Claim7 := { stood := { row := queueBackRow, standIns := [], harness := (true, "909eca1429a38066122d522b1b1af228c728af8dc939226ca745ee4f4b4a19ff"), looks := true }, kinds := [], alts := [], laidByText := true, laidKinds := [.data, .data, .data], laidTests := true, laidLooks := .later }
def QueueBackCardSaid : Prop := Claim7.holds Tryz.pinned (.plain (OpenSpec.ofChange queueBackSpec)) queueBackCard

/-- THE SECOND FORM's CARD OF 'turnstonelaw08.MeanSums'. -/
def meanSumsUptoCard : Claim7 := { stood := { row := meanSumsUptoRow, standIns := [], harness := (true, "909eca1429a38066122d522b1b1af228c728af8dc939226ca745ee4f4b4a19ff"), looks := true }, kinds := [], alts := [], laidByText := true, laidKinds := [.data, .data, .data], laidTests := true, laidLooks := .later }
def MeanSumsUptoCardSaid : Prop := Claim7.holds Tryz.pinned (.plain (OpenSpec.upto meanSumsSpec)) meanSumsUptoCard

/-- THE SECOND FORM's CARD OF 'turnstonelaw09.LagNought'. -/
def lagNoughtUptoCard : Claim7 := { stood := { row := lagNoughtUptoRow, standIns := [], harness := (true, "909eca1429a38066122d522b1b1af228c728af8dc939226ca745ee4f4b4a19ff"), looks := true }, kinds := [], alts := [], laidByText := true, laidKinds := [.data, .data, .data], laidTests := true, laidLooks := .later }
def LagNoughtUptoCardSaid : Prop := Claim7.holds Tryz.pinned (.plain (OpenSpec.upto lagNoughtSpec)) lagNoughtUptoCard

/-- THE SECOND FORM's CARD OF 'turnstonelaw12.ClampCarries'. -/
def clampCarriesUptoCard : Claim7 := { stood := { row := clampCarriesUptoRow, standIns := [], harness := (true, "909eca1429a38066122d522b1b1af228c728af8dc939226ca745ee4f4b4a19ff"), looks := true }, kinds := [], alts := [], laidByText := true, laidKinds := [.data, .data, .data], laidTests := true, laidLooks := .later }
def ClampCarriesUptoCardSaid : Prop := Claim7.holds Tryz.pinned (.plain (OpenSpec.upto clampCarriesSpec)) clampCarriesUptoCard

/-- THE SECOND FORM's CARD OF 'turnstonelaw13.SpanTells'. -/
def spanTellsUptoCard : Claim7 := { stood := { row := spanTellsUptoRow, standIns := [], harness := (true, "909eca1429a38066122d522b1b1af228c728af8dc939226ca745ee4f4b4a19ff"), looks := true }, kinds := [], alts := [], laidByText := true, laidKinds := [.data, .data, .data], laidTests := true, laidLooks := .later }
def SpanTellsUptoCardSaid : Prop := Claim7.holds Tryz.pinned (.plain (OpenSpec.upto spanTellsSpec)) spanTellsUptoCard

/-- THE SECOND FORM's CARD OF 'turnstonelaw13.SpanBases'. -/
def spanBasesUptoCard : Claim7 := { stood := { row := spanBasesUptoRow, standIns := [], harness := (true, "909eca1429a38066122d522b1b1af228c728af8dc939226ca745ee4f4b4a19ff"), looks := true }, kinds := [], alts := [], laidByText := true, laidKinds := [.data, .data, .data], laidTests := true, laidLooks := .later }
def SpanBasesUptoCardSaid : Prop := Claim7.holds Tryz.pinned (.plain (OpenSpec.upto spanBasesSpec)) spanBasesUptoCard

/-- THE SECOND FORM's CARD OF 'turnstonelaw13.SpanGrows'. -/
def spanGrowsUptoCard : Claim7 := { stood := { row := spanGrowsUptoRow, standIns := [], harness := (true, "909eca1429a38066122d522b1b1af228c728af8dc939226ca745ee4f4b4a19ff"), looks := true }, kinds := [], alts := [], laidByText := true, laidKinds := [.data, .data, .data], laidTests := true, laidLooks := .later }
def SpanGrowsUptoCardSaid : Prop := Claim7.holds Tryz.pinned (.plain (OpenSpec.upto spanGrowsSpec)) spanGrowsUptoCard

/-- THE SECOND FORM's CARD OF 'turnstonelaw14.QueueShifts'. -/
def queueShiftsUptoCard : Claim7 := { stood := { row := queueShiftsUptoRow, standIns := [], harness := (true, "909eca1429a38066122d522b1b1af228c728af8dc939226ca745ee4f4b4a19ff"), looks := true }, kinds := [], alts := [], laidByText := true, laidKinds := [.data, .data, .data], laidTests := true, laidLooks := .later }
def QueueShiftsUptoCardSaid : Prop := Claim7.holds Tryz.pinned (.plain (OpenSpec.upto queueShiftsSpec)) queueShiftsUptoCard

/-- THE SECOND FORM's CARD OF 'turnstonelaw14.QueueServes'. -/
def queueServesUptoCard : Claim7 := { stood := { row := queueServesUptoRow, standIns := [], harness := (true, "909eca1429a38066122d522b1b1af228c728af8dc939226ca745ee4f4b4a19ff"), looks := true }, kinds := [], alts := [], laidByText := true, laidKinds := [.data, .data, .data], laidTests := true, laidLooks := .later }
def QueueServesUptoCardSaid : Prop := Claim7.holds Tryz.pinned (.plain (OpenSpec.upto queueServesSpec)) queueServesUptoCard

/-- THE SECOND FORM's CARD OF 'turnstonelaw14.QueueNone'. -/
def queueNoneUptoCard : Claim7 := { stood := { row := queueNoneUptoRow, standIns := [], harness := (true, "909eca1429a38066122d522b1b1af228c728af8dc939226ca745ee4f4b4a19ff"), looks := true }, kinds := [], alts := [], laidByText := true, laidKinds := [.data, .data, .data], laidTests := true, laidLooks := .later }
def QueueNoneUptoCardSaid : Prop := Claim7.holds Tryz.pinned (.plain (OpenSpec.upto queueNoneSpec)) queueNoneUptoCard

/-- THE SECOND FORM's CARD OF 'turnstonelaw14.QueueBack'. -/
def queueBackUptoCard : Claim7 := { stood := { row := queueBackUptoRow, standIns := [], harness := (true, "909eca1429a38066122d522b1b1af228c728af8dc939226ca745ee4f4b4a19ff"), looks := true }, kinds := [], alts := [], laidByText := true, laidKinds := [.data, .data, .data], laidTests := true, laidLooks := .later }
def QueueBackUptoCardSaid : Prop := Claim7.holds Tryz.pinned (.plain (OpenSpec.upto queueBackSpec)) queueBackUptoCard
end Rows
end Go.Proofs.YtkddkllepbhnhaaGreatDoor

/-
  DERIVED. GIVEN WITH THE SEED: THE CARDS: each row of YtoioeginfhkjjaaGreatDoorRows.lean that lists a variable, with what it lists TIED to the program's text (the seventh form; the later family's looks); each row that meets fmt, with fmt's text TOLD by the authors' own Lean function (tested against real Go, not proved from fmt's source: count such statements apart). THE CARD IS WHAT COUNTS. Prove the row's statement (the work); the ties are given (YtoioeginfhkjjaaGreatDoorTie.lean); close each card by the builder's one call (the guide's Derived/Test/ToyasCard.lean, 'card_holds'). Laid BY PROGRAM, IN A SANDBOX (cutbox-door.mjs). By AI agents, Wed Nov 11 2026. No macro, syntax, notation, axiom, sorry.
-/
import Derived.Test.YtoioeginfhkjjaaGreatDoorRows
import GoSem.ClaimSeven
namespace Go.Proofs.YtoioeginfhkjjaaGreatDoor
namespace Rows

/-- THE TIED CARD OF 'turnstonelaw08.MeanSums'. -/
def meanSumsCard : Claim7 := { stood := { row := meanSumsRow, standIns := [], harness := (true, "353b6f4fa5caef1cfd90e52f6fb23beeef3b0fd1087b7bb9db3e232342ef8e9b"), looks := false }, kinds := [], alts := [], laidByText := true, laidKinds := [.data, .data, .data], laidTests := true, laidLooks := .later }
def MeanSumsCardSaid : Prop := Claim7.holds Tryz.pinned (.plain (OpenSpec.ofChange meanSumsSpec)) meanSumsCard

/-- THE TIED CARD OF 'turnstonelaw08.MeanBetween'. -/
def meanBetweenCard : Claim7 := { stood := { row := meanBetweenRow, standIns := [], harness := (true, "353b6f4fa5caef1cfd90e52f6fb23beeef3b0fd1087b7bb9db3e232342ef8e9b"), looks := false }, kinds := [], alts := [], laidByText := true, laidKinds := [.data, .data, .data], laidTests := true, laidLooks := .later }
def MeanBetweenCardSaid : Prop := Claim7.holds Tryz.pinned (.plain (OpenSpec.ofChange meanBetweenSpec)) meanBetweenCard

/-- THE TIED CARD OF 'turnstonelaw08.MeanShifts'. -/
def meanShiftsCard : Claim7 := { stood := { row := meanShiftsRow, standIns := [], harness := (true, "353b6f4fa5caef1cfd90e52f6fb23beeef3b0fd1087b7bb9db3e232342ef8e9b"), looks := false }, kinds := [], alts := [], laidByText := true, laidKinds := [.data, .data, .data], laidTests := true, laidLooks := .later }
def MeanShiftsCardSaid : Prop := Claim7.holds Tryz.pinned (.plain (OpenSpec.ofChange meanShiftsSpec)) meanShiftsCard

/-- THE TIED CARD OF 'turnstonelaw09.LagReads'. -/
def lagReadsCard : Claim7 := { stood := { row := lagReadsRow, standIns := [], harness := (true, "353b6f4fa5caef1cfd90e52f6fb23beeef3b0fd1087b7bb9db3e232342ef8e9b"), looks := false }, kinds := [], alts := [], laidByText := true, laidKinds := [.data, .data, .data], laidTests := true, laidLooks := .later }
def LagReadsCardSaid : Prop := Claim7.holds Tryz.pinned (.plain (OpenSpec.ofChange lagReadsSpec)) lagReadsCard

/-- THE TIED CARD OF 'turnstonelaw09.LagNanos'. -/
def lagNanosCard : Claim7 := { stood := { row := lagNanosRow, standIns := [], harness := (true, "353b6f4fa5caef1cfd90e52f6fb23beeef3b0fd1087b7bb9db3e232342ef8e9b"), looks := false }, kinds := [], alts := [], laidByText := true, laidKinds := [.data, .data, .data], laidTests := true, laidLooks := .later }
def LagNanosCardSaid : Prop := Claim7.holds Tryz.pinned (.plain (OpenSpec.ofChange lagNanosSpec)) lagNanosCard

/-- THE TIED CARD OF 'turnstonelaw09.LagNought'. -/
def lagNoughtCard : Claim7 := { stood := { row := lagNoughtRow, standIns := [], harness := (true, "353b6f4fa5caef1cfd90e52f6fb23beeef3b0fd1087b7bb9db3e232342ef8e9b"), looks := false }, kinds := [], alts := [], laidByText := true, laidKinds := [.data, .data, .data], laidTests := true, laidLooks := .later }
def LagNoughtCardSaid : Prop := Claim7.holds Tryz.pinned (.plain (OpenSpec.ofChange lagNoughtSpec)) lagNoughtCard

/-- THE TIED CARD OF 'turnstonelaw09.LagOwed'. -/
def lagOwedCard : Claim7 := { stood := { row := lagOwedRow, standIns := [], harness := (true, "353b6f4fa5caef1cfd90e52f6fb23beeef3b0fd1087b7bb9db3e232342ef8e9b"), looks := false }, kinds := [], alts := [], laidByText := true, laidKinds := [.data, .data, .data], laidTests := true, laidLooks := .later }
def LagOwedCardSaid : Prop := Claim7.holds Tryz.pinned (.plain (OpenSpec.ofChange lagOwedSpec)) lagOwedCard

/-- THE TIED CARD OF 'turnstonelaw09.LagBases'. -/
def lagBasesCard : Claim7 := { stood := { row := lagBasesRow, standIns := [], harness := (true, "353b6f4fa5caef1cfd90e52f6fb23beeef3b0fd1087b7bb9db3e232342ef8e9b"), looks := false }, kinds := [], alts := [], laidByText := true, laidKinds := [.data, .data, .data], laidTests := true, laidLooks := .later }
def LagBasesCardSaid : Prop := Claim7.holds Tryz.pinned (.plain (OpenSpec.ofChange lagBasesSpec)) lagBasesCard

/-- THE TIED CARD OF 'turnstonelaw09.LagMoves'. -/
def lagMovesCard : Claim7 := { stood := { row := lagMovesRow, standIns := [], harness := (true, "353b6f4fa5caef1cfd90e52f6fb23beeef3b0fd1087b7bb9db3e232342ef8e9b"), looks := false }, kinds := [], alts := [], laidByText := true, laidKinds := [.data, .data, .data], laidTests := true, laidLooks := .later }
def LagMovesCardSaid : Prop := Claim7.holds Tryz.pinned (.plain (OpenSpec.ofChange lagMovesSpec)) lagMovesCard

/-- THE TIED CARD OF 'turnstonelaw10.PlacePlays'. -/
def placePlaysCard : Claim7 := { stood := { row := placePlaysRow, standIns := [], harness := (true, "353b6f4fa5caef1cfd90e52f6fb23beeef3b0fd1087b7bb9db3e232342ef8e9b"), looks := false }, kinds := [], alts := [], laidByText := true, laidKinds := [.data, .data, .data], laidTests := true, laidLooks := .later }
def PlacePlaysCardSaid : Prop := Claim7.holds Tryz.pinned (.plain (OpenSpec.ofChange placePlaysSpec)) placePlaysCard

/-- THE TIED CARD OF 'turnstonelaw10.PlaceLags'. -/
def placeLagsCard : Claim7 := { stood := { row := placeLagsRow, standIns := [], harness := (true, "353b6f4fa5caef1cfd90e52f6fb23beeef3b0fd1087b7bb9db3e232342ef8e9b"), looks := false }, kinds := [], alts := [], laidByText := true, laidKinds := [.data, .data, .data], laidTests := true, laidLooks := .later }
def PlaceLagsCardSaid : Prop := Claim7.holds Tryz.pinned (.plain (OpenSpec.ofChange placeLagsSpec)) placeLagsCard

/-- THE TIED CARD OF 'turnstonelaw10.PlaceZero'. -/
def placeZeroCard : Claim7 := { stood := { row := placeZeroRow, standIns := [], harness := (true, "353b6f4fa5caef1cfd90e52f6fb23beeef3b0fd1087b7bb9db3e232342ef8e9b"), looks := false }, kinds := [], alts := [], laidByText := true, laidKinds := [.data, .data, .data], laidTests := true, laidLooks := .later }
def PlaceZeroCardSaid : Prop := Claim7.holds Tryz.pinned (.plain (OpenSpec.ofChange placeZeroSpec)) placeZeroCard

/-- THE TIED CARD OF 'turnstonelaw10.PlaceOrders'. -/
def placeOrdersCard : Claim7 := { stood := { row := placeOrdersRow, standIns := [], harness := (true, "353b6f4fa5caef1cfd90e52f6fb23beeef3b0fd1087b7bb9db3e232342ef8e9b"), looks := false }, kinds := [], alts := [], laidByText := true, laidKinds := [.data, .data, .data], laidTests := true, laidLooks := .later }
def PlaceOrdersCardSaid : Prop := Claim7.holds Tryz.pinned (.plain (OpenSpec.ofChange placeOrdersSpec)) placeOrdersCard

/-- THE SECOND FORM's CARD OF 'turnstonelaw08.MeanSums'. -/
def meanSumsUptoCard : Claim7 := { stood := { row := meanSumsUptoRow, standIns := [], harness := (true, "353b6f4fa5caef1cfd90e52f6fb23beeef3b0fd1087b7bb9db3e232342ef8e9b"), looks := false }, kinds := [], alts := [], laidByText := true, laidKinds := [.data, .data, .data], laidTests := true, laidLooks := .later }
def MeanSumsUptoCardSaid : Prop := Claim7.holds Tryz.pinned (.plain (OpenSpec.upto meanSumsSpec)) meanSumsUptoCard

/-- THE SECOND FORM's CARD OF 'turnstonelaw08.MeanBetween'. -/
def meanBetweenUptoCard : Claim7 := { stood := { row := meanBetweenUptoRow, standIns := [], harness := (true, "353b6f4fa5caef1cfd90e52f6fb23beeef3b0fd1087b7bb9db3e232342ef8e9b"), looks := false }, kinds := [], alts := [], laidByText := true, laidKinds := [.data, .data, .data], laidTests := true, laidLooks := .later }
def MeanBetweenUptoCardSaid : Prop := Claim7.holds Tryz.pinned (.plain (OpenSpec.upto meanBetweenSpec)) meanBetweenUptoCard

/-- THE SECOND FORM's CARD OF 'turnstonelaw08.MeanShifts'. -/
def meanShiftsUptoCard : Claim7 := { stood := { row := meanShiftsUptoRow, standIns := [], harness := (true, "353b6f4fa5caef1cfd90e52f6fb23beeef3b0fd1087b7bb9db3e232342ef8e9b"), looks := false }, kinds := [], alts := [], laidByText := true, laidKinds := [.data, .data, .data], laidTests := true, laidLooks := .later }
def MeanShiftsUptoCardSaid : Prop := Claim7.holds Tryz.pinned (.plain (OpenSpec.upto meanShiftsSpec)) meanShiftsUptoCard

/-- THE SECOND FORM's CARD OF 'turnstonelaw09.LagReads'. -/
def lagReadsUptoCard : Claim7 := { stood := { row := lagReadsUptoRow, standIns := [], harness := (true, "353b6f4fa5caef1cfd90e52f6fb23beeef3b0fd1087b7bb9db3e232342ef8e9b"), looks := false }, kinds := [], alts := [], laidByText := true, laidKinds := [.data, .data, .data], laidTests := true, laidLooks := .later }
def LagReadsUptoCardSaid : Prop := Claim7.holds Tryz.pinned (.plain (OpenSpec.upto lagReadsSpec)) lagReadsUptoCard

/-- THE SECOND FORM's CARD OF 'turnstonelaw09.LagNanos'. -/
def lagNanosUptoCard : Claim7 := { stood := { row := lagNanosUptoRow, standIns := [], harness := (true, "353b6f4fa5caef1cfd90e52f6fb23beeef3b0fd1087b7bb9db3e232342ef8e9b"), looks := false }, kinds := [], alts := [], laidByText := true, laidKinds := [.data, .data, .data], laidTests := true, laidLooks := .later }
def LagNanosUptoCardSaid : Prop := Claim7.holds Tryz.pinned (.plain (OpenSpec.upto lagNanosSpec)) lagNanosUptoCard

/-- THE SECOND FORM's CARD OF 'turnstonelaw09.LagNought'. -/
def lagNoughtUptoCard : Claim7 := { stood := { row := lagNoughtUptoRow, standIns := [], harness := (true, "353b6f4fa5caef1cfd90e52f6fb23beeef3b0fd1087b7bb9db3e232342ef8e9b"), looks := false }, kinds := [], alts := [], laidByText := true, laidKinds := [.data, .data, .data], laidTests := true, laidLooks := .later }
def LagNoughtUptoCardSaid : Prop := Claim7.holds Tryz.pinned (.plain (OpenSpec.upto lagNoughtSpec)) lagNoughtUptoCard

/-- THE SECOND FORM's CARD OF 'turnstonelaw09.LagOwed'. -/
def lagOwedUptoCard : Claim7 := { stood := { row := lagOwedUptoRow, standIns := [], harness := (true, "353b6f4fa5caef1cfd90e52f6fb23beeef3b0fd1087b7bb9db3e232342ef8e9b"), looks := false }, kinds := [], alts := [], laidByText := true, laidKinds := [.data, .data, .data], laidTests := true, laidLooks := .later }
def LagOwedUptoCardSaid : Prop := Claim7.holds Tryz.pinned (.plain (OpenSpec.upto lagOwedSpec)) lagOwedUptoCard

/-- THE SECOND FORM's CARD OF 'turnstonelaw09.LagBases'. -/
def lagBasesUptoCard : Claim7 := { stood := { row := lagBasesUptoRow, standIns := [], harness := (true, "353b6f4fa5caef1cfd90e52f6fb23beeef3b0fd1087b7bb9db3e232342ef8e9b"), looks := false }, kinds := [], alts := [], laidByText := true, laidKinds := [.data, .data, .data], laidTests := true, laidLooks := .later }
def LagBasesUptoCardSaid : Prop := Claim7.holds Tryz.pinned (.plain (OpenSpec.upto lagBasesSpec)) lagBasesUptoCard

/-- THE SECOND FORM's CARD OF 'turnstonelaw09.LagMoves'. -/
def lagMovesUptoCard : Claim7 := { stood := { row := lagMovesUptoRow, standIns := [], harness := (true, "353b6f4fa5caef1cfd90e52f6fb23beeef3b0fd1087b7bb9db3e232342ef8e9b"), looks := false }, kinds := [], alts := [], laidByText := true, laidKinds := [.data, .data, .data], laidTests := true, laidLooks := .later }
def LagMovesUptoCardSaid : Prop := Claim7.holds Tryz.pinned (.plain (OpenSpec.upto lagMovesSpec)) lagMovesUptoCard

/-- THE SECOND FORM's CARD OF 'turnstonelaw10.PlacePlays'. -/
def placePlaysUptoCard : Claim7 := { stood := { row := placePlaysUptoRow, standIns := [], harness := (true, "353b6f4fa5caef1cfd90e52f6fb23beeef3b0fd1087b7bb9db3e232342ef8e9b"), looks := false }, kinds := [], alts := [], laidByText := true, laidKinds := [.data, .data, .data], laidTests := true, laidLooks := .later }
def PlacePlaysUptoCardSaid : Prop := Claim7.holds Tryz.pinned (.plain (OpenSpec.upto placePlaysSpec)) placePlaysUptoCard

/-- THE SECOND FORM's CARD OF 'turnstonelaw10.PlaceLags'. -/
def placeLagsUptoCard : Claim7 := { stood := { row := placeLagsUptoRow, standIns := [], harness := (true, "353b6f4fa5caef1cfd90e52f6fb23beeef3b0fd1087b7bb9db3e232342ef8e9b"), looks := false }, kinds := [], alts := [], laidByText := true, laidKinds := [.data, .data, .data], laidTests := true, laidLooks := .later }
def PlaceLagsUptoCardSaid : Prop := Claim7.holds Tryz.pinned (.plain (OpenSpec.upto placeLagsSpec)) placeLagsUptoCard

/-- THE SECOND FORM's CARD OF 'turnstonelaw10.PlaceZero'. -/
def placeZeroUptoCard : Claim7 := { stood := { row := placeZeroUptoRow, standIns := [], harness := (true, "353b6f4fa5caef1cfd90e52f6fb23beeef3b0fd1087b7bb9db3e232342ef8e9b"), looks := false }, kinds := [], alts := [], laidByText := true, laidKinds := [.data, .data, .data], laidTests := true, laidLooks := .later }
def PlaceZeroUptoCardSaid : Prop := Claim7.holds Tryz.pinned (.plain (OpenSpec.upto placeZeroSpec)) placeZeroUptoCard

/-- THE SECOND FORM's CARD OF 'turnstonelaw10.PlaceOrders'. -/
def placeOrdersUptoCard : Claim7 := { stood := { row := placeOrdersUptoRow, standIns := [], harness := (true, "353b6f4fa5caef1cfd90e52f6fb23beeef3b0fd1087b7bb9db3e232342ef8e9b"), looks := false }, kinds := [], alts := [], laidByText := true, laidKinds := [.data, .data, .data], laidTests := true, laidLooks := .later }
def PlaceOrdersUptoCardSaid : Prop := Claim7.holds Tryz.pinned (.plain (OpenSpec.upto placeOrdersSpec)) placeOrdersUptoCard
end Rows
end Go.Proofs.YtoioeginfhkjjaaGreatDoor

/-
  DERIVED. GIVEN WITH THE SEED: THE CARDS: each row of YthmilhhihcmdhaaGreatDoorRows.lean that lists a variable, with what it lists TIED to the program's text (the seventh form; the later family's looks); each row that meets fmt, with fmt's text TOLD by the authors' own Lean function (tested against real Go, not proved from fmt's source: count such statements apart). THE CARD IS WHAT COUNTS. Prove the row's statement (the work); the ties are given (YthmilhhihcmdhaaGreatDoorTie.lean); close each card by the builder's one call (the guide's Derived/Test/ToyasCard.lean, 'card_holds'). Laid BY PROGRAM, IN A SANDBOX (cutbox-door.mjs). By AI agents, Wed Nov 11 2026. No macro, syntax, notation, axiom, sorry.
-/
import Derived.Test.YthmilhhihcmdhaaGreatDoorRows
import GoSem.ClaimSeven
namespace Go.Proofs.YthmilhhihcmdhaaGreatDoor
namespace Rows

/-- THE TIED CARD OF 'turnstonelaw08.MeanSums'. -/
def meanSumsCard : Claim7 := { stood := { row := meanSumsRow, standIns := [], harness := (true, "45b5bbd4c4a7bbcfc06cba0b415ee7a4c9c057d175fb4d33ad8d7b9d9cbeb22a"), looks := false }, kinds := [], alts := [], laidByText := true, laidKinds := [.data, .data, .data], laidTests := true, laidLooks := .later }
def MeanSumsCardSaid : Prop := Claim7.holds Tryz.pinned (.plain (OpenSpec.ofChange meanSumsSpec)) meanSumsCard

/-- THE TIED CARD OF 'turnstonelaw09.LagReads'. -/
def lagReadsCard : Claim7 := { stood := { row := lagReadsRow, standIns := [], harness := (true, "45b5bbd4c4a7bbcfc06cba0b415ee7a4c9c057d175fb4d33ad8d7b9d9cbeb22a"), looks := false }, kinds := [], alts := [], laidByText := true, laidKinds := [.data, .data, .data], laidTests := true, laidLooks := .later }
def LagReadsCardSaid : Prop := Claim7.holds Tryz.pinned (.plain (OpenSpec.ofChange lagReadsSpec)) lagReadsCard

/-- THE TIED CARD OF 'turnstonelaw09.LagNought'. -/
def lagNoughtCard : Claim7 := { stood := { row := lagNoughtRow, standIns := [], harness := (true, "45b5bbd4c4a7bbcfc06cba0b415ee7a4c9c057d175fb4d33ad8d7b9d9cbeb22a"), looks := false }, kinds := [], alts := [], laidByText := true, laidKinds := [.data, .data, .data], laidTests := true, laidLooks := .later }
def LagNoughtCardSaid : Prop := Claim7.holds Tryz.pinned (.plain (OpenSpec.ofChange lagNoughtSpec)) lagNoughtCard

/-- THE TIED CARD OF 'turnstonelaw09.LagOwed'. -/
def lagOwedCard : Claim7 := { stood := { row := lagOwedRow, standIns := [], harness := (true, "45b5bbd4c4a7bbcfc06cba0b415ee7a4c9c057d175fb4d33ad8d7b9d9cbeb22a"), looks := false }, kinds := [], alts := [], laidByText := true, laidKinds := [.data, .data, .data], laidTests := true, laidLooks := .later }
def LagOwedCardSaid : Prop := Claim7.holds Tryz.pinned (.plain (OpenSpec.ofChange lagOwedSpec)) lagOwedCard

/-- THE TIED CARD OF 'turnstonelaw10.PlacePlays'. -/
def placePlaysCard : Claim7 := { stood := { row := placePlaysRow, standIns := [], harness := (true, "45b5bbd4c4a7bbcfc06cba0b415ee7a4c9c057d175fb4d33ad8d7b9d9cbeb22a"), looks := false }, kinds := [], alts := [], laidByText := true, laidKinds := [.data, .data, .data], laidTests := true, laidLooks := .later }
def PlacePlaysCardSaid : Prop := Claim7.holds Tryz.pinned (.plain (OpenSpec.ofChange placePlaysSpec)) placePlaysCard

/-- THE TIED CARD OF 'turnstonelaw11.WeighKeeps'. -/
def weighKeepsCard : Claim7 := { stood := { row := weighKeepsRow, standIns := [], harness := (true, "45b5bbd4c4a7bbcfc06cba0b415ee7a4c9c057d175fb4d33ad8d7b9d9cbeb22a"), looks := false }, kinds := [], alts := [], laidByText := true, laidKinds := [.data, .data, .data], laidTests := true, laidLooks := .later }
def WeighKeepsCardSaid : Prop := Claim7.holds Tryz.pinned (.plain (OpenSpec.ofChange weighKeepsSpec)) weighKeepsCard

/-- THE TIED CARD OF 'turnstonelaw11.WeighAlone'. -/
def weighAloneCard : Claim7 := { stood := { row := weighAloneRow, standIns := [], harness := (true, "45b5bbd4c4a7bbcfc06cba0b415ee7a4c9c057d175fb4d33ad8d7b9d9cbeb22a"), looks := false }, kinds := [], alts := [], laidByText := true, laidKinds := [.data, .data, .data], laidTests := true, laidLooks := .later }
def WeighAloneCardSaid : Prop := Claim7.holds Tryz.pinned (.plain (OpenSpec.ofChange weighAloneSpec)) weighAloneCard

/-- THE TIED CARD OF 'turnstonelaw11.WeighBack'. -/
def weighBackCard : Claim7 := { stood := { row := weighBackRow, standIns := [], harness := (true, "45b5bbd4c4a7bbcfc06cba0b415ee7a4c9c057d175fb4d33ad8d7b9d9cbeb22a"), looks := false }, kinds := [], alts := [], laidByText := true, laidKinds := [.data, .data, .data], laidTests := true, laidLooks := .later }
def WeighBackCardSaid : Prop := Claim7.holds Tryz.pinned (.plain (OpenSpec.ofChange weighBackSpec)) weighBackCard

/-- THE TIED CARD OF 'turnstonelaw12.ClampWindows'. -/
def clampWindowsCard : Claim7 := { stood := { row := clampWindowsRow, standIns := [], harness := (true, "45b5bbd4c4a7bbcfc06cba0b415ee7a4c9c057d175fb4d33ad8d7b9d9cbeb22a"), looks := false }, kinds := [], alts := [], laidByText := true, laidKinds := [.data, .data, .data], laidTests := true, laidLooks := .later }
def ClampWindowsCardSaid : Prop := Claim7.holds Tryz.pinned (.plain (OpenSpec.ofChange clampWindowsSpec)) clampWindowsCard

/-- THE TIED CARD OF 'turnstonelaw12.ClampCarries'. -/
def clampCarriesCard : Claim7 := { stood := { row := clampCarriesRow, standIns := [], harness := (true, "45b5bbd4c4a7bbcfc06cba0b415ee7a4c9c057d175fb4d33ad8d7b9d9cbeb22a"), looks := false }, kinds := [], alts := [], laidByText := true, laidKinds := [.data, .data, .data], laidTests := true, laidLooks := .later }
def ClampCarriesCardSaid : Prop := Claim7.holds Tryz.pinned (.plain (OpenSpec.ofChange clampCarriesSpec)) clampCarriesCard

/-- THE TIED CARD OF 'turnstonelaw12.ClampOrders'. -/
def clampOrdersCard : Claim7 := { stood := { row := clampOrdersRow, standIns := [], harness := (true, "45b5bbd4c4a7bbcfc06cba0b415ee7a4c9c057d175fb4d33ad8d7b9d9cbeb22a"), looks := false }, kinds := [], alts := [], laidByText := true, laidKinds := [.data, .data, .data], laidTests := true, laidLooks := .later }
def ClampOrdersCardSaid : Prop := Claim7.holds Tryz.pinned (.plain (OpenSpec.ofChange clampOrdersSpec)) clampOrdersCard

/-- THE TIED CARD OF 'turnstonelaw12.ClampGrows'. -/
def clampGrowsCard : Claim7 := { stood := { row := clampGrowsRow, standIns := [], harness := (true, "45b5bbd4c4a7bbcfc06cba0b415ee7a4c9c057d175fb4d33ad8d7b9d9cbeb22a"), looks := false }, kinds := [], alts := [], laidByText := true, laidKinds := [.data, .data, .data], laidTests := true, laidLooks := .later }
def ClampGrowsCardSaid : Prop := Claim7.holds Tryz.pinned (.plain (OpenSpec.ofChange clampGrowsSpec)) clampGrowsCard

/-- THE TIED CARD OF 'turnstonelaw12.ClampRises'. -/
def clampRisesCard : Claim7 := { stood := { row := clampRisesRow, standIns := [], harness := (true, "45b5bbd4c4a7bbcfc06cba0b415ee7a4c9c057d175fb4d33ad8d7b9d9cbeb22a"), looks := false }, kinds := [], alts := [], laidByText := true, laidKinds := [.data, .data, .data], laidTests := true, laidLooks := .later }
def ClampRisesCardSaid : Prop := Claim7.holds Tryz.pinned (.plain (OpenSpec.ofChange clampRisesSpec)) clampRisesCard

/-- THE SECOND FORM's CARD OF 'turnstonelaw08.MeanSums'. -/
def meanSumsUptoCard : Claim7 := { stood := { row := meanSumsUptoRow, standIns := [], harness := (true, "45b5bbd4c4a7bbcfc06cba0b415ee7a4c9c057d175fb4d33ad8d7b9d9cbeb22a"), looks := false }, kinds := [], alts := [], laidByText := true, laidKinds := [.data, .data, .data], laidTests := true, laidLooks := .later }
def MeanSumsUptoCardSaid : Prop := Claim7.holds Tryz.pinned (.plain (OpenSpec.upto meanSumsSpec)) meanSumsUptoCard

/-- THE SECOND FORM's CARD OF 'turnstonelaw09.LagReads'. -/
def lagReadsUptoCard : Claim7 := { stood := { row := lagReadsUptoRow, standIns := [], harness := (true, "45b5bbd4c4a7bbcfc06cba0b415ee7a4c9c057d175fb4d33ad8d7b9d9cbeb22a"), looks := false }, kinds := [], alts := [], laidByText := true, laidKinds := [.data, .data, .data], laidTests := true, laidLooks := .later }
def LagReadsUptoCardSaid : Prop := Claim7.holds Tryz.pinned (.plain (OpenSpec.upto lagReadsSpec)) lagReadsUptoCard

/-- THE SECOND FORM's CARD OF 'turnstonelaw09.LagNought'. -/
def lagNoughtUptoCard : Claim7 := { stood := { row := lagNoughtUptoRow, standIns := [], harness := (true, "45b5bbd4c4a7bbcfc06cba0b415ee7a4c9c057d175fb4d33ad8d7b9d9cbeb22a"), looks := false }, kinds := [], alts := [], laidByText := true, laidKinds := [.data, .data, .data], laidTests := true, laidLooks := .later }
def LagNoughtUptoCardSaid : Prop := Claim7.holds Tryz.pinned (.plain (OpenSpec.upto lagNoughtSpec)) lagNoughtUptoCard

/-- THE SECOND FORM's CARD OF 'turnstonelaw09.LagOwed'. -/
def lagOwedUptoCard : Claim7 := { stood := { row := lagOwedUptoRow, standIns := [], harness := (true, "45b5bbd4c4a7bbcfc06cba0b415ee7a4c9c057d175fb4d33ad8d7b9d9cbeb22a"), looks := false }, kinds := [], alts := [], laidByText := true, laidKinds := [.data, .data, .data], laidTests := true, laidLooks := .later }
def LagOwedUptoCardSaid : Prop := Claim7.holds Tryz.pinned (.plain (OpenSpec.upto lagOwedSpec)) lagOwedUptoCard

/-- THE SECOND FORM's CARD OF 'turnstonelaw10.PlacePlays'. -/
def placePlaysUptoCard : Claim7 := { stood := { row := placePlaysUptoRow, standIns := [], harness := (true, "45b5bbd4c4a7bbcfc06cba0b415ee7a4c9c057d175fb4d33ad8d7b9d9cbeb22a"), looks := false }, kinds := [], alts := [], laidByText := true, laidKinds := [.data, .data, .data], laidTests := true, laidLooks := .later }
def PlacePlaysUptoCardSaid : Prop := Claim7.holds Tryz.pinned (.plain (OpenSpec.upto placePlaysSpec)) placePlaysUptoCard

/-- THE SECOND FORM's CARD OF 'turnstonelaw11.WeighKeeps'. -/
def weighKeepsUptoCard : Claim7 := { stood := { row := weighKeepsUptoRow, standIns := [], harness := (true, "45b5bbd4c4a7bbcfc06cba0b415ee7a4c9c057d175fb4d33ad8d7b9d9cbeb22a"), looks := false }, kinds := [], alts := [], laidByText := true, laidKinds := [.data, .data, .data], laidTests := true, laidLooks := .later }
def WeighKeepsUptoCardSaid : Prop := Claim7.holds Tryz.pinned (.plain (OpenSpec.upto weighKeepsSpec)) weighKeepsUptoCard

/-- THE SECOND FORM's CARD OF 'turnstonelaw11.WeighAlone'. -/
def weighAloneUptoCard : Claim7 := { stood := { row := weighAloneUptoRow, standIns := [], harness := (true, "45b5bbd4c4a7bbcfc06cba0b415ee7a4c9c057d175fb4d33ad8d7b9d9cbeb22a"), looks := false }, kinds := [], alts := [], laidByText := true, laidKinds := [.data, .data, .data], laidTests := true, laidLooks := .later }
def WeighAloneUptoCardSaid : Prop := Claim7.holds Tryz.pinned (.plain (OpenSpec.upto weighAloneSpec)) weighAloneUptoCard

/-- THE SECOND FORM's CARD OF 'turnstonelaw11.WeighBack'. -/
def weighBackUptoCard : Claim7 := { stood := { row := weighBackUptoRow, standIns := [], harness := (true, "45b5bbd4c4a7bbcfc06cba0b415ee7a4c9c057d175fb4d33ad8d7b9d9cbeb22a"), looks := false }, kinds := [], alts := [], laidByText := true, laidKinds := [.data, .data, .data], laidTests := true, laidLooks := .later }
def WeighBackUptoCardSaid : Prop := Claim7.holds Tryz.pinned (.plain (OpenSpec.upto weighBackSpec)) weighBackUptoCard

/-- THE SECOND FORM's CARD OF 'turnstonelaw12.ClampWindows'. -/
def clampWindowsUptoCard : Claim7 := { stood := { row := clampWindowsUptoRow, standIns := [], harness := (true, "45b5bbd4c4a7bbcfc06cba0b415ee7a4c9c057d175fb4d33ad8d7b9d9cbeb22a"), looks := false }, kinds := [], alts := [], laidByText := true, laidKinds := [.data, .data, .data], laidTests := true, laidLooks := .later }
def ClampWindowsUptoCardSaid : Prop := Claim7.holds Tryz.pinned (.plain (OpenSpec.upto clampWindowsSpec)) clampWindowsUptoCard

/-- THE SECOND FORM's CARD OF 'turnstonelaw12.ClampCarries'. -/
def clampCarriesUptoCard : Claim7 := { stood := { row := clampCarriesUptoRow, standIns := [], harness := (true, "45b5bbd4c4a7bbcfc06cba0b415ee7a4c9c057d175fb4d33ad8d7b9d9cbeb22a"), looks := false }, kinds := [], alts := [], laidByText := true, laidKinds := [.data, .data, .data], laidTests := true, laidLooks := .later }
def ClampCarriesUptoCardSaid : Prop := Claim7.holds Tryz.pinned (.plain (OpenSpec.upto clampCarriesSpec)) clampCarriesUptoCard

/-- THE SECOND FORM's CARD OF 'turnstonelaw12.ClampOrders'. -/
def clampOrdersUptoCard : Claim7 := { stood := { row := clampOrdersUptoRow, standIns := [], harness := (true, "45b5bbd4c4a7bbcfc06cba0b415ee7a4c9c057d175fb4d33ad8d7b9d9cbeb22a"), looks := false }, kinds := [], alts := [], laidByText := true, laidKinds := [.data, .data, .data], laidTests := true, laidLooks := .later }
def ClampOrdersUptoCardSaid : Prop := Claim7.holds Tryz.pinned (.plain (OpenSpec.upto clampOrdersSpec)) clampOrdersUptoCard

/-- THE SECOND FORM's CARD OF 'turnstonelaw12.ClampGrows'. -/
def clampGrowsUptoCard : Claim7 := { stood := { row := clampGrowsUptoRow, standIns := [], harness := (true, "45b5bbd4c4a7bbcfc06cba0b415ee7a4c9c057d175fb4d33ad8d7b9d9cbeb22a"), looks := false }, kinds := [], alts := [], laidByText := true, laidKinds := [.data, .data, .data], laidTests := true, laidLooks := .later }
def ClampGrowsUptoCardSaid : Prop := Claim7.holds Tryz.pinned (.plain (OpenSpec.upto clampGrowsSpec)) clampGrowsUptoCard

/-- THE SECOND FORM's CARD OF 'turnstonelaw12.ClampRises'. -/
def clampRisesUptoCard : Claim7 := { stood := { row := clampRisesUptoRow, standIns := [], harness := (true, "45b5bbd4c4a7bbcfc06cba0b415ee7a4c9c057d175fb4d33ad8d7b9d9cbeb22a"), looks := false }, kinds := [], alts := [], laidByText := true, laidKinds := [.data, .data, .data], laidTests := true, laidLooks := .later }
def ClampRisesUptoCardSaid : Prop := Claim7.holds Tryz.pinned (.plain (OpenSpec.upto clampRisesSpec)) clampRisesUptoCard
end Rows
end Go.Proofs.YthmilhhihcmdhaaGreatDoor

/-
  DERIVED. GIVEN WITH THE SEED: THE CARDS: each row of YtjndmmcjobbcbaaGreatDoorRows.lean that lists a variable, with what it lists TIED to the program's text (the seventh form; the later family's looks); each row that meets fmt, with fmt's text TOLD by the authors' own Lean function (tested against real Go, not proved from fmt's source: count such statements apart). THE CARD IS WHAT COUNTS. Prove the row's statement (the work); the ties are given (YtjndmmcjobbcbaaGreatDoorTie.lean); close each card by the builder's one call (the guide's Derived/Test/ToyasCard.lean, 'card_holds'). Laid BY PROGRAM, IN A SANDBOX (cutbox-door.mjs). By AI agents, Wed Nov 11 2026. No macro, syntax, notation, axiom, sorry.
-/
import Derived.Test.YtjndmmcjobbcbaaGreatDoorRows
import GoSem.ClaimSeven
namespace Go.Proofs.YtjndmmcjobbcbaaGreatDoor
namespace Rows

/-- THE TIED CARD OF 'turnstonelaw14.QueueBack'. -/
def queueBackCard : Claim7 := { stood := { row := queueBackRow, standIns := [], harness := (true, "147c9db4bb71d23476cb46139a23ae01751a04b53b89d32ddbc301fd1c579e2e"), looks := true }, kinds := [], alts := [], laidByText := true, laidKinds := [.data, .data, .data], laidTests := true, laidLooks := .later }
def QueueBackCardSaid : Prop := Claim7.holds Tryz.pinned (.plain (OpenSpec.ofChange queueBackSpec)) queueBackCard

/-- THE TIED CARD OF 'turnstonelaw15.ReqMakes'. -/
def reqMakesCard : Claim7 := { stood := { row := reqMakesRow, standIns := [], harness := (true, "147c9db4bb71d23476cb46139a23ae01751a04b53b89d32ddbc301fd1c579e2e"), looks := true }, kinds := [], alts := [], laidByText := true, laidKinds := [.data, .data, .data], laidTests := true, laidLooks := .later }
def ReqMakesCardSaid : Prop := Claim7.holds Tryz.pinned (.plain (OpenSpec.ofChange reqMakesSpec)) reqMakesCard

/-- THE TIED CARD OF 'turnstonelaw15.ReqServes'. -/
def reqServesCard : Claim7 := { stood := { row := reqServesRow, standIns := [], harness := (true, "147c9db4bb71d23476cb46139a23ae01751a04b53b89d32ddbc301fd1c579e2e"), looks := true }, kinds := [], alts := [], laidByText := true, laidKinds := [.data, .data, .data], laidTests := true, laidLooks := .later }
def ReqServesCardSaid : Prop := Claim7.holds Tryz.pinned (.plain (OpenSpec.ofChange reqServesSpec)) reqServesCard

/-- THE TIED CARD OF 'turnstonelaw15.ReqDue'. -/
def reqDueCard : Claim7 := { stood := { row := reqDueRow, standIns := [], harness := (true, "147c9db4bb71d23476cb46139a23ae01751a04b53b89d32ddbc301fd1c579e2e"), looks := true }, kinds := [], alts := [], laidByText := true, laidKinds := [.data, .data, .data], laidTests := true, laidLooks := .later }
def ReqDueCardSaid : Prop := Claim7.holds Tryz.pinned (.plain (OpenSpec.ofChange reqDueSpec)) reqDueCard

/-- THE TIED CARD OF 'turnstonelaw15.ReqShifts'. -/
def reqShiftsCard : Claim7 := { stood := { row := reqShiftsRow, standIns := [], harness := (true, "147c9db4bb71d23476cb46139a23ae01751a04b53b89d32ddbc301fd1c579e2e"), looks := true }, kinds := [], alts := [], laidByText := true, laidKinds := [.data, .data, .data], laidTests := true, laidLooks := .later }
def ReqShiftsCardSaid : Prop := Claim7.holds Tryz.pinned (.plain (OpenSpec.ofChange reqShiftsSpec)) reqShiftsCard

/-- THE TIED CARD OF 'turnstonelaw15.ReqParts'. -/
def reqPartsCard : Claim7 := { stood := { row := reqPartsRow, standIns := [], harness := (true, "147c9db4bb71d23476cb46139a23ae01751a04b53b89d32ddbc301fd1c579e2e"), looks := true }, kinds := [], alts := [], laidByText := true, laidKinds := [.data, .data, .data], laidTests := true, laidLooks := .later }
def ReqPartsCardSaid : Prop := Claim7.holds Tryz.pinned (.plain (OpenSpec.ofChange reqPartsSpec)) reqPartsCard

/-- THE TIED CARD OF 'turnstonelaw15.ReqMoves'. -/
def reqMovesCard : Claim7 := { stood := { row := reqMovesRow, standIns := [], harness := (true, "147c9db4bb71d23476cb46139a23ae01751a04b53b89d32ddbc301fd1c579e2e"), looks := true }, kinds := [], alts := [], laidByText := true, laidKinds := [.data, .data, .data], laidTests := true, laidLooks := .later }
def ReqMovesCardSaid : Prop := Claim7.holds Tryz.pinned (.plain (OpenSpec.ofChange reqMovesSpec)) reqMovesCard

/-- THE TIED CARD OF 'turnstonelaw16.SetPlays'. -/
def setPlaysCard : Claim7 := { stood := { row := setPlaysRow, standIns := [], harness := (true, "147c9db4bb71d23476cb46139a23ae01751a04b53b89d32ddbc301fd1c579e2e"), looks := true }, kinds := [], alts := [], laidByText := true, laidKinds := [.data, .data, .data], laidTests := true, laidLooks := .later }
def SetPlaysCardSaid : Prop := Claim7.holds Tryz.pinned (.plain (OpenSpec.ofChange setPlaysSpec)) setPlaysCard

/-- THE TIED CARD OF 'turnstonelaw16.SetSleeps'. -/
def setSleepsCard : Claim7 := { stood := { row := setSleepsRow, standIns := [], harness := (true, "147c9db4bb71d23476cb46139a23ae01751a04b53b89d32ddbc301fd1c579e2e"), looks := true }, kinds := [], alts := [], laidByText := true, laidKinds := [.data, .data, .data], laidTests := true, laidLooks := .later }
def SetSleepsCardSaid : Prop := Claim7.holds Tryz.pinned (.plain (OpenSpec.ofChange setSleepsSpec)) setSleepsCard

/-- THE TIED CARD OF 'turnstonelaw16.SetNone'. -/
def setNoneCard : Claim7 := { stood := { row := setNoneRow, standIns := [], harness := (true, "147c9db4bb71d23476cb46139a23ae01751a04b53b89d32ddbc301fd1c579e2e"), looks := true }, kinds := [], alts := [], laidByText := true, laidKinds := [.data, .data, .data], laidTests := true, laidLooks := .later }
def SetNoneCardSaid : Prop := Claim7.holds Tryz.pinned (.plain (OpenSpec.ofChange setNoneSpec)) setNoneCard

/-- THE TIED CARD OF 'turnstonelaw16.SetShifts'. -/
def setShiftsCard : Claim7 := { stood := { row := setShiftsRow, standIns := [], harness := (true, "147c9db4bb71d23476cb46139a23ae01751a04b53b89d32ddbc301fd1c579e2e"), looks := true }, kinds := [], alts := [], laidByText := true, laidKinds := [.data, .data, .data], laidTests := true, laidLooks := .later }
def SetShiftsCardSaid : Prop := Claim7.holds Tryz.pinned (.plain (OpenSpec.ofChange setShiftsSpec)) setShiftsCard

/-- THE TIED CARD OF 'turnstonelaw16.SetBack'. -/
def setBackCard : Claim7 := { stood := { row := setBackRow, standIns := [], harness := (true, "147c9db4bb71d23476cb46139a23ae01751a04b53b89d32ddbc301fd1c579e2e"), looks := true }, kinds := [], alts := [], laidByText := true, laidKinds := [.data, .data, .data], laidTests := true, laidLooks := .later }
def SetBackCardSaid : Prop := Claim7.holds Tryz.pinned (.plain (OpenSpec.ofChange setBackSpec)) setBackCard

/-- THE SECOND FORM's CARD OF 'turnstonelaw14.QueueBack'. -/
def queueBackUptoCard : Claim7 := { stood := { row := queueBackUptoRow, standIns := [], harness := (true, "147c9db4bb71d23476cb46139a23ae01751a04b53b89d32ddbc301fd1c579e2e"), looks := true }, kinds := [], alts := [], laidByText := true, laidKinds := [.data, .data, .data], laidTests := true, laidLooks := .later }
def QueueBackUptoCardSaid : Prop := Claim7.holds Tryz.pinned (.plain (OpenSpec.upto queueBackSpec)) queueBackUptoCard

/-- THE SECOND FORM's CARD OF 'turnstonelaw15.ReqMakes'. -/
def reqMakesUptoCard : Claim7 := { stood := { row := reqMakesUptoRow, standIns := [], harness := (true, "147c9db4bb71d23476cb46139a23ae01751a04b53b89d32ddbc301fd1c579e2e"), looks := true }, kinds := [], alts := [], laidByText := true, laidKinds := [.data, .data, .data], laidTests := true, laidLooks := .later }
def ReqMakesUptoCardSaid : Prop := Claim7.holds Tryz.pinned (.plain (OpenSpec.upto reqMakesSpec)) reqMakesUptoCard

/-- THE SECOND FORM's CARD OF 'turnstonelaw15.ReqServes'. -/
def reqServesUptoCard : Claim7 := { stood := { row := reqServesUptoRow, standIns := [], harness := (true, "147c9db4bb71d23476cb46139a23ae01751a04b53b89d32ddbc301fd1c579e2e"), looks := true }, kinds := [], alts := [], laidByText := true, laidKinds := [.data, .data, .data], laidTests := true, laidLooks := .later }
def ReqServesUptoCardSaid : Prop := Claim7.holds Tryz.pinned (.plain (OpenSpec.upto reqServesSpec)) reqServesUptoCard

/-- THE SECOND FORM's CARD OF 'turnstonelaw15.ReqDue'. -/
def reqDueUptoCard : Claim7 := { stood := { row := reqDueUptoRow, standIns := [], harness := (true, "147c9db4bb71d23476cb46139a23ae01751a04b53b89d32ddbc301fd1c579e2e"), looks := true }, kinds := [], alts := [], laidByText := true, laidKinds := [.data, .data, .data], laidTests := true, laidLooks := .later }
def ReqDueUptoCardSaid : Prop := Claim7.holds Tryz.pinned (.plain (OpenSpec.upto reqDueSpec)) reqDueUptoCard

/-- THE SECOND FORM's CARD OF 'turnstonelaw15.ReqShifts'. -/
def reqShiftsUptoCard : Claim7 := { stood := { row := reqShiftsUptoRow, standIns := [], harness := (true, "147c9db4bb71d23476cb46139a23ae01751a04b53b89d32ddbc301fd1c579e2e"), looks := true }, kinds := [], alts := [], laidByText := true, laidKinds := [.data, .data, .data], laidTests := true, laidLooks := .later }
def ReqShiftsUptoCardSaid : Prop := Claim7.holds Tryz.pinned (.plain (OpenSpec.upto reqShiftsSpec)) reqShiftsUptoCard

/-- THE SECOND FORM's CARD OF 'turnstonelaw15.ReqParts'. -/
def reqPartsUptoCard : Claim7 := { stood := { row := reqPartsUptoRow, standIns := [], harness := (true, "147c9db4bb71d23476cb46139a23ae01751a04b53b89d32ddbc301fd1c579e2e"), looks := true }, kinds := [], alts := [], laidByText := true, laidKinds := [.data, .data, .data], laidTests := true, laidLooks := .later }
def ReqPartsUptoCardSaid : Prop := Claim7.holds Tryz.pinned (.plain (OpenSpec.upto reqPartsSpec)) reqPartsUptoCard

/-- THE SECOND FORM's CARD OF 'turnstonelaw15.ReqMoves'. -/
def reqMovesUptoCard : Claim7 := { stood := { row := reqMovesUptoRow, standIns := [], harness := (true, "147c9db4bb71d23476cb46139a23ae01751a04b53b89d32ddbc301fd1c579e2e"), looks := true }, kinds := [], alts := [], laidByText := true, laidKinds := [.data, .data, .data], laidTests := true, laidLooks := .later }
def ReqMovesUptoCardSaid : Prop := Claim7.holds Tryz.pinned (.plain (OpenSpec.upto reqMovesSpec)) reqMovesUptoCard

/-- THE SECOND FORM's CARD OF 'turnstonelaw16.SetPlays'. -/
def setPlaysUptoCard : Claim7 := { stood := { row := setPlaysUptoRow, standIns := [], harness := (true, "147c9db4bb71d23476cb46139a23ae01751a04b53b89d32ddbc301fd1c579e2e"), looks := true }, kinds := [], alts := [], laidByText := true, laidKinds := [.data, .data, .data], laidTests := true, laidLooks := .later }
def SetPlaysUptoCardSaid : Prop := Claim7.holds Tryz.pinned (.plain (OpenSpec.upto setPlaysSpec)) setPlaysUptoCard

/-- THE SECOND FORM's CARD OF 'turnstonelaw16.SetSleeps'. -/
def setSleepsUptoCard : Claim7 := { stood := { row := setSleepsUptoRow, standIns := [], harness := (true, "147c9db4bb71d23476cb46139a23ae01751a04b53b89d32ddbc301fd1c579e2e"), looks := true }, kinds := [], alts := [], laidByText := true, laidKinds := [.data, .data, .data], laidTests := true, laidLooks := .later }
def SetSleepsUptoCardSaid : Prop := Claim7.holds Tryz.pinned (.plain (OpenSpec.upto setSleepsSpec)) setSleepsUptoCard

/-- THE SECOND FORM's CARD OF 'turnstonelaw16.SetNone'. -/
def setNoneUptoCard : Claim7 := { stood := { row := setNoneUptoRow, standIns := [], harness := (true, "147c9db4bb71d23476cb46139a23ae01751a04b53b89d32ddbc301fd1c579e2e"), looks := true }, kinds := [], alts := [], laidByText := true, laidKinds := [.data, .data, .data], laidTests := true, laidLooks := .later }
def SetNoneUptoCardSaid : Prop := Claim7.holds Tryz.pinned (.plain (OpenSpec.upto setNoneSpec)) setNoneUptoCard

/-- THE SECOND FORM's CARD OF 'turnstonelaw16.SetShifts'. -/
def setShiftsUptoCard : Claim7 := { stood := { row := setShiftsUptoRow, standIns := [], harness := (true, "147c9db4bb71d23476cb46139a23ae01751a04b53b89d32ddbc301fd1c579e2e"), looks := true }, kinds := [], alts := [], laidByText := true, laidKinds := [.data, .data, .data], laidTests := true, laidLooks := .later }
def SetShiftsUptoCardSaid : Prop := Claim7.holds Tryz.pinned (.plain (OpenSpec.upto setShiftsSpec)) setShiftsUptoCard

/-- THE SECOND FORM's CARD OF 'turnstonelaw16.SetBack'. -/
def setBackUptoCard : Claim7 := { stood := { row := setBackUptoRow, standIns := [], harness := (true, "147c9db4bb71d23476cb46139a23ae01751a04b53b89d32ddbc301fd1c579e2e"), looks := true }, kinds := [], alts := [], laidByText := true, laidKinds := [.data, .data, .data], laidTests := true, laidLooks := .later }
def SetBackUptoCardSaid : Prop := Claim7.holds Tryz.pinned (.plain (OpenSpec.upto setBackSpec)) setBackUptoCard
end Rows
end Go.Proofs.YtjndmmcjobbcbaaGreatDoor

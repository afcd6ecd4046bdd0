/-
  DERIVED. GIVEN WITH THE SEED: THE CARDS: each row of YtegohmeapamoaaaGreatDoorRows.lean that lists a variable, with what it lists TIED to the program's text (the seventh form; the later family's looks); each row that meets fmt, with fmt's text TOLD by the authors' own Lean function (tested against real Go, not proved from fmt's source: count such statements apart). THE CARD IS WHAT COUNTS. Prove the row's statement (the work); the ties are given (YtegohmeapamoaaaGreatDoorTie.lean); close each card by the builder's one call (the guide's Derived/Test/ToyasCard.lean, 'card_holds'). Laid BY PROGRAM, IN A SANDBOX (cutbox-door.mjs). By AI agents, Wed Nov 11 2026. No macro, syntax, notation, axiom, sorry.
-/
import Derived.Test.YtegohmeapamoaaaGreatDoorRows
import GoSem.ClaimSeven
namespace Go.Proofs.YtegohmeapamoaaaGreatDoor
namespace Rows

/-- THE TIED CARD OF 'turnstonelaw19.LimitsAsk'. -/
def limitsAskCard : Claim7 := { stood := { row := limitsAskRow, standIns := [], harness := (true, "00bcd3033d7b29afb0300001f26bebc7b50cf499be1b51297b81195ef193771a"), looks := true }, kinds := [], alts := [], laidByText := true, laidKinds := [.data, .data, .data], laidTests := true, laidLooks := .later }
def LimitsAskCardSaid : Prop := Claim7.holds Tryz.pinned (.plain (OpenSpec.ofChange limitsAskSpec)) limitsAskCard

/-- THE TIED CARD OF 'turnstonelaw19.LimitsFirst'. -/
def limitsFirstCard : Claim7 := { stood := { row := limitsFirstRow, standIns := [], harness := (true, "00bcd3033d7b29afb0300001f26bebc7b50cf499be1b51297b81195ef193771a"), looks := true }, kinds := [], alts := [], laidByText := true, laidKinds := [.data, .data, .data], laidTests := true, laidLooks := .later }
def LimitsFirstCardSaid : Prop := Claim7.holds Tryz.pinned (.plain (OpenSpec.ofChange limitsFirstSpec)) limitsFirstCard

/-- THE TIED CARD OF 'turnstonelaw19.LimitsRise'. -/
def limitsRiseCard : Claim7 := { stood := { row := limitsRiseRow, standIns := [], harness := (true, "00bcd3033d7b29afb0300001f26bebc7b50cf499be1b51297b81195ef193771a"), looks := true }, kinds := [], alts := [], laidByText := true, laidKinds := [.data, .data, .data], laidTests := true, laidLooks := .later }
def LimitsRiseCardSaid : Prop := Claim7.holds Tryz.pinned (.plain (OpenSpec.ofChange limitsRiseSpec)) limitsRiseCard

/-- THE TIED CARD OF 'turnstonelaw19.LimitsKeep'. -/
def limitsKeepCard : Claim7 := { stood := { row := limitsKeepRow, standIns := [], harness := (true, "00bcd3033d7b29afb0300001f26bebc7b50cf499be1b51297b81195ef193771a"), looks := true }, kinds := [], alts := [], laidByText := true, laidKinds := [.data, .data, .data], laidTests := true, laidLooks := .later }
def LimitsKeepCardSaid : Prop := Claim7.holds Tryz.pinned (.plain (OpenSpec.ofChange limitsKeepSpec)) limitsKeepCard

/-- THE TIED CARD OF 'turnstonelaw20.TablePlays'. -/
def tablePlaysCard : Claim7 := { stood := { row := tablePlaysRow, standIns := [], harness := (true, "00bcd3033d7b29afb0300001f26bebc7b50cf499be1b51297b81195ef193771a"), looks := true }, kinds := [], alts := [], laidByText := true, laidKinds := [.data, .data, .data], laidTests := true, laidLooks := .later }
def TablePlaysCardSaid : Prop := Claim7.holds Tryz.pinned (.plain (OpenSpec.ofChange tablePlaysSpec)) tablePlaysCard

/-- THE TIED CARD OF 'turnstonelaw20.TableOnce'. -/
def tableOnceCard : Claim7 := { stood := { row := tableOnceRow, standIns := [], harness := (true, "00bcd3033d7b29afb0300001f26bebc7b50cf499be1b51297b81195ef193771a"), looks := true }, kinds := [], alts := [], laidByText := true, laidKinds := [.data, .data, .data], laidTests := true, laidLooks := .later }
def TableOnceCardSaid : Prop := Claim7.holds Tryz.pinned (.plain (OpenSpec.ofChange tableOnceSpec)) tableOnceCard

/-- THE TIED CARD OF 'turnstonelaw20.TableNone'. -/
def tableNoneCard : Claim7 := { stood := { row := tableNoneRow, standIns := [], harness := (true, "00bcd3033d7b29afb0300001f26bebc7b50cf499be1b51297b81195ef193771a"), looks := true }, kinds := [], alts := [], laidByText := true, laidKinds := [.data, .data, .data], laidTests := true, laidLooks := .later }
def TableNoneCardSaid : Prop := Claim7.holds Tryz.pinned (.plain (OpenSpec.ofChange tableNoneSpec)) tableNoneCard

/-- THE TIED CARD OF 'turnstonelaw20.TableLeast'. -/
def tableLeastCard : Claim7 := { stood := { row := tableLeastRow, standIns := [], harness := (true, "00bcd3033d7b29afb0300001f26bebc7b50cf499be1b51297b81195ef193771a"), looks := true }, kinds := [], alts := [], laidByText := true, laidKinds := [.data, .data, .data], laidTests := true, laidLooks := .later }
def TableLeastCardSaid : Prop := Claim7.holds Tryz.pinned (.plain (OpenSpec.ofChange tableLeastSpec)) tableLeastCard

/-- THE TIED CARD OF 'turnstonelaw20.TableSets'. -/
def tableSetsCard : Claim7 := { stood := { row := tableSetsRow, standIns := [], harness := (true, "00bcd3033d7b29afb0300001f26bebc7b50cf499be1b51297b81195ef193771a"), looks := true }, kinds := [], alts := [], laidByText := true, laidKinds := [.data, .data, .data], laidTests := true, laidLooks := .later }
def TableSetsCardSaid : Prop := Claim7.holds Tryz.pinned (.plain (OpenSpec.ofChange tableSetsSpec)) tableSetsCard

/-- THE TIED CARD OF 'turnstonelaw16.SetNone'. -/
def setNoneCard : Claim7 := { stood := { row := setNoneRow, standIns := [], harness := (true, "00bcd3033d7b29afb0300001f26bebc7b50cf499be1b51297b81195ef193771a"), looks := true }, kinds := [], alts := [], laidByText := true, laidKinds := [.data, .data, .data], laidTests := true, laidLooks := .later }
def SetNoneCardSaid : Prop := Claim7.holds Tryz.pinned (.plain (OpenSpec.ofChange setNoneSpec)) setNoneCard

/-- THE TIED CARD OF 'turnstonelaw17.SettleNone'. -/
def settleNoneCard : Claim7 := { stood := { row := settleNoneRow, standIns := [], harness := (true, "00bcd3033d7b29afb0300001f26bebc7b50cf499be1b51297b81195ef193771a"), looks := true }, kinds := [], alts := [], laidByText := true, laidKinds := [.data, .data, .data], laidTests := true, laidLooks := .later }
def SettleNoneCardSaid : Prop := Claim7.holds Tryz.pinned (.plain (OpenSpec.ofChange settleNoneSpec)) settleNoneCard

/-- THE TIED CARD OF 'turnstonelaw18.CoreNone'. -/
def coreNoneCard : Claim7 := { stood := { row := coreNoneRow, standIns := [], harness := (true, "00bcd3033d7b29afb0300001f26bebc7b50cf499be1b51297b81195ef193771a"), looks := true }, kinds := [], alts := [], laidByText := true, laidKinds := [.data, .data, .data], laidTests := true, laidLooks := .later }
def CoreNoneCardSaid : Prop := Claim7.holds Tryz.pinned (.plain (OpenSpec.ofChange coreNoneSpec)) coreNoneCard

/-- THE SECOND FORM's CARD OF 'turnstonelaw19.LimitsAsk'. -/
def limitsAskUptoCard : Claim7 := { stood := { row := limitsAskUptoRow, standIns := [], harness := (true, "00bcd3033d7b29afb0300001f26bebc7b50cf499be1b51297b81195ef193771a"), looks := true }, kinds := [], alts := [], laidByText := true, laidKinds := [.data, .data, .data], laidTests := true, laidLooks := .later }
def LimitsAskUptoCardSaid : Prop := Claim7.holds Tryz.pinned (.plain (OpenSpec.upto limitsAskSpec)) limitsAskUptoCard

/-- THE SECOND FORM's CARD OF 'turnstonelaw19.LimitsFirst'. -/
def limitsFirstUptoCard : Claim7 := { stood := { row := limitsFirstUptoRow, standIns := [], harness := (true, "00bcd3033d7b29afb0300001f26bebc7b50cf499be1b51297b81195ef193771a"), looks := true }, kinds := [], alts := [], laidByText := true, laidKinds := [.data, .data, .data], laidTests := true, laidLooks := .later }
def LimitsFirstUptoCardSaid : Prop := Claim7.holds Tryz.pinned (.plain (OpenSpec.upto limitsFirstSpec)) limitsFirstUptoCard

/-- THE SECOND FORM's CARD OF 'turnstonelaw19.LimitsRise'. -/
def limitsRiseUptoCard : Claim7 := { stood := { row := limitsRiseUptoRow, standIns := [], harness := (true, "00bcd3033d7b29afb0300001f26bebc7b50cf499be1b51297b81195ef193771a"), looks := true }, kinds := [], alts := [], laidByText := true, laidKinds := [.data, .data, .data], laidTests := true, laidLooks := .later }
def LimitsRiseUptoCardSaid : Prop := Claim7.holds Tryz.pinned (.plain (OpenSpec.upto limitsRiseSpec)) limitsRiseUptoCard

/-- THE SECOND FORM's CARD OF 'turnstonelaw19.LimitsKeep'. -/
def limitsKeepUptoCard : Claim7 := { stood := { row := limitsKeepUptoRow, standIns := [], harness := (true, "00bcd3033d7b29afb0300001f26bebc7b50cf499be1b51297b81195ef193771a"), looks := true }, kinds := [], alts := [], laidByText := true, laidKinds := [.data, .data, .data], laidTests := true, laidLooks := .later }
def LimitsKeepUptoCardSaid : Prop := Claim7.holds Tryz.pinned (.plain (OpenSpec.upto limitsKeepSpec)) limitsKeepUptoCard

/-- THE SECOND FORM's CARD OF 'turnstonelaw20.TablePlays'. -/
def tablePlaysUptoCard : Claim7 := { stood := { row := tablePlaysUptoRow, standIns := [], harness := (true, "00bcd3033d7b29afb0300001f26bebc7b50cf499be1b51297b81195ef193771a"), looks := true }, kinds := [], alts := [], laidByText := true, laidKinds := [.data, .data, .data], laidTests := true, laidLooks := .later }
def TablePlaysUptoCardSaid : Prop := Claim7.holds Tryz.pinned (.plain (OpenSpec.upto tablePlaysSpec)) tablePlaysUptoCard

/-- THE SECOND FORM's CARD OF 'turnstonelaw20.TableOnce'. -/
def tableOnceUptoCard : Claim7 := { stood := { row := tableOnceUptoRow, standIns := [], harness := (true, "00bcd3033d7b29afb0300001f26bebc7b50cf499be1b51297b81195ef193771a"), looks := true }, kinds := [], alts := [], laidByText := true, laidKinds := [.data, .data, .data], laidTests := true, laidLooks := .later }
def TableOnceUptoCardSaid : Prop := Claim7.holds Tryz.pinned (.plain (OpenSpec.upto tableOnceSpec)) tableOnceUptoCard

/-- THE SECOND FORM's CARD OF 'turnstonelaw20.TableNone'. -/
def tableNoneUptoCard : Claim7 := { stood := { row := tableNoneUptoRow, standIns := [], harness := (true, "00bcd3033d7b29afb0300001f26bebc7b50cf499be1b51297b81195ef193771a"), looks := true }, kinds := [], alts := [], laidByText := true, laidKinds := [.data, .data, .data], laidTests := true, laidLooks := .later }
def TableNoneUptoCardSaid : Prop := Claim7.holds Tryz.pinned (.plain (OpenSpec.upto tableNoneSpec)) tableNoneUptoCard

/-- THE SECOND FORM's CARD OF 'turnstonelaw20.TableLeast'. -/
def tableLeastUptoCard : Claim7 := { stood := { row := tableLeastUptoRow, standIns := [], harness := (true, "00bcd3033d7b29afb0300001f26bebc7b50cf499be1b51297b81195ef193771a"), looks := true }, kinds := [], alts := [], laidByText := true, laidKinds := [.data, .data, .data], laidTests := true, laidLooks := .later }
def TableLeastUptoCardSaid : Prop := Claim7.holds Tryz.pinned (.plain (OpenSpec.upto tableLeastSpec)) tableLeastUptoCard

/-- THE SECOND FORM's CARD OF 'turnstonelaw20.TableSets'. -/
def tableSetsUptoCard : Claim7 := { stood := { row := tableSetsUptoRow, standIns := [], harness := (true, "00bcd3033d7b29afb0300001f26bebc7b50cf499be1b51297b81195ef193771a"), looks := true }, kinds := [], alts := [], laidByText := true, laidKinds := [.data, .data, .data], laidTests := true, laidLooks := .later }
def TableSetsUptoCardSaid : Prop := Claim7.holds Tryz.pinned (.plain (OpenSpec.upto tableSetsSpec)) tableSetsUptoCard

/-- THE SECOND FORM's CARD OF 'turnstonelaw16.SetNone'. -/
def setNoneUptoCard : Claim7 := { stood := { row := setNoneUptoRow, standIns := [], harness := (true, "00bcd3033d7b29afb0300001f26bebc7b50cf499be1b51297b81195ef193771a"), looks := true }, kinds := [], alts := [], laidByText := true, laidKinds := [.data, .data, .data], laidTests := true, laidLooks := .later }
def SetNoneUptoCardSaid : Prop := Claim7.holds Tryz.pinned (.plain (OpenSpec.upto setNoneSpec)) setNoneUptoCard

/-- THE SECOND FORM's CARD OF 'turnstonelaw17.SettleNone'. -/
def settleNoneUptoCard : Claim7 := { stood := { row := settleNoneUptoRow, standIns := [], harness := (true, "00bcd3033d7b29afb0300001f26bebc7b50cf499be1b51297b81195ef193771a"), looks := true }, kinds := [], alts := [], laidByText := true, laidKinds := [.data, .data, .data], laidTests := true, laidLooks := .later }
def SettleNoneUptoCardSaid : Prop := Claim7.holds Tryz.pinned (.plain (OpenSpec.upto settleNoneSpec)) settleNoneUptoCard

/-- THE SECOND FORM's CARD OF 'turnstonelaw18.CoreNone'. -/
def coreNoneUptoCard : Claim7 := { stood := { row := coreNoneUptoRow, standIns := [], harness := (true, "00bcd3033d7b29afb0300001f26bebc7b50cf499be1b51297b81195ef193771a"), looks := true }, kinds := [], alts := [], laidByText := true, laidKinds := [.data, .data, .data], laidTests := true, laidLooks := .later }
def CoreNoneUptoCardSaid : Prop := Claim7.holds Tryz.pinned (.plain (OpenSpec.upto coreNoneSpec)) coreNoneUptoCard
end Rows
end Go.Proofs.YtegohmeapamoaaaGreatDoor

/-
  DERIVED. GIVEN WITH THE SEED: THE CARDS: each row of YtjchnkmolhgpmaaGreatDoorRows.lean that lists a variable, with what it lists TIED to the program's text (the seventh form; the later family's looks); each row that meets fmt, with fmt's text TOLD by the authors' own Lean function (tested against real Go, not proved from fmt's source: count such statements apart). THE CARD IS WHAT COUNTS. Prove the row's statement (the work); the ties are given (YtjchnkmolhgpmaaGreatDoorTie.lean); close each card by the builder's one call (the guide's Derived/Test/ToyasCard.lean, 'card_holds'). Laid BY PROGRAM, IN A SANDBOX (cutbox-door.mjs). By AI agents, Wed Nov 11 2026. No macro, syntax, notation, axiom, sorry.
-/
import Derived.Test.YtjchnkmolhgpmaaGreatDoorRows
import GoSem.ClaimSeven
namespace Go.Proofs.YtjchnkmolhgpmaaGreatDoor
namespace Rows

/-- THE TIED CARD OF 'turnstonelaw17.SettlePlays'. -/
def settlePlaysCard : Claim7 := { stood := { row := settlePlaysRow, standIns := [], harness := (true, "26f2afac22416c2b58b8564953aa29783ceb9d35d7edf00eb1067d28a8acc69e"), looks := true }, kinds := [], alts := [], laidByText := true, laidKinds := [.data, .data, .data], laidTests := true, laidLooks := .later }
def SettlePlaysCardSaid : Prop := Claim7.holds Tryz.pinned (.plain (OpenSpec.ofChange settlePlaysSpec)) settlePlaysCard

/-- THE TIED CARD OF 'turnstonelaw17.SettleRuns'. -/
def settleRunsCard : Claim7 := { stood := { row := settleRunsRow, standIns := [], harness := (true, "26f2afac22416c2b58b8564953aa29783ceb9d35d7edf00eb1067d28a8acc69e"), looks := true }, kinds := [], alts := [], laidByText := true, laidKinds := [.data, .data, .data], laidTests := true, laidLooks := .later }
def SettleRunsCardSaid : Prop := Claim7.holds Tryz.pinned (.plain (OpenSpec.ofChange settleRunsSpec)) settleRunsCard

/-- THE TIED CARD OF 'turnstonelaw17.SettleShifts'. -/
def settleShiftsCard : Claim7 := { stood := { row := settleShiftsRow, standIns := [], harness := (true, "26f2afac22416c2b58b8564953aa29783ceb9d35d7edf00eb1067d28a8acc69e"), looks := true }, kinds := [], alts := [], laidByText := true, laidKinds := [.data, .data, .data], laidTests := true, laidLooks := .later }
def SettleShiftsCardSaid : Prop := Claim7.holds Tryz.pinned (.plain (OpenSpec.ofChange settleShiftsSpec)) settleShiftsCard

/-- THE SECOND FORM's CARD OF 'turnstonelaw17.SettlePlays'. -/
def settlePlaysUptoCard : Claim7 := { stood := { row := settlePlaysUptoRow, standIns := [], harness := (true, "26f2afac22416c2b58b8564953aa29783ceb9d35d7edf00eb1067d28a8acc69e"), looks := true }, kinds := [], alts := [], laidByText := true, laidKinds := [.data, .data, .data], laidTests := true, laidLooks := .later }
def SettlePlaysUptoCardSaid : Prop := Claim7.holds Tryz.pinned (.plain (OpenSpec.upto settlePlaysSpec)) settlePlaysUptoCard

/-- THE SECOND FORM's CARD OF 'turnstonelaw17.SettleRuns'. -/
def settleRunsUptoCard : Claim7 := { stood := { row := settleRunsUptoRow, standIns := [], harness := (true, "26f2afac22416c2b58b8564953aa29783ceb9d35d7edf00eb1067d28a8acc69e"), looks := true }, kinds := [], alts := [], laidByText := true, laidKinds := [.data, .data, .data], laidTests := true, laidLooks := .later }
def SettleRunsUptoCardSaid : Prop := Claim7.holds Tryz.pinned (.plain (OpenSpec.upto settleRunsSpec)) settleRunsUptoCard

/-- THE SECOND FORM's CARD OF 'turnstonelaw17.SettleShifts'. -/
def settleShiftsUptoCard : Claim7 := { stood := { row := settleShiftsUptoRow, standIns := [], harness := (true, "26f2afac22416c2b58b8564953aa29783ceb9d35d7edf00eb1067d28a8acc69e"), looks := true }, kinds := [], alts := [], laidByText := true, laidKinds := [.data, .data, .data], laidTests := true, laidLooks := .later }
def SettleShiftsUptoCardSaid : Prop := Claim7.holds Tryz.pinned (.plain (OpenSpec.upto settleShiftsSpec)) settleShiftsUptoCard
end Rows
end Go.Proofs.YtjchnkmolhgpmaaGreatDoor

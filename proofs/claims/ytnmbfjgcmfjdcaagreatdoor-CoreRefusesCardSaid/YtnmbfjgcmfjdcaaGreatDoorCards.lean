/-
  DERIVED. GIVEN WITH THE SEED: THE CARDS: each row of YtnmbfjgcmfjdcaaGreatDoorRows.lean that lists a variable, with what it lists TIED to the program's text (the seventh form; the later family's looks); each row that meets fmt, with fmt's text TOLD by the authors' own Lean function (tested against real Go, not proved from fmt's source: count such statements apart). THE CARD IS WHAT COUNTS. Prove the row's statement (the work); the ties are given (YtnmbfjgcmfjdcaaGreatDoorTie.lean); close each card by the builder's one call (the guide's Derived/Test/ToyasCard.lean, 'card_holds'). Laid BY PROGRAM, IN A SANDBOX (cutbox-door.mjs). By AI agents, Wed Nov 11 2026. No macro, syntax, notation, axiom, sorry.
-/
import Derived.Test.YtnmbfjgcmfjdcaaGreatDoorRows
import GoSem.ClaimSeven
namespace Go.Proofs.YtnmbfjgcmfjdcaaGreatDoor
namespace Rows

/-- THE TIED CARD OF 'turnstonelaw18.CoreRefuses'. -/
def coreRefusesCard : Claim7 := { stood := { row := coreRefusesRow, standIns := [], harness := (true, "3f85d25dafd34ed47327715aaad717fa489a12b5e9f545adaa714e1b10c0b667"), looks := true }, kinds := [], alts := [], laidByText := true, laidKinds := [.data, .data, .data], laidTests := true, laidLooks := .later }
def CoreRefusesCardSaid : Prop := Claim7.holds Tryz.pinned (.plain (OpenSpec.ofChange coreRefusesSpec)) coreRefusesCard

/-- THE SECOND FORM's CARD OF 'turnstonelaw18.CoreRefuses'. -/
def coreRefusesUptoCard : Claim7 := { stood := { row := coreRefusesUptoRow, standIns := [], harness := (true, "3f85d25dafd34ed47327715aaad717fa489a12b5e9f545adaa714e1b10c0b667"), looks := true }, kinds := [], alts := [], laidByText := true, laidKinds := [.data, .data, .data], laidTests := true, laidLooks := .later }
def CoreRefusesUptoCardSaid : Prop := Claim7.holds Tryz.pinned (.plain (OpenSpec.upto coreRefusesSpec)) coreRefusesUptoCard
end Rows
end Go.Proofs.YtnmbfjgcmfjdcaaGreatDoor

/-
  DERIVED. GIVEN WITH THE SEED: THE CARDS: each row of YtlkhkhdacgeicaaGreatDoorRows.lean that lists a variable, with what it lists TIED to the program's text (the seventh form; the later family's looks); each row that meets fmt, with fmt's text TOLD by the authors' own Lean function (tested against real Go, not proved from fmt's source: count such statements apart). THE CARD IS WHAT COUNTS. Prove the row's statement (the work); the ties are given (YtlkhkhdacgeicaaGreatDoorTie.lean); close each card by the builder's one call (the guide's Derived/Test/ToyasCard.lean, 'card_holds'). Laid BY PROGRAM, IN A SANDBOX (cutbox-door.mjs). By AI agents, Wed Nov 11 2026. No macro, syntax, notation, axiom, sorry.
-/
import Derived.Test.YtlkhkhdacgeicaaGreatDoorRows
import GoSem.ClaimSeven
namespace Go.Proofs.YtlkhkhdacgeicaaGreatDoor
namespace Rows

/-- THE TIED CARD OF 'turnstonelaw21.SchedNone'. -/
def schedNoneCard : Claim7 := { stood := { row := schedNoneRow, standIns := [], harness := (true, "7f0914aa97cad0cd8ce4be50c938f8c9b29c34f378747d1dca68a288d3ab061a"), looks := true }, kinds := [], alts := [], laidByText := true, laidKinds := [.data, .data, .data], laidTests := true, laidLooks := .later }
def SchedNoneCardSaid : Prop := Claim7.holds Tryz.pinned (.plain (OpenSpec.ofChange schedNoneSpec)) schedNoneCard

/-- THE TIED CARD OF 'turnstonelaw22.AccountNone'. -/
def accountNoneCard : Claim7 := { stood := { row := accountNoneRow, standIns := [], harness := (true, "7f0914aa97cad0cd8ce4be50c938f8c9b29c34f378747d1dca68a288d3ab061a"), looks := true }, kinds := [], alts := [], laidByText := true, laidKinds := [.data, .data, .data], laidTests := true, laidLooks := .later }
def AccountNoneCardSaid : Prop := Claim7.holds Tryz.pinned (.plain (OpenSpec.ofChange accountNoneSpec)) accountNoneCard

/-- THE SECOND FORM's CARD OF 'turnstonelaw21.SchedNone'. -/
def schedNoneUptoCard : Claim7 := { stood := { row := schedNoneUptoRow, standIns := [], harness := (true, "7f0914aa97cad0cd8ce4be50c938f8c9b29c34f378747d1dca68a288d3ab061a"), looks := true }, kinds := [], alts := [], laidByText := true, laidKinds := [.data, .data, .data], laidTests := true, laidLooks := .later }
def SchedNoneUptoCardSaid : Prop := Claim7.holds Tryz.pinned (.plain (OpenSpec.upto schedNoneSpec)) schedNoneUptoCard

/-- THE SECOND FORM's CARD OF 'turnstonelaw22.AccountNone'. -/
def accountNoneUptoCard : Claim7 := { stood := { row := accountNoneUptoRow, standIns := [], harness := (true, "7f0914aa97cad0cd8ce4be50c938f8c9b29c34f378747d1dca68a288d3ab061a"), looks := true }, kinds := [], alts := [], laidByText := true, laidKinds := [.data, .data, .data], laidTests := true, laidLooks := .later }
def AccountNoneUptoCardSaid : Prop := Claim7.holds Tryz.pinned (.plain (OpenSpec.upto accountNoneSpec)) accountNoneUptoCard
end Rows
end Go.Proofs.YtlkhkhdacgeicaaGreatDoor

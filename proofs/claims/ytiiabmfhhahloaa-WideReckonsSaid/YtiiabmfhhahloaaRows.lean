/-
  No cell of these rows narrows 'for every input' (looked for: loops, veiled, ifaces, maps, wideKeys, modest, calm, conditions, laid).
  DERIVED. THE GIVEN ROWS OF THIS SEAT. 10 by the template 'for every input the law returns true; each argument reads behind the call as it read before'; 0 by the template 'total and deterministic' (their statements: YtiiabmfhhahloaaTotals.lean).
  GIVEN WITH THE SEED: the statements are not yours to turn. If you find one false, say at which input.
  Laid BY PROGRAM, IN A SANDBOX (cutbox-rows.mjs): the forced cells as the released guide's own fill.sh prints them over the translation d4397d798b503cb5… (all of the seat's roots in one cut). By AI agents, Wed Nov 11 2026. No macro, syntax, notation, axiom, sorry.
-/
import Derived.Test.YtiiabmfhhahloaaChecked
import GoSem.Claim
import GoSem.ClaimJoined
import GoSem.ClaimMapViews
import Derived.JoinedTies
import Derived.KernelRfl
namespace Go.Proofs.Ytiiabmfhhahloaa
/- THE CELL 'sum', in the pinned program and in every row, IS THE sha256 OF THE DUMP (.gsa) THAT YtiiabmfhhahloaaProg.lean LOADS. Nothing in Lean hashes anything: it is a label: what it is worth is what the hold of that sum in a sandbox is worth. -/
noncomputable def Try.pinned : Pinned := { name := "ytiiabmfhhahloaa", sum := "d4397d798b503cb559fd466c079ee7be66206851d1efd28da67afb2d2d77531e", checked := Try.checked }
namespace Rows
def none {H : Type} : Left H := { results := [], args := [] }

/-- 'turnstonelaw01.WideReckons': WHATEVER THE INPUT: true; the input reads as it did. -/
def wideReckonsSpec : ChangeSpec := { name := "wideReckons", fn := fun _ => fun
  | [d1, d2, d3] => { results := [.lit (.bool true)], args := [d1, d2, d3] }
  | _ => none }
def wideReckonsRow : OpenClaim := { program := "ytiiabmfhhahloaa", sum := "d4397d798b503cb559fd466c079ee7be66206851d1efd28da67afb2d2d77531e", func := "turnstone/turnstonelaw01.WideReckons", spec := "wideReckons", inPlace := ["math/bits.Sub64", "math/bits.Add64"], named := ["math/bits.divideError", "math/bits.overflowError"], apart := false }
def WideReckonsSaid : Prop := wideReckonsRow.holds Try.pinned (OpenSpec.ofChange wideReckonsSpec)

/-- ITS FALSE NEIGHBOUR: 'it returns false'. Refute it at one input. -/
def wideReckonsWrong : ChangeSpec := { name := "wideReckons", fn := fun _ => fun
  | [d1, d2, d3] => { results := [.lit (.bool false)], args := [d1, d2, d3] }
  | _ => none }
def WideReckonsWrongFalsely : Prop := wideReckonsRow.holds Try.pinned (OpenSpec.ofChange wideReckonsWrong)

/-- 'turnstonelaw01.WideDivides': WHATEVER THE INPUT: true; the input reads as it did. -/
def wideDividesSpec : ChangeSpec := { name := "wideDivides", fn := fun _ => fun
  | [d1, d2] => { results := [.lit (.bool true)], args := [d1, d2] }
  | _ => none }
def wideDividesRow : OpenClaim := { program := "ytiiabmfhhahloaa", sum := "d4397d798b503cb559fd466c079ee7be66206851d1efd28da67afb2d2d77531e", func := "turnstone/turnstonelaw01.WideDivides", spec := "wideDivides", inPlace := ["math/bits.Sub64", "math/bits.Add64"], named := ["math/bits.divideError", "math/bits.overflowError"], apart := false }
def WideDividesSaid : Prop := wideDividesRow.holds Try.pinned (OpenSpec.ofChange wideDividesSpec)

/-- ITS FALSE NEIGHBOUR: 'it returns false'. Refute it at one input. -/
def wideDividesWrong : ChangeSpec := { name := "wideDivides", fn := fun _ => fun
  | [d1, d2] => { results := [.lit (.bool false)], args := [d1, d2] }
  | _ => none }
def WideDividesWrongFalsely : Prop := wideDividesRow.holds Try.pinned (OpenSpec.ofChange wideDividesWrong)

/-- 'turnstonelaw01.WideSums': WHATEVER THE INPUT: true; the input reads as it did. -/
def wideSumsSpec : ChangeSpec := { name := "wideSums", fn := fun _ => fun
  | [d] => { results := [.lit (.bool true)], args := [d] }
  | _ => none }
def wideSumsRow : OpenClaim := { program := "ytiiabmfhhahloaa", sum := "d4397d798b503cb559fd466c079ee7be66206851d1efd28da67afb2d2d77531e", func := "turnstone/turnstonelaw01.WideSums", spec := "wideSums", inPlace := ["math/bits.Sub64", "math/bits.Add64"], named := ["math/bits.divideError", "math/bits.overflowError"], apart := false }
def WideSumsSaid : Prop := wideSumsRow.holds Try.pinned (OpenSpec.ofChange wideSumsSpec)

/-- ITS FALSE NEIGHBOUR: 'it returns false'. Refute it at one input. -/
def wideSumsWrong : ChangeSpec := { name := "wideSums", fn := fun _ => fun
  | [d] => { results := [.lit (.bool false)], args := [d] }
  | _ => none }
def WideSumsWrongFalsely : Prop := wideSumsRow.holds Try.pinned (OpenSpec.ofChange wideSumsWrong)

/-- 'turnstonelaw01.WideTurns': WHATEVER THE INPUT: true; the input reads as it did. -/
def wideTurnsSpec : ChangeSpec := { name := "wideTurns", fn := fun _ => fun
  | [d1, d2, d3, d4] => { results := [.lit (.bool true)], args := [d1, d2, d3, d4] }
  | _ => none }
def wideTurnsRow : OpenClaim := { program := "ytiiabmfhhahloaa", sum := "d4397d798b503cb559fd466c079ee7be66206851d1efd28da67afb2d2d77531e", func := "turnstone/turnstonelaw01.WideTurns", spec := "wideTurns", inPlace := ["math/bits.Sub64", "math/bits.Add64"], named := ["math/bits.divideError", "math/bits.overflowError"], apart := false }
def WideTurnsSaid : Prop := wideTurnsRow.holds Try.pinned (OpenSpec.ofChange wideTurnsSpec)

/-- ITS FALSE NEIGHBOUR: 'it returns false'. Refute it at one input. -/
def wideTurnsWrong : ChangeSpec := { name := "wideTurns", fn := fun _ => fun
  | [d1, d2, d3, d4] => { results := [.lit (.bool false)], args := [d1, d2, d3, d4] }
  | _ => none }
def WideTurnsWrongFalsely : Prop := wideTurnsRow.holds Try.pinned (OpenSpec.ofChange wideTurnsWrong)

/-- 'turnstonelaw01.WideOrders': WHATEVER THE INPUT: true; the input reads as it did. -/
def wideOrdersSpec : ChangeSpec := { name := "wideOrders", fn := fun _ => fun
  | [d1, d2, d3] => { results := [.lit (.bool true)], args := [d1, d2, d3] }
  | _ => none }
def wideOrdersRow : OpenClaim := { program := "ytiiabmfhhahloaa", sum := "d4397d798b503cb559fd466c079ee7be66206851d1efd28da67afb2d2d77531e", func := "turnstone/turnstonelaw01.WideOrders", spec := "wideOrders", inPlace := ["math/bits.Sub64", "math/bits.Add64"], named := ["math/bits.divideError", "math/bits.overflowError"], apart := false }
def WideOrdersSaid : Prop := wideOrdersRow.holds Try.pinned (OpenSpec.ofChange wideOrdersSpec)

/-- ITS FALSE NEIGHBOUR: 'it returns false'. Refute it at one input. -/
def wideOrdersWrong : ChangeSpec := { name := "wideOrders", fn := fun _ => fun
  | [d1, d2, d3] => { results := [.lit (.bool false)], args := [d1, d2, d3] }
  | _ => none }
def WideOrdersWrongFalsely : Prop := wideOrdersRow.holds Try.pinned (OpenSpec.ofChange wideOrdersWrong)

/-- 'turnstonelaw02.MuldivSteps': WHATEVER THE INPUT: true; the input reads as it did. -/
def muldivStepsSpec : ChangeSpec := { name := "muldivSteps", fn := fun _ => fun
  | [d1, d2, d3, d4] => { results := [.lit (.bool true)], args := [d1, d2, d3, d4] }
  | _ => none }
def muldivStepsRow : OpenClaim := { program := "ytiiabmfhhahloaa", sum := "d4397d798b503cb559fd466c079ee7be66206851d1efd28da67afb2d2d77531e", func := "turnstone/turnstonelaw02.MuldivSteps", spec := "muldivSteps", inPlace := ["math/bits.Add64", "math/bits.Sub64"], named := ["math/bits.divideError", "math/bits.overflowError"], apart := false }
def MuldivStepsSaid : Prop := muldivStepsRow.holds Try.pinned (OpenSpec.ofChange muldivStepsSpec)

/-- ITS FALSE NEIGHBOUR: 'it returns false'. Refute it at one input. -/
def muldivStepsWrong : ChangeSpec := { name := "muldivSteps", fn := fun _ => fun
  | [d1, d2, d3, d4] => { results := [.lit (.bool false)], args := [d1, d2, d3, d4] }
  | _ => none }
def MuldivStepsWrongFalsely : Prop := muldivStepsRow.holds Try.pinned (OpenSpec.ofChange muldivStepsWrong)

/-- 'turnstonelaw02.MuldivCarries': WHATEVER THE INPUT: true; the input reads as it did. -/
def muldivCarriesSpec : ChangeSpec := { name := "muldivCarries", fn := fun _ => fun
  | [d1, d2, d3, d4] => { results := [.lit (.bool true)], args := [d1, d2, d3, d4] }
  | _ => none }
def muldivCarriesRow : OpenClaim := { program := "ytiiabmfhhahloaa", sum := "d4397d798b503cb559fd466c079ee7be66206851d1efd28da67afb2d2d77531e", func := "turnstone/turnstonelaw02.MuldivCarries", spec := "muldivCarries", inPlace := ["math/bits.Add64", "math/bits.Sub64"], named := ["math/bits.divideError", "math/bits.overflowError"], apart := false }
def MuldivCarriesSaid : Prop := muldivCarriesRow.holds Try.pinned (OpenSpec.ofChange muldivCarriesSpec)

/-- ITS FALSE NEIGHBOUR: 'it returns false'. Refute it at one input. -/
def muldivCarriesWrong : ChangeSpec := { name := "muldivCarries", fn := fun _ => fun
  | [d1, d2, d3, d4] => { results := [.lit (.bool false)], args := [d1, d2, d3, d4] }
  | _ => none }
def MuldivCarriesWrongFalsely : Prop := muldivCarriesRow.holds Try.pinned (OpenSpec.ofChange muldivCarriesWrong)

/-- 'turnstonelaw02.MuldivFloors': WHATEVER THE INPUT: true; the input reads as it did. -/
def muldivFloorsSpec : ChangeSpec := { name := "muldivFloors", fn := fun _ => fun
  | [d1, d2, d3] => { results := [.lit (.bool true)], args := [d1, d2, d3] }
  | _ => none }
def muldivFloorsRow : OpenClaim := { program := "ytiiabmfhhahloaa", sum := "d4397d798b503cb559fd466c079ee7be66206851d1efd28da67afb2d2d77531e", func := "turnstone/turnstonelaw02.MuldivFloors", spec := "muldivFloors", inPlace := ["math/bits.Add64", "math/bits.Sub64"], named := ["math/bits.divideError", "math/bits.overflowError"], apart := false }
def MuldivFloorsSaid : Prop := muldivFloorsRow.holds Try.pinned (OpenSpec.ofChange muldivFloorsSpec)

/-- ITS FALSE NEIGHBOUR: 'it returns false'. Refute it at one input. -/
def muldivFloorsWrong : ChangeSpec := { name := "muldivFloors", fn := fun _ => fun
  | [d1, d2, d3] => { results := [.lit (.bool false)], args := [d1, d2, d3] }
  | _ => none }
def MuldivFloorsWrongFalsely : Prop := muldivFloorsRow.holds Try.pinned (OpenSpec.ofChange muldivFloorsWrong)

/-- 'turnstonelaw02.MuldivParts': WHATEVER THE INPUT: true; the input reads as it did. -/
def muldivPartsSpec : ChangeSpec := { name := "muldivParts", fn := fun _ => fun
  | [d1, d2, d3, d4, d5] => { results := [.lit (.bool true)], args := [d1, d2, d3, d4, d5] }
  | _ => none }
def muldivPartsRow : OpenClaim := { program := "ytiiabmfhhahloaa", sum := "d4397d798b503cb559fd466c079ee7be66206851d1efd28da67afb2d2d77531e", func := "turnstone/turnstonelaw02.MuldivParts", spec := "muldivParts", inPlace := ["math/bits.Add64", "math/bits.Sub64"], named := ["math/bits.divideError", "math/bits.overflowError"], apart := false }
def MuldivPartsSaid : Prop := muldivPartsRow.holds Try.pinned (OpenSpec.ofChange muldivPartsSpec)

/-- ITS FALSE NEIGHBOUR: 'it returns false'. Refute it at one input. -/
def muldivPartsWrong : ChangeSpec := { name := "muldivParts", fn := fun _ => fun
  | [d1, d2, d3, d4, d5] => { results := [.lit (.bool false)], args := [d1, d2, d3, d4, d5] }
  | _ => none }
def MuldivPartsWrongFalsely : Prop := muldivPartsRow.holds Try.pinned (OpenSpec.ofChange muldivPartsWrong)

/-- 'turnstonelaw02.MuldivGrows': WHATEVER THE INPUT: true; the input reads as it did. -/
def muldivGrowsSpec : ChangeSpec := { name := "muldivGrows", fn := fun _ => fun
  | [d1, d2, d3, d4, d5] => { results := [.lit (.bool true)], args := [d1, d2, d3, d4, d5] }
  | _ => none }
def muldivGrowsRow : OpenClaim := { program := "ytiiabmfhhahloaa", sum := "d4397d798b503cb559fd466c079ee7be66206851d1efd28da67afb2d2d77531e", func := "turnstone/turnstonelaw02.MuldivGrows", spec := "muldivGrows", inPlace := ["math/bits.Add64", "math/bits.Sub64"], named := ["math/bits.divideError", "math/bits.overflowError"], apart := false }
def MuldivGrowsSaid : Prop := muldivGrowsRow.holds Try.pinned (OpenSpec.ofChange muldivGrowsSpec)

/-- ITS FALSE NEIGHBOUR: 'it returns false'. Refute it at one input. -/
def muldivGrowsWrong : ChangeSpec := { name := "muldivGrows", fn := fun _ => fun
  | [d1, d2, d3, d4, d5] => { results := [.lit (.bool false)], args := [d1, d2, d3, d4, d5] }
  | _ => none }
def MuldivGrowsWrongFalsely : Prop := muldivGrowsRow.holds Try.pinned (OpenSpec.ofChange muldivGrowsWrong)

/- THE SECOND FORM. 'bulk': how many values and letters a reading holds, each counted each time it is reached (what is shared counts as often as it is met; a slice's spare places count too). A statement '..UptoSaid' is the law's where the arguments, and the package variables that the reading takes, are together of bulk at most 1048576: NARROWER than '..Said'. Prove '..Said' where nothing that the law and all that it calls make is longer than what came in: it says more and counts as full. Else prove '..UptoSaid'. A law counts once. -/
mutual
def uptoBulk {H : Type} : DataW H → Nat
  | .lit (.string bytes) => bytes.length + 1
  | .lit _ => 1
  | .nil => 1
  | .ptr d => uptoBulk d + 1
  | .slice elems spare => uptoBulkAll elems + uptoBulkAll spare + 1
  | .agg parts => uptoBulkAll parts + 1
  | .iface _ d => uptoBulk d + 1
  | .map entries => uptoBulkEntries entries + 1
  | .held _ => 1
def uptoBulkAll {H : Type} : List (DataW H) → Nat
  | [] => 0
  | d :: r => uptoBulk d + uptoBulkAll r
def uptoBulkEntries {H : Type} : List (Lit × DataW H) → Nat
  | [] => 0
  | x :: r => uptoBulkEntry x + uptoBulkEntries r
def uptoBulkEntry {H : Type} : Lit × DataW H → Nat
  | (.string bytes, d) => bytes.length + uptoBulk d + 1
  | (_, d) => uptoBulk d + 1
 end
def uptoSmall : (H : Type) → List (DataW H) → Bool := fun _ ds => decide (uptoBulkAll ds ≤ 1048576)
def OpenSpec.upto (s : _root_.Go.ChangeSpec) : _root_.Go.OpenSpec := { _root_.Go.OpenSpec.ofChange s with cond := some uptoSmall }

/-- 'turnstonelaw01.WideReckons', WHERE WHAT IT READS IS OF BULK AT MOST 1048576: true; the input reads as it did. -/
def wideReckonsUptoRow : OpenClaim := { program := "ytiiabmfhhahloaa", sum := "d4397d798b503cb559fd466c079ee7be66206851d1efd28da67afb2d2d77531e", func := "turnstone/turnstonelaw01.WideReckons", spec := "wideReckons", inPlace := ["math/bits.Sub64", "math/bits.Add64"], named := ["math/bits.divideError", "math/bits.overflowError"], apart := false, narrowed := true }
def WideReckonsUptoSaid : Prop := wideReckonsUptoRow.holds Try.pinned (OpenSpec.upto wideReckonsSpec)

/-- 'turnstonelaw01.WideDivides', WHERE WHAT IT READS IS OF BULK AT MOST 1048576: true; the input reads as it did. -/
def wideDividesUptoRow : OpenClaim := { program := "ytiiabmfhhahloaa", sum := "d4397d798b503cb559fd466c079ee7be66206851d1efd28da67afb2d2d77531e", func := "turnstone/turnstonelaw01.WideDivides", spec := "wideDivides", inPlace := ["math/bits.Sub64", "math/bits.Add64"], named := ["math/bits.divideError", "math/bits.overflowError"], apart := false, narrowed := true }
def WideDividesUptoSaid : Prop := wideDividesUptoRow.holds Try.pinned (OpenSpec.upto wideDividesSpec)

/-- 'turnstonelaw01.WideSums', WHERE WHAT IT READS IS OF BULK AT MOST 1048576: true; the input reads as it did. -/
def wideSumsUptoRow : OpenClaim := { program := "ytiiabmfhhahloaa", sum := "d4397d798b503cb559fd466c079ee7be66206851d1efd28da67afb2d2d77531e", func := "turnstone/turnstonelaw01.WideSums", spec := "wideSums", inPlace := ["math/bits.Sub64", "math/bits.Add64"], named := ["math/bits.divideError", "math/bits.overflowError"], apart := false, narrowed := true }
def WideSumsUptoSaid : Prop := wideSumsUptoRow.holds Try.pinned (OpenSpec.upto wideSumsSpec)

/-- 'turnstonelaw01.WideTurns', WHERE WHAT IT READS IS OF BULK AT MOST 1048576: true; the input reads as it did. -/
def wideTurnsUptoRow : OpenClaim := { program := "ytiiabmfhhahloaa", sum := "d4397d798b503cb559fd466c079ee7be66206851d1efd28da67afb2d2d77531e", func := "turnstone/turnstonelaw01.WideTurns", spec := "wideTurns", inPlace := ["math/bits.Sub64", "math/bits.Add64"], named := ["math/bits.divideError", "math/bits.overflowError"], apart := false, narrowed := true }
def WideTurnsUptoSaid : Prop := wideTurnsUptoRow.holds Try.pinned (OpenSpec.upto wideTurnsSpec)

/-- 'turnstonelaw01.WideOrders', WHERE WHAT IT READS IS OF BULK AT MOST 1048576: true; the input reads as it did. -/
def wideOrdersUptoRow : OpenClaim := { program := "ytiiabmfhhahloaa", sum := "d4397d798b503cb559fd466c079ee7be66206851d1efd28da67afb2d2d77531e", func := "turnstone/turnstonelaw01.WideOrders", spec := "wideOrders", inPlace := ["math/bits.Sub64", "math/bits.Add64"], named := ["math/bits.divideError", "math/bits.overflowError"], apart := false, narrowed := true }
def WideOrdersUptoSaid : Prop := wideOrdersUptoRow.holds Try.pinned (OpenSpec.upto wideOrdersSpec)

/-- 'turnstonelaw02.MuldivSteps', WHERE WHAT IT READS IS OF BULK AT MOST 1048576: true; the input reads as it did. -/
def muldivStepsUptoRow : OpenClaim := { program := "ytiiabmfhhahloaa", sum := "d4397d798b503cb559fd466c079ee7be66206851d1efd28da67afb2d2d77531e", func := "turnstone/turnstonelaw02.MuldivSteps", spec := "muldivSteps", inPlace := ["math/bits.Add64", "math/bits.Sub64"], named := ["math/bits.divideError", "math/bits.overflowError"], apart := false, narrowed := true }
def MuldivStepsUptoSaid : Prop := muldivStepsUptoRow.holds Try.pinned (OpenSpec.upto muldivStepsSpec)

/-- 'turnstonelaw02.MuldivCarries', WHERE WHAT IT READS IS OF BULK AT MOST 1048576: true; the input reads as it did. -/
def muldivCarriesUptoRow : OpenClaim := { program := "ytiiabmfhhahloaa", sum := "d4397d798b503cb559fd466c079ee7be66206851d1efd28da67afb2d2d77531e", func := "turnstone/turnstonelaw02.MuldivCarries", spec := "muldivCarries", inPlace := ["math/bits.Add64", "math/bits.Sub64"], named := ["math/bits.divideError", "math/bits.overflowError"], apart := false, narrowed := true }
def MuldivCarriesUptoSaid : Prop := muldivCarriesUptoRow.holds Try.pinned (OpenSpec.upto muldivCarriesSpec)

/-- 'turnstonelaw02.MuldivFloors', WHERE WHAT IT READS IS OF BULK AT MOST 1048576: true; the input reads as it did. -/
def muldivFloorsUptoRow : OpenClaim := { program := "ytiiabmfhhahloaa", sum := "d4397d798b503cb559fd466c079ee7be66206851d1efd28da67afb2d2d77531e", func := "turnstone/turnstonelaw02.MuldivFloors", spec := "muldivFloors", inPlace := ["math/bits.Add64", "math/bits.Sub64"], named := ["math/bits.divideError", "math/bits.overflowError"], apart := false, narrowed := true }
def MuldivFloorsUptoSaid : Prop := muldivFloorsUptoRow.holds Try.pinned (OpenSpec.upto muldivFloorsSpec)

/-- 'turnstonelaw02.MuldivParts', WHERE WHAT IT READS IS OF BULK AT MOST 1048576: true; the input reads as it did. -/
def muldivPartsUptoRow : OpenClaim := { program := "ytiiabmfhhahloaa", sum := "d4397d798b503cb559fd466c079ee7be66206851d1efd28da67afb2d2d77531e", func := "turnstone/turnstonelaw02.MuldivParts", spec := "muldivParts", inPlace := ["math/bits.Add64", "math/bits.Sub64"], named := ["math/bits.divideError", "math/bits.overflowError"], apart := false, narrowed := true }
def MuldivPartsUptoSaid : Prop := muldivPartsUptoRow.holds Try.pinned (OpenSpec.upto muldivPartsSpec)

/-- 'turnstonelaw02.MuldivGrows', WHERE WHAT IT READS IS OF BULK AT MOST 1048576: true; the input reads as it did. -/
def muldivGrowsUptoRow : OpenClaim := { program := "ytiiabmfhhahloaa", sum := "d4397d798b503cb559fd466c079ee7be66206851d1efd28da67afb2d2d77531e", func := "turnstone/turnstonelaw02.MuldivGrows", spec := "muldivGrows", inPlace := ["math/bits.Add64", "math/bits.Sub64"], named := ["math/bits.divideError", "math/bits.overflowError"], apart := false, narrowed := true }
def MuldivGrowsUptoSaid : Prop := muldivGrowsUptoRow.holds Try.pinned (OpenSpec.upto muldivGrowsSpec)

end Rows
end Go.Proofs.Ytiiabmfhhahloaa

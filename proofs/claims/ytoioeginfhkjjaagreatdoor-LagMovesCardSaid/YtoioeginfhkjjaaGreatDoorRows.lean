/-
  NARROWER THAN 'FOR EVERY INPUT', by the rows' own cells (each row's printed sentence says how): MeanSums: laid · MeanBetween: laid · MeanShifts: laid · LagReads: laid · LagNanos: laid · LagNought: laid · LagOwed: laid · LagBases: laid · LagMoves: laid · PlacePlays: laid · PlaceLags: laid · PlaceZero: laid · PlaceOrders: laid.
  DERIVED. THE GIVEN ROWS OF THIS SEAT. 13 by the template 'for every input the law returns true; each argument reads behind the call as it read before'; 0 by the template 'total and deterministic' (their statements: YtoioeginfhkjjaaGreatDoorTotals.lean).
  GIVEN WITH THE SEED: the statements are not yours to turn. If you find one false, say at which input.
  Laid BY PROGRAM, IN A SANDBOX (cutbox-rows.mjs): the forced cells as the released guide's own fill.sh prints them over the translation 9892b0f0089e9212… (all of the seat's roots in one cut). By AI agents, Wed Nov 11 2026. No macro, syntax, notation, axiom, sorry.
-/
import Derived.Test.YtoioeginfhkjjaaGreatDoorChecked
import GoSem.Claim
import GoSem.ClaimJoined
import GoSem.ClaimMapViews
import Derived.JoinedTies
import Derived.KernelRfl
namespace Go.Proofs.YtoioeginfhkjjaaGreatDoor
/- THE CELL 'sum', in the pinned program and in every row, IS THE sha256 OF THE DUMP (.gsa) THAT YtoioeginfhkjjaaGreatDoorProg.lean LOADS. Nothing in Lean hashes anything: it is a label: what it is worth is what the hold of that sum in a sandbox is worth. -/
noncomputable def Tryz.pinned : Pinned := { name := "ytoioeginfhkjjaagreatdoor", sum := "9892b0f0089e92123ec10239f4b84faae4e752ff97ebe8741bb1013438e601cc", checked := Tryz.checked }
namespace Rows
def none {H : Type} : Left H := { results := [], args := [] }

/- WHAT THE LISTED PACKAGE-LEVEL VARIABLES READ AS WHEN THE CALL BEGINS. Each datum BY PROGRAM (the guide's laid-datum.mjs) off the statement by which the dump's own 'gosem.cut.vars' lays the variable. In a bare row this is a premise. The card (YtoioeginfhkjjaaGreatDoorCards.lean) ties it to the program's text. -/
def laid_math_bits_deBruijn32tab {H : Type} : DataW H := .agg [.lit (.int .u8 0), .lit (.int .u8 1), .lit (.int .u8 28), .lit (.int .u8 2), .lit (.int .u8 29), .lit (.int .u8 14), .lit (.int .u8 24), .lit (.int .u8 3), .lit (.int .u8 30), .lit (.int .u8 22), .lit (.int .u8 20), .lit (.int .u8 15), .lit (.int .u8 25), .lit (.int .u8 17), .lit (.int .u8 4), .lit (.int .u8 8), .lit (.int .u8 31), .lit (.int .u8 27), .lit (.int .u8 13), .lit (.int .u8 23), .lit (.int .u8 21), .lit (.int .u8 19), .lit (.int .u8 16), .lit (.int .u8 7), .lit (.int .u8 26), .lit (.int .u8 12), .lit (.int .u8 18), .lit (.int .u8 6), .lit (.int .u8 11), .lit (.int .u8 5), .lit (.int .u8 10), .lit (.int .u8 9)]
def laid_math_bits_deBruijn64tab {H : Type} : DataW H := .agg [.lit (.int .u8 0), .lit (.int .u8 1), .lit (.int .u8 56), .lit (.int .u8 2), .lit (.int .u8 57), .lit (.int .u8 49), .lit (.int .u8 28), .lit (.int .u8 3), .lit (.int .u8 61), .lit (.int .u8 58), .lit (.int .u8 42), .lit (.int .u8 50), .lit (.int .u8 38), .lit (.int .u8 29), .lit (.int .u8 17), .lit (.int .u8 4), .lit (.int .u8 62), .lit (.int .u8 47), .lit (.int .u8 59), .lit (.int .u8 36), .lit (.int .u8 45), .lit (.int .u8 43), .lit (.int .u8 51), .lit (.int .u8 22), .lit (.int .u8 53), .lit (.int .u8 39), .lit (.int .u8 33), .lit (.int .u8 30), .lit (.int .u8 24), .lit (.int .u8 18), .lit (.int .u8 12), .lit (.int .u8 5), .lit (.int .u8 63), .lit (.int .u8 55), .lit (.int .u8 48), .lit (.int .u8 27), .lit (.int .u8 60), .lit (.int .u8 41), .lit (.int .u8 37), .lit (.int .u8 16), .lit (.int .u8 46), .lit (.int .u8 35), .lit (.int .u8 44), .lit (.int .u8 21), .lit (.int .u8 52), .lit (.int .u8 32), .lit (.int .u8 23), .lit (.int .u8 11), .lit (.int .u8 54), .lit (.int .u8 26), .lit (.int .u8 40), .lit (.int .u8 15), .lit (.int .u8 34), .lit (.int .u8 20), .lit (.int .u8 31), .lit (.int .u8 10), .lit (.int .u8 25), .lit (.int .u8 14), .lit (.int .u8 19), .lit (.int .u8 9), .lit (.int .u8 13), .lit (.int .u8 8), .lit (.int .u8 7), .lit (.int .u8 6)]
def laid_internal_strconv_uint64pow10 {H : Type} : DataW H := .agg [.lit (.int .u64 1), .lit (.int .u64 10), .lit (.int .u64 100), .lit (.int .u64 1000), .lit (.int .u64 10000), .lit (.int .u64 100000), .lit (.int .u64 1000000), .lit (.int .u64 10000000), .lit (.int .u64 100000000), .lit (.int .u64 1000000000), .lit (.int .u64 10000000000), .lit (.int .u64 100000000000), .lit (.int .u64 1000000000000), .lit (.int .u64 10000000000000), .lit (.int .u64 100000000000000), .lit (.int .u64 1000000000000000), .lit (.int .u64 10000000000000000), .lit (.int .u64 100000000000000000), .lit (.int .u64 1000000000000000000), .lit (.int .u64 10000000000000000000)]

/-- 'turnstonelaw08.MeanSums': WHATEVER THE INPUT: true; the input reads as it did. -/
def meanSumsSpec : ChangeSpec := { name := "meanSums", fn := fun _ => fun
  | [d1, d2] => { results := [.lit (.bool true)], args := [d1, d2] }
  | _ => none }
def meanSumsRow : OpenClaim := { program := "ytoioeginfhkjjaagreatdoor", sum := "9892b0f0089e92123ec10239f4b84faae4e752ff97ebe8741bb1013438e601cc", func := "turnstone/turnstonelaw08.MeanSums", spec := "meanSums", inPlace := ["math/bits.Sub64", "math/bits.Add64", "internal/abi.NoEscape", "internal/bytealg.MakeNoZero"], unfollowed := true, recurses := true, named := ["math/bits.divideError", "math/bits.overflowError", "internal/strconv.uint64pow10", "math/bits.deBruijn32tab", "math/bits.deBruijn64tab"], apart := false, laid := [("math/bits.deBruijn32tab", laid_math_bits_deBruijn32tab), ("math/bits.deBruijn64tab", laid_math_bits_deBruijn64tab), ("internal/strconv.uint64pow10", laid_internal_strconv_uint64pow10)] }
def MeanSumsSaid : Prop := meanSumsRow.holds Tryz.pinned (OpenSpec.ofChange meanSumsSpec)

/-- ITS FALSE NEIGHBOUR: 'it returns false'. Refute it at one input. -/
def meanSumsWrong : ChangeSpec := { name := "meanSums", fn := fun _ => fun
  | [d1, d2] => { results := [.lit (.bool false)], args := [d1, d2] }
  | _ => none }
def MeanSumsWrongFalsely : Prop := meanSumsRow.holds Tryz.pinned (OpenSpec.ofChange meanSumsWrong)

/-- 'turnstonelaw08.MeanBetween': WHATEVER THE INPUT: true; the input reads as it did. -/
def meanBetweenSpec : ChangeSpec := { name := "meanBetween", fn := fun _ => fun
  | [d1, d2, d3] => { results := [.lit (.bool true)], args := [d1, d2, d3] }
  | _ => none }
def meanBetweenRow : OpenClaim := { program := "ytoioeginfhkjjaagreatdoor", sum := "9892b0f0089e92123ec10239f4b84faae4e752ff97ebe8741bb1013438e601cc", func := "turnstone/turnstonelaw08.MeanBetween", spec := "meanBetween", inPlace := ["math/bits.Sub64", "math/bits.Add64", "internal/abi.NoEscape", "internal/bytealg.MakeNoZero"], unfollowed := true, recurses := true, named := ["math/bits.divideError", "math/bits.overflowError", "internal/strconv.uint64pow10", "math/bits.deBruijn32tab", "math/bits.deBruijn64tab"], apart := false, laid := [("math/bits.deBruijn32tab", laid_math_bits_deBruijn32tab), ("math/bits.deBruijn64tab", laid_math_bits_deBruijn64tab), ("internal/strconv.uint64pow10", laid_internal_strconv_uint64pow10)] }
def MeanBetweenSaid : Prop := meanBetweenRow.holds Tryz.pinned (OpenSpec.ofChange meanBetweenSpec)

/-- ITS FALSE NEIGHBOUR: 'it returns false'. Refute it at one input. -/
def meanBetweenWrong : ChangeSpec := { name := "meanBetween", fn := fun _ => fun
  | [d1, d2, d3] => { results := [.lit (.bool false)], args := [d1, d2, d3] }
  | _ => none }
def MeanBetweenWrongFalsely : Prop := meanBetweenRow.holds Tryz.pinned (OpenSpec.ofChange meanBetweenWrong)

/-- 'turnstonelaw08.MeanShifts': WHATEVER THE INPUT: true; the input reads as it did. -/
def meanShiftsSpec : ChangeSpec := { name := "meanShifts", fn := fun _ => fun
  | [d1, d2, d3] => { results := [.lit (.bool true)], args := [d1, d2, d3] }
  | _ => none }
def meanShiftsRow : OpenClaim := { program := "ytoioeginfhkjjaagreatdoor", sum := "9892b0f0089e92123ec10239f4b84faae4e752ff97ebe8741bb1013438e601cc", func := "turnstone/turnstonelaw08.MeanShifts", spec := "meanShifts", inPlace := ["math/bits.Sub64", "math/bits.Add64", "internal/abi.NoEscape", "internal/bytealg.MakeNoZero"], unfollowed := true, recurses := true, named := ["math/bits.divideError", "math/bits.overflowError", "internal/strconv.uint64pow10", "math/bits.deBruijn32tab", "math/bits.deBruijn64tab"], apart := false, laid := [("math/bits.deBruijn32tab", laid_math_bits_deBruijn32tab), ("math/bits.deBruijn64tab", laid_math_bits_deBruijn64tab), ("internal/strconv.uint64pow10", laid_internal_strconv_uint64pow10)] }
def MeanShiftsSaid : Prop := meanShiftsRow.holds Tryz.pinned (OpenSpec.ofChange meanShiftsSpec)

/-- ITS FALSE NEIGHBOUR: 'it returns false'. Refute it at one input. -/
def meanShiftsWrong : ChangeSpec := { name := "meanShifts", fn := fun _ => fun
  | [d1, d2, d3] => { results := [.lit (.bool false)], args := [d1, d2, d3] }
  | _ => none }
def MeanShiftsWrongFalsely : Prop := meanShiftsRow.holds Tryz.pinned (OpenSpec.ofChange meanShiftsWrong)

/-- 'turnstonelaw09.LagReads': WHATEVER THE INPUT: true; the input reads as it did. -/
def lagReadsSpec : ChangeSpec := { name := "lagReads", fn := fun _ => fun
  | [d1, d2] => { results := [.lit (.bool true)], args := [d1, d2] }
  | _ => none }
def lagReadsRow : OpenClaim := { program := "ytoioeginfhkjjaagreatdoor", sum := "9892b0f0089e92123ec10239f4b84faae4e752ff97ebe8741bb1013438e601cc", func := "turnstone/turnstonelaw09.LagReads", spec := "lagReads", inPlace := ["math/bits.Sub64", "math/bits.Add64", "internal/abi.NoEscape", "internal/bytealg.MakeNoZero"], unfollowed := true, recurses := true, named := ["math/bits.divideError", "math/bits.overflowError", "internal/strconv.uint64pow10", "math/bits.deBruijn32tab", "math/bits.deBruijn64tab"], apart := false, laid := [("math/bits.deBruijn32tab", laid_math_bits_deBruijn32tab), ("math/bits.deBruijn64tab", laid_math_bits_deBruijn64tab), ("internal/strconv.uint64pow10", laid_internal_strconv_uint64pow10)] }
def LagReadsSaid : Prop := lagReadsRow.holds Tryz.pinned (OpenSpec.ofChange lagReadsSpec)

/-- ITS FALSE NEIGHBOUR: 'it returns false'. Refute it at one input. -/
def lagReadsWrong : ChangeSpec := { name := "lagReads", fn := fun _ => fun
  | [d1, d2] => { results := [.lit (.bool false)], args := [d1, d2] }
  | _ => none }
def LagReadsWrongFalsely : Prop := lagReadsRow.holds Tryz.pinned (OpenSpec.ofChange lagReadsWrong)

/-- 'turnstonelaw09.LagNanos': WHATEVER THE INPUT: true; the input reads as it did. -/
def lagNanosSpec : ChangeSpec := { name := "lagNanos", fn := fun _ => fun
  | [d] => { results := [.lit (.bool true)], args := [d] }
  | _ => none }
def lagNanosRow : OpenClaim := { program := "ytoioeginfhkjjaagreatdoor", sum := "9892b0f0089e92123ec10239f4b84faae4e752ff97ebe8741bb1013438e601cc", func := "turnstone/turnstonelaw09.LagNanos", spec := "lagNanos", inPlace := ["math/bits.Sub64", "math/bits.Add64", "internal/abi.NoEscape", "internal/bytealg.MakeNoZero"], unfollowed := true, recurses := true, named := ["math/bits.divideError", "math/bits.overflowError", "internal/strconv.uint64pow10", "math/bits.deBruijn32tab", "math/bits.deBruijn64tab"], apart := false, laid := [("math/bits.deBruijn32tab", laid_math_bits_deBruijn32tab), ("math/bits.deBruijn64tab", laid_math_bits_deBruijn64tab), ("internal/strconv.uint64pow10", laid_internal_strconv_uint64pow10)] }
def LagNanosSaid : Prop := lagNanosRow.holds Tryz.pinned (OpenSpec.ofChange lagNanosSpec)

/-- ITS FALSE NEIGHBOUR: 'it returns false'. Refute it at one input. -/
def lagNanosWrong : ChangeSpec := { name := "lagNanos", fn := fun _ => fun
  | [d] => { results := [.lit (.bool false)], args := [d] }
  | _ => none }
def LagNanosWrongFalsely : Prop := lagNanosRow.holds Tryz.pinned (OpenSpec.ofChange lagNanosWrong)

/-- 'turnstonelaw09.LagNought': WHATEVER THE INPUT: true; the input reads as it did. -/
def lagNoughtSpec : ChangeSpec := { name := "lagNought", fn := fun _ => fun
  | [d1, d2] => { results := [.lit (.bool true)], args := [d1, d2] }
  | _ => none }
def lagNoughtRow : OpenClaim := { program := "ytoioeginfhkjjaagreatdoor", sum := "9892b0f0089e92123ec10239f4b84faae4e752ff97ebe8741bb1013438e601cc", func := "turnstone/turnstonelaw09.LagNought", spec := "lagNought", inPlace := ["math/bits.Sub64", "math/bits.Add64", "internal/abi.NoEscape", "internal/bytealg.MakeNoZero"], unfollowed := true, recurses := true, named := ["math/bits.divideError", "math/bits.overflowError", "internal/strconv.uint64pow10", "math/bits.deBruijn32tab", "math/bits.deBruijn64tab"], apart := false, laid := [("math/bits.deBruijn32tab", laid_math_bits_deBruijn32tab), ("math/bits.deBruijn64tab", laid_math_bits_deBruijn64tab), ("internal/strconv.uint64pow10", laid_internal_strconv_uint64pow10)] }
def LagNoughtSaid : Prop := lagNoughtRow.holds Tryz.pinned (OpenSpec.ofChange lagNoughtSpec)

/-- ITS FALSE NEIGHBOUR: 'it returns false'. Refute it at one input. -/
def lagNoughtWrong : ChangeSpec := { name := "lagNought", fn := fun _ => fun
  | [d1, d2] => { results := [.lit (.bool false)], args := [d1, d2] }
  | _ => none }
def LagNoughtWrongFalsely : Prop := lagNoughtRow.holds Tryz.pinned (OpenSpec.ofChange lagNoughtWrong)

/-- 'turnstonelaw09.LagOwed': WHATEVER THE INPUT: true; the input reads as it did. -/
def lagOwedSpec : ChangeSpec := { name := "lagOwed", fn := fun _ => fun
  | [d1, d2, d3] => { results := [.lit (.bool true)], args := [d1, d2, d3] }
  | _ => none }
def lagOwedRow : OpenClaim := { program := "ytoioeginfhkjjaagreatdoor", sum := "9892b0f0089e92123ec10239f4b84faae4e752ff97ebe8741bb1013438e601cc", func := "turnstone/turnstonelaw09.LagOwed", spec := "lagOwed", inPlace := ["math/bits.Sub64", "math/bits.Add64", "internal/abi.NoEscape", "internal/bytealg.MakeNoZero"], unfollowed := true, recurses := true, named := ["math/bits.divideError", "math/bits.overflowError", "internal/strconv.uint64pow10", "math/bits.deBruijn32tab", "math/bits.deBruijn64tab"], apart := false, laid := [("math/bits.deBruijn32tab", laid_math_bits_deBruijn32tab), ("math/bits.deBruijn64tab", laid_math_bits_deBruijn64tab), ("internal/strconv.uint64pow10", laid_internal_strconv_uint64pow10)] }
def LagOwedSaid : Prop := lagOwedRow.holds Tryz.pinned (OpenSpec.ofChange lagOwedSpec)

/-- ITS FALSE NEIGHBOUR: 'it returns false'. Refute it at one input. -/
def lagOwedWrong : ChangeSpec := { name := "lagOwed", fn := fun _ => fun
  | [d1, d2, d3] => { results := [.lit (.bool false)], args := [d1, d2, d3] }
  | _ => none }
def LagOwedWrongFalsely : Prop := lagOwedRow.holds Tryz.pinned (OpenSpec.ofChange lagOwedWrong)

/-- 'turnstonelaw09.LagBases': WHATEVER THE INPUT: true; the input reads as it did. -/
def lagBasesSpec : ChangeSpec := { name := "lagBases", fn := fun _ => fun
  | [d1, d2, d3] => { results := [.lit (.bool true)], args := [d1, d2, d3] }
  | _ => none }
def lagBasesRow : OpenClaim := { program := "ytoioeginfhkjjaagreatdoor", sum := "9892b0f0089e92123ec10239f4b84faae4e752ff97ebe8741bb1013438e601cc", func := "turnstone/turnstonelaw09.LagBases", spec := "lagBases", inPlace := ["math/bits.Sub64", "math/bits.Add64", "internal/abi.NoEscape", "internal/bytealg.MakeNoZero"], unfollowed := true, recurses := true, named := ["math/bits.divideError", "math/bits.overflowError", "internal/strconv.uint64pow10", "math/bits.deBruijn32tab", "math/bits.deBruijn64tab"], apart := false, laid := [("math/bits.deBruijn32tab", laid_math_bits_deBruijn32tab), ("math/bits.deBruijn64tab", laid_math_bits_deBruijn64tab), ("internal/strconv.uint64pow10", laid_internal_strconv_uint64pow10)] }
def LagBasesSaid : Prop := lagBasesRow.holds Tryz.pinned (OpenSpec.ofChange lagBasesSpec)

/-- ITS FALSE NEIGHBOUR: 'it returns false'. Refute it at one input. -/
def lagBasesWrong : ChangeSpec := { name := "lagBases", fn := fun _ => fun
  | [d1, d2, d3] => { results := [.lit (.bool false)], args := [d1, d2, d3] }
  | _ => none }
def LagBasesWrongFalsely : Prop := lagBasesRow.holds Tryz.pinned (OpenSpec.ofChange lagBasesWrong)

/-- 'turnstonelaw09.LagMoves': WHATEVER THE INPUT: true; the input reads as it did. -/
def lagMovesSpec : ChangeSpec := { name := "lagMoves", fn := fun _ => fun
  | [d1, d2, d3, d4] => { results := [.lit (.bool true)], args := [d1, d2, d3, d4] }
  | _ => none }
def lagMovesRow : OpenClaim := { program := "ytoioeginfhkjjaagreatdoor", sum := "9892b0f0089e92123ec10239f4b84faae4e752ff97ebe8741bb1013438e601cc", func := "turnstone/turnstonelaw09.LagMoves", spec := "lagMoves", inPlace := ["math/bits.Sub64", "math/bits.Add64", "internal/abi.NoEscape", "internal/bytealg.MakeNoZero"], unfollowed := true, recurses := true, named := ["math/bits.divideError", "math/bits.overflowError", "internal/strconv.uint64pow10", "math/bits.deBruijn32tab", "math/bits.deBruijn64tab"], apart := false, laid := [("math/bits.deBruijn32tab", laid_math_bits_deBruijn32tab), ("math/bits.deBruijn64tab", laid_math_bits_deBruijn64tab), ("internal/strconv.uint64pow10", laid_internal_strconv_uint64pow10)] }
def LagMovesSaid : Prop := lagMovesRow.holds Tryz.pinned (OpenSpec.ofChange lagMovesSpec)

/-- ITS FALSE NEIGHBOUR: 'it returns false'. Refute it at one input. -/
def lagMovesWrong : ChangeSpec := { name := "lagMoves", fn := fun _ => fun
  | [d1, d2, d3, d4] => { results := [.lit (.bool false)], args := [d1, d2, d3, d4] }
  | _ => none }
def LagMovesWrongFalsely : Prop := lagMovesRow.holds Tryz.pinned (OpenSpec.ofChange lagMovesWrong)

/-- 'turnstonelaw10.PlacePlays': WHATEVER THE INPUT: true; the input reads as it did. -/
def placePlaysSpec : ChangeSpec := { name := "placePlays", fn := fun _ => fun
  | [d1, d2, d3, d4] => { results := [.lit (.bool true)], args := [d1, d2, d3, d4] }
  | _ => none }
def placePlaysRow : OpenClaim := { program := "ytoioeginfhkjjaagreatdoor", sum := "9892b0f0089e92123ec10239f4b84faae4e752ff97ebe8741bb1013438e601cc", func := "turnstone/turnstonelaw10.PlacePlays", spec := "placePlays", inPlace := ["math/bits.Sub64", "math/bits.Add64", "internal/abi.NoEscape", "internal/bytealg.MakeNoZero"], unfollowed := true, recurses := true, named := ["math/bits.divideError", "math/bits.overflowError", "internal/strconv.uint64pow10", "math/bits.deBruijn32tab", "math/bits.deBruijn64tab"], apart := false, laid := [("math/bits.deBruijn32tab", laid_math_bits_deBruijn32tab), ("math/bits.deBruijn64tab", laid_math_bits_deBruijn64tab), ("internal/strconv.uint64pow10", laid_internal_strconv_uint64pow10)] }
def PlacePlaysSaid : Prop := placePlaysRow.holds Tryz.pinned (OpenSpec.ofChange placePlaysSpec)

/-- ITS FALSE NEIGHBOUR: 'it returns false'. Refute it at one input. -/
def placePlaysWrong : ChangeSpec := { name := "placePlays", fn := fun _ => fun
  | [d1, d2, d3, d4] => { results := [.lit (.bool false)], args := [d1, d2, d3, d4] }
  | _ => none }
def PlacePlaysWrongFalsely : Prop := placePlaysRow.holds Tryz.pinned (OpenSpec.ofChange placePlaysWrong)

/-- 'turnstonelaw10.PlaceLags': WHATEVER THE INPUT: true; the input reads as it did. -/
def placeLagsSpec : ChangeSpec := { name := "placeLags", fn := fun _ => fun
  | [d1, d2, d3, d4] => { results := [.lit (.bool true)], args := [d1, d2, d3, d4] }
  | _ => none }
def placeLagsRow : OpenClaim := { program := "ytoioeginfhkjjaagreatdoor", sum := "9892b0f0089e92123ec10239f4b84faae4e752ff97ebe8741bb1013438e601cc", func := "turnstone/turnstonelaw10.PlaceLags", spec := "placeLags", inPlace := ["math/bits.Sub64", "math/bits.Add64", "internal/abi.NoEscape", "internal/bytealg.MakeNoZero"], unfollowed := true, recurses := true, named := ["math/bits.divideError", "math/bits.overflowError", "internal/strconv.uint64pow10", "math/bits.deBruijn32tab", "math/bits.deBruijn64tab"], apart := false, laid := [("math/bits.deBruijn32tab", laid_math_bits_deBruijn32tab), ("math/bits.deBruijn64tab", laid_math_bits_deBruijn64tab), ("internal/strconv.uint64pow10", laid_internal_strconv_uint64pow10)] }
def PlaceLagsSaid : Prop := placeLagsRow.holds Tryz.pinned (OpenSpec.ofChange placeLagsSpec)

/-- ITS FALSE NEIGHBOUR: 'it returns false'. Refute it at one input. -/
def placeLagsWrong : ChangeSpec := { name := "placeLags", fn := fun _ => fun
  | [d1, d2, d3, d4] => { results := [.lit (.bool false)], args := [d1, d2, d3, d4] }
  | _ => none }
def PlaceLagsWrongFalsely : Prop := placeLagsRow.holds Tryz.pinned (OpenSpec.ofChange placeLagsWrong)

/-- 'turnstonelaw10.PlaceZero': WHATEVER THE INPUT: true; the input reads as it did. -/
def placeZeroSpec : ChangeSpec := { name := "placeZero", fn := fun _ => fun
  | [d1, d2, d3] => { results := [.lit (.bool true)], args := [d1, d2, d3] }
  | _ => none }
def placeZeroRow : OpenClaim := { program := "ytoioeginfhkjjaagreatdoor", sum := "9892b0f0089e92123ec10239f4b84faae4e752ff97ebe8741bb1013438e601cc", func := "turnstone/turnstonelaw10.PlaceZero", spec := "placeZero", inPlace := ["math/bits.Sub64", "math/bits.Add64", "internal/abi.NoEscape", "internal/bytealg.MakeNoZero"], unfollowed := true, recurses := true, named := ["math/bits.divideError", "math/bits.overflowError", "internal/strconv.uint64pow10", "math/bits.deBruijn32tab", "math/bits.deBruijn64tab"], apart := false, laid := [("math/bits.deBruijn32tab", laid_math_bits_deBruijn32tab), ("math/bits.deBruijn64tab", laid_math_bits_deBruijn64tab), ("internal/strconv.uint64pow10", laid_internal_strconv_uint64pow10)] }
def PlaceZeroSaid : Prop := placeZeroRow.holds Tryz.pinned (OpenSpec.ofChange placeZeroSpec)

/-- ITS FALSE NEIGHBOUR: 'it returns false'. Refute it at one input. -/
def placeZeroWrong : ChangeSpec := { name := "placeZero", fn := fun _ => fun
  | [d1, d2, d3] => { results := [.lit (.bool false)], args := [d1, d2, d3] }
  | _ => none }
def PlaceZeroWrongFalsely : Prop := placeZeroRow.holds Tryz.pinned (OpenSpec.ofChange placeZeroWrong)

/-- 'turnstonelaw10.PlaceOrders': WHATEVER THE INPUT: true; the input reads as it did. -/
def placeOrdersSpec : ChangeSpec := { name := "placeOrders", fn := fun _ => fun
  | [d1, d2, d3, d4, d5] => { results := [.lit (.bool true)], args := [d1, d2, d3, d4, d5] }
  | _ => none }
def placeOrdersRow : OpenClaim := { program := "ytoioeginfhkjjaagreatdoor", sum := "9892b0f0089e92123ec10239f4b84faae4e752ff97ebe8741bb1013438e601cc", func := "turnstone/turnstonelaw10.PlaceOrders", spec := "placeOrders", inPlace := ["math/bits.Sub64", "math/bits.Add64", "internal/abi.NoEscape", "internal/bytealg.MakeNoZero"], unfollowed := true, recurses := true, named := ["math/bits.divideError", "math/bits.overflowError", "internal/strconv.uint64pow10", "math/bits.deBruijn32tab", "math/bits.deBruijn64tab"], apart := false, laid := [("math/bits.deBruijn32tab", laid_math_bits_deBruijn32tab), ("math/bits.deBruijn64tab", laid_math_bits_deBruijn64tab), ("internal/strconv.uint64pow10", laid_internal_strconv_uint64pow10)] }
def PlaceOrdersSaid : Prop := placeOrdersRow.holds Tryz.pinned (OpenSpec.ofChange placeOrdersSpec)

/-- ITS FALSE NEIGHBOUR: 'it returns false'. Refute it at one input. -/
def placeOrdersWrong : ChangeSpec := { name := "placeOrders", fn := fun _ => fun
  | [d1, d2, d3, d4, d5] => { results := [.lit (.bool false)], args := [d1, d2, d3, d4, d5] }
  | _ => none }
def PlaceOrdersWrongFalsely : Prop := placeOrdersRow.holds Tryz.pinned (OpenSpec.ofChange placeOrdersWrong)

/- THE SECOND FORM. 'bulk': how many values and letters a reading holds, each counted each time it is reached (what is shared counts as often as it is met; a slice's spare places count too). A statement '..UptoSaid' is the law's where the arguments, and the package variables that the reading takes, are together of bulk at most 1048576: NARROWER than '..Said'. Prove '..Said' where nothing that the law and all that it calls make is longer than what came in: it says more and counts as full. Else prove '..UptoSaid'. A law counts once. -/
mutual
def uptoBulk {H : Type} : DataW H → Nat
  | .lit (.string bytes) => bytes.length + 1
  | .lit _ => 1
  | .nil => 1
  | .ptr d => uptoBulk d + 1
  | .slice elems spare => uptoBulkAll elems + uptoBulkAll spare + 1
  | .agg parts => uptoBulkAll parts + 1
  | .iface _ d => uptoBulk d + 1
  | .map entries => uptoBulkEntries entries + 1
  | .held _ => 1
def uptoBulkAll {H : Type} : List (DataW H) → Nat
  | [] => 0
  | d :: r => uptoBulk d + uptoBulkAll r
def uptoBulkEntries {H : Type} : List (Lit × DataW H) → Nat
  | [] => 0
  | x :: r => uptoBulkEntry x + uptoBulkEntries r
def uptoBulkEntry {H : Type} : Lit × DataW H → Nat
  | (.string bytes, d) => bytes.length + uptoBulk d + 1
  | (_, d) => uptoBulk d + 1
 end
def uptoSmall : (H : Type) → List (DataW H) → Bool := fun _ ds => decide (uptoBulkAll ds ≤ 1048576)
def OpenSpec.upto (s : _root_.Go.ChangeSpec) : _root_.Go.OpenSpec := { _root_.Go.OpenSpec.ofChange s with cond := some uptoSmall }

/-- 'turnstonelaw08.MeanSums', WHERE WHAT IT READS IS OF BULK AT MOST 1048576: true; the input reads as it did. -/
def meanSumsUptoRow : OpenClaim := { program := "ytoioeginfhkjjaagreatdoor", sum := "9892b0f0089e92123ec10239f4b84faae4e752ff97ebe8741bb1013438e601cc", func := "turnstone/turnstonelaw08.MeanSums", spec := "meanSums", inPlace := ["math/bits.Sub64", "math/bits.Add64", "internal/abi.NoEscape", "internal/bytealg.MakeNoZero"], unfollowed := true, recurses := true, named := ["math/bits.divideError", "math/bits.overflowError", "internal/strconv.uint64pow10", "math/bits.deBruijn32tab", "math/bits.deBruijn64tab"], apart := false, laid := [("math/bits.deBruijn32tab", laid_math_bits_deBruijn32tab), ("math/bits.deBruijn64tab", laid_math_bits_deBruijn64tab), ("internal/strconv.uint64pow10", laid_internal_strconv_uint64pow10)], narrowed := true }
def MeanSumsUptoSaid : Prop := meanSumsUptoRow.holds Tryz.pinned (OpenSpec.upto meanSumsSpec)

/-- 'turnstonelaw08.MeanBetween', WHERE WHAT IT READS IS OF BULK AT MOST 1048576: true; the input reads as it did. -/
def meanBetweenUptoRow : OpenClaim := { program := "ytoioeginfhkjjaagreatdoor", sum := "9892b0f0089e92123ec10239f4b84faae4e752ff97ebe8741bb1013438e601cc", func := "turnstone/turnstonelaw08.MeanBetween", spec := "meanBetween", inPlace := ["math/bits.Sub64", "math/bits.Add64", "internal/abi.NoEscape", "internal/bytealg.MakeNoZero"], unfollowed := true, recurses := true, named := ["math/bits.divideError", "math/bits.overflowError", "internal/strconv.uint64pow10", "math/bits.deBruijn32tab", "math/bits.deBruijn64tab"], apart := false, laid := [("math/bits.deBruijn32tab", laid_math_bits_deBruijn32tab), ("math/bits.deBruijn64tab", laid_math_bits_deBruijn64tab), ("internal/strconv.uint64pow10", laid_internal_strconv_uint64pow10)], narrowed := true }
def MeanBetweenUptoSaid : Prop := meanBetweenUptoRow.holds Tryz.pinned (OpenSpec.upto meanBetweenSpec)

/-- 'turnstonelaw08.MeanShifts', WHERE WHAT IT READS IS OF BULK AT MOST 1048576: true; the input reads as it did. -/
def meanShiftsUptoRow : OpenClaim := { program := "ytoioeginfhkjjaagreatdoor", sum := "9892b0f0089e92123ec10239f4b84faae4e752ff97ebe8741bb1013438e601cc", func := "turnstone/turnstonelaw08.MeanShifts", spec := "meanShifts", inPlace := ["math/bits.Sub64", "math/bits.Add64", "internal/abi.NoEscape", "internal/bytealg.MakeNoZero"], unfollowed := true, recurses := true, named := ["math/bits.divideError", "math/bits.overflowError", "internal/strconv.uint64pow10", "math/bits.deBruijn32tab", "math/bits.deBruijn64tab"], apart := false, laid := [("math/bits.deBruijn32tab", laid_math_bits_deBruijn32tab), ("math/bits.deBruijn64tab", laid_math_bits_deBruijn64tab), ("internal/strconv.uint64pow10", laid_internal_strconv_uint64pow10)], narrowed := true }
def MeanShiftsUptoSaid : Prop := meanShiftsUptoRow.holds Tryz.pinned (OpenSpec.upto meanShiftsSpec)

/-- 'turnstonelaw09.LagReads', WHERE WHAT IT READS IS OF BULK AT MOST 1048576: true; the input reads as it did. -/
def lagReadsUptoRow : OpenClaim := { program := "ytoioeginfhkjjaagreatdoor", sum := "9892b0f0089e92123ec10239f4b84faae4e752ff97ebe8741bb1013438e601cc", func := "turnstone/turnstonelaw09.LagReads", spec := "lagReads", inPlace := ["math/bits.Sub64", "math/bits.Add64", "internal/abi.NoEscape", "internal/bytealg.MakeNoZero"], unfollowed := true, recurses := true, named := ["math/bits.divideError", "math/bits.overflowError", "internal/strconv.uint64pow10", "math/bits.deBruijn32tab", "math/bits.deBruijn64tab"], apart := false, laid := [("math/bits.deBruijn32tab", laid_math_bits_deBruijn32tab), ("math/bits.deBruijn64tab", laid_math_bits_deBruijn64tab), ("internal/strconv.uint64pow10", laid_internal_strconv_uint64pow10)], narrowed := true }
def LagReadsUptoSaid : Prop := lagReadsUptoRow.holds Tryz.pinned (OpenSpec.upto lagReadsSpec)

/-- 'turnstonelaw09.LagNanos', WHERE WHAT IT READS IS OF BULK AT MOST 1048576: true; the input reads as it did. -/
def lagNanosUptoRow : OpenClaim := { program := "ytoioeginfhkjjaagreatdoor", sum := "9892b0f0089e92123ec10239f4b84faae4e752ff97ebe8741bb1013438e601cc", func := "turnstone/turnstonelaw09.LagNanos", spec := "lagNanos", inPlace := ["math/bits.Sub64", "math/bits.Add64", "internal/abi.NoEscape", "internal/bytealg.MakeNoZero"], unfollowed := true, recurses := true, named := ["math/bits.divideError", "math/bits.overflowError", "internal/strconv.uint64pow10", "math/bits.deBruijn32tab", "math/bits.deBruijn64tab"], apart := false, laid := [("math/bits.deBruijn32tab", laid_math_bits_deBruijn32tab), ("math/bits.deBruijn64tab", laid_math_bits_deBruijn64tab), ("internal/strconv.uint64pow10", laid_internal_strconv_uint64pow10)], narrowed := true }
def LagNanosUptoSaid : Prop := lagNanosUptoRow.holds Tryz.pinned (OpenSpec.upto lagNanosSpec)

/-- 'turnstonelaw09.LagNought', WHERE WHAT IT READS IS OF BULK AT MOST 1048576: true; the input reads as it did. -/
def lagNoughtUptoRow : OpenClaim := { program := "ytoioeginfhkjjaagreatdoor", sum := "9892b0f0089e92123ec10239f4b84faae4e752ff97ebe8741bb1013438e601cc", func := "turnstone/turnstonelaw09.LagNought", spec := "lagNought", inPlace := ["math/bits.Sub64", "math/bits.Add64", "internal/abi.NoEscape", "internal/bytealg.MakeNoZero"], unfollowed := true, recurses := true, named := ["math/bits.divideError", "math/bits.overflowError", "internal/strconv.uint64pow10", "math/bits.deBruijn32tab", "math/bits.deBruijn64tab"], apart := false, laid := [("math/bits.deBruijn32tab", laid_math_bits_deBruijn32tab), ("math/bits.deBruijn64tab", laid_math_bits_deBruijn64tab), ("internal/strconv.uint64pow10", laid_internal_strconv_uint64pow10)], narrowed := true }
def LagNoughtUptoSaid : Prop := lagNoughtUptoRow.holds Tryz.pinned (OpenSpec.upto lagNoughtSpec)

/-- 'turnstonelaw09.LagOwed', WHERE WHAT IT READS IS OF BULK AT MOST 1048576: true; the input reads as it did. -/
def lagOwedUptoRow : OpenClaim := { program := "ytoioeginfhkjjaagreatdoor", sum := "9892b0f0089e92123ec10239f4b84faae4e752ff97ebe8741bb1013438e601cc", func := "turnstone/turnstonelaw09.LagOwed", spec := "lagOwed", inPlace := ["math/bits.Sub64", "math/bits.Add64", "internal/abi.NoEscape", "internal/bytealg.MakeNoZero"], unfollowed := true, recurses := true, named := ["math/bits.divideError", "math/bits.overflowError", "internal/strconv.uint64pow10", "math/bits.deBruijn32tab", "math/bits.deBruijn64tab"], apart := false, laid := [("math/bits.deBruijn32tab", laid_math_bits_deBruijn32tab), ("math/bits.deBruijn64tab", laid_math_bits_deBruijn64tab), ("internal/strconv.uint64pow10", laid_internal_strconv_uint64pow10)], narrowed := true }
def LagOwedUptoSaid : Prop := lagOwedUptoRow.holds Tryz.pinned (OpenSpec.upto lagOwedSpec)

/-- 'turnstonelaw09.LagBases', WHERE WHAT IT READS IS OF BULK AT MOST 1048576: true; the input reads as it did. -/
def lagBasesUptoRow : OpenClaim := { program := "ytoioeginfhkjjaagreatdoor", sum := "9892b0f0089e92123ec10239f4b84faae4e752ff97ebe8741bb1013438e601cc", func := "turnstone/turnstonelaw09.LagBases", spec := "lagBases", inPlace := ["math/bits.Sub64", "math/bits.Add64", "internal/abi.NoEscape", "internal/bytealg.MakeNoZero"], unfollowed := true, recurses := true, named := ["math/bits.divideError", "math/bits.overflowError", "internal/strconv.uint64pow10", "math/bits.deBruijn32tab", "math/bits.deBruijn64tab"], apart := false, laid := [("math/bits.deBruijn32tab", laid_math_bits_deBruijn32tab), ("math/bits.deBruijn64tab", laid_math_bits_deBruijn64tab), ("internal/strconv.uint64pow10", laid_internal_strconv_uint64pow10)], narrowed := true }
def LagBasesUptoSaid : Prop := lagBasesUptoRow.holds Tryz.pinned (OpenSpec.upto lagBasesSpec)

/-- 'turnstonelaw09.LagMoves', WHERE WHAT IT READS IS OF BULK AT MOST 1048576: true; the input reads as it did. -/
def lagMovesUptoRow : OpenClaim := { program := "ytoioeginfhkjjaagreatdoor", sum := "9892b0f0089e92123ec10239f4b84faae4e752ff97ebe8741bb1013438e601cc", func := "turnstone/turnstonelaw09.LagMoves", spec := "lagMoves", inPlace := ["math/bits.Sub64", "math/bits.Add64", "internal/abi.NoEscape", "internal/bytealg.MakeNoZero"], unfollowed := true, recurses := true, named := ["math/bits.divideError", "math/bits.overflowError", "internal/strconv.uint64pow10", "math/bits.deBruijn32tab", "math/bits.deBruijn64tab"], apart := false, laid := [("math/bits.deBruijn32tab", laid_math_bits_deBruijn32tab), ("math/bits.deBruijn64tab", laid_math_bits_deBruijn64tab), ("internal/strconv.uint64pow10", laid_internal_strconv_uint64pow10)], narrowed := true }
def LagMovesUptoSaid : Prop := lagMovesUptoRow.holds Tryz.pinned (OpenSpec.upto lagMovesSpec)

/-- 'turnstonelaw10.PlacePlays', WHERE WHAT IT READS IS OF BULK AT MOST 1048576: true; the input reads as it did. -/
def placePlaysUptoRow : OpenClaim := { program := "ytoioeginfhkjjaagreatdoor", sum := "9892b0f0089e92123ec10239f4b84faae4e752ff97ebe8741bb1013438e601cc", func := "turnstone/turnstonelaw10.PlacePlays", spec := "placePlays", inPlace := ["math/bits.Sub64", "math/bits.Add64", "internal/abi.NoEscape", "internal/bytealg.MakeNoZero"], unfollowed := true, recurses := true, named := ["math/bits.divideError", "math/bits.overflowError", "internal/strconv.uint64pow10", "math/bits.deBruijn32tab", "math/bits.deBruijn64tab"], apart := false, laid := [("math/bits.deBruijn32tab", laid_math_bits_deBruijn32tab), ("math/bits.deBruijn64tab", laid_math_bits_deBruijn64tab), ("internal/strconv.uint64pow10", laid_internal_strconv_uint64pow10)], narrowed := true }
def PlacePlaysUptoSaid : Prop := placePlaysUptoRow.holds Tryz.pinned (OpenSpec.upto placePlaysSpec)

/-- 'turnstonelaw10.PlaceLags', WHERE WHAT IT READS IS OF BULK AT MOST 1048576: true; the input reads as it did. -/
def placeLagsUptoRow : OpenClaim := { program := "ytoioeginfhkjjaagreatdoor", sum := "9892b0f0089e92123ec10239f4b84faae4e752ff97ebe8741bb1013438e601cc", func := "turnstone/turnstonelaw10.PlaceLags", spec := "placeLags", inPlace := ["math/bits.Sub64", "math/bits.Add64", "internal/abi.NoEscape", "internal/bytealg.MakeNoZero"], unfollowed := true, recurses := true, named := ["math/bits.divideError", "math/bits.overflowError", "internal/strconv.uint64pow10", "math/bits.deBruijn32tab", "math/bits.deBruijn64tab"], apart := false, laid := [("math/bits.deBruijn32tab", laid_math_bits_deBruijn32tab), ("math/bits.deBruijn64tab", laid_math_bits_deBruijn64tab), ("internal/strconv.uint64pow10", laid_internal_strconv_uint64pow10)], narrowed := true }
def PlaceLagsUptoSaid : Prop := placeLagsUptoRow.holds Tryz.pinned (OpenSpec.upto placeLagsSpec)

/-- 'turnstonelaw10.PlaceZero', WHERE WHAT IT READS IS OF BULK AT MOST 1048576: true; the input reads as it did. -/
def placeZeroUptoRow : OpenClaim := { program := "ytoioeginfhkjjaagreatdoor", sum := "9892b0f0089e92123ec10239f4b84faae4e752ff97ebe8741bb1013438e601cc", func := "turnstone/turnstonelaw10.PlaceZero", spec := "placeZero", inPlace := ["math/bits.Sub64", "math/bits.Add64", "internal/abi.NoEscape", "internal/bytealg.MakeNoZero"], unfollowed := true, recurses := true, named := ["math/bits.divideError", "math/bits.overflowError", "internal/strconv.uint64pow10", "math/bits.deBruijn32tab", "math/bits.deBruijn64tab"], apart := false, laid := [("math/bits.deBruijn32tab", laid_math_bits_deBruijn32tab), ("math/bits.deBruijn64tab", laid_math_bits_deBruijn64tab), ("internal/strconv.uint64pow10", laid_internal_strconv_uint64pow10)], narrowed := true }
def PlaceZeroUptoSaid : Prop := placeZeroUptoRow.holds Tryz.pinned (OpenSpec.upto placeZeroSpec)

/-- 'turnstonelaw10.PlaceOrders', WHERE WHAT IT READS IS OF BULK AT MOST 1048576: true; the input reads as it did. -/
def placeOrdersUptoRow : OpenClaim := { program := "ytoioeginfhkjjaagreatdoor", sum := "9892b0f0089e92123ec10239f4b84faae4e752ff97ebe8741bb1013438e601cc", func := "turnstone/turnstonelaw10.PlaceOrders", spec := "placeOrders", inPlace := ["math/bits.Sub64", "math/bits.Add64", "internal/abi.NoEscape", "internal/bytealg.MakeNoZero"], unfollowed := true, recurses := true, named := ["math/bits.divideError", "math/bits.overflowError", "internal/strconv.uint64pow10", "math/bits.deBruijn32tab", "math/bits.deBruijn64tab"], apart := false, laid := [("math/bits.deBruijn32tab", laid_math_bits_deBruijn32tab), ("math/bits.deBruijn64tab", laid_math_bits_deBruijn64tab), ("internal/strconv.uint64pow10", laid_internal_strconv_uint64pow10)], narrowed := true }
def PlaceOrdersUptoSaid : Prop := placeOrdersUptoRow.holds Tryz.pinned (OpenSpec.upto placeOrdersSpec)

end Rows
end Go.Proofs.YtoioeginfhkjjaaGreatDoor

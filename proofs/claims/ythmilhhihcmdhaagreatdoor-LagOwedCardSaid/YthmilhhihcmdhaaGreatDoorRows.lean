/-
  NARROWER THAN 'FOR EVERY INPUT', by the rows' own cells (each row's printed sentence says how): MeanSums: laid · LagReads: laid · LagNought: laid · LagOwed: laid · PlacePlays: laid · WeighKeeps: laid · WeighAlone: laid · WeighBack: laid · ClampWindows: laid · ClampCarries: laid · ClampOrders: laid · ClampGrows: laid · ClampRises: laid.
  DERIVED. THE GIVEN ROWS OF THIS SEAT. 13 by the template 'for every input the law returns true; each argument reads behind the call as it read before'; 0 by the template 'total and deterministic' (their statements: YthmilhhihcmdhaaGreatDoorTotals.lean).
  GIVEN WITH THE SEED: the statements are not yours to turn. If you find one false, say at which input.
  Laid BY PROGRAM, IN A SANDBOX (cutbox-rows.mjs): the forced cells as the released guide's own fill.sh prints them over the translation 5f7670ff825aa0b1… (all of the seat's roots in one cut). By AI agents, Wed Nov 11 2026. No macro, syntax, notation, axiom, sorry.
-/
import Derived.Test.YthmilhhihcmdhaaGreatDoorChecked
import GoSem.Claim
import GoSem.ClaimJoined
import GoSem.ClaimMapViews
import Derived.JoinedTies
import Derived.KernelRfl
namespace Go.Proofs.YthmilhhihcmdhaaGreatDoor
/- THE CELL 'sum', in the pinned program and in every row, IS THE sha256 OF THE DUMP (.gsa) THAT YthmilhhihcmdhaaGreatDoorProg.lean LOADS. Nothing in Lean hashes anything: it is a label: what it is worth is what the hold of that sum in a sandbox is worth. -/
noncomputable def Tryz.pinned : Pinned := { name := "ythmilhhihcmdhaagreatdoor", sum := "5f7670ff825aa0b14207b06705fb80a29af79d35660c27ec1df47a3bd9deaee0", checked := Tryz.checked }
namespace Rows
def none {H : Type} : Left H := { results := [], args := [] }

/- WHAT THE LISTED PACKAGE-LEVEL VARIABLES READ AS WHEN THE CALL BEGINS. Each datum BY PROGRAM (the guide's laid-datum.mjs) off the statement by which the dump's own 'gosem.cut.vars' lays the variable. In a bare row this is a premise. The card (YthmilhhihcmdhaaGreatDoorCards.lean) ties it to the program's text. -/
def laid_math_bits_deBruijn32tab {H : Type} : DataW H := .agg [.lit (.int .u8 0), .lit (.int .u8 1), .lit (.int .u8 28), .lit (.int .u8 2), .lit (.int .u8 29), .lit (.int .u8 14), .lit (.int .u8 24), .lit (.int .u8 3), .lit (.int .u8 30), .lit (.int .u8 22), .lit (.int .u8 20), .lit (.int .u8 15), .lit (.int .u8 25), .lit (.int .u8 17), .lit (.int .u8 4), .lit (.int .u8 8), .lit (.int .u8 31), .lit (.int .u8 27), .lit (.int .u8 13), .lit (.int .u8 23), .lit (.int .u8 21), .lit (.int .u8 19), .lit (.int .u8 16), .lit (.int .u8 7), .lit (.int .u8 26), .lit (.int .u8 12), .lit (.int .u8 18), .lit (.int .u8 6), .lit (.int .u8 11), .lit (.int .u8 5), .lit (.int .u8 10), .lit (.int .u8 9)]
def laid_math_bits_deBruijn64tab {H : Type} : DataW H := .agg [.lit (.int .u8 0), .lit (.int .u8 1), .lit (.int .u8 56), .lit (.int .u8 2), .lit (.int .u8 57), .lit (.int .u8 49), .lit (.int .u8 28), .lit (.int .u8 3), .lit (.int .u8 61), .lit (.int .u8 58), .lit (.int .u8 42), .lit (.int .u8 50), .lit (.int .u8 38), .lit (.int .u8 29), .lit (.int .u8 17), .lit (.int .u8 4), .lit (.int .u8 62), .lit (.int .u8 47), .lit (.int .u8 59), .lit (.int .u8 36), .lit (.int .u8 45), .lit (.int .u8 43), .lit (.int .u8 51), .lit (.int .u8 22), .lit (.int .u8 53), .lit (.int .u8 39), .lit (.int .u8 33), .lit (.int .u8 30), .lit (.int .u8 24), .lit (.int .u8 18), .lit (.int .u8 12), .lit (.int .u8 5), .lit (.int .u8 63), .lit (.int .u8 55), .lit (.int .u8 48), .lit (.int .u8 27), .lit (.int .u8 60), .lit (.int .u8 41), .lit (.int .u8 37), .lit (.int .u8 16), .lit (.int .u8 46), .lit (.int .u8 35), .lit (.int .u8 44), .lit (.int .u8 21), .lit (.int .u8 52), .lit (.int .u8 32), .lit (.int .u8 23), .lit (.int .u8 11), .lit (.int .u8 54), .lit (.int .u8 26), .lit (.int .u8 40), .lit (.int .u8 15), .lit (.int .u8 34), .lit (.int .u8 20), .lit (.int .u8 31), .lit (.int .u8 10), .lit (.int .u8 25), .lit (.int .u8 14), .lit (.int .u8 19), .lit (.int .u8 9), .lit (.int .u8 13), .lit (.int .u8 8), .lit (.int .u8 7), .lit (.int .u8 6)]
def laid_internal_strconv_uint64pow10 {H : Type} : DataW H := .agg [.lit (.int .u64 1), .lit (.int .u64 10), .lit (.int .u64 100), .lit (.int .u64 1000), .lit (.int .u64 10000), .lit (.int .u64 100000), .lit (.int .u64 1000000), .lit (.int .u64 10000000), .lit (.int .u64 100000000), .lit (.int .u64 1000000000), .lit (.int .u64 10000000000), .lit (.int .u64 100000000000), .lit (.int .u64 1000000000000), .lit (.int .u64 10000000000000), .lit (.int .u64 100000000000000), .lit (.int .u64 1000000000000000), .lit (.int .u64 10000000000000000), .lit (.int .u64 100000000000000000), .lit (.int .u64 1000000000000000000), .lit (.int .u64 10000000000000000000)]

/-- 'turnstonelaw08.MeanSums': WHATEVER THE INPUT: true; the input reads as it did. -/
def meanSumsSpec : ChangeSpec := { name := "meanSums", fn := fun _ => fun
  | [d1, d2] => { results := [.lit (.bool true)], args := [d1, d2] }
  | _ => none }
def meanSumsRow : OpenClaim := { program := "ythmilhhihcmdhaagreatdoor", sum := "5f7670ff825aa0b14207b06705fb80a29af79d35660c27ec1df47a3bd9deaee0", func := "turnstone/turnstonelaw08.MeanSums", spec := "meanSums", inPlace := ["math/bits.Sub64", "math/bits.Add64", "internal/abi.NoEscape", "internal/bytealg.MakeNoZero"], unfollowed := true, recurses := true, named := ["math/bits.divideError", "math/bits.overflowError", "internal/strconv.uint64pow10", "math/bits.deBruijn32tab", "math/bits.deBruijn64tab"], apart := false, laid := [("math/bits.deBruijn32tab", laid_math_bits_deBruijn32tab), ("math/bits.deBruijn64tab", laid_math_bits_deBruijn64tab), ("internal/strconv.uint64pow10", laid_internal_strconv_uint64pow10)] }
def MeanSumsSaid : Prop := meanSumsRow.holds Tryz.pinned (OpenSpec.ofChange meanSumsSpec)

/-- ITS FALSE NEIGHBOUR: 'it returns false'. Refute it at one input. -/
def meanSumsWrong : ChangeSpec := { name := "meanSums", fn := fun _ => fun
  | [d1, d2] => { results := [.lit (.bool false)], args := [d1, d2] }
  | _ => none }
def MeanSumsWrongFalsely : Prop := meanSumsRow.holds Tryz.pinned (OpenSpec.ofChange meanSumsWrong)

/-- 'turnstonelaw09.LagReads': WHATEVER THE INPUT: true; the input reads as it did. -/
def lagReadsSpec : ChangeSpec := { name := "lagReads", fn := fun _ => fun
  | [d1, d2] => { results := [.lit (.bool true)], args := [d1, d2] }
  | _ => none }
def lagReadsRow : OpenClaim := { program := "ythmilhhihcmdhaagreatdoor", sum := "5f7670ff825aa0b14207b06705fb80a29af79d35660c27ec1df47a3bd9deaee0", func := "turnstone/turnstonelaw09.LagReads", spec := "lagReads", inPlace := ["math/bits.Sub64", "math/bits.Add64", "internal/abi.NoEscape", "internal/bytealg.MakeNoZero"], unfollowed := true, recurses := true, named := ["math/bits.divideError", "math/bits.overflowError", "internal/strconv.uint64pow10", "math/bits.deBruijn32tab", "math/bits.deBruijn64tab"], apart := false, laid := [("math/bits.deBruijn32tab", laid_math_bits_deBruijn32tab), ("math/bits.deBruijn64tab", laid_math_bits_deBruijn64tab), ("internal/strconv.uint64pow10", laid_internal_strconv_uint64pow10)] }
def LagReadsSaid : Prop := lagReadsRow.holds Tryz.pinned (OpenSpec.ofChange lagReadsSpec)

/-- ITS FALSE NEIGHBOUR: 'it returns false'. Refute it at one input. -/
def lagReadsWrong : ChangeSpec := { name := "lagReads", fn := fun _ => fun
  | [d1, d2] => { results := [.lit (.bool false)], args := [d1, d2] }
  | _ => none }
def LagReadsWrongFalsely : Prop := lagReadsRow.holds Tryz.pinned (OpenSpec.ofChange lagReadsWrong)

/-- 'turnstonelaw09.LagNought': WHATEVER THE INPUT: true; the input reads as it did. -/
def lagNoughtSpec : ChangeSpec := { name := "lagNought", fn := fun _ => fun
  | [d1, d2] => { results := [.lit (.bool true)], args := [d1, d2] }
  | _ => none }
def lagNoughtRow : OpenClaim := { program := "ythmilhhihcmdhaagreatdoor", sum := "5f7670ff825aa0b14207b06705fb80a29af79d35660c27ec1df47a3bd9deaee0", func := "turnstone/turnstonelaw09.LagNought", spec := "lagNought", inPlace := ["math/bits.Sub64", "math/bits.Add64", "internal/abi.NoEscape", "internal/bytealg.MakeNoZero"], unfollowed := true, recurses := true, named := ["math/bits.divideError", "math/bits.overflowError", "internal/strconv.uint64pow10", "math/bits.deBruijn32tab", "math/bits.deBruijn64tab"], apart := false, laid := [("math/bits.deBruijn32tab", laid_math_bits_deBruijn32tab), ("math/bits.deBruijn64tab", laid_math_bits_deBruijn64tab), ("internal/strconv.uint64pow10", laid_internal_strconv_uint64pow10)] }
def LagNoughtSaid : Prop := lagNoughtRow.holds Tryz.pinned (OpenSpec.ofChange lagNoughtSpec)

/-- ITS FALSE NEIGHBOUR: 'it returns false'. Refute it at one input. -/
def lagNoughtWrong : ChangeSpec := { name := "lagNought", fn := fun _ => fun
  | [d1, d2] => { results := [.lit (.bool false)], args := [d1, d2] }
  | _ => none }
def LagNoughtWrongFalsely : Prop := lagNoughtRow.holds Tryz.pinned (OpenSpec.ofChange lagNoughtWrong)

/-- 'turnstonelaw09.LagOwed': WHATEVER THE INPUT: true; the input reads as it did. -/
def lagOwedSpec : ChangeSpec := { name := "lagOwed", fn := fun _ => fun
  | [d1, d2, d3] => { results := [.lit (.bool true)], args := [d1, d2, d3] }
  | _ => none }
def lagOwedRow : OpenClaim := { program := "ythmilhhihcmdhaagreatdoor", sum := "5f7670ff825aa0b14207b06705fb80a29af79d35660c27ec1df47a3bd9deaee0", func := "turnstone/turnstonelaw09.LagOwed", spec := "lagOwed", inPlace := ["math/bits.Sub64", "math/bits.Add64", "internal/abi.NoEscape", "internal/bytealg.MakeNoZero"], unfollowed := true, recurses := true, named := ["math/bits.divideError", "math/bits.overflowError", "internal/strconv.uint64pow10", "math/bits.deBruijn32tab", "math/bits.deBruijn64tab"], apart := false, laid := [("math/bits.deBruijn32tab", laid_math_bits_deBruijn32tab), ("math/bits.deBruijn64tab", laid_math_bits_deBruijn64tab), ("internal/strconv.uint64pow10", laid_internal_strconv_uint64pow10)] }
def LagOwedSaid : Prop := lagOwedRow.holds Tryz.pinned (OpenSpec.ofChange lagOwedSpec)

/-- ITS FALSE NEIGHBOUR: 'it returns false'. Refute it at one input. -/
def lagOwedWrong : ChangeSpec := { name := "lagOwed", fn := fun _ => fun
  | [d1, d2, d3] => { results := [.lit (.bool false)], args := [d1, d2, d3] }
  | _ => none }
def LagOwedWrongFalsely : Prop := lagOwedRow.holds Tryz.pinned (OpenSpec.ofChange lagOwedWrong)

/-- 'turnstonelaw10.PlacePlays': WHATEVER THE INPUT: true; the input reads as it did. -/
def placePlaysSpec : ChangeSpec := { name := "placePlays", fn := fun _ => fun
  | [d1, d2, d3, d4] => { results := [.lit (.bool true)], args := [d1, d2, d3, d4] }
  | _ => none }
def placePlaysRow : OpenClaim := { program := "ythmilhhihcmdhaagreatdoor", sum := "5f7670ff825aa0b14207b06705fb80a29af79d35660c27ec1df47a3bd9deaee0", func := "turnstone/turnstonelaw10.PlacePlays", spec := "placePlays", inPlace := ["math/bits.Sub64", "math/bits.Add64", "internal/abi.NoEscape", "internal/bytealg.MakeNoZero"], unfollowed := true, recurses := true, named := ["math/bits.divideError", "math/bits.overflowError", "internal/strconv.uint64pow10", "math/bits.deBruijn32tab", "math/bits.deBruijn64tab"], apart := false, laid := [("math/bits.deBruijn32tab", laid_math_bits_deBruijn32tab), ("math/bits.deBruijn64tab", laid_math_bits_deBruijn64tab), ("internal/strconv.uint64pow10", laid_internal_strconv_uint64pow10)] }
def PlacePlaysSaid : Prop := placePlaysRow.holds Tryz.pinned (OpenSpec.ofChange placePlaysSpec)

/-- ITS FALSE NEIGHBOUR: 'it returns false'. Refute it at one input. -/
def placePlaysWrong : ChangeSpec := { name := "placePlays", fn := fun _ => fun
  | [d1, d2, d3, d4] => { results := [.lit (.bool false)], args := [d1, d2, d3, d4] }
  | _ => none }
def PlacePlaysWrongFalsely : Prop := placePlaysRow.holds Tryz.pinned (OpenSpec.ofChange placePlaysWrong)

/-- 'turnstonelaw11.WeighKeeps': WHATEVER THE INPUT: true; the input reads as it did. -/
def weighKeepsSpec : ChangeSpec := { name := "weighKeeps", fn := fun _ => fun
  | [d1, d2, d3, d4] => { results := [.lit (.bool true)], args := [d1, d2, d3, d4] }
  | _ => none }
def weighKeepsRow : OpenClaim := { program := "ythmilhhihcmdhaagreatdoor", sum := "5f7670ff825aa0b14207b06705fb80a29af79d35660c27ec1df47a3bd9deaee0", func := "turnstone/turnstonelaw11.WeighKeeps", spec := "weighKeeps", inPlace := ["math/bits.Sub64", "math/bits.Add64", "internal/abi.NoEscape", "internal/bytealg.MakeNoZero"], unfollowed := true, recurses := true, named := ["math/bits.divideError", "math/bits.overflowError", "internal/strconv.uint64pow10", "math/bits.deBruijn32tab", "math/bits.deBruijn64tab"], apart := false, laid := [("math/bits.deBruijn32tab", laid_math_bits_deBruijn32tab), ("math/bits.deBruijn64tab", laid_math_bits_deBruijn64tab), ("internal/strconv.uint64pow10", laid_internal_strconv_uint64pow10)] }
def WeighKeepsSaid : Prop := weighKeepsRow.holds Tryz.pinned (OpenSpec.ofChange weighKeepsSpec)

/-- ITS FALSE NEIGHBOUR: 'it returns false'. Refute it at one input. -/
def weighKeepsWrong : ChangeSpec := { name := "weighKeeps", fn := fun _ => fun
  | [d1, d2, d3, d4] => { results := [.lit (.bool false)], args := [d1, d2, d3, d4] }
  | _ => none }
def WeighKeepsWrongFalsely : Prop := weighKeepsRow.holds Tryz.pinned (OpenSpec.ofChange weighKeepsWrong)

/-- 'turnstonelaw11.WeighAlone': WHATEVER THE INPUT: true; the input reads as it did. -/
def weighAloneSpec : ChangeSpec := { name := "weighAlone", fn := fun _ => fun
  | [d1, d2] => { results := [.lit (.bool true)], args := [d1, d2] }
  | _ => none }
def weighAloneRow : OpenClaim := { program := "ythmilhhihcmdhaagreatdoor", sum := "5f7670ff825aa0b14207b06705fb80a29af79d35660c27ec1df47a3bd9deaee0", func := "turnstone/turnstonelaw11.WeighAlone", spec := "weighAlone", inPlace := ["math/bits.Sub64", "math/bits.Add64", "internal/abi.NoEscape", "internal/bytealg.MakeNoZero"], unfollowed := true, recurses := true, named := ["math/bits.divideError", "math/bits.overflowError", "internal/strconv.uint64pow10", "math/bits.deBruijn32tab", "math/bits.deBruijn64tab"], apart := false, laid := [("math/bits.deBruijn32tab", laid_math_bits_deBruijn32tab), ("math/bits.deBruijn64tab", laid_math_bits_deBruijn64tab), ("internal/strconv.uint64pow10", laid_internal_strconv_uint64pow10)] }
def WeighAloneSaid : Prop := weighAloneRow.holds Tryz.pinned (OpenSpec.ofChange weighAloneSpec)

/-- ITS FALSE NEIGHBOUR: 'it returns false'. Refute it at one input. -/
def weighAloneWrong : ChangeSpec := { name := "weighAlone", fn := fun _ => fun
  | [d1, d2] => { results := [.lit (.bool false)], args := [d1, d2] }
  | _ => none }
def WeighAloneWrongFalsely : Prop := weighAloneRow.holds Tryz.pinned (OpenSpec.ofChange weighAloneWrong)

/-- 'turnstonelaw11.WeighBack': WHATEVER THE INPUT: true; the input reads as it did. -/
def weighBackSpec : ChangeSpec := { name := "weighBack", fn := fun _ => fun
  | [d1, d2, d3, d4] => { results := [.lit (.bool true)], args := [d1, d2, d3, d4] }
  | _ => none }
def weighBackRow : OpenClaim := { program := "ythmilhhihcmdhaagreatdoor", sum := "5f7670ff825aa0b14207b06705fb80a29af79d35660c27ec1df47a3bd9deaee0", func := "turnstone/turnstonelaw11.WeighBack", spec := "weighBack", inPlace := ["math/bits.Sub64", "math/bits.Add64", "internal/abi.NoEscape", "internal/bytealg.MakeNoZero"], unfollowed := true, recurses := true, named := ["math/bits.divideError", "math/bits.overflowError", "internal/strconv.uint64pow10", "math/bits.deBruijn32tab", "math/bits.deBruijn64tab"], apart := false, laid := [("math/bits.deBruijn32tab", laid_math_bits_deBruijn32tab), ("math/bits.deBruijn64tab", laid_math_bits_deBruijn64tab), ("internal/strconv.uint64pow10", laid_internal_strconv_uint64pow10)] }
def WeighBackSaid : Prop := weighBackRow.holds Tryz.pinned (OpenSpec.ofChange weighBackSpec)

/-- ITS FALSE NEIGHBOUR: 'it returns false'. Refute it at one input. -/
def weighBackWrong : ChangeSpec := { name := "weighBack", fn := fun _ => fun
  | [d1, d2, d3, d4] => { results := [.lit (.bool false)], args := [d1, d2, d3, d4] }
  | _ => none }
def WeighBackWrongFalsely : Prop := weighBackRow.holds Tryz.pinned (OpenSpec.ofChange weighBackWrong)

/-- 'turnstonelaw12.ClampWindows': WHATEVER THE INPUT: true; the input reads as it did. -/
def clampWindowsSpec : ChangeSpec := { name := "clampWindows", fn := fun _ => fun
  | [d1, d2, d3, d4] => { results := [.lit (.bool true)], args := [d1, d2, d3, d4] }
  | _ => none }
def clampWindowsRow : OpenClaim := { program := "ythmilhhihcmdhaagreatdoor", sum := "5f7670ff825aa0b14207b06705fb80a29af79d35660c27ec1df47a3bd9deaee0", func := "turnstone/turnstonelaw12.ClampWindows", spec := "clampWindows", inPlace := ["math/bits.Sub64", "math/bits.Add64", "internal/abi.NoEscape", "internal/bytealg.MakeNoZero"], unfollowed := true, recurses := true, named := ["math/bits.divideError", "math/bits.overflowError", "internal/strconv.uint64pow10", "math/bits.deBruijn32tab", "math/bits.deBruijn64tab"], apart := false, laid := [("math/bits.deBruijn32tab", laid_math_bits_deBruijn32tab), ("math/bits.deBruijn64tab", laid_math_bits_deBruijn64tab), ("internal/strconv.uint64pow10", laid_internal_strconv_uint64pow10)] }
def ClampWindowsSaid : Prop := clampWindowsRow.holds Tryz.pinned (OpenSpec.ofChange clampWindowsSpec)

/-- ITS FALSE NEIGHBOUR: 'it returns false'. Refute it at one input. -/
def clampWindowsWrong : ChangeSpec := { name := "clampWindows", fn := fun _ => fun
  | [d1, d2, d3, d4] => { results := [.lit (.bool false)], args := [d1, d2, d3, d4] }
  | _ => none }
def ClampWindowsWrongFalsely : Prop := clampWindowsRow.holds Tryz.pinned (OpenSpec.ofChange clampWindowsWrong)

/-- 'turnstonelaw12.ClampCarries': WHATEVER THE INPUT: true; the input reads as it did. -/
def clampCarriesSpec : ChangeSpec := { name := "clampCarries", fn := fun _ => fun
  | [d1, d2] => { results := [.lit (.bool true)], args := [d1, d2] }
  | _ => none }
def clampCarriesRow : OpenClaim := { program := "ythmilhhihcmdhaagreatdoor", sum := "5f7670ff825aa0b14207b06705fb80a29af79d35660c27ec1df47a3bd9deaee0", func := "turnstone/turnstonelaw12.ClampCarries", spec := "clampCarries", inPlace := ["math/bits.Sub64", "math/bits.Add64", "internal/abi.NoEscape", "internal/bytealg.MakeNoZero"], unfollowed := true, recurses := true, named := ["math/bits.divideError", "math/bits.overflowError", "internal/strconv.uint64pow10", "math/bits.deBruijn32tab", "math/bits.deBruijn64tab"], apart := false, laid := [("math/bits.deBruijn32tab", laid_math_bits_deBruijn32tab), ("math/bits.deBruijn64tab", laid_math_bits_deBruijn64tab), ("internal/strconv.uint64pow10", laid_internal_strconv_uint64pow10)] }
def ClampCarriesSaid : Prop := clampCarriesRow.holds Tryz.pinned (OpenSpec.ofChange clampCarriesSpec)

/-- ITS FALSE NEIGHBOUR: 'it returns false'. Refute it at one input. -/
def clampCarriesWrong : ChangeSpec := { name := "clampCarries", fn := fun _ => fun
  | [d1, d2] => { results := [.lit (.bool false)], args := [d1, d2] }
  | _ => none }
def ClampCarriesWrongFalsely : Prop := clampCarriesRow.holds Tryz.pinned (OpenSpec.ofChange clampCarriesWrong)

/-- 'turnstonelaw12.ClampOrders': WHATEVER THE INPUT: true; the input reads as it did. -/
def clampOrdersSpec : ChangeSpec := { name := "clampOrders", fn := fun _ => fun
  | [d1, d2, d3] => { results := [.lit (.bool true)], args := [d1, d2, d3] }
  | _ => none }
def clampOrdersRow : OpenClaim := { program := "ythmilhhihcmdhaagreatdoor", sum := "5f7670ff825aa0b14207b06705fb80a29af79d35660c27ec1df47a3bd9deaee0", func := "turnstone/turnstonelaw12.ClampOrders", spec := "clampOrders", inPlace := ["math/bits.Sub64", "math/bits.Add64", "internal/abi.NoEscape", "internal/bytealg.MakeNoZero"], unfollowed := true, recurses := true, named := ["math/bits.divideError", "math/bits.overflowError", "internal/strconv.uint64pow10", "math/bits.deBruijn32tab", "math/bits.deBruijn64tab"], apart := false, laid := [("math/bits.deBruijn32tab", laid_math_bits_deBruijn32tab), ("math/bits.deBruijn64tab", laid_math_bits_deBruijn64tab), ("internal/strconv.uint64pow10", laid_internal_strconv_uint64pow10)] }
def ClampOrdersSaid : Prop := clampOrdersRow.holds Tryz.pinned (OpenSpec.ofChange clampOrdersSpec)

/-- ITS FALSE NEIGHBOUR: 'it returns false'. Refute it at one input. -/
def clampOrdersWrong : ChangeSpec := { name := "clampOrders", fn := fun _ => fun
  | [d1, d2, d3] => { results := [.lit (.bool false)], args := [d1, d2, d3] }
  | _ => none }
def ClampOrdersWrongFalsely : Prop := clampOrdersRow.holds Tryz.pinned (OpenSpec.ofChange clampOrdersWrong)

/-- 'turnstonelaw12.ClampGrows': WHATEVER THE INPUT: true; the input reads as it did. -/
def clampGrowsSpec : ChangeSpec := { name := "clampGrows", fn := fun _ => fun
  | [d1, d2, d3, d4] => { results := [.lit (.bool true)], args := [d1, d2, d3, d4] }
  | _ => none }
def clampGrowsRow : OpenClaim := { program := "ythmilhhihcmdhaagreatdoor", sum := "5f7670ff825aa0b14207b06705fb80a29af79d35660c27ec1df47a3bd9deaee0", func := "turnstone/turnstonelaw12.ClampGrows", spec := "clampGrows", inPlace := ["math/bits.Sub64", "math/bits.Add64", "internal/abi.NoEscape", "internal/bytealg.MakeNoZero"], unfollowed := true, recurses := true, named := ["math/bits.divideError", "math/bits.overflowError", "internal/strconv.uint64pow10", "math/bits.deBruijn32tab", "math/bits.deBruijn64tab"], apart := false, laid := [("math/bits.deBruijn32tab", laid_math_bits_deBruijn32tab), ("math/bits.deBruijn64tab", laid_math_bits_deBruijn64tab), ("internal/strconv.uint64pow10", laid_internal_strconv_uint64pow10)] }
def ClampGrowsSaid : Prop := clampGrowsRow.holds Tryz.pinned (OpenSpec.ofChange clampGrowsSpec)

/-- ITS FALSE NEIGHBOUR: 'it returns false'. Refute it at one input. -/
def clampGrowsWrong : ChangeSpec := { name := "clampGrows", fn := fun _ => fun
  | [d1, d2, d3, d4] => { results := [.lit (.bool false)], args := [d1, d2, d3, d4] }
  | _ => none }
def ClampGrowsWrongFalsely : Prop := clampGrowsRow.holds Tryz.pinned (OpenSpec.ofChange clampGrowsWrong)

/-- 'turnstonelaw12.ClampRises': WHATEVER THE INPUT: true; the input reads as it did. -/
def clampRisesSpec : ChangeSpec := { name := "clampRises", fn := fun _ => fun
  | [d1, d2] => { results := [.lit (.bool true)], args := [d1, d2] }
  | _ => none }
def clampRisesRow : OpenClaim := { program := "ythmilhhihcmdhaagreatdoor", sum := "5f7670ff825aa0b14207b06705fb80a29af79d35660c27ec1df47a3bd9deaee0", func := "turnstone/turnstonelaw12.ClampRises", spec := "clampRises", inPlace := ["math/bits.Sub64", "math/bits.Add64", "internal/abi.NoEscape", "internal/bytealg.MakeNoZero"], unfollowed := true, recurses := true, named := ["math/bits.divideError", "math/bits.overflowError", "internal/strconv.uint64pow10", "math/bits.deBruijn32tab", "math/bits.deBruijn64tab"], apart := false, laid := [("math/bits.deBruijn32tab", laid_math_bits_deBruijn32tab), ("math/bits.deBruijn64tab", laid_math_bits_deBruijn64tab), ("internal/strconv.uint64pow10", laid_internal_strconv_uint64pow10)] }
def ClampRisesSaid : Prop := clampRisesRow.holds Tryz.pinned (OpenSpec.ofChange clampRisesSpec)

/-- ITS FALSE NEIGHBOUR: 'it returns false'. Refute it at one input. -/
def clampRisesWrong : ChangeSpec := { name := "clampRises", fn := fun _ => fun
  | [d1, d2] => { results := [.lit (.bool false)], args := [d1, d2] }
  | _ => none }
def ClampRisesWrongFalsely : Prop := clampRisesRow.holds Tryz.pinned (OpenSpec.ofChange clampRisesWrong)

/- THE SECOND FORM. 'bulk': how many values and letters a reading holds, each counted each time it is reached (what is shared counts as often as it is met; a slice's spare places count too). A statement '..UptoSaid' is the law's where the arguments, and the package variables that the reading takes, are together of bulk at most 1048576: NARROWER than '..Said'. Prove '..Said' where nothing that the law and all that it calls make is longer than what came in: it says more and counts as full. Else prove '..UptoSaid'. A law counts once. -/
mutual
def uptoBulk {H : Type} : DataW H → Nat
  | .lit (.string bytes) => bytes.length + 1
  | .lit _ => 1
  | .nil => 1
  | .ptr d => uptoBulk d + 1
  | .slice elems spare => uptoBulkAll elems + uptoBulkAll spare + 1
  | .agg parts => uptoBulkAll parts + 1
  | .iface _ d => uptoBulk d + 1
  | .map entries => uptoBulkEntries entries + 1
  | .held _ => 1
def uptoBulkAll {H : Type} : List (DataW H) → Nat
  | [] => 0
  | d :: r => uptoBulk d + uptoBulkAll r
def uptoBulkEntries {H : Type} : List (Lit × DataW H) → Nat
  | [] => 0
  | x :: r => uptoBulkEntry x + uptoBulkEntries r
def uptoBulkEntry {H : Type} : Lit × DataW H → Nat
  | (.string bytes, d) => bytes.length + uptoBulk d + 1
  | (_, d) => uptoBulk d + 1
 end
def uptoSmall : (H : Type) → List (DataW H) → Bool := fun _ ds => decide (uptoBulkAll ds ≤ 1048576)
def OpenSpec.upto (s : _root_.Go.ChangeSpec) : _root_.Go.OpenSpec := { _root_.Go.OpenSpec.ofChange s with cond := some uptoSmall }

/-- 'turnstonelaw08.MeanSums', WHERE WHAT IT READS IS OF BULK AT MOST 1048576: true; the input reads as it did. -/
def meanSumsUptoRow : OpenClaim := { program := "ythmilhhihcmdhaagreatdoor", sum := "5f7670ff825aa0b14207b06705fb80a29af79d35660c27ec1df47a3bd9deaee0", func := "turnstone/turnstonelaw08.MeanSums", spec := "meanSums", inPlace := ["math/bits.Sub64", "math/bits.Add64", "internal/abi.NoEscape", "internal/bytealg.MakeNoZero"], unfollowed := true, recurses := true, named := ["math/bits.divideError", "math/bits.overflowError", "internal/strconv.uint64pow10", "math/bits.deBruijn32tab", "math/bits.deBruijn64tab"], apart := false, laid := [("math/bits.deBruijn32tab", laid_math_bits_deBruijn32tab), ("math/bits.deBruijn64tab", laid_math_bits_deBruijn64tab), ("internal/strconv.uint64pow10", laid_internal_strconv_uint64pow10)], narrowed := true }
def MeanSumsUptoSaid : Prop := meanSumsUptoRow.holds Tryz.pinned (OpenSpec.upto meanSumsSpec)

/-- 'turnstonelaw09.LagReads', WHERE WHAT IT READS IS OF BULK AT MOST 1048576: true; the input reads as it did. -/
def lagReadsUptoRow : OpenClaim := { program := "ythmilhhihcmdhaagreatdoor", sum := "5f7670ff825aa0b14207b06705fb80a29af79d35660c27ec1df47a3bd9deaee0", func := "turnstone/turnstonelaw09.LagReads", spec := "lagReads", inPlace := ["math/bits.Sub64", "math/bits.Add64", "internal/abi.NoEscape", "internal/bytealg.MakeNoZero"], unfollowed := true, recurses := true, named := ["math/bits.divideError", "math/bits.overflowError", "internal/strconv.uint64pow10", "math/bits.deBruijn32tab", "math/bits.deBruijn64tab"], apart := false, laid := [("math/bits.deBruijn32tab", laid_math_bits_deBruijn32tab), ("math/bits.deBruijn64tab", laid_math_bits_deBruijn64tab), ("internal/strconv.uint64pow10", laid_internal_strconv_uint64pow10)], narrowed := true }
def LagReadsUptoSaid : Prop := lagReadsUptoRow.holds Tryz.pinned (OpenSpec.upto lagReadsSpec)

/-- 'turnstonelaw09.LagNought', WHERE WHAT IT READS IS OF BULK AT MOST 1048576: true; the input reads as it did. -/
def lagNoughtUptoRow : OpenClaim := { program := "ythmilhhihcmdhaagreatdoor", sum := "5f7670ff825aa0b14207b06705fb80a29af79d35660c27ec1df47a3bd9deaee0", func := "turnstone/turnstonelaw09.LagNought", spec := "lagNought", inPlace := ["math/bits.Sub64", "math/bits.Add64", "internal/abi.NoEscape", "internal/bytealg.MakeNoZero"], unfollowed := true, recurses := true, named := ["math/bits.divideError", "math/bits.overflowError", "internal/strconv.uint64pow10", "math/bits.deBruijn32tab", "math/bits.deBruijn64tab"], apart := false, laid := [("math/bits.deBruijn32tab", laid_math_bits_deBruijn32tab), ("math/bits.deBruijn64tab", laid_math_bits_deBruijn64tab), ("internal/strconv.uint64pow10", laid_internal_strconv_uint64pow10)], narrowed := true }
def LagNoughtUptoSaid : Prop := lagNoughtUptoRow.holds Tryz.pinned (OpenSpec.upto lagNoughtSpec)

/-- 'turnstonelaw09.LagOwed', WHERE WHAT IT READS IS OF BULK AT MOST 1048576: true; the input reads as it did. -/
def lagOwedUptoRow : OpenClaim := { program := "ythmilhhihcmdhaagreatdoor", sum := "5f7670ff825aa0b14207b06705fb80a29af79d35660c27ec1df47a3bd9deaee0", func := "turnstone/turnstonelaw09.LagOwed", spec := "lagOwed", inPlace := ["math/bits.Sub64", "math/bits.Add64", "internal/abi.NoEscape", "internal/bytealg.MakeNoZero"], unfollowed := true, recurses := true, named := ["math/bits.divideError", "math/bits.overflowError", "internal/strconv.uint64pow10", "math/bits.deBruijn32tab", "math/bits.deBruijn64tab"], apart := false, laid := [("math/bits.deBruijn32tab", laid_math_bits_deBruijn32tab), ("math/bits.deBruijn64tab", laid_math_bits_deBruijn64tab), ("internal/strconv.uint64pow10", laid_internal_strconv_uint64pow10)], narrowed := true }
def LagOwedUptoSaid : Prop := lagOwedUptoRow.holds Tryz.pinned (OpenSpec.upto lagOwedSpec)

/-- 'turnstonelaw10.PlacePlays', WHERE WHAT IT READS IS OF BULK AT MOST 1048576: true; the input reads as it did. -/
def placePlaysUptoRow : OpenClaim := { program := "ythmilhhihcmdhaagreatdoor", sum := "5f7670ff825aa0b14207b06705fb80a29af79d35660c27ec1df47a3bd9deaee0", func := "turnstone/turnstonelaw10.PlacePlays", spec := "placePlays", inPlace := ["math/bits.Sub64", "math/bits.Add64", "internal/abi.NoEscape", "internal/bytealg.MakeNoZero"], unfollowed := true, recurses := true, named := ["math/bits.divideError", "math/bits.overflowError", "internal/strconv.uint64pow10", "math/bits.deBruijn32tab", "math/bits.deBruijn64tab"], apart := false, laid := [("math/bits.deBruijn32tab", laid_math_bits_deBruijn32tab), ("math/bits.deBruijn64tab", laid_math_bits_deBruijn64tab), ("internal/strconv.uint64pow10", laid_internal_strconv_uint64pow10)], narrowed := true }
def PlacePlaysUptoSaid : Prop := placePlaysUptoRow.holds Tryz.pinned (OpenSpec.upto placePlaysSpec)

/-- 'turnstonelaw11.WeighKeeps', WHERE WHAT IT READS IS OF BULK AT MOST 1048576: true; the input reads as it did. -/
def weighKeepsUptoRow : OpenClaim := { program := "ythmilhhihcmdhaagreatdoor", sum := "5f7670ff825aa0b14207b06705fb80a29af79d35660c27ec1df47a3bd9deaee0", func := "turnstone/turnstonelaw11.WeighKeeps", spec := "weighKeeps", inPlace := ["math/bits.Sub64", "math/bits.Add64", "internal/abi.NoEscape", "internal/bytealg.MakeNoZero"], unfollowed := true, recurses := true, named := ["math/bits.divideError", "math/bits.overflowError", "internal/strconv.uint64pow10", "math/bits.deBruijn32tab", "math/bits.deBruijn64tab"], apart := false, laid := [("math/bits.deBruijn32tab", laid_math_bits_deBruijn32tab), ("math/bits.deBruijn64tab", laid_math_bits_deBruijn64tab), ("internal/strconv.uint64pow10", laid_internal_strconv_uint64pow10)], narrowed := true }
def WeighKeepsUptoSaid : Prop := weighKeepsUptoRow.holds Tryz.pinned (OpenSpec.upto weighKeepsSpec)

/-- 'turnstonelaw11.WeighAlone', WHERE WHAT IT READS IS OF BULK AT MOST 1048576: true; the input reads as it did. -/
def weighAloneUptoRow : OpenClaim := { program := "ythmilhhihcmdhaagreatdoor", sum := "5f7670ff825aa0b14207b06705fb80a29af79d35660c27ec1df47a3bd9deaee0", func := "turnstone/turnstonelaw11.WeighAlone", spec := "weighAlone", inPlace := ["math/bits.Sub64", "math/bits.Add64", "internal/abi.NoEscape", "internal/bytealg.MakeNoZero"], unfollowed := true, recurses := true, named := ["math/bits.divideError", "math/bits.overflowError", "internal/strconv.uint64pow10", "math/bits.deBruijn32tab", "math/bits.deBruijn64tab"], apart := false, laid := [("math/bits.deBruijn32tab", laid_math_bits_deBruijn32tab), ("math/bits.deBruijn64tab", laid_math_bits_deBruijn64tab), ("internal/strconv.uint64pow10", laid_internal_strconv_uint64pow10)], narrowed := true }
def WeighAloneUptoSaid : Prop := weighAloneUptoRow.holds Tryz.pinned (OpenSpec.upto weighAloneSpec)

/-- 'turnstonelaw11.WeighBack', WHERE WHAT IT READS IS OF BULK AT MOST 1048576: true; the input reads as it did. -/
def weighBackUptoRow : OpenClaim := { program := "ythmilhhihcmdhaagreatdoor", sum := "5f7670ff825aa0b14207b06705fb80a29af79d35660c27ec1df47a3bd9deaee0", func := "turnstone/turnstonelaw11.WeighBack", spec := "weighBack", inPlace := ["math/bits.Sub64", "math/bits.Add64", "internal/abi.NoEscape", "internal/bytealg.MakeNoZero"], unfollowed := true, recurses := true, named := ["math/bits.divideError", "math/bits.overflowError", "internal/strconv.uint64pow10", "math/bits.deBruijn32tab", "math/bits.deBruijn64tab"], apart := false, laid := [("math/bits.deBruijn32tab", laid_math_bits_deBruijn32tab), ("math/bits.deBruijn64tab", laid_math_bits_deBruijn64tab), ("internal/strconv.uint64pow10", laid_internal_strconv_uint64pow10)], narrowed := true }
def WeighBackUptoSaid : Prop := weighBackUptoRow.holds Tryz.pinned (OpenSpec.upto weighBackSpec)

/-- 'turnstonelaw12.ClampWindows', WHERE WHAT IT READS IS OF BULK AT MOST 1048576: true; the input reads as it did. -/
def clampWindowsUptoRow : OpenClaim := { program := "ythmilhhihcmdhaagreatdoor", sum := "5f7670ff825aa0b14207b06705fb80a29af79d35660c27ec1df47a3bd9deaee0", func := "turnstone/turnstonelaw12.ClampWindows", spec := "clampWindows", inPlace := ["math/bits.Sub64", "math/bits.Add64", "internal/abi.NoEscape", "internal/bytealg.MakeNoZero"], unfollowed := true, recurses := true, named := ["math/bits.divideError", "math/bits.overflowError", "internal/strconv.uint64pow10", "math/bits.deBruijn32tab", "math/bits.deBruijn64tab"], apart := false, laid := [("math/bits.deBruijn32tab", laid_math_bits_deBruijn32tab), ("math/bits.deBruijn64tab", laid_math_bits_deBruijn64tab), ("internal/strconv.uint64pow10", laid_internal_strconv_uint64pow10)], narrowed := true }
def ClampWindowsUptoSaid : Prop := clampWindowsUptoRow.holds Tryz.pinned (OpenSpec.upto clampWindowsSpec)

/-- 'turnstonelaw12.ClampCarries', WHERE WHAT IT READS IS OF BULK AT MOST 1048576: true; the input reads as it did. -/
def clampCarriesUptoRow : OpenClaim := { program := "ythmilhhihcmdhaagreatdoor", sum := "5f7670ff825aa0b14207b06705fb80a29af79d35660c27ec1df47a3bd9deaee0", func := "turnstone/turnstonelaw12.ClampCarries", spec := "clampCarries", inPlace := ["math/bits.Sub64", "math/bits.Add64", "internal/abi.NoEscape", "internal/bytealg.MakeNoZero"], unfollowed := true, recurses := true, named := ["math/bits.divideError", "math/bits.overflowError", "internal/strconv.uint64pow10", "math/bits.deBruijn32tab", "math/bits.deBruijn64tab"], apart := false, laid := [("math/bits.deBruijn32tab", laid_math_bits_deBruijn32tab), ("math/bits.deBruijn64tab", laid_math_bits_deBruijn64tab), ("internal/strconv.uint64pow10", laid_internal_strconv_uint64pow10)], narrowed := true }
def ClampCarriesUptoSaid : Prop := clampCarriesUptoRow.holds Tryz.pinned (OpenSpec.upto clampCarriesSpec)

/-- 'turnstonelaw12.ClampOrders', WHERE WHAT IT READS IS OF BULK AT MOST 1048576: true; the input reads as it did. -/
def clampOrdersUptoRow : OpenClaim := { program := "ythmilhhihcmdhaagreatdoor", sum := "5f7670ff825aa0b14207b06705fb80a29af79d35660c27ec1df47a3bd9deaee0", func := "turnstone/turnstonelaw12.ClampOrders", spec := "clampOrders", inPlace := ["math/bits.Sub64", "math/bits.Add64", "internal/abi.NoEscape", "internal/bytealg.MakeNoZero"], unfollowed := true, recurses := true, named := ["math/bits.divideError", "math/bits.overflowError", "internal/strconv.uint64pow10", "math/bits.deBruijn32tab", "math/bits.deBruijn64tab"], apart := false, laid := [("math/bits.deBruijn32tab", laid_math_bits_deBruijn32tab), ("math/bits.deBruijn64tab", laid_math_bits_deBruijn64tab), ("internal/strconv.uint64pow10", laid_internal_strconv_uint64pow10)], narrowed := true }
def ClampOrdersUptoSaid : Prop := clampOrdersUptoRow.holds Tryz.pinned (OpenSpec.upto clampOrdersSpec)

/-- 'turnstonelaw12.ClampGrows', WHERE WHAT IT READS IS OF BULK AT MOST 1048576: true; the input reads as it did. -/
def clampGrowsUptoRow : OpenClaim := { program := "ythmilhhihcmdhaagreatdoor", sum := "5f7670ff825aa0b14207b06705fb80a29af79d35660c27ec1df47a3bd9deaee0", func := "turnstone/turnstonelaw12.ClampGrows", spec := "clampGrows", inPlace := ["math/bits.Sub64", "math/bits.Add64", "internal/abi.NoEscape", "internal/bytealg.MakeNoZero"], unfollowed := true, recurses := true, named := ["math/bits.divideError", "math/bits.overflowError", "internal/strconv.uint64pow10", "math/bits.deBruijn32tab", "math/bits.deBruijn64tab"], apart := false, laid := [("math/bits.deBruijn32tab", laid_math_bits_deBruijn32tab), ("math/bits.deBruijn64tab", laid_math_bits_deBruijn64tab), ("internal/strconv.uint64pow10", laid_internal_strconv_uint64pow10)], narrowed := true }
def ClampGrowsUptoSaid : Prop := clampGrowsUptoRow.holds Tryz.pinned (OpenSpec.upto clampGrowsSpec)

/-- 'turnstonelaw12.ClampRises', WHERE WHAT IT READS IS OF BULK AT MOST 1048576: true; the input reads as it did. -/
def clampRisesUptoRow : OpenClaim := { program := "ythmilhhihcmdhaagreatdoor", sum := "5f7670ff825aa0b14207b06705fb80a29af79d35660c27ec1df47a3bd9deaee0", func := "turnstone/turnstonelaw12.ClampRises", spec := "clampRises", inPlace := ["math/bits.Sub64", "math/bits.Add64", "internal/abi.NoEscape", "internal/bytealg.MakeNoZero"], unfollowed := true, recurses := true, named := ["math/bits.divideError", "math/bits.overflowError", "internal/strconv.uint64pow10", "math/bits.deBruijn32tab", "math/bits.deBruijn64tab"], apart := false, laid := [("math/bits.deBruijn32tab", laid_math_bits_deBruijn32tab), ("math/bits.deBruijn64tab", laid_math_bits_deBruijn64tab), ("internal/strconv.uint64pow10", laid_internal_strconv_uint64pow10)], narrowed := true }
def ClampRisesUptoSaid : Prop := clampRisesUptoRow.holds Tryz.pinned (OpenSpec.upto clampRisesSpec)

end Rows
end Go.Proofs.YthmilhhihcmdhaaGreatDoor

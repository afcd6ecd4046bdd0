/-
  No cell of these rows narrows 'for every input' (looked for: loops, veiled, ifaces, maps, wideKeys, modest, calm, conditions, laid).
  DERIVED. THE GIVEN ROWS OF THIS SEAT. 6 by the template 'for every input the law returns true; each argument reads behind the call as it read before'; 0 by the template 'total and deterministic' (their statements: YtmklbmiddeonkaaTotals.lean).
  GIVEN WITH THE SEED: the statements are not yours to turn. If you find one false, say at which input.
  Laid BY PROGRAM, IN A SANDBOX (cutbox-rows.mjs): the forced cells as the released guide's own fill.sh prints them over the translation 62376c5010af1dff… (all of the seat's roots in one cut). By AI agents, Wed Nov 11 2026. No macro, syntax, notation, axiom, sorry.
-/
import Derived.Test.YtmklbmiddeonkaaChecked
import GoSem.Claim
import GoSem.ClaimJoined
import GoSem.ClaimMapViews
import Derived.JoinedTies
import Derived.KernelRfl
namespace Go.Proofs.Ytmklbmiddeonkaa
/- THE CELL 'sum', in the pinned program and in every row, IS THE sha256 OF THE DUMP (.gsa) THAT YtmklbmiddeonkaaProg.lean LOADS. Nothing in Lean hashes anything: it is a label: what it is worth is what the hold of that sum in a sandbox is worth. -/
noncomputable def Try.pinned : Pinned := { name := "ytmklbmiddeonkaa", sum := "62376c5010af1dff0d95af99d4b0c92b7eccf3ba613e32cea14a9d999a105b97", checked := Try.checked }
namespace Rows
def none {H : Type} : Left H := { results := [], args := [] }

/-- 'turnstonelaw05.ItemTells': WHATEVER THE INPUT: true; the input reads as it did. -/
def itemTellsSpec : ChangeSpec := { name := "itemTells", fn := fun _ => fun
  | [d1, d2, d3] => { results := [.lit (.bool true)], args := [d1, d2, d3] }
  | _ => none }
def itemTellsRow : OpenClaim := { program := "ytmklbmiddeonkaa", sum := "62376c5010af1dff0d95af99d4b0c92b7eccf3ba613e32cea14a9d999a105b97", func := "turnstone/turnstonelaw05.ItemTells", spec := "itemTells", inPlace := ["math/bits.Add64", "math/bits.Sub64"], named := ["math/bits.divideError", "math/bits.overflowError"], apart := false }
def ItemTellsSaid : Prop := itemTellsRow.holds Try.pinned (OpenSpec.ofChange itemTellsSpec)

/-- ITS FALSE NEIGHBOUR: 'it returns false'. Refute it at one input. -/
def itemTellsWrong : ChangeSpec := { name := "itemTells", fn := fun _ => fun
  | [d1, d2, d3] => { results := [.lit (.bool false)], args := [d1, d2, d3] }
  | _ => none }
def ItemTellsWrongFalsely : Prop := itemTellsRow.holds Try.pinned (OpenSpec.ofChange itemTellsWrong)

/-- 'turnstonelaw05.ItemSoonest': WHATEVER THE INPUT: true; the input reads as it did. -/
def itemSoonestSpec : ChangeSpec := { name := "itemSoonest", fn := fun _ => fun
  | [d1, d2] => { results := [.lit (.bool true)], args := [d1, d2] }
  | _ => none }
def itemSoonestRow : OpenClaim := { program := "ytmklbmiddeonkaa", sum := "62376c5010af1dff0d95af99d4b0c92b7eccf3ba613e32cea14a9d999a105b97", func := "turnstone/turnstonelaw05.ItemSoonest", spec := "itemSoonest", inPlace := ["math/bits.Add64", "math/bits.Sub64"], named := ["math/bits.divideError", "math/bits.overflowError"], apart := false }
def ItemSoonestSaid : Prop := itemSoonestRow.holds Try.pinned (OpenSpec.ofChange itemSoonestSpec)

/-- ITS FALSE NEIGHBOUR: 'it returns false'. Refute it at one input. -/
def itemSoonestWrong : ChangeSpec := { name := "itemSoonest", fn := fun _ => fun
  | [d1, d2] => { results := [.lit (.bool false)], args := [d1, d2] }
  | _ => none }
def ItemSoonestWrongFalsely : Prop := itemSoonestRow.holds Try.pinned (OpenSpec.ofChange itemSoonestWrong)

/-- 'turnstonelaw06.RbtreePlays': WHATEVER THE INPUT: true; the input reads as it did. -/
def rbtreePlaysSpec : ChangeSpec := { name := "rbtreePlays", fn := fun _ => fun
  | [d1, d2] => { results := [.lit (.bool true)], args := [d1, d2] }
  | _ => none }
def rbtreePlaysRow : OpenClaim := { program := "ytmklbmiddeonkaa", sum := "62376c5010af1dff0d95af99d4b0c92b7eccf3ba613e32cea14a9d999a105b97", func := "turnstone/turnstonelaw06.RbtreePlays", spec := "rbtreePlays", unfollowed := true, recurses := true, apart := false }
def RbtreePlaysSaid : Prop := rbtreePlaysRow.holds Try.pinned (OpenSpec.ofChange rbtreePlaysSpec)

/-- ITS FALSE NEIGHBOUR: 'it returns false'. Refute it at one input. -/
def rbtreePlaysWrong : ChangeSpec := { name := "rbtreePlays", fn := fun _ => fun
  | [d1, d2] => { results := [.lit (.bool false)], args := [d1, d2] }
  | _ => none }
def RbtreePlaysWrongFalsely : Prop := rbtreePlaysRow.holds Try.pinned (OpenSpec.ofChange rbtreePlaysWrong)

/-- 'turnstonelaw06.RbtreeSorts': WHATEVER THE INPUT: true; the input reads as it did. -/
def rbtreeSortsSpec : ChangeSpec := { name := "rbtreeSorts", fn := fun _ => fun
  | [d1, d2] => { results := [.lit (.bool true)], args := [d1, d2] }
  | _ => none }
def rbtreeSortsRow : OpenClaim := { program := "ytmklbmiddeonkaa", sum := "62376c5010af1dff0d95af99d4b0c92b7eccf3ba613e32cea14a9d999a105b97", func := "turnstone/turnstonelaw06.RbtreeSorts", spec := "rbtreeSorts", unfollowed := true, recurses := true, apart := false }
def RbtreeSortsSaid : Prop := rbtreeSortsRow.holds Try.pinned (OpenSpec.ofChange rbtreeSortsSpec)

/-- ITS FALSE NEIGHBOUR: 'it returns false'. Refute it at one input. -/
def rbtreeSortsWrong : ChangeSpec := { name := "rbtreeSorts", fn := fun _ => fun
  | [d1, d2] => { results := [.lit (.bool false)], args := [d1, d2] }
  | _ => none }
def RbtreeSortsWrongFalsely : Prop := rbtreeSortsRow.holds Try.pinned (OpenSpec.ofChange rbtreeSortsWrong)

/-- 'turnstonelaw07.DtreeFirst': WHATEVER THE INPUT: true; the input reads as it did. -/
def dtreeFirstSpec : ChangeSpec := { name := "dtreeFirst", fn := fun _ => fun
  | [d1, d2, d3] => { results := [.lit (.bool true)], args := [d1, d2, d3] }
  | _ => none }
def dtreeFirstRow : OpenClaim := { program := "ytmklbmiddeonkaa", sum := "62376c5010af1dff0d95af99d4b0c92b7eccf3ba613e32cea14a9d999a105b97", func := "turnstone/turnstonelaw07.DtreeFirst", spec := "dtreeFirst", inPlace := ["math/bits.Add64", "math/bits.Sub64"], unfollowed := true, recurses := true, named := ["math/bits.divideError", "math/bits.overflowError"], apart := false }
def DtreeFirstSaid : Prop := dtreeFirstRow.holds Try.pinned (OpenSpec.ofChange dtreeFirstSpec)

/-- ITS FALSE NEIGHBOUR: 'it returns false'. Refute it at one input. -/
def dtreeFirstWrong : ChangeSpec := { name := "dtreeFirst", fn := fun _ => fun
  | [d1, d2, d3] => { results := [.lit (.bool false)], args := [d1, d2, d3] }
  | _ => none }
def DtreeFirstWrongFalsely : Prop := dtreeFirstRow.holds Try.pinned (OpenSpec.ofChange dtreeFirstWrong)

/-- 'turnstonelaw07.DtreeShifts': WHATEVER THE INPUT: true; the input reads as it did. -/
def dtreeShiftsSpec : ChangeSpec := { name := "dtreeShifts", fn := fun _ => fun
  | [d1, d2, d3, d4] => { results := [.lit (.bool true)], args := [d1, d2, d3, d4] }
  | _ => none }
def dtreeShiftsRow : OpenClaim := { program := "ytmklbmiddeonkaa", sum := "62376c5010af1dff0d95af99d4b0c92b7eccf3ba613e32cea14a9d999a105b97", func := "turnstone/turnstonelaw07.DtreeShifts", spec := "dtreeShifts", inPlace := ["math/bits.Add64", "math/bits.Sub64"], unfollowed := true, recurses := true, named := ["math/bits.divideError", "math/bits.overflowError"], apart := false }
def DtreeShiftsSaid : Prop := dtreeShiftsRow.holds Try.pinned (OpenSpec.ofChange dtreeShiftsSpec)

/-- ITS FALSE NEIGHBOUR: 'it returns false'. Refute it at one input. -/
def dtreeShiftsWrong : ChangeSpec := { name := "dtreeShifts", fn := fun _ => fun
  | [d1, d2, d3, d4] => { results := [.lit (.bool false)], args := [d1, d2, d3, d4] }
  | _ => none }
def DtreeShiftsWrongFalsely : Prop := dtreeShiftsRow.holds Try.pinned (OpenSpec.ofChange dtreeShiftsWrong)

/- THE SECOND FORM. 'bulk': how many values and letters a reading holds, each counted each time it is reached (what is shared counts as often as it is met; a slice's spare places count too). A statement '..UptoSaid' is the law's where the arguments, and the package variables that the reading takes, are together of bulk at most 1048576: NARROWER than '..Said'. Prove '..Said' where nothing that the law and all that it calls make is longer than what came in: it says more and counts as full. Else prove '..UptoSaid'. A law counts once. -/
mutual
def uptoBulk {H : Type} : DataW H → Nat
  | .lit (.string bytes) => bytes.length + 1
  | .lit _ => 1
  | .nil => 1
  | .ptr d => uptoBulk d + 1
  | .slice elems spare => uptoBulkAll elems + uptoBulkAll spare + 1
  | .agg parts => uptoBulkAll parts + 1
  | .iface _ d => uptoBulk d + 1
  | .map entries => uptoBulkEntries entries + 1
  | .held _ => 1
def uptoBulkAll {H : Type} : List (DataW H) → Nat
  | [] => 0
  | d :: r => uptoBulk d + uptoBulkAll r
def uptoBulkEntries {H : Type} : List (Lit × DataW H) → Nat
  | [] => 0
  | x :: r => uptoBulkEntry x + uptoBulkEntries r
def uptoBulkEntry {H : Type} : Lit × DataW H → Nat
  | (.string bytes, d) => bytes.length + uptoBulk d + 1
  | (_, d) => uptoBulk d + 1
 end
def uptoSmall : (H : Type) → List (DataW H) → Bool := fun _ ds => decide (uptoBulkAll ds ≤ 1048576)
def OpenSpec.upto (s : _root_.Go.ChangeSpec) : _root_.Go.OpenSpec := { _root_.Go.OpenSpec.ofChange s with cond := some uptoSmall }

/-- 'turnstonelaw05.ItemTells', WHERE WHAT IT READS IS OF BULK AT MOST 1048576: true; the input reads as it did. -/
def itemTellsUptoRow : OpenClaim := { program := "ytmklbmiddeonkaa", sum := "62376c5010af1dff0d95af99d4b0c92b7eccf3ba613e32cea14a9d999a105b97", func := "turnstone/turnstonelaw05.ItemTells", spec := "itemTells", inPlace := ["math/bits.Add64", "math/bits.Sub64"], named := ["math/bits.divideError", "math/bits.overflowError"], apart := false, narrowed := true }
def ItemTellsUptoSaid : Prop := itemTellsUptoRow.holds Try.pinned (OpenSpec.upto itemTellsSpec)

/-- 'turnstonelaw05.ItemSoonest', WHERE WHAT IT READS IS OF BULK AT MOST 1048576: true; the input reads as it did. -/
def itemSoonestUptoRow : OpenClaim := { program := "ytmklbmiddeonkaa", sum := "62376c5010af1dff0d95af99d4b0c92b7eccf3ba613e32cea14a9d999a105b97", func := "turnstone/turnstonelaw05.ItemSoonest", spec := "itemSoonest", inPlace := ["math/bits.Add64", "math/bits.Sub64"], named := ["math/bits.divideError", "math/bits.overflowError"], apart := false, narrowed := true }
def ItemSoonestUptoSaid : Prop := itemSoonestUptoRow.holds Try.pinned (OpenSpec.upto itemSoonestSpec)

/-- 'turnstonelaw06.RbtreePlays', WHERE WHAT IT READS IS OF BULK AT MOST 1048576: true; the input reads as it did. -/
def rbtreePlaysUptoRow : OpenClaim := { program := "ytmklbmiddeonkaa", sum := "62376c5010af1dff0d95af99d4b0c92b7eccf3ba613e32cea14a9d999a105b97", func := "turnstone/turnstonelaw06.RbtreePlays", spec := "rbtreePlays", unfollowed := true, recurses := true, apart := false, narrowed := true }
def RbtreePlaysUptoSaid : Prop := rbtreePlaysUptoRow.holds Try.pinned (OpenSpec.upto rbtreePlaysSpec)

/-- 'turnstonelaw06.RbtreeSorts', WHERE WHAT IT READS IS OF BULK AT MOST 1048576: true; the input reads as it did. -/
def rbtreeSortsUptoRow : OpenClaim := { program := "ytmklbmiddeonkaa", sum := "62376c5010af1dff0d95af99d4b0c92b7eccf3ba613e32cea14a9d999a105b97", func := "turnstone/turnstonelaw06.RbtreeSorts", spec := "rbtreeSorts", unfollowed := true, recurses := true, apart := false, narrowed := true }
def RbtreeSortsUptoSaid : Prop := rbtreeSortsUptoRow.holds Try.pinned (OpenSpec.upto rbtreeSortsSpec)

/-- 'turnstonelaw07.DtreeFirst', WHERE WHAT IT READS IS OF BULK AT MOST 1048576: true; the input reads as it did. -/
def dtreeFirstUptoRow : OpenClaim := { program := "ytmklbmiddeonkaa", sum := "62376c5010af1dff0d95af99d4b0c92b7eccf3ba613e32cea14a9d999a105b97", func := "turnstone/turnstonelaw07.DtreeFirst", spec := "dtreeFirst", inPlace := ["math/bits.Add64", "math/bits.Sub64"], unfollowed := true, recurses := true, named := ["math/bits.divideError", "math/bits.overflowError"], apart := false, narrowed := true }
def DtreeFirstUptoSaid : Prop := dtreeFirstUptoRow.holds Try.pinned (OpenSpec.upto dtreeFirstSpec)

/-- 'turnstonelaw07.DtreeShifts', WHERE WHAT IT READS IS OF BULK AT MOST 1048576: true; the input reads as it did. -/
def dtreeShiftsUptoRow : OpenClaim := { program := "ytmklbmiddeonkaa", sum := "62376c5010af1dff0d95af99d4b0c92b7eccf3ba613e32cea14a9d999a105b97", func := "turnstone/turnstonelaw07.DtreeShifts", spec := "dtreeShifts", inPlace := ["math/bits.Add64", "math/bits.Sub64"], unfollowed := true, recurses := true, named := ["math/bits.divideError", "math/bits.overflowError"], apart := false, narrowed := true }
def DtreeShiftsUptoSaid : Prop := dtreeShiftsUptoRow.holds Try.pinned (OpenSpec.upto dtreeShiftsSpec)

end Rows
end Go.Proofs.Ytmklbmiddeonkaa

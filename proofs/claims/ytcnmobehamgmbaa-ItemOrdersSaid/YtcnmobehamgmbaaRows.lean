/-
  No cell of these rows narrows 'for every input' (looked for: loops, veiled, ifaces, maps, wideKeys, modest, calm, conditions, laid).
  DERIVED. THE GIVEN ROWS OF THIS SEAT. 8 by the template 'for every input the law returns true; each argument reads behind the call as it read before'; 0 by the template 'total and deterministic' (their statements: YtcnmobehamgmbaaTotals.lean).
  GIVEN WITH THE SEED: the statements are not yours to turn. If you find one false, say at which input.
  Laid BY PROGRAM, IN A SANDBOX (cutbox-rows.mjs): the forced cells as the released guide's own fill.sh prints them over the translation 5af2b8f0c55ead1f… (all of the seat's roots in one cut). By AI agents, Wed Nov 11 2026. No macro, syntax, notation, axiom, sorry.
-/
import Derived.Test.YtcnmobehamgmbaaChecked
import GoSem.Claim
import GoSem.ClaimJoined
import GoSem.ClaimMapViews
import Derived.JoinedTies
import Derived.KernelRfl
namespace Go.Proofs.Ytcnmobehamgmbaa
/- THE CELL 'sum', in the pinned program and in every row, IS THE sha256 OF THE DUMP (.gsa) THAT YtcnmobehamgmbaaProg.lean LOADS. Nothing in Lean hashes anything: it is a label: what it is worth is what the hold of that sum in a sandbox is worth. -/
noncomputable def Try.pinned : Pinned := { name := "ytcnmobehamgmbaa", sum := "5af2b8f0c55ead1fedd9b24829451fc4bae04d429cb66ebbde867a46b76c8562", checked := Try.checked }
namespace Rows
def none {H : Type} : Left H := { results := [], args := [] }

/-- 'turnstonelaw05.ItemTells': WHATEVER THE INPUT: true; the input reads as it did. -/
def itemTellsSpec : ChangeSpec := { name := "itemTells", fn := fun _ => fun
  | [d1, d2, d3] => { results := [.lit (.bool true)], args := [d1, d2, d3] }
  | _ => none }
def itemTellsRow : OpenClaim := { program := "ytcnmobehamgmbaa", sum := "5af2b8f0c55ead1fedd9b24829451fc4bae04d429cb66ebbde867a46b76c8562", func := "turnstone/turnstonelaw05.ItemTells", spec := "itemTells", inPlace := ["math/bits.Add64", "math/bits.Sub64"], named := ["math/bits.divideError", "math/bits.overflowError"], apart := false }
def ItemTellsSaid : Prop := itemTellsRow.holds Try.pinned (OpenSpec.ofChange itemTellsSpec)

/-- ITS FALSE NEIGHBOUR: 'it returns false'. Refute it at one input. -/
def itemTellsWrong : ChangeSpec := { name := "itemTells", fn := fun _ => fun
  | [d1, d2, d3] => { results := [.lit (.bool false)], args := [d1, d2, d3] }
  | _ => none }
def ItemTellsWrongFalsely : Prop := itemTellsRow.holds Try.pinned (OpenSpec.ofChange itemTellsWrong)

/-- 'turnstonelaw05.ItemSoonest': WHATEVER THE INPUT: true; the input reads as it did. -/
def itemSoonestSpec : ChangeSpec := { name := "itemSoonest", fn := fun _ => fun
  | [d1, d2] => { results := [.lit (.bool true)], args := [d1, d2] }
  | _ => none }
def itemSoonestRow : OpenClaim := { program := "ytcnmobehamgmbaa", sum := "5af2b8f0c55ead1fedd9b24829451fc4bae04d429cb66ebbde867a46b76c8562", func := "turnstone/turnstonelaw05.ItemSoonest", spec := "itemSoonest", inPlace := ["math/bits.Add64", "math/bits.Sub64"], named := ["math/bits.divideError", "math/bits.overflowError"], apart := false }
def ItemSoonestSaid : Prop := itemSoonestRow.holds Try.pinned (OpenSpec.ofChange itemSoonestSpec)

/-- ITS FALSE NEIGHBOUR: 'it returns false'. Refute it at one input. -/
def itemSoonestWrong : ChangeSpec := { name := "itemSoonest", fn := fun _ => fun
  | [d1, d2] => { results := [.lit (.bool false)], args := [d1, d2] }
  | _ => none }
def ItemSoonestWrongFalsely : Prop := itemSoonestRow.holds Try.pinned (OpenSpec.ofChange itemSoonestWrong)

/-- 'turnstonelaw05.ItemOrders': WHATEVER THE INPUT: true; the input reads as it did. -/
def itemOrdersSpec : ChangeSpec := { name := "itemOrders", fn := fun _ => fun
  | [d1, d2, d3, d4] => { results := [.lit (.bool true)], args := [d1, d2, d3, d4] }
  | _ => none }
def itemOrdersRow : OpenClaim := { program := "ytcnmobehamgmbaa", sum := "5af2b8f0c55ead1fedd9b24829451fc4bae04d429cb66ebbde867a46b76c8562", func := "turnstone/turnstonelaw05.ItemOrders", spec := "itemOrders", inPlace := ["math/bits.Add64", "math/bits.Sub64"], named := ["math/bits.divideError", "math/bits.overflowError"], apart := false }
def ItemOrdersSaid : Prop := itemOrdersRow.holds Try.pinned (OpenSpec.ofChange itemOrdersSpec)

/-- ITS FALSE NEIGHBOUR: 'it returns false'. Refute it at one input. -/
def itemOrdersWrong : ChangeSpec := { name := "itemOrders", fn := fun _ => fun
  | [d1, d2, d3, d4] => { results := [.lit (.bool false)], args := [d1, d2, d3, d4] }
  | _ => none }
def ItemOrdersWrongFalsely : Prop := itemOrdersRow.holds Try.pinned (OpenSpec.ofChange itemOrdersWrong)

/-- 'turnstonelaw06.RbtreePlays': WHATEVER THE INPUT: true; the input reads as it did. -/
def rbtreePlaysSpec : ChangeSpec := { name := "rbtreePlays", fn := fun _ => fun
  | [d1, d2] => { results := [.lit (.bool true)], args := [d1, d2] }
  | _ => none }
def rbtreePlaysRow : OpenClaim := { program := "ytcnmobehamgmbaa", sum := "5af2b8f0c55ead1fedd9b24829451fc4bae04d429cb66ebbde867a46b76c8562", func := "turnstone/turnstonelaw06.RbtreePlays", spec := "rbtreePlays", unfollowed := true, recurses := true, apart := false }
def RbtreePlaysSaid : Prop := rbtreePlaysRow.holds Try.pinned (OpenSpec.ofChange rbtreePlaysSpec)

/-- ITS FALSE NEIGHBOUR: 'it returns false'. Refute it at one input. -/
def rbtreePlaysWrong : ChangeSpec := { name := "rbtreePlays", fn := fun _ => fun
  | [d1, d2] => { results := [.lit (.bool false)], args := [d1, d2] }
  | _ => none }
def RbtreePlaysWrongFalsely : Prop := rbtreePlaysRow.holds Try.pinned (OpenSpec.ofChange rbtreePlaysWrong)

/-- 'turnstonelaw06.RbtreeDepth': WHATEVER THE INPUT: true; the input reads as it did. -/
def rbtreeDepthSpec : ChangeSpec := { name := "rbtreeDepth", fn := fun _ => fun
  | [d] => { results := [.lit (.bool true)], args := [d] }
  | _ => none }
def rbtreeDepthRow : OpenClaim := { program := "ytcnmobehamgmbaa", sum := "5af2b8f0c55ead1fedd9b24829451fc4bae04d429cb66ebbde867a46b76c8562", func := "turnstone/turnstonelaw06.RbtreeDepth", spec := "rbtreeDepth", unfollowed := true, recurses := true, apart := false }
def RbtreeDepthSaid : Prop := rbtreeDepthRow.holds Try.pinned (OpenSpec.ofChange rbtreeDepthSpec)

/-- ITS FALSE NEIGHBOUR: 'it returns false'. Refute it at one input. -/
def rbtreeDepthWrong : ChangeSpec := { name := "rbtreeDepth", fn := fun _ => fun
  | [d] => { results := [.lit (.bool false)], args := [d] }
  | _ => none }
def RbtreeDepthWrongFalsely : Prop := rbtreeDepthRow.holds Try.pinned (OpenSpec.ofChange rbtreeDepthWrong)

/-- 'turnstonelaw06.RbtreeSorts': WHATEVER THE INPUT: true; the input reads as it did. -/
def rbtreeSortsSpec : ChangeSpec := { name := "rbtreeSorts", fn := fun _ => fun
  | [d1, d2] => { results := [.lit (.bool true)], args := [d1, d2] }
  | _ => none }
def rbtreeSortsRow : OpenClaim := { program := "ytcnmobehamgmbaa", sum := "5af2b8f0c55ead1fedd9b24829451fc4bae04d429cb66ebbde867a46b76c8562", func := "turnstone/turnstonelaw06.RbtreeSorts", spec := "rbtreeSorts", unfollowed := true, recurses := true, apart := false }
def RbtreeSortsSaid : Prop := rbtreeSortsRow.holds Try.pinned (OpenSpec.ofChange rbtreeSortsSpec)

/-- ITS FALSE NEIGHBOUR: 'it returns false'. Refute it at one input. -/
def rbtreeSortsWrong : ChangeSpec := { name := "rbtreeSorts", fn := fun _ => fun
  | [d1, d2] => { results := [.lit (.bool false)], args := [d1, d2] }
  | _ => none }
def RbtreeSortsWrongFalsely : Prop := rbtreeSortsRow.holds Try.pinned (OpenSpec.ofChange rbtreeSortsWrong)

/-- 'turnstonelaw06.RbtreeNone': WHATEVER THE INPUT: true; the input reads as it did. -/
def rbtreeNoneSpec : ChangeSpec := { name := "rbtreeNone", fn := fun _ => fun
  | [] => { results := [.lit (.bool true)], args := [] }
  | _ => none }
def rbtreeNoneRow : OpenClaim := { program := "ytcnmobehamgmbaa", sum := "5af2b8f0c55ead1fedd9b24829451fc4bae04d429cb66ebbde867a46b76c8562", func := "turnstone/turnstonelaw06.RbtreeNone", spec := "rbtreeNone", unfollowed := true, recurses := true, apart := false }
def RbtreeNoneSaid : Prop := rbtreeNoneRow.holds Try.pinned (OpenSpec.ofChange rbtreeNoneSpec)

/-- ITS FALSE NEIGHBOUR: 'it returns false'. Refute it at one input. -/
def rbtreeNoneWrong : ChangeSpec := { name := "rbtreeNone", fn := fun _ => fun
  | [] => { results := [.lit (.bool false)], args := [] }
  | _ => none }
def RbtreeNoneWrongFalsely : Prop := rbtreeNoneRow.holds Try.pinned (OpenSpec.ofChange rbtreeNoneWrong)

/-- 'turnstonelaw06.RbtreeFolds': WHATEVER THE INPUT: true; the input reads as it did. -/
def rbtreeFoldsSpec : ChangeSpec := { name := "rbtreeFolds", fn := fun _ => fun
  | [d1, d2] => { results := [.lit (.bool true)], args := [d1, d2] }
  | _ => none }
def rbtreeFoldsRow : OpenClaim := { program := "ytcnmobehamgmbaa", sum := "5af2b8f0c55ead1fedd9b24829451fc4bae04d429cb66ebbde867a46b76c8562", func := "turnstone/turnstonelaw06.RbtreeFolds", spec := "rbtreeFolds", unfollowed := true, recurses := true, apart := false }
def RbtreeFoldsSaid : Prop := rbtreeFoldsRow.holds Try.pinned (OpenSpec.ofChange rbtreeFoldsSpec)

/-- ITS FALSE NEIGHBOUR: 'it returns false'. Refute it at one input. -/
def rbtreeFoldsWrong : ChangeSpec := { name := "rbtreeFolds", fn := fun _ => fun
  | [d1, d2] => { results := [.lit (.bool false)], args := [d1, d2] }
  | _ => none }
def RbtreeFoldsWrongFalsely : Prop := rbtreeFoldsRow.holds Try.pinned (OpenSpec.ofChange rbtreeFoldsWrong)

/- THE SECOND FORM. 'bulk': how many values and letters a reading holds, each counted each time it is reached (what is shared counts as often as it is met; a slice's spare places count too). A statement '..UptoSaid' is the law's where the arguments, and the package variables that the reading takes, are together of bulk at most 1048576: NARROWER than '..Said'. Prove '..Said' where nothing that the law and all that it calls make is longer than what came in: it says more and counts as full. Else prove '..UptoSaid'. A law counts once. -/
mutual
def uptoBulk {H : Type} : DataW H → Nat
  | .lit (.string bytes) => bytes.length + 1
  | .lit _ => 1
  | .nil => 1
  | .ptr d => uptoBulk d + 1
  | .slice elems spare => uptoBulkAll elems + uptoBulkAll spare + 1
  | .agg parts => uptoBulkAll parts + 1
  | .iface _ d => uptoBulk d + 1
  | .map entries => uptoBulkEntries entries + 1
  | .held _ => 1
def uptoBulkAll {H : Type} : List (DataW H) → Nat
  | [] => 0
  | d :: r => uptoBulk d + uptoBulkAll r
def uptoBulkEntries {H : Type} : List (Lit × DataW H) → Nat
  | [] => 0
  | x :: r => uptoBulkEntry x + uptoBulkEntries r
def uptoBulkEntry {H : Type} : Lit × DataW H → Nat
  | (.string bytes, d) => bytes.length + uptoBulk d + 1
  | (_, d) => uptoBulk d + 1
 end
def uptoSmall : (H : Type) → List (DataW H) → Bool := fun _ ds => decide (uptoBulkAll ds ≤ 1048576)
def OpenSpec.upto (s : _root_.Go.ChangeSpec) : _root_.Go.OpenSpec := { _root_.Go.OpenSpec.ofChange s with cond := some uptoSmall }

/-- 'turnstonelaw05.ItemTells', WHERE WHAT IT READS IS OF BULK AT MOST 1048576: true; the input reads as it did. -/
def itemTellsUptoRow : OpenClaim := { program := "ytcnmobehamgmbaa", sum := "5af2b8f0c55ead1fedd9b24829451fc4bae04d429cb66ebbde867a46b76c8562", func := "turnstone/turnstonelaw05.ItemTells", spec := "itemTells", inPlace := ["math/bits.Add64", "math/bits.Sub64"], named := ["math/bits.divideError", "math/bits.overflowError"], apart := false, narrowed := true }
def ItemTellsUptoSaid : Prop := itemTellsUptoRow.holds Try.pinned (OpenSpec.upto itemTellsSpec)

/-- 'turnstonelaw05.ItemSoonest', WHERE WHAT IT READS IS OF BULK AT MOST 1048576: true; the input reads as it did. -/
def itemSoonestUptoRow : OpenClaim := { program := "ytcnmobehamgmbaa", sum := "5af2b8f0c55ead1fedd9b24829451fc4bae04d429cb66ebbde867a46b76c8562", func := "turnstone/turnstonelaw05.ItemSoonest", spec := "itemSoonest", inPlace := ["math/bits.Add64", "math/bits.Sub64"], named := ["math/bits.divideError", "math/bits.overflowError"], apart := false, narrowed := true }
def ItemSoonestUptoSaid : Prop := itemSoonestUptoRow.holds Try.pinned (OpenSpec.upto itemSoonestSpec)

/-- 'turnstonelaw05.ItemOrders', WHERE WHAT IT READS IS OF BULK AT MOST 1048576: true; the input reads as it did. -/
def itemOrdersUptoRow : OpenClaim := { program := "ytcnmobehamgmbaa", sum := "5af2b8f0c55ead1fedd9b24829451fc4bae04d429cb66ebbde867a46b76c8562", func := "turnstone/turnstonelaw05.ItemOrders", spec := "itemOrders", inPlace := ["math/bits.Add64", "math/bits.Sub64"], named := ["math/bits.divideError", "math/bits.overflowError"], apart := false, narrowed := true }
def ItemOrdersUptoSaid : Prop := itemOrdersUptoRow.holds Try.pinned (OpenSpec.upto itemOrdersSpec)

/-- 'turnstonelaw06.RbtreePlays', WHERE WHAT IT READS IS OF BULK AT MOST 1048576: true; the input reads as it did. -/
def rbtreePlaysUptoRow : OpenClaim := { program := "ytcnmobehamgmbaa", sum := "5af2b8f0c55ead1fedd9b24829451fc4bae04d429cb66ebbde867a46b76c8562", func := "turnstone/turnstonelaw06.RbtreePlays", spec := "rbtreePlays", unfollowed := true, recurses := true, apart := false, narrowed := true }
def RbtreePlaysUptoSaid : Prop := rbtreePlaysUptoRow.holds Try.pinned (OpenSpec.upto rbtreePlaysSpec)

/-- 'turnstonelaw06.RbtreeDepth', WHERE WHAT IT READS IS OF BULK AT MOST 1048576: true; the input reads as it did. -/
def rbtreeDepthUptoRow : OpenClaim := { program := "ytcnmobehamgmbaa", sum := "5af2b8f0c55ead1fedd9b24829451fc4bae04d429cb66ebbde867a46b76c8562", func := "turnstone/turnstonelaw06.RbtreeDepth", spec := "rbtreeDepth", unfollowed := true, recurses := true, apart := false, narrowed := true }
def RbtreeDepthUptoSaid : Prop := rbtreeDepthUptoRow.holds Try.pinned (OpenSpec.upto rbtreeDepthSpec)

/-- 'turnstonelaw06.RbtreeSorts', WHERE WHAT IT READS IS OF BULK AT MOST 1048576: true; the input reads as it did. -/
def rbtreeSortsUptoRow : OpenClaim := { program := "ytcnmobehamgmbaa", sum := "5af2b8f0c55ead1fedd9b24829451fc4bae04d429cb66ebbde867a46b76c8562", func := "turnstone/turnstonelaw06.RbtreeSorts", spec := "rbtreeSorts", unfollowed := true, recurses := true, apart := false, narrowed := true }
def RbtreeSortsUptoSaid : Prop := rbtreeSortsUptoRow.holds Try.pinned (OpenSpec.upto rbtreeSortsSpec)

/-- 'turnstonelaw06.RbtreeNone', WHERE WHAT IT READS IS OF BULK AT MOST 1048576: true; the input reads as it did. -/
def rbtreeNoneUptoRow : OpenClaim := { program := "ytcnmobehamgmbaa", sum := "5af2b8f0c55ead1fedd9b24829451fc4bae04d429cb66ebbde867a46b76c8562", func := "turnstone/turnstonelaw06.RbtreeNone", spec := "rbtreeNone", unfollowed := true, recurses := true, apart := false, narrowed := true }
def RbtreeNoneUptoSaid : Prop := rbtreeNoneUptoRow.holds Try.pinned (OpenSpec.upto rbtreeNoneSpec)

/-- 'turnstonelaw06.RbtreeFolds', WHERE WHAT IT READS IS OF BULK AT MOST 1048576: true; the input reads as it did. -/
def rbtreeFoldsUptoRow : OpenClaim := { program := "ytcnmobehamgmbaa", sum := "5af2b8f0c55ead1fedd9b24829451fc4bae04d429cb66ebbde867a46b76c8562", func := "turnstone/turnstonelaw06.RbtreeFolds", spec := "rbtreeFolds", unfollowed := true, recurses := true, apart := false, narrowed := true }
def RbtreeFoldsUptoSaid : Prop := rbtreeFoldsUptoRow.holds Try.pinned (OpenSpec.upto rbtreeFoldsSpec)

end Rows
end Go.Proofs.Ytcnmobehamgmbaa

/- Texts of SetNone's proof, together. -/
import Derived.Test.YtegohmeapamoaaaGreatDoorSetNoneZ10
import Derived.Test.YtegohmeapamoaaaGreatDoorKnuth
import Derived.Test.YtegohmeapamoaaaGreatDoorSetNoneZ5
import Derived.Test.YtegohmeapamoaaaGreatDoorSetNoneZ8
import Derived.Test.YtegohmeapamoaaaGreatDoorOpen
import Derived.Test.YtegohmeapamoaaaGreatDoorCs
import Derived.Deep.MidRow
import Derived.Deep.LoopGhost
import Derived.OpenShut
import Derived.Deep.RegionHeld3
import Derived.Deep.QuietTactic
import Derived.BigQuiet
import Derived.Test.YtegohmeapamoaaaGreatDoorRows
import Derived.WalkKit
import Derived.WalkSpells
import Derived.Shelf.Bits.Mul64
import Derived.Shelf.Small.Bits
import Derived.Deep.CutBlock
import Derived.Deep.DeepCutAuto
import Derived.OrdersHeld
import Derived.Deep.RegionHeld
import Derived.StillTail
import Derived.Laws.OwnMore
import Derived.Deep.AppendLies
import Derived.Deep.RegionWith
import Derived.OwnWalk
import Derived.Test.YtegohmeapamoaaaGreatDoorMuS
namespace Go.Proofs.YtegohmeapamoaaaGreatDoor
/- Items: the soonest. -/
section
open Go.RowKit
abbrev It.zero : It := It.mk 0 0 0 0 0 0 0
end

/- Requests, as numbers; many variables, each at its place. -/
section
open Go.RowKit
/-- A request, in whole numbers. -/
structure Rq where
  a : It
  l : Int
  s : Int
  z : Bool
def Rq.cells (r : Rq) : List Value := [.int .u64 r.a.t, .int .u32 r.a.r, .int .u32 r.a.v, .int .i64 r.a.i, .int .u64 r.a.u, .int .u32 r.a.s, .int .u32 r.a.y, .int .u64 r.l, .int .u64 r.s, .bool r.z]
abbrev Rq.val (r : Rq) : Value := .agg #[.int .u64 r.a.t, .int .u32 r.a.r, .int .u32 r.a.v, .int .i64 r.a.i, .int .u64 r.a.u, .int .u32 r.a.s, .int .u32 r.a.y, .int .u64 r.l, .int .u64 r.s, .bool r.z]
def Rq.In (r : Rq) : Prop := r.a.In ∧ IsT r.l ∧ IsT r.s
abbrev Rq.no : Rq := ⟨It.zero, 0, 0, false⟩
theorem Rq.at {w : World} {g : Nat} (r : Rq) (h : Cs w g r.cells) : w.cell? ⟨g, 0, none⟩ = some (.int .u64 r.a.t) ∧ w.cell? ⟨g, 1, none⟩ = some (.int .u32 r.a.r) ∧ w.cell? ⟨g, 2, none⟩ = some (.int .u32 r.a.v) ∧ w.cell? ⟨g, 3, none⟩ = some (.int .i64 r.a.i) ∧ w.cell? ⟨g, 4, none⟩ = some (.int .u64 r.a.u) ∧ w.cell? ⟨g, 5, none⟩ = some (.int .u32 r.a.s) ∧ w.cell? ⟨g, 6, none⟩ = some (.int .u32 r.a.y) ∧ w.cell? ⟨g, 7, none⟩ = some (.int .u64 r.l) ∧ w.cell? ⟨g, 8, none⟩ = some (.int .u64 r.s) ∧ w.cell? ⟨g, 9, none⟩ = some (.bool r.z) :=
  ⟨(h 0 _ rfl).1, (h 1 _ rfl).1, (h 2 _ rfl).1, (h 3 _ rfl).1, (h 4 _ rfl).1, (h 5 _ rfl).1, (h 6 _ rfl).1, (h 7 _ rfl).1, (h 8 _ rfl).1, (h 9 _ rfl).1⟩
def slI (n : Int) : Bool := decide (1 ≤ n ∧ n ≤ 1099511627776)
def gw (n : Int) : Int := IntKind.u64.wrap (1048576 * n)
def dueP (p : P3) (n : Int) : P3 := atP p.1 (gw n + p.2.1) p.2.2
def Rq.pp (r : Rq) : P3 := (r.a.t, r.a.r, r.a.v)
def Rq.due (r : Rq) : P3 := dueP r.pp r.l
def Rq.right (r : Rq) : Bool := r.a.right && slI r.l && slI r.s && (r.a.u == r.due.1 && r.a.s == r.due.2.1 && r.a.y == r.due.2.2)
def Rq.whr (r : Rq) : Rq × Bool := if r.right = true then (r, true) else (Rq.no, false)
/-- From another position on. -/
def Rq.from_ (r : Rq) (p : P3) : Rq := ⟨⟨p.1, p.2.1, p.2.2, r.a.i, (dueP p r.l).1, (dueP p r.l).2.1, (dueP p r.l).2.2⟩, r.l, r.s, r.z⟩
def Rq.new (p : P3) (id n : Int) : Rq × Bool := (Rq.from_ ⟨⟨0, 0, 0, id, 0, 0, 0⟩, n, n, false⟩ p).whr
def Rq.left (r : Rq) (n : Int) : Int := if r.l = n then r.s else r.l - n
end

/- The contracts of the package req. -/
section
open Go.RowKit
theorem infoReq : (Tryz.prog.info? 90).map (·.size) = some 10 := by kernel_rfl
end

end Go.Proofs.YtegohmeapamoaaaGreatDoor

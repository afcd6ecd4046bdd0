/- Tasks, and slices of acts on tables: how they are opened, for the laws' frames. -/
import Derived.Test.YtegohmeapamoaaaGreatDoorOpenG
import Derived.Test.YtegohmeapamoaaaGreatDoorTableOnceZ42
import Derived.Test.YtegohmeapamoaaaGreatDoorTableOnceZ13
import Derived.Test.YtegohmeapamoaaaGreatDoorTableOnceZ26
namespace Go.Proofs.YtegohmeapamoaaaGreatDoor
open Go.ChangeShapes Go.WideShapes Go.ChangeAt Go.RowKit Go.Joins Go.Deep
theorem cellsIntT : Tryz.prog.cellsOf 3 = 1 := by kernel_rfl
theorem cellsU8T : Tryz.prog.cellsOf 5 = 1 := by kernel_rfl
theorem cellsU32T : Tryz.prog.cellsOf 58 = 1 := by kernel_rfl
theorem cellsU64T : Tryz.prog.cellsOf 22 = 1 := by kernel_rfl
theorem cellsI64T : Tryz.prog.cellsOf 2 = 1 := by kernel_rfl
theorem cellsTaskT : Tryz.prog.cellsOf 60 = 6 := by kernel_rfl
theorem cellsActT : Tryz.prog.cellsOf 62 = 7 := by kernel_rfl
theorem task_cells {H : Type} {enc : TypeId × Value → H} {W : World} {base : Nat} {spare : Nat → Bool} {held : Bool} {fuel : Nat} {u0 u1 u2 u3 u4 u5 : Value} {x : DataW H × List MemPlace}
    (h : DataW.trod enc Tryz.prog W base spare held fuel 60 [u0, u1, u2, u3, u4, u5] = some x) :
    ∃ r : Tk, [u0, u1, u2, u3, u4, u5] = r.cells ∧ r.In := by
  obtain ⟨xs, k, hk, hxy, _, hxl, hf⟩ := DataW.trod_struct Tryz.underlying60 h
  match xs, hxl with
  | [y0, y1, y2, y3, y4, y5], _ =>
    have g0 := hf 0 _ rfl
    have g1 := hf 1 _ rfl
    have g2 := hf 2 _ rfl
    have g3 := hf 3 _ rfl
    have g4 := hf 4 _ rfl
    have g5 := hf 5 _ rfl
    simp [cellsIntT, cellsU8T, cellsU32T, cellsU64T, cellsI64T] at g0 g1 g2 g3 g4 g5
    obtain ⟨c0, e0, _, w0⟩ := DataW.trod_int Tryz.underlying3 g0
    obtain ⟨c1, e1, _, w1⟩ := DataW.trod_int Tryz.underlying5 g1
    obtain ⟨c2, e2, _, w2⟩ := DataW.trod_int Tryz.underlying3 g2
    obtain ⟨c3, e3, _, w3⟩ := DataW.trod_int Tryz.underlying58 g3
    obtain ⟨c4, e4, _, w4⟩ := DataW.trod_int Tryz.underlying22 g4
    obtain ⟨c5, e5, _, w5⟩ := DataW.trod_int Tryz.underlying2 g5
    simp at e0 e1 e2 e3 e4 e5
    refine ⟨⟨c0, c1, c2, c3, c4, c5⟩, by simp [Tk.cells, e0, e1, e2, e3, e4, e5], w0, ?_, w2, w3, w4, w5⟩
    have := w1
    simp [Lit.wf, IntKind.min, IntKind.max, IntKind.signed, IntKind.bits] at this
    simp only
    omega
set_option maxRecDepth 100000 in
theorem open_tacts {H : Type} {enc : TypeId × Value → H} {W : World} {base b0 : Nat} {spare : Nat → Bool} {held : Bool} {r : Reach} {v : Value} {d : DataW H} {p : List MemPlace}
    (hv : Value.okWide Tryz.prog W r b0 51 v) (h : DataW.Trod enc Tryz.prog W base spare held 51 v d p) :
    ∃ (a : Option Addr) (n c : Nat) (l : List Ac), v = .slice a n c ∧ (RdA W a n l ∧ ∀ x ∈ l, x.In) ∧ n ≤ 9223372036854775807 := by
  refine open_rows Tryz.underlying51 cellsActT (by decide) Ac.len ?_ hv h
  intro fuel cs x hl hx
  match cs, hl with
  | [v, u0, u1, u2, u3, u4, u5], _ =>
    obtain ⟨xs, k, hk, hxy, _, hxl, hf⟩ := DataW.trod_struct Tryz.underlying62 hx
    match xs, hxl with
    | [y0, y1], _ =>
      have g0 := hf 0 _ rfl
      have g1 := hf 1 _ rfl
      simp [cellsU8T, cellsTaskT] at g0 g1
      obtain ⟨d0, e0, _, w0⟩ := DataW.trod_int Tryz.underlying5 g0
      obtain ⟨a, e, ha⟩ := task_cells g1
      simp at e0
      subst e0
      refine ⟨⟨d0, a⟩, by simp [Ac.cells]; simpa [Tk.cells] using e, ?_, ha⟩
      have := w0
      simp [Lit.wf, IntKind.min, IntKind.max, IntKind.signed, IntKind.bits] at this
      simp only
      omega
end Go.Proofs.YtegohmeapamoaaaGreatDoor

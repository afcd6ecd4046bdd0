/- Means: how they are opened, for the laws' frames. -/
import Derived.Test.YthmilhhihcmdhaaGreatDoorOpen
import Derived.Test.YthmilhhihcmdhaaGreatDoorRdu
import Derived.Test.YthmilhhihcmdhaaGreatDoorPlacePlaysZ13
import Derived.Test.YthmilhhihcmdhaaGreatDoorPlacePlaysZ0
import Derived.Deep.SlicePairs
namespace Go.Proofs.YthmilhhihcmdhaaGreatDoor
open Go.ChangeShapes Go.WideShapes Go.ChangeAt Go.RowKit Go.Joins Go.Deep
theorem cellsTimeM : Tryz.prog.cellsOf 26 = 1 := by kernel_rfl
theorem cellsU64M : Tryz.prog.cellsOf 22 = 1 := by kernel_rfl
theorem cellsI64M : Tryz.prog.cellsOf 2 = 1 := by kernel_rfl
theorem cellsIntM : Tryz.prog.cellsOf 3 = 1 := by kernel_rfl
theorem cellsWideM : Tryz.prog.cellsOf 34 = 2 := by kernel_rfl
theorem cellsMeanM : Tryz.prog.cellsOf 36 = 5 := by kernel_rfl
theorem wide_cells {H : Type} {enc : TypeId × Value → H} {W : World} {base : Nat} {spare : Nat → Bool} {held : Bool} {fuel : Nat} {u0 u1 : Value} {x : DataW H × List MemPlace}
    (h : DataW.trod enc Tryz.prog W base spare held fuel 34 [u0, u1] = some x) :
    ∃ a : Int, u0 = .int .i64 (hiW a) ∧ u1 = .int .u64 (loW a) ∧ WR a := by
  obtain ⟨xs, k, hk, hxy, _, hxl, hf⟩ := DataW.trod_struct Tryz.underlying34 h
  match xs, hxl with
  | [y0, y1], _ =>
    have g0 := hf 0 _ rfl
    have g1 := hf 1 _ rfl
    simp [cellsI64M, cellsU64M] at g0 g1
    obtain ⟨a0, q0, _, w0⟩ := DataW.trod_int Tryz.underlying2 g0
    obtain ⟨a1, q1, _, w1⟩ := DataW.trod_int Tryz.underlying22 g1
    simp at q0 q1
    obtain ⟨x1, x2⟩ := bounds_i64 w0
    obtain ⟨x3, x4⟩ := bounds_u64 w1
    have hw : IsW a0 a1 (a0 * 18446744073709551616 + a1) := ⟨x1, x2, x3, x4, rfl⟩
    obtain ⟨e1, e2⟩ := hw.words
    exact ⟨a0 * 18446744073709551616 + a1, by rw [q0, ← e1], by rw [q1, ← e2], hw.wr⟩
theorem mean_cells {H : Type} {enc : TypeId × Value → H} {W : World} {base : Nat} {spare : Nat → Bool} {held : Bool} {fuel : Nat} {u0 u1 u2 u3 u4 : Value} {x : DataW H × List MemPlace}
    (h : DataW.trod enc Tryz.prog W base spare held fuel 36 [u0, u1, u2, u3, u4] = some x) :
    ∃ m : Mu, [u0, u1, u2, u3, u4] = m.cells ∧ m.In := by
  obtain ⟨xs, k, hk, hxy, _, hxl, hf⟩ := DataW.trod_struct Tryz.underlying36 h
  match xs, hxl with
  | [y0, y1, y2, y3], _ =>
    have g0 := hf 0 _ rfl
    have g1 := hf 1 _ rfl
    have g2 := hf 2 _ rfl
    have g3 := hf 3 _ rfl
    simp [cellsTimeM, cellsWideM, cellsU64M, cellsIntM] at g0 g1 g2 g3
    obtain ⟨a0, e0, _, w0⟩ := DataW.trod_int Tryz.underlying26 g0
    obtain ⟨a, e1, e2, ha⟩ := wide_cells g1
    obtain ⟨a3, e3, _, w3⟩ := DataW.trod_int Tryz.underlying22 g2
    obtain ⟨a4, e4, _, w4⟩ := DataW.trod_int Tryz.underlying3 g3
    simp at e0 e3 e4
    exact ⟨⟨a0, a, a3, a4⟩, by simp [Mu.cells, e0, e1, e2, e3, e4], bounds_u64 w0, ha, bounds_u64 w3, bounds_i64 w4⟩
set_option maxRecDepth 100000 in
theorem open_mean {H : Type} {enc : TypeId × Value → H} {W : World} {base b0 : Nat} {spare : Nat → Bool} {held : Bool} {r : Reach} {v : Value} {d : DataW H} {p : List MemPlace}
    (hv : Value.okWide Tryz.prog W r b0 36 v) (h : DataW.Trod enc Tryz.prog W base spare held 36 v d p) :
    ∃ m : Mu, v = m.val ∧ m.In := by
  obtain ⟨cs, rfl, hsz⟩ := okWide_struct Tryz.underlying36 hv
  obtain ⟨l⟩ := cs
  match l, hsz.trans cellsMeanM with
  | [u0, u1, u2, u3, u4], _ =>
    obtain ⟨fuel, hf⟩ := h
    obtain ⟨a, e, ha⟩ := mean_cells hf
    refine ⟨a, ?_, ha⟩
    have e' : ([u0, u1, u2, u3, u4] : List Value).toArray = a.cells.toArray := congrArg List.toArray e
    exact congrArg Value.agg e'
end Go.Proofs.YthmilhhihcmdhaaGreatDoor

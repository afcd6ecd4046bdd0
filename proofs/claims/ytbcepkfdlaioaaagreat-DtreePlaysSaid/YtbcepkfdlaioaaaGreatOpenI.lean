import Derived.Test.YtbcepkfdlaioaaaGreatOpenN
import Derived.Test.YtbcepkfdlaioaaaGreatDtreePlaysZ10
namespace Go.Proofs.YtbcepkfdlaioaaaGreat
open Go.ChangeShapes Go.WideShapes Go.ChangeAt Go.RowKit Go.Joins Go.Deep
theorem cellsTimeI : Tryz.prog.cellsOf 30 = 1 := by kernel_rfl
theorem cellsU32I : Tryz.prog.cellsOf 31 = 1 := by kernel_rfl
theorem cellsIntI : Tryz.prog.cellsOf 3 = 1 := by kernel_rfl
theorem cellsPosI : Tryz.prog.cellsOf 33 = 3 := by kernel_rfl
theorem cellsItemI : Tryz.prog.cellsOf 35 = 7 := by kernel_rfl
theorem pos_cells {H : Type} {enc : TypeId × Value → H} {W : World} {base : Nat} {spare : Nat → Bool} {held : Bool} {fuel : Nat} {u0 u1 u2 : Value} {x : DataW H × List MemPlace}
  (h : DataW.trod enc Tryz.prog W base spare held fuel 33 [u0, u1, u2] = some x) :
  ∃ a b c : Int, u0 = .int .u64 a ∧ u1 = .int .u32 b ∧ u2 = .int .u32 c ∧ (0 ≤ a ∧ a ≤ 18446744073709551615) ∧ (0 ≤ b ∧ b ≤ 4294967295) ∧ (0 ≤ c ∧ c ≤ 4294967295) := by
 obtain ⟨xs, k, hk, hxy, _, hxl, hf⟩ := DataW.trod_struct Tryz.underlying33 h
 match xs, hxl with
 | [y0, y1, y2], _ =>
  have g0 := hf 0 _ rfl
  have g1 := hf 1 _ rfl
  have g2 := hf 2 _ rfl
  simp [cellsTimeI, cellsU32I] at g0 g1 g2
  obtain ⟨a0, q0, _, w0⟩ := DataW.trod_int Tryz.underlying30 g0
  obtain ⟨a1, q1, _, w1⟩ := DataW.trod_int Tryz.underlying31 g1
  obtain ⟨a2, q2, _, w2⟩ := DataW.trod_int Tryz.underlying31 g2
  simp at q0 q1 q2
  exact ⟨a0, a1, a2, q0, q1, q2, bounds_u64 w0, bounds_u32 w1, bounds_u32 w2⟩
theorem item_cells {H : Type} {enc : TypeId × Value → H} {W : World} {base : Nat} {spare : Nat → Bool} {held : Bool} {fuel : Nat} {u0 u1 u2 u3 u4 u5 u6 : Value} {x : DataW H × List MemPlace}
  (h : DataW.trod enc Tryz.prog W base spare held fuel 35 [u0, u1, u2, u3, u4, u5, u6] = some x) :
  ∃ a : It, [u0, u1, u2, u3, u4, u5, u6] = a.cells ∧ a.In := by
 obtain ⟨xs, k, hk, hxy, _, hxl, hf⟩ := DataW.trod_struct Tryz.underlying35 h
 match xs, hxl with
 | [y0, y1, y2], _ =>
  have g0 := hf 0 _ rfl
  have g1 := hf 1 _ rfl
  have g2 := hf 2 _ rfl
  simp [cellsPosI, cellsIntI] at g0 g1 g2
  obtain ⟨a0, b0, c0, e0, e1, e2, i0, i1, i2⟩ := pos_cells g0
  obtain ⟨d0, e3, _, w3⟩ := DataW.trod_int Tryz.underlying3 g1
  obtain ⟨a4, b4, c4, e4, e5, e6, i4, i5, i6⟩ := pos_cells g2
  simp at e3
  exact ⟨⟨a0, b0, c0, d0, a4, b4, c4⟩, by simp [It.cells, e0, e1, e2, e3, e4, e5, e6], i0, i1, i2, bounds_i64 w3, i4, i5, i6⟩
end Go.Proofs.YtbcepkfdlaioaaaGreat

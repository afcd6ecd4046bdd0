/- Texts of SetSleeps's proof, together. -/
import Derived.Test.YtjndmmcjobbcbaaGreatDoorOpenI
import Derived.Test.YtjndmmcjobbcbaaGreatDoorSetSleepsZ15
import Derived.Test.YtjndmmcjobbcbaaGreatDoorSetSleepsZ11
import Derived.Deep.SlicePairs
namespace Go.Proofs.YtjndmmcjobbcbaaGreatDoor

section
open Go.ChangeShapes Go.WideShapes Go.ChangeAt Go.RowKit Go.Joins Go.Deep
theorem cellsU64R : Tryz.prog.cellsOf 22 = 1 := by kernel_rfl
theorem cellsBoolR : Tryz.prog.cellsOf 4 = 1 := by kernel_rfl
theorem cellsReqR : Tryz.prog.cellsOf 53 = 10 := by kernel_rfl
theorem req_cells {H : Type} {enc : TypeId × Value → H} {W : World} {base : Nat} {spare : Nat → Bool} {held : Bool} {fuel : Nat} {u0 u1 u2 u3 u4 u5 u6 u7 u8 u9 : Value} {x : DataW H × List MemPlace}
  (h : DataW.trod enc Tryz.prog W base spare held fuel 53 [u0, u1, u2, u3, u4, u5, u6, u7, u8, u9] = some x) :
  ∃ r : Rq, [u0, u1, u2, u3, u4, u5, u6, u7, u8, u9] = r.cells ∧ r.In := by
 obtain ⟨xs, k, hk, hxy, _, hxl, hf⟩ := DataW.trod_struct Tryz.underlying53 h
 match xs, hxl with
 | [y0, y1, y2, y3], _ =>
  have g0 := hf 0 _ rfl
  have g1 := hf 1 _ rfl
  have g2 := hf 2 _ rfl
  have g3 := hf 3 _ rfl
  simp [cellsItemI, cellsU64R, cellsBoolR] at g0 g1 g2 g3
  obtain ⟨a, e0, ha⟩ := item_cells g0
  obtain ⟨l, e1, _, w1⟩ := DataW.trod_int Tryz.underlying22 g1
  obtain ⟨s, e2, _, w2⟩ := DataW.trod_int Tryz.underlying22 g2
  obtain ⟨z, e3, _⟩ := DataW.trod_bool Tryz.underlying4 g3
  simp at e1 e2 e3
  simp [It.cells] at e0
  obtain ⟨q0, q1, q2, q3, q4, q5, q6⟩ := e0
  exact ⟨⟨a, l, s, z⟩, by simp [Rq.cells, q0, q1, q2, q3, q4, q5, q6, e1, e2, e3], ha, bounds_u64 w1, bounds_u64 w2⟩
end


section
open Go.ChangeShapes Go.WideShapes Go.ChangeAt Go.RowKit Go.Joins Go.Deep
theorem cellsU8Q : Tryz.prog.cellsOf 5 = 1 := by kernel_rfl
end


section
open Go.ChangeShapes Go.WideShapes Go.ChangeAt Go.RowKit Go.Joins Go.Deep
def RdT (w : World) (A : Option Addr) (n : Nat) (l : List (Int × Rq)) : Prop :=
 l.length = n ∧ ∀ i, i < n → ∃ b off, A = some ⟨b, off, none⟩ ∧ b < w.heap.size ∧ ∀ j, j < n → w.cell? ⟨b, off + j * 11, none⟩ = some (.int .u8 (l.getD j (0, Rq.no)).1) ∧ w.rangeAt b (off + j * 11 + 1) (l.getD j (0, Rq.no)).2.cells
def InT (l : List (Int × Rq)) : Prop := ∀ p ∈ l, (0 ≤ p.1 ∧ p.1 ≤ 255) ∧ p.2.In
theorem RdT.below {w w' : World} {A : Option Addr} {n : Nat} {l : List (Int × Rq)} (h : RdT w A n l) (hb : Below w.heap.size w w') : RdT w' A n l :=
 ⟨h.1, fun i hi => by
  obtain ⟨b, off, e, hl, hc⟩ := h.2 i hi
  exact ⟨b, off, e, Nat.lt_of_lt_of_le hl hb.size, fun j hj => ⟨keep1 hb (hc j hj).1, fun k v hk => keep1 hb ((hc j hj).2 k v hk)⟩⟩⟩
theorem ract_cells {H : Type} {enc : TypeId × Value → H} {W : World} {base : Nat} {spare : Nat → Bool} {held : Bool} {fuel : Nat} {v u0 u1 u2 u3 u4 u5 u6 u7 u8 u9 : Value} {x : DataW H × List MemPlace}
  (h : DataW.trod enc Tryz.prog W base spare held fuel 100 [v, u0, u1, u2, u3, u4, u5, u6, u7, u8, u9] = some x) :
  ∃ (d : Int) (r : Rq), v = .int .u8 d ∧ (0 ≤ d ∧ d ≤ 255) ∧ [u0, u1, u2, u3, u4, u5, u6, u7, u8, u9] = r.cells ∧ r.In := by
 obtain ⟨xs, k, hk, hxy, _, hxl, hf⟩ := DataW.trod_struct Tryz.underlying100 h
 match xs, hxl with
 | [y0, y1], _ =>
  have g0 := hf 0 _ rfl
  have g1 := hf 1 _ rfl
  simp [cellsU8Q, cellsReqR] at g0 g1
  obtain ⟨d0, e0, _, w0⟩ := DataW.trod_int Tryz.underlying5 g0
  obtain ⟨a, e, ha⟩ := req_cells g1
  simp at e0
  refine ⟨d0, a, e0, ?_, e, ha⟩
  have := w0
  simp [Lit.wf, IntKind.min, IntKind.max, IntKind.signed, IntKind.bits] at this
  omega
set_option maxRecDepth 100000 in
theorem open_u8s {H : Type} {enc : TypeId × Value → H} {W : World} {base b0 : Nat} {spare : Nat → Bool} {held : Bool} {r : Reach} {v : Value} {d : DataW H} {p : List MemPlace}
  (hv : Value.okWide Tryz.prog W r b0 114 v) (h : DataW.Trod enc Tryz.prog W base spare held 114 v d p) :
  ∃ (a : Option Addr) (n c : Nat) (zs : List Int), v = .slice a n c ∧ (RdU .u8 W a n zs ∧ ∀ z ∈ zs, 0 ≤ z ∧ z ≤ 255) ∧ n ≤ 9223372036854775807 := by
 obtain ⟨a, n, c, zs, h1, h2, h3, h4, h5⟩ := open_nums Tryz.underlying114 Tryz.underlying5 (by kernel_rfl) hv h
 refine ⟨a, n, c, zs, h1, ⟨h2, fun z hz => ?_⟩, h5⟩
 have := h3 z hz
 simp [Lit.wf, IntKind.min, IntKind.max, IntKind.signed, IntKind.bits] at this
 omega
end

end Go.Proofs.YtjndmmcjobbcbaaGreatDoor

import Derived.Test.YtbcepkfdlaioaaaGreatOpenI
import Derived.Test.YtbcepkfdlaioaaaGreatDtreePlaysZ22
namespace Go.Proofs.YtbcepkfdlaioaaaGreat
open Go.ChangeShapes Go.WideShapes Go.ChangeAt Go.RowKit Go.Joins Go.Deep
def RdA7 (w : World) (A : Option Addr) (n : Nat) (l : List (Int × Int × It)) : Prop :=
 l.length = n ∧ ∀ i, i < n → ∃ b off, A = some ⟨b, off, none⟩ ∧ b < w.heap.size ∧ ∀ j, j < n → w.cell? ⟨b, off + j * 9, none⟩ = some (.int .u8 (l.getD j (0, 0, It.zero)).1) ∧ w.cell? ⟨b, off + j * 9 + 1, none⟩ = some (.int .u8 (l.getD j (0, 0, It.zero)).2.1) ∧ Tho w b (off + j * 9 + 2) (l.getD j (0, 0, It.zero)).2.2
def InA7 (l : List (Int × Int × It)) : Prop := ∀ p ∈ l, (0 ≤ p.1 ∧ p.1 ≤ 255) ∧ (0 ≤ p.2.1 ∧ p.2.1 ≤ 255) ∧ p.2.2.In
theorem RdA7.below {w w' : World} {A : Option Addr} {n : Nat} {l : List (Int × Int × It)} (h : RdA7 w A n l) (hb : Below w.heap.size w w') : RdA7 w' A n l :=
 ⟨h.1, fun i hi => by
  obtain ⟨b, off, e, hl, hc⟩ := h.2 i hi
  exact ⟨b, off, e, Nat.lt_of_lt_of_le hl hb.size, fun j hj => ⟨keep1 hb (hc j hj).1, keep1 hb (hc j hj).2.1, (hc j hj).2.2.below hb⟩⟩⟩
theorem cellsU8A : Tryz.prog.cellsOf 5 = 1 := by kernel_rfl
theorem cellsAct7 : Tryz.prog.cellsOf 37 = 9 := by kernel_rfl
theorem act7_cells {H : Type} {enc : TypeId × Value → H} {W : World} {base : Nat} {spare : Nat → Bool} {held : Bool} {fuel : Nat} {v v' u0 u1 u2 u3 u4 u5 u6 : Value} {x : DataW H × List MemPlace}
  (h : DataW.trod enc Tryz.prog W base spare held fuel 37 [v, v', u0, u1, u2, u3, u4, u5, u6] = some x) :
  ∃ (d i : Int) (a : It), v = .int .u8 d ∧ (0 ≤ d ∧ d ≤ 255) ∧ v' = .int .u8 i ∧ (0 ≤ i ∧ i ≤ 255) ∧ [u0, u1, u2, u3, u4, u5, u6] = a.cells ∧ a.In := by
 obtain ⟨xs, k, hk, hxy, _, hxl, hf⟩ := DataW.trod_struct Tryz.underlying37 h
 match xs, hxl with
 | [y0, y1, y2], _ =>
  have g0 := hf 0 _ rfl
  have g1 := hf 1 _ rfl
  have g2 := hf 2 _ rfl
  simp [cellsU8A, cellsItemI] at g0 g1 g2
  obtain ⟨d0, e0, _, w0⟩ := DataW.trod_int Tryz.underlying5 g0
  obtain ⟨d1, e1, _, w1⟩ := DataW.trod_int Tryz.underlying5 g1
  obtain ⟨a, e, ha⟩ := item_cells g2
  simp at e0 e1
  refine ⟨d0, d1, a, e0, ?_, e1, ?_, e, ha⟩
  ·have := w0
   simp [Lit.wf, IntKind.min, IntKind.max, IntKind.signed, IntKind.bits] at this
   omega
  ·have := w1
   simp [Lit.wf, IntKind.min, IntKind.max, IntKind.signed, IntKind.bits] at this
   omega
set_option maxRecDepth 100000 in
theorem open_acts7 {H : Type} {enc : TypeId × Value → H} {W : World} {base b0 : Nat} {spare : Nat → Bool} {held : Bool} {r : Reach} {v : Value} {d : DataW H} {p : List MemPlace}
  (hv : Value.okWide Tryz.prog W r b0 23 v) (h : DataW.Trod enc Tryz.prog W base spare held 23 v d p) :
  ∃ (a : Option Addr) (n c : Nat) (ps : List (Int × Int × It)), v = .slice a n c ∧ (RdA7 W a n ps ∧ InA7 ps) ∧ n ≤ 9223372036854775807 := by
 obtain ⟨a, n, c, rfl⟩ := okWide_slice Tryz.underlying23 hv
 obtain ⟨fuel, hf⟩ := h
 rcases open_slice Tryz.underlying23 hf with ⟨hcs, _⟩ | ⟨x, l, cp, m, nn, D, Plc, hcs, _, hl, hm, hmm, _, hx⟩
 ·simp [Value.cells] at hcs
  obtain ⟨rfl, rfl, rfl⟩ := hcs
  exact ⟨_, _, _, [], rfl, ⟨⟨rfl, fun i hi => absurd hi (by omega)⟩, (by intro p hp; cases hp)⟩, by omega⟩
 ·simp [Value.cells] at hcs
  obtain ⟨rfl, rfl, rfl⟩ := hcs
  have hlm : n ≤ m := by rw [hmm]; split <;> omega
  have each : ∀ i, i < n → ∃ q : Int × Int × It, (W.cell? (x.add (i * 9)) = some (.int .u8 q.1) ∧ W.cell? (x.add (i * 9 + 1)) = some (.int .u8 q.2.1) ∧ W.cell? (x.add (i * 9 + 2)) = some (.int .u64 q.2.2.t) ∧ W.cell? (x.add (i * 9 + 3)) = some (.int .u32 q.2.2.r) ∧ W.cell? (x.add (i * 9 + 4)) = some (.int .u32 q.2.2.v) ∧ W.cell? (x.add (i * 9 + 5)) = some (.int .i64 q.2.2.i) ∧ W.cell? (x.add (i * 9 + 6)) = some (.int .u64 q.2.2.u) ∧ W.cell? (x.add (i * 9 + 7)) = some (.int .u32 q.2.2.s) ∧ W.cell? (x.add (i * 9 + 8)) = some (.int .u32 q.2.2.y)) ∧ (0 ≤ q.1 ∧ q.1 ≤ 255) ∧ (0 ≤ q.2.1 ∧ q.2.1 ≤ 255) ∧ q.2.2.In := by
   intro i hi
   obtain ⟨cs', h1, h2⟩ := hx i (by omega)
   rw [cellsAct7] at h1
   obtain ⟨_, hlen, hcell⟩ := World.cells?_some h1
   match cs', hlen with
   | [v, v', u0, u1, u2, u3, u4, u5, u6], _ =>
    obtain ⟨dd, di, q, hd, hdb, hi2, hib, hq, hin⟩ := act7_cells h2
    have e0 := hcell 0 (by omega)
    have e1 := hcell 1 (by omega)
    have e2 := hcell 2 (by omega)
    have e3 := hcell 3 (by omega)
    have e4 := hcell 4 (by omega)
    have e5 := hcell 5 (by omega)
    have e6 := hcell 6 (by omega)
    have e7 := hcell 7 (by omega)
    have e8 := hcell 8 (by omega)
    rw [add_add] at e0 e1 e2 e3 e4 e5 e6 e7 e8
    simp [It.cells] at hq
    obtain ⟨q0, q1, q2, q3, q4, q5, q6⟩ := hq
    subst q0 q1 q2 q3 q4 q5 q6 hd hi2
    simp at e0 e1 e2 e3 e4 e5 e6 e7 e8
    exact ⟨(dd, di, q), ⟨e0, e1, e2, e3, e4, e5, e6, e7, e8⟩, hdb, hib, hin⟩
  have hget : ∀ (f : Nat → Int × Int × It) (j : Nat), j < n → ((List.range n).map f).getD j (0, 0, It.zero) = f j := fun f j hj => by simp [List.getD, hj]
  refine ⟨_, _, _, (List.range n).map (fun i => if hi : i < n then (each i hi).choose else (0, 0, It.zero)), rfl, ⟨⟨by simp, fun i hi => ?_⟩, ?_⟩, by unfold maxLen at hm; omega⟩
  ·obtain ⟨u, h0⟩ : ∃ u, W.cell? (x.add 0) = some u := by
    obtain ⟨q, hq, _⟩ := each 0 (by omega)
    exact ⟨_, hq.1⟩
   have ex := spot_none h0
   refine ⟨x.block, x.off, by rw [← ex], World.block_lt_of_cell? W _ (by rw [show x.add 0 = x by simp [Addr.add]] at h0; exact h0), fun j hj => ?_⟩
   rw [hget _ j hj, dif_pos hj]
   have hj' := (each j hj).choose_spec.1
   generalize (each j hj).choose = q at *
   rw [ex] at hj'
   simp only [add_at, ← Nat.add_assoc] at hj'
   exact ⟨hj'.1, hj'.2.1, hj'.2.2⟩
  ·intro q hq
   rw [List.mem_map] at hq
   obtain ⟨j, hj, rfl⟩ := hq
   have hj' : j < n := List.mem_range.1 hj
   rw [dif_pos hj']
   exact (each j hj').choose_spec.2
end Go.Proofs.YtbcepkfdlaioaaaGreat

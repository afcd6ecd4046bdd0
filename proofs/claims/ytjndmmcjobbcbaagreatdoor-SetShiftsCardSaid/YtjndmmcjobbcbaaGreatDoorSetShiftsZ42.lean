/- Texts of SetShifts's proof, together. -/
import Derived.Test.YtjndmmcjobbcbaaGreatDoorOpenI
import Derived.Test.YtjndmmcjobbcbaaGreatDoorSetShiftsZ14
import Derived.Test.YtjndmmcjobbcbaaGreatDoorOpenN
import Derived.Deep.SlicePairs
namespace Go.Proofs.YtjndmmcjobbcbaaGreatDoor

section
open Go.ChangeShapes Go.WideShapes Go.ChangeAt Go.RowKit Go.Joins Go.Deep
theorem cellsU64R : Tryz.prog.cellsOf 22 = 1 := by kernel_rfl
theorem cellsBoolR : Tryz.prog.cellsOf 4 = 1 := by kernel_rfl
theorem cellsReqR : Tryz.prog.cellsOf 53 = 10 := by kernel_rfl
theorem req_cells {H : Type} {enc : TypeId × Value → H} {W : World} {base : Nat} {spare : Nat → Bool} {held : Bool} {fuel : Nat} {u0 u1 u2 u3 u4 u5 u6 u7 u8 u9 : Value} {x : DataW H × List MemPlace}
  (h : DataW.trod enc Tryz.prog W base spare held fuel 53 [u0, u1, u2, u3, u4, u5, u6, u7, u8, u9] = some x) :
  ∃ r : Rq, [u0, u1, u2, u3, u4, u5, u6, u7, u8, u9] = r.cells ∧ r.In := by
 obtain ⟨xs, k, hk, hxy, _, hxl, hf⟩ := DataW.trod_struct Tryz.underlying53 h
 match xs, hxl with
 | [y0, y1, y2, y3], _ =>
  have g0 := hf 0 _ rfl;have g1 := hf 1 _ rfl;have g2 := hf 2 _ rfl;have g3 := hf 3 _ rfl;simp [cellsItemI, cellsU64R, cellsBoolR] at g0 g1 g2 g3;obtain ⟨a, e0, ha⟩ := item_cells g0;obtain ⟨l, e1, _, w1⟩ := DataW.trod_int Tryz.underlying22 g1;obtain ⟨s, e2, _, w2⟩ := DataW.trod_int Tryz.underlying22 g2;obtain ⟨z, e3, _⟩ := DataW.trod_bool Tryz.underlying4 g3;simp at e1 e2 e3;simp [It.cells] at e0;obtain ⟨q0, q1, q2, q3, q4, q5, q6⟩ := e0;exact ⟨⟨a, l, s, z⟩, by simp [Rq.cells, q0, q1, q2, q3, q4, q5, q6, e1, e2, e3], ha, bounds_u64 w1, bounds_u64 w2⟩
end


section
open Go.ChangeShapes Go.WideShapes Go.ChangeAt Go.RowKit Go.Joins Go.Deep
theorem cellsU8Q : Tryz.prog.cellsOf 5 = 1 := by kernel_rfl
end


section
open Go.ChangeShapes Go.WideShapes Go.ChangeAt Go.RowKit Go.Joins Go.Deep
def RdT (w : World) (A : Option Addr) (n : Nat) (l : List (Int × Rq)) : Prop :=
 l.length = n ∧ ∀ i, i < n → ∃ b off, A = some ⟨b, off, none⟩ ∧ b < w.heap.size ∧ ∀ j, j < n → w.cell? ⟨b, off + j * 11, none⟩ = some (.int .u8 (l.getD j (0, Rq.no)).1) ∧ w.rangeAt b (off + j * 11 + 1) (l.getD j (0, Rq.no)).2.cells
def InT (l : List (Int × Rq)) : Prop := ∀ p ∈ l, (0 ≤ p.1 ∧ p.1 ≤ 255) ∧ p.2.In
theorem RdT.below {w w' : World} {A : Option Addr} {n : Nat} {l : List (Int × Rq)} (h : RdT w A n l) (hb : Below w.heap.size w w') : RdT w' A n l :=
 ⟨h.1, fun i hi => by
  obtain ⟨b, off, e, hl, hc⟩ := h.2 i hi;exact ⟨b, off, e, Nat.lt_of_lt_of_le hl hb.size, fun j hj => ⟨keep1 hb (hc j hj).1, fun k v hk => keep1 hb ((hc j hj).2 k v hk)⟩⟩⟩
theorem cellsActS : Tryz.prog.cellsOf 100 = 11 := by kernel_rfl
theorem ract_cells {H : Type} {enc : TypeId × Value → H} {W : World} {base : Nat} {spare : Nat → Bool} {held : Bool} {fuel : Nat} {v u0 u1 u2 u3 u4 u5 u6 u7 u8 u9 : Value} {x : DataW H × List MemPlace}
  (h : DataW.trod enc Tryz.prog W base spare held fuel 100 [v, u0, u1, u2, u3, u4, u5, u6, u7, u8, u9] = some x) :
  ∃ (d : Int) (r : Rq), v = .int .u8 d ∧ (0 ≤ d ∧ d ≤ 255) ∧ [u0, u1, u2, u3, u4, u5, u6, u7, u8, u9] = r.cells ∧ r.In := by
 obtain ⟨xs, k, hk, hxy, _, hxl, hf⟩ := DataW.trod_struct Tryz.underlying100 h
 match xs, hxl with
 | [y0, y1], _ =>
  have g0 := hf 0 _ rfl;have g1 := hf 1 _ rfl;simp [cellsU8Q, cellsReqR] at g0 g1;obtain ⟨d0, e0, _, w0⟩ := DataW.trod_int Tryz.underlying5 g0;obtain ⟨a, e, ha⟩ := req_cells g1;simp at e0;refine ⟨d0, a, e0, ?_, e, ha⟩;have := w0;simp [Lit.wf, IntKind.min, IntKind.max, IntKind.signed, IntKind.bits] at this;omega
set_option maxRecDepth 100000 in
set_option maxHeartbeats 1000000 in
theorem open_racts {H : Type} {enc : TypeId × Value → H} {W : World} {base b0 : Nat} {spare : Nat → Bool} {held : Bool} {r : Reach} {v : Value} {d : DataW H} {p : List MemPlace}
  (hv : Value.okWide Tryz.prog W r b0 90 v) (h : DataW.Trod enc Tryz.prog W base spare held 90 v d p) :
  ∃ (a : Option Addr) (n c : Nat) (ps : List (Int × Rq)), v = .slice a n c ∧ (RdT W a n ps ∧ InT ps) ∧ n ≤ 9223372036854775807 := by
 obtain ⟨a, n, c, rfl⟩ := okWide_slice Tryz.underlying90 hv;obtain ⟨fuel, hf⟩ := h;rcases open_slice Tryz.underlying90 hf with ⟨hcs, _⟩ | ⟨x, l, cp, m, nn, D, Plc, hcs, _, hl, hm, hmm, _, hx⟩
 ·simp [Value.cells] at hcs;obtain ⟨rfl, rfl, rfl⟩ := hcs;exact ⟨_, _, _, [], rfl, ⟨⟨rfl, fun i hi => absurd hi (by omega)⟩, (by intro p hp; cases hp)⟩, by omega⟩
 ·simp [Value.cells] at hcs;obtain ⟨rfl, rfl, rfl⟩ := hcs;have hlm : n ≤ m := by rw [hmm]; split <;> omega
  have each : ∀ i, i < n → ∃ q : Int × Rq, (W.cell? (x.add (i * 11)) = some (.int .u8 q.1) ∧ ∀ k v, q.2.cells[k]? = some v → W.cell? (x.add (i * 11 + (1 + k))) = some v) ∧ (0 ≤ q.1 ∧ q.1 ≤ 255) ∧ q.2.In := by
   intro i hi;obtain ⟨cs', h1, h2⟩ := hx i (by omega);rw [cellsActS] at h1;obtain ⟨_, hlen, hcell⟩ := World.cells?_some h1
   match cs', hlen with
   | [v, u0, u1, u2, u3, u4, u5, u6, u7, u8, u9], _ =>
    obtain ⟨dd, q, hd, hdb, hq, hin⟩ := ract_cells h2;subst hd;refine ⟨(dd, q), ⟨?_, fun k v hk => ?_⟩, hdb, hin⟩
    ·have e0 := hcell 0 (by omega);rw [add_add] at e0;simpa using e0
    ·rw [← hq] at hk;obtain ⟨hk1, hk2⟩ := List.getElem?_eq_some_iff.1 hk;have hk1' : k < 10 := hk1;have e := hcell (1 + k) (by omega);rw [add_add] at e;rw [e, ← hk2];have e2 : ([.int .u8 dd, u0, u1, u2, u3, u4, u5, u6, u7, u8, u9] : List Value)[1 + k]? = ([u0, u1, u2, u3, u4, u5, u6, u7, u8, u9] : List Value)[k]? := by rw [Nat.add_comm]; rfl
     exact e2.trans (List.getElem?_eq_getElem hk1)
  have hget : ∀ (f : Nat → Int × Rq) (j : Nat), j < n → ((List.range n).map f).getD j (0, Rq.no) = f j := fun f j hj => by simp [List.getD, hj]
  refine ⟨_, _, _, (List.range n).map (fun i => if hi : i < n then (each i hi).choose else (0, Rq.no)), rfl, ⟨⟨by simp, fun i hi => ?_⟩, ?_⟩, by unfold maxLen at hm; omega⟩
  ·obtain ⟨u, h0⟩ : ∃ u, W.cell? (x.add 0) = some u := by
    obtain ⟨q, hq, _⟩ := each 0 (by omega);exact ⟨_, hq.1⟩
   have ex := spot_none h0;refine ⟨x.block, x.off, by rw [← ex], World.block_lt_of_cell? W _ (by rw [show x.add 0 = x by simp [Addr.add]] at h0; exact h0), fun j hj => ?_⟩;rw [hget _ j hj, dif_pos hj];have hj' := (each j hj).choose_spec.1;generalize (each j hj).choose = q at *
   rw [ex] at hj';simp only [add_at] at hj';refine ⟨hj'.1, fun k v hk => ?_⟩;have := hj'.2 k v hk;rw [show x.off + j * 11 + 1 + k = x.off + (j * 11 + (1 + k)) by omega];exact this
  ·intro q hq;rw [List.mem_map] at hq;obtain ⟨j, hj, rfl⟩ := hq;have hj' : j < n := List.mem_range.1 hj;rw [dif_pos hj'];exact (each j hj').choose_spec.2
end

end Go.Proofs.YtjndmmcjobbcbaaGreatDoor

import Derived.Test.YtjchnkmolhgpmaaGreatDoorSettleShiftsZ14
import Derived.Test.YtjchnkmolhgpmaaGreatDoorRbB
import Derived.Maps.OwnSet
import Derived.Maps.Views
namespace Go.Proofs.YtjchnkmolhgpmaaGreatDoor
open Go.RowKit
set_option maxRecDepth 100000
set_option maxHeartbeats 32000000
def encI (x : It) : DataW Unit := .agg [.lit (.int .u64 x.t), .lit (.int .u32 x.r), .lit (.int .u32 x.v), .lit (.int .i64 x.i), .lit (.int .u64 x.u), .lit (.int .u32 x.s), .lit (.int .u32 x.y)]
def itL : List Value → Option (DataW Unit × List MemPlace)
 | [.int .u64 t, .int .u32 r, .int .u32 v, .int .i64 i, .int .u64 u, .int .u32 s, .int .u32 y] => some (encI ⟨t, r, v, i, u, s, y⟩, [])
 | _ => none
def itElem (v : Value) : Option (DataW Unit × List MemPlace) := match v with
 | .agg vs => itL vs.toList
 | _ => none
theorem itElem_mk (x : It) : itElem x.val = some (encI x, []) := rfl
theorem itElem_inv {v : Value} {z : DataW Unit × List MemPlace} (h : itElem v = some z) : ∃ x : It, v = x.val ∧ z = (encI x, []) := by
 unfold itElem at h;split at h
 ·rename_i vs
  unfold itL at h;split at h
  ·rename_i t r v i u s y e
   injection h with h;refine ⟨⟨t, r, v, i, u, s, y⟩, ?_, h.symm⟩;have : vs = #[.int .u64 t, .int .u32 r, .int .u32 v, .int .i64 i, .int .u64 u, .int .u32 s, .int .u32 y] := by
    rw [← Array.toArray_toList (xs := vs), e]
   rw [this]
  ·cases h
 ·cases h
theorem encI_inj {x y : It} (h : encI x = encI y) : x = y := by
 unfold encI at h;simp only [DataW.agg.injEq, List.cons.injEq, DataW.lit.injEq, Lit.int.injEq, true_and, and_true] at h;obtain ⟨h1, h2, h3, h4, h5, h6, h7⟩ := h;cases x; cases y;simp_all
abbrev keyI (i : Int) : Lit := .int .i64 i
theorem keyI_ne {i j : Int} (h : i ≠ j) : keyI i ≠ keyI j := fun e => h (by injection e)
theorem keyOfI {i : Int} (hw : (Lit.int .i64 i).wf = true) : keyOf Tryz.prog 3 (.int .i64 i) = some (keyI i) := Maps.keyOf_int_mk Tryz.underlying3 hw
theorem keyedI : Maps.Keyed Tryz.prog 3 := Maps.int_keyed Tryz.underlying3
theorem zeroItem (w : World) : (zeroValue 57).run Tryz.prog w = .ok It.zero.val w := by kernel_rfl
theorem wfI {i : Int} (h : -9223372036854775808 ≤ i ∧ i ≤ 9223372036854775807) : (Lit.int .i64 i).wf = true := by
 have e1 : IntKind.i64.min = -9223372036854775808 := rfl;have e2 : IntKind.i64.max = 9223372036854775807 := rfl;simp [Lit.wf, e1, e2];omega
def MpI (w : World) (b : Nat) (l : List It) : Prop := ∃ D, w.ownsMap Tryz.prog 3 itElem b l.length D ∧ Maps.size D = l.length ∧ (∀ x ∈ l, Maps.has D (keyI x.i) = true ∧ ∀ z, D.atKey (keyI x.i) z = encI x) ∧ ∀ i, (∀ x ∈ l, x.i ≠ i) → Maps.has D (keyI i) = false
theorem owns_tight {w : World} {b n : Nat} {D : DataW Unit} (h : w.ownsMap Tryz.prog 3 itElem b n D) : w.ownsMap Tryz.prog 3 itElem b (Maps.size D) D := by
 obtain ⟨es, clock, hb, F, hs, rfl⟩ := h;exact ⟨es, clock, hb, F, by rw [Maps.size_eq, length_sorted]; simp, rfl⟩
theorem MpI.made (w : World) : MpI (w.alloc (.map #[] 0)) w.heap.size [] := by
 refine ⟨.map [], World.ownsMap_made _ _ _ _, rfl, ?_, fun i _ => rfl⟩;intro x hx;simp at hx
theorem MpI.lt {w : World} {b : Nat} {l : List It} (h : MpI w b l) : b < w.heap.size := by obtain ⟨D, h, _⟩ := h; exact h.lt
theorem MpI.chg {F : List Nat} {w w' : World} {b : Nat} {l : List It} (h : MpI w b l) (hc : Chg F w w') (hb : b ∉ F) : MpI w' b l := by
 obtain ⟨D, ⟨es, clock, hh, r⟩, hr⟩ := h;exact ⟨D, ⟨es, clock, (hc.block b (Array.getElem?_eq_some_iff.1 hh).1 hb).trans hh, r⟩, hr⟩
theorem MpI.below {w w' : World} {b : Nat} {l : List It} (h : MpI w b l) (hb : Below w.heap.size w w') : MpI w' b l := h.chg (F := []) (Chg.below hb) (by simp)
theorem MpI.cell {w : World} {b : Nat} {l : List It} (h : MpI w b l) (o : Nat) : w.cell? ⟨b, o, none⟩ = none := by
 obtain ⟨D, ⟨es, clock, hh, _⟩, _⟩ := h;simp [World.cell?, hh]
theorem MpI.perm {w : World} {b : Nat} {l k : List It} (h : MpI w b l) (p : l.Perm k) : MpI w b k := by
 obtain ⟨D, h1, h2, h3, h4⟩ := h;exact ⟨D, by rw [← p.length_eq]; exact h1, by rw [← p.length_eq]; exact h2, fun x hx => h3 x (p.mem_iff.2 hx), fun i hi => h4 i (fun x hx => hi x (p.mem_iff.1 hx))⟩
theorem MpI.yes {w : World} {b : Nat} {l : List It} (h : MpI w b l) {x : It} (hx : x ∈ l) (hi : x.In) : (Instr.lookup 112 (.map (some b)) (.int .i64 x.i) true).run Tryz.prog w = .ok (.tuple #[x.val, .bool true]) w := by
 obtain ⟨D, h1, _, h3, _⟩ := h;obtain ⟨v, ps, hr, hv⟩ := h1.look_ok keyedI Tryz.underlying112 (zeroItem w) (itElem_mk It.zero) (keyOfI (wfI hi.2.2.2.1));rw [(h3 x hx).1] at hr;rw [(h3 x hx).2] at hv;obtain ⟨y, rfl, e⟩ := itElem_inv hv;rw [← encI_inj (congrArg Prod.fst e)] at hr;exact hr
theorem MpI.no {w : World} {b : Nat} {l : List It} (h : MpI w b l) {i : Int} (hw : -9223372036854775808 ≤ i ∧ i ≤ 9223372036854775807) (hi : ∀ x ∈ l, x.i ≠ i) : (Instr.lookup 112 (.map (some b)) (.int .i64 i) true).run Tryz.prog w = .ok (.tuple #[It.zero.val, .bool false]) w := by
 obtain ⟨D, h1, _, _, h4⟩ := h;obtain ⟨v, ps, hr, hv⟩ := h1.look_ok keyedI Tryz.underlying112 (zeroItem w) (itElem_mk It.zero) (keyOfI (wfI hw));rw [h4 i hi] at hr;rw [Maps.atKey_of_not_has (h4 i hi)] at hv;obtain ⟨y, rfl, e⟩ := itElem_inv hv;rw [← encI_inj (congrArg Prod.fst e)] at hr;exact hr
theorem MpI.len {w : World} {b : Nat} {l : List It} (h : MpI w b l) (ty : TypeId) : (Builtin.len_ #[112] ty #[.map (some b)]).run Tryz.prog w = .ok (.int .i64 l.length) w := by
 obtain ⟨D, h1, h2, _⟩ := h;rw [← h2];exact h1.len Tryz.underlying112 ty
theorem MpI.put {w : World} {b : Nat} {l : List It} (h : MpI w b l) {x : It} (hi : x.In) (hx : ∀ y ∈ l, y.i ≠ x.i) (hn : l.length ≤ 1000000) :
  ∃ w', (Instr.mapUpdate 112 (.map (some b)) (.int .i64 x.i) x.val).run Tryz.prog w = .ok () w' ∧ MpI w' b (x :: l) ∧ Chg [b] w w' := by
 obtain ⟨D, h1, h2, h3, h4⟩ := h;obtain ⟨w', hr, g1, g2⟩ := h1.update keyedI Tryz.underlying112 (by unfold maxLen; omega) (keyOfI (wfI hi.2.2.2.1)) (itElem_mk x);have hz : Maps.size (D.put (keyI x.i) (encI x)) = l.length + 1 := by
  rw [Maps.size_put (h1.tidy keyedI), h4 x.i hx, h2]; simp
 refine ⟨w', hr, ⟨_, by have := owns_tight g1; rwa [hz] at this, hz, fun y hy => ?_, fun i hi' => ?_⟩, ⟨g2.os, g2.tape, g2.output, g2.size, fun k hk hk' => g2.block k hk (fun e => hk' (by injection e with e; simp [e]))⟩⟩
 ·rcases List.mem_cons.1 hy with rfl | hy
  ·exact ⟨Maps.has_put_same (k := keyI y.i) h1.isMap (by simp [WideAt.IsKeyLit]) _, fun z => Maps.atKey_put_same (k := keyI y.i) h1.isMap (by simp [WideAt.IsKeyLit]) _ z⟩
  ·have e := keyI_ne (hx y hy);exact ⟨by rw [Maps.has_put_other e]; exact (h3 y hy).1, fun z => by rw [Maps.atKey_put_other e]; exact (h3 y hy).2 z⟩
 ·rw [Maps.has_put_other (keyI_ne (fun e => hi' x (by simp) e.symm))];exact h4 i (fun y hy => hi' y (by simp [hy]))
theorem MpI.del {w : World} {b : Nat} {l k : List It} (h : MpI w b l) {x : It} (hi : x.In) (p : l.Perm (x :: k)) (hd : ∀ y ∈ k, y.i ≠ x.i) (ty : TypeId) :
  ∃ w', (Builtin.delete_ #[112, 3] ty #[.map (some b), .int .i64 x.i]).run Tryz.prog w = .ok (.tuple #[]) w' ∧ MpI w' b k ∧ Chg [b] w w' := by
 obtain ⟨D, h1, h2, h3, h4⟩ := h.perm p;obtain ⟨w', hr, g1, g2⟩ := h1.drop keyedI Tryz.underlying112 (keyOfI (wfI hi.2.2.2.1)) ty;have hz : Maps.size (D.del (keyI x.i)) = k.length := by
  have := Maps.size_del (k := keyI x.i) (h1.tidy keyedI);rw [(h3 x (by simp)).1, h2] at this;simp at this;exact this
 have gg := g2.grown;refine ⟨w', hr, ⟨_, by have := owns_tight g1; rwa [hz] at this, hz, fun y hy => ?_, fun i hi' => ?_⟩, ⟨gg.os, gg.tape, gg.output, gg.size, fun j hj hj' => gg.block j hj (fun e => hj' (by injection e with e; simp [e]))⟩⟩
 ·have e := keyI_ne (hd y hy);exact ⟨by rw [Maps.has_del_other e]; exact (h3 y (by simp [hy])).1, fun z => by rw [Maps.atKey_del_other e]; exact (h3 y (by simp [hy])).2 z⟩
 ·by_cases e : i = x.i
  ·rw [e]; exact Maps.has_del_same
  ·rw [Maps.has_del_other (keyI_ne e)];exact h4 i (fun y hy => by
    rcases List.mem_cons.1 hy with rfl | hy
    ·exact fun e' => e e'.symm
    ·exact hi' y hy)
end Go.Proofs.YtjchnkmolhgpmaaGreatDoor

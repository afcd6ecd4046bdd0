import Derived.Test.YtbcepkfdlaioaaaGreatDtreePlaysZ0
import Derived.Deep.RegionHeld3
import Derived.Laws.OwnMore
namespace Go.Proofs.YtbcepkfdlaioaaaGreat
open Go.RowKit
def Cs (w : World) (g : Nat) (vs : List Value) : Prop := ∀ i (v : Value), vs[i]? = some v → w.cell? ⟨g, i, none⟩ = some v ∧ w.frozen? ⟨g, i, none⟩ = false
theorem Cs.below {w w' : World} {g : Nat} {vs : List Value} (h : Cs w g vs) (hb : Below w.heap.size w w') : Cs w' g vs := fun i v hv => by
 have hl := World.block_lt_of_cell? w _ (h i v hv).1
 exact ⟨keep1 hb (h i v hv).1, (hb.frozen (p := ⟨g, i, none⟩) hl).trans (h i v hv).2⟩
theorem Cs.drew {w : World} {g : Nat} {vs : List Value} (h : Cs w g vs) : Cs w.drew g vs := h
theorem Cs.alloc {w : World} {g : Nat} {vs : List Value} (h : Cs w g vs) (o : Obj) : Cs (w.alloc o) g vs := h.below ((Below.refl _ _).alloc (Nat.le_refl _) o)
theorem Cs.far {w : World} {g : Nat} {vs : List Value} (h : Cs w g vs) {b : Nat} (hb : b ≠ g) (o : Nat) (u : Value) : Cs (w.setCell ⟨b, o, none⟩ u) g vs := fun i v hv =>
 ⟨(World.cell?_setCell_other w ⟨b, o, none⟩ ⟨g, i, none⟩ u (fun e => by injection e with e1; exact hb e1)).trans (h i v hv).1, by simpa [go_sem] using (h i v hv).2⟩
theorem Cs.lt {w : World} {g : Nat} {v : Value} {vs : List Value} (h : Cs w g (v :: vs)) : g < w.heap.size := World.block_lt_of_cell? w _ (h 0 v rfl).1
theorem Cs.at0 {w : World} {g : Nat} {v : Value} {vs : List Value} (h : Cs w g (v :: vs)) : w.cell? ⟨g, 0, none⟩ = some v := (h 0 v rfl).1
theorem Cs.at1 {w : World} {g : Nat} {u v : Value} {vs : List Value} (h : Cs w g (u :: v :: vs)) : w.cell? ⟨g, 1, none⟩ = some v := (h 1 v rfl).1
theorem Cs.at2 {w : World} {g : Nat} {t u v : Value} {vs : List Value} (h : Cs w g (t :: u :: v :: vs)) : w.cell? ⟨g, 2, none⟩ = some v := (h 2 v rfl).1
theorem Cs.fr0 {w : World} {g : Nat} {v : Value} {vs : List Value} (h : Cs w g (v :: vs)) : w.frozen? ⟨g, 0, none⟩ = false := (h 0 v rfl).2
theorem Cs.fr1 {w : World} {g : Nat} {u v : Value} {vs : List Value} (h : Cs w g (u :: v :: vs)) : w.frozen? ⟨g, 1, none⟩ = false := (h 1 v rfl).2
theorem Cs.fr2 {w : World} {g : Nat} {t u v : Value} {vs : List Value} (h : Cs w g (t :: u :: v :: vs)) : w.frozen? ⟨g, 2, none⟩ = false := (h 2 v rfl).2
theorem Cs.new2 (w : World) (t : TypeId) (u v : Value) : Cs (w.alloc (.cells #[u, v] t)) w.heap.size [u, v] := fun i x hx => by
 rcases i with _ | _ | i
 ·simp at hx; subst hx; simp [go_sem]
 ·simp at hx; subst hx; simp [go_sem]
 ·simp at hx
theorem Cs.new3 (w : World) (t : TypeId) (s u v : Value) : Cs (w.alloc (.cells #[s, u, v] t)) w.heap.size [s, u, v] := fun i x hx => by
 rcases i with _ | _ | _ | i
 ·simp at hx; subst hx; simp [go_sem]
 ·simp at hx; subst hx; simp [go_sem]
 ·simp at hx; subst hx; simp [go_sem]
 ·simp at hx
theorem Cs.put2 {w : World} {g : Nat} {a b : Value} (h : Cs w g [a, b]) (u v : Value) : Cs ((w.setCell ⟨g, 0, none⟩ u).setCell ⟨g, 1, none⟩ v) g [u, v] := by
 have h0 := h.at0
 have h1 := h.at1
 have f0 := h.fr0
 have f1 := h.fr1
 intro i x hx
 rcases i with _ | _ | i
 ·simp at hx; subst hx; simp [go_sem, h0, f0]
 ·simp at hx; subst hx; simp [go_sem, h1, f1]
 ·simp at hx
theorem tH {P : Program} {md : Region.Mode} {ops : Array Oper} {Q : Exit → Act → World → Prop} {S : World → Prop} (i : Nat) {oi : Oper} {v : Value} {fuel : Nat} {listed : Array Bool} {a : Act} {w : World} (h : wpAnyH P md ops Q S fuel (listed.setIfInBounds i true) (a.put oi.dst v) w) (hi : ops[i]? = some oi := by rfl)
  (hs : Region.noSelect ops = true := by kernel_rfl) (hf : Region.free md ops listed i = true := by kernel_rfl) (hr : (Region.ready md ops listed).contains i = true := by kernel_rfl) (hQ : ∀ c a w, Q (.panic c) (a.put oi.dst v) w → Q (.panic c) a w := by exact fun _ _ _ h => h)
  (hw : Region.wanted oi (yielded ops a.tmps) = true := by rfl) (hy : ∀ w, S w → (execOp a.eval oi).run P w = .ok (.value v) w := by intro w hSw; (try dsimp only at hSw); go_simp; (try with_reducible rfl)) (hS : S w := by assumption) : wpAnyH P md ops Q S (fuel + 1) listed a w :=
 wpAnyH_take hi hs hf hr hQ (Or.inl ⟨hw, hy⟩) hS h
theorem tN {P : Program} {md : Region.Mode} {ops : Array Oper} {Q : Exit → Act → World → Prop} {S : World → Prop} (i : Nat) {oi : Oper} {fuel : Nat} {listed : Array Bool} {a : Act} {w : World} (h : wpAnyH P md ops Q S fuel (listed.setIfInBounds i true) (a.put oi.dst undef) w) (hi : ops[i]? = some oi := by rfl)
  (hs : Region.noSelect ops = true := by kernel_rfl) (hf : Region.free md ops listed i = true := by kernel_rfl) (hr : (Region.ready md ops listed).contains i = true := by kernel_rfl) (hQ : ∀ c a w, Q (.panic c) (a.put oi.dst undef) w → Q (.panic c) a w := by exact fun _ _ _ h => h)
  (hw : Region.wanted oi (yielded ops a.tmps) = false := by rfl) (hS : S w := by assumption) : wpAnyH P md ops Q S (fuel + 1) listed a w :=
 wpAnyH_take hi hs hf hr hQ (Or.inr ⟨hw, rfl⟩) hS h
end Go.Proofs.YtbcepkfdlaioaaaGreat

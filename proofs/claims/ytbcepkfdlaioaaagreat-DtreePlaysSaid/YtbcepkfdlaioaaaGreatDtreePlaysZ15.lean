/- Texts of DtreePlays's proof, together. -/
import Derived.Test.YtbcepkfdlaioaaaGreatDtreePlaysZ13
import Derived.Test.YtbcepkfdlaioaaaGreatDtreePlaysZ14
import Derived.Deep.MidRow
import Derived.Test.YtbcepkfdlaioaaaGreatDtreePlaysZ0
import Derived.Test.YtbcepkfdlaioaaaGreatDtreePlaysZ10
import Derived.Test.YtbcepkfdlaioaaaGreatDtreePlaysZ7
namespace Go.Proofs.YtbcepkfdlaioaaaGreat

section
open Go.RowKit
theorem infoItem : (Tryz.prog.info? 35).map (·.size) = some 7 := by kernel_rfl
theorem infoRefItem : (Tryz.prog.info? 48).map (·.size) = some 7 := by kernel_rfl
def Th (w : World) (g : Nat) (x : It) : Prop := w.cell? ⟨g, 0, none⟩ = some (.int .u64 x.t) ∧ w.cell? ⟨g, 1, none⟩ = some (.int .u32 x.r) ∧ w.cell? ⟨g, 2, none⟩ = some (.int .u32 x.v) ∧ w.cell? ⟨g, 3, none⟩ = some (.int .i64 x.i) ∧ w.cell? ⟨g, 4, none⟩ = some (.int .u64 x.u) ∧ w.cell? ⟨g, 5, none⟩ = some (.int .u32 x.s) ∧ w.cell? ⟨g, 6, none⟩ = some (.int .u32 x.y)
theorem Th.below {w w' : World} {g : Nat} {x : It} (h : Th w g x) (hb : Below w.heap.size w w') : Th w' g x := ⟨keep1 hb h.1, keep1 hb h.2.1, keep1 hb h.2.2.1, keep1 hb h.2.2.2.1, keep1 hb h.2.2.2.2.1, keep1 hb h.2.2.2.2.2.1, keep1 hb h.2.2.2.2.2.2⟩
theorem Cs.th7 {w : World} {g : Nat} {x : It} (h : Cs w g x.cells) : Th w g x := It.at x h
theorem Cs.putAt {w : World} {g : Nat} {vs : List Value} (h : Cs w g vs) (i : Nat) (hi : i < vs.length) (u : Value) : Cs (w.setCell ⟨g, i, none⟩ u) g (vs.set i u) := by
 intro j x hx
 have hv := h i vs[i] (List.getElem?_eq_getElem hi)
 by_cases e : i = j
 ·subst e
  rw [List.getElem?_set_self hi] at hx
  injection hx with hx
  subst hx
  exact ⟨by simp [go_sem, hv.1], by simp [go_sem, hv.2]⟩
 ·rw [List.getElem?_set_ne e] at hx
  have := h j x hx
  exact ⟨(World.cell?_setCell_other w ⟨g, i, none⟩ ⟨g, j, none⟩ u (fun e' => by injection e' with _ e2; exact e e2)).trans this.1, by simpa [go_sem] using this.2⟩
theorem Cs.stored {w : World} {g : Nat} {x : It} (h : Cs w g x.cells) (k : It) : Cs (w.setCells g 0 k.cells) g k.cells :=
 ((((((h.putAt 0 (by simp [It.cells]) (.int .u64 k.t)).putAt 1 (by simp [It.cells]) (.int .u32 k.r)).putAt 2 (by simp [It.cells]) (.int .u32 k.v)).putAt 3 (by simp [It.cells]) (.int .i64 k.i)).putAt 4 (by simp [It.cells]) (.int .u64 k.u)).putAt 5 (by simp [It.cells]) (.int .u32 k.s)).putAt 6 (by simp [It.cells]) (.int .u32 k.y)
theorem Cs.fars {b g : Nat} {us : List Value} (hb : b ≠ g) : ∀ (vs : List Value) {w : World} (o : Nat), Cs w g us → Cs (w.setCells b o vs) g us
 | [], _, _, h => h
 | v :: r, _, o, h => Cs.fars hb r (o + 1) (h.far hb o v)
theorem below_sets {B b : Nat} {w0 : World} (hB : B ≤ b) : ∀ (vs : List Value) {w : World} (o : Nat), Below B w0 w → Below B w0 (w.setCells b o vs)
 | [], _, _, h => h
 | v :: r, _, o, h => below_sets hB r (o + 1) (h.setCell hB v)
theorem Cs.there7 {w : World} {g : Nat} {x : It} (h : Cs w g x.cells) : w.there g 0 7 := fun j hj => by
 have e : ∃ v, x.cells[j]? = some v := ⟨_, List.getElem?_eq_getElem (by simp [It.cells]; omega)⟩
 obtain ⟨v, e⟩ := e
 rw [Nat.zero_add]
 exact ⟨by rw [(h _ _ e).1]; rfl, (h _ _ e).2⟩
theorem wpList_store_it {ops : Array Oper} {rest : List Oper} {op : Oper} {a : Act} {w : World} {Q : Exit → Act → World → Prop} (T : TypeId) (hT : (Tryz.prog.info? T).map (·.size) = some 7) (hgd : op.guard = none) (x y : Operand) (ho : op.op = .store T x y)
  (b o : Nat) (k : It) (hx : a.eval x = .pointer (some ⟨b, o, none⟩)) (hy : a.eval y = k.val) (ht : w.there b o 7)
  (h : wpList Tryz.prog ops Q rest (a.put op.dst undef) (w.setCells b o k.cells)) : wpList Tryz.prog ops Q (op :: rest) a w :=
 wpList_store_mid hgd T x y ho b o #[.int .u64 k.t, .int .u32 k.r, .int .u32 k.v, .int .i64 k.i, .int .u64 k.u, .int .u32 k.s, .int .u32 k.y] hx hy ht hT (by simp [Value.oneCell']) h
theorem wpList_put_it {ops : Array Oper} {rest : List Oper} {op : Oper} {a : Act} {w : World} {Q : Exit → Act → World → Prop} (T : TypeId) (hT : (Tryz.prog.info? T).map (·.size) = some 7) (hgd : op.guard = none) (x y : Operand) (ho : op.op = .store T x y)
  (b o : Nat) (k : It) (ht : w.there b o 7) (hx : a.eval x = .pointer (some ⟨b, o, none⟩)) (hy : a.eval y = k.val)
  (h : ∀ W, W = w.setCells b o k.cells → wpList Tryz.prog ops Q rest (a.put op.dst undef) W) : wpList Tryz.prog ops Q (op :: rest) a w :=
 wpList_store_it T hT hgd x y ho b o k hx hy ht (h _ rfl)
def I1 (w : World) (a : It) (w' : World) : Prop := Cs w' w.heap.size a.cells ∧ (∃ b : It, Cs w' (w.heap.size + 1) b.cells) ∧ Below w.heap.size w w'
theorem I1.below {w w1 w2 : World} {a : It} (h : I1 w a w1) (hb : Below w1.heap.size w1 w2) : I1 w a w2 := ⟨h.1.below hb, by obtain ⟨b, hc⟩ := h.2.1; exact ⟨b, hc.below hb⟩, below_on h.2.2 hb⟩
theorem I1.drew {w w1 : World} {a : It} (h : I1 w a w1) : I1 w a w1.drew := h.below (Below.refl _ _).drew
theorem I1.there {w w1 : World} {a : It} (h : I1 w a w1) : w1.there (w.heap.size + 1) 0 7 := by obtain ⟨b, hc⟩ := h.2.1; exact hc.there7
theorem I1.store {w w1 : World} {a : It} (h : I1 w a w1) (k : It) : Th (w1.setCells (w.heap.size + 1) 0 k.cells) (w.heap.size + 1) k ∧ Below w.heap.size w (w1.setCells (w.heap.size + 1) 0 k.cells) := by
 obtain ⟨b, hc⟩ := h.2.1
 exact ⟨(hc.stored k).th7, below_sets (by omega) _ _ h.2.2⟩
end


section
open Go.RowKit
def setL : List Value → Nat → List Value → List Value
 | us, _, [] => us
 | us, o, v :: r => setL (us.set o v) (o + 1) r
theorem Cs.putL {g : Nat} : ∀ (vs : List Value) {w : World} {us : List Value} (o : Nat), Cs w g us → o + vs.length ≤ us.length → Cs (w.setCells g o vs) g (setL us o vs)
 | [], _, _, _, h, _ => h
 | v :: r, _, us, o, h, hl => Cs.putL r (o + 1) (h.putAt o (by simp at hl; omega) v) (by simp at hl ⊢; omega)
theorem Cs.thereL {w : World} {g : Nat} {us : List Value} (h : Cs w g us) : w.there g 0 us.length := fun j hj => by
 rw [Nat.zero_add]
 exact ⟨by rw [(h j _ (List.getElem?_eq_getElem hj)).1]; rfl, (h j _ (List.getElem?_eq_getElem hj)).2⟩
theorem wpList_put_cs {ops : Array Oper} {rest : List Oper} {op : Oper} {a : Act} {w : World} {Q : Exit → Act → World → Prop} (T : TypeId) (vs : List Value) {n : Nat} (hT : (Tryz.prog.info? T).map (·.size) = some n) (hgd : op.guard = none) (x y : Operand) (ho : op.op = .store T x y)
  (b : Nat) (us : List Value) (hc : Cs w b us) (hn : vs.length = n) (hl : us.length = n) (h1 : vs.all (·.oneCell') = true) (hx : a.eval x = .pointer (some ⟨b, 0, none⟩)) (hy : a.eval y = .agg vs.toArray)
  (h : ∀ W, W = w.setCells b 0 vs → wpList Tryz.prog ops Q rest (a.put op.dst undef) W) : wpList Tryz.prog ops Q (op :: rest) a w :=
 wpList_store_mid hgd T x y ho b 0 vs.toArray hx hy (by have := hc.thereL; rw [hl, ← hn] at this; simpa using this) (by rw [hT, ← hn]; simp) (by simpa using h1) (h _ rfl)
theorem pc {ops : Array Oper} {rest : List Oper} {op : Oper} {a : Act} {w : World} {Q : Exit → Act → World → Prop} (T : TypeId) (vs : List Value) {n : Nat} (hT : (Tryz.prog.info? T).map (·.size) = some n) (x y : Nat) (b : Nat) (us : List Value) (hc : Cs w b us)
  (h : ∀ W, W = w.setCells b 0 vs → wpList Tryz.prog ops Q rest (a.put op.dst undef) W) (hgd : op.guard = none := by rfl) (ho : op.op = .store T (.tmp x) (.tmp y) := by rfl) (hn : vs.length = n := by kernel_rfl) (hl : us.length = n := by kernel_rfl) (h1 : vs.all (·.oneCell') = true := by kernel_rfl) (hx : a.eval (.tmp x) = .pointer (some ⟨b, 0, none⟩) := by kernel_rfl) (hy : a.eval (.tmp y) = .agg vs.toArray := by kernel_rfl) : wpList Tryz.prog ops Q (op :: rest) a w :=
 wpList_put_cs T vs hT hgd (.tmp x) (.tmp y) ho b us hc hn hl h1 hx hy h
theorem Cs.at3 {w : World} {g : Nat} {a b c v : Value} {vs : List Value} (h : Cs w g (a :: b :: c :: v :: vs)) : w.cell? ⟨g, 3, none⟩ = some v := (h 3 v rfl).1
theorem Cs.at4 {w : World} {g : Nat} {a b c d v : Value} {vs : List Value} (h : Cs w g (a :: b :: c :: d :: v :: vs)) : w.cell? ⟨g, 4, none⟩ = some v := (h 4 v rfl).1
end

end Go.Proofs.YtbcepkfdlaioaaaGreat

import Derived.Test.YtbcepkfdlaioaaaGreatRbA
import Derived.Test.YtbcepkfdlaioaaaGreatDtreePlaysZ24
import Derived.Laws.EntriesVeiled
namespace Go.Proofs.YtbcepkfdlaioaaaGreat
open Go.RowKit
theorem Cs.at3 {w : World} {g : Nat} {a b c d : Value} {vs : List Value} (h : Cs w g (a :: b :: c :: d :: vs)) : w.cell? ⟨g, 3, none⟩ = some d := (h 3 d rfl).1
theorem Cs.at4 {w : World} {g : Nat} {a b c d e : Value} {vs : List Value} (h : Cs w g (a :: b :: c :: d :: e :: vs)) : w.cell? ⟨g, 4, none⟩ = some e := (h 4 e rfl).1
theorem Cs.fr3 {w : World} {g : Nat} {a b c d : Value} {vs : List Value} (h : Cs w g (a :: b :: c :: d :: vs)) : w.frozen? ⟨g, 3, none⟩ = false := (h 3 d rfl).2
theorem Cs.fr4 {w : World} {g : Nat} {a b c d e : Value} {vs : List Value} (h : Cs w g (a :: b :: c :: d :: e :: vs)) : w.frozen? ⟨g, 4, none⟩ = false := (h 4 e rfl).2
theorem Cs.set {w : World} {g : Nat} {vs : List Value} (h : Cs w g vs) (i : Nat) (hi : i < vs.length) (u : Value) : Cs (w.setCell ⟨g, i, none⟩ u) g (vs.set i u) := by
 intro j x hx
 have hv := h i vs[i] (List.getElem?_eq_getElem hi)
 have hl := World.block_lt_of_cell? w _ hv.1
 by_cases e : i = j
 ·subst e
  rw [List.getElem?_set_self hi] at hx
  injection hx with hx
  subst hx
  exact ⟨by simp [go_sem, hv.1], by simp [go_sem, hv.2]⟩
 ·rw [List.getElem?_set_ne e] at hx
  have := h j x hx
  exact ⟨(World.cell?_setCell_other w ⟨g, i, none⟩ ⟨g, j, none⟩ u (fun e' => by injection e' with _ e2; exact e e2)).trans this.1, by simpa [go_sem] using this.2⟩
theorem Cs.alloc_new (w : World) (t : TypeId) (vs : List Value) : Cs (w.alloc (.cells vs.toArray t)) w.heap.size vs := fun i v hv => by
 refine ⟨?_, by simp [go_sem]⟩
 rw [World.cell?_alloc_new]
 simpa using hv
structure Chg (F : List Nat) (w w' : World) : Prop where
 os : w'.os = w.os
 tape : w'.tape = w.tape
 output : w'.output = w.output
 size : w.heap.size ≤ w'.heap.size
 block : ∀ k, k < w.heap.size → k ∉ F → w'.heap[k]? = w.heap[k]?
theorem Chg.refl (F : List Nat) (w : World) : Chg F w w := ⟨rfl, rfl, rfl, Nat.le_refl _, fun _ _ _ => rfl⟩
theorem Chg.trans {F G : List Nat} {a b c : World} (h : Chg F a b) (k : Chg G b c) (hG : ∀ g ∈ G, g ∈ F ∨ a.heap.size ≤ g) : Chg F a c :=
 ⟨k.os.trans h.os, k.tape.trans h.tape, k.output.trans h.output, Nat.le_trans h.size k.size, fun i hi hF => (k.block i (Nat.lt_of_lt_of_le hi h.size) (fun hg => by
  rcases hG i hg with h1 | h1
  ·exact hF h1
  ·omega)).trans (h.block i hi hF)⟩
theorem Chg.mono {F G : List Nat} {a b : World} (h : Chg F a b) (hF : ∀ g ∈ F, g ∈ G) : Chg G a b := ⟨h.os, h.tape, h.output, h.size, fun k hk hG => h.block k hk (fun h' => hG (hF k h'))⟩
theorem Chg.below {F : List Nat} {w w' : World} (h : Below w.heap.size w w') : Chg F w w' := ⟨h.os, h.tape, h.output, h.size, fun k hk _ => h.block k hk⟩
theorem Chg.set {F : List Nat} {w w' : World} (h : Chg F w w') {g : Nat} (hg : g ∈ F ∨ w.heap.size ≤ g) (o : Nat) (u : Value) : Chg F w (w'.setCell ⟨g, o, none⟩ u) :=
 ⟨h.os, h.tape, h.output, by simpa [World.setCell] using h.size, fun k hk hF => (Below.heap_setCell _ _ _ _ (by rintro rfl; rcases hg with h1 | h1; exact hF h1; omega)).trans (h.block k hk hF)⟩
theorem Chg.cell {F : List Nat} {w w' : World} (h : Chg F w w') {p : Addr} (hp : p.block < w.heap.size) (hF : p.block ∉ F) : w'.cell? p = w.cell? p := World.cell?_of_block (w := w) (h.block p.block hp hF)
theorem Chg.frozen {F : List Nat} {w w' : World} (h : Chg F w w') {p : Addr} (hp : p.block < w.heap.size) (hF : p.block ∉ F) : w'.frozen? p = w.frozen? p := World.frozen?_of_block (w := w) (h.block p.block hp hF)
theorem Chg.toBelow {F : List Nat} {w w' : World} (h : Chg F w w') {B : Nat} (hB : B ≤ w.heap.size) (hF : ∀ g ∈ F, B ≤ g) : Below B w w' :=
 ⟨h.os, h.tape, h.output, h.size, fun k hk => h.block k (Nat.lt_of_lt_of_le hk hB) (fun hk' => by have := hF k hk'; omega)⟩
theorem Cs.chg {F : List Nat} {w w' : World} {g : Nat} {vs : List Value} (h : Cs w g vs) (hc : Chg F w w') (hg : g ∉ F) : Cs w' g vs := fun i v hv => by
 have hl := World.block_lt_of_cell? w _ (h i v hv).1
 exact ⟨(hc.cell (p := ⟨g, i, none⟩) hl hg).trans (h i v hv).1, (hc.frozen (p := ⟨g, i, none⟩) hl hg).trans (h i v hv).2⟩
def Nl (w : World) (g : Nat) : Prop := ∃ A n c, w.cell? ⟨g, 1, none⟩ = some (.slice A n c)
theorem Sl.chg {F : List Nat} {w w' : World} {v : Value} {L : List Int} (h : Sl w v L) (hc : Chg F w w') (hF : ∀ g ∈ F, Nl w g) : Sl w' v L := by
 obtain ⟨s, c, e, h1, h2, h3, h4⟩ := h
 have hs : s ∉ F := by
  intro hs
  obtain ⟨A, n, k, hk⟩ := hF s hs
  rcases h4 with h4 | h4
  ·rw [h3 1 (by omega)] at hk; injection hk with hk; cases hk
  ·rw [h4] at hk; cases hk
 exact ⟨s, c, e, h1, Nat.lt_of_lt_of_le h2 hc.size, fun i hi => (hc.cell (p := ⟨s, i, none⟩) h2 hs).trans (h3 i hi), h4.imp id (fun h => (hc.cell (p := ⟨s, 1, none⟩) h2 hs).trans h)⟩
def ptr {α : Type} : Tr α → Value
 | .nil => .pointer none
 | .node g _ _ _ _ => .pointer (some ⟨g, 0, none⟩)
@[simp] theorem ptr_nil {α : Type} : ptr (.nil : Tr α) = .pointer none := rfl
@[simp] theorem ptr_node {α : Type} {g : Nat} {c : Bool} {l r : Tr α} {x : α} : ptr (.node g c l x r) = .pointer (some ⟨g, 0, none⟩) := rfl
def In (w : World) : Tr Int → Prop
 | .nil => True
 | .node g c l x r => (∃ v, Sl w v (l.list ++ x :: r.list) ∧ Cs w g [.int .i64 x, v, ptr l, ptr r, .bool c]) ∧ In w l ∧ In w r
def St (w : World) : Tr Int → Prop
 | .nil => True
 | .node g c l x r => (∃ A n k, Cs w g [.int .i64 x, .slice A n k, ptr l, ptr r, .bool c]) ∧ In w l ∧ In w r
theorem In.st {w : World} {t : Tr Int} (h : In w t) : St w t := by
 cases t with
 | nil => trivial
 | node g c l x r =>
  obtain ⟨⟨v, ⟨s, k, e, _⟩, hc⟩, hl, hr⟩ := h
  subst e
  exact ⟨⟨_, _, _, hc⟩, hl, hr⟩
theorem In.nl {w : World} {t : Tr Int} : In w t → ∀ g ∈ t.blocks, Nl w g := by
 induction t with
 | nil => intro _ g hg; simp [Tr.blocks] at hg
 | node g c l x r ihl ihr =>
  intro h k hk
  obtain ⟨⟨v, ⟨s, cap, e, _⟩, hc⟩, hl, hr⟩ := h
  subst e
  simp only [Tr.blocks, List.mem_cons, List.mem_append] at hk
  rcases hk with rfl | hk | hk
  ·exact ⟨_, _, _, hc.at1⟩
  ·exact ihl hl k hk
  ·exact ihr hr k hk
theorem St.nl {w : World} {t : Tr Int} (h : St w t) : ∀ g ∈ t.blocks, Nl w g := by
 cases t with
 | nil => intro g hg; simp [Tr.blocks] at hg
 | node g c l x r =>
  intro k hk
  obtain ⟨⟨A, n, cap, hc⟩, hl, hr⟩ := h
  simp only [Tr.blocks, List.mem_cons, List.mem_append] at hk
  rcases hk with rfl | hk | hk
  ·exact ⟨_, _, _, hc.at1⟩
  ·exact hl.nl k hk
  ·exact hr.nl k hk
theorem Nl.lt {w : World} {g : Nat} (h : Nl w g) : g < w.heap.size := by obtain ⟨A, n, c, h⟩ := h; exact World.block_lt_of_cell? w _ h
theorem In.chg {F : List Nat} {w w' : World} {t : Tr Int} : In w t → Chg F w w' → (∀ g ∈ F, Nl w g) → (∀ g ∈ t.blocks, g ∉ F) → In w' t := by
 induction t with
 | nil => intro _ _ _ _; trivial
 | node g c l x r ihl ihr =>
  intro h hc hF hd
  obtain ⟨⟨v, hv, hcs⟩, hl, hr⟩ := h
  exact ⟨⟨v, hv.chg hc hF, hcs.chg hc (hd g (by simp [Tr.blocks]))⟩, ihl hl hc hF (fun k hk => hd k (by simp [Tr.blocks, hk])), ihr hr hc hF (fun k hk => hd k (by simp [Tr.blocks, hk]))⟩
theorem In.below {w w' : World} {t : Tr Int} (h : In w t) (hb : Below w.heap.size w w') : In w' t := h.chg (F := []) (Chg.below hb) (fun g hg => by cases hg) (fun g _ hg => by cases hg)
def Env (w : World) (th : Nat) (root : Value) (n : Int) : Prop := ∃ b1 b2, Cs w th [.func (.func 81) #[] #[], .func (.func 83) #[] #[],
  .func (.func 99) #[] #[.pointer (some ⟨b1, 0, none⟩), .pointer (some ⟨b2, 0, none⟩)], root, .int .i64 n] ∧
 Cs w b1 [.func (.func 82) #[] #[]] ∧ Cs w b2 [.func (.func 83) #[] #[]] ∧ w.cell? ⟨b1, 1, none⟩ = none ∧ w.cell? ⟨b2, 1, none⟩ = none
theorem Env.chg {F : List Nat} {w w' : World} {th : Nat} {root : Value} {n : Int} (h : Env w th root n) (hc : Chg F w w') (hF : ∀ g ∈ F, Nl w g) : Env w' th root n := by
 obtain ⟨b1, b2, h0, h1, h2, n1, n2⟩ := h
 have f0 : th ∉ F := fun hf => by obtain ⟨A, n, c, e⟩ := hF _ hf; rw [h0.at1] at e; injection e with e; cases e
 have f1 : b1 ∉ F := fun hf => by obtain ⟨A, n, c, e⟩ := hF _ hf; rw [n1] at e; cases e
 have f2 : b2 ∉ F := fun hf => by obtain ⟨A, n, c, e⟩ := hF _ hf; rw [n2] at e; cases e
 exact ⟨b1, b2, h0.chg hc f0, h1.chg hc f1, h2.chg hc f2, (hc.cell (p := ⟨b1, 1, none⟩) h1.lt f1).trans n1, (hc.cell (p := ⟨b2, 1, none⟩) h2.lt f2).trans n2⟩
theorem Env.below {w w' : World} {th : Nat} {root : Value} {n : Int} (h : Env w th root n) (hb : Below w.heap.size w w') : Env w' th root n := h.chg (F := []) (Chg.below hb) (fun g hg => by cases hg)
-- reading
theorem Rb.isRed (t : Tr Int) (w : World) (h : St w t) : Calls Tryz.prog 110 #[ptr t] w fun e w' => e = .returned (.bool t.red) ∧ w = w' := by
 cases t with
 | nil =>
  clear h
  simp only [ptr_nil]
  go_enter Tryz.func110, Tryz.ntmps110
  go_wp2
  go_ret
  exact ⟨rfl, rfl⟩
 | node g c l x r =>
  obtain ⟨⟨A, n, k, hc⟩, _⟩ := h
  have h4 := hc.at4
  clear hc
  simp only [ptr_node]
  go_enter Tryz.func110, Tryz.ntmps110
  go_wp2
  go_ret
  exact ⟨rfl, rfl⟩
end Go.Proofs.YtbcepkfdlaioaaaGreat

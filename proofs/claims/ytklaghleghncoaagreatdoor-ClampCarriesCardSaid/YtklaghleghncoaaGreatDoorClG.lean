/- Slices of the document's numbers (Bigs) that a call itself has made, and append: their digits lie in no block of the row. -/
import Derived.Test.YtklaghleghncoaaGreatDoorClampCarriesZ10
import Derived.Test.YtklaghleghncoaaGreatDoorClampCarriesZ19
import Derived.Test.YtklaghleghncoaaGreatDoorRbB
import Derived.Test.YtklaghleghncoaaGreatDoorClampCarriesZ32
import Derived.Deep.AppendLies
namespace Go.Proofs.YtklaghleghncoaaGreatDoor
open Go.RowKit
theorem stays_unit (_x : Unit) : Stays (fun _ : World => True) := fun _ _ _ _ => trivial
/-- A number's digits don't lie in any of these blocks. -/
def offA (F : List Nat) (x : Bq) : Prop := ∀ b off, x.2.1 = some ⟨b, off, none⟩ → 0 < x.2.2.1 → b ∉ F
theorem frA.off {base : Nat} {x : Bq} {F : List Nat} (h : frA base x.2.1 x.2.2.1) (hF : ∀ k ∈ F, k < base) : offA F x := fun b off e hn hb => by
  have h1 := h b off e hn
  have h2 := hF b hb
  omega
theorem bqR.chg {w w' : World} {L : Nat} {z : Int} {x : Bq} {F : List Nat} (h : bqR L z x w) (hc : Chg F w w') (hF : offA F x) : bqR L z x w' := by
  obtain ⟨zs, ⟨h1, h2⟩, h3⟩ := h
  refine ⟨zs, ⟨h1, fun hn => ?_⟩, h3⟩
  obtain ⟨b, off, e, hcl⟩ := h2 hn
  refine ⟨b, off, e, fun j hj => ?_⟩
  have hlt : b < w.heap.size := World.block_lt_of_cell? w _ (hcl 0 hn)
  exact (World.cell?_of_block (a := ⟨b, off + j, none⟩) (hc.block b hlt (hF b off e hn))).trans (hcl j hj)
def zB : Bq × Int := ((false, none, 0, 0), 0)
/-- A slice of numbers that reads as l. -/
def RdB (w : World) (A : Option Addr) (n : Nat) (l : List (Bq × Int)) : Prop :=
  l.length = n ∧ (0 < n → ∃ b off, A = some ⟨b, off, none⟩ ∧ b < w.heap.size ∧ ∀ j, j < n → w.cell? ⟨b, off + j * 2, none⟩ = some (.bool (l.getD j zB).1.1) ∧ w.cell? ⟨b, off + j * 2 + 1, none⟩ = some (.slice (l.getD j zB).1.2.1 (l.getD j zB).1.2.2.1 (l.getD j zB).1.2.2.2)) ∧ ∀ p ∈ l, bqR 18 p.2 p.1 w
theorem RdB.below {w w' : World} {A : Option Addr} {n : Nat} {l : List (Bq × Int)} (h : RdB w A n l) (hb : Below w.heap.size w w') : RdB w' A n l :=
  ⟨h.1, fun hn => by
    obtain ⟨b, off, e, hl, hc⟩ := h.2.1 hn
    exact ⟨b, off, e, Nat.lt_of_lt_of_le hl hb.size, fun j hj => ⟨keep1 hb (hc j hj).1, keep1 hb (hc j hj).2⟩⟩, fun p hp => (h.2.2 p hp).below hb⟩
theorem RdB.get {w : World} {A : Option Addr} {n : Nat} {l : List (Bq × Int)} (h : RdB w A n l) {k : Nat} (hk : k < n) : bqR 18 (l.getD k zB).2 (l.getD k zB).1 w := by
  have hk2 : k < l.length := by have := h.1; omega
  refine h.2.2 _ ?_
  have e : l.getD k zB = l[k] := by simp [List.getD, hk2]
  rw [e]
  exact List.getElem_mem hk2
/-- A slice of numbers of one's own. -/
def OwnB (w : World) (base : Nat) (A : Option Addr) (n c : Nat) (l : List (Bq × Int)) : Prop :=
  w.ownsRow base 41 2 (.slice A n c) n (l.flatMap fun p => bcells p.1) ∧ ∀ p ∈ l, bqR 18 p.2 p.1 w ∧ offA (rowOf A) p.1
theorem flatB_length (l : List (Bq × Int)) : (l.flatMap fun p => bcells p.1).length = l.length * 2 := by
  induction l with
  | nil => rfl
  | cons a l ih => rw [List.flatMap_cons, List.length_append, ih, List.length_cons, show (bcells a.1).length = 2 from rfl]; omega
theorem flatB_get : ∀ (l : List (Bq × Int)) (j i : Nat), j < l.length → i < 2 → (l.flatMap fun p => bcells p.1)[j * 2 + i]? = (bcells (l.getD j zB).1)[i]?
  | [], j, i, h, _ => absurd h (by simp)
  | a :: l, 0, i, _, hi => by
    rw [List.flatMap_cons, List.getElem?_append_left (by rw [show (bcells a.1).length = 2 from rfl]; omega)]
    simp
  | a :: l, j + 1, i, h, hi => by
    rw [List.flatMap_cons, List.getElem?_append_right (by rw [show (bcells a.1).length = 2 from rfl]; omega), show (bcells a.1).length = 2 from rfl, show (j + 1) * 2 + i - 2 = j * 2 + i by omega, flatB_get l j i (by simpa using h) hi]
    simp
theorem OwnB.nil (w : World) (base : Nat) : OwnB w base none 0 0 [] := ⟨World.ownsRow_nil _ _ _ _, fun p hp => by cases hp⟩
theorem OwnB.len {w : World} {base : Nat} {A : Option Addr} {n c : Nat} {l : List (Bq × Int)} (h : OwnB w base A n c l) : l.length = n := by
  have := h.1.1
  rw [flatB_length] at this
  omega
theorem OwnB.rowGe {w : World} {base : Nat} {A : Option Addr} {n c : Nat} {l : List (Bq × Int)} (h : OwnB w base A n c l) : ∀ k ∈ rowOf A, base ≤ k ∧ k < w.heap.size := by
  intro k hk
  rcases h.1.2 with ⟨hv, _⟩ | ⟨g, cap, cur, hv, hb, hg, _⟩
  · injection hv with e1; subst e1; simp [rowOf] at hk
  · injection hv with e1; subst e1
    have hkg : k = g := by simpa [rowOf, eq_comm] using hk
    rw [hkg]
    refine ⟨hb, ?_⟩
    rcases Nat.lt_or_ge g w.heap.size with h1 | h1
    · exact h1
    · rw [Array.getElem?_eq_none h1] at hg; cases hg
theorem OwnB.below {w w' : World} {base : Nat} {A : Option Addr} {n c : Nat} {l : List (Bq × Int)} (h : OwnB w base A n c l) (hb : Below w.heap.size w w') : OwnB w' base A n c l := by
  obtain ⟨⟨h1, h2⟩, h3⟩ := h
  refine ⟨⟨h1, ?_⟩, fun p hp => ⟨(h3 p hp).1.below hb, (h3 p hp).2⟩⟩
  rcases h2 with h2 | ⟨g, cap, cur, hv, hg, hh, r⟩
  · exact .inl h2
  · refine .inr ⟨g, cap, cur, hv, hg, ?_, r⟩
    rw [hb.block g ?_]
    · exact hh
    · rcases Nat.lt_or_ge g w.heap.size with h1 | h1
      · exact h1
      · rw [Array.getElem?_eq_none h1] at hh; cases hh
theorem OwnB.alloc {w : World} {base : Nat} {A : Option Addr} {n c : Nat} {l : List (Bq × Int)} (h : OwnB w base A n c l) (o : Obj) : OwnB (w.alloc o) base A n c l := h.below ((Below.refl _ _).alloc (Nat.le_refl _) o)
theorem OwnB.rdb {w : World} {base : Nat} {A : Option Addr} {n c : Nat} {l : List (Bq × Int)} (h : OwnB w base A n c l) : RdB w A n l := by
  refine ⟨h.len, fun hn => ?_, fun p hp => (h.2 p hp).1⟩
  obtain ⟨g, cap, hv, _, hlt⟩ := h.1.form (by omega)
  have hA : A = some ⟨g, 0, none⟩ := by injection hv
  subst hA
  refine ⟨g, 0, rfl, hlt, fun j hj => ?_⟩
  have hc : ∀ i, i < 2 → w.cell? ⟨g, 0 + j * 2 + i, none⟩ = (bcells (l.getD j zB).1)[i]? := fun i hi => by
    rw [← flatB_get l j i (by rw [h.len]; exact hj) hi, Nat.zero_add]
    injection hv with _ _ e
    subst e
    exact h.1.cellAt _ (by omega)
  exact ⟨hc 0 (by omega), hc 1 (by omega)⟩
/-- append of one number, in a region that goes in order. -/
theorem wpList_append_big {ops : Array Oper} {o : Oper} {a : Act} {rest : List Oper} {Q : Exit → Act → World → Prop} (w : World) (hgd : o.guard = none) (s x : Operand)
    (ho : o.op = .call { callee := .builtin .append, args := #[s, x], argTypes := #[52, 52] })
    (base : Nat) (A : Option Addr) (n c : Nat) (l : List (Bq × Int)) (hs : a.eval s = .slice A n c) (hown : OwnB w base A n c l) (b : Nat) (y : Bq) (z : Int) (hx : a.eval x = .slice (some ⟨b, 0, none⟩) 1 1)
    (hcell : Cs w b (bcells y)) (hy : bqR 18 z y w) (hoff : offA (rowOf A) y) (hn : n ≤ 1000000) (hbase : base ≤ w.heap.size)
    (h : ∀ A' c' w', OwnB w' base A' (n + 1) c' (l ++ [(y, z)]) → Chg (rowOf A) w w' → (∀ k ∈ rowOf A', k ∈ rowOf A ∨ w.heap.size ≤ k) → wpList Tryz.prog ops Q rest (a.put o.dst (.slice A' (n + 1) c')) w') : wpList Tryz.prog ops Q (o :: rest) a w := by
  obtain ⟨i0, hi, hz0, hz1, hz2⟩ : ∃ i0, Tryz.prog.info? 41 = some i0 ∧ i0.zero = some (.agg #[.bool false, .slice none 0 0]) ∧ i0.size = 2 ∧ i0.bytes = 32 := by
    have hq : (Tryz.prog.info? 41).map (fun i => (i.zero, i.size, i.bytes)) = some (some (.agg #[.bool false, .slice none 0 0]), 2, 32) := by kernel_rfl
    cases hi : Tryz.prog.info? 41 with
    | none => rw [hi] at hq; cases hq
    | some i =>
      rw [hi] at hq
      simp only [Option.map_some, Option.some.injEq, Prod.mk.injEq] at hq
      exact ⟨i, rfl, hq.1, hq.2.1, hq.2.2⟩
  have c0 := hcell.at0
  have c1 := hcell.at1
  refine wpList_append_lies w hgd s x 52 ho base 41 i0 (.agg #[.bool false, .slice none 0 0]) 2 32 Tryz.underlying52 hi hz0 hz1 hz2 rfl (by decide) (.slice A n c) n (l.flatMap fun p => bcells p.1) hs hown.1
    ⟨b, 0, none⟩ 1 1 (bcells y) hx rfl ?_ ?_ (by decide) (by unfold maxLen; omega) (by omega) hbase _ rfl ?_
  · intro j u hj
    have hadd : (⟨b, 0, none⟩ : Addr).add j = ⟨b, j, none⟩ := by unfold Addr.add; split <;> simp_all
    rw [hadd]
    match j, hj with
    | 0, hj | 1, hj => simp [bcells] at hj; subst hj; first | exact c0 | exact c1
    | n + 2, hj => simp [bcells] at hj
  · intro u hu; simp [bcells] at hu; rcases hu with rfl | rfl <;> rfl
  · intro g cap w' h2 h3 h4 _
    have hch : Chg (rowOf A) w w' := Chg.grown h3
    have hrow : ∀ k ∈ rowOf (some (⟨g, 0, none⟩ : Addr)), k ∈ rowOf A ∨ w.heap.size ≤ k := fun k hk => by
      simp [rowOf] at hk
      subst hk
      rcases h4 with h4 | h4
      · exact Or.inl (row_own h4)
      · right; omega
    have hold : ∀ (q : Bq) (v : Int), bqR 18 v q w → offA (rowOf A) q → bqR 18 v q w' ∧ offA (rowOf (some (⟨g, 0, none⟩ : Addr))) q := fun q v hq ho => ⟨hq.chg hch ho, fun b' off e hn' hb' => by
      rcases hrow b' hb' with h5 | h5
      · exact ho b' off e hn' h5
      · obtain ⟨zs, ⟨_, h7⟩, _⟩ := hq
        obtain ⟨b2, off2, e2, hc2⟩ := h7 hn'
        rw [e] at e2
        injection e2 with e2
        injection e2 with e3
        subst e3
        have := World.block_lt_of_cell? w _ (hc2 0 hn')
        simp only at this
        omega⟩
    refine h _ _ w' ⟨by simpa [List.flatMap_append] using h2, fun p hp => ?_⟩ hch hrow
    rcases List.mem_append.1 hp with hp | hp
    · exact hold _ _ (hown.2 p hp).1 (hown.2 p hp).2
    · rw [List.mem_singleton.1 hp]
      exact hold _ _ hy hoff
end Go.Proofs.YtklaghleghncoaaGreatDoor

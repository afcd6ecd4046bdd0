/- Texts of DtreePlays's proof, together. -/
import Derived.Test.YtbcepkfdlaioaaaGreatDtreePlaysZ22
import Derived.Test.YtbcepkfdlaioaaaGreatDtreePlaysZ28
import Derived.Deep.AppendLies
import Derived.Test.YtbcepkfdlaioaaaGreatDtreePlaysZ31
import Derived.Test.YtbcepkfdlaioaaaGreatDtreePlaysZ13
import Derived.Deep.TreeCalls
import Derived.Test.YtbcepkfdlaioaaaGreatOrdG
import Derived.Test.YtbcepkfdlaioaaaGreatRbB
namespace Go.Proofs.YtbcepkfdlaioaaaGreat

section
open Go.RowKit
def OwnI (w : World) (base : Nat) (A : Option Addr) (n c : Nat) (l : List It) : Prop := w.ownsRow base 35 7 (.slice A n c) n (l.flatMap It.cells)
theorem It.cells_length (a : It) : a.cells.length = 7 := rfl
theorem flat_length (l : List It) : (l.flatMap It.cells).length = l.length * 7 := by
 induction l with
 | nil => rfl
 | cons a l ih => rw [List.flatMap_cons, List.length_append, ih, It.cells_length, List.length_cons]; omega
theorem flat_getI : ∀ (l : List It) (j i : Nat), j < l.length → i < 7 → (l.flatMap It.cells)[j * 7 + i]? = (l.getD j It.zero).cells[i]?
 | [], j, i, h, _ => absurd h (by simp)
 | a :: l, 0, i, _, hi => by
  rw [List.flatMap_cons, List.getElem?_append_left (by rw [It.cells_length]; omega)]
  simp
 | a :: l, j + 1, i, h, hi => by
  rw [List.flatMap_cons, List.getElem?_append_right (by rw [It.cells_length]; omega), It.cells_length, show (j + 1) * 7 + i - 7 = j * 7 + i by omega, flat_getI l j i (by simpa using h) hi]
  simp
theorem OwnI.nil (w : World) (base : Nat) : OwnI w base none 0 0 [] := World.ownsRow_nil _ _ _ _
theorem OwnI.len {w : World} {base : Nat} {A : Option Addr} {n c : Nat} {l : List It} (h : OwnI w base A n c l) : l.length = n := by
 have := h.1
 rw [flat_length] at this
 omega
theorem OwnI.rowGe {w : World} {base : Nat} {A : Option Addr} {n c : Nat} {l : List It} (h : OwnI w base A n c l) : ∀ k ∈ rowOf A, base ≤ k ∧ k < w.heap.size := by
 intro k hk
 rcases h.2 with ⟨hv, _⟩ | ⟨g, cap, cur, hv, hb, hg, _⟩
 ·injection hv with e1; subst e1; simp [rowOf] at hk
 ·injection hv with e1; subst e1
  have hkg : k = g := by simpa [rowOf, eq_comm] using hk
  rw [hkg]
  refine ⟨hb, ?_⟩
  rcases Nat.lt_or_ge g w.heap.size with h1 | h1
  ·exact h1
  ·rw [Array.getElem?_eq_none h1] at hg; cases hg
theorem OwnI.below {w w' : World} {base : Nat} {A : Option Addr} {n c : Nat} {l : List It} (h : OwnI w base A n c l) (hb : Below w.heap.size w w') : OwnI w' base A n c l := by
 obtain ⟨h1, h2⟩ := h
 refine ⟨h1, ?_⟩
 rcases h2 with h2 | ⟨g, cap, cur, hv, hg, hh, r⟩
 ·exact .inl h2
 ·refine .inr ⟨g, cap, cur, hv, hg, ?_, r⟩
  rw [hb.block g ?_]
  ·exact hh
  ·rcases Nat.lt_or_ge g w.heap.size with h1 | h1
   ·exact h1
   ·rw [Array.getElem?_eq_none h1] at hh; cases hh
theorem OwnI.alloc {w : World} {base : Nat} {A : Option Addr} {n c : Nat} {l : List It} (h : OwnI w base A n c l) (o : Obj) : OwnI (w.alloc o) base A n c l := h.below ((Below.refl _ _).alloc (Nat.le_refl _) o)
theorem OwnI.rdi {w : World} {base : Nat} {A : Option Addr} {n c : Nat} {l : List It} (h : OwnI w base A n c l) : RdI w A n l := by
 refine ⟨h.len, fun i hn => ?_⟩
 obtain ⟨g, cap, hv, _, hlt⟩ := h.form (by omega)
 have hA : A = some ⟨g, 0, none⟩ := by injection hv
 subst hA
 refine ⟨g, 0, rfl, hlt, fun j hj => ?_⟩
 have hc : ∀ i, i < 7 → w.cell? ⟨g, 0 + j * 7 + i, none⟩ = (l.getD j It.zero).cells[i]? := fun i hi => by
  rw [← flat_getI l j i (by rw [h.len]; exact hj) hi, Nat.zero_add]
  injection hv with _ _ e
  subst e
  exact h.cellAt _ (by omega)
 exact ⟨hc 0 (by omega), hc 1 (by omega), hc 2 (by omega), hc 3 (by omega), hc 4 (by omega), hc 5 (by omega), hc 6 (by omega)⟩
theorem step_append_it {ops : Array Oper} {o : Oper} {a : Act} {K : Act → World → Prop} {Q : Exit → Act → World → Prop} {E : Prop} (w : World) (hgd : o.guard = none) (s x : Operand)
  (ho : o.op = .call { callee := .builtin .append, args := #[s, x], argTypes := #[39, 39] })
  (base : Nat) (A : Option Addr) (n c : Nat) (l : List It) (hs : a.eval s = .slice A n c) (hown : OwnI w base A n c l) (b : Nat) (d : It) (hx : a.eval x = .slice (some ⟨b, 0, none⟩) 1 1)
  (hcell : Th w b d) (hn : n ≤ 1000000) (hbase : base ≤ w.heap.size)
  (h : ∀ A' c' w', OwnI w' base A' (n + 1) c' (l ++ [d]) → Chg (rowOf A) w w' → (∀ k ∈ rowOf A', k ∈ rowOf A ∨ w.heap.size ≤ k) → K (a.put o.dst (.slice A' (n + 1) c')) w') :
  if Region.wanted o (yielded ops a.tmps) = true then Oper.wp Tryz.prog o a w K Q else E := by
 obtain ⟨i0, hi, hz0, hz1, hz2⟩ : ∃ i0, Tryz.prog.info? 35 = some i0 ∧ i0.zero = some (.agg #[.int .u64 0, .int .u32 0, .int .u32 0, .int .i64 0, .int .u64 0, .int .u32 0, .int .u32 0]) ∧ i0.size = 7 ∧ i0.bytes = 40 := by
  have hq : (Tryz.prog.info? 35).map (fun i => (i.zero, i.size, i.bytes)) = some (some (.agg #[.int .u64 0, .int .u32 0, .int .u32 0, .int .i64 0, .int .u64 0, .int .u32 0, .int .u32 0]), 7, 40) := by kernel_rfl
  cases hi : Tryz.prog.info? 35 with
  | none => rw [hi] at hq; cases hq
  | some i =>
   rw [hi] at hq
   simp only [Option.map_some, Option.some.injEq, Prod.mk.injEq] at hq
   exact ⟨i, rfl, hq.1, hq.2.1, hq.2.2⟩
 obtain ⟨c0, c1, c2, c3, c4, c5, c6⟩ := hcell
 refine step_append_lies w hgd s x 39 ho base 35 i0 (.agg #[.int .u64 0, .int .u32 0, .int .u32 0, .int .i64 0, .int .u64 0, .int .u32 0, .int .u32 0]) 7 40 Tryz.underlying39 hi hz0 hz1 hz2 rfl (by decide) (.slice A n c) n (l.flatMap It.cells) hs hown
  ⟨b, 0, none⟩ 1 1 d.cells hx rfl ?_ ?_ (by decide) (by unfold maxLen; omega) (by omega) hbase _ rfl ?_
 ·intro j u hj
  have hadd : (⟨b, 0, none⟩ : Addr).add j = ⟨b, j, none⟩ := by unfold Addr.add; split <;> simp_all
  rw [hadd]
  match j, hj with
  | 0, hj | 1, hj | 2, hj | 3, hj | 4, hj | 5, hj | 6, hj => simp [It.cells] at hj; subst hj; first | exact c0 | exact c1 | exact c2 | exact c3 | exact c4 | exact c5 | exact c6
  | n + 7, hj => simp [It.cells] at hj
 ·intro u hu; simp [It.cells] at hu; rcases hu with rfl | rfl | rfl | rfl | rfl | rfl | rfl <;> rfl
 ·intro g cap w' h2 h3 h4 _
  refine h _ _ w' (by unfold OwnI; simpa using h2) (Chg.grown h3) (fun k hk => ?_)
  simp [rowOf] at hk
  subst hk
  rcases h4 with h4 | h4
  ·exact Or.inl (row_own h4)
  ·right; omega
end


section
open Go.RowKit
def OwnR (w : World) (base : Nat) (A : Option Addr) (n c : Nat) (l : List It) : Prop := w.ownsRow base 48 7 (.slice A n c) n (l.flatMap It.cells)
theorem OwnR.nil (w : World) (base : Nat) : OwnR w base none 0 0 [] := World.ownsRow_nil _ _ _ _
theorem OwnR.len {w : World} {base : Nat} {A : Option Addr} {n c : Nat} {l : List It} (h : OwnR w base A n c l) : l.length = n := by
 have := h.1
 rw [flat_length] at this
 omega
theorem OwnR.cap {w : World} {base : Nat} {A : Option Addr} {n c : Nat} {l : List It} (h : OwnR w base A n c l) : n ≤ c := by
 rcases h.2 with ⟨hv, h0⟩ | ⟨g, cap, cur, hv, _, _, h1, _⟩
 ·omega
 ·injection hv with _ _ e; omega
theorem OwnR.rowGe {w : World} {base : Nat} {A : Option Addr} {n c : Nat} {l : List It} (h : OwnR w base A n c l) : ∀ k ∈ rowOf A, base ≤ k ∧ k < w.heap.size := by
 intro k hk
 rcases h.2 with ⟨hv, _⟩ | ⟨g, cap, cur, hv, hb, hg, _⟩
 ·injection hv with e1; subst e1; simp [rowOf] at hk
 ·injection hv with e1; subst e1
  have hkg : k = g := by simpa [rowOf, eq_comm] using hk
  rw [hkg]
  refine ⟨hb, ?_⟩
  rcases Nat.lt_or_ge g w.heap.size with h1 | h1
  ·exact h1
  ·rw [Array.getElem?_eq_none h1] at hg; cases hg
theorem OwnR.below {w w' : World} {base : Nat} {A : Option Addr} {n c : Nat} {l : List It} (h : OwnR w base A n c l) (hb : Below w.heap.size w w') : OwnR w' base A n c l := by
 obtain ⟨h1, h2⟩ := h
 refine ⟨h1, ?_⟩
 rcases h2 with h2 | ⟨g, cap, cur, hv, hg, hh, r⟩
 ·exact .inl h2
 ·refine .inr ⟨g, cap, cur, hv, hg, ?_, r⟩
  rw [hb.block g ?_]
  ·exact hh
  ·rcases Nat.lt_or_ge g w.heap.size with h1 | h1
   ·exact h1
   ·rw [Array.getElem?_eq_none h1] at hh; cases hh
theorem OwnR.alloc {w : World} {base : Nat} {A : Option Addr} {n c : Nat} {l : List It} (h : OwnR w base A n c l) (o : Obj) : OwnR (w.alloc o) base A n c l := h.below ((Below.refl _ _).alloc (Nat.le_refl _) o)
theorem OwnR.rdi {w : World} {base : Nat} {A : Option Addr} {n c : Nat} {l : List It} (h : OwnR w base A n c l) : RdI w A n l := by
 refine ⟨h.len, fun i hn => ?_⟩
 obtain ⟨g, cap, hv, _, hlt⟩ := h.form (by omega)
 have hA : A = some ⟨g, 0, none⟩ := by injection hv
 subst hA
 refine ⟨g, 0, rfl, hlt, fun j hj => ?_⟩
 have hc : ∀ i, i < 7 → w.cell? ⟨g, 0 + j * 7 + i, none⟩ = (l.getD j It.zero).cells[i]? := fun i hi => by
  rw [← flat_getI l j i (by rw [h.len]; exact hj) hi, Nat.zero_add]
  injection hv with _ _ e
  subst e
  exact h.cellAt _ (by omega)
 exact ⟨hc 0 (by omega), hc 1 (by omega), hc 2 (by omega), hc 3 (by omega), hc 4 (by omega), hc 5 (by omega), hc 6 (by omega)⟩
theorem wpList_append_ref {ops : Array Oper} {o : Oper} {a : Act} {rest : List Oper} {Q : Exit → Act → World → Prop} (w : World) (hgd : o.guard = none) (s x : Operand)
  (ho : o.op = .call { callee := .builtin .append, args := #[s, x], argTypes := #[29, 29] })
  (base : Nat) (A : Option Addr) (n c : Nat) (l : List It) (hs : a.eval s = .slice A n c) (hown : OwnR w base A n c l) (b : Nat) (d : It) (hx : a.eval x = .slice (some ⟨b, 0, none⟩) 1 1)
  (hcell : Th w b d) (hn : n ≤ 1000000) (hbase : base ≤ w.heap.size)
  (h : ∀ A' c' w', OwnR w' base A' (n + 1) c' (l ++ [d]) → Chg (rowOf A) w w' → (∀ k ∈ rowOf A', k ∈ rowOf A ∨ w.heap.size ≤ k) → wpList Tryz.prog ops Q rest (a.put o.dst (.slice A' (n + 1) c')) w') : wpList Tryz.prog ops Q (o :: rest) a w := by
 obtain ⟨i0, hi, hz0, hz1, hz2⟩ : ∃ i0, Tryz.prog.info? 48 = some i0 ∧ i0.zero = some (.agg #[.int .u64 0, .int .u32 0, .int .u32 0, .int .i64 0, .int .u64 0, .int .u32 0, .int .u32 0]) ∧ i0.size = 7 ∧ i0.bytes = 40 := by
  have hq : (Tryz.prog.info? 48).map (fun i => (i.zero, i.size, i.bytes)) = some (some (.agg #[.int .u64 0, .int .u32 0, .int .u32 0, .int .i64 0, .int .u64 0, .int .u32 0, .int .u32 0]), 7, 40) := by kernel_rfl
  cases hi : Tryz.prog.info? 48 with
  | none => rw [hi] at hq; cases hq
  | some i =>
   rw [hi] at hq
   simp only [Option.map_some, Option.some.injEq, Prod.mk.injEq] at hq
   exact ⟨i, rfl, hq.1, hq.2.1, hq.2.2⟩
 obtain ⟨c0, c1, c2, c3, c4, c5, c6⟩ := hcell
 refine wpList_append_lies w hgd s x 29 ho base 48 i0 (.agg #[.int .u64 0, .int .u32 0, .int .u32 0, .int .i64 0, .int .u64 0, .int .u32 0, .int .u32 0]) 7 40 Tryz.underlying29 hi hz0 hz1 hz2 rfl (by decide) (.slice A n c) n (l.flatMap It.cells) hs hown
  ⟨b, 0, none⟩ 1 1 d.cells hx rfl ?_ ?_ (by decide) (by unfold maxLen; omega) (by omega) hbase _ rfl ?_
 ·intro j u hj
  have hadd : (⟨b, 0, none⟩ : Addr).add j = ⟨b, j, none⟩ := by unfold Addr.add; split <;> simp_all
  rw [hadd]
  match j, hj with
  | 0, hj | 1, hj | 2, hj | 3, hj | 4, hj | 5, hj | 6, hj => simp [It.cells] at hj; subst hj; first | exact c0 | exact c1 | exact c2 | exact c3 | exact c4 | exact c5 | exact c6
  | n + 7, hj => simp [It.cells] at hj
 ·intro u hu; simp [It.cells] at hu; rcases hu with rfl | rfl | rfl | rfl | rfl | rfl | rfl <;> rfl
 ·intro g cap w' h2 h3 h4 _
  refine h _ _ w' (by unfold OwnR; simpa using h2) (Chg.grown h3) (fun k hk => ?_)
  simp [rowOf] at hk
  subst hk
  rcases h4 with h4 | h4
  ·exact Or.inl (row_own h4)
  ·right; omega
end


section
open Go.RowKit Go.Shelf
theorem eqDless (f : Fn) (a c : Array Value) (w : World) : (binOp .eql 50 (.func f a c) .nilFunc).run Tryz.prog w = .ok (.bool false) w := run_eql_func_nil w _ f a c Tryz.underlying50
theorem eqDone (f : Fn) (a c : Array Value) (w : World) : (binOp .eql 60 (.func f a c) .nilFunc).run Tryz.prog w = .ok (.bool false) w := run_eql_func_nil w _ f a c Tryz.underlying60
theorem eqDtwo (f : Fn) (a c : Array Value) (w : World) : (binOp .eql 62 (.func f a c) .nilFunc).run Tryz.prog w = .ok (.bool false) w := run_eql_func_nil w _ f a c Tryz.underlying62
theorem eqDin (f : Fn) (a c : Array Value) (w : World) : (binOp .eql 42 (.func f a c) .nilFunc).run Tryz.prog w = .ok (.bool false) w := run_eql_func_nil w _ f a c Tryz.underlying42
def DNews (w : World) (e : Ending) (w' : World) : Prop := ∃ th, e = .returned (.pointer (some ⟨th, 0, none⟩)) ∧ w.heap.size ≤ th ∧ DTreeAt w' th .nil ∧ Below w.heap.size w w'
section
attribute [local go_sem] eqDless eqDone eqDtwo
set_option maxRecDepth 100000 in
set_option maxHeartbeats 1000000 in
theorem Dt.new (w : World) :
  Calls Tryz.prog 28 #[(.func (.func 29) #[] #[]), (.func (.func 25) #[] #[]), (.func (.func 26) #[] #[])] w (DNews w) := by
 have HN : Hid (∀ W, W = ((w.alloc (.cells #[(.func (.func 25) #[] #[])] 60)).alloc (.cells #[(.func (.func 26) #[] #[])] 62)) →
   DTreeAt (W.alloc (.cells #[(.func (.func 29) #[] #[]), (.func (.func 26) #[] #[]), (.func (.func 47) #[] #[.pointer (some ⟨w.heap.size, 0, none⟩), .pointer (some ⟨w.heap.size + 1, 0, none⟩)]), .pointer none, .int .i64 0] 69)) (w.heap.size + 2) .nil) := hid (by
  rintro W rfl
  have h1 := Cs.alloc_new w 60 [(.func (.func 25) #[] #[])]
  have h2 := Cs.alloc_new (w.alloc (.cells #[(.func (.func 25) #[] #[])] 60)) 62 [(.func (.func 26) #[] #[])]
  have h3 := Cs.alloc_new ((w.alloc (.cells #[(.func (.func 25) #[] #[])] 60)).alloc (.cells #[(.func (.func 26) #[] #[])] 62)) 69 [(.func (.func 29) #[] #[]), (.func (.func 26) #[] #[]), (.func (.func 47) #[] #[.pointer (some ⟨w.heap.size, 0, none⟩), .pointer (some ⟨w.heap.size + 1, 0, none⟩)]), .pointer none, .int .i64 0]
  simp only [World.size_alloc] at h2 h3
  refine ⟨⟨w.heap.size, w.heap.size + 1, h3, (h1.alloc _).alloc _, h2.alloc _, ?_, ?_, ?_, by omega, by omega⟩, trivial, List.nodup_nil⟩
  ·simp [go_sem]
  ·simp [go_sem]
  ·simp [go_sem])
 go_enter Tryz.func28, Tryz.ntmps28
 go_wp2_with fail
 go_ret
 exact ⟨w.heap.size + 2, rfl, by omega, HN.out _ rfl, (((Below.refl _ _).alloc (Nat.le_refl _) _).alloc (by simp) _).alloc (by simp; omega) _⟩
end
theorem Dt.len (th : Nat) (t : Tr It) (w : World) (h : DTreeAt w th t) :
  Calls Tryz.prog 8 #[.pointer (some ⟨th, 0, none⟩)] w (Ans (.int .i64 t.list.length) w) := by
 obtain ⟨_, _, t0, _⟩ := h.1
 have e4 := t0.at4
 clear h t0
 go_enter Tryz.func8, Tryz.ntmps8
 go_wp2_with fail
 go_ret
 exact ⟨rfl, Below.refl _ _⟩
inductive Built : List It → Tr It → Prop
 | nil : Built [] .nil
 | put {l : List It} {t : Tr It} {x : It} {k : Nat} : Built l t → Tr.has It.ahead x t = false → Built (l ++ [x]) ((Tr.put It.ahead k x t).paint false)
 | skip {l : List It} {t : Tr It} {x : It} : Built l t → Tr.has It.ahead x t = true → Built (l ++ [x]) t
theorem Built.len {l : List It} {t : Tr It} (h : Built l t) : t.list.length ≤ l.length := by
 induction h with
 | nil => simp [Tr.list]
 | put _ _ ih => rw [Tr.list_paint, Tr.length_put]; simp; omega
 | skip _ _ ih => simp; omega
def Gd (w : World) (th : Nat) (t : Tr It) (w' : World) : Prop := DTreeAt w' th t ∧ w.heap.size ≤ th ∧ (∀ g ∈ t.blocks, w.heap.size ≤ g) ∧ Below w.heap.size w w'
theorem Gd.below {w w1 w2 : World} {th : Nat} {t : Tr It} (h : Gd w th t w1) (hb : Below w1.heap.size w1 w2) : Gd w th t w2 := ⟨h.1.below hb, h.2.1, h.2.2.1, below_on h.2.2.2 hb⟩
theorem Gd.ins {w w1 w2 : World} {th : Nat} {t : Tr It} {x : It} {k : Nat} (h : Gd w th t w1) (hk : w1.heap.size ≤ k) (ht : DTreeAt w2 th ((Tr.put It.ahead k x t).paint false)) (hc : Chg (th :: t.blocks) w1 w2) : Gd w th ((Tr.put It.ahead k x t).paint false) w2 :=
 ⟨ht, h.2.1, fun g hg => by
  rw [Tr.blocks_paint] at hg
  rcases List.mem_cons.1 ((Tr.perm_put It.ahead k x t).mem_iff.1 hg) with rfl | h1
  ·exact Nat.le_trans h.2.2.2.size hk
  ·exact h.2.2.1 g h1, h.2.2.2.trans (hc.toBelow h.2.2.2.size (fun g hg => by
  rcases List.mem_cons.1 hg with rfl | h1
  ·exact h.2.1
  ·exact h.2.2.1 g h1))⟩
end


section
open Go.RowKit
def foldD (p : It → Bool) : Tr It → Bool × It → Bool × It
 | .nil, acc => acc
 | .node _ _ l x r, acc => if p x then foldD p r (true, if acc.1 then sooner acc.2 (bestL l x) else bestL l x) else foldD p l acc
def Fv (w : World) (a : It) (w' : World) : Prop := (∃ z : It, Cs w' w.heap.size z.cells) ∧ Cs w' (w.heap.size + 1) a.cells ∧ Below w.heap.size w w'
theorem Fv.below {w w1 w2 : World} {a : It} (h : Fv w a w1) (hb : Below w1.heap.size w1 w2) : Fv w a w2 := ⟨by obtain ⟨z, hz⟩ := h.1; exact ⟨z, hz.below hb⟩, h.2.1.below hb, below_on h.2.2 hb⟩
theorem Fv.store {w w1 : World} {a : It} (h : Fv w a w1) (k : It) : ∀ W, W = w1.setCells (w.heap.size + 1) 0 k.cells → Fv w k W := fun W e => by
 obtain ⟨⟨z, hz⟩, h1, h2⟩ := h
 rw [e]
 exact ⟨⟨z, hz.fars (by omega) _ _⟩, h1.stored k, below_sets (by omega) _ _ h2⟩
theorem Fv.other {w w1 : World} {a : It} (h : Fv w a w1) {b : Nat} (hb : w.heap.size + 1 < b) (k : It) : Fv w a (w1.setCells b 0 k.cells) := by
 obtain ⟨⟨z, hz⟩, h1, h2⟩ := h
 exact ⟨⟨z, hz.fars (by omega) _ _⟩, h1.fars (by omega) _ _, below_sets (by omega) _ _ h2⟩
theorem Cs.lt7 {w : World} {g : Nat} {a : It} (h : Cs w g a.cells) : g < w.heap.size := World.block_lt_of_cell? w _ (h 0 _ rfl).1
section
attribute [local go_sem] eqDin
set_option maxRecDepth 100000 in
set_option maxHeartbeats 8000000 in
theorem Dt.foldAwake (th : Nat) (t : Tr It) (p : It → Bool) (w : World) (h : DTreeAt w th t)
  (hin : ∀ (y : It) (w' : World), y ∈ t.list → y.In → Below w.heap.size w w' → Calls Tryz.prog 22 #[y.val] w' (Ans (.bool (p y)) w')) :
  Calls Tryz.prog 43 #[.pointer (some ⟨th, 0, none⟩), (.func (.func 22) #[] #[])] w (Ans (.tuple #[It.val (foldD p t (false, It.zero)).2, .bool (foldD p t (false, It.zero)).1]) w) := by
 have HT := hid h
 have HIN := hid hin
 have HFV0 : Hid (Fv w It.zero ((w.alloc (.cells #[.int .u64 0, .int .u32 0, .int .u32 0, .int .i64 0, .int .u64 0, .int .u32 0, .int .u32 0] 35)).alloc (.cells #[.int .u64 0, .int .u32 0, .int .u32 0, .int .i64 0, .int .u64 0, .int .u32 0, .int .u32 0] 35))) := hid ⟨⟨It.zero, (Cs.new7 w 35 It.zero).alloc _⟩, by have := Cs.new7 (w.alloc (.cells #[.int .u64 0, .int .u32 0, .int .u32 0, .int .i64 0, .int .u64 0, .int .u32 0, .int .u32 0] 35)) 35 It.zero; simp only [World.size_alloc] at this; exact this, ((Below.refl w.heap.size w).alloc (Nat.le_refl _) (.cells #[.int .u64 0, .int .u32 0, .int .u32 0, .int .i64 0, .int .u64 0, .int .u32 0, .int .u32 0] 35)).alloc (by simp) (.cells #[.int .u64 0, .int .u32 0, .int .u32 0, .int .i64 0, .int .u64 0, .int .u32 0, .int .u32 0] 35)⟩
 obtain ⟨b1, b2, t0, t1, t2, _⟩ := HT.out.1
 have HE := hid (And.intro t0 (And.intro t1 t2))
 have e3 := keep1 HFV0.out.2.2 t0.at3
 clear t0 t1 t2 h hin
 go_enter Tryz.func43, Tryz.ntmps43
 go_wp2_with fail
 generalize ((w.alloc (.cells #[.int .u64 0, .int .u32 0, .int .u32 0, .int .i64 0, .int .u64 0, .int .u32 0, .int .u32 0] 35)).alloc (.cells #[.int .u64 0, .int .u32 0, .int .u32 0, .int .i64 0, .int .u64 0, .int .u32 0, .int .u32 0] 35)) = W0 at e3 HFV0 ⊢
 go_loopg [7, 8] t.size (fun s b u wr => ∃ (sm : Bool) (acc : It) (v : Tr It), b = .bool sm ∧ u = ptr v ∧ s = v.size ∧ foldD p v (sm, acc) = foldD p t (false, It.zero) ∧ acc.In ∧ DIn w v ∧ (∀ y ∈ v.list, y ∈ t.list) ∧ Fv w acc wr)
 case atStart => exact ⟨false, It.zero, t, rfl, rfl, rfl, rfl, It.zero_in, HT.out.2.1, fun y hy => hy, HFV0.out⟩
 case round =>
  obtain ⟨sm, acc, v, rfl, rfl, hs, hf, ha, hi, hm, hv⟩ := hrel
  have HS := hid hs
  have HF := hid hf
  have HI := hid hi
  have HM := hid hm
  have HFV := hid hv
  have HAI := hid ha
  have HC := hid (And.intro (HE.out.1.below hv.2.2) (And.intro (HE.out.2.1.below hv.2.2) (HE.out.2.2.below hv.2.2)))
  have e1 := HC.out.1.at1
  have e2 := HC.out.1.at2
  clear hs hf hi hm hv ha HFV0
  cases v with
  | nil =>
   simp only [ptr_nil]
   clear e1 e2
   have HF' : Hid (foldD p t (false, It.zero) = (sm, acc)) := hid (by rw [← HF.out]; rfl)
   obtain ⟨p0, p1, p2, p3, p4, p5, p6⟩ := It.at _ HFV.out.2.1
   have hth := there_it HFV.out.1
   have HAN := hid (answer_it (Nat.le_refl _) HFV.out.1 HFV.out.2.2 acc)
   go_wp2_with ((with_reducible refine wpList_put_it 35 infoItem rfl (.tmp 4) (.tmp 53) rfl w.heap.size 0 acc hth ?a1 ?a2 ?a3); (case a1 => rfl); (case a2 => rfl); (intro W2 hW2); (have HW := hid (HAN.out W2 hW2)); (clear hW2 hth p0 p1 p2 p3 p4 p5 p6); (obtain ⟨z0, z1, z2, z3, z4, z5, z6⟩ := HW.out.1))
   refine bodyPost_ret (v := .tuple #[It.val acc, .bool sm]) (by simp [results, Tryz.results43, go_sem, z0, z1, z2, z3, z4, z5, z6]) rfl ⟨by rw [HF'.out], HW.out.2⟩
  | node g cc l x r =>
   have HI2 := hid (HI.out.below HFV.out.2.2)
   obtain ⟨⟨v', hv', hc⟩, hl, _⟩ := HI2.out
   have HXI := hid hv'.2.2
   have HBI := hid (bestL_in hl hv'.2.2)
   obtain ⟨⟨vw, hvw, hcw⟩, _⟩ := HI.out
   have HC3w := hid hcw.nd3
   obtain ⟨p0, p1, p2, p3, p4, p5, p6⟩ := hc.th
   have c2 := hc.nd2
   clear hc hv' hl hvw hcw
   simp only [ptr_node]
   go_wp2_with fail
   refine (HIN.out x _ (HM.out x (by simp [Tr.list])) HXI.out HFV.out.2.2).mono ?_
   rintro e w1 ⟨rfl, hb1⟩
   have HB1 := hid hb1
   have e2 := keep1 hb1 e2
   have c2 := keep1 hb1 c2
   clear hb1 p0 p1 p2 p3 p4 p5 p6 e1
   cases hx : p x with
   | false =>
    have HX := hid hx
    clear hx e2
    go_wp2_with fail
    go_roundg l.size
    case measure => have := HS.out; simp only [Tr.size] at this; omega
    case rel => exact ⟨sm, acc, l, rfl, rfl, rfl, by rw [← HF.out, foldD, if_neg (by rw [HX.out]; simp)], HAI.out, HI.out.2.1, fun y hy => HM.out y (by simp [Tr.list, hy]), HFV.out.below HB1.out⟩
   | true =>
    have HX := hid hx
    clear hx c2
    go_wp2_with fail
    refine (Dt.upTo g b1 b2 cc l r x _ (HI2.out.st.below HB1.out) (HC.out.2.1.below HB1.out) (HC.out.2.2.below HB1.out)).mono ?_
    rintro e w2' ⟨rfl, hb2⟩
    have hb3 := (below_on HB1.out hb2).alloc (below_on HB1.out hb2).size (.cells #[.int .u64 (bestL l x).t, .int .u32 (bestL l x).r, .int .u32 (bestL l x).v, .int .i64 (bestL l x).i, .int .u64 (bestL l x).u, .int .u32 (bestL l x).s, .int .u32 (bestL l x).y] 35)
    have HB3 := hid hb3
    have HPT0 : Hid (Cs (w2'.alloc (.cells #[.int .u64 (bestL l x).t, .int .u32 (bestL l x).r, .int .u32 (bestL l x).v, .int .i64 (bestL l x).i, .int .u64 (bestL l x).u, .int .u32 (bestL l x).s, .int .u32 (bestL l x).y] 35)) w2'.heap.size (bestL l x).cells) := hid (Cs.new7 _ _ _)
    have HBP : Hid (w.heap.size + 1 < w2'.heap.size) := hid (Nat.lt_of_lt_of_le HFV.out.2.1.lt7 (below_on HB1.out hb2).size)
    clear hb2 hb3 e2
    have HNEW : Hid (∀ k, k = (if sm then sooner acc (bestL l x) else bestL l x) → foldD p r (true, k) = foldD p t (false, It.zero)) := hid (fun k hk => by rw [← HF.out, foldD, if_pos HX.out, hk])
    cases sm with
    | false =>
     have hth := (HFV.out.below HB3.out).2.1.there7
     have HST := hid ((HFV.out.below HB3.out).store (bestL l x))
     go_wp2_with ((with_reducible refine wpList_put_it 35 infoItem rfl (.tmp 6) (.tmp 48) rfl (w.heap.size + 1) 0 (bestL l x) hth ?b1 ?b2 ?b3); (case b1 => rfl); (case b2 => rfl); (intro W2 hW2); (have HW := hid (HST.out W2 hW2)); (clear hW2 hth); (have q3 := keep1 HW.out.2.2 HC3w.out))
     go_roundg r.size
     case measure => have := HS.out; simp only [Tr.size] at this; omega
     case rel => exact ⟨true, bestL l x, r, rfl, rfl, rfl, HNEW.out _ rfl, HBI.out, HI.out.2.2, fun y hy => HM.out y (by simp [Tr.list, hy]), HW.out⟩
    | true =>
     go_wp2_with fail
     generalize hbp : w2'.heap.size = bp at HPT0 HBP ⊢
     generalize (w2'.alloc (.cells #[.int .u64 (bestL l x).t, .int .u32 (bestL l x).r, .int .u32 (bestL l x).v, .int .i64 (bestL l x).i, .int .u64 (bestL l x).u, .int .u32 (bestL l x).s, .int .u32 (bestL l x).y] 35)) = w2 at HB3 HPT0 ⊢
     clear hbp
     have HQJ := hid (keep1 HB3.out HC.out.1.at1)
     have HFV2 := hid (HFV.out.below HB3.out)
     have HPT := hid HPT0.out.th7
     refine wp_region_steady (S := Bl w2) 7 (by kernel_rfl) (Bl.drew w2) ?_
     refine tV 0 ?_
     try simp only [tdy]
     refine tV 1 ?_
     try simp only [tdy]
     refine tV 2 ?_
     try simp only [tdy]
     refine tU 3 (v := ?_) rfl (by kernel_rfl) (fun _ _ _ h => h) (by rfl) ?_ ?_
     rotate_left
     ·intro wq hSw
      have hSB : Below _ _ _ := hSw
      have q1 := keep1 hSB HQJ.out
      obtain ⟨p0, p1, p2, p3, p4, p5, p6⟩ := It.at _ (HFV2.out.2.1.below hSB)
      obtain ⟨m0, m1, m2, m3, m4, m5, m6⟩ := HPT.out.below hSB
      go_simp; try with_reducible rfl
     try simp only [tdy]
     refine tU 4 (v := ?_) rfl (by kernel_rfl) (fun _ _ _ h => h) (by rfl) ?_ ?_
     rotate_left
     ·intro wq hSw
      have hSB : Below _ _ _ := hSw
      have q1 := keep1 hSB HQJ.out
      obtain ⟨p0, p1, p2, p3, p4, p5, p6⟩ := It.at _ (HFV2.out.2.1.below hSB)
      obtain ⟨m0, m1, m2, m3, m4, m5, m6⟩ := HPT.out.below hSB
      go_simp; try with_reducible rfl
     try simp only [tdy]
     refine tU 5 (v := ?_) rfl (by kernel_rfl) (fun _ _ _ h => h) (by rfl) ?_ ?_
     rotate_left
     ·intro wq hSw
      have hSB : Below _ _ _ := hSw
      have q1 := keep1 hSB HQJ.out
      obtain ⟨p0, p1, p2, p3, p4, p5, p6⟩ := It.at _ (HFV2.out.2.1.below hSB)
      obtain ⟨m0, m1, m2, m3, m4, m5, m6⟩ := HPT.out.below hSB
      go_simp; try with_reducible rfl
     try simp only [tdy]
     refine wpAnyU_take (i := 6) (v := It.val (sooner acc (bestL l x))) rfl (by kernel_rfl) (by kernel_rfl) (by kernel_rfl) (by kernel_rfl) (fun _ _ _ h => h) (Or.inl ⟨by rfl, fun wq hSw => ?_⟩) ?_
     ·refine SteadyRun.of_calls (Dtree.join acc (bestL l x) HAI.out HBI.out wq) (by go_simp) ?_
      rintro e wr ⟨rfl, hb⟩
      exact ⟨rfl, hSw.on hb⟩
     try simp only [tdy]
     refine wpAnyU_last rfl rfl (by kernel_rfl) (fun wz hSz => ?_)
     have hth9 := (HPT0.out.below hSz).there7
     have HAN9 : Hid (∀ W, W = wz.setCells bp 0 (sooner acc (bestL l x)).cells → Cs W bp (sooner acc (bestL l x)).cells ∧ Fv w acc W) := hid (fun W e => by rw [e]; exact ⟨(HPT0.out.below hSz).stored _, (HFV2.out.below hSz).other HBP.out _⟩)
     clear hSz
     go_wp2_with (first | ((with_reducible refine wpList_put_it 35 infoItem rfl (.tmp 9) (.tmp 47) rfl bp 0 (sooner acc (bestL l x)) hth9 ?c1 ?c2 ?c3); (case c1 => rfl); (case c2 => rfl); (intro W2 hW2); (have HW := hid (HAN9.out W2 hW2)); (clear hW2 hth9); (obtain ⟨p0, p1, p2, p3, p4, p5, p6⟩ := It.at _ HW.out.1); (have hth := HW.out.2.2.1.there7); (have HST := hid (HW.out.2.store (sooner acc (bestL l x))))) | (with_reducible refine wpList_put_it 35 infoItem rfl (.tmp 6) (.tmp 48) rfl (w.heap.size + 1) 0 (sooner acc (bestL l x)) hth ?d1 ?d2 ?d3); (case d1 => rfl); (case d2 => rfl); (intro W3 hW3); (have HY := hid (HST.out W3 hW3)); (clear hW3 hth p0 p1 p2 p3 p4 p5 p6); (have q3 := keep1 HY.out.2.2 HC3w.out))
     go_roundg r.size
     case measure => have := HS.out; simp only [Tr.size] at this; omega
     case rel => exact ⟨true, sooner acc (bestL l x), r, rfl, rfl, rfl, HNEW.out _ rfl, sooner_in HAI.out HBI.out, HI.out.2.2, fun y hy => HM.out y (by simp [Tr.list, hy]), HY.out⟩
end
end


section
open Go.RowKit
def NrL (t : Int) (L : List It) : Prop := ∀ x ∈ L, It.near t x = true
theorem NrL.app {t : Int} {L M : List It} (h : NrL t L) (k : NrL t M) : NrL t (L ++ M) := fun x hx => (List.mem_append.1 hx).elim (h x) (k x)
theorem Pl.tr {t : Int} {a b c : It} (ha : It.near t a = true) (hb : It.near t b = true) (hc : It.near t c = true) :
  ((a.p1 t).c (b.p1 t) ≤ 0 → (b.p1 t).c (c.p1 t) ≤ 0 → (a.p1 t).c (c.p1 t) ≤ 0 ∧ ((a.p1 t).c (b.p1 t) < 0 ∨ (b.p1 t).c (c.p1 t) < 0 → (a.p1 t).c (c.p1 t) < 0)) ∧
  ((a.p2 t).c (b.p2 t) ≤ 0 → (b.p2 t).c (c.p2 t) ≤ 0 → (a.p2 t).c (c.p2 t) ≤ 0 ∧ ((a.p2 t).c (b.p2 t) < 0 ∨ (b.p2 t).c (c.p2 t) < 0 → (a.p2 t).c (c.p2 t) < 0)) :=
 ⟨Pl.trans (near_parts ha).2.2.1 (near_parts hb).2.2.1 (near_parts hc).2.2.1, Pl.trans (near_parts ha).2.2.2 (near_parts hb).2.2.2 (near_parts hc).2.2.2⟩
theorem ahead_no {t : Int} {a b : It} (ha : It.near t a = true) (hb : It.near t b = true) : It.ahead a b = false ↔ (b.p1 t).c (a.p1 t) < 0 ∨ (b.p1 t).c (a.p1 t) = 0 ∧ b.i ≤ a.i := by
 have h := ahead_iff ha hb
 have k := Pl.anti (a.p1 t) (b.p1 t)
 cases hc : It.ahead a b with
 | true =>
  have := h.1 hc
  constructor
  ·intro e; cases e
  ·intro e; exfalso; omega
 | false =>
  have : ¬ ((a.p1 t).c (b.p1 t) < 0 ∨ (a.p1 t).c (b.p1 t) = 0 ∧ a.i < b.i) := fun e => by rw [h.2 e] at hc; cases hc
  constructor
  ·intro _; omega
  ·intro _; rfl
theorem ahead_asym {t : Int} {a b : It} (ha : It.near t a = true) (hb : It.near t b = true) (h : It.ahead a b = true) : It.ahead b a = false := by
 have h1 := (ahead_iff ha hb).1 h
 have k := Pl.anti (a.p1 t) (b.p1 t)
 exact (ahead_no hb ha).2 (by omega)
theorem ahead_tr {t : Int} {a b c : It} (ha : It.near t a = true) (hb : It.near t b = true) (hc : It.near t c = true) (h1 : It.ahead a b = true) (h2 : It.ahead b c = true) : It.ahead a c = true := by
 have e1 := (ahead_iff ha hb).1 h1
 have e2 := (ahead_iff hb hc).1 h2
 have k := (Pl.tr ha hb hc).1 (by omega) (by omega)
 exact (ahead_iff ha hc).2 (by omega)
theorem ahead_ntr {t : Int} {a b c : It} (ha : It.near t a = true) (hb : It.near t b = true) (hc : It.near t c = true) (h1 : It.ahead a b = false) (h2 : It.ahead b c = false) : It.ahead a c = false := by
 have e1 := (ahead_no ha hb).1 h1
 have e2 := (ahead_no hb hc).1 h2
 have k := (Pl.tr hc hb ha).1 (by omega) (by omega)
 exact (ahead_no ha hc).2 (by omega)
theorem due_no {t : Int} {a b : It} (ha : It.near t a = true) (hb : It.near t b = true) : It.due a b = false ↔ (b.p2 t).c (a.p2 t) < 0 ∨ (b.p2 t).c (a.p2 t) = 0 ∧ It.ahead a b = false := by
 have h := due_iff ha hb
 have k := Pl.anti (a.p2 t) (b.p2 t)
 cases hc : It.due a b with
 | true =>
  have := h.1 hc
  constructor
  ·intro e; cases e
  ·intro e
   rcases this with h1 | ⟨h1, h2⟩
   ·exfalso; omega
   ·rcases e with e | ⟨e, e2⟩
    ·exfalso; omega
    ·rw [h2] at e2; cases e2
 | false =>
  constructor
  ·intro _
   rcases Int.lt_trichotomy ((a.p2 t).c (b.p2 t)) 0 with h1 | h1 | h1
   ·rw [h.2 (Or.inl h1)] at hc; cases hc
   ·right
    refine ⟨by omega, ?_⟩
    cases h2 : It.ahead a b with
    | false => rfl
    | true => rw [h.2 (Or.inr ⟨h1, h2⟩)] at hc; cases hc
   ·left; omega
  ·intro _; rfl
theorem due_asym {t : Int} {a b : It} (ha : It.near t a = true) (hb : It.near t b = true) (h : It.due a b = true) : It.due b a = false := by
 have h1 := (due_iff ha hb).1 h
 have k := Pl.anti (a.p2 t) (b.p2 t)
 refine (due_no hb ha).2 ?_
 rcases h1 with h1 | ⟨h1, h2⟩
 ·left; exact h1
 ·right; exact ⟨h1, ahead_asym ha hb h2⟩
theorem due_ntr {t : Int} {a b c : It} (ha : It.near t a = true) (hb : It.near t b = true) (hc : It.near t c = true) (h1 : It.due a b = false) (h2 : It.due b c = false) : It.due a c = false := by
 have e1 := (due_no ha hb).1 h1
 have e2 := (due_no hb hc).1 h2
 have k := (Pl.tr hc hb ha).2 (by omega) (by omega)
 refine (due_no ha hc).2 ?_
 rcases e1 with e1 | ⟨e1, f1⟩
 ·left; exact k.2 (Or.inr e1)
 ·rcases e2 with e2 | ⟨e2, f2⟩
  ·left; exact k.2 (Or.inl e2)
  ·rcases Int.lt_or_eq_of_le k.1 with g | g
   ·left; exact g
   ·right; exact ⟨g, ahead_ntr ha hb hc f1 f2⟩
def IsBest (a : It) (L : List It) : Prop := a ∈ L ∧ ∀ b ∈ L, It.due b a = false
theorem IsBest.one {t : Int} {a : It} (h : It.near t a = true) : IsBest a [a] := ⟨by simp, fun b hb => by
 simp at hb; subst hb
 cases hd : It.due b b with
 | false => rfl
 | true => have := due_asym h h hd; rw [hd] at this; cases this⟩
theorem IsBest.join {t : Int} {a b : It} {L M : List It} (hL : NrL t L) (hM : NrL t M) (ha : IsBest a L) (hb : IsBest b M) : IsBest (sooner a b) (L ++ M) := by
 unfold sooner
 cases hd : It.due b a with
 | true =>
  rw [if_pos rfl]
  refine ⟨List.mem_append_right _ hb.1, fun x hx => ?_⟩
  rcases List.mem_append.1 hx with h | h
  ·exact due_ntr (hL x h) (hL a ha.1) (hM b hb.1) (ha.2 x h) (due_asym (hM b hb.1) (hL a ha.1) hd)
  ·exact hb.2 x h
 | false =>
  rw [if_neg (by simp)]
  refine ⟨List.mem_append_left _ ha.1, fun x hx => ?_⟩
  rcases List.mem_append.1 hx with h | h
  ·exact ha.2 x h
  ·exact due_ntr (hM x h) (hM b hb.1) (hL a ha.1) (hb.2 x h) hd
theorem Tr.isNil_list {t : Tr It} (h : t.isNil = true) : t.list = [] := by cases t with
 | nil => rfl
 | node g c l x r => simp [Tr.isNil] at h
theorem best_is (t0 : Int) (t : Tr It) : NrL t0 t.list → t.isNil = false → IsBest t.best t.list := by
 induction t with
 | nil => intro _ h; simp [Tr.isNil] at h
 | node g c l x r ihl ihr =>
  intro h _
  have hl : NrL t0 l.list := fun y hy => h y (by simp [Tr.list, hy])
  have hr : NrL t0 r.list := fun y hy => h y (by simp [Tr.list, hy])
  have hx : It.near t0 x = true := h x (by simp [Tr.list])
  have h1 : NrL t0 [x] := fun y hy => by simp at hy; subst hy; exact hx
  have hL : IsBest (bestL l x) (l.list ++ [x]) := by
   unfold bestL
   cases hn : l.isNil with
   | true => rw [if_pos rfl, Tr.isNil_list hn]; exact IsBest.one hx
   | false => rw [if_neg (by simp)]; exact (ihl hl hn).join hl h1 (IsBest.one hx)
  show IsBest (if r.isNil then bestL l x else sooner (bestL l x) r.best) (l.list ++ x :: r.list)
  cases hn : r.isNil with
  | true => rw [if_pos rfl, Tr.isNil_list hn]; exact hL
  | false =>
   rw [if_neg (by simp), show l.list ++ x :: r.list = (l.list ++ [x]) ++ r.list by simp]
   exact IsBest.join (hl.app h1) hr hL (ihr hr hn)
theorem bestL_is {t0 : Int} {l : Tr It} {x : It} (hl : NrL t0 l.list) (hx : It.near t0 x = true) : IsBest (bestL l x) (l.list ++ [x]) := by
 have h1 : NrL t0 [x] := fun y hy => by simp at hy; subst hy; exact hx
 unfold bestL
 cases hn : l.isNil with
 | true => rw [if_pos rfl, Tr.isNil_list hn]; exact IsBest.one hx
 | false => rw [if_neg (by simp)]; exact (best_is t0 l hl hn).join hl h1 (IsBest.one hx)
def SrtI (L : List It) : Prop := L.Pairwise (fun a b => It.ahead a b = true)
def Desc (q : Bool × It) (M : List It) : Prop := (q.1 = false ∧ q.2 = It.zero ∧ M = []) ∨ (q.1 = true ∧ IsBest q.2 M)
theorem foldD_desc {t0 : Int} (p : It → Bool) (t : Tr It) : ∀ (q : Bool × It) (M : List It), NrL t0 t.list → SrtI t.list → (∀ a ∈ t.list, ∀ b ∈ t.list, It.ahead a b = true → p b = true → p a = true) → NrL t0 M → Desc q M → Desc (foldD p t q) (M ++ t.list.filter p) := by
 induction t with
 | nil => intro q M _ _ _ _ h; simpa [foldD, Tr.list] using h
 | node g c l x r ihl ihr =>
  intro q M hn hs hp hM h
  have hnl : NrL t0 l.list := fun y hy => hn y (by simp [Tr.list, hy])
  have hnr : NrL t0 r.list := fun y hy => hn y (by simp [Tr.list, hy])
  have hnx : It.near t0 x = true := hn x (by simp [Tr.list])
  have hs' := hs
  unfold SrtI at hs
  simp only [Tr.list] at hs ⊢
  rw [List.pairwise_append, List.pairwise_cons] at hs
  cases hx : p x with
  | true =>
   have hl : l.list.filter p = l.list := List.filter_eq_self.2 (fun a ha => hp a (by simp [Tr.list, ha]) x (by simp [Tr.list]) (hs.2.2 a ha x (by simp)) hx)
   rw [foldD, if_pos hx, List.filter_append, List.filter_cons, if_pos hx, hl]
   have hx1 : NrL t0 (l.list ++ [x]) := hnl.app (fun y hy => by simp at hy; subst hy; exact hnx)
   have hd : Desc (true, if q.1 then sooner q.2 (bestL l x) else bestL l x) (M ++ (l.list ++ [x])) := by
    right
    refine ⟨rfl, ?_⟩
    rcases h with ⟨h1, _, h3⟩ | ⟨h1, h2⟩
    ·rw [h1, h3, List.nil_append]
     exact bestL_is hnl hnx
    ·rw [h1]
     exact IsBest.join hM hx1 h2 (bestL_is hnl hnx)
   have := ihr _ _ hnr hs.2.1.2 (fun a ha b hb => hp a (by simp [Tr.list, ha]) b (by simp [Tr.list, hb])) (hM.app hx1) hd
   rw [show M ++ (l.list ++ x :: r.list.filter p) = M ++ (l.list ++ [x]) ++ r.list.filter p by simp]
   exact this
  | false =>
   have hr : r.list.filter p = [] := List.filter_eq_nil_iff.2 (fun a ha hpa => by
    have := hp x (by simp [Tr.list]) a (by simp [Tr.list, ha]) (hs.2.1.1 a ha) hpa
    rw [hx] at this; cases this)
   rw [foldD, if_neg (by rw [hx]; simp), List.filter_append, List.filter_cons, if_neg (by rw [hx]; simp), hr, List.append_nil]
   exact ihl _ _ hnl hs.1 (fun a ha b hb => hp a (by simp [Tr.list, ha]) b (by simp [Tr.list, hb])) hM h
def same (x y : It) : Prop := It.ahead x y = false ∧ It.ahead y x = false
theorem has_iffI {t0 : Int} (x : It) (hx : It.near t0 x = true) (t : Tr It) : NrL t0 t.list → SrtI t.list → (Tr.has It.ahead x t = true ↔ ∃ y ∈ t.list, same x y) := by
 induction t with
 | nil => intro _ _; simp [Tr.has, Tr.list]
 | node g c l y r ihl ihr =>
  intro hn hs
  have hnl : NrL t0 l.list := fun z hz => hn z (by simp [Tr.list, hz])
  have hnr : NrL t0 r.list := fun z hz => hn z (by simp [Tr.list, hz])
  have hny : It.near t0 y = true := hn y (by simp [Tr.list])
  unfold SrtI at hs
  simp only [Tr.list] at hs ⊢
  rw [List.pairwise_append, List.pairwise_cons] at hs
  simp only [Tr.has]
  cases h1 : It.ahead x y with
  | true =>
   rw [if_pos rfl, ihl hnl hs.1]
   constructor
   ·rintro ⟨z, hz, e⟩; exact ⟨z, by simp [hz], e⟩
   ·rintro ⟨z, hz, e⟩
    rcases List.mem_append.1 hz with h | h
    ·exact ⟨z, h, e⟩
    ·rcases List.mem_cons.1 h with rfl | h
     ·exact absurd e.1 (by rw [h1]; simp)
     ·have := ahead_tr hx hny (hnr z h) h1 (hs.2.1.1 z h)
      exact absurd e.1 (by rw [this]; simp)
  | false =>
   rw [if_neg (by simp)]
   cases h2 : It.ahead y x with
   | true =>
    rw [if_pos rfl, ihr hnr hs.2.1.2]
    constructor
    ·rintro ⟨z, hz, e⟩; exact ⟨z, by simp [hz], e⟩
    ·rintro ⟨z, hz, e⟩
     rcases List.mem_append.1 hz with h | h
     ·have := ahead_tr (hnl z h) hny hx (hs.2.2 z h y (by simp)) h2
      exact absurd e.2 (by rw [this]; simp)
     ·rcases List.mem_cons.1 h with rfl | h
      ·exact absurd e.2 (by rw [h2]; simp)
      ·exact ⟨z, h, e⟩
   | false =>
    rw [if_neg (by simp)]
    exact ⟨fun _ => ⟨y, by simp, h1, h2⟩, fun _ => rfl⟩
def insI (x : It) (L : List It) : List It := L.takeWhile (fun y => !It.ahead x y) ++ x :: L.dropWhile (fun y => !It.ahead x y)
theorem takeWhile_allI {p : It → Bool} (L : List It) : ∀ a ∈ L.takeWhile p, p a = true := by
 induction L with
 | nil => intro a h; simp at h
 | cons b bs ih =>
  intro a h
  rw [List.takeWhile_cons] at h
  split at h
  ·rcases List.mem_cons.1 h with rfl | h
   ·assumption
   ·exact ih a h
  ·simp at h
theorem dropWhile_gtI {t0 : Int} {x : It} (hx : It.near t0 x = true) {L : List It} (hn : NrL t0 L) (h : SrtI L) : ∀ b ∈ L.dropWhile (fun y => !It.ahead x y), It.ahead x b = true := by
 induction L with
 | nil => intro b hb; simp at hb
 | cons a bs ih =>
  intro b hb
  rw [List.dropWhile_cons] at hb
  split at hb
  ·exact ih (fun y hy => hn y (by simp [hy])) (List.Pairwise.of_cons h) b hb
  ·rename_i hp
   have ha : It.ahead x a = true := by simpa using hp
   rcases List.mem_cons.1 hb with rfl | hb
   ·exact ha
   ·exact ahead_tr hx (hn a (by simp)) (hn b (by simp [hb])) ha ((List.pairwise_cons.1 h).1 b hb)
theorem mem_insI {x y : It} {L : List It} : y ∈ insI x L ↔ y = x ∨ y ∈ L := by
 unfold insI
 have e : L.takeWhile (fun y => !It.ahead x y) ++ L.dropWhile (fun y => !It.ahead x y) = L := List.takeWhile_append_dropWhile
 rw [List.mem_append, List.mem_cons]
 constructor
 ·rintro (h | h | h)
  ·exact Or.inr (by have h3 := List.mem_append_left (L.dropWhile (fun y => !It.ahead x y)) h; rw [e] at h3; exact h3)
  ·exact Or.inl h
  ·exact Or.inr (by have h3 := List.mem_append_right (L.takeWhile (fun y => !It.ahead x y)) h; rw [e] at h3; exact h3)
 ·rintro (h | h)
  ·exact Or.inr (Or.inl h)
  ·rw [← e] at h
   rcases List.mem_append.1 h with h | h
   ·exact Or.inl h
   ·exact Or.inr (Or.inr h)
theorem SrtI.ins {t0 : Int} {x : It} (hx : It.near t0 x = true) {L : List It} (hn : NrL t0 L) (h : SrtI L) (hno : ∀ y ∈ L, ¬ same x y) : SrtI (insI x L) := by
 have e : L.takeWhile (fun y => !It.ahead x y) ++ L.dropWhile (fun y => !It.ahead x y) = L := List.takeWhile_append_dropWhile
 have h0 := h
 unfold SrtI at h
 rw [← e, List.pairwise_append] at h
 unfold insI SrtI
 rw [List.pairwise_append, List.pairwise_cons]
 refine ⟨h.1, ⟨fun b hb => dropWhile_gtI hx hn h0 b hb, h.2.1⟩, fun a ha b hb => ?_⟩
 rcases List.mem_cons.1 hb with rfl | hb
 ·have h1 : It.ahead b a = false := by simpa using takeWhile_allI L a ha
  have ham : a ∈ L := by have h3 := List.mem_append_left (L.dropWhile (fun y => !It.ahead b y)) ha; rw [e] at h3; exact h3
  cases h2 : It.ahead a b with
  | true => rfl
  | false => exact absurd ⟨h1, h2⟩ (hno a ham)
 ·exact h.2.2 a ha b hb
theorem list_putI {t0 : Int} (k : Nat) (x : It) (hx : It.near t0 x = true) (t : Tr It) (hn : NrL t0 t.list) (h : SrtI t.list) : (Tr.put It.ahead k x t).list = insI x t.list := by
 rw [Tr.list_put It.ahead k x t _ _ (List.takeWhile_append_dropWhile (p := fun y => !It.ahead x y) (l := t.list)).symm]
 ·rfl
 ·intro a ha; simpa using takeWhile_allI t.list a ha
 ·intro b hb; exact dropWhile_gtI hx hn h b hb
end


section
open Go.RowKit
def DAdds (W0 : World) (A0 : Option Addr) (L : List It) (w : World) (e : Ending) (w' : World) : Prop := ∃ A n c, e = .returned (.slice A n c) ∧ OwnI w' W0.heap.size A n c L ∧ Below W0.heap.size W0 w' ∧ Chg (rowOf A0) w w' ∧ ∀ k ∈ rowOf A, k ∈ rowOf A0 ∨ w.heap.size ≤ k
theorem cell_newI {w w2 : World} {base : Nat} {A : Option Addr} {n c : Nat} {l : List It} {x : It} {t : TypeId} (ho : OwnI w base A n c l) (hc : Chg (rowOf A) (w.alloc (.cells #[.int .u64 x.t, .int .u32 x.r, .int .u32 x.v, .int .i64 x.i, .int .u64 x.u, .int .u32 x.s, .int .u32 x.y] t)).drew w2) : Th w2 w.heap.size x :=
 (show Th (w.alloc (.cells #[.int .u64 x.t, .int .u32 x.r, .int .u32 x.v, .int .i64 x.i, .int .u64 x.u, .int .u32 x.s, .int .u32 x.y] t)).drew w.heap.size x from (Cs.new7 w t x).th7).chg hc (fun hm => by have := (ho.rowGe _ hm).2; omega)
set_option maxRecDepth 100000 in
set_option maxHeartbeats 2000000 in
theorem Dt.addTo (W0 : World) (t : Tr It) : DIn W0 t → ∀ (w : World) (A : Option Addr) (n c : Nat) (zs : List It), Below W0.heap.size W0 w → OwnI w W0.heap.size A n c zs → zs.length + t.list.length ≤ 900000 →
  Calls Tryz.prog 32 #[ptr t, .slice A n c] w (DAdds W0 A (zs ++ t.list) w) := by
 induction t with
 | nil =>
  intro _ w A n c zs hb ho _
  have HB := hid hb
  have HO := hid ho
  clear hb ho
  simp only [ptr_nil]
  go_enter Tryz.func32, Tryz.ntmps32
  go_wp2_with fail
  go_ret
  exact ⟨A, n, c, rfl, by simpa [Tr.list] using HO.out, HB.out, Chg.refl _ _, fun k hk => Or.inl hk⟩
 | node g cc l x r ihl ihr =>
  intro h w A n c zs hb ho hn
  have IL := hid (ihl h.2.1)
  have IR := hid (ihr h.2.2)
  have HI := hid h
  have HB := hid hb
  have HO := hid ho
  simp only [Tr.list, List.length_append, List.length_cons] at hn
  obtain ⟨⟨v, _, hc⟩, _, _⟩ := h
  have HQ : Hid (∀ w', Below W0.heap.size W0 w' → (w'.cell? ⟨g, 15, none⟩ = some (ptr r) ∧ w'.cell? ⟨g, 14, none⟩ = some (ptr l) ∧ (w'.cell? ⟨g, 0, none⟩ = some (.int .u64 x.t) ∧ w'.cell? ⟨g, 1, none⟩ = some (.int .u32 x.r) ∧ w'.cell? ⟨g, 2, none⟩ = some (.int .u32 x.v) ∧ w'.cell? ⟨g, 3, none⟩ = some (.int .i64 x.i) ∧ w'.cell? ⟨g, 4, none⟩ = some (.int .u64 x.u) ∧ w'.cell? ⟨g, 5, none⟩ = some (.int .u32 x.s) ∧ w'.cell? ⟨g, 6, none⟩ = some (.int .u32 x.y))) ∧ Below W0.heap.size W0 w') := hid (fun w' hb => ⟨⟨keep1 hb hc.nd3, keep1 hb hc.nd2, (hc.th.below hb)⟩, hb⟩)
  have HLN := hid ho.len
  have hn1 : zs.length + l.list.length ≤ 900000 := by omega
  have hn2 : (zs ++ l.list ++ [x]).length + r.list.length ≤ 900000 := by simp; omega
  have HN1 := hid hn1
  have HN2 := hid hn2
  have hz := hb.size
  clear hb ho hc ihl ihr hn1 hn2
  simp only [ptr_node]
  go_enter Tryz.func32, Tryz.ntmps32
  go_wp2_with fail
  go_region_held3 (fun w' => (w'.cell? ⟨g, 15, none⟩ = some (ptr r) ∧ w'.cell? ⟨g, 14, none⟩ = some (ptr l) ∧ (w'.cell? ⟨g, 0, none⟩ = some (.int .u64 x.t) ∧ w'.cell? ⟨g, 1, none⟩ = some (.int .u32 x.r) ∧ w'.cell? ⟨g, 2, none⟩ = some (.int .u32 x.v) ∧ w'.cell? ⟨g, 3, none⟩ = some (.int .i64 x.i) ∧ w'.cell? ⟨g, 4, none⟩ = some (.int .u64 x.u) ∧ w'.cell? ⟨g, 5, none⟩ = some (.int .u32 x.s) ∧ w'.cell? ⟨g, 6, none⟩ = some (.int .u32 x.y))) ∧ Below W0.heap.size W0 w')
   (first | with_reducible exact HQ.out _ HB.out.drew | with_reducible exact HQ.out _ hb2 | with_reducible exact HQ.out _ ((HB.out.alloc hz _).drew) | with_reducible exact HQ.out _ (hb2.alloc hb2.size _))
   (first
    | (go_at_call_of 32 (ptr l); refine (IL.out _ A n c zs (And.right (by assumption : (_ ∧ _ ∧ _) ∧ Below W0.heap.size W0 _)) (by first | exact HO.out | exact HO.out.alloc _) HN1.out).mono ?_; rintro e w2 ⟨A2, n2, c2, rfl, ho2, hb2, hc2, hr2⟩; have HO2 := hid ho2; have HC2 := hid hc2; have HR2 := hid hr2; (try (have HCELL := hid (cell_newI HO.out HC2.out))); clear ho2 hc2 hr2)
    | (go_at_call_of 32 (ptr r); refine (IR.out _ A3 _ c3 (zs ++ l.list ++ [x]) (And.right (by assumption : (_ ∧ _ ∧ _) ∧ Below W0.heap.size W0 _)) HO3.out HN2.out).mono ?_; rintro e w4 ⟨A4, n4, c4, rfl, ho4, hb2, hc4, hr4⟩; have HO4 := hid ho4; have HC4 := hid hc4; have HR4 := hid hr4; clear ho4 hc4 hr4)
    | ((refine step_append_it _ (by rfl) (.tmp 17) (.tmp 22) (by rfl) W0.heap.size A2 n2 c2 (zs ++ l.list) (by rfl) (HO2.out.alloc _) w2.heap.size x (by rfl) (Cs.new7 _ _ x).th7 (by have := HO2.out.len; have := HN1.out; simp at *; omega) (by simp; exact Nat.le_succ_of_le hb2.size) ?_); intro A3 c3 w3 ho3 hc3 hr3; have HO3 := hid ho3; have HC3 := hid hc3; have HR3 := hid hr3; have hb2 := Below.chg (And.right (by assumption : (_ ∧ _ ∧ _) ∧ Below W0.heap.size W0 _)) hc3 (fun k hk => (HO2.out.rowGe k hk).1); clear ho3 hc3 hr3)
    | (refine step_append_it _ (by rfl) (.tmp 17) (.tmp 22) (by rfl) W0.heap.size A2 n2 c2 (zs ++ l.list) (by rfl) HO2.out w.heap.size x (by rfl) HCELL.out (by have := HO2.out.len; have := HN1.out; simp at *; omega) hb2.size ?_; intro A3 c3 w3 ho3 hc3 hr3; have HO3 := hid ho3; have HC3 := hid hc3; have HR3 := hid hr3; have hb2 := Below.chg (And.right (by assumption : (_ ∧ _ ∧ _) ∧ Below W0.heap.size W0 _)) hc3 (fun k hk => (HO2.out.rowGe k hk).1); clear ho3 hc3 hr3)
    | fail)
  all_goals
   have HB4 := hid (And.right (by assumption : (_ ∧ _ ∧ _) ∧ Below W0.heap.size W0 w4))
   have HO5 := hid (show OwnI w4 W0.heap.size A4 n4 c4 (zs ++ (Tr.node g cc l x r).list) by have := HO4.out; simpa [Tr.list] using this)
   go_wp2_with fail
   go_ret
   refine ⟨A4, n4, c4, rfl, HO5.out, HB4.out, ?_⟩
   first
    | exact Chg.chain (Below.refl _ _).drew HC2.out HR2.out ((Below.refl _ _).alloc (Nat.le_refl _) _) HC3.out HR3.out HC4.out HR4.out
    | exact Chg.chain ((Below.refl _ _).alloc (Nat.le_refl _) _).drew HC2.out HR2.out (Below.refl _ _) HC3.out HR3.out HC4.out HR4.out
set_option maxHeartbeats 1000000 in
theorem Dt.all (th : Nat) (t : Tr It) (w : World) (h : DTreeAt w th t) (hn : t.list.length ≤ 900000) :
  Calls Tryz.prog 7 #[.pointer (some ⟨th, 0, none⟩)] w (DAdds w none t.list w) := by
 obtain ⟨_, _, t0, _⟩ := h.1
 have e3 := t0.at3
 have HI := hid h.2.1
 clear h t0
 go_enter Tryz.func7, Tryz.ntmps7
 go_wp2_with fail
 refine (Dt.addTo w t HI.out w none 0 0 [] (Below.refl _ _) (OwnI.nil _ _) (by simpa using hn)).mono ?_
 rintro e w1 ⟨A, n, c, rfl, h1, h2, h3⟩
 have H1 := hid h1
 have H2 := hid h2
 have H3 := hid h3
 clear h1 h2 h3
 go_wp2_with fail
 go_ret
 exact ⟨A, n, c, rfl, by simpa using H1.out, H2.out, H3.out⟩
end


section
open Go.RowKit
set_option maxRecDepth 100000
set_option maxHeartbeats 32000000
def hasI (x : It) (L : List It) : Bool := L.any fun y => !It.ahead x y && !It.ahead y x
theorem hasI_iff {x : It} {L : List It} : hasI x L = true ↔ ∃ y ∈ L, same x y := by
 unfold hasI same
 rw [List.any_eq_true]
 simp
def insR (x : It) (L : List It) : List It := if hasI x L = true then L else insI x L
def delI (x : It) (L : List It) : List It := L.filter fun y => It.ahead x y || It.ahead y x
theorem getD_it {L : List It} {k : Nat} (hk : k < L.length) : L.getD k It.zero = L[k] := by simp [List.getD, hk]
theorem take_itD {L : List It} {k : Nat} (hk : k < L.length) : L.take (k + 1) = L.take k ++ [L.getD k It.zero] := by
 rw [getD_it hk, List.take_succ_eq_append_getElem hk]
theorem getD_memI {L : List It} {k : Nat} (hk : k < L.length) : L.getD k It.zero ∈ L := by rw [getD_it hk]; exact List.getElem_mem hk
theorem insI_none {x : It} : ∀ {L : List It}, (L.any fun y => It.ahead x y) = false → insI x L = L ++ [x] := fun {L} h => by
 have h1 : ∀ y ∈ L, (!It.ahead x y) = true := fun y hy => by have := List.any_eq_false.1 h y hy; simpa using this
 unfold insI
 have e1 : L.takeWhile (fun y => !It.ahead x y) = L := by
  induction L with
  | nil => rfl
  | cons a L ih => rw [List.takeWhile_cons, if_pos (h1 a (by simp)), ih (by simp at h ⊢; exact h.2) (fun y hy => h1 y (List.mem_cons_of_mem _ hy))]
 have e2 : L.dropWhile (fun y => !It.ahead x y) = [] := by
  have := List.takeWhile_append_dropWhile (p := fun y => !It.ahead x y) (l := L)
  rw [e1] at this
  simpa using this
 rw [e1, e2]
theorem insI_app {x y : It} : ∀ {L : List It}, (L.any fun y => It.ahead x y) = true → insI x (L ++ [y]) = insI x L ++ [y]
 | [], h => by simp at h
 | a :: L, h => by
  unfold insI
  rw [List.cons_append, List.takeWhile_cons, List.takeWhile_cons, List.dropWhile_cons, List.dropWhile_cons]
  cases ha : It.ahead x a with
  | true => simp
  | false =>
   have h2 : (L.any fun y => It.ahead x y) = true := by simpa [ha] using h
   have := insI_app (x := x) (y := y) h2
   unfold insI at this
   simp only [Bool.not_false, if_true, List.cons_append]
   rw [this]
theorem insI_new {x y : It} {L : List It} (h : (L.any fun y => It.ahead x y) = false) (hy : It.ahead x y = true) : insI x (L ++ [y]) = (L ++ [x]) ++ [y] := by
 have h1 : ∀ z ∈ L, (!It.ahead x z) = true := fun z hz => by have := List.any_eq_false.1 h z hz; simpa using this
 unfold insI
 have e1 : (L ++ [y]).takeWhile (fun y => !It.ahead x y) = L := by
  rw [List.takeWhile_append_of_pos h1]
  simp [hy]
 have e2 : (L ++ [y]).dropWhile (fun y => !It.ahead x y) = [y] := by
  rw [List.dropWhile_append_of_pos h1]
  simp [hy]
 rw [e1, e2]
 simp
def insD (x : It) (L : List It) : Bool := L.any fun y => It.ahead x y
def insT (x : It) (L : List It) : List It := if insD x L = true then insI x L else L
theorem insD_app (x y : It) (L : List It) : insD x (L ++ [y]) = (insD x L || It.ahead x y) := by unfold insD; rw [List.any_append]; simp
theorem Ref7.has (A : Option Addr) (n c : Nat) (L : List It) (x : It) (hx : x.In) (w : World) (hr : RdI w A n L) (hl : InI L) (hn : n ≤ 1000000) : Calls Tryz.prog 35 #[.slice A n c, x.val] w (Ans (.bool (hasI x L)) w) := by
 have hal := (Below.refl w.heap.size w).alloc (Nat.le_refl _) (.cells #[.int .u64 x.t, .int .u32 x.r, .int .u32 x.v, .int .i64 x.i, .int .u64 x.u, .int .u32 x.s, .int .u32 x.y] 48)
 have HX : Hid (Cs (w.alloc (.cells #[.int .u64 x.t, .int .u32 x.r, .int .u32 x.v, .int .i64 x.i, .int .u64 x.u, .int .u32 x.s, .int .u32 x.y] 48)) w.heap.size x.cells) := hid (Cs.new7 w 48 x)
 have HB0 := hid hal
 have HR := hid (hr.below hal)
 have HL := hid hl
 have HXI := hid hx
 have HLN := hid hr.1
 have hni : (n : Int) ≤ 1000000 := by omega
 clear hr hl hx hal
 unfold It.val
 go_enter Tryz.func35, Tryz.ntmps35
 go_upto_region 1 with fail
 generalize (w.alloc (.cells #[.int .u64 x.t, .int .u32 x.r, .int .u32 x.v, .int .i64 x.i, .int .u64 x.u, .int .u32 x.s, .int .u32 x.y] 48)) = W0 at HX HB0 HR ⊢
 have HGX : Hid (w.heap.size < W0.heap.size) := hid HX.out.lt
 generalize hgx : w.heap.size = gx at HX HGX ⊢
 go_wp2_with fail
 go_loopg [9] n (fun s i wr => ∃ k : Nat, i = .int .i64 k ∧ k ≤ n ∧ s = n - k ∧ hasI x (L.take k) = false ∧ Below W0.heap.size W0 wr)
 case atStart => exact ⟨0, rfl, Nat.zero_le _, by omega, by simp [hasI], Below.refl _ _⟩
 case round =>
  obtain ⟨k, rfl, hk, hs, hh, hb⟩ := hrel
  have HS := hid hs
  have HH := hid hh
  have HB := hid hb
  clear hs hh hb
  by_cases hkn : k < n
  ·obtain ⟨bb, off, hA, _, hc⟩ := (HR.out.below HB.out).2 0 (by omega)
   obtain ⟨p0, p1, p2, p3, p4, p5, p6⟩ := hc k hkn
   have HTK := hid (take_itD (L := L) (k := k) (by have := HLN.out; omega))
   have HYI := hid (HL.out _ (getD_memI (L := L) (k := k) (by have := HLN.out; omega)))
   generalize L.getD k It.zero = y at *
   subst hA
   have hki : (k : Int) < n := by omega
   have hk0 : (0 : Int) ≤ k := by omega
   clear hc
   have hal := (Below.refl wr.heap.size wr).alloc (Nat.le_refl _) (.cells #[.int .u64 y.t, .int .u32 y.r, .int .u32 y.v, .int .i64 y.i, .int .u64 y.u, .int .u32 y.s, .int .u32 y.y] 48)
   have HY : Hid (Cs (wr.alloc (.cells #[.int .u64 y.t, .int .u32 y.r, .int .u32 y.v, .int .i64 y.i, .int .u64 y.u, .int .u32 y.s, .int .u32 y.y] 48)) wr.heap.size y.cells) := hid (Cs.new7 wr 48 y)
   have HB1 := hid (below_on HB.out hal)
   have HX1 := hid (HX.out.below HB1.out)
   clear hal
   go_upto_region 4 with fail
   generalize (wr.alloc (.cells #[.int .u64 y.t, .int .u32 y.r, .int .u32 y.v, .int .i64 y.i, .int .u64 y.u, .int .u32 y.s, .int .u32 y.y] 48)) = W1 at HY HB1 HX1 ⊢
   clear p0 p1 p2 p3 p4 p5 p6
   generalize wr.heap.size = gy at HY ⊢
   obtain ⟨x0, x1, x2, x3, x4, x5, x6⟩ := It.at x HX1.out
   obtain ⟨y0, y1, y2, y3, y4, y5, y6⟩ := It.at y HY.out
   have HHK : Hid (hasI x (L.take (k + 1)) = (!It.ahead x y && !It.ahead y x)) := hid (by
    have h1 := HH.out
    unfold hasI at h1 ⊢
    rw [HTK.out, List.any_append, h1]
    simp)
   go_wp2_with fail
   refine (Ref5.ahead x y HXI.out HYI.out _).mono ?_
   rintro e w2 ⟨rfl, hb⟩
   have HX2 := hid (HX1.out.below hb)
   have HY2 := hid (HY.out.below hb)
   have HB2 := hid (below_on HB1.out hb)
   clear x0 x1 x2 x3 x4 x5 x6 y0 y1 y2 y3 y4 y5 y6 hb HX1 HY HB1
   cases ha : It.ahead x y with
   | true =>
    rw [ha] at HHK
    clear ha
    go_wp2_with fail
    go_roundg (n - (k + 1))
    case measure => have := HS.out; omega
    case rel => exact ⟨k + 1, by go_num, by omega, rfl, by rw [HHK.out]; rfl, HB2.out⟩
   | false =>
    rw [ha] at HHK
    clear ha
    obtain ⟨x0, x1, x2, x3, x4, x5, x6⟩ := It.at x HX2.out
    obtain ⟨y0, y1, y2, y3, y4, y5, y6⟩ := It.at y HY2.out
    go_wp2_with fail
    refine (Ref5.ahead y x HYI.out HXI.out _).mono ?_
    rintro e w3 ⟨rfl, hb⟩
    have HB3 := hid (below_on HB2.out hb)
    clear x0 x1 x2 x3 x4 x5 x6 y0 y1 y2 y3 y4 y5 y6 hb HX2 HY2 HB2
    cases hb2 : It.ahead y x with
    | true =>
     rw [hb2] at HHK
     clear hb2
     go_wp2_with fail
     go_roundg (n - (k + 1))
     case measure => have := HS.out; omega
     case rel => exact ⟨k + 1, by go_num, by omega, rfl, by rw [HHK.out]; rfl, HB3.out⟩
    | false =>
     rw [hb2] at HHK
     clear hb2
     have HD : Hid (hasI x L = true) := hid (by
      obtain ⟨z, hz, h⟩ := hasI_iff.1 (show hasI x (L.take (k + 1)) = true by rw [HHK.out]; rfl)
      exact hasI_iff.2 ⟨z, List.mem_of_mem_take hz, h⟩)
     go_wp2_with fail
     go_ret
     exact ⟨by rw [HD.out]; rfl, below_on HB0.out HB3.out⟩
  ·obtain rfl : k = n := by omega
   have hki : ¬ (k : Int) < k := by omega
   have HD : Hid (hasI x L = false) := hid (by have := HH.out; rwa [List.take_of_length_le (by have := HLN.out; omega)] at this)
   go_wp2_with fail
   go_ret
   exact ⟨by rw [HD.out]; rfl, below_on HB0.out HB.out⟩
def RdsI (A0 : Option Addr) (L : List It) (ok : Bool) (w : World) (e : Ending) (w' : World) : Prop := ∃ A n c, e = .returned (.tuple #[.slice A n c, .bool ok]) ∧ RdI w' A n L ∧ Below w.heap.size w w' ∧ n ≤ c ∧ (A = A0 ∨ ∀ k ∈ rowOf A, w.heap.size ≤ k ∧ k < w'.heap.size)
theorem Ref7.delete (A : Option Addr) (n c : Nat) (L : List It) (x : It) (hx : x.In) (w : World) (hr : RdI w A n L) (hl : InI L) (hn : n ≤ 1000000) : Calls Tryz.prog 13 #[.slice A n c, x.val] w (RdsI A (delI x L) (decide ((delI x L).length < L.length)) w) := by
 have hal := (Below.refl w.heap.size w).alloc (Nat.le_refl _) (.cells #[.int .u64 x.t, .int .u32 x.r, .int .u32 x.v, .int .i64 x.i, .int .u64 x.u, .int .u32 x.s, .int .u32 x.y] 48)
 have HX : Hid (Cs (w.alloc (.cells #[.int .u64 x.t, .int .u32 x.r, .int .u32 x.v, .int .i64 x.i, .int .u64 x.u, .int .u32 x.s, .int .u32 x.y] 48)) w.heap.size x.cells) := hid (Cs.new7 w 48 x)
 have HB0 := hid hal
 have HR := hid (hr.below hal)
 have HL := hid hl
 have HXI := hid hx
 have HLN := hid hr.1
 have hni : (n : Int) ≤ 1000000 := by omega
 clear hr hl hx hal
 unfold It.val
 go_enter Tryz.func13, Tryz.ntmps13
 go_upto_region 1 with fail
 generalize (w.alloc (.cells #[.int .u64 x.t, .int .u32 x.r, .int .u32 x.v, .int .i64 x.i, .int .u64 x.u, .int .u32 x.s, .int .u32 x.y] 48)) = W0 at HX HB0 HR ⊢
 have HGX : Hid (w.heap.size < W0.heap.size) := hid HX.out.lt
 generalize hgx : w.heap.size = gx at HX HGX ⊢
 go_wp2_with fail
 go_loopg [6, 11] n (fun s a i wr => ∃ (k : Nat) (A1 : Option Addr) (m c1 : Nat), a = .slice A1 m c1 ∧ i = .int .i64 k ∧ k ≤ n ∧ s = n - k ∧ m ≤ k ∧ OwnR wr W0.heap.size A1 m c1 (delI x (L.take k)) ∧ Below W0.heap.size W0 wr)
 case atStart => exact ⟨0, none, 0, 0, rfl, rfl, Nat.zero_le _, by omega, Nat.le_refl _, by simpa [delI] using OwnR.nil _ _, Below.refl _ _⟩
 case round =>
  obtain ⟨k, A1, m, c1, rfl, rfl, hk, hs, hmk, ho, hb⟩ := hrel
  have HS := hid hs
  have HO := hid ho
  have HB := hid hb
  clear hs ho hb
  by_cases hkn : k < n
  ·obtain ⟨bb, off, hA, _, hc⟩ := (HR.out.below HB.out).2 0 (by omega)
   obtain ⟨p0, p1, p2, p3, p4, p5, p6⟩ := hc k hkn
   have HTK := hid (take_itD (L := L) (k := k) (by have := HLN.out; omega))
   have HYI := hid (HL.out _ (getD_memI (L := L) (k := k) (by have := HLN.out; omega)))
   generalize L.getD k It.zero = y at *
   subst hA
   have hki : (k : Int) < n := by omega
   have hk0 : (0 : Int) ≤ k := by omega
   clear hc
   have hal := (Below.refl wr.heap.size wr).alloc (Nat.le_refl _) (.cells #[.int .u64 y.t, .int .u32 y.r, .int .u32 y.v, .int .i64 y.i, .int .u64 y.u, .int .u32 y.s, .int .u32 y.y] 48)
   have HY : Hid (Cs (wr.alloc (.cells #[.int .u64 y.t, .int .u32 y.r, .int .u32 y.v, .int .i64 y.i, .int .u64 y.u, .int .u32 y.s, .int .u32 y.y] 48)) wr.heap.size y.cells) := hid (Cs.new7 wr 48 y)
   have HB1 := hid (below_on HB.out hal)
   have HX1 := hid (HX.out.below HB1.out)
   have HO1 := hid (HO.out.below hal)
   clear hal
   go_upto_region 5 with fail
   generalize (wr.alloc (.cells #[.int .u64 y.t, .int .u32 y.r, .int .u32 y.v, .int .i64 y.i, .int .u64 y.u, .int .u32 y.s, .int .u32 y.y] 48)) = W1 at HY HB1 HX1 HO1 ⊢
   clear p0 p1 p2 p3 p4 p5 p6
   have HDK : Hid (delI x (L.take (k + 1)) = delI x (L.take k) ++ (if (It.ahead x y || It.ahead y x) = true then [y] else [])) := hid (by
    unfold delI
    rw [HTK.out, List.filter_append, List.filter_cons]
    simp)
   generalize wr.heap.size = gy at HY ⊢
   clear HO
   obtain ⟨x0, x1, x2, x3, x4, x5, x6⟩ := It.at x HX1.out
   obtain ⟨y0, y1, y2, y3, y4, y5, y6⟩ := It.at y HY.out
   go_wp2_with fail
   refine (Ref5.ahead x y HXI.out HYI.out _).mono ?_
   rintro e w2 ⟨rfl, hb⟩
   have HX2 := hid (HX1.out.below hb)
   have HY2 := hid (HY.out.below hb)
   have HO2 := hid (HO1.out.below hb)
   have HB2 := hid (below_on HB1.out hb)
   clear x0 x1 x2 x3 x4 x5 x6 y0 y1 y2 y3 y4 y5 y6 hb HX1 HY HB1 HO1
   cases ha : It.ahead x y with
   | true =>
    rw [ha] at HDK
    clear ha
    have HDE : Hid (delI x (L.take (k + 1)) = delI x (L.take k) ++ [y]) := hid (by rw [HDK.out]; rfl)
    have HO3 := HO2
    have HB3 := HB2
    have hOW := HO3.out.alloc (.cells #[.int .u64 y.t, .int .u32 y.r, .int .u32 y.v, .int .i64 y.i, .int .u64 y.u, .int .u32 y.s, .int .u32 y.y] 48)
    have hTP : Th (w2.alloc (.cells #[.int .u64 y.t, .int .u32 y.r, .int .u32 y.v, .int .i64 y.i, .int .u64 y.u, .int .u32 y.s, .int .u32 y.y] 48)) w2.heap.size y := It.at y (Cs.new7 w2 48 y)
    have HB4 := hid (HB3.out.alloc HB3.out.size (.cells #[.int .u64 y.t, .int .u32 y.r, .int .u32 y.v, .int .i64 y.i, .int .u64 y.u, .int .u32 y.s, .int .u32 y.y] 48))
    have hbs := HB4.out.size
    have hk1 : m ≤ 1000000 := by omega
    obtain ⟨y0, y1, y2, y3, y4, y5, y6⟩ := It.at y HY2.out
    go_wp2_with (first | (at_builtin; (with_reducible refine wpList_append_ref _ rfl (.tmp 23) (.tmp 25) rfl W0.heap.size A1 m c1 (delI x (L.take k)) ?ap1a hOW w2.heap.size y ?ap1b hTP hk1 hbs ?ap1c); (case ap1a => rfl); (case ap1b => rfl); (intro A4 c4 w4 ho4 hc4 hr4); (have HO4 := hid ho4); (have HB5 := hid (Below.chg HB4.out hc4 (fun q hq => (hOW.rowGe q hq).1))); (clear ho4 hc4 hr4 hOW hTP hbs)) | fail)
    go_roundg (n - (k + 1))
    case measure => have := HS.out; omega
    case rel => exact ⟨k + 1, A4, m + 1, c4, rfl, by go_num, by omega, rfl, by omega, by rw [HDE.out]; exact HO4.out, HB5.out⟩
   | false =>
    rw [ha] at HDK
    clear ha
    obtain ⟨x0, x1, x2, x3, x4, x5, x6⟩ := It.at x HX2.out
    obtain ⟨y0, y1, y2, y3, y4, y5, y6⟩ := It.at y HY2.out
    go_wp2_with fail
    refine (Ref5.ahead y x HYI.out HXI.out _).mono ?_
    rintro e w3 ⟨rfl, hb⟩
    have HYC := hid (HY2.out.below hb)
    have HOC := hid (HO2.out.below hb)
    have HBC := hid (below_on HB2.out hb)
    clear x0 x1 x2 x3 x4 x5 x6 y0 y1 y2 y3 y4 y5 y6 hb HX2 HY2 HB2 HO2
    cases hb2 : It.ahead y x with
    | true =>
     rw [hb2] at HDK
     clear hb2
     have HDE : Hid (delI x (L.take (k + 1)) = delI x (L.take k) ++ [y]) := hid (by rw [HDK.out]; rfl)
     have HO3 := HOC
     have HB3 := HBC
     have hOW := HO3.out.alloc (.cells #[.int .u64 y.t, .int .u32 y.r, .int .u32 y.v, .int .i64 y.i, .int .u64 y.u, .int .u32 y.s, .int .u32 y.y] 48)
     have hTP : Th (w3.alloc (.cells #[.int .u64 y.t, .int .u32 y.r, .int .u32 y.v, .int .i64 y.i, .int .u64 y.u, .int .u32 y.s, .int .u32 y.y] 48)) w3.heap.size y := It.at y (Cs.new7 w3 48 y)
     have HB4 := hid (HB3.out.alloc HB3.out.size (.cells #[.int .u64 y.t, .int .u32 y.r, .int .u32 y.v, .int .i64 y.i, .int .u64 y.u, .int .u32 y.s, .int .u32 y.y] 48))
     have hbs := HB4.out.size
     have hk1 : m ≤ 1000000 := by omega
     obtain ⟨y0, y1, y2, y3, y4, y5, y6⟩ := It.at y HYC.out
     go_wp2_with (first | (at_builtin; (with_reducible refine wpList_append_ref _ rfl (.tmp 23) (.tmp 25) rfl W0.heap.size A1 m c1 (delI x (L.take k)) ?ap2a hOW w3.heap.size y ?ap2b hTP hk1 hbs ?ap2c); (case ap2a => rfl); (case ap2b => rfl); (intro A4 c4 w4 ho4 hc4 hr4); (have HO4 := hid ho4); (have HB5 := hid (Below.chg HB4.out hc4 (fun q hq => (hOW.rowGe q hq).1))); (clear ho4 hc4 hr4 hOW hTP hbs)) | fail)
     go_roundg (n - (k + 1))
     case measure => have := HS.out; omega
     case rel => exact ⟨k + 1, A4, m + 1, c4, rfl, by go_num, by omega, rfl, by omega, by rw [HDE.out]; exact HO4.out, HB5.out⟩
    | false =>
     rw [hb2] at HDK
     clear hb2
     have HDE : Hid (delI x (L.take (k + 1)) = delI x (L.take k)) := hid (by rw [HDK.out]; simp)
     go_wp2_with fail
     go_roundg (n - (k + 1))
     case measure => have := HS.out; omega
     case rel => exact ⟨k + 1, A1, m, c1, rfl, by go_num, by omega, rfl, by omega, by rw [HDE.out]; exact HOC.out, HBC.out⟩
  ·obtain rfl : k = n := by omega
   have hki : ¬ (k : Int) < k := by omega
   have ho := HO.out
   rw [List.take_of_length_le (by have := HLN.out; omega)] at ho
   have HO1 := hid ho.rdi
   have HRG : Hid (∀ j ∈ rowOf A1, w.heap.size ≤ j ∧ j < wr.heap.size) := hid (fun j hj => ⟨Nat.le_trans HB0.out.size (ho.rowGe j hj).1, (ho.rowGe j hj).2⟩)
   have HCP := hid ho.cap
   have HML := hid ho.len
   clear ho HO
   have HDD : Hid (decide ((delI x L).length < L.length) = decide ((m : Int) < k)) := hid (by rw [HML.out, HLN.out]; simp)
   go_wp2_with fail
   refine bodyPost_ret (v := .tuple #[.slice A1 m c1, .bool (decide ((m : Int) < k))]) (by simp [results, Tryz.results13, go_sem]) rfl ?_
   exact ⟨A1, m, c1, by rw [HDD.out], HO1.out, below_on HB0.out HB.out, HCP.out, Or.inr HRG.out⟩
theorem Ref7.insert (A : Option Addr) (n c : Nat) (L : List It) (x : It) (hx : x.In) (w : World) (hr : RdI w A n L) (hl : InI L) (hn : n ≤ 900000) (hnc : n ≤ c) : Calls Tryz.prog 10 #[.slice A n c, x.val] w (RdsI A (insR x L) (!hasI x L) w) := by
 have hal := (Below.refl w.heap.size w).alloc (Nat.le_refl _) (.cells #[.int .u64 x.t, .int .u32 x.r, .int .u32 x.v, .int .i64 x.i, .int .u64 x.u, .int .u32 x.s, .int .u32 x.y] 48)
 have HX : Hid (Cs (w.alloc (.cells #[.int .u64 x.t, .int .u32 x.r, .int .u32 x.v, .int .i64 x.i, .int .u64 x.u, .int .u32 x.s, .int .u32 x.y] 48)) w.heap.size x.cells) := hid (Cs.new7 w 48 x)
 have HB0 := hid hal
 have HR := hid (hr.below hal)
 have HL := hid hl
 have HXI := hid hx
 have HLN := hid hr.1
 have hni : (n : Int) ≤ 1000000 := by omega
 clear hr hl hx hal
 unfold It.val
 go_enter Tryz.func10, Tryz.ntmps10
 go_upto_region 1 with fail
 generalize (w.alloc (.cells #[.int .u64 x.t, .int .u32 x.r, .int .u32 x.v, .int .i64 x.i, .int .u64 x.u, .int .u32 x.s, .int .u32 x.y] 48)) = W0 at HX HB0 HR ⊢
 have HGX : Hid (w.heap.size < W0.heap.size) := hid HX.out.lt
 generalize hgx : w.heap.size = gx at HX HGX ⊢
 obtain ⟨x0, x1, x2, x3, x4, x5, x6⟩ := It.at x HX.out
 go_wp2_with fail
 refine (Ref7.has A n c L x HXI.out _ HR.out HL.out (by omega)).mono ?_
 rintro e w1 ⟨rfl, hb⟩
 clear x0 x1 x2 x3 x4 x5 x6
 cases hh : hasI x L with
 | true =>
  have HRB := hid (HR.out.below hb)
  have HB1 := hid (below_on HB0.out hb)
  have HHH := hid hh
  clear hb hh
  go_wp2_with fail
  refine bodyPost_ret (v := .tuple #[.slice A n c, .bool false]) (by simp [results, Tryz.results10, go_sem]) rfl ?_
  exact ⟨A, n, c, by rw [HHH.out]; rfl, by unfold insR; rw [if_pos HHH.out]; exact HRB.out, HB1.out, hnc, Or.inl rfl⟩
 | false =>
  have HHH := hid hh
  clear hh
  have HXW := hid (HX.out.below hb)
  have HRW := hid (HR.out.below hb)
  have HB0' := hid (below_on HB0.out hb)
  have HGW : Hid (gx < w1.heap.size) := hid (HX.out.below hb).lt
  clear hb HX HR HB0 HGX
  have HX := hid HXW.out
  have HR := hid HRW.out
  have HB0 := hid HB0'.out
  have HGX := hid HGW.out
  clear HXW HRW HB0' HGW
  skip
  go_wp2_with fail
  go_loopg [6, 7, 16] n (fun s a d i wr => ∃ (k : Nat) (A1 : Option Addr) (m c1 : Nat), a = .slice A1 m c1 ∧ d = .bool (insD x (L.take k)) ∧ i = .int .i64 k ∧ k ≤ n ∧ s = n - k ∧ (m ≤ k + 1 ∧ (insD x (L.take k) = false → m ≤ k)) ∧ OwnR wr w1.heap.size A1 m c1 (insT x (L.take k)) ∧ Below w1.heap.size w1 wr)
  case atStart => exact ⟨0, none, 0, 0, rfl, by simp [insD], rfl, Nat.zero_le _, by omega, ⟨by omega, fun _ => Nat.le_refl _⟩, by simpa [insT, insD] using OwnR.nil _ _, Below.refl _ _⟩
  case round =>
   obtain ⟨k, A1, m, c1, rfl, rfl, rfl, hk, hs, hmk, ho, hb⟩ := hrel
   have HS := hid hs
   have HO := hid ho
   have HB := hid hb
   clear hs ho hb
   by_cases hkn : k < n
   ·obtain ⟨bb, off, hA, _, hc⟩ := (HR.out.below HB.out).2 0 (by omega)
    obtain ⟨p0, p1, p2, p3, p4, p5, p6⟩ := hc k hkn
    have HTK := hid (take_itD (L := L) (k := k) (by have := HLN.out; omega))
    have HYI := hid (HL.out _ (getD_memI (L := L) (k := k) (by have := HLN.out; omega)))
    generalize L.getD k It.zero = y at *
    subst hA
    have hki : (k : Int) < n := by omega
    have hk0 : (0 : Int) ≤ k := by omega
    clear hc
    have hal := (Below.refl wr.heap.size wr).alloc (Nat.le_refl _) (.cells #[.int .u64 y.t, .int .u32 y.r, .int .u32 y.v, .int .i64 y.i, .int .u64 y.u, .int .u32 y.s, .int .u32 y.y] 48)
    have HY : Hid (Cs (wr.alloc (.cells #[.int .u64 y.t, .int .u32 y.r, .int .u32 y.v, .int .i64 y.i, .int .u64 y.u, .int .u32 y.s, .int .u32 y.y] 48)) wr.heap.size y.cells) := hid (Cs.new7 wr 48 y)
    have HB1 := hid (below_on HB.out hal)
    have HX1 := hid (HX.out.below HB1.out)
    have HO1 := hid (HO.out.below hal)
    have HRW : Hid (∀ j ∈ rowOf A1, j ≠ wr.heap.size ∧ j ≠ gx) := hid (fun j hj => by have := HO.out.rowGe j hj; have := HGX.out; exact ⟨by omega, by omega⟩)
    clear hal
    go_upto_region 8 with fail
    generalize (wr.alloc (.cells #[.int .u64 y.t, .int .u32 y.r, .int .u32 y.v, .int .i64 y.i, .int .u64 y.u, .int .u32 y.s, .int .u32 y.y] 48)) = W1 at HY HB1 HX1 HO1 ⊢
    clear p0 p1 p2 p3 p4 p5 p6
    generalize wr.heap.size = gy at HY HRW ⊢
    clear HO
    have HDK := hid (insD_app x y (L.take k))
    rw [← HTK.out] at HDK
    have HTT : Hid (insT x (L.take (k + 1)) = if insD x (L.take k) = true then insT x (L.take k) ++ [y] else if It.ahead x y = true then (insT x (L.take k) ++ [x]) ++ [y] else insT x (L.take k) ++ [y]) := hid (by
     unfold insT
     rw [HTK.out, insD_app]
     cases h1 : insD x (L.take k) with
     | true => simp only [Bool.true_or, if_true]; exact insI_app h1
     | false =>
      cases h2 : It.ahead x y with
      | true => simp; rw [insI_new h1 h2]; simp
      | false => simp)
    generalize hT : insT x (L.take k) = Tk at *
    clear hT
    cases hd : insD x (L.take k) with
    | true =>
     obtain ⟨hmk, hmk2⟩ := hmk
     rw [hd] at HDK HTT
     clear hd hmk2
     obtain ⟨x0, x1, x2, x3, x4, x5, x6⟩ := It.at x HX1.out
     obtain ⟨y0, y1, y2, y3, y4, y5, y6⟩ := It.at y HY.out
     have HO3 := HO1
     have HB3 := HB1
     have hOW := HO3.out.alloc (.cells #[.int .u64 y.t, .int .u32 y.r, .int .u32 y.v, .int .i64 y.i, .int .u64 y.u, .int .u32 y.s, .int .u32 y.y] 48)
     have hTP : Th (W1.alloc (.cells #[.int .u64 y.t, .int .u32 y.r, .int .u32 y.v, .int .i64 y.i, .int .u64 y.u, .int .u32 y.s, .int .u32 y.y] 48)) W1.heap.size y := It.at y (Cs.new7 W1 48 y)
     have HB4 := hid (HB3.out.alloc HB3.out.size (.cells #[.int .u64 y.t, .int .u32 y.r, .int .u32 y.v, .int .i64 y.i, .int .u64 y.u, .int .u32 y.s, .int .u32 y.y] 48))
     have hbs := HB4.out.size
     have hk1 : m ≤ 1000000 := by omega
     obtain ⟨y0, y1, y2, y3, y4, y5, y6⟩ := It.at y HY.out
     go_wp2_with (first | (at_builtin; (with_reducible refine wpList_append_ref _ rfl (.tmp 31) (.tmp 33) rfl w1.heap.size A1 m c1 Tk ?ap3a hOW W1.heap.size y ?ap3b hTP hk1 hbs ?ap3c); (case ap3a => rfl); (case ap3b => rfl); (intro A4 c4 w4 ho4 hc4 hr4); (have HO4 := hid ho4); (have HB5 := hid (Below.chg HB4.out hc4 (fun q hq => (hOW.rowGe q hq).1))); (clear ho4 hc4 hr4 hOW hTP hbs)) | fail)
     go_roundg (n - (k + 1))
     case measure => have := HS.out; omega
     case rel => exact ⟨k + 1, A4, m + 1, c4, rfl, by rw [HDK.out]; rfl, by go_num, by omega, rfl, ⟨by omega, fun h => by rw [HDK.out] at h; simp at h⟩, by rw [HTT.out]; exact HO4.out, HB5.out⟩
    | false =>
     have hmk3 := hmk.2 hd
     obtain ⟨hmk, hmk2⟩ := hmk
     rw [hd] at HDK HTT
     clear hd hmk2
     obtain ⟨x0, x1, x2, x3, x4, x5, x6⟩ := It.at x HX1.out
     obtain ⟨y0, y1, y2, y3, y4, y5, y6⟩ := It.at y HY.out
     go_wp2_with fail
     refine (Ref5.ahead x y HXI.out HYI.out _).mono ?_
     rintro e w2 ⟨rfl, hb⟩
     have HX2 := hid (HX1.out.below hb)
     have HY2 := hid (HY.out.below hb)
     have HO2 := hid (HO1.out.below hb)
     have HB2 := hid (below_on HB1.out hb)
     clear x0 x1 x2 x3 x4 x5 x6 y0 y1 y2 y3 y4 y5 y6 hb HX1 HY HB1 HO1
     cases ha : It.ahead x y with
     | true =>
      rw [ha] at HDK HTT
      clear ha
      have HO3 := HO2
      have HB3 := HB2
      have hOW := HO3.out.alloc (.cells #[.int .u64 x.t, .int .u32 x.r, .int .u32 x.v, .int .i64 x.i, .int .u64 x.u, .int .u32 x.s, .int .u32 x.y] 48)
      have hTP : Th (w2.alloc (.cells #[.int .u64 x.t, .int .u32 x.r, .int .u32 x.v, .int .i64 x.i, .int .u64 x.u, .int .u32 x.s, .int .u32 x.y] 48)) w2.heap.size x := It.at x (Cs.new7 w2 48 x)
      have HB4 := hid (HB3.out.alloc HB3.out.size (.cells #[.int .u64 x.t, .int .u32 x.r, .int .u32 x.v, .int .i64 x.i, .int .u64 x.u, .int .u32 x.s, .int .u32 x.y] 48))
      have hbs := HB4.out.size
      have hk1 : m ≤ 1000000 := by omega
      obtain ⟨x0, x1, x2, x3, x4, x5, x6⟩ := It.at x HX2.out
      go_upto_region 11 with (first | (at_builtin; (with_reducible refine wpList_append_ref _ rfl (.tmp 27) (.tmp 29) rfl w1.heap.size A1 m c1 Tk ?ap5a hOW w2.heap.size x ?ap5b hTP hk1 hbs ?ap5c); (case ap5a => rfl); (case ap5b => rfl); (intro A4 c4 w4 ho4 hc4 hr4); (have HO4 := hid ho4); (have HB5 := hid (Below.chg HB4.out hc4 (fun q hq => (hOW.rowGe q hq).1))); (have HY5 := hid ((HY2.out.alloc (.cells #[.int .u64 x.t, .int .u32 x.r, .int .u32 x.v, .int .i64 x.i, .int .u64 x.u, .int .u32 x.s, .int .u32 x.y] 48)).chg hc4 (fun hm => (HRW.out _ hm).1 rfl))); (clear ho4 hc4 hr4 hOW hTP hbs)) | fail)
      clear x0 x1 x2 x3 x4 x5 x6 HX2 HY2 HB2 HO2 HB3 HO3 HB4 hk1
      have HO3 := HO4
      have HB3 := HB5
      have hOW := HO3.out.alloc (.cells #[.int .u64 y.t, .int .u32 y.r, .int .u32 y.v, .int .i64 y.i, .int .u64 y.u, .int .u32 y.s, .int .u32 y.y] 48)
      have hTP : Th (w4.alloc (.cells #[.int .u64 y.t, .int .u32 y.r, .int .u32 y.v, .int .i64 y.i, .int .u64 y.u, .int .u32 y.s, .int .u32 y.y] 48)) w4.heap.size y := It.at y (Cs.new7 w4 48 y)
      have HB4 := hid (HB3.out.alloc HB3.out.size (.cells #[.int .u64 y.t, .int .u32 y.r, .int .u32 y.v, .int .i64 y.i, .int .u64 y.u, .int .u32 y.s, .int .u32 y.y] 48))
      have hbs := HB4.out.size
      have hk1 : (m + 1) ≤ 1000000 := by omega
      obtain ⟨y0, y1, y2, y3, y4, y5, y6⟩ := It.at y HY5.out
      go_wp2_with (first | (at_builtin; (with_reducible refine wpList_append_ref _ rfl (.tmp 31) (.tmp 33) rfl w1.heap.size A4 (m + 1) c4 (Tk ++ [x]) ?ap6a hOW w4.heap.size y ?ap6b hTP hk1 hbs ?ap6c); (case ap6a => rfl); (case ap6b => rfl); (intro A5 c5 w5 ho4 hc4 hr4); (have HO6 := hid ho4); (have HB6 := hid (Below.chg HB4.out hc4 (fun q hq => (hOW.rowGe q hq).1))); (clear ho4 hc4 hr4 hOW hTP hbs)) | fail)
      go_roundg (n - (k + 1))
      case measure => have := HS.out; omega
      case rel => exact ⟨k + 1, A5, m + 1 + 1, c5, rfl, by rw [HDK.out]; rfl, by go_num, by omega, rfl, ⟨by omega, fun h => by rw [HDK.out] at h; simp at h⟩, by rw [HTT.out]; exact HO6.out, HB6.out⟩
     | false =>
      rw [ha] at HDK HTT
      clear ha
      have HO3 := HO2
      have HB3 := HB2
      have hOW := HO3.out.alloc (.cells #[.int .u64 y.t, .int .u32 y.r, .int .u32 y.v, .int .i64 y.i, .int .u64 y.u, .int .u32 y.s, .int .u32 y.y] 48)
      have hTP : Th (w2.alloc (.cells #[.int .u64 y.t, .int .u32 y.r, .int .u32 y.v, .int .i64 y.i, .int .u64 y.u, .int .u32 y.s, .int .u32 y.y] 48)) w2.heap.size y := It.at y (Cs.new7 w2 48 y)
      have HB4 := hid (HB3.out.alloc HB3.out.size (.cells #[.int .u64 y.t, .int .u32 y.r, .int .u32 y.v, .int .i64 y.i, .int .u64 y.u, .int .u32 y.s, .int .u32 y.y] 48))
      have hbs := HB4.out.size
      have hk1 : m ≤ 1000000 := by omega
      obtain ⟨y0, y1, y2, y3, y4, y5, y6⟩ := It.at y HY2.out
      go_wp2_with (first | (at_builtin; (with_reducible refine wpList_append_ref _ rfl (.tmp 31) (.tmp 33) rfl w1.heap.size A1 m c1 Tk ?ap4a hOW w2.heap.size y ?ap4b hTP hk1 hbs ?ap4c); (case ap4a => rfl); (case ap4b => rfl); (intro A4 c4 w4 ho4 hc4 hr4); (have HO4 := hid ho4); (have HB5 := hid (Below.chg HB4.out hc4 (fun q hq => (hOW.rowGe q hq).1))); (clear ho4 hc4 hr4 hOW hTP hbs)) | fail)
      go_roundg (n - (k + 1))
      case measure => have := HS.out; omega
      case rel => exact ⟨k + 1, A4, m + 1, c4, rfl, by rw [HDK.out]; rfl, by go_num, by omega, rfl, ⟨by omega, fun _ => by omega⟩, by rw [HTT.out]; exact HO4.out, HB5.out⟩
   ·obtain rfl : k = n := by omega
    have hki : ¬ (k : Int) < k := by omega
    have hT : L.take k = L := List.take_of_length_le (by have := HLN.out; omega)
    rw [hT] at HO ⊢
    clear hT
    have HIN : Hid (insI x L = if insD x L = true then insT x L else insT x L ++ [x]) := hid (by
     unfold insT
     cases h1 : insD x L with
     | true => rfl
     | false => exact insI_none h1)
    cases hd : insD x L with
    | true =>
     rw [hd] at HIN
     clear hd
     have HRD := hid HO.out.rdi
     have HRG : Hid (∀ j ∈ rowOf A1, w.heap.size ≤ j ∧ j < wr.heap.size) := hid (fun j hj => ⟨Nat.le_trans HB0.out.size (HO.out.rowGe j hj).1, (HO.out.rowGe j hj).2⟩)
     have HCP := hid HO.out.cap
     clear HO
     go_wp2_with fail
     refine bodyPost_ret (v := .tuple #[.slice A1 m c1, .bool true]) (by simp [results, Tryz.results10, go_sem]) rfl ?_
     exact ⟨A1, m, c1, by rw [HHH.out]; rfl, by unfold insR; rw [if_neg (by rw [HHH.out]; simp), HIN.out]; exact HRD.out, below_on HB0.out HB.out, HCP.out, Or.inr HRG.out⟩
    | false =>
     obtain ⟨hmk, hmk2⟩ := hmk
     rw [hd] at HIN
     clear hd
     have HX1 := hid (HX.out.below HB.out)
     have HO3 := HO
     have HB3 := HB
     have hOW := HO3.out.alloc (.cells #[.int .u64 x.t, .int .u32 x.r, .int .u32 x.v, .int .i64 x.i, .int .u64 x.u, .int .u32 x.s, .int .u32 x.y] 48)
     have hTP : Th (wr.alloc (.cells #[.int .u64 x.t, .int .u32 x.r, .int .u32 x.v, .int .i64 x.i, .int .u64 x.u, .int .u32 x.s, .int .u32 x.y] 48)) wr.heap.size x := It.at x (Cs.new7 wr 48 x)
     have HB4 := hid (HB3.out.alloc HB3.out.size (.cells #[.int .u64 x.t, .int .u32 x.r, .int .u32 x.v, .int .i64 x.i, .int .u64 x.u, .int .u32 x.s, .int .u32 x.y] 48))
     have hbs := HB4.out.size
     have hk1 : m ≤ 1000000 := by omega
     obtain ⟨x0, x1, x2, x3, x4, x5, x6⟩ := It.at x HX1.out
     go_wp2_with (first | (at_builtin; (with_reducible refine wpList_append_ref _ rfl (.tmp 38) (.tmp 40) rfl w1.heap.size A1 m c1 (insT x L) ?ap7a hOW wr.heap.size x ?ap7b hTP hk1 hbs ?ap7c); (case ap7a => rfl); (case ap7b => rfl); (intro A4 c4 w4 ho4 hc4 hr4); (have HCP := hid ho4.cap); (have HRG := hid (show ∀ j ∈ rowOf A4, w.heap.size ≤ j ∧ j < w4.heap.size from fun j hj => ⟨Nat.le_trans HB0.out.size (ho4.rowGe j hj).1, (ho4.rowGe j hj).2⟩)); (have HO4 := hid ho4.rdi); (have HB5 := hid (Below.chg HB4.out hc4 (fun q hq => (hOW.rowGe q hq).1))); (clear ho4 hc4 hr4 hOW hTP hbs)) | fail)
     refine bodyPost_ret (v := .tuple #[.slice A4 (m + 1) c4, .bool true]) (by simp [results, Tryz.results10, go_sem]) rfl ?_
     exact ⟨A4, m + 1, c4, by rw [HHH.out]; rfl, by unfold insR; rw [if_neg (by rw [HHH.out]; simp), HIN.out]; exact HO4.out, below_on HB0.out HB5.out, HCP.out, Or.inr HRG.out⟩
end


section
open Go.RowKit
set_option maxRecDepth 100000
set_option maxHeartbeats 32000000
def DNew (l : List It) (w : World) (e : Ending) (w' : World) : Prop := ∃ th t, e = .returned (.agg #[.pointer (some ⟨th, 0, none⟩)]) ∧ Built l t ∧ Gd w th t w'
def Dn (w : World) (b th : Nat) (t : Tr It) (wr : World) : Prop := Gd w th t wr ∧ Cs wr w.heap.size [.pointer none] ∧ Cs wr b [.pointer (some ⟨th, 0, none⟩)] ∧ (∀ g ∈ th :: t.blocks, g ≠ w.heap.size ∧ g ≠ b)
theorem Dn.below {w w1 w2 : World} {b th : Nat} {t : Tr It} (h : Dn w b th t w1) (hb : Below w1.heap.size w1 w2) : Dn w b th t w2 := ⟨h.1.below hb, h.2.1.below hb, h.2.2.1.below hb, h.2.2.2⟩
theorem Dn.ins {w w1 w2 : World} {b th : Nat} {t : Tr It} {x : It} {k : Nat} (h : Dn w b th t w1) (hk : w1.heap.size ≤ k) (ht : DTreeAt w2 th ((Tr.put It.ahead k x t).paint false)) (hc : Chg (th :: t.blocks) w1 w2) : Dn w b th ((Tr.put It.ahead k x t).paint false) w2 :=
 ⟨h.1.ins hk ht hc, h.2.1.chg hc (fun hm => (h.2.2.2 _ hm).1 rfl), h.2.2.1.chg hc (fun hm => (h.2.2.2 _ hm).2 rfl), fun g hg => by
  rcases List.mem_cons.1 hg with rfl | h1
  ·exact h.2.2.2 _ (by simp)
  ·rw [Tr.blocks_paint] at h1
   rcases List.mem_cons.1 ((Tr.perm_put It.ahead k x t).mem_iff.1 h1) with rfl | h2
   ·have h3 := h.2.1.lt
    have h4 := h.2.2.1.lt
    exact ⟨by omega, by omega⟩
   ·exact h.2.2.2 g (by simp [h2])⟩
theorem DIn.far1 {w W : World} {t : Tr It} (h : DIn w t) {b : Nat} {o : Nat} {u : Value} (e : W = w.setCell ⟨b, o, none⟩ u) (hb : b ∉ t.blocks) : DIn W t := by
 have hch : Chg [b] w W := by rw [e]; exact (Chg.refl _ _).set (Or.inl (by simp)) _ _
 induction t with
 | nil => trivial
 | node g c l x r ihl ihr =>
  obtain ⟨⟨v, hv, hc⟩, hl, hr⟩ := h
  simp only [Tr.blocks, List.mem_cons, List.mem_append, not_or] at hb
  exact ⟨⟨v, hv, hc.chg hch (by simp; exact fun e => hb.1 e.symm)⟩, ihl hl hb.2.1, ihr hr hb.2.2⟩
theorem DEnv.far1 {w W : World} {th : Nat} {rt : Value} {n : Int} {b : Nat} {v u : Value} (h : DEnv w th rt n) (hc : Cs w b [v]) (hp : ∃ p, v = .pointer p) (hth : th ≠ b) (e : W = w.setCell ⟨b, 0, none⟩ u) : DEnv W th rt n := by
 obtain ⟨p, rfl⟩ := hp
 obtain ⟨b1, b2, h0, h1, h2, n0, n1, n2, f1, f2⟩ := h
 have hch : Chg [b] w W := by rw [e]; exact (Chg.refl _ _).set (Or.inl (by simp)) _ _
 have g1 : b1 ∉ [b] := fun hm => by simp at hm; subst hm; have := hc.at0; rw [h1.at0] at this; cases this
 have g2 : b2 ∉ [b] := fun hm => by simp at hm; subst hm; have := hc.at0; rw [h2.at0] at this; cases this
 have g0 : th ∉ [b] := by simpa using hth
 exact ⟨b1, b2, h0.chg hch g0, h1.chg hch g1, h2.chg hch g2, (hch.cell (p := ⟨th, 14, none⟩) h0.lt g0).trans n0, (hch.cell (p := ⟨b1, 14, none⟩) h1.lt g1).trans n1, (hch.cell (p := ⟨b2, 14, none⟩) h2.lt g2).trans n2, f1, f2⟩
theorem Dtree.new (A : Option Addr) (n c : Nat) (l : List It) (w : World) (hr : RdI w A n l) (hl : InI l) (hn : n ≤ 800000) :
  Calls Tryz.prog 5 #[.slice A n c] w (DNew l w) := by
 have HR := hid hr
 have HL := hid hl
 have hni : (n : Int) ≤ 800000 := by omega
 clear hr hl
 go_enter Tryz.func5, Tryz.ntmps5
 go_wp2_with fail
 refine (Dt.new _).mono ?_
 rintro e w1 ⟨th, rfl, hth, ht, hb⟩
 have hb1 := below_on ((Below.refl w.heap.size w).alloc (Nat.le_refl _) (.cells #[.pointer none] 27)) hb
 have HD0 : Hid (Dn w w1.heap.size th .nil (w1.alloc (.cells #[.pointer (some ⟨th, 0, none⟩)] 27))) := hid (by
  have hz := Cs.alloc_new w 27 [.pointer none]
  have hz2 := Cs.alloc_new w1 27 [.pointer (some ⟨th, 0, none⟩)]
  have hlt : th < w1.heap.size := by obtain ⟨_, _, t0, _⟩ := ht.1; exact t0.lt
  simp at hth
  have ha := (Below.refl w1.heap.size w1).alloc (Nat.le_refl _) (.cells #[.pointer (some ⟨th, 0, none⟩)] 27)
  exact ⟨⟨ht.below ha, by omega, fun g hg => by simp [Tr.blocks] at hg, below_on hb1 ha⟩, (hz.below hb).below ha, hz2, fun g hg => by
   simp [Tr.blocks] at hg; subst hg; exact ⟨by omega, by omega⟩⟩)
 clear hth ht hb hb1
 go_wp2_with fail
 generalize hbb : w1.heap.size = b at HD0 ⊢
 generalize (w1.alloc (.cells #[.pointer (some ⟨th, 0, none⟩)] 27)) = W1 at HD0 ⊢
 go_loopg [14] n (fun s i wr => ∃ (k : Nat) (t : Tr It), i = .int .i64 k ∧ k ≤ n ∧ s = n - k ∧ Built (l.take k) t ∧ Dn w b th t wr)
 case atStart => exact ⟨0, .nil, rfl, Nat.zero_le _, by omega, by simpa using Built.nil, HD0.out⟩
 case round =>
  obtain ⟨k, t, rfl, hk, hs, hbt, hd⟩ := hrel
  have HS := hid hs
  have HBT := hid hbt
  have HD := hid hd
  clear hs hbt hd HD0
  by_cases hkn : k < n
  ·obtain ⟨bb, off, hA, _, hc⟩ := (HR.out.below HD.out.1.2.2.2).2 0 (by omega)
   obtain ⟨p0, p1, p2, p3, p4, p5, p6⟩ := hc k hkn
   have HX := hid (HL.out.get (show k < l.length by have := HR.out.1; omega))
   have HTK : Hid (l.take (k + 1) = l.take k ++ [l.getD k It.zero]) := hid (by
    have hkl : k < l.length := by have := HR.out.1; omega
    rw [List.take_succ_eq_append_getElem hkl]; simp [List.getD, hkl])
   have HLT : Hid (t.list.length < 900000) := hid (by have h1 := HBT.out.len; simp at h1; omega)
   generalize l.getD k It.zero = x at *
   subst hA
   have hki : (k : Int) < n := by omega
   clear hc
   have HDa := hid (HD.out.below ((Below.refl wr.heap.size wr).alloc (Nat.le_refl _) (.cells #[.int .u64 x.t, .int .u32 x.r, .int .u32 x.v, .int .i64 x.i, .int .u64 x.u, .int .u32 x.s, .int .u32 x.y] 35)))
   have q := HDa.out.2.2.1.at0
   cases hh : Tr.has It.ahead x t with
   | true =>
    have HH := hid hh
    clear hh
    go_wp2_with fail
    refine (Dt.insert_no th t x HX.out _ HDa.out.1.1 HH.out).mono ?_
    rintro e w3 ⟨rfl, hb3⟩
    have HD3 := hid (HDa.out.below hb3)
    clear hb3 q p0 p1 p2 p3 p4 p5 p6
    go_wp2_with fail
    go_roundg (n - (k + 1))
    case measure => have := HS.out; omega
    case rel => exact ⟨k + 1, t, by go_num, by omega, rfl, by rw [HTK.out]; exact .skip HBT.out HH.out, HD3.out⟩
   | false =>
    have HH := hid hh
    clear hh
    go_wp2_with fail
    refine (Dt.insert th t x HX.out _ HDa.out.1.1 HLT.out HH.out).mono ?_
    rintro e w3 ⟨k', hk', rfl, ht', hc'⟩
    have HD3 := hid (HDa.out.ins hk' ht' hc')
    clear hk' ht' hc' q p0 p1 p2 p3 p4 p5 p6
    go_wp2_with fail
    go_roundg (n - (k + 1))
    case measure => have := HS.out; omega
    case rel => exact ⟨k + 1, _, by go_num, by omega, rfl, by rw [HTK.out]; exact .put HBT.out HH.out, HD3.out⟩
  ·obtain rfl : k = n := by omega
   have hki : ¬ (k : Int) < k := by omega
   have hq := HBT.out
   rw [List.take_of_length_le (by have := HR.out.1; omega)] at hq
   have HQ := hid hq
   clear hq
   have q0 := HD.out.2.2.1.at0
   have q1 := HD.out.2.1.at0
   have q2 := HD.out.2.1.fr0
   have HFIN : Hid (∀ W, W = wr.setCell ⟨w.heap.size, 0, none⟩ (.pointer (some ⟨th, 0, none⟩)) → Gd w th t W ∧ W.cell? ⟨w.heap.size, 0, none⟩ = some (.pointer (some ⟨th, 0, none⟩))) := hid (by
    intro W e
    obtain ⟨⟨h1, h2, h3, h4⟩, h5, h6, h7⟩ := HD.out
    have hch : Chg [w.heap.size] wr W := by rw [e]; exact (Chg.refl _ _).set (Or.inl (by simp)) _ _
    have hno : ∀ g ∈ th :: t.blocks, g ∉ [w.heap.size] := fun g hg hg' => by simp at hg'; exact (h7 g hg).1 hg'
    refine ⟨⟨⟨DEnv.far1 h1.1 h5 ⟨_, rfl⟩ (h7 th (by simp)).1 e, DIn.far1 h1.2.1 e (fun hm => (h7 _ (by simp [hm])).1 rfl), h1.2.2⟩, h2, h3, h4.trans (hch.toBelow h4.size (fun g hg => by simp at hg; omega))⟩, by rw [e]; exact World.cell?_setCell_same _ _ _ q1⟩)
   go_wp2_with fail
   have HF2 := hid (HFIN.out _ rfl)
   clear HFIN q0 q1 q2
   generalize wr.setCell ⟨w.heap.size, 0, none⟩ (.pointer (some ⟨th, 0, none⟩)) = W9 at HF2 ⊢
   have q := HF2.out.2
   refine bodyPost_ret (v := .agg #[.pointer (some ⟨th, 0, none⟩)]) (by simp [results, Tryz.results5, go_sem, q]) rfl ⟨th, t, rfl, HQ.out, HF2.out.1⟩
theorem Dtree.soonestAwake (th : Nat) (t : Tr It) (p : It → Bool) (w : World) (h : DTreeAt w th t)
  (hin : ∀ (y : It) (w' : World), y ∈ t.list → y.In → Below w.heap.size w w' → Calls Tryz.prog 22 #[y.val] w' (Ans (.bool (p y)) w')) :
  Calls Tryz.prog 21 #[.agg #[.pointer (some ⟨th, 0, none⟩)], (.func (.func 22) #[] #[])] w (Ans (.tuple #[It.val (foldD p t (false, It.zero)).2, .bool (foldD p t (false, It.zero)).1]) w) := by
 have hb0 := ((Below.refl w.heap.size w).alloc (Nat.le_refl _) (.cells #[.pointer (some ⟨th, 0, none⟩)] 27)).alloc (by simp) (.cells #[.int .u64 0, .int .u32 0, .int .u32 0, .int .i64 0, .int .u64 0, .int .u32 0, .int .u32 0] 35)
 have HT := hid (h.below hb0)
 have HB0 := hid hb0
 have HIN := hid hin
 have HZ : Hid (Cs ((w.alloc (.cells #[.pointer (some ⟨th, 0, none⟩)] 27)).alloc (.cells #[.int .u64 0, .int .u32 0, .int .u32 0, .int .i64 0, .int .u64 0, .int .u32 0, .int .u32 0] 35)) (w.heap.size + 1) It.zero.cells) := hid (by have := Cs.new7 (w.alloc (.cells #[.pointer (some ⟨th, 0, none⟩)] 27)) 35 It.zero; simp only [World.size_alloc] at this; exact this)
 clear h hin hb0
 go_enter Tryz.func21, Tryz.ntmps21
 go_wp2_with fail
 refine (Dt.foldAwake th  t p _ HT.out (fun y w' hy hyi hb => HIN.out y w' hy hyi (below_on HB0.out hb))).mono ?_
 rintro e w1 ⟨rfl, hb⟩
 have HZ2 : Hid (∃ z : It, Cs w1 (w.heap.size + 1) z.cells) := hid ⟨It.zero, HZ.out.below hb⟩
 obtain ⟨sm, acc, hq⟩ : ∃ sm acc, foldD p t (false, It.zero) = (sm, acc) := ⟨_, _, rfl⟩
 have HQ := hid hq
 rw [hq]
 have HAN := hid (answer_it (b := w.heap.size + 1) (by omega) HZ2.out (below_on HB0.out hb) acc)
 have hth := there_it HZ2.out
 clear hb hq
 go_wp2_with ((with_reducible refine wpList_put_it 35 infoItem rfl (.tmp 4) (.tmp 10) rfl (w.heap.size + 1) 0 acc hth ?s1 ?s2 ?s3); (case s1 => rfl); (case s2 => rfl); (intro W2 hW2); (have HW := hid (HAN.out W2 hW2)); (clear hW2 hth); (obtain ⟨z0, z1, z2, z3, z4, z5, z6⟩ := HW.out.1))
 refine bodyPost_ret (v := .tuple #[It.val acc, .bool sm]) (by simp [results, Tryz.results21, go_sem, z0, z1, z2, z3, z4, z5, z6]) rfl ⟨by rw [HQ.out], HW.out.2⟩
theorem Law7.plain (i a d : Int) (w : World) : Calls Tryz.prog 20 #[.int .i64 i, .int .u64 a, .int .u64 d] w (Ans (It.val (It.mk a 0 1 i d 0 1)) w) := by
 go_enter Tryz.func20, Tryz.ntmps20
 go_wp2_with fail
 refine bodyPost_ret (v := It.val (It.mk a 0 1 i d 0 1)) (by simp [results, Tryz.results20, go_sem]) rfl ⟨rfl, ?_⟩
 exact (Below.refl _ _).alloc (Nat.le_refl _) _
theorem Law7.lt3 (y : It) (w : World) : Calls Tryz.prog 22 #[y.val] w (Ans (.bool (decide (y.t < 3))) w) := by
 unfold It.val
 go_enter Tryz.func22, Tryz.ntmps22
 go_wp2_with fail
 go_ret
 exact ⟨rfl, (Below.refl _ _).alloc (Nat.le_refl _) _⟩
theorem Built.snoc {L l : List It} {x : It} {t : Tr It} (h : Built L t) (e : L = l ++ [x]) : (∃ t' k, Built l t' ∧ Tr.has It.ahead x t' = false ∧ t = (Tr.put It.ahead k x t').paint false) ∨ (Built l t ∧ Tr.has It.ahead x t = true) := by
 cases h with
 | nil => exact absurd (congrArg List.length e) (by simp)
 | put h1 h2 =>
  obtain ⟨rfl, e2⟩ := List.append_inj' e rfl
  injection e2 with e3
  subst e3
  exact Or.inl ⟨_, _, h1, h2, rfl⟩
 | skip h1 h2 =>
  obtain ⟨rfl, e2⟩ := List.append_inj' e rfl
  injection e2 with e3
  subst e3
  exact Or.inr ⟨h1, h2⟩
theorem Built.nil_inv {t : Tr It} {L : List It} (h : Built L t) (e : L = []) : t = .nil := by
 cases h with
 | nil => rfl
 | put h1 h2 => exact absurd (congrArg List.length e) (by simp)
 | skip h1 h2 => exact absurd (congrArg List.length e) (by simp)
theorem Built.three {t : Tr It} (h : Built [(It.mk 1 0 1 1 9 0 1), (It.mk 2 0 1 2 5 0 1), (It.mk 3 0 1 3 4 0 1)] t) : foldD (fun y => decide (y.t < 3)) t (false, It.zero) = (true, (It.mk 2 0 1 2 5 0 1)) := by
 rcases h.snoc (l := [(It.mk 1 0 1 1 9 0 1), (It.mk 2 0 1 2 5 0 1)]) rfl with ⟨t2, k3, h2, g3, rfl⟩ | ⟨h2, g3⟩
 all_goals
  rcases h2.snoc (l := [(It.mk 1 0 1 1 9 0 1)]) rfl with ⟨t1, k2, h1, g2, rfl⟩ | ⟨h1, g2⟩
  all_goals
   rcases h1.snoc (l := []) rfl with ⟨t0, k1, h0, g1, rfl⟩ | ⟨h0, g1⟩
   all_goals
    obtain rfl := h0.nil_inv rfl
    first
     | (change false = true at g1; cases g1)
     | (change false = true at g2; cases g2)
     | (change false = true at g3; cases g3)
     | rfl
theorem Law5.Awake (w : World) : Calls Tryz.prog 23 #[] w (Ans (.bool true) w) := by
 go_enter Tryz.func23, Tryz.ntmps23
 go_wp2_with fail
 refine (Law5.awake _).mono ?_
 rintro e w1 ⟨rfl, hb⟩
 have HB := hid hb
 clear hb
 go_wp2_with fail
 go_ret
 exact ⟨rfl, HB.out⟩
theorem Law6.Awake (w : World) : Calls Tryz.prog 24 #[] w (Ans (.bool true) w) := by
 go_enter Tryz.func24, Tryz.ntmps24
 go_wp2_with fail
 refine (Law6.awake _).mono ?_
 rintro e w1 ⟨rfl, hb⟩
 have HB := hid hb
 clear hb
 go_wp2_with fail
 go_ret
 exact ⟨rfl, HB.out⟩
theorem in3 : InI [(It.mk 1 0 1 1 9 0 1), (It.mk 2 0 1 2 5 0 1), (It.mk 3 0 1 3 4 0 1)] := by
 intro x hx
 simp at hx
 rcases hx with rfl | rfl | rfl <;> (unfold It.In; refine ⟨?_, ?_, ?_, ?_, ?_, ?_, ?_⟩ <;> exact ⟨by decide, by decide⟩)
theorem Law7.awake (w : World) : Calls Tryz.prog 4 #[] w (Ans (.bool true) w) := by
 go_enter Tryz.func4, Tryz.ntmps4
 go_wp2_with fail
 refine (Law7.plain 1 1 9 _).mono ?_
 rintro e w1 ⟨rfl, hb1⟩
 have HB1 := hid hb1
 clear hb1
 go_wp2_with fail
 refine (Law7.plain 2 2 5 _).mono ?_
 rintro e w2 ⟨rfl, hb2⟩
 have HB2 := hid (below_on HB1.out hb2)
 clear hb2 HB1
 go_wp2_with fail
 refine (Law7.plain 3 3 4 _).mono ?_
 rintro e w3 ⟨rfl, hb3⟩
 have HB3 := hid (below_on HB2.out hb3)
 clear hb3 HB2
 have HR : Hid (RdI (w3.alloc (.cells #[.int .u64 1, .int .u32 0, .int .u32 1, .int .i64 1, .int .u64 9, .int .u32 0, .int .u32 1, .int .u64 2, .int .u32 0, .int .u32 1, .int .i64 2, .int .u64 5, .int .u32 0, .int .u32 1, .int .u64 3, .int .u32 0, .int .u32 1, .int .i64 3, .int .u64 4, .int .u32 0, .int .u32 1] 35)) (some ⟨w3.heap.size, 0, none⟩) 3 [(It.mk 1 0 1 1 9 0 1), (It.mk 2 0 1 2 5 0 1), (It.mk 3 0 1 3 4 0 1)]) := hid ⟨rfl, fun i hi => ⟨w3.heap.size, 0, rfl, by simp, fun j hj => by
  have hc := Cs.alloc_new w3 35 [.int .u64 1, .int .u32 0, .int .u32 1, .int .i64 1, .int .u64 9, .int .u32 0, .int .u32 1, .int .u64 2, .int .u32 0, .int .u32 1, .int .i64 2, .int .u64 5, .int .u32 0, .int .u32 1, .int .u64 3, .int .u32 0, .int .u32 1, .int .i64 3, .int .u64 4, .int .u32 0, .int .u32 1]
  match j, hj with
  | 0, _ => exact ⟨(hc 0 _ rfl).1, (hc 1 _ rfl).1, (hc 2 _ rfl).1, (hc 3 _ rfl).1, (hc 4 _ rfl).1, (hc 5 _ rfl).1, (hc 6 _ rfl).1⟩
  | 1, _ => exact ⟨(hc 7 _ rfl).1, (hc 8 _ rfl).1, (hc 9 _ rfl).1, (hc 10 _ rfl).1, (hc 11 _ rfl).1, (hc 12 _ rfl).1, (hc 13 _ rfl).1⟩
  | 2, _ => exact ⟨(hc 14 _ rfl).1, (hc 15 _ rfl).1, (hc 16 _ rfl).1, (hc 17 _ rfl).1, (hc 18 _ rfl).1, (hc 19 _ rfl).1, (hc 20 _ rfl).1⟩⟩⟩
 have HB4 := hid (HB3.out.alloc HB3.out.size (.cells #[.int .u64 1, .int .u32 0, .int .u32 1, .int .i64 1, .int .u64 9, .int .u32 0, .int .u32 1, .int .u64 2, .int .u32 0, .int .u32 1, .int .i64 2, .int .u64 5, .int .u32 0, .int .u32 1, .int .u64 3, .int .u32 0, .int .u32 1, .int .i64 3, .int .u64 4, .int .u32 0, .int .u32 1] 35))
 go_wp2_with fail
 refine (Dtree.new _ 3 3 [(It.mk 1 0 1 1 9 0 1), (It.mk 2 0 1 2 5 0 1), (It.mk 3 0 1 3 4 0 1)] _ HR.out in3 (by decide)).mono ?_
 rintro e w4 ⟨th, t, rfl, hbt, hg⟩
 have HT3 := hid hbt.three
 have HG := hid ((hg.below ((Below.refl _ _).alloc (Nat.le_refl _) (.cells #[.pointer (some ⟨th, 0, none⟩)] 27))))
 have HB5 := hid (below_on HB4.out HG.out.2.2.2)
 clear hbt hg HB3 HB4 HR
 go_wp2_with fail
 refine (Dtree.soonestAwake th t (fun y => decide (y.t < 3)) _ HG.out.1 (fun y w' _ _ _ => Law7.lt3 y w')).mono ?_
 rintro e w5 ⟨rfl, hb5⟩
 rw [HT3.out]
 have HB6 := hid (below_on HB5.out hb5)
 clear hb5 HG HT3 HB5
 go_wp2_with fail
 refine (Law5.Awake _).mono ?_
 rintro e w6 ⟨rfl, hb6⟩
 have hb7 := HB6.out.alloc HB6.out.size (.cells #[.int .u64 2, .int .u32 0, .int .u32 1, .int .i64 2, .int .u64 5, .int .u32 0, .int .u32 1] 35)
 have HC6 : Hid (Cs w6 w5.heap.size (It.cells (It.mk 2 0 1 2 5 0 1))) := hid (by
  have := Cs.new7 w5 35 (It.mk 2 0 1 2 5 0 1)
  exact this.below hb6)
 have HB7 := hid (below_on hb7 hb6)
 clear hb6 hb7 HB6
 go_wp2_with fail
 refine (Law6.Awake _).mono ?_
 rintro e w7 ⟨rfl, hb7⟩
 obtain ⟨z0, z1, z2, z3, z4, z5, z6⟩ := It.at _ (HC6.out.below hb7)
 have HB8 := hid (below_on HB7.out hb7)
 clear hb7 HC6 HB7
 go_wp2_with fail
 go_ret
 exact ⟨rfl, HB8.out⟩
end


section
open Go.RowKit
def It.shift (d : Int) (a : It) : It := It.mk (IntKind.u64.wrap (a.t + d)) a.r a.v a.i (IntKind.u64.wrap (a.u + d)) a.s a.y
theorem It.shift_in (d : Int) {a : It} (h : a.In) : (It.shift d a).In := by
 obtain ⟨h0, h1, h2, h3, h4, h5, h6⟩ := h
 refine ⟨?_, h1, h2, h3, ?_, h5, h6⟩ <;> (show 0 ≤ IntKind.u64.wrap _ ∧ IntKind.u64.wrap _ ≤ 18446744073709551615; rw [IntKind.wrap_u64]; omega)
end


section
open Go.RowKit
set_option maxRecDepth 100000
set_option maxHeartbeats 32000000
section
attribute [local go_sem] eqDin
theorem Dt.foldTold (th : Nat) (k0 : Nat) (k1 : Nat) (t : Tr It) (p : It → Bool) (w : World) (h : DTreeAt w th t)
  (hin : ∀ (y : It) (w' : World), y ∈ t.list → y.In → Below w.heap.size w w' → Calls Tryz.prog 39 #[y.val, .pointer (some ⟨k0, 0, none⟩), .pointer (some ⟨k1, 0, none⟩)] w' (Ans (.bool (p y)) w')) :
  Calls Tryz.prog 43 #[.pointer (some ⟨th, 0, none⟩), (.func (.func 39) #[] #[.pointer (some ⟨k0, 0, none⟩), .pointer (some ⟨k1, 0, none⟩)])] w (Ans (.tuple #[It.val (foldD p t (false, It.zero)).2, .bool (foldD p t (false, It.zero)).1]) w) := by
 have HT := hid h
 have HIN := hid hin
 have HFV0 : Hid (Fv w It.zero ((w.alloc (.cells #[.int .u64 0, .int .u32 0, .int .u32 0, .int .i64 0, .int .u64 0, .int .u32 0, .int .u32 0] 35)).alloc (.cells #[.int .u64 0, .int .u32 0, .int .u32 0, .int .i64 0, .int .u64 0, .int .u32 0, .int .u32 0] 35))) := hid ⟨⟨It.zero, (Cs.new7 w 35 It.zero).alloc _⟩, by have := Cs.new7 (w.alloc (.cells #[.int .u64 0, .int .u32 0, .int .u32 0, .int .i64 0, .int .u64 0, .int .u32 0, .int .u32 0] 35)) 35 It.zero; simp only [World.size_alloc] at this; exact this, ((Below.refl w.heap.size w).alloc (Nat.le_refl _) (.cells #[.int .u64 0, .int .u32 0, .int .u32 0, .int .i64 0, .int .u64 0, .int .u32 0, .int .u32 0] 35)).alloc (by simp) (.cells #[.int .u64 0, .int .u32 0, .int .u32 0, .int .i64 0, .int .u64 0, .int .u32 0, .int .u32 0] 35)⟩
 obtain ⟨b1, b2, t0, t1, t2, _⟩ := HT.out.1
 have HE := hid (And.intro t0 (And.intro t1 t2))
 have e3 := keep1 HFV0.out.2.2 t0.at3
 clear t0 t1 t2 h hin
 go_enter Tryz.func43, Tryz.ntmps43
 go_wp2_with fail
 generalize ((w.alloc (.cells #[.int .u64 0, .int .u32 0, .int .u32 0, .int .i64 0, .int .u64 0, .int .u32 0, .int .u32 0] 35)).alloc (.cells #[.int .u64 0, .int .u32 0, .int .u32 0, .int .i64 0, .int .u64 0, .int .u32 0, .int .u32 0] 35)) = W0 at e3 HFV0 ⊢
 go_loopg [7, 8] t.size (fun s b u wr => ∃ (sm : Bool) (acc : It) (v : Tr It), b = .bool sm ∧ u = ptr v ∧ s = v.size ∧ foldD p v (sm, acc) = foldD p t (false, It.zero) ∧ acc.In ∧ DIn w v ∧ (∀ y ∈ v.list, y ∈ t.list) ∧ Fv w acc wr)
 case atStart => exact ⟨false, It.zero, t, rfl, rfl, rfl, rfl, It.zero_in, HT.out.2.1, fun y hy => hy, HFV0.out⟩
 case round =>
  obtain ⟨sm, acc, v, rfl, rfl, hs, hf, ha, hi, hm, hv⟩ := hrel
  have HS := hid hs
  have HF := hid hf
  have HI := hid hi
  have HM := hid hm
  have HFV := hid hv
  have HAI := hid ha
  have HC := hid (And.intro (HE.out.1.below hv.2.2) (And.intro (HE.out.2.1.below hv.2.2) (HE.out.2.2.below hv.2.2)))
  have e1 := HC.out.1.at1
  have e2 := HC.out.1.at2
  clear hs hf hi hm hv ha HFV0
  cases v with
  | nil =>
   simp only [ptr_nil]
   clear e1 e2
   have HF' : Hid (foldD p t (false, It.zero) = (sm, acc)) := hid (by rw [← HF.out]; rfl)
   obtain ⟨p0, p1, p2, p3, p4, p5, p6⟩ := It.at _ HFV.out.2.1
   have hth := there_it HFV.out.1
   have HAN := hid (answer_it (Nat.le_refl _) HFV.out.1 HFV.out.2.2 acc)
   go_wp2_with ((with_reducible refine wpList_put_it 35 infoItem rfl (.tmp 4) (.tmp 53) rfl w.heap.size 0 acc hth ?a1 ?a2 ?a3); (case a1 => rfl); (case a2 => rfl); (intro W2 hW2); (have HW := hid (HAN.out W2 hW2)); (clear hW2 hth p0 p1 p2 p3 p4 p5 p6); (obtain ⟨z0, z1, z2, z3, z4, z5, z6⟩ := HW.out.1))
   refine bodyPost_ret (v := .tuple #[It.val acc, .bool sm]) (by simp [results, Tryz.results43, go_sem, z0, z1, z2, z3, z4, z5, z6]) rfl ⟨by rw [HF'.out], HW.out.2⟩
  | node g cc l x r =>
   have HI2 := hid (HI.out.below HFV.out.2.2)
   obtain ⟨⟨v', hv', hc⟩, hl, _⟩ := HI2.out
   have HXI := hid hv'.2.2
   have HBI := hid (bestL_in hl hv'.2.2)
   obtain ⟨⟨vw, hvw, hcw⟩, _⟩ := HI.out
   have HC3w := hid hcw.nd3
   obtain ⟨p0, p1, p2, p3, p4, p5, p6⟩ := hc.th
   have c2 := hc.nd2
   clear hc hv' hl hvw hcw
   simp only [ptr_node]
   go_wp2_with fail
   refine (HIN.out x _ (HM.out x (by simp [Tr.list])) HXI.out HFV.out.2.2).mono ?_
   rintro e w1 ⟨rfl, hb1⟩
   have HB1 := hid hb1
   have e2 := keep1 hb1 e2
   have c2 := keep1 hb1 c2
   clear hb1 p0 p1 p2 p3 p4 p5 p6 e1
   cases hx : p x with
   | false =>
    have HX := hid hx
    clear hx e2
    go_wp2_with fail
    go_roundg l.size
    case measure => have := HS.out; simp only [Tr.size] at this; omega
    case rel => exact ⟨sm, acc, l, rfl, rfl, rfl, by rw [← HF.out, foldD, if_neg (by rw [HX.out]; simp)], HAI.out, HI.out.2.1, fun y hy => HM.out y (by simp [Tr.list, hy]), HFV.out.below HB1.out⟩
   | true =>
    have HX := hid hx
    clear hx c2
    go_wp2_with fail
    refine (Dt.upTo g b1 b2 cc l r x _ (HI2.out.st.below HB1.out) (HC.out.2.1.below HB1.out) (HC.out.2.2.below HB1.out)).mono ?_
    rintro e w2' ⟨rfl, hb2⟩
    have hb3 := (below_on HB1.out hb2).alloc (below_on HB1.out hb2).size (.cells #[.int .u64 (bestL l x).t, .int .u32 (bestL l x).r, .int .u32 (bestL l x).v, .int .i64 (bestL l x).i, .int .u64 (bestL l x).u, .int .u32 (bestL l x).s, .int .u32 (bestL l x).y] 35)
    have HB3 := hid hb3
    have HPT0 : Hid (Cs (w2'.alloc (.cells #[.int .u64 (bestL l x).t, .int .u32 (bestL l x).r, .int .u32 (bestL l x).v, .int .i64 (bestL l x).i, .int .u64 (bestL l x).u, .int .u32 (bestL l x).s, .int .u32 (bestL l x).y] 35)) w2'.heap.size (bestL l x).cells) := hid (Cs.new7 _ _ _)
    have HBP : Hid (w.heap.size + 1 < w2'.heap.size) := hid (Nat.lt_of_lt_of_le HFV.out.2.1.lt7 (below_on HB1.out hb2).size)
    clear hb2 hb3 e2
    have HNEW : Hid (∀ k, k = (if sm then sooner acc (bestL l x) else bestL l x) → foldD p r (true, k) = foldD p t (false, It.zero)) := hid (fun k hk => by rw [← HF.out, foldD, if_pos HX.out, hk])
    cases sm with
    | false =>
     have hth := (HFV.out.below HB3.out).2.1.there7
     have HST := hid ((HFV.out.below HB3.out).store (bestL l x))
     go_wp2_with ((with_reducible refine wpList_put_it 35 infoItem rfl (.tmp 6) (.tmp 48) rfl (w.heap.size + 1) 0 (bestL l x) hth ?b1 ?b2 ?b3); (case b1 => rfl); (case b2 => rfl); (intro W2 hW2); (have HW := hid (HST.out W2 hW2)); (clear hW2 hth); (have q3 := keep1 HW.out.2.2 HC3w.out))
     go_roundg r.size
     case measure => have := HS.out; simp only [Tr.size] at this; omega
     case rel => exact ⟨true, bestL l x, r, rfl, rfl, rfl, HNEW.out _ rfl, HBI.out, HI.out.2.2, fun y hy => HM.out y (by simp [Tr.list, hy]), HW.out⟩
    | true =>
     go_wp2_with fail
     generalize hbp : w2'.heap.size = bp at HPT0 HBP ⊢
     generalize (w2'.alloc (.cells #[.int .u64 (bestL l x).t, .int .u32 (bestL l x).r, .int .u32 (bestL l x).v, .int .i64 (bestL l x).i, .int .u64 (bestL l x).u, .int .u32 (bestL l x).s, .int .u32 (bestL l x).y] 35)) = w2 at HB3 HPT0 ⊢
     clear hbp
     have HQJ := hid (keep1 HB3.out HC.out.1.at1)
     have HFV2 := hid (HFV.out.below HB3.out)
     have HPT := hid HPT0.out.th7
     refine wp_region_steady (S := Bl w2) 7 (by kernel_rfl) (Bl.drew w2) ?_
     refine tV 0 ?_
     try simp only [tdy]
     refine tV 1 ?_
     try simp only [tdy]
     refine tV 2 ?_
     try simp only [tdy]
     refine tU 3 (v := ?_) rfl (by kernel_rfl) (fun _ _ _ h => h) (by rfl) ?_ ?_
     rotate_left
     ·intro wq hSw
      have hSB : Below _ _ _ := hSw
      have q1 := keep1 hSB HQJ.out
      obtain ⟨p0, p1, p2, p3, p4, p5, p6⟩ := It.at _ (HFV2.out.2.1.below hSB)
      obtain ⟨m0, m1, m2, m3, m4, m5, m6⟩ := HPT.out.below hSB
      go_simp; try with_reducible rfl
     try simp only [tdy]
     refine tU 4 (v := ?_) rfl (by kernel_rfl) (fun _ _ _ h => h) (by rfl) ?_ ?_
     rotate_left
     ·intro wq hSw
      have hSB : Below _ _ _ := hSw
      have q1 := keep1 hSB HQJ.out
      obtain ⟨p0, p1, p2, p3, p4, p5, p6⟩ := It.at _ (HFV2.out.2.1.below hSB)
      obtain ⟨m0, m1, m2, m3, m4, m5, m6⟩ := HPT.out.below hSB
      go_simp; try with_reducible rfl
     try simp only [tdy]
     refine tU 5 (v := ?_) rfl (by kernel_rfl) (fun _ _ _ h => h) (by rfl) ?_ ?_
     rotate_left
     ·intro wq hSw
      have hSB : Below _ _ _ := hSw
      have q1 := keep1 hSB HQJ.out
      obtain ⟨p0, p1, p2, p3, p4, p5, p6⟩ := It.at _ (HFV2.out.2.1.below hSB)
      obtain ⟨m0, m1, m2, m3, m4, m5, m6⟩ := HPT.out.below hSB
      go_simp; try with_reducible rfl
     try simp only [tdy]
     refine wpAnyU_take (i := 6) (v := It.val (sooner acc (bestL l x))) rfl (by kernel_rfl) (by kernel_rfl) (by kernel_rfl) (by kernel_rfl) (fun _ _ _ h => h) (Or.inl ⟨by rfl, fun wq hSw => ?_⟩) ?_
     ·refine SteadyRun.of_calls (Dtree.join acc (bestL l x) HAI.out HBI.out wq) (by go_simp) ?_
      rintro e wr ⟨rfl, hb⟩
      exact ⟨rfl, hSw.on hb⟩
     try simp only [tdy]
     refine wpAnyU_last rfl rfl (by kernel_rfl) (fun wz hSz => ?_)
     have hth9 := (HPT0.out.below hSz).there7
     have HAN9 : Hid (∀ W, W = wz.setCells bp 0 (sooner acc (bestL l x)).cells → Cs W bp (sooner acc (bestL l x)).cells ∧ Fv w acc W) := hid (fun W e => by rw [e]; exact ⟨(HPT0.out.below hSz).stored _, (HFV2.out.below hSz).other HBP.out _⟩)
     clear hSz
     go_wp2_with (first | ((with_reducible refine wpList_put_it 35 infoItem rfl (.tmp 9) (.tmp 47) rfl bp 0 (sooner acc (bestL l x)) hth9 ?c1 ?c2 ?c3); (case c1 => rfl); (case c2 => rfl); (intro W2 hW2); (have HW := hid (HAN9.out W2 hW2)); (clear hW2 hth9); (obtain ⟨p0, p1, p2, p3, p4, p5, p6⟩ := It.at _ HW.out.1); (have hth := HW.out.2.2.1.there7); (have HST := hid (HW.out.2.store (sooner acc (bestL l x))))) | (with_reducible refine wpList_put_it 35 infoItem rfl (.tmp 6) (.tmp 48) rfl (w.heap.size + 1) 0 (sooner acc (bestL l x)) hth ?d1 ?d2 ?d3); (case d1 => rfl); (case d2 => rfl); (intro W3 hW3); (have HY := hid (HST.out W3 hW3)); (clear hW3 hth p0 p1 p2 p3 p4 p5 p6); (have q3 := keep1 HY.out.2.2 HC3w.out))
     go_roundg r.size
     case measure => have := HS.out; simp only [Tr.size] at this; omega
     case rel => exact ⟨true, sooner acc (bestL l x), r, rfl, rfl, rfl, HNEW.out _ rfl, sooner_in HAI.out HBI.out, HI.out.2.2, fun y hy => HM.out y (by simp [Tr.list, hy]), HY.out⟩
end
theorem Dtree.soonestTold (th : Nat) (k0 : Nat) (k1 : Nat) (t : Tr It) (p : It → Bool) (w : World) (h : DTreeAt w th t)
  (hin : ∀ (y : It) (w' : World), y ∈ t.list → y.In → Below w.heap.size w w' → Calls Tryz.prog 39 #[y.val, .pointer (some ⟨k0, 0, none⟩), .pointer (some ⟨k1, 0, none⟩)] w' (Ans (.bool (p y)) w')) :
  Calls Tryz.prog 21 #[.agg #[.pointer (some ⟨th, 0, none⟩)], (.func (.func 39) #[] #[.pointer (some ⟨k0, 0, none⟩), .pointer (some ⟨k1, 0, none⟩)])] w (Ans (.tuple #[It.val (foldD p t (false, It.zero)).2, .bool (foldD p t (false, It.zero)).1]) w) := by
 have hb0 := ((Below.refl w.heap.size w).alloc (Nat.le_refl _) (.cells #[.pointer (some ⟨th, 0, none⟩)] 27)).alloc (by simp) (.cells #[.int .u64 0, .int .u32 0, .int .u32 0, .int .i64 0, .int .u64 0, .int .u32 0, .int .u32 0] 35)
 have HT := hid (h.below hb0)
 have HB0 := hid hb0
 have HIN := hid hin
 have HZ : Hid (Cs ((w.alloc (.cells #[.pointer (some ⟨th, 0, none⟩)] 27)).alloc (.cells #[.int .u64 0, .int .u32 0, .int .u32 0, .int .i64 0, .int .u64 0, .int .u32 0, .int .u32 0] 35)) (w.heap.size + 1) It.zero.cells) := hid (by have := Cs.new7 (w.alloc (.cells #[.pointer (some ⟨th, 0, none⟩)] 27)) 35 It.zero; simp only [World.size_alloc] at this; exact this)
 clear h hin hb0
 go_enter Tryz.func21, Tryz.ntmps21
 go_wp2_with fail
 refine (Dt.foldTold th k0 k1 t p _ HT.out (fun y w' hy hyi hb => HIN.out y w' hy hyi (below_on HB0.out hb))).mono ?_
 rintro e w1 ⟨rfl, hb⟩
 have HZ2 : Hid (∃ z : It, Cs w1 (w.heap.size + 1) z.cells) := hid ⟨It.zero, HZ.out.below hb⟩
 obtain ⟨sm, acc, hq⟩ : ∃ sm acc, foldD p t (false, It.zero) = (sm, acc) := ⟨_, _, rfl⟩
 have HQ := hid hq
 rw [hq]
 have HAN := hid (answer_it (b := w.heap.size + 1) (by omega) HZ2.out (below_on HB0.out hb) acc)
 have hth := there_it HZ2.out
 clear hb hq
 go_wp2_with ((with_reducible refine wpList_put_it 35 infoItem rfl (.tmp 4) (.tmp 10) rfl (w.heap.size + 1) 0 acc hth ?s1 ?s2 ?s3); (case s1 => rfl); (case s2 => rfl); (intro W2 hW2); (have HW := hid (HAN.out W2 hW2)); (clear hW2 hth); (obtain ⟨z0, z1, z2, z3, z4, z5, z6⟩ := HW.out.1))
 refine bodyPost_ret (v := .tuple #[It.val acc, .bool sm]) (by simp [results, Tryz.results21, go_sem, z0, z1, z2, z3, z4, z5, z6]) rfl ⟨by rw [HQ.out], HW.out.2⟩
end


section
open Go.RowKit
theorem OwnI.there {w : World} {base g : Nat} {n c : Nat} {l : List It} (ho : OwnI w base (some ⟨g, 0, none⟩) n c l) (h0 : 0 < n) (j : Nat) (hj : j < n) : w.there g (0 + j * 7) 7 := fun i hi => by
 have hs := ho.len
 rw [Nat.zero_add]
 refine ⟨?_, ?_⟩
 ·have hc := ho.rdi.2 0 h0
  obtain ⟨b, off, e, _, hc⟩ := hc
  injection e with e
  injection e with e1 e2
  subst e1 e2
  have := (hc j hj)
  obtain ⟨c0, c1, c2, c3, c4, c5, c6⟩ := this
  rw [Nat.zero_add] at c0 c1 c2 c3 c4 c5 c6
  match i, hi with
  | 0, _ => rw [Nat.add_zero, c0]; rfl
  | 1, _ => rw [c1]; rfl
  | 2, _ => rw [c2]; rfl
  | 3, _ => rw [c3]; rfl
  | 4, _ => rw [c4]; rfl
  | 5, _ => rw [c5]; rfl
  | 6, _ => rw [c6]; rfl
 ·rcases ho.2 with ⟨hv, _⟩ | ⟨g', cap, cur, hv, _, hg, _⟩
  ·injection hv with e1; cases e1
  ·injection hv with e1
   injection e1 with e1
   injection e1 with e1
   subst e1
   simp [World.frozen?, hg]
theorem shk_set (f : It → It) : ∀ (l : List It) (k : Nat), k < l.length → ((l.take k).map f ++ l.drop k).set k (f (l.getD k It.zero)) = (l.take (k + 1)).map f ++ l.drop (k + 1)
 | [], k, h => absurd h (by simp)
 | a :: l, 0, _ => by simp
 | a :: l, k + 1, h => by
  have := shk_set f l k (by simpa using h)
  simpa using this
theorem shk_get (f : It → It) : ∀ (l : List It) (k : Nat), k < l.length → ((l.take k).map f ++ l.drop k).getD k It.zero = l.getD k It.zero
 | [], k, h => absurd h (by simp)
 | a :: l, 0, _ => by simp
 | a :: l, k + 1, h => by
  have := shk_get f l k (by simpa using h)
  simpa using this
theorem Tho.range {w : World} {b o : Nat} {x : It} (h : Tho w b o x) : w.rangeAt b o x.cells := fun j v hj => by
 obtain ⟨c0, c1, c2, c3, c4, c5, c6⟩ := h
 match j, hj with
 | 0, hj | 1, hj | 2, hj | 3, hj | 4, hj | 5, hj | 6, hj => simp [It.cells] at hj; subst hj; first | exact c0 | exact c1 | exact c2 | exact c3 | exact c4 | exact c5 | exact c6
 | n + 7, hj => simp [It.cells] at hj
theorem Tho.of_range {w : World} {b o : Nat} {x : It} (h : w.rangeAt b o x.cells) : Tho w b o x :=
 ⟨h 0 _ rfl, h 1 _ rfl, h 2 _ rfl, h 3 _ rfl, h 4 _ rfl, h 5 _ rfl, h 6 _ rfl⟩
def Hv (w : World) (A : Option Addr) (n : Nat) (L : List It) (wr : World) : Prop :=
 RdI wr A n L ∧ (0 < n → ∃ b off, A = some ⟨b, off, none⟩ ∧ w.heap.size + 2 ≤ b ∧ ∀ j, j < n → wr.there b (off + j * 7) 7) ∧ Cs wr (w.heap.size + 1) [.pointer none] ∧ Below w.heap.size w wr
theorem there_below {w w' : World} {b o n : Nat} (h : w.there b o n) (hb : Below w.heap.size w w') : w'.there b o n := fun j hj => by
 obtain ⟨h1, h2⟩ := h j hj
 obtain ⟨v, hv⟩ := Option.isSome_iff_exists.1 h1
 have := keep1 hb hv
 exact ⟨by rw [this]; rfl, (hb.frozen (p := ⟨b, o + j, none⟩) (World.block_lt_of_cell? w _ hv)).trans h2⟩
theorem Hv.below {w w1 w2 : World} {A : Option Addr} {n : Nat} {L : List It} (h : Hv w A n L w1) (hb : Below w1.heap.size w1 w2) : Hv w A n L w2 :=
 ⟨h.1.below hb, fun h0 => by
  obtain ⟨b, off, e, hl, ht⟩ := h.2.1 h0
  exact ⟨b, off, e, hl, fun j hj => there_below (ht j hj) hb⟩, h.2.2.1.below hb, below_on h.2.2.2 hb⟩
theorem Hv.put {w w1 : World} {b off n k : Nat} {L : List It} (h : Hv w (some ⟨b, off, none⟩) n L w1) (hk : k < n) (x : It) : ∀ W, W = w1.setCells b (off + k * 7) x.cells → Hv w (some ⟨b, off, none⟩) n (L.set k x) W := fun W e => by
 obtain ⟨h1, h2, h3, h4⟩ := h
 obtain ⟨b', off', e', hl, ht⟩ := h2 (by omega)
 injection e' with e'
 injection e' with e1 e2
 subst e1 e2
 subst e
 have hlen := h1.1
 refine ⟨⟨by rw [List.length_set]; exact hlen, fun i hi => ?_⟩, fun h0 => ⟨b, off, rfl, hl, fun j hj => World.there_setCells (ht j hj) _ _ _⟩, h3.fars (by omega) _ _, below_sets (by omega) _ _ h4⟩
 obtain ⟨b', off', e', hb', hc⟩ := h1.2 i hi
 injection e' with e'
 injection e' with e1 e2
 subst e1 e2
 refine ⟨b, off, rfl, Nat.lt_of_lt_of_le hb' (below_sets (B := 0) (b := b) (w0 := w1) (Nat.zero_le _) x.cells (off + k * 7) (w := w1) (Below.refl 0 w1)).size, fun j hj => ?_⟩
 by_cases hjk : j = k
 ·subst hjk
  have e : (L.set j x).getD j It.zero = x := by simp [List.getD, hlen, hj]
  rw [e]
  exact Tho.of_range (World.rangeAt_setCells_same w1 b _ x.cells (ht j hj))
 ·have e : (L.set k x).getD j It.zero = L.getD j It.zero := by simp [List.getD, List.getElem?_set_ne (Ne.symm hjk)]
  rw [e]
  refine Tho.of_range (World.rangeAt_setCells_apart (hc j hj).range b _ x.cells (Or.inr ?_))
  rw [It.cells_length, It.cells_length]
  omega
set_option maxRecDepth 100000 in
set_option maxHeartbeats 4000000 in
theorem Dtree.shift (th : Nat) (t : Tr It) (d : Int) (w : World) (h : DTreeAt w th t) (hin : InI t.list) (hn : t.list.length ≤ 60) :
  Calls Tryz.prog 18 #[.agg #[.pointer (some ⟨th, 0, none⟩)], .int .u64 d] w (DNew (t.list.map (It.shift d)) w) := by
 have hb0 := ((Below.refl w.heap.size w).alloc (Nat.le_refl _) (.cells #[.pointer (some ⟨th, 0, none⟩)] 27)).alloc (by simp) (.cells #[.pointer none] 27)
 have HT := hid (h.below hb0)
 have HB0 := hid hb0
 have HIN := hid hin
 have HZ : Hid (Cs ((w.alloc (.cells #[.pointer (some ⟨th, 0, none⟩)] 27)).alloc (.cells #[.pointer none] 27)) (w.heap.size + 1) [.pointer none]) := hid (by have := Cs.alloc_new (w.alloc (.cells #[.pointer (some ⟨th, 0, none⟩)] 27)) 27 [.pointer none]; simp only [World.size_alloc] at this; exact this)
 clear h hin hb0
 go_enter Tryz.func18, Tryz.ntmps18
 go_wp2_with fail
 refine (Dt.all th t _ HT.out (by omega)).mono ?_
 rintro e w1 ⟨A, n, c, rfl, ho, hb, _, _⟩
 have hnl : n ≤ 60 := by have := ho.len; omega
 have HLN : Hid (t.list.length = n) := hid ho.len
 have HH0 : Hid (Hv w A n t.list w1) := hid ⟨ho.rdi, fun h0 => by
  obtain ⟨g, cap, hv, hge, hlt⟩ := ho.form h0
  have hA : A = some ⟨g, 0, none⟩ := by injection hv
  refine ⟨g, 0, hA, by simpa using hge, fun j hj => ?_⟩
  subst hA
  exact ho.there h0 j hj, HZ.out.below hb, below_on HB0.out hb⟩
 clear ho hb HZ HT HB0
 go_wp2_with fail
 go_loopg [17] n (fun s a17 wr => ∃ k : Nat, a17 = .int .i64 k ∧ k ≤ n ∧ s = n - k ∧ Hv w A n ((t.list.take k).map (It.shift d) ++ t.list.drop k) wr)
 case atStart => exact ⟨0, rfl, Nat.zero_le _, by omega, by simpa using HH0.out⟩
 case round =>
  obtain ⟨k, rfl, hk, hs, hh⟩ := hrel
  have HS := hid hs
  have HH := hid hh
  clear hs hh HH0
  by_cases hkn : k < n
  ·obtain ⟨bb, off, hA, _, hc⟩ := HH.out.1.2 0 (by omega)
   have hc1 := hc k hkn
   rw [shk_get (It.shift d) t.list k (by have := HLN.out; omega)] at hc1
   obtain ⟨p0, p1, p2, p3, p4, p5, p6⟩ := hc1
   have HST := hid (shk_set (It.shift d) t.list k (by have := HLN.out; omega))
   generalize t.list.getD k It.zero = x at *
   subst hA
   have hki : (k : Int) < n := by omega
   have hk0 : (0 : Int) ≤ k := by omega
   clear hc
   have HHa := hid (HH.out.below ((Below.refl wr.heap.size wr).alloc (Nat.le_refl _) (.cells #[.int .u64 x.t, .int .u32 x.r, .int .u32 x.v, .int .i64 x.i, .int .u64 x.u, .int .u32 x.s, .int .u32 x.y] 35)))
   go_wp2_with fail
   refine (Item.shift x d _).mono ?_
   rintro e w2 ⟨rfl, hb⟩
   have HH2 := hid (HHa.out.below hb)
   have HPT := hid (HH2.out.put hkn (It.shift d x))
   have hth : w2.there bb (off + k * 7) 7 := by
    obtain ⟨b', off', e', _, ht⟩ := HH2.out.2.1 (by omega)
    injection e' with e'
    injection e' with e1 e2
    subst e1 e2
    exact ht k hkn
   clear hb HHa p0 p1 p2 p3 p4 p5 p6
   go_wp2_with ((with_reducible refine wpList_put_it 35 infoItem rfl (.tmp 27) (.tmp 26) rfl bb (off + k * 7) (It.shift d x) hth ?s1 ?s2 ?s3); (case s1 => rfl); (case s2 => rfl); (intro W2 hW2); (have HW := hid (HPT.out W2 hW2)); (clear hW2 hth))
   go_roundg (n - (k + 1))
   case measure => have := HS.out; omega
   case rel => exact ⟨k + 1, by go_num, by omega, rfl, by have := HW.out; rw [HST.out] at this; exact this⟩
  ·obtain rfl : k = n := by omega
   have hki : ¬ (k : Int) < k := by omega
   have he : (t.list.take k).map (It.shift d) ++ t.list.drop k = t.list.map (It.shift d) := by
    rw [List.take_of_length_le (by have := HLN.out; omega), List.drop_of_length_le (by have := HLN.out; omega), List.append_nil]
   have hH := HH.out
   rw [he] at hH
   have HHf := hid hH
   have HII : Hid (InI (t.list.map (It.shift d))) := hid (fun y hy => by
    obtain ⟨z, hz, rfl⟩ := List.mem_map.1 hy
    exact It.shift_in d (HIN.out z hz))
   clear he hH HH
   go_wp2_with fail
   refine (Dtree.new A k c (t.list.map (It.shift d)) _ HHf.out.1 HII.out (by omega)).mono ?_
   rintro e w2 ⟨th', t', rfl, hbt, hg⟩
   have HQ := hid hbt
   have hsz := HHf.out.2.2.1.lt
   have hcs := HHf.out.2.2.1.below hg.2.2.2
   have HG : Hid (DTreeAt w2 th' t' ∧ (∀ g ∈ th' :: t'.blocks, g ≠ w.heap.size + 1 ∧ w.heap.size ≤ g) ∧ Cs w2 (w.heap.size + 1) [.pointer none] ∧ Below w.heap.size w w2) := hid ⟨hg.1, fun g hg' => by
    rcases List.mem_cons.1 hg' with rfl | h1
    ·have := hg.2.1; exact ⟨by omega, by omega⟩
    ·have := hg.2.2.1 g h1; exact ⟨by omega, by omega⟩, hcs, below_on HHf.out.2.2.2 hg.2.2.2⟩
   have q1 := hcs.at0
   have q2 := hcs.fr0
   clear hbt hg hsz hcs
   have HFIN : Hid (∀ W, W = w2.setCell ⟨w.heap.size + 1, 0, none⟩ (.pointer (some ⟨th', 0, none⟩)) → Gd w th' t' W ∧ W.cell? ⟨w.heap.size + 1, 0, none⟩ = some (.pointer (some ⟨th', 0, none⟩))) := hid (by
    intro W e
    obtain ⟨h1, h7, h5, h4⟩ := HG.out
    have hch : Chg [w.heap.size + 1] w2 W := by rw [e]; exact (Chg.refl _ _).set (Or.inl (by simp)) _ _
    refine ⟨⟨⟨DEnv.far1 h1.1 h5 ⟨_, rfl⟩ (h7 th' (by simp)).1 e, DIn.far1 h1.2.1 e (fun hm => (h7 _ (by simp [hm])).1 rfl), h1.2.2⟩, (h7 th' (by simp)).2, fun g hg => (h7 g (by simp [hg])).2, h4.trans (hch.toBelow h4.size (fun g hg => by simp at hg; omega))⟩, by rw [e]; exact World.cell?_setCell_same _ _ _ q1⟩)
   go_wp2_with fail
   have HF2 := hid (HFIN.out _ rfl)
   clear HFIN q1 q2
   generalize w2.setCell ⟨w.heap.size + 1, 0, none⟩ (.pointer (some ⟨th', 0, none⟩)) = W9 at HF2 ⊢
   have q := HF2.out.2
   refine bodyPost_ret (v := .agg #[.pointer (some ⟨th', 0, none⟩)]) (by simp [results, Tryz.results18, go_sem, q]) rfl ⟨th', t', rfl, HQ.out, HF2.out.1⟩
end


section
open Go.RowKit
set_option maxRecDepth 100000
set_option maxHeartbeats 32000000
inductive Tr.SameI : Tr It → Tr It → Prop
 | nil : Tr.SameI .nil .nil
 | node {g h : Nat} {c : Bool} {l r l' r' : Tr It} {x : It} : Tr.SameI l l' → Tr.SameI r r' → Tr.SameI (.node g c l x r) (.node h c l' x r')
theorem Tr.SameI.list {t t' : Tr It} (h : Tr.SameI t t') : t'.list = t.list := by
 induction h with
 | nil => rfl
 | node _ _ ihl ihr => simp only [Tr.list, ihl, ihr]
theorem Tr.SameI.red {t t' : Tr It} (h : Tr.SameI t t') : t'.red = t.red := by cases h <;> rfl
theorem Tr.SameI.v {t t' : Tr It} (h : Tr.SameI t t') : ∀ k, Tr.V t k → Tr.V t' k := by
 induction h with
 | nil => intro k hk; exact hk
 | @node g h c l r l' r' x hl hr ihl ihr =>
  intro k hk
  cases c with
  | true => exact ⟨ihl _ hk.1, ihr _ hk.2.1, by rw [hl.red]; exact hk.2.2.1, by rw [hr.red]; exact hk.2.2.2⟩
  | false =>
   obtain ⟨j, rfl, v1, v2, v3⟩ := hk
   exact ⟨j, rfl, ihl _ v1, ihr _ v2, by rw [hr.red]; exact v3⟩
theorem Tr.SameI.whole {t t' : Tr It} (h : Tr.SameI t t') (hw : t.Whole) : t'.Whole := ⟨by rw [h.red]; exact hw.1, by obtain ⟨k, hk⟩ := hw.2; exact ⟨k, h.v k hk⟩⟩
theorem nd_at {w : World} {g : Nat} {x m : It} {l r : Value} {c : Bool} (h : Cs w g (nd x m l r c)) : w.cell? ⟨g, 0, none⟩ = some (.int .u64 x.t) ∧ w.cell? ⟨g, 1, none⟩ = some (.int .u32 x.r) ∧ w.cell? ⟨g, 2, none⟩ = some (.int .u32 x.v) ∧ w.cell? ⟨g, 3, none⟩ = some (.int .i64 x.i) ∧ w.cell? ⟨g, 4, none⟩ = some (.int .u64 x.u) ∧ w.cell? ⟨g, 5, none⟩ = some (.int .u32 x.s) ∧ w.cell? ⟨g, 6, none⟩ = some (.int .u32 x.y) :=
 ⟨(h 0 _ rfl).1, (h 1 _ rfl).1, (h 2 _ rfl).1, (h 3 _ rfl).1, (h 4 _ rfl).1, (h 5 _ rfl).1, (h 6 _ rfl).1⟩
def CpR (B : Nat) (t t' : Tr It) (w : World) : Prop := Tr.SameI t t' ∧ DIn w t' ∧ t'.blocks.Nodup ∧ ∀ g ∈ t'.blocks, B ≤ g ∧ g < w.heap.size
theorem CpR.st (B : Nat) (t t' : Tr It) : Stays (CpR B t t') := fun _ _ h hb => ⟨h.1, h.2.1.below hb, h.2.2.1, fun g hg => ⟨(h.2.2.2 g hg).1, Nat.lt_of_lt_of_le (h.2.2.2 g hg).2 hb.size⟩⟩
def CpQ (B : Nat) (l1 t t' : Tr It) (w : World) : Prop := CpR B t t' w ∧ ∀ g ∈ t'.blocks, g ∉ l1.blocks
theorem CpQ.st (B : Nat) (l1 t t' : Tr It) : Stays (CpQ B l1 t t') := fun _ _ h hb => ⟨CpR.st B t t' _ _ h.1 hb, h.2⟩
def CopiedI (t : Tr It) (w : World) (e : Ending) (w' : World) : Prop := ∃ t', e = .returned (ptr t') ∧ Tr.SameI t t' ∧ DIn w' t' ∧ Below w.heap.size w w' ∧ t'.blocks.Nodup ∧ ∀ g ∈ t'.blocks, w.heap.size ≤ g
theorem Dt.copied (th : Nat) (rt : Value) (n : Int) (t : Tr It) : ∀ w, DIn w t → t.list.length ≤ 900000 → DEnv w th rt n →
  Calls Tryz.prog 59 #[.pointer (some ⟨th, 0, none⟩), ptr t] w (CopiedI t w) := by
 induction t with
 | nil =>
  intro w _ _ _
  simp only [ptr_nil]
  go_enter Tryz.func59, Tryz.ntmps59
  go_wp2_with fail
  go_ret
  exact ⟨.nil, rfl, .nil, trivial, Below.refl _ _, List.nodup_nil, fun g hg => by simp [Tr.blocks] at hg⟩
 | node g c l x r ihl ihr =>
  intro w h hn he
  have HI := hid h
  have HE := hid he
  have IL := hid ihl
  have IR := hid ihr
  have HXI : Hid x.In := hid (by obtain ⟨⟨v, hv, _⟩, _⟩ := h; exact hv.2.2)
  simp only [Tr.list, List.length_append, List.length_cons] at hn
  have n1 : l.list.length ≤ 900000 := by omega
  have n2 : r.list.length ≤ 900000 := by omega
  have HN := hid hn
  clear he ihl ihr hn h
  simp only [ptr_node]
  go_enter Tryz.func59, Tryz.ntmps59
  go_upto_region 3 with fail
  have hsT1 : Stays (fun wx => (DIn wx (.node g c l x r) ∧ DEnv wx th rt n) ∧ Below w.heap.size w wx) := fun _ _ h hb => ⟨⟨h.1.1.below hb, h.1.2.below hb⟩, below_on h.2 hb⟩
  refine wp_region_grow (S := fun wx => (DIn wx (.node g c l x r) ∧ DEnv wx th rt n) ∧ Below w.heap.size w wx) 20 (by kernel_rfl) (hsT1 _ _ (⟨⟨HI.out, HE.out⟩, Below.refl _ _⟩) (Below.refl _ _).drew) ?_
  refine tF 0 (hsT1) (fun _ h => h) ?_
  try simp only [tdy]
  refine tF 1 (hsT1) (fun _ h => h) ?_
  try simp only [tdy]
  refine tF 2 (hsT1) (fun _ h => h) ?_
  try simp only [tdy]
  refine tE 3 (v := ?_) (hsT1) (fun _ h => h) rfl (by kernel_rfl) (by rfl) ?_ ?_
  rotate_left
  ·intro wq hSw
   obtain ⟨⟨v, hv, hc⟩, _, _⟩ := hSw.1.1
   obtain ⟨x0, x1, x2, x3, x4, x5, x6⟩ := nd_at hc
   have c2 := hc.nd2
   have c3 := hc.nd3
   have c4 := hc.nd4
   go_simp; try with_reducible rfl
  try simp only [tdy]
  refine tF 4 (hsT1) (fun _ h => h) ?_
  try simp only [tdy]
  refine tF 5 (hsT1) (fun _ h => h) ?_
  try simp only [tdy]
  refine tF 6 (hsT1) (fun _ h => h) ?_
  try simp only [tdy]
  refine tE 7 (v := ?_) (hsT1) (fun _ h => h) rfl (by kernel_rfl) (by rfl) ?_ ?_
  rotate_left
  ·intro wq hSw
   obtain ⟨⟨v, hv, hc⟩, _, _⟩ := hSw.1.1
   obtain ⟨x0, x1, x2, x3, x4, x5, x6⟩ := nd_at hc
   have c2 := hc.nd2
   have c3 := hc.nd3
   have c4 := hc.nd4
   go_simp; try with_reducible rfl
  try simp only [tdy]
  refine tF 8 (hsT1) (fun _ h => h) ?_
  try simp only [tdy]
  refine tF 9 (hsT1) (fun _ h => h) ?_
  try simp only [tdy]
  refine tF 10 (hsT1) (fun _ h => h) ?_
  try simp only [tdy]
  refine tF 11 (hsT1) (fun _ h => h) ?_
  try simp only [tdy]
  refine tE 12 (v := ?_) (hsT1) (fun _ h => h) rfl (by kernel_rfl) (by rfl) ?_ ?_
  rotate_left
  ·intro wq hSw
   obtain ⟨⟨v, hv, hc⟩, _, _⟩ := hSw.1.1
   obtain ⟨x0, x1, x2, x3, x4, x5, x6⟩ := nd_at hc
   have c2 := hc.nd2
   have c3 := hc.nd3
   have c4 := hc.nd4
   go_simp; try with_reducible rfl
  try simp only [tdy]
  refine tF 14 (hsT1) (fun _ h => h) ?_
  try simp only [tdy]
  refine tF 15 (hsT1) (fun _ h => h) ?_
  try simp only [tdy]
  refine tF 16 (hsT1) (fun _ h => h) ?_
  try simp only [tdy]
  refine tF 17 (hsT1) (fun _ h => h) ?_
  try simp only [tdy]
  refine tE 18 (v := ?_) (hsT1) (fun _ h => h) rfl (by kernel_rfl) (by rfl) ?_ ?_
  rotate_left
  ·intro wq hSw
   obtain ⟨⟨v, hv, hc⟩, _, _⟩ := hSw.1.1
   obtain ⟨x0, x1, x2, x3, x4, x5, x6⟩ := nd_at hc
   have c2 := hc.nd2
   have c3 := hc.nd3
   have c4 := hc.nd4
   go_simp; try with_reducible rfl
  try simp only [tdy]
  refine wpAnyE_call (i := 13) (fun y : Tr It => ptr y) (fun y wx => CpR w.heap.size l y wx) rfl (by kernel_rfl) (by decide) (by rfl) (hsT1) (fun _ h => h) (fun yq => CpR.st w.heap.size l yq) (fun wq hSw => ?_) (fun yq => ?_)
  ·exact RunI.of_calls (IL.out wq hSw.1.1.2.1 n1 hSw.1.2) (by go_simp) (fun e w' h => by
    obtain ⟨t', he, h1, h2, hb, h3, h4⟩ := h
    exact ⟨t', he, ⟨h1, h2, h3, fun g hg => ⟨Nat.le_trans hSw.2.size (h4 g hg), (h2.nl g hg).lt⟩⟩, hb⟩)
  obtain yq := yq
  revert yq; intro l1; try dsimp only
  try simp only [tdy]
  refine wpAnyE_call (i := 19) (fun y : Tr It => ptr y) (fun y wx => CpQ w.heap.size l1 r y wx) rfl (by kernel_rfl) (by decide) (by rfl) (Stays.and_ (hsT1) (CpR.st w.heap.size l l1)) (fun _ h => h.1) (fun yq => CpQ.st w.heap.size l1 r yq) (fun wq hSw => ?_) (fun yq => ?_)
  ·exact RunI.of_calls (IR.out wq hSw.1.1.1.2.2 n2 hSw.1.1.2) (by go_simp) (fun e w' h => by
    obtain ⟨t', he, h1, h2, hb, h3, h4⟩ := h
    exact ⟨t', he, ⟨⟨h1, h2, h3, fun g hg => ⟨Nat.le_trans hSw.1.2.size (h4 g hg), (h2.nl g hg).lt⟩⟩, fun g hg hm => by have := (hSw.2.2.2.2 g hm).2; have := h4 g hg; omega⟩, hb⟩)
  obtain yq := yq
  revert yq; intro r1; try dsimp only
  try simp only [tdy]
  refine wpAnyE_rest (n := 20) rfl rfl (by kernel_rfl) (fun wz hSz => ?_)
  simp only [List.toList_toArray, List.drop_succ_cons, List.drop_zero]
  have HZ := hid hSz
  clear hSz
  obtain ⟨u2, hu2⟩ := ptr_formD l1
  obtain ⟨u3, hu3⟩ := ptr_formD r1
  have HU2 := hid hu2
  have HU3 := hid hu3
  rw [hu2, hu3]
  clear hu2 hu3
  have hal := (Below.refl wz.heap.size wz).alloc (Nat.le_refl _) (.cells #[.int .u64 x.t, .int .u32 x.r, .int .u32 x.v, .int .i64 x.i, .int .u64 x.u, .int .u32 x.s, .int .u32 x.y, .int .u64 0, .int .u32 0, .int .u32 0, .int .i64 0, .int .u64 0, .int .u32 0, .int .u32 0, .pointer u2, .pointer u3, .bool c] 73)
  have HB4 := hid (below_on HZ.out.1.1.2 hal)
  have HST : Hid (DSt (wz.alloc (.cells #[.int .u64 x.t, .int .u32 x.r, .int .u32 x.v, .int .i64 x.i, .int .u64 x.u, .int .u32 x.s, .int .u32 x.y, .int .u64 0, .int .u32 0, .int .u32 0, .int .i64 0, .int .u64 0, .int .u32 0, .int .u32 0, .pointer u2, .pointer u3, .bool c] 73)) (.node wz.heap.size c l1 x r1)) := hid ⟨⟨It.zero, It.zero_in, HXI.out, by rw [HU2.out, HU3.out]; exact Cs.alloc_new wz 73 [.int .u64 x.t, .int .u32 x.r, .int .u32 x.v, .int .i64 x.i, .int .u64 x.u, .int .u32 x.s, .int .u32 x.y, .int .u64 0, .int .u32 0, .int .u32 0, .int .i64 0, .int .u64 0, .int .u32 0, .int .u32 0, .pointer u2, .pointer u3, .bool c]⟩, HZ.out.1.2.2.1.below hal, HZ.out.2.1.2.1.below hal⟩
  have HND : Hid ((Tr.node wz.heap.size c l1 x r1).blocks.Nodup) := hid (by
   refine List.nodup_cons.2 ⟨fun hm => ?_, List.nodup_append.2 ⟨HZ.out.1.2.2.2.1, HZ.out.2.1.2.2.1, fun a ha b hb e => ?_⟩⟩
   ·rcases List.mem_append.1 hm with hm | hm
    ·exact Nat.lt_irrefl _ (HZ.out.1.2.2.2.2 _ hm).2
    ·exact Nat.lt_irrefl _ (HZ.out.2.1.2.2.2 _ hm).2
   ·subst e
    exact HZ.out.2.2 _ hb ha)
  have HLN : Hid ((Tr.node wz.heap.size c l1 x r1).list.length ≤ 900000) := hid (by
   have := HN.out
   simp only [Tr.list, List.length_append, List.length_cons, HZ.out.1.2.1.list, HZ.out.2.1.1.list]
   omega)
  have HEN := hid (HZ.out.1.1.1.2.below hal)
  have HSZ : Hid (w.heap.size ≤ wz.heap.size) := hid HZ.out.1.1.2.size
  clear hal
  go_upto_region 4 with fail
  generalize (wz.alloc (.cells #[.int .u64 x.t, .int .u32 x.r, .int .u32 x.v, .int .i64 x.i, .int .u64 x.u, .int .u32 x.s, .int .u32 x.y, .int .u64 0, .int .u32 0, .int .u32 0, .int .i64 0, .int .u64 0, .int .u32 0, .int .u32 0, .pointer u2, .pointer u3, .bool c] 73)) = W4 at HB4 HST HEN ⊢
  go_wp2_with fail
  refine (Dt.count th wz.heap.size c l1 r1 x rt n _ HST.out HND.out HLN.out HEN.out).mono ?_
  rintro e w4 ⟨rfl, hi, hw⟩
  have HI4 := hid hi
  have HW4 := hid hw
  clear hi hw
  go_wp2_with fail
  go_ret
  refine ⟨.node wz.heap.size c l1 x r1, rfl, .node HZ.out.1.2.1 HZ.out.2.1.1, HI4.out, HB4.out.trans (HW4.out.toBelow HB4.out.size (fun k hk => by simp at hk; subst hk; exact HSZ.out)), HND.out, fun k hk => ?_⟩
  rcases List.mem_cons.1 hk with rfl | hk
  ·exact HSZ.out
  ·rcases List.mem_append.1 hk with hk | hk
   ·exact (HZ.out.1.2.2.2.2 k hk).1
   ·exact (HZ.out.2.1.2.2.2 k hk).1
theorem cell_none_new (w : World) (c : Array Value) (ty : TypeId) {o : Nat} (h : c.size ≤ o) : (w.alloc (.cells c ty)).cell? ⟨w.heap.size, o, none⟩ = none := by
 have e : (w.alloc (.cells c ty)).heap[w.heap.size]? = some (.cells c ty (0, 0)) := by unfold World.alloc; exact Array.getElem?_push_size
 show (match (w.alloc (.cells c ty)).heap[w.heap.size]? with
  | some (.cells c _ _) => if (none : Option Nat).isSome then none else c[o]?
  | _ => none) = none
 rw [e]
 exact Array.getElem?_eq_none h
def ClonesI (t : Tr It) (w : World) (e : Ending) (w' : World) : Prop := ∃ th t', e = .returned (.pointer (some ⟨th, 0, none⟩)) ∧ Tr.SameI t t' ∧ DTreeAt w' th t' ∧ (∀ g ∈ th :: t'.blocks, w.heap.size ≤ g) ∧ Below w.heap.size w w'
theorem Dt.clone (th : Nat) (t : Tr It) (hn : t.list.length ≤ 900000) (w : World) (h : DTreeAt w th t) : Calls Tryz.prog 41 #[.pointer (some ⟨th, 0, none⟩)] w (ClonesI t w) := by
 have HG := hid h
 obtain ⟨⟨b1, b2, t0, t1, t2, m0, m1, m2, m3, m4⟩, _⟩ := h
 have e0 := t0.at0
 have e1 := (t0 1 _ rfl).1
 have e2 := (t0 2 _ rfl).1
 have e3 := (t0 3 _ rfl).1
 obtain ⟨u, hu⟩ := ptr_formD t
 have HU := hid hu
 rw [hu] at e3
 clear hu
 have e4 := (t0 4 _ rfl).1
 have hb := (Below.refl w.heap.size w).alloc (Nat.le_refl _) (.cells #[.func (.func 29) #[] #[], .func (.func 26) #[] #[], .func (.func 47) #[] #[.pointer (some ⟨b1, 0, none⟩), .pointer (some ⟨b2, 0, none⟩)], .pointer u, .int .i64 t.list.length] 69)
 have HB := hid hb
 have HG2 := hid (HG.out.below hb)
 have hcs := Cs.alloc_new w 69 [.func (.func 29) #[] #[], .func (.func 26) #[] #[], .func (.func 47) #[] #[.pointer (some ⟨b1, 0, none⟩), .pointer (some ⟨b2, 0, none⟩)], .pointer u, .int .i64 t.list.length]
 have hlt1 := t1.lt
 have hlt2 := t2.lt
 have HEN : Hid (DEnv (w.alloc (.cells #[.func (.func 29) #[] #[], .func (.func 26) #[] #[], .func (.func 47) #[] #[.pointer (some ⟨b1, 0, none⟩), .pointer (some ⟨b2, 0, none⟩)], .pointer u, .int .i64 t.list.length] 69)) w.heap.size (.pointer u) t.list.length) := hid ⟨b1, b2, hcs, t1.below hb, t2.below hb, cell_none_new w _ _ (by simp), (hb.cell (p := ⟨b1, 14, none⟩) t1.lt).trans m1, (hb.cell (p := ⟨b2, 14, none⟩) t2.lt).trans m2, by omega, by omega⟩
 clear hb t0 t1 t2 m0 m1 m2 m3 m4 hcs hlt1 hlt2
 go_enter Tryz.func41, Tryz.ntmps41
 go_upto_region 4 with fail
 clear e0 e1 e2 e3 e4
 generalize (w.alloc (.cells #[.func (.func 29) #[] #[], .func (.func 26) #[] #[], .func (.func 47) #[] #[.pointer (some ⟨b1, 0, none⟩), .pointer (some ⟨b2, 0, none⟩)], .pointer u, .int .i64 t.list.length] 69)) = W0 at HB HG2 HEN ⊢
 obtain ⟨e3, _⟩ := (show DEnv W0 th (ptr t) t.list.length from HG2.out.1).at3
 rw [HU.out] at e3
 go_wp2_with fail
 have hcp := Dt.copied th (ptr t) t.list.length t _ HG2.out.2.1 hn HG2.out.1
 rw [HU.out] at hcp
 refine hcp.mono ?_
 clear hcp
 rintro e w1 ⟨t', rfl, hs, hi, hb, hd, hg⟩
 have HE1 := hid (HEN.out.below hb)
 obtain ⟨q3, q4, _⟩ := HE1.out.at3
 have HS := hid hs
 have HI := hid hi
 have HD := hid hd
 have HG3 := hid hg
 have HB1 := hid (below_on HB.out hb)
 have HSZ := hid HB.out.size
 clear hs hi hd hg hb e3
 obtain ⟨v, hv⟩ := ptr_formD t'
 have HV := hid hv
 rw [hv]
 clear hv
 go_wp2_with fail
 go_ret
 rw [← HV.out]
 refine ⟨w.heap.size, t', rfl, HS.out, ⟨?_, HI.out.farT HE1.out.hd _ _, HD.out⟩, fun k hk => ?_, HB1.out.trans (Chg.toBelow ((Chg.refl [w.heap.size] w1).set (Or.inl (by simp)) 3 (ptr t')) HB1.out.size (fun k hk => by simp at hk; omega))⟩
 ·rw [HS.out.list]; exact HE1.out.root _
 ·rcases List.mem_cons.1 hk with rfl | hk
  ·exact Nat.le_refl _
  ·exact Nat.le_trans HSZ.out (HG3.out k hk)
end

end Go.Proofs.YtbcepkfdlaioaaaGreat

import Derived.Test.YtbcepkfdlaioaaaGreatDtreePlaysZ26
import Derived.Deep.TreeCalls
namespace Go.Proofs.YtbcepkfdlaioaaaGreat
open Go.RowKit
set_option maxRecDepth 100000
set_option maxHeartbeats 32000000
theorem Tr.depth_le {α : Type} (t : Tr α) : t.depth ≤ t.list.length := by
 induction t with
 | nil => exact Nat.le_refl _
 | node g c l x r ihl ihr => simp only [Tr.depth, Tr.list, List.length_append, List.length_cons]; omega
theorem In.drewN {w : World} {t : Tr Int} (h : In w t) (n : Nat) : In (w.drewN n) t := h.below (by
 exact ⟨rfl, rfl, rfl, Nat.le_refl _, fun _ _ => rfl⟩)
theorem Rb.depth0 (t : Tr Int) : ∀ w, In w t → t.list.length ≤ 900000 →
  Calls Tryz.prog 87 #[ptr t] w fun e w' => e = .returned (.int .i64 t.depth) ∧ ∃ n, w' = w.drewN n := by
 induction t with
 | nil =>
  intro w _ _
  simp only [ptr_nil]
  go_enter Tryz.func87, Tryz.ntmps87
  go_wp2_with fail
  go_ret
  exact ⟨rfl, 0, rfl⟩
 | node g c l x r ihl ihr =>
  intro w h hn
  have HI := hid h
  have IL := hid ihl
  have IR := hid ihr
  obtain ⟨⟨v, _, hc⟩, hl, hr⟩ := h
  have c2 := hc.at2
  have c3 := hc.at3
  simp only [Tr.list, List.length_append, List.length_cons] at hn
  have d1 : (l.depth : Int) ≤ 900000 := by have := Tr.depth_le l; omega
  have d2 : (r.depth : Int) ≤ 900000 := by have := Tr.depth_le r; omega
  have n1 : l.list.length ≤ 900000 := by omega
  have n2 : r.list.length ≤ 900000 := by omega
  clear hc hl hr ihl ihr hn
  simp only [ptr_node]
  go_enter Tryz.func87, Tryz.ntmps87
  go_wp2_with fail
  go_quiet (first | (go_at_call_of 87 (ptr l); refine Calls.quiet_of (IL.out _ ?_ n1); exact HI.out.2.1.drewN _) | (go_at_call_of 87 (ptr r); refine Calls.quiet_of (IR.out _ ?_ n2); exact HI.out.2.2.drewN _))
  go_wp2_with fail
  go_ret
  refine ⟨?_, _, rfl⟩
  have e : (1 : Int) + max (l.depth : Int) r.depth = ((Tr.node g c l x r).depth : Int) := by simp only [Tr.depth]; omega
  rw [← e]
  rfl
theorem Rb.depth (th : Nat) (t : Tr Int) (w : World) (h : TreeAt w th t) (hn : t.list.length ≤ 900000) :
  Calls Tryz.prog 65 #[.pointer (some ⟨th, 0, none⟩)] w (Ans (.int .i64 t.depth) w) := by
 obtain ⟨_, _, t0, _⟩ := h.1
 have e3 := t0.at3
 have HI := hid h.2.1
 clear h t0
 go_enter Tryz.func65, Tryz.ntmps65
 go_wp2_with fail
 refine (Rb.depth0 t _ HI.out hn).mono ?_
 rintro e w1 ⟨rfl, n, rfl⟩
 go_wp2_with fail
 go_ret
 exact ⟨rfl, rfl, rfl, rfl, Nat.le_refl _, fun _ _ => rfl⟩
def rowOf (A : Option Addr) : List Nat := (A.map (·.block)).toList
def Adds (W0 : World) (A0 : Option Addr) (L : List Int) (w : World) (e : Ending) (w' : World) : Prop := ∃ A n c, e = .returned (.slice A n c) ∧ Own w' W0.heap.size A n c L ∧ Below W0.heap.size W0 w' ∧ Chg (rowOf A0) w w' ∧ ∀ k ∈ rowOf A, k ∈ rowOf A0 ∨ w.heap.size ≤ k
theorem row_own {A : Option Addr} {n c : Nat} {k : Nat} (h : (Value.slice A n c).ownBlock = some k) : k ∈ rowOf A := by
 cases A with
 | none => simp [Value.ownBlock] at h
 | some a => simpa [Value.ownBlock, rowOf, eq_comm] using h
theorem own_row {A : Option Addr} {n c : Nat} {k : Nat} (h : k ∈ rowOf A) : (Value.slice A n c).ownBlock = some k := by
 cases A with
 | none => simp [rowOf] at h
 | some a => simpa [Value.ownBlock, rowOf, eq_comm] using h
theorem Chg.grown {A : Option Addr} {n c : Nat} {w w' : World} (h : w.grownBy w' (Value.slice A n c).ownBlock) : Chg (rowOf A) w w' :=
 ⟨h.os, h.tape, h.output, h.size, fun k hk hr => h.block k hk (fun e => hr (row_own e.symm))⟩
theorem Own.rowIn {w : World} {base : Nat} {A : Option Addr} {n c : Nat} {zs : List Int} (h : Own w base A n c zs) : ∀ k ∈ rowOf A, base ≤ k ∧ k < w.heap.size := by
 intro k hk
 refine ⟨h.rowGe k (own_row hk), ?_⟩
 rcases h.2 with ⟨hv, _⟩ | ⟨g, cap, cur, hv, hb, hg, _⟩
 ·injection hv with e1; subst e1; simp [rowOf] at hk
 ·injection hv with e1; subst e1
  have hkg : k = g := by simpa [rowOf, eq_comm] using hk
  rw [hkg]
  rcases Nat.lt_or_ge g w.heap.size with h1 | h1
  ·exact h1
  ·rw [Array.getElem?_eq_none h1] at hg; cases hg
theorem Below.chg {F : List Nat} {W0 w w' : World} (h : Below W0.heap.size W0 w) (hc : Chg F w w') (hF : ∀ k ∈ F, W0.heap.size ≤ k) : Below W0.heap.size W0 w' :=
 h.trans (hc.toBelow h.size hF)
theorem cell_new {w w2 : World} {base : Nat} {A : Option Addr} {n c : Nat} {zs : List Int} {x : Int} {t : TypeId} (ho : Own w base A n c zs) (hc : Chg (rowOf A) (w.alloc (.cells #[.int .i64 x] t)).drew w2) : w2.cell? ⟨w.heap.size, 0, none⟩ = some (.int .i64 x) := by
 refine (hc.cell (p := ⟨w.heap.size, 0, none⟩) (by simp) (fun hm => ?_)).trans ?_
 ·have := (ho.rowIn _ hm).2; simp at this
 ·show (w.alloc (.cells #[.int .i64 x] t)).cell? _ = _
  simp
theorem Chg.chain {w wa w2 wb w3 w4 : World} {A A2 A3 A4 : Option Addr} (h0 : Below w.heap.size w wa) (h2 : Chg (rowOf A) wa w2) (r2 : ∀ k ∈ rowOf A2, k ∈ rowOf A ∨ wa.heap.size ≤ k) (hb : Below w2.heap.size w2 wb) (h3 : Chg (rowOf A2) wb w3) (r3 : ∀ k ∈ rowOf A3, k ∈ rowOf A2 ∨ wb.heap.size ≤ k)
  (h4 : Chg (rowOf A3) w3 w4) (r4 : ∀ k ∈ rowOf A4, k ∈ rowOf A3 ∨ w3.heap.size ≤ k) : Chg (rowOf A) w w4 ∧ ∀ k ∈ rowOf A4, k ∈ rowOf A ∨ w.heap.size ≤ k := by
 have s0 := h0.size
 have s2 := h2.size
 have sb := hb.size
 have s3 := h3.size
 have q2 : ∀ k ∈ rowOf A2, k ∈ rowOf A ∨ w.heap.size ≤ k := fun k hk => (r2 k hk).imp id (fun h => by omega)
 have q3 : ∀ k ∈ rowOf A3, k ∈ rowOf A ∨ w.heap.size ≤ k := fun k hk => by
  rcases r3 k hk with h | h
  ·exact q2 k h
  ·right; omega
 have q4 : ∀ k ∈ rowOf A4, k ∈ rowOf A ∨ w.heap.size ≤ k := fun k hk => by
  rcases r4 k hk with h | h
  ·exact q3 k h
  ·right; omega
 exact ⟨((((Chg.below h0).trans h2 (fun j hj => Or.inl hj)).trans (G := []) (Chg.below hb) (by simp)).trans h3 q2).trans h4 q3, q4⟩
theorem step_append_one {ops : Array Oper} {o : Oper} {a : Act} {K : Act → World → Prop} {Q : Exit → Act → World → Prop} {E : Prop} (w : World) (hgd : o.guard = none) (s x : Operand)
  (ho : o.op = .call { callee := .builtin .append, args := #[s, x], argTypes := #[89, 89] })
  (base : Nat) (A : Option Addr) (n c : Nat) (zs : List Int) (hs : a.eval s = .slice A n c) (hown : Own w base A n c zs) (b : Nat) (d : Int) (hx : a.eval x = .slice (some ⟨b, 0, none⟩) 1 1)
  (hcell : w.cell? ⟨b, 0, none⟩ = some (.int .i64 d)) (hn : n ≤ 4000000) (hbase : base ≤ w.heap.size)
  (h : ∀ A' c' w', Own w' base A' (n + 1) c' (zs ++ [d]) → Chg (rowOf A) w w' → (∀ k ∈ rowOf A', k ∈ rowOf A ∨ w.heap.size ≤ k) → K (a.put o.dst (.slice A' (n + 1) c')) w') :
  if Region.wanted o (yielded ops a.tmps) = true then Oper.wp Tryz.prog o a w K Q else E := by
 obtain ⟨i0, hi, hz0, hz1, hz2⟩ := info_parts infoInt
 refine step_append_lies w hgd s x 89 ho base 3 i0 (.int .i64 0) 1 8 Tryz.underlying89 hi hz0 hz1 hz2 rfl (by decide) (.slice A n c) n (zs.map (Value.int .i64)) hs hown
  ⟨b, 0, none⟩ 1 1 [.int .i64 d] hx rfl ?_ ?_ (by decide) (by unfold maxLen; omega) (by omega) hbase _ rfl ?_
 ·intro j u hj
  match j, hj with
  | 0, hj => simp at hj; subst hj; simpa [Addr.add] using hcell
 ·intro u hu; simp at hu; subst hu; rfl
 ·intro g cap w' h2 h3 h4 _
  refine h _ _ w' (by unfold Own; simpa using h2) (Chg.grown h3) (fun k hk => ?_)
  simp [rowOf] at hk
  subst hk
  rcases h4 with h4 | h4
  ·exact Or.inl (row_own h4)
  ·right; omega
theorem Rb.addTo (W0 : World) (t : Tr Int) : In W0 t → ∀ (w : World) (A : Option Addr) (n c : Nat) (zs : List Int), Below W0.heap.size W0 w → Own w W0.heap.size A n c zs → zs.length + t.list.length ≤ 900000 →
  Calls Tryz.prog 86 #[ptr t, .slice A n c] w (Adds W0 A (zs ++ t.list) w) := by
 induction t with
 | nil =>
  intro _ w A n c zs hb ho _
  have HB := hid hb
  have HO := hid ho
  clear hb ho
  simp only [ptr_nil]
  go_enter Tryz.func86, Tryz.ntmps86
  go_wp2_with fail
  go_ret
  exact ⟨A, n, c, rfl, by simpa [Tr.list] using HO.out, HB.out, Chg.refl _ _, fun k hk => Or.inl hk⟩
 | node g cc l x r ihl ihr =>
  intro h w A n c zs hb ho hn
  have IL := hid (ihl h.2.1)
  have IR := hid (ihr h.2.2)
  have HI := hid h
  have HB := hid hb
  have HO := hid ho
  simp only [Tr.list, List.length_append, List.length_cons] at hn
  obtain ⟨⟨v, _, hc⟩, _, _⟩ := h
  have HQ : Hid (∀ w', Below W0.heap.size W0 w' → (w'.cell? ⟨g, 3, none⟩ = some (ptr r) ∧ w'.cell? ⟨g, 2, none⟩ = some (ptr l) ∧ w'.cell? ⟨g, 0, none⟩ = some (.int .i64 x)) ∧ Below W0.heap.size W0 w') := hid (fun w' hb => ⟨⟨keep1 hb hc.at3, keep1 hb hc.at2, keep1 hb hc.at0⟩, hb⟩)
  have HLN := hid ho.len
  have hn1 : zs.length + l.list.length ≤ 900000 := by omega
  have hn2 : (zs ++ l.list ++ [x]).length + r.list.length ≤ 900000 := by simp; omega
  have HN1 := hid hn1
  have HN2 := hid hn2
  have hz := hb.size
  clear hb ho hc ihl ihr hn1 hn2
  simp only [ptr_node]
  go_enter Tryz.func86, Tryz.ntmps86
  go_wp2_with fail
  go_region_held3 (fun w' => (w'.cell? ⟨g, 3, none⟩ = some (ptr r) ∧ w'.cell? ⟨g, 2, none⟩ = some (ptr l) ∧ w'.cell? ⟨g, 0, none⟩ = some (.int .i64 x)) ∧ Below W0.heap.size W0 w')
   (first | with_reducible exact HQ.out _ HB.out.drew | with_reducible exact HQ.out _ hb2 | with_reducible exact HQ.out _ ((HB.out.alloc hz _).drew) | with_reducible exact HQ.out _ (hb2.alloc hb2.size _))
   (first
    | (go_at_call_of 86 (ptr l); refine (IL.out _ A n c zs (And.right (by assumption : (_ ∧ _ ∧ _) ∧ Below W0.heap.size W0 _)) (by first | exact HO.out | exact HO.out.alloc _) HN1.out).mono ?_; rintro e w2 ⟨A2, n2, c2, rfl, ho2, hb2, hc2, hr2⟩; have HO2 := hid ho2; have HC2 := hid hc2; have HR2 := hid hr2; (try (have HCELL := hid (cell_new HO.out HC2.out))); clear ho2 hc2 hr2)
    | (go_at_call_of 86 (ptr r); refine (IR.out _ A3 _ c3 (zs ++ l.list ++ [x]) (And.right (by assumption : (_ ∧ _ ∧ _) ∧ Below W0.heap.size W0 _)) HO3.out HN2.out).mono ?_; rintro e w4 ⟨A4, n4, c4, rfl, ho4, hb2, hc4, hr4⟩; have HO4 := hid ho4; have HC4 := hid hc4; have HR4 := hid hr4; clear ho4 hc4 hr4)
    | ((refine step_append_one _ (by rfl) (.tmp 17) (.tmp 22) (by rfl) W0.heap.size A2 n2 c2 (zs ++ l.list) (by rfl) (HO2.out.alloc _) w2.heap.size x (by rfl) (by simp) (by have := HO2.out.len; have := HN1.out; simp at *; omega) (by simp; exact Nat.le_succ_of_le hb2.size) ?_); intro A3 c3 w3 ho3 hc3 hr3; have HO3 := hid ho3; have HC3 := hid hc3; have HR3 := hid hr3; have hb2 := Below.chg (And.right (by assumption : (_ ∧ _ ∧ _) ∧ Below W0.heap.size W0 _)) hc3 (fun k hk => (HO2.out.rowIn k hk).1); clear ho3 hc3 hr3)
    | (refine step_append_one _ (by rfl) (.tmp 17) (.tmp 22) (by rfl) W0.heap.size A2 n2 c2 (zs ++ l.list) (by rfl) HO2.out w.heap.size x (by rfl) HCELL.out (by have := HO2.out.len; have := HN1.out; simp at *; omega) hb2.size ?_; intro A3 c3 w3 ho3 hc3 hr3; have HO3 := hid ho3; have HC3 := hid hc3; have HR3 := hid hr3; have hb2 := Below.chg (And.right (by assumption : (_ ∧ _ ∧ _) ∧ Below W0.heap.size W0 _)) hc3 (fun k hk => (HO2.out.rowIn k hk).1); clear ho3 hc3 hr3)
    | fail)
  all_goals
   have HB4 := hid (And.right (by assumption : (_ ∧ _ ∧ _) ∧ Below W0.heap.size W0 w4))
   have HO5 := hid (show Own w4 W0.heap.size A4 n4 c4 (zs ++ (Tr.node g cc l x r).list) by have := HO4.out; simpa [Tr.list] using this)
   go_wp2_with fail
   go_ret
   refine ⟨A4, n4, c4, rfl, HO5.out, HB4.out, ?_⟩
   first
    | exact Chg.chain (Below.refl _ _).drew HC2.out HR2.out ((Below.refl _ _).alloc (Nat.le_refl _) _) HC3.out HR3.out HC4.out HR4.out
    | exact Chg.chain ((Below.refl _ _).alloc (Nat.le_refl _) _).drew HC2.out HR2.out (Below.refl _ _) HC3.out HR3.out HC4.out HR4.out
theorem Rb.all (th : Nat) (t : Tr Int) (w : World) (h : TreeAt w th t) (hn : t.list.length ≤ 900000) :
  Calls Tryz.prog 64 #[.pointer (some ⟨th, 0, none⟩)] w (Adds w none t.list w) := by
 obtain ⟨_, _, t0, _⟩ := h.1
 have e3 := t0.at3
 have HI := hid h.2.1
 clear h t0
 go_enter Tryz.func64, Tryz.ntmps64
 go_wp2_with fail
 refine (Rb.addTo w t HI.out w none 0 0 [] (Below.refl _ _) (Own.nil _ _) (by simpa using hn)).mono ?_
 rintro e w1 ⟨A, n, c, rfl, h1, h2, h3⟩
 have H1 := hid h1
 have H2 := hid h2
 have H3 := hid h3
 clear h1 h2 h3
 go_wp2_with fail
 go_ret
 exact ⟨A, n, c, rfl, by simpa using H1.out, H2.out, H3.out⟩
end Go.Proofs.YtbcepkfdlaioaaaGreat

/- Texts of SpanGrows's proof, together. -/
import Derived.Test.YtkddkllepbhnhaaGreatDoorSpB
import Derived.Test.YtkddkllepbhnhaaGreatDoorSpanGrowsZ43
import Derived.Test.YtkddkllepbhnhaaGreatDoorOrdG
namespace Go.Proofs.YtkddkllepbhnhaaGreatDoor
/- The chapter's examples of layer 13, as the laws ask them. -/
section
open Go.RowKit
theorem RdI.nil0 (w : World) (A : Option Addr) : RdI w A 0 [] := ⟨rfl, fun i hi => absurd hi (by omega)⟩
theorem Cs.one {w : World} {g : Nat} {x : It} (h : Cs w g x.cells) : RdI w (some ⟨g, 0, none⟩) 1 [x] :=
  ⟨rfl, fun i hi => ⟨g, 0, rfl, World.block_lt_of_cell? w _ (It.at x h).1, fun j hj => by
    obtain rfl : j = 0 := by omega
    exact It.at x h⟩⟩
set_option maxRecDepth 100000 in
set_option maxHeartbeats 2000000 in
theorem Law12.Awake (w : World) (htab : Tab10 w.heap.size w) : Calls Tryz.prog 101 #[] w (Ans (.bool true) w) := by
  go_enter Tryz.func101, Tryz.ntmps101
  go_wp2_with (go_at_call 33; refine (Law12.awake _ htab).mono ?_; rintro e w' ⟨rfl, hb⟩)
  go_ret
  exact ⟨rfl, hb⟩
set_option maxRecDepth 100000 in
set_option maxHeartbeats 4000000 in
theorem Law13.awake (w : World) (htab : Tab10 w.heap.size w) : Calls Tryz.prog 39 #[] w (Ans (.bool true) w) := by
  have HT := hid htab
  clear htab
  have e1 : IntKind.u64.wrap (0 + 4611686018427387905) = 4611686018427387905 := by decide
  have hfd : ∀ w : World, (Instr.field 86 (.agg #[.int .u64 0, .int .u32 0, .int .u32 0, .int .i64 0, .int .u64 0, .int .u32 0, .int .u32 0]) 0).run Tryz.prog w = .ok (.agg #[.int .u64 0, .int .u32 0, .int .u32 0]) w := fun _ => by kernel_rfl
  go_enter Tryz.func39, Tryz.ntmps39
  go_wp2_with fail
  refine (Pos.shiftF (0, 0, 0) 4611686018427387905 _).mono ?_
  unfold shP
  simp only [e1]
  rintro e w1 ⟨rfl, hb⟩
  have ha := (Below.refl w1.heap.size w1).alloc (Nat.le_refl _) (.cells #[.int .u64 (It.mk 0 0 0 0 4611686018427387905 0 0).t, .int .u32 (It.mk 0 0 0 0 4611686018427387905 0 0).r, .int .u32 (It.mk 0 0 0 0 4611686018427387905 0 0).v, .int .i64 (It.mk 0 0 0 0 4611686018427387905 0 0).i, .int .u64 (It.mk 0 0 0 0 4611686018427387905 0 0).u, .int .u32 (It.mk 0 0 0 0 4611686018427387905 0 0).s, .int .u32 (It.mk 0 0 0 0 4611686018427387905 0 0).y] 86)
  have HC := hid (Cs.new7 w1 86 (It.mk 0 0 0 0 4611686018427387905 0 0))
  have HB1 := hid (below_on hb ha)
  clear hb ha
  go_wp2_with fail
  generalize (w1.alloc (.cells #[.int .u64 (It.mk 0 0 0 0 4611686018427387905 0 0).t, .int .u32 (It.mk 0 0 0 0 4611686018427387905 0 0).r, .int .u32 (It.mk 0 0 0 0 4611686018427387905 0 0).v, .int .i64 (It.mk 0 0 0 0 4611686018427387905 0 0).i, .int .u64 (It.mk 0 0 0 0 4611686018427387905 0 0).u, .int .u32 (It.mk 0 0 0 0 4611686018427387905 0 0).s, .int .u32 (It.mk 0 0 0 0 4611686018427387905 0 0).y] 86)) = W1 at HC HB1 ⊢
  generalize w1.heap.size = g at HC ⊢
  refine (Law12.Awake _ (HT.out.at2 HB1.out)).mono ?_
  rintro e w2 ⟨rfl, hb⟩
  have HB2 := hid (below_on HB1.out hb)
  have HC2 := hid ((show Cs W1 g (It.cells (It.mk 0 0 0 0 4611686018427387905 0 0)) from HC.out).below hb)
  clear hb HB1 HC
  go_wp2_with fail
  refine (Span.room 0 none 0 0 [] _ (RdI.nil0 _ _) (by omega)).mono ?_
  rw [ex13.1]
  rintro e w3 ⟨rfl, hb⟩
  have HB3 := hid (below_on HB2.out hb)
  have HC3 := hid (HC2.out.below hb)
  obtain ⟨p0, p1, p2, p3, p4, p5, p6⟩ := It.at _ HC3.out
  have HN := hid (Cs.new7 w3 86 (It.mk 0 0 0 0 4611686018427387905 0 0)).one
  have HB4 := hid (below_on HB3.out ((Below.refl w3.heap.size w3).alloc (Nat.le_refl _) (.cells #[.int .u64 (It.mk 0 0 0 0 4611686018427387905 0 0).t, .int .u32 (It.mk 0 0 0 0 4611686018427387905 0 0).r, .int .u32 (It.mk 0 0 0 0 4611686018427387905 0 0).v, .int .i64 (It.mk 0 0 0 0 4611686018427387905 0 0).i, .int .u64 (It.mk 0 0 0 0 4611686018427387905 0 0).u, .int .u32 (It.mk 0 0 0 0 4611686018427387905 0 0).s, .int .u32 (It.mk 0 0 0 0 4611686018427387905 0 0).y] 86)))
  clear hb HB2 HC2
  go_wp2_with fail
  refine (Span.within 0 (some ⟨w3.heap.size, 0, none⟩) 1 1 [(It.mk 0 0 0 0 4611686018427387905 0 0)] _ HN.out (by omega)).mono ?_
  rw [ex13.2]
  rintro e w4 ⟨rfl, hb⟩
  have HB5 := hid (below_on HB4.out hb)
  clear hb
  go_wp2_with fail
  go_ret
  exact ⟨rfl, HB5.out⟩
end

/- SpanGrows: the walk. -/
section
open Go.RowKit
theorem OwnI.empty (w : World) {base : Nat} (hb : base ≤ w.heap.size) : OwnI (w.alloc (.cells #[] 86)) base (some ⟨w.heap.size, 0, none⟩) 0 0 [] := by
  have h := World.ownsRow_lit (base := base) (e := 86) (size := 7) w #[] 0 hb (by decide) (by decide)
  simpa [OwnI] using h
/-- append of one item, at a step of a region that draws. -/
theorem step_append_its {ops : Array Oper} {o : Oper} {a : Act} {K : Act → World → Prop} {Q : Exit → Act → World → Prop} {E : Prop} (w : World) (hgd : o.guard = none) (s x : Operand)
    (ho : o.op = .call { callee := .builtin .append, args := #[s, x], argTypes := #[72, 72] })
    (base : Nat) (A : Option Addr) (n c : Nat) (l : List It) (hs : a.eval s = .slice A n c) (hown : OwnI w base A n c l) (B : Option Addr) (m d : Nat) (k : List It) (hx : a.eval x = .slice B m d)
    (hr : RdI w B m k) (hm : 0 < m) (hn : n + m ≤ 1000000) (hbase : base ≤ w.heap.size)
    (h : ∀ A' c' w', OwnI w' base A' (n + m) c' (l ++ k) → Chg (rowOf A) w w' → (∀ q ∈ rowOf A', q ∈ rowOf A ∨ w.heap.size ≤ q) → K (a.put o.dst (.slice A' (n + m) c')) w') :
    if Region.wanted o (yielded ops a.tmps) = true then Oper.wp Tryz.prog o a w K Q else E := by
  obtain ⟨i0, hi, hz0, hz1, hz2⟩ := infoItem6
  obtain ⟨b, off, rfl, _, hc⟩ := hr.2 0 hm
  have hlen := hr.1
  refine step_append_lies w hgd s x 72 ho base 86 i0 (.agg #[.int .u64 0, .int .u32 0, .int .u32 0, .int .i64 0, .int .u64 0, .int .u32 0, .int .u32 0]) 7 40 Tryz.underlying72 hi hz0 hz1 hz2 rfl (by decide) (.slice A n c) n (l.flatMap It.cells) hs hown
    ⟨b, off, none⟩ m d (k.flatMap It.cells) hx (by rw [flat_length, hlen]) ?_ (flat_one k) hm (by unfold maxLen; omega) (by omega) hbase _ rfl ?_
  · intro j u hj
    have hadd : (⟨b, off, none⟩ : Addr).add j = ⟨b, off + j, none⟩ := by unfold Addr.add; split <;> simp_all
    rw [hadd]
    have hjl : j < k.length * 7 := by
      rcases Nat.lt_or_ge j (k.flatMap It.cells).length with h1 | h1
      · rwa [flat_length] at h1
      · rw [List.getElem?_eq_none h1] at hj; cases hj
    have e : j = j / 7 * 7 + j % 7 := by omega
    rw [e, flat_get k (j / 7) (j % 7) (by omega) (by omega)] at hj
    rw [e, ← Nat.add_assoc, (hc (j / 7) (by omega)).rangeI (by omega)]
    exact hj
  · intro g cap w' h2 h3 h4 _
    refine h _ _ w' (by unfold OwnI; simpa using h2) (Chg.grown h3) (fun q hq => ?_)
    simp [rowOf] at hq
    subst hq
    rcases h4 with h4 | h4
    · exact Or.inl (row_own h4)
    · right; omega
section
variable {P : Program} {ops : Array Oper} {Q : Exit → Act → World → Prop} {md : Region.Mode} {S0 : World → Prop} {S : World → Prop}
/-- A slice of one is built: it is known from here on. -/
theorem wpAnyE_slice1 {n i : Nat} {oi : Oper} {fuel : Nat} {listed : Array Bool} {a : Act} (T : World → Nat → Prop) (hi : ops[i]? = some oi) (hr : Region.ready md ops listed = [i]) (hin : i < n) (hw : Region.wanted oi (yielded ops a.tmps) = true)
    (hst : Stays S) (hs0 : ∀ w, S w → S0 w) (hT : ∀ g, Stays (fun w => T w g)) (hrun : ∀ w, S w → ∃ w', (execOp a.eval oi).run P w = .ok (.value (.slice (some ⟨w.heap.size, 0, none⟩) 1 1)) w' ∧ Below w.heap.size w w' ∧ T w' w.heap.size)
    (h : ∀ g, wpAnyE P md ops Q S0 n fuel (fun w => S w ∧ T w g) (listed.setIfInBounds i true) (a.put oi.dst (.slice (some ⟨g, 0, none⟩) 1 1))) : wpAnyE P md ops Q S0 n (fuel + 1) S listed a :=
  wpAnyE_one hi hr hin hw (fun w hS K hK => by
    obtain ⟨w', e, hb, hT'⟩ := hrun w hS
    unfold Oper.wp
    rw [e]
    exact hK.out _ _ (fun w2 => S w2 ∧ T w2 w.heap.size) (fun _ h => hs0 _ h.1) (fun x y hx hb => ⟨hst _ _ hx.1 hb, hT _ _ _ hx.2 hb⟩) ⟨hst _ _ hS hb, hT'⟩ (h _))
end
theorem stays_tt (_x : Unit) : Stays (fun _ : World => True) := fun _ _ _ _ => trivial
/-- So, of none, too. -/
theorem step_append_itsA {ops : Array Oper} {o : Oper} {a : Act} {K : Act → World → Prop} {Q : Exit → Act → World → Prop} {E : Prop} (w : World) (hgd : o.guard = none) (s x : Operand)
    (ho : o.op = .call { callee := .builtin .append, args := #[s, x], argTypes := #[72, 72] })
    (base : Nat) (A : Option Addr) (n c : Nat) (l : List It) (hs : a.eval s = .slice A n c) (hown : OwnI w base A n c l) (B : Option Addr) (m d : Nat) (k : List It) (hx : a.eval x = .slice B m d)
    (hr : RdI w B m k) (hn : n + m ≤ 1000000) (hbase : base ≤ w.heap.size)
    (h : ∀ A' c' w', OwnI w' base A' (n + m) c' (l ++ k) → Chg (rowOf A) w w' → (∀ q ∈ rowOf A', q ∈ rowOf A ∨ w.heap.size ≤ q) → K (a.put o.dst (.slice A' (n + m) c')) w') :
    if Region.wanted o (yielded ops a.tmps) = true then Oper.wp Tryz.prog o a w K Q else E := by
  rcases Nat.eq_zero_or_pos m with h0 | h0
  · subst h0
    have hk : k = [] := List.eq_nil_of_length_eq_zero hr.1
    subst hk
    have hw : Region.wanted o (yielded ops a.tmps) = true := by simp [Region.wanted, hgd]
    rw [if_pos hw]
    obtain ⟨i0, hi, hz0, hz1, hz2⟩ := infoItem6
    have hrun : (Builtin.append_ #[72, 72] o.type #[.slice A n c, .slice B 0 d]).run Tryz.prog w = .ok (.slice A n c) w := by
      have hnc : n ≤ c := hown.cap
      cases B <;> cases A <;> simp [Builtin.append_, run_underlying Tryz.underlying72, sizeOf, typeInfo, hi, Builtin.lenOf, Builtin.firstCells, storeCells, loadCells, loadCellsFrom, hnc]
    unfold Oper.wp
    simp [execOp, ho, resolve, invoke, builtin, hs, hx, hrun, Result.andThen]
    have h9 : K (a.put o.dst (.slice A n c)) w := by simpa using h A c w (by simpa using hown) (Chg.refl _ _) (fun q hq => Or.inl hq)
    exact h9
  · exact step_append_its w hgd s x ho base A n c l hs hown B m d k hx hr h0 hn hbase h
end

/- SpanGrows: the walk. -/
section
open Go.RowKit
set_option maxRecDepth 100000 in
set_option maxHeartbeats 4000000 in
theorem Sgrow.away (b : Int) (A : Option Addr) (n c : Nat) (a : It) (w : World) (hn : 40 < n) (htab : Tab10 w.heap.size w) : Calls Tryz.prog 8 #[.int .u64 b, .slice A n c, a.val] w (Ans (.bool true) w) := by
  have h2 : (40 : Int) < (n : Int) := by omega
  have HT := hid htab
  have HB0 := hid ((Below.refl w.heap.size w).alloc (Nat.le_refl _) (.cells #[.int .u64 a.t, .int .u32 a.r, .int .u32 a.v, .int .i64 a.i, .int .u64 a.u, .int .u32 a.s, .int .u32 a.y] 86))
  clear hn htab
  unfold It.val
  go_enter Tryz.func8, Tryz.ntmps8
  go_wp2_with fail
  generalize (w.alloc (.cells #[.int .u64 a.t, .int .u32 a.r, .int .u32 a.v, .int .i64 a.i, .int .u64 a.u, .int .u32 a.s, .int .u32 a.y] 86)) = W0 at HB0 ⊢
  refine (Law13.awake _ (HT.out.at2 HB0.out)).mono ?_
  rintro e w1 ⟨rfl, hb⟩
  have HB1 := hid (below_on HB0.out hb)
  clear hb
  go_wp2_with fail
  go_ret
  exact ⟨rfl, HB1.out⟩
set_option maxRecDepth 100000 in
set_option maxHeartbeats 16000000 in
theorem Sgrow.core (b : Int) (A : Option Addr) (n c : Nat) (l : List It) (a : It) (w : World) (hr : RdI w A n l) (ha : a.In) (hn : n ≤ 40) (htab : Tab10 w.heap.size w) : Calls Tryz.prog 8 #[.int .u64 b, .slice A n c, a.val] w (Ans (.bool true) w) := by
  have h2 : ¬ (40 : Int) < (n : Int) := by omega
  have HT := hid htab
  have HR := hid hr
  have HA := hid ha
  have HLN := hid hr.1
  have HQ0 : Hid (Cs (w.alloc (.cells #[.int .u64 a.t, .int .u32 a.r, .int .u32 a.v, .int .i64 a.i, .int .u64 a.u, .int .u32 a.s, .int .u32 a.y] 86)) w.heap.size a.cells ∧ Below w.heap.size w (w.alloc (.cells #[.int .u64 a.t, .int .u32 a.r, .int .u32 a.v, .int .i64 a.i, .int .u64 a.u, .int .u32 a.s, .int .u32 a.y] 86))) := hid ⟨Cs.new7 w 86 a, (Below.refl w.heap.size w).alloc (Nat.le_refl _) (.cells #[.int .u64 a.t, .int .u32 a.r, .int .u32 a.v, .int .i64 a.i, .int .u64 a.u, .int .u32 a.s, .int .u32 a.y] 86)⟩
  clear htab hr ha
  unfold It.val
  go_enter Tryz.func8, Tryz.ntmps8
  go_wp2_with fail
  generalize (w.alloc (.cells #[.int .u64 a.t, .int .u32 a.r, .int .u32 a.v, .int .i64 a.i, .int .u64 a.u, .int .u32 a.s, .int .u32 a.y] 86)) = W0 at HQ0 ⊢
  refine (Law13.awake _ (HT.out.at2 HQ0.out.2)).mono ?_
  rintro e w1 ⟨rfl, hb⟩
  have HQ1 : Hid (Cs w1 w.heap.size a.cells ∧ Below w.heap.size w w1) := hid ⟨HQ0.out.1.below hb, below_on HQ0.out.2 hb⟩
  have HR1 := hid (HR.out.below HQ1.out.2)
  clear hb HQ0 HT
  have HS1 : Hid (∀ w', Below w1.heap.size w1 w' → ((w'.cell? ⟨w.heap.size, 0, none⟩ = some (.int .u64 a.t) ∧ w'.cell? ⟨w.heap.size, 1, none⟩ = some (.int .u32 a.r) ∧ w'.cell? ⟨w.heap.size, 2, none⟩ = some (.int .u32 a.v) ∧ w'.cell? ⟨w.heap.size, 3, none⟩ = some (.int .i64 a.i) ∧ w'.cell? ⟨w.heap.size, 4, none⟩ = some (.int .u64 a.u) ∧ w'.cell? ⟨w.heap.size, 5, none⟩ = some (.int .u32 a.s) ∧ w'.cell? ⟨w.heap.size, 6, none⟩ = some (.int .u32 a.y)) ∧ Below w1.heap.size w1 w')) := hid (fun w' hb => ⟨It.at a (HQ1.out.1.below hb), hb⟩)
  have HB1 : Hid (Below w1.heap.size w1 w1) := hid (Below.refl _ _)
  have hz : w1.heap.size ≤ w1.heap.size := Nat.le_refl _
  go_wp2_with fail
  go_region_held3 (fun w' => (w'.cell? ⟨w.heap.size, 0, none⟩ = some (.int .u64 a.t) ∧ w'.cell? ⟨w.heap.size, 1, none⟩ = some (.int .u32 a.r) ∧ w'.cell? ⟨w.heap.size, 2, none⟩ = some (.int .u32 a.v) ∧ w'.cell? ⟨w.heap.size, 3, none⟩ = some (.int .i64 a.i) ∧ w'.cell? ⟨w.heap.size, 4, none⟩ = some (.int .u64 a.u) ∧ w'.cell? ⟨w.heap.size, 5, none⟩ = some (.int .u32 a.s) ∧ w'.cell? ⟨w.heap.size, 6, none⟩ = some (.int .u32 a.y)) ∧ Below w1.heap.size w1 w')
    (first | with_reducible exact HS1.out _ HB1.out.drew | with_reducible exact HS1.out _ hb2 | with_reducible exact HS1.out _ ((HB1.out.alloc hz _).drew) | with_reducible exact HS1.out _ (((HB1.out.alloc hz _).alloc (by simp) _).drew) | with_reducible exact HS1.out _ (hb2.alloc hb2.size _) | exact HS1.out _ ((HB1.out.alloc hz _)) | exact HS1.out _ (((HB1.out.alloc hz _).alloc (by simp) _)))
    (first
      | ((refine step_append_itsA _ (by rfl) (.tmp 15) (.tmp 16) (by rfl) w1.heap.size (some ⟨w1.heap.size, 0, none⟩) 0 0 [] (by rfl) (by first | exact OwnI.empty w1 (Nat.le_refl _) | exact (OwnI.empty w1 (Nat.le_refl _)).alloc _ | (have h := OwnI.empty (w1.alloc (.cells #[.int .u64 a.t, .int .u32 a.r, .int .u32 a.v, .int .i64 a.i, .int .u64 a.u, .int .u32 a.s, .int .u32 a.y] 86)) (base := w1.heap.size) (by simp); simp only [World.size_alloc] at h; exact h)) A n c l (by rfl) (HR1.out.below (And.right (by assumption : (_ ∧ _ ∧ _) ∧ Below w1.heap.size w1 _))) (by omega) (by first | (simp; done) | (simp; omega)) ?_); intro A2 c2 w2 ho2 hc2 hr2; have HO2 := hid (show OwnI w2 w1.heap.size A2 n c2 l by simpa using ho2); have HO2z := hid ho2; have HC2 := hid hc2; have hb2 := Below.chg (And.right (by assumption : (_ ∧ _ ∧ _) ∧ Below w1.heap.size w1 _)) hc2 (fun k hk => by simp [rowOf] at hk; omega); clear ho2 hc2 hr2)
      | ((refine step_append_itsA _ (by rfl) (.tmp 15) (.tmp 16) (by rfl) w1.heap.size (some ⟨w1.heap.size + 1, 0, none⟩) 0 0 [] (by rfl) (by first | exact OwnI.empty w1 (Nat.le_refl _) | exact (OwnI.empty w1 (Nat.le_refl _)).alloc _ | (have h := OwnI.empty (w1.alloc (.cells #[.int .u64 a.t, .int .u32 a.r, .int .u32 a.v, .int .i64 a.i, .int .u64 a.u, .int .u32 a.s, .int .u32 a.y] 86)) (base := w1.heap.size) (by simp); simp only [World.size_alloc] at h; exact h)) A n c l (by rfl) (HR1.out.below (And.right (by assumption : (_ ∧ _ ∧ _) ∧ Below w1.heap.size w1 _))) (by omega) (by first | (simp; done) | (simp; omega)) ?_); intro A2 c2 w2 ho2 hc2 hr2; have HO2 := hid (show OwnI w2 w1.heap.size A2 n c2 l by simpa using ho2); have HO2z := hid ho2; have HC2 := hid hc2; have hb2 := Below.chg (And.right (by assumption : (_ ∧ _ ∧ _) ∧ Below w1.heap.size w1 _)) hc2 (fun k hk => by simp [rowOf] at hk; omega); clear ho2 hc2 hr2)
      | ((refine step_append_itsA _ (by rfl) (.tmp 17) (.tmp 19) (by rfl) w1.heap.size A2 n c2 l (by rfl) (HO2.out.alloc _) (some ⟨w2.heap.size, 0, none⟩) 1 1 [a] (by rfl) (Cs.new7 w2 _ a).one (by omega) (And.right (by assumption : (_ ∧ _ ∧ _) ∧ Below w1.heap.size w1 _)).size ?_); intro A5 c5 w5 ho5 hc5 hr5; have HO5 := hid ho5; have hb2 := Below.chg (And.right (by assumption : (_ ∧ _ ∧ _) ∧ Below w1.heap.size w1 _)) hc5 (fun k hk => (HO2.out.rowGe k hk).1); clear ho5 hc5 hr5)
      | ((refine step_append_itsA _ (by rfl) (.tmp 17) (.tmp 19) (by rfl) w1.heap.size A2 n c2 l (by rfl) HO2.out (some ⟨w1.heap.size + 1, 0, none⟩) 1 1 [a] (by rfl) ((show Cs _ (w1.heap.size + 1) a.cells from (by have := Cs.new7 (w1.alloc (.cells #[] 86)) 86 a; simp only [World.size_alloc] at this; exact this)).chg HC2.out (by simp [rowOf])).one (by omega) (And.right (by assumption : (_ ∧ _ ∧ _) ∧ Below w1.heap.size w1 _)).size ?_); intro A5 c5 w5 ho5 hc5 hr5; have HO5 := hid ho5; have hb2 := Below.chg (And.right (by assumption : (_ ∧ _ ∧ _) ∧ Below w1.heap.size w1 _)) hc5 (fun k hk => (HO2.out.rowGe k hk).1); clear ho5 hc5 hr5)
      | ((refine step_append_itsA _ (by rfl) (.tmp 17) (.tmp 19) (by rfl) w1.heap.size A2 n c2 l (by rfl) HO2.out (some ⟨w1.heap.size, 0, none⟩) 1 1 [a] (by rfl) ((((Cs.new7 w1 86 a).alloc (.cells #[] 86)).below (Below.refl _ _).drew).chg HC2.out (by simp [rowOf])).one (by omega) (And.right (by assumption : (_ ∧ _ ∧ _) ∧ Below w1.heap.size w1 _)).size ?_); intro A5 c5 w5 ho5 hc5 hr5; have HO5 := hid ho5; have hb2 := Below.chg (And.right (by assumption : (_ ∧ _ ∧ _) ∧ Below w1.heap.size w1 _)) hc5 (fun k hk => (HO2.out.rowGe k hk).1); clear ho5 hc5 hr5)
      | ((refine step_append_itsA _ (by rfl) (.tmp 17) (.tmp 19) (by rfl) w1.heap.size A2 (0 + n) c2 ([] ++ l) (by rfl) (HO2z.out.alloc _) (some ⟨w2.heap.size, 0, none⟩) 1 1 [a] (by rfl) (Cs.new7 w2 _ a).one (by omega) (And.right (by assumption : (_ ∧ _ ∧ _) ∧ Below w1.heap.size w1 _)).size ?_); intro A5 c5 w5 ho5 hc5 hr5; have HO5 := hid ho5; have hb2 := Below.chg (And.right (by assumption : (_ ∧ _ ∧ _) ∧ Below w1.heap.size w1 _)) hc5 (fun k hk => (HO2.out.rowGe k hk).1); clear ho5 hc5 hr5)
      | ((refine step_append_itsA _ (by rfl) (.tmp 17) (.tmp 19) (by rfl) w1.heap.size A2 (0 + n) c2 ([] ++ l) (by rfl) HO2z.out (some ⟨w1.heap.size + 1, 0, none⟩) 1 1 [a] (by rfl) ((show Cs _ (w1.heap.size + 1) a.cells from (by have := Cs.new7 (w1.alloc (.cells #[] 86)) 86 a; simp only [World.size_alloc] at this; exact this)).chg HC2.out (by simp [rowOf])).one (by omega) (And.right (by assumption : (_ ∧ _ ∧ _) ∧ Below w1.heap.size w1 _)).size ?_); intro A5 c5 w5 ho5 hc5 hr5; have HO5 := hid ho5; have hb2 := Below.chg (And.right (by assumption : (_ ∧ _ ∧ _) ∧ Below w1.heap.size w1 _)) hc5 (fun k hk => (HO2.out.rowGe k hk).1); clear ho5 hc5 hr5)
      | ((refine step_append_itsA _ (by rfl) (.tmp 17) (.tmp 19) (by rfl) w1.heap.size A2 (0 + n) c2 ([] ++ l) (by rfl) HO2z.out (some ⟨w1.heap.size, 0, none⟩) 1 1 [a] (by rfl) ((((Cs.new7 w1 86 a).alloc (.cells #[] 86)).below (Below.refl _ _).drew).chg HC2.out (by simp [rowOf])).one (by omega) (And.right (by assumption : (_ ∧ _ ∧ _) ∧ Below w1.heap.size w1 _)).size ?_); intro A5 c5 w5 ho5 hc5 hr5; have HO5 := hid ho5; have hb2 := Below.chg (And.right (by assumption : (_ ∧ _ ∧ _) ∧ Below w1.heap.size w1 _)) hc5 (fun k hk => (HO2.out.rowGe k hk).1); clear ho5 hc5 hr5)
      | fail)
  all_goals
    have HB5 : Hid (Below w.heap.size w w5) := hid (below_on HQ1.out.2 (And.right (by assumption : (_ ∧ _ ∧ _) ∧ Below w1.heap.size w1 w5)))
    have HC5 : Hid (Cs w5 w.heap.size a.cells) := hid (HQ1.out.1.below (And.right (by assumption : (_ ∧ _ ∧ _) ∧ Below w1.heap.size w1 w5)))
    have HR5 : Hid (RdI w5 A n l) := hid (HR1.out.below (And.right (by assumption : (_ ∧ _ ∧ _) ∧ Below w1.heap.size w1 w5)))
    have HM : Hid (RdI w5 A5 (n + 1) (l ++ [a])) := hid (by have := HO5.out.rdi; simpa using this)
    try simp only [Nat.zero_add]
    try clear HO2z
    try clear HO2
    try clear HC2
    try clear HO5
    clear HB1 HS1 HR1 HQ1 hb2
    rcases Nat.eq_zero_or_pos n with h0 | h0
    · have h0' : ¬ (0 : Int) < (n : Int) := by omega
      have HQ9 : Hid (Cs w5 w.heap.size a.cells ∧ Below w.heap.size w w5) := hid ⟨HC5.out, HB5.out⟩
      go_wp2_with fail
      generalize w5 = w9 at *
      cases hrt : It.right a
      · have HRT := hid hrt
        clear hrt
        have hsT1 : Stays (fun wx => Cs wx w.heap.size a.cells ∧ Below w.heap.size w wx) := fun _ _ h hb => ⟨h.1.below hb, below_on h.2 hb⟩
        refine wp_region_grow (S := fun wx => Cs wx w.heap.size a.cells ∧ Below w.heap.size w wx) 16 (by kernel_rfl) (hsT1 _ _ (HQ9.out) (Below.refl _ _).drew) ?_
        refine wpAnyE_take (i := 0) (v := ?_) (hsT1) (fun _ h => h) rfl (by kernel_rfl) (by kernel_rfl) (by kernel_rfl) (by kernel_rfl) (fun _ _ _ h => h) (SteadyB.of_yields (Or.inl ⟨by rfl, ?_⟩)) ?_
        rotate_left
        · intro wq hSw
          obtain ⟨p0, p1, p2, p3, p4, p5, p6⟩ := It.at a hSw.1
          go_simp
          (try with_reducible rfl)
        try simp only [List.getElem_toArray, List.getElem_cons_zero, List.getElem_cons_succ, Act.put, List.setIfInBounds_toArray, List.set_cons_zero, List.set_cons_succ]
        refine wpAnyE_take (i := 1) (v := Value.bool false) (hsT1) (fun _ h => h) rfl (by kernel_rfl) (by kernel_rfl) (by kernel_rfl) (by kernel_rfl) (fun _ _ _ h => h) (Or.inl ⟨by rfl, fun wq hSw => ?_⟩) ?_
        · refine RunB.of_calls ((by have h := Item.right a wq; rw [HRT.out] at h; exact h)) (by go_simp) ?_
          rintro e wr ⟨rfl, hb⟩
          exact ⟨rfl, hb⟩
        try simp only [List.getElem_toArray, List.getElem_cons_zero, List.getElem_cons_succ, Act.put, List.setIfInBounds_toArray, List.set_cons_zero, List.set_cons_succ]
        refine wpAnyE_take (i := 2) (v := ?_) (hsT1) (fun _ h => h) rfl (by kernel_rfl) (by kernel_rfl) (by kernel_rfl) (by kernel_rfl) (fun _ _ _ h => h) (SteadyB.of_yields (Or.inl ⟨by rfl, ?_⟩)) ?_
        rotate_left
        · intro wq hSw
          go_simp
          (try with_reducible rfl)
        try simp only [List.getElem_toArray, List.getElem_cons_zero, List.getElem_cons_succ, Act.put, List.setIfInBounds_toArray, List.set_cons_zero, List.set_cons_succ]
        refine wpAnyE_take (i := 3) (v := ?_) (hsT1) (fun _ h => h) rfl (by kernel_rfl) (by kernel_rfl) (by kernel_rfl) (by kernel_rfl) (fun _ _ _ h => h) (SteadyB.of_yields (Or.inl ⟨by rfl, ?_⟩)) ?_
        rotate_left
        · intro wq hSw
          go_simp
          (try with_reducible rfl)
        try simp only [List.getElem_toArray, List.getElem_cons_zero, List.getElem_cons_succ, Act.put, List.setIfInBounds_toArray, List.set_cons_zero, List.set_cons_succ]
        refine wpAnyE_take (i := 4) (v := undef) (hsT1) (fun _ h => h) rfl (by kernel_rfl) (by kernel_rfl) (by kernel_rfl) (by kernel_rfl) (fun _ _ _ h => h) (Or.inr ⟨by rfl, rfl⟩) ?_
        try simp only [List.getElem_toArray, List.getElem_cons_zero, List.getElem_cons_succ, Act.put, List.setIfInBounds_toArray, List.set_cons_zero, List.set_cons_succ]
        refine wpAnyE_take (i := 5) (v := undef) (hsT1) (fun _ h => h) rfl (by kernel_rfl) (by kernel_rfl) (by kernel_rfl) (by kernel_rfl) (fun _ _ _ h => h) (Or.inr ⟨by rfl, rfl⟩) ?_
        try simp only [List.getElem_toArray, List.getElem_cons_zero, List.getElem_cons_succ, Act.put, List.setIfInBounds_toArray, List.set_cons_zero, List.set_cons_succ]
        refine wpAnyE_take (i := 6) (v := undef) (hsT1) (fun _ h => h) rfl (by kernel_rfl) (by kernel_rfl) (by kernel_rfl) (by kernel_rfl) (fun _ _ _ h => h) (Or.inr ⟨by rfl, rfl⟩) ?_
        try simp only [List.getElem_toArray, List.getElem_cons_zero, List.getElem_cons_succ, Act.put, List.setIfInBounds_toArray, List.set_cons_zero, List.set_cons_succ]
        refine wpAnyE_take (i := 7) (v := undef) (hsT1) (fun _ h => h) rfl (by kernel_rfl) (by kernel_rfl) (by kernel_rfl) (by kernel_rfl) (fun _ _ _ h => h) (Or.inr ⟨by rfl, rfl⟩) ?_
        try simp only [List.getElem_toArray, List.getElem_cons_zero, List.getElem_cons_succ, Act.put, List.setIfInBounds_toArray, List.set_cons_zero, List.set_cons_succ]
        refine wpAnyE_take (i := 8) (v := undef) (hsT1) (fun _ h => h) rfl (by kernel_rfl) (by kernel_rfl) (by kernel_rfl) (by kernel_rfl) (fun _ _ _ h => h) (Or.inr ⟨by rfl, rfl⟩) ?_
        try simp only [List.getElem_toArray, List.getElem_cons_zero, List.getElem_cons_succ, Act.put, List.setIfInBounds_toArray, List.set_cons_zero, List.set_cons_succ]
        refine wpAnyE_take (i := 9) (v := undef) (hsT1) (fun _ h => h) rfl (by kernel_rfl) (by kernel_rfl) (by kernel_rfl) (by kernel_rfl) (fun _ _ _ h => h) (Or.inr ⟨by rfl, rfl⟩) ?_
        try simp only [List.getElem_toArray, List.getElem_cons_zero, List.getElem_cons_succ, Act.put, List.setIfInBounds_toArray, List.set_cons_zero, List.set_cons_succ]
        refine wpAnyE_take (i := 10) (v := undef) (hsT1) (fun _ h => h) rfl (by kernel_rfl) (by kernel_rfl) (by kernel_rfl) (by kernel_rfl) (fun _ _ _ h => h) (Or.inr ⟨by rfl, rfl⟩) ?_
        try simp only [List.getElem_toArray, List.getElem_cons_zero, List.getElem_cons_succ, Act.put, List.setIfInBounds_toArray, List.set_cons_zero, List.set_cons_succ]
        refine wpAnyE_take (i := 11) (v := undef) (hsT1) (fun _ h => h) rfl (by kernel_rfl) (by kernel_rfl) (by kernel_rfl) (by kernel_rfl) (fun _ _ _ h => h) (Or.inr ⟨by rfl, rfl⟩) ?_
        try simp only [List.getElem_toArray, List.getElem_cons_zero, List.getElem_cons_succ, Act.put, List.setIfInBounds_toArray, List.set_cons_zero, List.set_cons_succ]
        refine wpAnyE_take (i := 12) (v := undef) (hsT1) (fun _ h => h) rfl (by kernel_rfl) (by kernel_rfl) (by kernel_rfl) (by kernel_rfl) (fun _ _ _ h => h) (Or.inr ⟨by rfl, rfl⟩) ?_
        try simp only [List.getElem_toArray, List.getElem_cons_zero, List.getElem_cons_succ, Act.put, List.setIfInBounds_toArray, List.set_cons_zero, List.set_cons_succ]
        refine wpAnyE_take (i := 13) (v := undef) (hsT1) (fun _ h => h) rfl (by kernel_rfl) (by kernel_rfl) (by kernel_rfl) (by kernel_rfl) (fun _ _ _ h => h) (Or.inr ⟨by rfl, rfl⟩) ?_
        try simp only [List.getElem_toArray, List.getElem_cons_zero, List.getElem_cons_succ, Act.put, List.setIfInBounds_toArray, List.set_cons_zero, List.set_cons_succ]
        refine wpAnyE_take (i := 14) (v := undef) (hsT1) (fun _ h => h) rfl (by kernel_rfl) (by kernel_rfl) (by kernel_rfl) (by kernel_rfl) (fun _ _ _ h => h) (Or.inr ⟨by rfl, rfl⟩) ?_
        try simp only [List.getElem_toArray, List.getElem_cons_zero, List.getElem_cons_succ, Act.put, List.setIfInBounds_toArray, List.set_cons_zero, List.set_cons_succ]
        refine wpAnyE_take (i := 15) (v := undef) (hsT1) (fun _ h => h) rfl (by kernel_rfl) (by kernel_rfl) (by kernel_rfl) (by kernel_rfl) (fun _ _ _ h => h) (Or.inr ⟨by rfl, rfl⟩) ?_
        try simp only [List.getElem_toArray, List.getElem_cons_zero, List.getElem_cons_succ, Act.put, List.setIfInBounds_toArray, List.set_cons_zero, List.set_cons_succ]
        refine wpAnyE_rest (n := 16) rfl rfl (by kernel_rfl) (fun wz hSz => ?_)
        simp only [List.toList_toArray, List.drop_succ_cons, List.drop_zero]
        have HB := hid hSz.2
        clear hSz HQ9
        go_wp2_with fail
        go_ret
        exact ⟨rfl, HB.out⟩
      · have HRT := hid hrt
        clear hrt
        have hsT2 : Stays (fun wx => Cs wx w.heap.size a.cells ∧ Below w.heap.size w wx) := fun _ _ h hb => ⟨h.1.below hb, below_on h.2 hb⟩
        refine wp_region_grow (S := fun wx => Cs wx w.heap.size a.cells ∧ Below w.heap.size w wx) 16 (by kernel_rfl) (hsT2 _ _ (HQ9.out) (Below.refl _ _).drew) ?_
        refine wpAnyE_take (i := 0) (v := ?_) (hsT2) (fun _ h => h) rfl (by kernel_rfl) (by kernel_rfl) (by kernel_rfl) (by kernel_rfl) (fun _ _ _ h => h) (SteadyB.of_yields (Or.inl ⟨by rfl, ?_⟩)) ?_
        rotate_left
        · intro wq hSw
          obtain ⟨p0, p1, p2, p3, p4, p5, p6⟩ := It.at a hSw.1
          go_simp
          (try with_reducible rfl)
        try simp only [List.getElem_toArray, List.getElem_cons_zero, List.getElem_cons_succ, Act.put, List.setIfInBounds_toArray, List.set_cons_zero, List.set_cons_succ]
        refine wpAnyE_take (i := 1) (v := Value.bool true) (hsT2) (fun _ h => h) rfl (by kernel_rfl) (by kernel_rfl) (by kernel_rfl) (by kernel_rfl) (fun _ _ _ h => h) (Or.inl ⟨by rfl, fun wq hSw => ?_⟩) ?_
        · refine RunB.of_calls ((by have h := Item.right a wq; rw [HRT.out] at h; exact h)) (by go_simp) ?_
          rintro e wr ⟨rfl, hb⟩
          exact ⟨rfl, hb⟩
        try simp only [List.getElem_toArray, List.getElem_cons_zero, List.getElem_cons_succ, Act.put, List.setIfInBounds_toArray, List.set_cons_zero, List.set_cons_succ]
        refine wpAnyE_take (i := 2) (v := ?_) (hsT2) (fun _ h => h) rfl (by kernel_rfl) (by kernel_rfl) (by kernel_rfl) (by kernel_rfl) (fun _ _ _ h => h) (SteadyB.of_yields (Or.inl ⟨by rfl, ?_⟩)) ?_
        rotate_left
        · intro wq hSw
          go_simp
          (try with_reducible rfl)
        try simp only [List.getElem_toArray, List.getElem_cons_zero, List.getElem_cons_succ, Act.put, List.setIfInBounds_toArray, List.set_cons_zero, List.set_cons_succ]
        refine wpAnyE_take (i := 3) (v := ?_) (hsT2) (fun _ h => h) rfl (by kernel_rfl) (by kernel_rfl) (by kernel_rfl) (by kernel_rfl) (fun _ _ _ h => h) (SteadyB.of_yields (Or.inl ⟨by rfl, ?_⟩)) ?_
        rotate_left
        · intro wq hSw
          go_simp
          (try with_reducible rfl)
        try simp only [List.getElem_toArray, List.getElem_cons_zero, List.getElem_cons_succ, Act.put, List.setIfInBounds_toArray, List.set_cons_zero, List.set_cons_succ]
        refine wpAnyE_take (i := 4) (v := ?_) (hsT2) (fun _ h => h) rfl (by kernel_rfl) (by kernel_rfl) (by kernel_rfl) (by kernel_rfl) (fun _ _ _ h => h) (SteadyB.of_yields (Or.inl ⟨by rfl, ?_⟩)) ?_
        rotate_left
        · intro wq hSw
          go_simp
          (try with_reducible rfl)
        try simp only [List.getElem_toArray, List.getElem_cons_zero, List.getElem_cons_succ, Act.put, List.setIfInBounds_toArray, List.set_cons_zero, List.set_cons_succ]
        refine wpAnyE_take (i := 5) (v := ?_) (hsT2) (fun _ h => h) rfl (by kernel_rfl) (by kernel_rfl) (by kernel_rfl) (by kernel_rfl) (fun _ _ _ h => h) (SteadyB.of_yields (Or.inl ⟨by rfl, ?_⟩)) ?_
        rotate_left
        · intro wq hSw
          go_simp
          (try with_reducible rfl)
        try simp only [List.getElem_toArray, List.getElem_cons_zero, List.getElem_cons_succ, Act.put, List.setIfInBounds_toArray, List.set_cons_zero, List.set_cons_succ]
        refine wpAnyE_take (i := 6) (v := ?_) (hsT2) (fun _ h => h) rfl (by kernel_rfl) (by kernel_rfl) (by kernel_rfl) (by kernel_rfl) (fun _ _ _ h => h) (SteadyB.of_yields (Or.inl ⟨by rfl, ?_⟩)) ?_
        rotate_left
        · intro wq hSw
          obtain ⟨p0, p1, p2, p3, p4, p5, p6⟩ := It.at a hSw.1
          go_simp
          (try with_reducible rfl)
        try simp only [List.getElem_toArray, List.getElem_cons_zero, List.getElem_cons_succ, Act.put, List.setIfInBounds_toArray, List.set_cons_zero, List.set_cons_succ]
        refine wpAnyE_take (i := 7) (v := ?_) (hsT2) (fun _ h => h) rfl (by kernel_rfl) (by kernel_rfl) (by kernel_rfl) (by kernel_rfl) (fun _ _ _ h => h) (SteadyB.of_yields (Or.inl ⟨by rfl, ?_⟩)) ?_
        rotate_left
        · intro wq hSw
          obtain ⟨p0, p1, p2, p3, p4, p5, p6⟩ := It.at a hSw.1
          go_simp
          (try with_reducible rfl)
        try simp only [List.getElem_toArray, List.getElem_cons_zero, List.getElem_cons_succ, Act.put, List.setIfInBounds_toArray, List.set_cons_zero, List.set_cons_succ]
        refine wpAnyE_take (i := 10) (v := ?_) (hsT2) (fun _ h => h) rfl (by kernel_rfl) (by kernel_rfl) (by kernel_rfl) (by kernel_rfl) (fun _ _ _ h => h) (SteadyB.of_yields (Or.inl ⟨by rfl, ?_⟩)) ?_
        rotate_left
        · intro wq hSw
          go_simp
          (try with_reducible rfl)
        try simp only [List.getElem_toArray, List.getElem_cons_zero, List.getElem_cons_succ, Act.put, List.setIfInBounds_toArray, List.set_cons_zero, List.set_cons_succ]
        refine wpAnyE_take (i := 11) (v := ?_) (hsT2) (fun _ h => h) rfl (by kernel_rfl) (by kernel_rfl) (by kernel_rfl) (by kernel_rfl) (fun _ _ _ h => h) (SteadyB.of_yields (Or.inl ⟨by rfl, ?_⟩)) ?_
        rotate_left
        · intro wq hSw
          go_simp
          (try with_reducible rfl)
        try simp only [List.getElem_toArray, List.getElem_cons_zero, List.getElem_cons_succ, Act.put, List.setIfInBounds_toArray, List.set_cons_zero, List.set_cons_succ]
        refine wpAnyE_take (i := 12) (v := ?_) (hsT2) (fun _ h => h) rfl (by kernel_rfl) (by kernel_rfl) (by kernel_rfl) (by kernel_rfl) (fun _ _ _ h => h) (SteadyB.of_yields (Or.inl ⟨by rfl, ?_⟩)) ?_
        rotate_left
        · intro wq hSw
          obtain ⟨p0, p1, p2, p3, p4, p5, p6⟩ := It.at a hSw.1
          go_simp
          (try with_reducible rfl)
        try simp only [List.getElem_toArray, List.getElem_cons_zero, List.getElem_cons_succ, Act.put, List.setIfInBounds_toArray, List.set_cons_zero, List.set_cons_succ]
        refine wpAnyE_take (i := 13) (v := ?_) (hsT2) (fun _ h => h) rfl (by kernel_rfl) (by kernel_rfl) (by kernel_rfl) (by kernel_rfl) (fun _ _ _ h => h) (SteadyB.of_yields (Or.inl ⟨by rfl, ?_⟩)) ?_
        rotate_left
        · intro wq hSw
          go_simp
          (try with_reducible rfl)
        try simp only [List.getElem_toArray, List.getElem_cons_zero, List.getElem_cons_succ, Act.put, List.setIfInBounds_toArray, List.set_cons_zero, List.set_cons_succ]
        refine wpAnyE_take (i := 14) (v := ?_) (hsT2) (fun _ h => h) rfl (by kernel_rfl) (by kernel_rfl) (by kernel_rfl) (by kernel_rfl) (fun _ _ _ h => h) (SteadyB.of_yields (Or.inl ⟨by rfl, ?_⟩)) ?_
        rotate_left
        · intro wq hSw
          go_simp
          (try with_reducible rfl)
        try simp only [List.getElem_toArray, List.getElem_cons_zero, List.getElem_cons_succ, Act.put, List.setIfInBounds_toArray, List.set_cons_zero, List.set_cons_succ]
        refine wpAnyE_take (i := 15) (v := ?_) (hsT2) (fun _ h => h) rfl (by kernel_rfl) (by kernel_rfl) (by kernel_rfl) (by kernel_rfl) (fun _ _ _ h => h) (SteadyB.of_yields (Or.inl ⟨by rfl, ?_⟩)) ?_
        rotate_left
        · intro wq hSw
          obtain ⟨p0, p1, p2, p3, p4, p5, p6⟩ := It.at a hSw.1
          go_simp
          (try with_reducible rfl)
        try simp only [List.getElem_toArray, List.getElem_cons_zero, List.getElem_cons_succ, Act.put, List.setIfInBounds_toArray, List.set_cons_zero, List.set_cons_succ]
        refine wpAnyE_slice1 (i := 8) (fun wx g => Cs wx g a.cells) rfl (by kernel_rfl) (by decide) (by rfl) (hsT2) (fun _ h => h) (fun g => fun _ _ h hb => h.below hb) (fun wq hSw => ?_) (fun gA => ?_)
        · exact ⟨_, by go_simp; (try with_reducible rfl), (Below.refl _ _).alloc (Nat.le_refl _) _, Cs.new7 _ _ a⟩
        try simp only [List.getElem_toArray, List.getElem_cons_zero, List.getElem_cons_succ, Act.put, List.setIfInBounds_toArray, List.set_cons_zero, List.set_cons_succ]
        refine wpAnyE_call (i := 9) (fun _ : Unit => Value.int .u64 (roomI a.t [a])) (fun (_ : Unit) (_ : World) => True) rfl (by kernel_rfl) (by decide) (by rfl) (Stays.and_ (hsT2) (fun _ _ h hb => h.below hb)) (fun _ h => h.1) (fun yq => stays_tt yq) (fun wq hSw => ?_) (fun yq => ?_)
        · exact RunI.of_calls (Span.room a.t (some ⟨gA, 0, none⟩) 1 1 [a] wq hSw.2.one (by omega)) (by go_simp) (fun e w' h => ⟨(), h.1, trivial, h.2⟩)
        obtain ⟨⟩ := yq
        skip
        try simp only [List.getElem_toArray, List.getElem_cons_zero, List.getElem_cons_succ, Act.put, List.setIfInBounds_toArray, List.set_cons_zero, List.set_cons_succ]
        refine wpAnyE_rest (n := 16) rfl rfl (by kernel_rfl) (fun wz hSz => ?_)
        simp only [List.toList_toArray, List.drop_succ_cons, List.drop_zero]
        have HB := hid hSz.1.1.2
        have HRR := hid (room_right HRT.out)
        have HDD := hid (right_dif HRT.out)
        clear hSz HQ9
        go_wp2_with fail
        refine (Vtime.since a.u a.t _).mono ?_
        rintro e wa ⟨rfl, hb⟩
        have HBa := hid (below_on HB.out hb)
        have e1 : IntKind.u64.wrap (dif a.u a.t) = dif a.u a.t := by rw [IntKind.wrap_u64]; have := HDD.out; omega
        have e2 : IntKind.u64.wrap (4611686018427387904 - dif a.u a.t) = 4611686018427387904 - dif a.u a.t := by rw [IntKind.wrap_u64]; have := HDD.out; omega
        rw [HRR.out]
        clear hb HB
        go_wp2_with fail
        try simp only [e1, e2]
        go_ret
        exact ⟨by first | rfl | (simp only [beq_self_eq_true]) | simp, HBa.out⟩
    · have h0' : (0 : Int) < (n : Int) := by omega
      go_wp2_with fail
      refine (Span.room b A5 (n + 1) c5 (l ++ [a]) _ HM.out (by omega)).mono ?_
      rintro e w6 ⟨rfl, hb⟩
      have HM6 := hid (HM.out.below hb)
      have HQ6 := hid (And.intro (HC5.out.below hb) (below_on HB5.out hb))
      have HR6 := hid (HR5.out.below hb)
      clear hb HM HC5 HB5 HR5
      go_wp2_with fail
      refine (Span.room b A n c l _ HR6.out (by omega)).mono ?_
      rintro e w7 ⟨rfl, hb⟩
      have HM7 := hid (HM6.out.below hb)
      have HQ7 := hid (And.intro (HQ6.out.1.below hb) (below_on HQ6.out.2 hb))
      have HR7 := hid (HR6.out.below hb)
      have hgt : ¬ roomI b l < roomI b (l ++ [a]) := by have := grows_room b a (l := l) (by have := HLN.out; omega); omega
      clear hb HM6 HQ6 HR6
      go_wp2_with fail
      refine (Span.within b A5 (n + 1) c5 (l ++ [a]) _ HM7.out (by omega)).mono ?_
      cases hW : withinI b (l ++ [a])
      · rintro e w9 ⟨rfl, hb⟩
        have HQ9 := hid (And.intro (HQ7.out.1.below hb) (below_on HQ7.out.2 hb))
        clear hb HQ7 HM7 HR7
        go_wp2_with fail
        cases hrt : It.right a
        · have HRT := hid hrt
          clear hrt
          have hsT3 : Stays (fun wx => Cs wx w.heap.size a.cells ∧ Below w.heap.size w wx) := fun _ _ h hb => ⟨h.1.below hb, below_on h.2 hb⟩
          refine wp_region_grow (S := fun wx => Cs wx w.heap.size a.cells ∧ Below w.heap.size w wx) 16 (by kernel_rfl) (hsT3 _ _ (HQ9.out) (Below.refl _ _).drew) ?_
          refine wpAnyE_take (i := 0) (v := ?_) (hsT3) (fun _ h => h) rfl (by kernel_rfl) (by kernel_rfl) (by kernel_rfl) (by kernel_rfl) (fun _ _ _ h => h) (SteadyB.of_yields (Or.inl ⟨by rfl, ?_⟩)) ?_
          rotate_left
          · intro wq hSw
            obtain ⟨p0, p1, p2, p3, p4, p5, p6⟩ := It.at a hSw.1
            go_simp
            (try with_reducible rfl)
          try simp only [List.getElem_toArray, List.getElem_cons_zero, List.getElem_cons_succ, Act.put, List.setIfInBounds_toArray, List.set_cons_zero, List.set_cons_succ]
          refine wpAnyE_take (i := 1) (v := Value.bool false) (hsT3) (fun _ h => h) rfl (by kernel_rfl) (by kernel_rfl) (by kernel_rfl) (by kernel_rfl) (fun _ _ _ h => h) (Or.inl ⟨by rfl, fun wq hSw => ?_⟩) ?_
          · refine RunB.of_calls ((by have h := Item.right a wq; rw [HRT.out] at h; exact h)) (by go_simp) ?_
            rintro e wr ⟨rfl, hb⟩
            exact ⟨rfl, hb⟩
          try simp only [List.getElem_toArray, List.getElem_cons_zero, List.getElem_cons_succ, Act.put, List.setIfInBounds_toArray, List.set_cons_zero, List.set_cons_succ]
          refine wpAnyE_take (i := 2) (v := ?_) (hsT3) (fun _ h => h) rfl (by kernel_rfl) (by kernel_rfl) (by kernel_rfl) (by kernel_rfl) (fun _ _ _ h => h) (SteadyB.of_yields (Or.inl ⟨by rfl, ?_⟩)) ?_
          rotate_left
          · intro wq hSw
            go_simp
            (try with_reducible rfl)
          try simp only [List.getElem_toArray, List.getElem_cons_zero, List.getElem_cons_succ, Act.put, List.setIfInBounds_toArray, List.set_cons_zero, List.set_cons_succ]
          refine wpAnyE_take (i := 3) (v := ?_) (hsT3) (fun _ h => h) rfl (by kernel_rfl) (by kernel_rfl) (by kernel_rfl) (by kernel_rfl) (fun _ _ _ h => h) (SteadyB.of_yields (Or.inl ⟨by rfl, ?_⟩)) ?_
          rotate_left
          · intro wq hSw
            go_simp
            (try with_reducible rfl)
          try simp only [List.getElem_toArray, List.getElem_cons_zero, List.getElem_cons_succ, Act.put, List.setIfInBounds_toArray, List.set_cons_zero, List.set_cons_succ]
          refine wpAnyE_take (i := 4) (v := undef) (hsT3) (fun _ h => h) rfl (by kernel_rfl) (by kernel_rfl) (by kernel_rfl) (by kernel_rfl) (fun _ _ _ h => h) (Or.inr ⟨by rfl, rfl⟩) ?_
          try simp only [List.getElem_toArray, List.getElem_cons_zero, List.getElem_cons_succ, Act.put, List.setIfInBounds_toArray, List.set_cons_zero, List.set_cons_succ]
          refine wpAnyE_take (i := 5) (v := undef) (hsT3) (fun _ h => h) rfl (by kernel_rfl) (by kernel_rfl) (by kernel_rfl) (by kernel_rfl) (fun _ _ _ h => h) (Or.inr ⟨by rfl, rfl⟩) ?_
          try simp only [List.getElem_toArray, List.getElem_cons_zero, List.getElem_cons_succ, Act.put, List.setIfInBounds_toArray, List.set_cons_zero, List.set_cons_succ]
          refine wpAnyE_take (i := 6) (v := undef) (hsT3) (fun _ h => h) rfl (by kernel_rfl) (by kernel_rfl) (by kernel_rfl) (by kernel_rfl) (fun _ _ _ h => h) (Or.inr ⟨by rfl, rfl⟩) ?_
          try simp only [List.getElem_toArray, List.getElem_cons_zero, List.getElem_cons_succ, Act.put, List.setIfInBounds_toArray, List.set_cons_zero, List.set_cons_succ]
          refine wpAnyE_take (i := 7) (v := undef) (hsT3) (fun _ h => h) rfl (by kernel_rfl) (by kernel_rfl) (by kernel_rfl) (by kernel_rfl) (fun _ _ _ h => h) (Or.inr ⟨by rfl, rfl⟩) ?_
          try simp only [List.getElem_toArray, List.getElem_cons_zero, List.getElem_cons_succ, Act.put, List.setIfInBounds_toArray, List.set_cons_zero, List.set_cons_succ]
          refine wpAnyE_take (i := 8) (v := undef) (hsT3) (fun _ h => h) rfl (by kernel_rfl) (by kernel_rfl) (by kernel_rfl) (by kernel_rfl) (fun _ _ _ h => h) (Or.inr ⟨by rfl, rfl⟩) ?_
          try simp only [List.getElem_toArray, List.getElem_cons_zero, List.getElem_cons_succ, Act.put, List.setIfInBounds_toArray, List.set_cons_zero, List.set_cons_succ]
          refine wpAnyE_take (i := 9) (v := undef) (hsT3) (fun _ h => h) rfl (by kernel_rfl) (by kernel_rfl) (by kernel_rfl) (by kernel_rfl) (fun _ _ _ h => h) (Or.inr ⟨by rfl, rfl⟩) ?_
          try simp only [List.getElem_toArray, List.getElem_cons_zero, List.getElem_cons_succ, Act.put, List.setIfInBounds_toArray, List.set_cons_zero, List.set_cons_succ]
          refine wpAnyE_take (i := 10) (v := undef) (hsT3) (fun _ h => h) rfl (by kernel_rfl) (by kernel_rfl) (by kernel_rfl) (by kernel_rfl) (fun _ _ _ h => h) (Or.inr ⟨by rfl, rfl⟩) ?_
          try simp only [List.getElem_toArray, List.getElem_cons_zero, List.getElem_cons_succ, Act.put, List.setIfInBounds_toArray, List.set_cons_zero, List.set_cons_succ]
          refine wpAnyE_take (i := 11) (v := undef) (hsT3) (fun _ h => h) rfl (by kernel_rfl) (by kernel_rfl) (by kernel_rfl) (by kernel_rfl) (fun _ _ _ h => h) (Or.inr ⟨by rfl, rfl⟩) ?_
          try simp only [List.getElem_toArray, List.getElem_cons_zero, List.getElem_cons_succ, Act.put, List.setIfInBounds_toArray, List.set_cons_zero, List.set_cons_succ]
          refine wpAnyE_take (i := 12) (v := undef) (hsT3) (fun _ h => h) rfl (by kernel_rfl) (by kernel_rfl) (by kernel_rfl) (by kernel_rfl) (fun _ _ _ h => h) (Or.inr ⟨by rfl, rfl⟩) ?_
          try simp only [List.getElem_toArray, List.getElem_cons_zero, List.getElem_cons_succ, Act.put, List.setIfInBounds_toArray, List.set_cons_zero, List.set_cons_succ]
          refine wpAnyE_take (i := 13) (v := undef) (hsT3) (fun _ h => h) rfl (by kernel_rfl) (by kernel_rfl) (by kernel_rfl) (by kernel_rfl) (fun _ _ _ h => h) (Or.inr ⟨by rfl, rfl⟩) ?_
          try simp only [List.getElem_toArray, List.getElem_cons_zero, List.getElem_cons_succ, Act.put, List.setIfInBounds_toArray, List.set_cons_zero, List.set_cons_succ]
          refine wpAnyE_take (i := 14) (v := undef) (hsT3) (fun _ h => h) rfl (by kernel_rfl) (by kernel_rfl) (by kernel_rfl) (by kernel_rfl) (fun _ _ _ h => h) (Or.inr ⟨by rfl, rfl⟩) ?_
          try simp only [List.getElem_toArray, List.getElem_cons_zero, List.getElem_cons_succ, Act.put, List.setIfInBounds_toArray, List.set_cons_zero, List.set_cons_succ]
          refine wpAnyE_take (i := 15) (v := undef) (hsT3) (fun _ h => h) rfl (by kernel_rfl) (by kernel_rfl) (by kernel_rfl) (by kernel_rfl) (fun _ _ _ h => h) (Or.inr ⟨by rfl, rfl⟩) ?_
          try simp only [List.getElem_toArray, List.getElem_cons_zero, List.getElem_cons_succ, Act.put, List.setIfInBounds_toArray, List.set_cons_zero, List.set_cons_succ]
          refine wpAnyE_rest (n := 16) rfl rfl (by kernel_rfl) (fun wz hSz => ?_)
          simp only [List.toList_toArray, List.drop_succ_cons, List.drop_zero]
          have HB := hid hSz.2
          clear hSz HQ9
          go_wp2_with fail
          go_ret
          exact ⟨rfl, HB.out⟩
        · have HRT := hid hrt
          clear hrt
          have hsT4 : Stays (fun wx => Cs wx w.heap.size a.cells ∧ Below w.heap.size w wx) := fun _ _ h hb => ⟨h.1.below hb, below_on h.2 hb⟩
          refine wp_region_grow (S := fun wx => Cs wx w.heap.size a.cells ∧ Below w.heap.size w wx) 16 (by kernel_rfl) (hsT4 _ _ (HQ9.out) (Below.refl _ _).drew) ?_
          refine wpAnyE_take (i := 0) (v := ?_) (hsT4) (fun _ h => h) rfl (by kernel_rfl) (by kernel_rfl) (by kernel_rfl) (by kernel_rfl) (fun _ _ _ h => h) (SteadyB.of_yields (Or.inl ⟨by rfl, ?_⟩)) ?_
          rotate_left
          · intro wq hSw
            obtain ⟨p0, p1, p2, p3, p4, p5, p6⟩ := It.at a hSw.1
            go_simp
            (try with_reducible rfl)
          try simp only [List.getElem_toArray, List.getElem_cons_zero, List.getElem_cons_succ, Act.put, List.setIfInBounds_toArray, List.set_cons_zero, List.set_cons_succ]
          refine wpAnyE_take (i := 1) (v := Value.bool true) (hsT4) (fun _ h => h) rfl (by kernel_rfl) (by kernel_rfl) (by kernel_rfl) (by kernel_rfl) (fun _ _ _ h => h) (Or.inl ⟨by rfl, fun wq hSw => ?_⟩) ?_
          · refine RunB.of_calls ((by have h := Item.right a wq; rw [HRT.out] at h; exact h)) (by go_simp) ?_
            rintro e wr ⟨rfl, hb⟩
            exact ⟨rfl, hb⟩
          try simp only [List.getElem_toArray, List.getElem_cons_zero, List.getElem_cons_succ, Act.put, List.setIfInBounds_toArray, List.set_cons_zero, List.set_cons_succ]
          refine wpAnyE_take (i := 2) (v := ?_) (hsT4) (fun _ h => h) rfl (by kernel_rfl) (by kernel_rfl) (by kernel_rfl) (by kernel_rfl) (fun _ _ _ h => h) (SteadyB.of_yields (Or.inl ⟨by rfl, ?_⟩)) ?_
          rotate_left
          · intro wq hSw
            go_simp
            (try with_reducible rfl)
          try simp only [List.getElem_toArray, List.getElem_cons_zero, List.getElem_cons_succ, Act.put, List.setIfInBounds_toArray, List.set_cons_zero, List.set_cons_succ]
          refine wpAnyE_take (i := 3) (v := ?_) (hsT4) (fun _ h => h) rfl (by kernel_rfl) (by kernel_rfl) (by kernel_rfl) (by kernel_rfl) (fun _ _ _ h => h) (SteadyB.of_yields (Or.inl ⟨by rfl, ?_⟩)) ?_
          rotate_left
          · intro wq hSw
            go_simp
            (try with_reducible rfl)
          try simp only [List.getElem_toArray, List.getElem_cons_zero, List.getElem_cons_succ, Act.put, List.setIfInBounds_toArray, List.set_cons_zero, List.set_cons_succ]
          refine wpAnyE_take (i := 4) (v := ?_) (hsT4) (fun _ h => h) rfl (by kernel_rfl) (by kernel_rfl) (by kernel_rfl) (by kernel_rfl) (fun _ _ _ h => h) (SteadyB.of_yields (Or.inl ⟨by rfl, ?_⟩)) ?_
          rotate_left
          · intro wq hSw
            go_simp
            (try with_reducible rfl)
          try simp only [List.getElem_toArray, List.getElem_cons_zero, List.getElem_cons_succ, Act.put, List.setIfInBounds_toArray, List.set_cons_zero, List.set_cons_succ]
          refine wpAnyE_take (i := 5) (v := ?_) (hsT4) (fun _ h => h) rfl (by kernel_rfl) (by kernel_rfl) (by kernel_rfl) (by kernel_rfl) (fun _ _ _ h => h) (SteadyB.of_yields (Or.inl ⟨by rfl, ?_⟩)) ?_
          rotate_left
          · intro wq hSw
            go_simp
            (try with_reducible rfl)
          try simp only [List.getElem_toArray, List.getElem_cons_zero, List.getElem_cons_succ, Act.put, List.setIfInBounds_toArray, List.set_cons_zero, List.set_cons_succ]
          refine wpAnyE_take (i := 6) (v := ?_) (hsT4) (fun _ h => h) rfl (by kernel_rfl) (by kernel_rfl) (by kernel_rfl) (by kernel_rfl) (fun _ _ _ h => h) (SteadyB.of_yields (Or.inl ⟨by rfl, ?_⟩)) ?_
          rotate_left
          · intro wq hSw
            obtain ⟨p0, p1, p2, p3, p4, p5, p6⟩ := It.at a hSw.1
            go_simp
            (try with_reducible rfl)
          try simp only [List.getElem_toArray, List.getElem_cons_zero, List.getElem_cons_succ, Act.put, List.setIfInBounds_toArray, List.set_cons_zero, List.set_cons_succ]
          refine wpAnyE_take (i := 7) (v := ?_) (hsT4) (fun _ h => h) rfl (by kernel_rfl) (by kernel_rfl) (by kernel_rfl) (by kernel_rfl) (fun _ _ _ h => h) (SteadyB.of_yields (Or.inl ⟨by rfl, ?_⟩)) ?_
          rotate_left
          · intro wq hSw
            obtain ⟨p0, p1, p2, p3, p4, p5, p6⟩ := It.at a hSw.1
            go_simp
            (try with_reducible rfl)
          try simp only [List.getElem_toArray, List.getElem_cons_zero, List.getElem_cons_succ, Act.put, List.setIfInBounds_toArray, List.set_cons_zero, List.set_cons_succ]
          refine wpAnyE_take (i := 10) (v := ?_) (hsT4) (fun _ h => h) rfl (by kernel_rfl) (by kernel_rfl) (by kernel_rfl) (by kernel_rfl) (fun _ _ _ h => h) (SteadyB.of_yields (Or.inl ⟨by rfl, ?_⟩)) ?_
          rotate_left
          · intro wq hSw
            go_simp
            (try with_reducible rfl)
          try simp only [List.getElem_toArray, List.getElem_cons_zero, List.getElem_cons_succ, Act.put, List.setIfInBounds_toArray, List.set_cons_zero, List.set_cons_succ]
          refine wpAnyE_take (i := 11) (v := ?_) (hsT4) (fun _ h => h) rfl (by kernel_rfl) (by kernel_rfl) (by kernel_rfl) (by kernel_rfl) (fun _ _ _ h => h) (SteadyB.of_yields (Or.inl ⟨by rfl, ?_⟩)) ?_
          rotate_left
          · intro wq hSw
            go_simp
            (try with_reducible rfl)
          try simp only [List.getElem_toArray, List.getElem_cons_zero, List.getElem_cons_succ, Act.put, List.setIfInBounds_toArray, List.set_cons_zero, List.set_cons_succ]
          refine wpAnyE_take (i := 12) (v := ?_) (hsT4) (fun _ h => h) rfl (by kernel_rfl) (by kernel_rfl) (by kernel_rfl) (by kernel_rfl) (fun _ _ _ h => h) (SteadyB.of_yields (Or.inl ⟨by rfl, ?_⟩)) ?_
          rotate_left
          · intro wq hSw
            obtain ⟨p0, p1, p2, p3, p4, p5, p6⟩ := It.at a hSw.1
            go_simp
            (try with_reducible rfl)
          try simp only [List.getElem_toArray, List.getElem_cons_zero, List.getElem_cons_succ, Act.put, List.setIfInBounds_toArray, List.set_cons_zero, List.set_cons_succ]
          refine wpAnyE_take (i := 13) (v := ?_) (hsT4) (fun _ h => h) rfl (by kernel_rfl) (by kernel_rfl) (by kernel_rfl) (by kernel_rfl) (fun _ _ _ h => h) (SteadyB.of_yields (Or.inl ⟨by rfl, ?_⟩)) ?_
          rotate_left
          · intro wq hSw
            go_simp
            (try with_reducible rfl)
          try simp only [List.getElem_toArray, List.getElem_cons_zero, List.getElem_cons_succ, Act.put, List.setIfInBounds_toArray, List.set_cons_zero, List.set_cons_succ]
          refine wpAnyE_take (i := 14) (v := ?_) (hsT4) (fun _ h => h) rfl (by kernel_rfl) (by kernel_rfl) (by kernel_rfl) (by kernel_rfl) (fun _ _ _ h => h) (SteadyB.of_yields (Or.inl ⟨by rfl, ?_⟩)) ?_
          rotate_left
          · intro wq hSw
            go_simp
            (try with_reducible rfl)
          try simp only [List.getElem_toArray, List.getElem_cons_zero, List.getElem_cons_succ, Act.put, List.setIfInBounds_toArray, List.set_cons_zero, List.set_cons_succ]
          refine wpAnyE_take (i := 15) (v := ?_) (hsT4) (fun _ h => h) rfl (by kernel_rfl) (by kernel_rfl) (by kernel_rfl) (by kernel_rfl) (fun _ _ _ h => h) (SteadyB.of_yields (Or.inl ⟨by rfl, ?_⟩)) ?_
          rotate_left
          · intro wq hSw
            obtain ⟨p0, p1, p2, p3, p4, p5, p6⟩ := It.at a hSw.1
            go_simp
            (try with_reducible rfl)
          try simp only [List.getElem_toArray, List.getElem_cons_zero, List.getElem_cons_succ, Act.put, List.setIfInBounds_toArray, List.set_cons_zero, List.set_cons_succ]
          refine wpAnyE_slice1 (i := 8) (fun wx g => Cs wx g a.cells) rfl (by kernel_rfl) (by decide) (by rfl) (hsT4) (fun _ h => h) (fun g => fun _ _ h hb => h.below hb) (fun wq hSw => ?_) (fun gA => ?_)
          · exact ⟨_, by go_simp; (try with_reducible rfl), (Below.refl _ _).alloc (Nat.le_refl _) _, Cs.new7 _ _ a⟩
          try simp only [List.getElem_toArray, List.getElem_cons_zero, List.getElem_cons_succ, Act.put, List.setIfInBounds_toArray, List.set_cons_zero, List.set_cons_succ]
          refine wpAnyE_call (i := 9) (fun _ : Unit => Value.int .u64 (roomI a.t [a])) (fun (_ : Unit) (_ : World) => True) rfl (by kernel_rfl) (by decide) (by rfl) (Stays.and_ (hsT4) (fun _ _ h hb => h.below hb)) (fun _ h => h.1) (fun yq => stays_tt yq) (fun wq hSw => ?_) (fun yq => ?_)
          · exact RunI.of_calls (Span.room a.t (some ⟨gA, 0, none⟩) 1 1 [a] wq hSw.2.one (by omega)) (by go_simp) (fun e w' h => ⟨(), h.1, trivial, h.2⟩)
          obtain ⟨⟩ := yq
          skip
          try simp only [List.getElem_toArray, List.getElem_cons_zero, List.getElem_cons_succ, Act.put, List.setIfInBounds_toArray, List.set_cons_zero, List.set_cons_succ]
          refine wpAnyE_rest (n := 16) rfl rfl (by kernel_rfl) (fun wz hSz => ?_)
          simp only [List.toList_toArray, List.drop_succ_cons, List.drop_zero]
          have HB := hid hSz.1.1.2
          have HRR := hid (room_right HRT.out)
          have HDD := hid (right_dif HRT.out)
          clear hSz HQ9
          go_wp2_with fail
          refine (Vtime.since a.u a.t _).mono ?_
          rintro e wa ⟨rfl, hb⟩
          have HBa := hid (below_on HB.out hb)
          have e1 : IntKind.u64.wrap (dif a.u a.t) = dif a.u a.t := by rw [IntKind.wrap_u64]; have := HDD.out; omega
          have e2 : IntKind.u64.wrap (4611686018427387904 - dif a.u a.t) = 4611686018427387904 - dif a.u a.t := by rw [IntKind.wrap_u64]; have := HDD.out; omega
          rw [HRR.out]
          clear hb HB
          go_wp2_with fail
          try simp only [e1, e2]
          go_ret
          exact ⟨by first | rfl | (simp only [beq_self_eq_true]) | simp, HBa.out⟩
      · rintro e w8 ⟨rfl, hb⟩
        have HQ8 := hid (And.intro (HQ7.out.1.below hb) (below_on HQ7.out.2 hb))
        have HR8 := hid (HR7.out.below hb)
        have hW2 := grows_within b a (l := l) (by have := HLN.out; omega) hW
        clear hb HQ7 HM7 HR7
        go_wp2_with fail
        refine (Span.within b A n c l _ HR8.out (by omega)).mono ?_
        rw [hW2]
        rintro e w9 ⟨rfl, hb⟩
        have HQ9 := hid (And.intro (HQ8.out.1.below hb) (below_on HQ8.out.2 hb))
        clear hb HQ8 HR8
        go_wp2_with fail
        cases hrt : It.right a
        · have HRT := hid hrt
          clear hrt
          have hsT3 : Stays (fun wx => Cs wx w.heap.size a.cells ∧ Below w.heap.size w wx) := fun _ _ h hb => ⟨h.1.below hb, below_on h.2 hb⟩
          refine wp_region_grow (S := fun wx => Cs wx w.heap.size a.cells ∧ Below w.heap.size w wx) 16 (by kernel_rfl) (hsT3 _ _ (HQ9.out) (Below.refl _ _).drew) ?_
          refine wpAnyE_take (i := 0) (v := ?_) (hsT3) (fun _ h => h) rfl (by kernel_rfl) (by kernel_rfl) (by kernel_rfl) (by kernel_rfl) (fun _ _ _ h => h) (SteadyB.of_yields (Or.inl ⟨by rfl, ?_⟩)) ?_
          rotate_left
          · intro wq hSw
            obtain ⟨p0, p1, p2, p3, p4, p5, p6⟩ := It.at a hSw.1
            go_simp
            (try with_reducible rfl)
          try simp only [List.getElem_toArray, List.getElem_cons_zero, List.getElem_cons_succ, Act.put, List.setIfInBounds_toArray, List.set_cons_zero, List.set_cons_succ]
          refine wpAnyE_take (i := 1) (v := Value.bool false) (hsT3) (fun _ h => h) rfl (by kernel_rfl) (by kernel_rfl) (by kernel_rfl) (by kernel_rfl) (fun _ _ _ h => h) (Or.inl ⟨by rfl, fun wq hSw => ?_⟩) ?_
          · refine RunB.of_calls ((by have h := Item.right a wq; rw [HRT.out] at h; exact h)) (by go_simp) ?_
            rintro e wr ⟨rfl, hb⟩
            exact ⟨rfl, hb⟩
          try simp only [List.getElem_toArray, List.getElem_cons_zero, List.getElem_cons_succ, Act.put, List.setIfInBounds_toArray, List.set_cons_zero, List.set_cons_succ]
          refine wpAnyE_take (i := 2) (v := ?_) (hsT3) (fun _ h => h) rfl (by kernel_rfl) (by kernel_rfl) (by kernel_rfl) (by kernel_rfl) (fun _ _ _ h => h) (SteadyB.of_yields (Or.inl ⟨by rfl, ?_⟩)) ?_
          rotate_left
          · intro wq hSw
            go_simp
            (try with_reducible rfl)
          try simp only [List.getElem_toArray, List.getElem_cons_zero, List.getElem_cons_succ, Act.put, List.setIfInBounds_toArray, List.set_cons_zero, List.set_cons_succ]
          refine wpAnyE_take (i := 3) (v := ?_) (hsT3) (fun _ h => h) rfl (by kernel_rfl) (by kernel_rfl) (by kernel_rfl) (by kernel_rfl) (fun _ _ _ h => h) (SteadyB.of_yields (Or.inl ⟨by rfl, ?_⟩)) ?_
          rotate_left
          · intro wq hSw
            go_simp
            (try with_reducible rfl)
          try simp only [List.getElem_toArray, List.getElem_cons_zero, List.getElem_cons_succ, Act.put, List.setIfInBounds_toArray, List.set_cons_zero, List.set_cons_succ]
          refine wpAnyE_take (i := 4) (v := undef) (hsT3) (fun _ h => h) rfl (by kernel_rfl) (by kernel_rfl) (by kernel_rfl) (by kernel_rfl) (fun _ _ _ h => h) (Or.inr ⟨by rfl, rfl⟩) ?_
          try simp only [List.getElem_toArray, List.getElem_cons_zero, List.getElem_cons_succ, Act.put, List.setIfInBounds_toArray, List.set_cons_zero, List.set_cons_succ]
          refine wpAnyE_take (i := 5) (v := undef) (hsT3) (fun _ h => h) rfl (by kernel_rfl) (by kernel_rfl) (by kernel_rfl) (by kernel_rfl) (fun _ _ _ h => h) (Or.inr ⟨by rfl, rfl⟩) ?_
          try simp only [List.getElem_toArray, List.getElem_cons_zero, List.getElem_cons_succ, Act.put, List.setIfInBounds_toArray, List.set_cons_zero, List.set_cons_succ]
          refine wpAnyE_take (i := 6) (v := undef) (hsT3) (fun _ h => h) rfl (by kernel_rfl) (by kernel_rfl) (by kernel_rfl) (by kernel_rfl) (fun _ _ _ h => h) (Or.inr ⟨by rfl, rfl⟩) ?_
          try simp only [List.getElem_toArray, List.getElem_cons_zero, List.getElem_cons_succ, Act.put, List.setIfInBounds_toArray, List.set_cons_zero, List.set_cons_succ]
          refine wpAnyE_take (i := 7) (v := undef) (hsT3) (fun _ h => h) rfl (by kernel_rfl) (by kernel_rfl) (by kernel_rfl) (by kernel_rfl) (fun _ _ _ h => h) (Or.inr ⟨by rfl, rfl⟩) ?_
          try simp only [List.getElem_toArray, List.getElem_cons_zero, List.getElem_cons_succ, Act.put, List.setIfInBounds_toArray, List.set_cons_zero, List.set_cons_succ]
          refine wpAnyE_take (i := 8) (v := undef) (hsT3) (fun _ h => h) rfl (by kernel_rfl) (by kernel_rfl) (by kernel_rfl) (by kernel_rfl) (fun _ _ _ h => h) (Or.inr ⟨by rfl, rfl⟩) ?_
          try simp only [List.getElem_toArray, List.getElem_cons_zero, List.getElem_cons_succ, Act.put, List.setIfInBounds_toArray, List.set_cons_zero, List.set_cons_succ]
          refine wpAnyE_take (i := 9) (v := undef) (hsT3) (fun _ h => h) rfl (by kernel_rfl) (by kernel_rfl) (by kernel_rfl) (by kernel_rfl) (fun _ _ _ h => h) (Or.inr ⟨by rfl, rfl⟩) ?_
          try simp only [List.getElem_toArray, List.getElem_cons_zero, List.getElem_cons_succ, Act.put, List.setIfInBounds_toArray, List.set_cons_zero, List.set_cons_succ]
          refine wpAnyE_take (i := 10) (v := undef) (hsT3) (fun _ h => h) rfl (by kernel_rfl) (by kernel_rfl) (by kernel_rfl) (by kernel_rfl) (fun _ _ _ h => h) (Or.inr ⟨by rfl, rfl⟩) ?_
          try simp only [List.getElem_toArray, List.getElem_cons_zero, List.getElem_cons_succ, Act.put, List.setIfInBounds_toArray, List.set_cons_zero, List.set_cons_succ]
          refine wpAnyE_take (i := 11) (v := undef) (hsT3) (fun _ h => h) rfl (by kernel_rfl) (by kernel_rfl) (by kernel_rfl) (by kernel_rfl) (fun _ _ _ h => h) (Or.inr ⟨by rfl, rfl⟩) ?_
          try simp only [List.getElem_toArray, List.getElem_cons_zero, List.getElem_cons_succ, Act.put, List.setIfInBounds_toArray, List.set_cons_zero, List.set_cons_succ]
          refine wpAnyE_take (i := 12) (v := undef) (hsT3) (fun _ h => h) rfl (by kernel_rfl) (by kernel_rfl) (by kernel_rfl) (by kernel_rfl) (fun _ _ _ h => h) (Or.inr ⟨by rfl, rfl⟩) ?_
          try simp only [List.getElem_toArray, List.getElem_cons_zero, List.getElem_cons_succ, Act.put, List.setIfInBounds_toArray, List.set_cons_zero, List.set_cons_succ]
          refine wpAnyE_take (i := 13) (v := undef) (hsT3) (fun _ h => h) rfl (by kernel_rfl) (by kernel_rfl) (by kernel_rfl) (by kernel_rfl) (fun _ _ _ h => h) (Or.inr ⟨by rfl, rfl⟩) ?_
          try simp only [List.getElem_toArray, List.getElem_cons_zero, List.getElem_cons_succ, Act.put, List.setIfInBounds_toArray, List.set_cons_zero, List.set_cons_succ]
          refine wpAnyE_take (i := 14) (v := undef) (hsT3) (fun _ h => h) rfl (by kernel_rfl) (by kernel_rfl) (by kernel_rfl) (by kernel_rfl) (fun _ _ _ h => h) (Or.inr ⟨by rfl, rfl⟩) ?_
          try simp only [List.getElem_toArray, List.getElem_cons_zero, List.getElem_cons_succ, Act.put, List.setIfInBounds_toArray, List.set_cons_zero, List.set_cons_succ]
          refine wpAnyE_take (i := 15) (v := undef) (hsT3) (fun _ h => h) rfl (by kernel_rfl) (by kernel_rfl) (by kernel_rfl) (by kernel_rfl) (fun _ _ _ h => h) (Or.inr ⟨by rfl, rfl⟩) ?_
          try simp only [List.getElem_toArray, List.getElem_cons_zero, List.getElem_cons_succ, Act.put, List.setIfInBounds_toArray, List.set_cons_zero, List.set_cons_succ]
          refine wpAnyE_rest (n := 16) rfl rfl (by kernel_rfl) (fun wz hSz => ?_)
          simp only [List.toList_toArray, List.drop_succ_cons, List.drop_zero]
          have HB := hid hSz.2
          clear hSz HQ9
          go_wp2_with fail
          go_ret
          exact ⟨rfl, HB.out⟩
        · have HRT := hid hrt
          clear hrt
          have hsT4 : Stays (fun wx => Cs wx w.heap.size a.cells ∧ Below w.heap.size w wx) := fun _ _ h hb => ⟨h.1.below hb, below_on h.2 hb⟩
          refine wp_region_grow (S := fun wx => Cs wx w.heap.size a.cells ∧ Below w.heap.size w wx) 16 (by kernel_rfl) (hsT4 _ _ (HQ9.out) (Below.refl _ _).drew) ?_
          refine wpAnyE_take (i := 0) (v := ?_) (hsT4) (fun _ h => h) rfl (by kernel_rfl) (by kernel_rfl) (by kernel_rfl) (by kernel_rfl) (fun _ _ _ h => h) (SteadyB.of_yields (Or.inl ⟨by rfl, ?_⟩)) ?_
          rotate_left
          · intro wq hSw
            obtain ⟨p0, p1, p2, p3, p4, p5, p6⟩ := It.at a hSw.1
            go_simp
            (try with_reducible rfl)
          try simp only [List.getElem_toArray, List.getElem_cons_zero, List.getElem_cons_succ, Act.put, List.setIfInBounds_toArray, List.set_cons_zero, List.set_cons_succ]
          refine wpAnyE_take (i := 1) (v := Value.bool true) (hsT4) (fun _ h => h) rfl (by kernel_rfl) (by kernel_rfl) (by kernel_rfl) (by kernel_rfl) (fun _ _ _ h => h) (Or.inl ⟨by rfl, fun wq hSw => ?_⟩) ?_
          · refine RunB.of_calls ((by have h := Item.right a wq; rw [HRT.out] at h; exact h)) (by go_simp) ?_
            rintro e wr ⟨rfl, hb⟩
            exact ⟨rfl, hb⟩
          try simp only [List.getElem_toArray, List.getElem_cons_zero, List.getElem_cons_succ, Act.put, List.setIfInBounds_toArray, List.set_cons_zero, List.set_cons_succ]
          refine wpAnyE_take (i := 2) (v := ?_) (hsT4) (fun _ h => h) rfl (by kernel_rfl) (by kernel_rfl) (by kernel_rfl) (by kernel_rfl) (fun _ _ _ h => h) (SteadyB.of_yields (Or.inl ⟨by rfl, ?_⟩)) ?_
          rotate_left
          · intro wq hSw
            go_simp
            (try with_reducible rfl)
          try simp only [List.getElem_toArray, List.getElem_cons_zero, List.getElem_cons_succ, Act.put, List.setIfInBounds_toArray, List.set_cons_zero, List.set_cons_succ]
          refine wpAnyE_take (i := 3) (v := ?_) (hsT4) (fun _ h => h) rfl (by kernel_rfl) (by kernel_rfl) (by kernel_rfl) (by kernel_rfl) (fun _ _ _ h => h) (SteadyB.of_yields (Or.inl ⟨by rfl, ?_⟩)) ?_
          rotate_left
          · intro wq hSw
            go_simp
            (try with_reducible rfl)
          try simp only [List.getElem_toArray, List.getElem_cons_zero, List.getElem_cons_succ, Act.put, List.setIfInBounds_toArray, List.set_cons_zero, List.set_cons_succ]
          refine wpAnyE_take (i := 4) (v := ?_) (hsT4) (fun _ h => h) rfl (by kernel_rfl) (by kernel_rfl) (by kernel_rfl) (by kernel_rfl) (fun _ _ _ h => h) (SteadyB.of_yields (Or.inl ⟨by rfl, ?_⟩)) ?_
          rotate_left
          · intro wq hSw
            go_simp
            (try with_reducible rfl)
          try simp only [List.getElem_toArray, List.getElem_cons_zero, List.getElem_cons_succ, Act.put, List.setIfInBounds_toArray, List.set_cons_zero, List.set_cons_succ]
          refine wpAnyE_take (i := 5) (v := ?_) (hsT4) (fun _ h => h) rfl (by kernel_rfl) (by kernel_rfl) (by kernel_rfl) (by kernel_rfl) (fun _ _ _ h => h) (SteadyB.of_yields (Or.inl ⟨by rfl, ?_⟩)) ?_
          rotate_left
          · intro wq hSw
            go_simp
            (try with_reducible rfl)
          try simp only [List.getElem_toArray, List.getElem_cons_zero, List.getElem_cons_succ, Act.put, List.setIfInBounds_toArray, List.set_cons_zero, List.set_cons_succ]
          refine wpAnyE_take (i := 6) (v := ?_) (hsT4) (fun _ h => h) rfl (by kernel_rfl) (by kernel_rfl) (by kernel_rfl) (by kernel_rfl) (fun _ _ _ h => h) (SteadyB.of_yields (Or.inl ⟨by rfl, ?_⟩)) ?_
          rotate_left
          · intro wq hSw
            obtain ⟨p0, p1, p2, p3, p4, p5, p6⟩ := It.at a hSw.1
            go_simp
            (try with_reducible rfl)
          try simp only [List.getElem_toArray, List.getElem_cons_zero, List.getElem_cons_succ, Act.put, List.setIfInBounds_toArray, List.set_cons_zero, List.set_cons_succ]
          refine wpAnyE_take (i := 7) (v := ?_) (hsT4) (fun _ h => h) rfl (by kernel_rfl) (by kernel_rfl) (by kernel_rfl) (by kernel_rfl) (fun _ _ _ h => h) (SteadyB.of_yields (Or.inl ⟨by rfl, ?_⟩)) ?_
          rotate_left
          · intro wq hSw
            obtain ⟨p0, p1, p2, p3, p4, p5, p6⟩ := It.at a hSw.1
            go_simp
            (try with_reducible rfl)
          try simp only [List.getElem_toArray, List.getElem_cons_zero, List.getElem_cons_succ, Act.put, List.setIfInBounds_toArray, List.set_cons_zero, List.set_cons_succ]
          refine wpAnyE_take (i := 10) (v := ?_) (hsT4) (fun _ h => h) rfl (by kernel_rfl) (by kernel_rfl) (by kernel_rfl) (by kernel_rfl) (fun _ _ _ h => h) (SteadyB.of_yields (Or.inl ⟨by rfl, ?_⟩)) ?_
          rotate_left
          · intro wq hSw
            go_simp
            (try with_reducible rfl)
          try simp only [List.getElem_toArray, List.getElem_cons_zero, List.getElem_cons_succ, Act.put, List.setIfInBounds_toArray, List.set_cons_zero, List.set_cons_succ]
          refine wpAnyE_take (i := 11) (v := ?_) (hsT4) (fun _ h => h) rfl (by kernel_rfl) (by kernel_rfl) (by kernel_rfl) (by kernel_rfl) (fun _ _ _ h => h) (SteadyB.of_yields (Or.inl ⟨by rfl, ?_⟩)) ?_
          rotate_left
          · intro wq hSw
            go_simp
            (try with_reducible rfl)
          try simp only [List.getElem_toArray, List.getElem_cons_zero, List.getElem_cons_succ, Act.put, List.setIfInBounds_toArray, List.set_cons_zero, List.set_cons_succ]
          refine wpAnyE_take (i := 12) (v := ?_) (hsT4) (fun _ h => h) rfl (by kernel_rfl) (by kernel_rfl) (by kernel_rfl) (by kernel_rfl) (fun _ _ _ h => h) (SteadyB.of_yields (Or.inl ⟨by rfl, ?_⟩)) ?_
          rotate_left
          · intro wq hSw
            obtain ⟨p0, p1, p2, p3, p4, p5, p6⟩ := It.at a hSw.1
            go_simp
            (try with_reducible rfl)
          try simp only [List.getElem_toArray, List.getElem_cons_zero, List.getElem_cons_succ, Act.put, List.setIfInBounds_toArray, List.set_cons_zero, List.set_cons_succ]
          refine wpAnyE_take (i := 13) (v := ?_) (hsT4) (fun _ h => h) rfl (by kernel_rfl) (by kernel_rfl) (by kernel_rfl) (by kernel_rfl) (fun _ _ _ h => h) (SteadyB.of_yields (Or.inl ⟨by rfl, ?_⟩)) ?_
          rotate_left
          · intro wq hSw
            go_simp
            (try with_reducible rfl)
          try simp only [List.getElem_toArray, List.getElem_cons_zero, List.getElem_cons_succ, Act.put, List.setIfInBounds_toArray, List.set_cons_zero, List.set_cons_succ]
          refine wpAnyE_take (i := 14) (v := ?_) (hsT4) (fun _ h => h) rfl (by kernel_rfl) (by kernel_rfl) (by kernel_rfl) (by kernel_rfl) (fun _ _ _ h => h) (SteadyB.of_yields (Or.inl ⟨by rfl, ?_⟩)) ?_
          rotate_left
          · intro wq hSw
            go_simp
            (try with_reducible rfl)
          try simp only [List.getElem_toArray, List.getElem_cons_zero, List.getElem_cons_succ, Act.put, List.setIfInBounds_toArray, List.set_cons_zero, List.set_cons_succ]
          refine wpAnyE_take (i := 15) (v := ?_) (hsT4) (fun _ h => h) rfl (by kernel_rfl) (by kernel_rfl) (by kernel_rfl) (by kernel_rfl) (fun _ _ _ h => h) (SteadyB.of_yields (Or.inl ⟨by rfl, ?_⟩)) ?_
          rotate_left
          · intro wq hSw
            obtain ⟨p0, p1, p2, p3, p4, p5, p6⟩ := It.at a hSw.1
            go_simp
            (try with_reducible rfl)
          try simp only [List.getElem_toArray, List.getElem_cons_zero, List.getElem_cons_succ, Act.put, List.setIfInBounds_toArray, List.set_cons_zero, List.set_cons_succ]
          refine wpAnyE_slice1 (i := 8) (fun wx g => Cs wx g a.cells) rfl (by kernel_rfl) (by decide) (by rfl) (hsT4) (fun _ h => h) (fun g => fun _ _ h hb => h.below hb) (fun wq hSw => ?_) (fun gA => ?_)
          · exact ⟨_, by go_simp; (try with_reducible rfl), (Below.refl _ _).alloc (Nat.le_refl _) _, Cs.new7 _ _ a⟩
          try simp only [List.getElem_toArray, List.getElem_cons_zero, List.getElem_cons_succ, Act.put, List.setIfInBounds_toArray, List.set_cons_zero, List.set_cons_succ]
          refine wpAnyE_call (i := 9) (fun _ : Unit => Value.int .u64 (roomI a.t [a])) (fun (_ : Unit) (_ : World) => True) rfl (by kernel_rfl) (by decide) (by rfl) (Stays.and_ (hsT4) (fun _ _ h hb => h.below hb)) (fun _ h => h.1) (fun yq => stays_tt yq) (fun wq hSw => ?_) (fun yq => ?_)
          · exact RunI.of_calls (Span.room a.t (some ⟨gA, 0, none⟩) 1 1 [a] wq hSw.2.one (by omega)) (by go_simp) (fun e w' h => ⟨(), h.1, trivial, h.2⟩)
          obtain ⟨⟩ := yq
          skip
          try simp only [List.getElem_toArray, List.getElem_cons_zero, List.getElem_cons_succ, Act.put, List.setIfInBounds_toArray, List.set_cons_zero, List.set_cons_succ]
          refine wpAnyE_rest (n := 16) rfl rfl (by kernel_rfl) (fun wz hSz => ?_)
          simp only [List.toList_toArray, List.drop_succ_cons, List.drop_zero]
          have HB := hid hSz.1.1.2
          have HRR := hid (room_right HRT.out)
          have HDD := hid (right_dif HRT.out)
          clear hSz HQ9
          go_wp2_with fail
          refine (Vtime.since a.u a.t _).mono ?_
          rintro e wa ⟨rfl, hb⟩
          have HBa := hid (below_on HB.out hb)
          have e1 : IntKind.u64.wrap (dif a.u a.t) = dif a.u a.t := by rw [IntKind.wrap_u64]; have := HDD.out; omega
          have e2 : IntKind.u64.wrap (4611686018427387904 - dif a.u a.t) = 4611686018427387904 - dif a.u a.t := by rw [IntKind.wrap_u64]; have := HDD.out; omega
          rw [HRR.out]
          clear hb HB
          go_wp2_with fail
          try simp only [e1, e2]
          go_ret
          exact ⟨by first | rfl | (simp only [beq_self_eq_true]) | simp, HBa.out⟩
theorem Sgrow.law (b : Int) (A : Option Addr) (n c : Nat) (l : List It) (a : It) (w : World) (_ : (Lit.int .u64 b).wf = true) (h1 : (RdI w A n l ∧ InI l) ∧ n ≤ 9223372036854775807) (h2 : a.In) (htab : Tab10 w.heap.size w) : Calls Tryz.prog 8 #[.int .u64 b, .slice A n c, a.val] w (Ans (.bool true) w) := by
  by_cases hn : n ≤ 40
  · exact Sgrow.core b A n c l a w h1.1.1 h2 hn htab
  · exact Sgrow.away b A n c a w (by omega) htab
end

end Go.Proofs.YtkddkllepbhnhaaGreatDoor

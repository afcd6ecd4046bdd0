/- Texts of QueueShifts's proof, together. -/
import Derived.Test.YtdkfpmlamfeenaaGreatDoorRbM
import Derived.Shelf.Lay
import Derived.Shelf.Slices.Empties2
import Derived.Test.YtdkfpmlamfeenaaGreatDoorQueueShiftsZ10
import Derived.Test.YtdkfpmlamfeenaaGreatDoorRbB
import Derived.Deep.AppendLies
namespace Go.Proofs.YtdkfpmlamfeenaaGreatDoor

section
open Go.RowKit Go.Shelf
section
variable {P : Program} (w : World)
theorem run_equalIn_func_nil (d : Nat) (t : TypeId) (f : Fn) (a c : Array Value) {ps rs : Array TypeId} {vd : Bool} (h : P.underlying t = some (.func ps rs vd)) :
    (Op.equalIn (d + 1) t (.func f a c) .nilFunc).run P w = .ok false w := by
  simp [Op.equalIn, run_underlying h]
theorem run_eql_func_nil (t : TypeId) (f : Fn) (a c : Array Value) {ps rs : Array TypeId} {vd : Bool} (h : P.underlying t = some (.func ps rs vd)) :
    (binOp .eql t (.func f a c) .nilFunc).run P w = .ok (.bool false) w := by
  simp only [binOp]
  simp [show (Op.equal t (.func f a c) .nilFunc).run P w = .ok false w from run_equalIn_func_nil w 9999 t f a c h]
end
theorem eqlFless (f : Fn) (a c : Array Value) (w : World) : (binOp .eql 189 (.func f a c) .nilFunc).run Tryz.prog w = .ok (.bool false) w := run_eql_func_nil w _ f a c Tryz.underlying189
theorem eqlFone (f : Fn) (a c : Array Value) (w : World) : (binOp .eql 190 (.func f a c) .nilFunc).run Tryz.prog w = .ok (.bool false) w := run_eql_func_nil w _ f a c Tryz.underlying190
theorem eqlFboth (f : Fn) (a c : Array Value) (w : World) : (binOp .eql 191 (.func f a c) .nilFunc).run Tryz.prog w = .ok (.bool false) w := run_eql_func_nil w _ f a c Tryz.underlying191
def News (w : World) (e : Ending) (w' : World) : Prop := ∃ th, e = .returned (.pointer (some ⟨th, 0, none⟩)) ∧ w.heap.size ≤ th ∧ TreeAt w' th .nil ∧ Below w.heap.size w w'
section
attribute [local go_sem] eqlFless eqlFone eqlFboth
set_option maxRecDepth 100000 in
set_option maxHeartbeats 1000000 in
theorem Rb.new (w : World) :
    Calls Tryz.prog 169 #[.func (.func 170) #[] #[], .func (.func 171) #[] #[], .func (.func 172) #[] #[]] w (News w) := by
  have HN : Hid (∀ W, W = ((w.alloc (.cells #[.func (.func 171) #[] #[]] 190)).alloc (.cells #[.func (.func 172) #[] #[]] 191)) →
      TreeAt (W.alloc (.cells #[.func (.func 170) #[] #[], .func (.func 172) #[] #[], .func (.func 182) #[] #[.pointer (some ⟨w.heap.size, 0, none⟩), .pointer (some ⟨w.heap.size + 1, 0, none⟩)], .pointer none, .int .i64 0] 196)) (w.heap.size + 2) .nil) := hid (by
    rintro W rfl
    have h1 := Cs.alloc_new w 190 [.func (.func 171) #[] #[]]
    have h2 := Cs.alloc_new (w.alloc (.cells #[.func (.func 171) #[] #[]] 190)) 191 [.func (.func 172) #[] #[]]
    have h3 := Cs.alloc_new ((w.alloc (.cells #[.func (.func 171) #[] #[]] 190)).alloc (.cells #[.func (.func 172) #[] #[]] 191)) 196 [.func (.func 170) #[] #[], .func (.func 172) #[] #[], .func (.func 182) #[] #[.pointer (some ⟨w.heap.size, 0, none⟩), .pointer (some ⟨w.heap.size + 1, 0, none⟩)], .pointer none, .int .i64 0]
    simp only [World.size_alloc] at h2 h3
    refine ⟨⟨w.heap.size, w.heap.size + 1, h3, (h1.alloc _).alloc _, h2.alloc _, ?_, ?_⟩, trivial, List.nodup_nil⟩
    · simp [go_sem]
    · simp [go_sem])
  go_enter Tryz.func169, Tryz.ntmps169
  go_wp2_with fail
  go_ret
  exact ⟨w.heap.size + 2, rfl, by omega, HN.out _ rfl, (((Below.refl _ _).alloc (Nat.le_refl _) _).alloc (by simp) _).alloc (by simp; omega) _⟩
end
set_option maxHeartbeats 1000000 in
theorem Law6.new (w : World) : Calls Tryz.prog 157 #[] w (News w) := by
  go_enter Tryz.func157, Tryz.ntmps157
  go_wp2_with fail
  refine (Rb.new _).mono ?_
  rintro e w1 ⟨th, rfl, h⟩
  have H := hid h
  clear h
  go_wp2_with fail
  go_ret
  exact ⟨th, rfl, H.out⟩
def Tryz.lays111_ren : Go.Shelf.Ren := ⟨fun | 111 => 159 | n => n, fun | 28 => 177 | 3 => 3 | 4 => 4 | 0 => 0 | n => n, fun | n => n⟩
open Go.Proofs.Tryz in
theorem Tryz.lays111 : Go.Proofs.Lays.n111 Tryz.prog Tryz.lays111_ren := { mixed := by kernel_rfl, f111 := func159.trans (congrArg some (by kernel_rfl)), t0 := underlying0, a0 := isAgg0, z0 := sizeOf0, v0 := zeroValue0, t3 := underlying3, a3 := isAgg3, z3 := sizeOf3, v3 := zeroValue3, t4 := underlying4, a4 := isAgg4, z4 := sizeOf4, v4 := zeroValue4, t28 := underlying177, a28 := isAgg177, z28 := sizeOf177, v28 := zeroValue177 }
theorem Sls.equal (A B : Option Addr) (n c m d : Nat) (xs ys : List Int) (w : World) (hx : RdU .i64 w A n xs) (hy : RdU .i64 w B m ys) (hn : n ≤ 1000000) (hm : m ≤ 1000000) :
    Calls Tryz.prog 159 #[.slice A n c, .slice B m d] w (Ans (.bool (xs == ys)) w) := by
  by_cases hnm : n = m
  · subst hnm
    by_cases h0 : n = 0
    · subst h0
      refine (Any.slices_Equal_int_empty Tryz.lays111 A B c 0 d w (by omega)).mono ?_
      rintro e w' ⟨rfl, rfl⟩
      have e1 : xs = [] := List.eq_nil_of_length_eq_zero hx.1
      have e2 : ys = [] := List.eq_nil_of_length_eq_zero hy.1
      subst e1 e2
      exact ⟨rfl, Below.refl _ _⟩
    · obtain ⟨b1, o1, rfl, _, c1⟩ := hx.2 0 (by omega)
      obtain ⟨b2, o2, rfl, _, c2⟩ := hy.2 0 (by omega)
      have l1 := hx.1
      have l2 := hy.1
      refine (Any.slices_Equal_int Tryz.lays111 b1 o1 n c b2 o2 n d xs ys w (by omega) (by omega) (by omega) (by omega) (fun j hj => c1 j (by omega)) (fun j hj => c2 j (by omega))).mono ?_
      rintro e w' ⟨rfl, q, rfl⟩
      rw [List.take_of_length_le (by omega), List.take_of_length_le (by omega)]
      exact ⟨rfl, rfl, rfl, rfl, Nat.le_refl _, fun _ _ => rfl⟩
  · refine (Any.slices_Equal_int_lens Tryz.lays111 A B n c m d w hnm).mono ?_
    rintro e w' ⟨rfl, rfl⟩
    have : (xs == ys) = false := by
      rw [beq_eq_false_iff_ne]
      intro e
      have l1 := hx.1
      have l2 := hy.1
      rw [e] at l1
      omega
    rw [this]
    exact ⟨rfl, Below.refl _ _⟩
theorem Own.rdi {w : World} {base : Nat} {A : Option Addr} {n c : Nat} {zs : List Int} (h : Own w base A n c zs) : RdU .i64 w A n zs := by
  refine ⟨h.len, fun i hn => ?_⟩
  obtain ⟨g, cap, hv, _, _⟩ := h.form (by omega)
  have hA : A = some ⟨g, 0, none⟩ := by injection hv
  subst hA
  have hc : ∀ j, j < n → w.cell? ⟨g, 0 + j, none⟩ = some (.int .i64 (zs.getD j 0)) := fun j hj => by
    have hc := h.cells (g := g) rfl j (.int .i64 (zs.getD j 0)) (by rw [List.getElem?_map]; have := h.len; simp [List.getD, show j < zs.length by omega])
    by_cases h0 : j = 0
    · subst h0; simpa [Addr.add] using hc
    · simpa [Addr.add, h0] using hc
  exact ⟨g, 0, rfl, World.block_lt_of_cell? w _ (hc i hn), hc⟩
end


section
open Go.RowKit
def cellsP (p : Int × Int × Int) : List Value := [.int .u64 p.1, .int .u32 p.2.1, .int .u32 p.2.2]
def Tp (w : World) (b : Nat) (p : Int × Int × Int) : Prop := w.cell? ⟨b, 0, none⟩ = some (.int .u64 p.1) ∧ w.cell? ⟨b, 1, none⟩ = some (.int .u32 p.2.1) ∧ w.cell? ⟨b, 2, none⟩ = some (.int .u32 p.2.2)
theorem Tp.new (w : World) (T : TypeId) (p : Int × Int × Int) : Tp (w.alloc (.cells #[.int .u64 p.1, .int .u32 p.2.1, .int .u32 p.2.2] T)) w.heap.size p := by
  have h := Cs.alloc_new w T [.int .u64 p.1, .int .u32 p.2.1, .int .u32 p.2.2]
  exact ⟨(h 0 _ rfl).1, (h 1 _ rfl).1, (h 2 _ rfl).1⟩
def OwnP (w : World) (base : Nat) (A : Option Addr) (n c : Nat) (l : List (Int × Int × Int)) : Prop := w.ownsRow base 30 3 (.slice A n c) n (l.flatMap cellsP)
theorem cellsP_length (a : Int × Int × Int) : (cellsP a).length = 3 := rfl
theorem flatP_length (l : List (Int × Int × Int)) : (l.flatMap cellsP).length = l.length * 3 := by
  induction l with
  | nil => rfl
  | cons a l ih => rw [List.flatMap_cons, List.length_append, ih, cellsP_length, List.length_cons]; omega
theorem flatP_get : ∀ (l : List (Int × Int × Int)) (j i : Nat), j < l.length → i < 3 → (l.flatMap cellsP)[j * 3 + i]? = (cellsP (l.getD j (0, 0, 0)))[i]?
  | [], j, i, h, _ => absurd h (by simp)
  | a :: l, 0, i, _, hi => by
    rw [List.flatMap_cons, List.getElem?_append_left (by rw [cellsP_length]; omega)]
    simp
  | a :: l, j + 1, i, h, hi => by
    rw [List.flatMap_cons, List.getElem?_append_right (by rw [cellsP_length]; omega), cellsP_length, show (j + 1) * 3 + i - 3 = j * 3 + i by omega, flatP_get l j i (by simpa using h) hi]
    simp
theorem OwnP.nil (w : World) (base : Nat) : OwnP w base none 0 0 [] := World.ownsRow_nil _ _ _ _
theorem OwnP.len {w : World} {base : Nat} {A : Option Addr} {n c : Nat} {l : List (Int × Int × Int)} (h : OwnP w base A n c l) : l.length = n := by
  have := h.1
  rw [flatP_length] at this
  omega
theorem OwnP.cap {w : World} {base : Nat} {A : Option Addr} {n c : Nat} {l : List (Int × Int × Int)} (h : OwnP w base A n c l) : n ≤ c := by
  rcases h.2 with ⟨hv, h0⟩ | ⟨g, cap, cur, hv, _, _, h1, _⟩
  · omega
  · injection hv with _ _ e; omega
theorem OwnP.rowGe {w : World} {base : Nat} {A : Option Addr} {n c : Nat} {l : List (Int × Int × Int)} (h : OwnP w base A n c l) : ∀ k ∈ rowOf A, base ≤ k ∧ k < w.heap.size := by
  intro k hk
  rcases h.2 with ⟨hv, _⟩ | ⟨g, cap, cur, hv, hb, hg, _⟩
  · injection hv with e1; subst e1; simp [rowOf] at hk
  · injection hv with e1; subst e1
    have hkg : k = g := by simpa [rowOf, eq_comm] using hk
    rw [hkg]
    refine ⟨hb, ?_⟩
    rcases Nat.lt_or_ge g w.heap.size with h1 | h1
    · exact h1
    · rw [Array.getElem?_eq_none h1] at hg; cases hg
theorem OwnP.below {w w' : World} {base : Nat} {A : Option Addr} {n c : Nat} {l : List (Int × Int × Int)} (h : OwnP w base A n c l) (hb : Below w.heap.size w w') : OwnP w' base A n c l := by
  obtain ⟨h1, h2⟩ := h
  refine ⟨h1, ?_⟩
  rcases h2 with h2 | ⟨g, cap, cur, hv, hg, hh, r⟩
  · exact .inl h2
  · refine .inr ⟨g, cap, cur, hv, hg, ?_, r⟩
    rw [hb.block g ?_]
    · exact hh
    · rcases Nat.lt_or_ge g w.heap.size with h1 | h1
      · exact h1
      · rw [Array.getElem?_eq_none h1] at hh; cases hh
theorem OwnP.alloc {w : World} {base : Nat} {A : Option Addr} {n c : Nat} {l : List (Int × Int × Int)} (h : OwnP w base A n c l) (o : Obj) : OwnP (w.alloc o) base A n c l := h.below ((Below.refl _ _).alloc (Nat.le_refl _) o)
theorem OwnP.rdp {w : World} {base : Nat} {A : Option Addr} {n c : Nat} {l : List (Int × Int × Int)} (h : OwnP w base A n c l) : RdP w A n l := by
  refine ⟨h.len, fun i hn => ?_⟩
  obtain ⟨g, cap, hv, _, hlt⟩ := h.form (by omega)
  have hA : A = some ⟨g, 0, none⟩ := by injection hv
  subst hA
  refine ⟨g, 0, rfl, hlt, fun j hj => ?_⟩
  have hc : ∀ i, i < 3 → w.cell? ⟨g, 0 + j * 3 + i, none⟩ = (cellsP (l.getD j (0, 0, 0)))[i]? := fun i hi => by
    rw [← flatP_get l j i (by rw [h.len]; exact hj) hi, Nat.zero_add]
    injection hv with _ _ e
    subst e
    exact h.cellAt _ (by omega)
  exact ⟨hc 0 (by omega), hc 1 (by omega), hc 2 (by omega)⟩
theorem wpList_append_pos {ops : Array Oper} {o : Oper} {a : Act} {rest : List Oper} {Q : Exit → Act → World → Prop} (w : World) (hgd : o.guard = none) (s x : Operand)
    (ho : o.op = .call { callee := .builtin .append, args := #[s, x], argTypes := #[94, 94] })
    (base : Nat) (A : Option Addr) (n c : Nat) (l : List (Int × Int × Int)) (hs : a.eval s = .slice A n c) (hown : OwnP w base A n c l) (b : Nat) (d : Int × Int × Int) (hx : a.eval x = .slice (some ⟨b, 0, none⟩) 1 1)
    (hcell : Tp w b d) (hn : n ≤ 1000000) (hbase : base ≤ w.heap.size)
    (h : ∀ A' c' w', OwnP w' base A' (n + 1) c' (l ++ [d]) → Chg (rowOf A) w w' → (∀ k ∈ rowOf A', k ∈ rowOf A ∨ w.heap.size ≤ k) → wpList Tryz.prog ops Q rest (a.put o.dst (.slice A' (n + 1) c')) w') : wpList Tryz.prog ops Q (o :: rest) a w := by
  obtain ⟨i0, hi, hz0, hz1, hz2⟩ : ∃ i0, Tryz.prog.info? 30 = some i0 ∧ i0.zero = some (.agg #[.int .u64 0, .int .u32 0, .int .u32 0]) ∧ i0.size = 3 ∧ i0.bytes = 16 := by
    have hq : (Tryz.prog.info? 30).map (fun i => (i.zero, i.size, i.bytes)) = some (some (.agg #[.int .u64 0, .int .u32 0, .int .u32 0]), 3, 16) := by kernel_rfl
    cases hi : Tryz.prog.info? 30 with
    | none => rw [hi] at hq; cases hq
    | some i =>
      rw [hi] at hq
      simp only [Option.map_some, Option.some.injEq, Prod.mk.injEq] at hq
      exact ⟨i, rfl, hq.1, hq.2.1, hq.2.2⟩
  obtain ⟨c0, c1, c2⟩ := hcell
  refine wpList_append_lies w hgd s x 94 ho base 30 i0 (.agg #[.int .u64 0, .int .u32 0, .int .u32 0]) 3 16 Tryz.underlying94 hi hz0 hz1 hz2 rfl (by decide) (.slice A n c) n (l.flatMap cellsP) hs hown
    ⟨b, 0, none⟩ 1 1 (cellsP d) hx rfl ?_ ?_ (by decide) (by unfold maxLen; omega) (by omega) hbase _ rfl ?_
  · intro j u hj
    have hadd : (⟨b, 0, none⟩ : Addr).add j = ⟨b, j, none⟩ := by unfold Addr.add; split <;> simp_all
    rw [hadd]
    match j, hj with
    | 0, hj | 1, hj | 2, hj => simp [cellsP] at hj; subst hj; first | exact c0 | exact c1 | exact c2
    | n + 3, hj => simp [cellsP] at hj
  · intro u hu; simp [cellsP] at hu; rcases hu with rfl | rfl | rfl <;> rfl
  · intro g cap w' h2 h3 h4 _
    refine h _ _ w' (by unfold OwnP; simpa using h2) (Chg.grown h3) (fun k hk => ?_)
    simp [rowOf] at hk
    subst hk
    rcases h4 with h4 | h4
    · exact Or.inl (row_own h4)
    · right; omega
theorem OwnP.chg {w w' : World} {base : Nat} {A : Option Addr} {n c : Nat} {l : List (Int × Int × Int)} {F : List Nat} (h : OwnP w base A n c l) (hc : Chg F w w') (hF : ∀ k ∈ rowOf A, k ∉ F) : OwnP w' base A n c l := by
  obtain ⟨h1, h2⟩ := h
  refine ⟨h1, ?_⟩
  rcases h2 with h2 | ⟨g, cap, cur, hv, hg, hh, r⟩
  · exact .inl h2
  · refine .inr ⟨g, cap, cur, hv, hg, ?_, r⟩
    have hlt : g < w.heap.size := by
      rcases Nat.lt_or_ge g w.heap.size with h1 | h1
      · exact h1
      · rw [Array.getElem?_eq_none h1] at hh; cases hh
    injection hv with e1
    subst e1
    rw [hc.block g hlt (hF g (by simp [rowOf]))]
    exact hh
end


section
open Go.RowKit
set_option maxRecDepth 100000 in
set_option maxHeartbeats 2000000 in
theorem Law6.awake (w : World) : Calls Tryz.prog 147 #[] w (Ans (.bool true) w) := by
  go_enter Tryz.func147, Tryz.ntmps147
  go_wp2_with fail
  refine (Law6.new _).mono ?_
  rintro e w1 ⟨th, rfl, hth, ht1, hb1⟩
  have HTH := hid hth
  have HT1 := hid ht1
  have HB1 := hid hb1
  clear hth ht1 hb1
  go_wp2_with fail
  refine (Rb.insert th .nil 3 _ HT1.out (by simp [Tr.list]) rfl).mono ?_
  rintro e w2 ⟨k1, hk1, rfl, ht2, hc2⟩
  have HT2 := hid (show TreeAt w2 th (.node k1 false .nil 3 .nil) from ht2)
  have HC2 := hid hc2
  have HK1 := hid hk1
  clear hk1 ht2 hc2
  go_wp2_with fail
  refine (Rb.insert th _ 1 _ HT2.out (by simp [Tr.list]) rfl).mono ?_
  rintro e w3 ⟨k2, hk2, rfl, ht3, hc3⟩
  have HT3 := hid (show TreeAt w3 th (.node k1 false (.node k2 true .nil 1 .nil) 3 .nil) from ht3)
  have HC3 := hid hc3
  have HK2 := hid hk2
  clear hk2 ht3 hc3
  go_wp2_with fail
  refine (Rb.insert th _ 2 _ HT3.out (by simp [Tr.list]) rfl).mono ?_
  rintro e w4 ⟨k3, hk3, rfl, ht4, hc4⟩
  have HT4 := hid (show TreeAt w4 th (.node k3 false (.node k2 false .nil 1 .nil) 2 (.node k1 false .nil 3 .nil)) from ht4)
  have HC4 := hid hc4
  have HK3 := hid hk3
  clear hk3 ht4 hc4
  have HB4 : Hid (Below w.heap.size w w4) := hid (by
    have s1 := HB1.out.size
    have s2 := HC2.out.size
    have s3 := HC3.out.size
    have k1 := HK1.out
    have k2 := HK2.out
    have h0 := HTH.out
    refine ((HB1.out.trans (HC2.out.toBelow s1 ?_)).trans (HC3.out.toBelow (by omega) ?_)).trans (HC4.out.toBelow (by omega) ?_)
    · intro g hg; simp [Tr.blocks] at hg; omega
    · intro g hg; simp [Tr.blocks] at hg; omega
    · intro g hg; simp [Tr.blocks] at hg; omega)
  go_wp2_with fail
  refine (Rb.all th _ _ HT4.out (by simp [Tr.list])).mono ?_
  rintro e w5 ⟨A, n, c, rfl, ho, hb5, _, _⟩
  have HO := hid ho
  have HB5 := hid hb5
  clear ho hb5
  go_wp2_with fail
  refine (Sls.equal _ _ _ _ _ _ [1, 2, 3] [1, 2, 3] _ (Own.rdi (zs := [1, 2, 3]) (HO.out.alloc _)) (RdU.new3 .i64 w5 3 1 2 3) (by have := HO.out.len; simp [Tr.list] at this; omega) (by omega)).mono ?_
  rintro e w6 ⟨rfl, hb6⟩
  have HB6 := hid hb6
  clear hb6
  go_wp2_with fail
  refine (Rb.depth th _ _ (((HT4.out.below HB5.out).below ((Below.refl _ _).alloc (Nat.le_refl _) _)).below HB6.out) (by simp [Tr.list])).mono ?_
  rintro e w7 ⟨rfl, hb7⟩
  have HB7 := hid hb7
  clear hb7
  go_wp2_with fail
  go_ret
  refine ⟨rfl, ?_⟩
  exact below_on (below_on (below_on (below_on HB4.out HB5.out) ((Below.refl _ _).alloc (Nat.le_refl _) _)) HB6.out) HB7.out
end

end Go.Proofs.YtdkfpmlamfeenaaGreatDoor

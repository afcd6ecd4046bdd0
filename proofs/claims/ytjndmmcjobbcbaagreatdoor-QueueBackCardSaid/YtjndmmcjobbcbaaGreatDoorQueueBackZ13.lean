/- Texts of QueueBack's proof, together. -/
import Derived.Test.YtjndmmcjobbcbaaGreatDoorQueueBackZ11
import Derived.Test.YtjndmmcjobbcbaaGreatDoorQueueBackZ12
import Derived.Deep.MidRow
import Derived.Test.YtjndmmcjobbcbaaGreatDoorQueueBackZ9
import Derived.Test.YtjndmmcjobbcbaaGreatDoorQueueBackZ0
namespace Go.Proofs.YtjndmmcjobbcbaaGreatDoor

section
open Go.RowKit
theorem infoItem : (Tryz.prog.info? 29).map (·.size) = some 7 := by kernel_rfl
def Th (w : World) (g : Nat) (x : It) : Prop := w.cell? ⟨g, 0, none⟩ = some (.int .u64 x.t) ∧ w.cell? ⟨g, 1, none⟩ = some (.int .u32 x.r) ∧ w.cell? ⟨g, 2, none⟩ = some (.int .u32 x.v) ∧ w.cell? ⟨g, 3, none⟩ = some (.int .i64 x.i) ∧ w.cell? ⟨g, 4, none⟩ = some (.int .u64 x.u) ∧ w.cell? ⟨g, 5, none⟩ = some (.int .u32 x.s) ∧ w.cell? ⟨g, 6, none⟩ = some (.int .u32 x.y)
theorem Th.below {w w' : World} {g : Nat} {x : It} (h : Th w g x) (hb : Below w.heap.size w w') : Th w' g x := ⟨keep1 hb h.1, keep1 hb h.2.1, keep1 hb h.2.2.1, keep1 hb h.2.2.2.1, keep1 hb h.2.2.2.2.1, keep1 hb h.2.2.2.2.2.1, keep1 hb h.2.2.2.2.2.2⟩
theorem Cs.th7 {w : World} {g : Nat} {x : It} (h : Cs w g x.cells) : Th w g x := It.at x h
theorem Cs.putAt {w : World} {g : Nat} {vs : List Value} (h : Cs w g vs) (i : Nat) (hi : i < vs.length) (u : Value) : Cs (w.setCell ⟨g, i, none⟩ u) g (vs.set i u) := by
  intro j x hx
  have hv := h i vs[i] (List.getElem?_eq_getElem hi)
  by_cases e : i = j
  · subst e
    rw [List.getElem?_set_self hi] at hx
    injection hx with hx
    subst hx
    exact ⟨by simp [go_sem, hv.1], by simp [go_sem, hv.2]⟩
  · rw [List.getElem?_set_ne e] at hx
    have := h j x hx
    exact ⟨(World.cell?_setCell_other w ⟨g, i, none⟩ ⟨g, j, none⟩ u (fun e' => by injection e' with _ e2; exact e e2)).trans this.1, by simpa [go_sem] using this.2⟩
theorem Cs.stored {w : World} {g : Nat} {x : It} (h : Cs w g x.cells) (k : It) : Cs (w.setCells g 0 k.cells) g k.cells :=
  ((((((h.putAt 0 (by simp [It.cells]) (.int .u64 k.t)).putAt 1 (by simp [It.cells]) (.int .u32 k.r)).putAt 2 (by simp [It.cells]) (.int .u32 k.v)).putAt 3 (by simp [It.cells]) (.int .i64 k.i)).putAt 4 (by simp [It.cells]) (.int .u64 k.u)).putAt 5 (by simp [It.cells]) (.int .u32 k.s)).putAt 6 (by simp [It.cells]) (.int .u32 k.y)
theorem Cs.fars {b g : Nat} {us : List Value} (hb : b ≠ g) : ∀ (vs : List Value) {w : World} (o : Nat), Cs w g us → Cs (w.setCells b o vs) g us
  | [], _, _, h => h
  | v :: r, _, o, h => Cs.fars hb r (o + 1) (h.far hb o v)
theorem below_sets {B b : Nat} {w0 : World} (hB : B ≤ b) : ∀ (vs : List Value) {w : World} (o : Nat), Below B w0 w → Below B w0 (w.setCells b o vs)
  | [], _, _, h => h
  | v :: r, _, o, h => below_sets hB r (o + 1) (h.setCell hB v)
theorem Cs.there7 {w : World} {g : Nat} {x : It} (h : Cs w g x.cells) : w.there g 0 7 := fun j hj => by
  have e : ∃ v, x.cells[j]? = some v := ⟨_, List.getElem?_eq_getElem (by simp [It.cells]; omega)⟩
  obtain ⟨v, e⟩ := e
  rw [Nat.zero_add]
  exact ⟨by rw [(h _ _ e).1]; rfl, (h _ _ e).2⟩
theorem wpList_store_it {ops : Array Oper} {rest : List Oper} {op : Oper} {a : Act} {w : World} {Q : Exit → Act → World → Prop} (T : TypeId) (hT : (Tryz.prog.info? T).map (·.size) = some 7) (hgd : op.guard = none) (x y : Operand) (ho : op.op = .store T x y)
    (b o : Nat) (k : It) (hx : a.eval x = .pointer (some ⟨b, o, none⟩)) (hy : a.eval y = k.val) (ht : w.there b o 7)
    (h : wpList Tryz.prog ops Q rest (a.put op.dst undef) (w.setCells b o k.cells)) : wpList Tryz.prog ops Q (op :: rest) a w :=
  wpList_store_mid hgd T x y ho b o #[.int .u64 k.t, .int .u32 k.r, .int .u32 k.v, .int .i64 k.i, .int .u64 k.u, .int .u32 k.s, .int .u32 k.y] hx hy ht hT (by simp [Value.oneCell']) h
theorem wpList_put_it {ops : Array Oper} {rest : List Oper} {op : Oper} {a : Act} {w : World} {Q : Exit → Act → World → Prop} (T : TypeId) (hT : (Tryz.prog.info? T).map (·.size) = some 7) (hgd : op.guard = none) (x y : Operand) (ho : op.op = .store T x y)
    (b o : Nat) (k : It) (ht : w.there b o 7) (hx : a.eval x = .pointer (some ⟨b, o, none⟩)) (hy : a.eval y = k.val)
    (h : ∀ W, W = w.setCells b o k.cells → wpList Tryz.prog ops Q rest (a.put op.dst undef) W) : wpList Tryz.prog ops Q (op :: rest) a w :=
  wpList_store_it T hT hgd x y ho b o k hx hy ht (h _ rfl)
end


section
open Go.RowKit
def setL : List Value → Nat → List Value → List Value
  | us, _, [] => us
  | us, o, v :: r => setL (us.set o v) (o + 1) r
theorem Cs.putL {g : Nat} : ∀ (vs : List Value) {w : World} {us : List Value} (o : Nat), Cs w g us → o + vs.length ≤ us.length → Cs (w.setCells g o vs) g (setL us o vs)
  | [], _, _, _, h, _ => h
  | v :: r, _, us, o, h, hl => Cs.putL r (o + 1) (h.putAt o (by simp at hl; omega) v) (by simp at hl ⊢; omega)
theorem Cs.thereL {w : World} {g : Nat} {us : List Value} (h : Cs w g us) : w.there g 0 us.length := fun j hj => by
  rw [Nat.zero_add]
  exact ⟨by rw [(h j _ (List.getElem?_eq_getElem hj)).1]; rfl, (h j _ (List.getElem?_eq_getElem hj)).2⟩
theorem wpList_put_cs {ops : Array Oper} {rest : List Oper} {op : Oper} {a : Act} {w : World} {Q : Exit → Act → World → Prop} (T : TypeId) (vs : List Value) {n : Nat} (hT : (Tryz.prog.info? T).map (·.size) = some n) (hgd : op.guard = none) (x y : Operand) (ho : op.op = .store T x y)
    (b : Nat) (us : List Value) (hc : Cs w b us) (hn : vs.length = n) (hl : us.length = n) (h1 : vs.all (·.oneCell') = true) (hx : a.eval x = .pointer (some ⟨b, 0, none⟩)) (hy : a.eval y = .agg vs.toArray)
    (h : ∀ W, W = w.setCells b 0 vs → wpList Tryz.prog ops Q rest (a.put op.dst undef) W) : wpList Tryz.prog ops Q (op :: rest) a w :=
  wpList_store_mid hgd T x y ho b 0 vs.toArray hx hy (by have := hc.thereL; rw [hl, ← hn] at this; simpa using this) (by rw [hT, ← hn]; simp) (by simpa using h1) (h _ rfl)
theorem infoMean : (Tryz.prog.info? 127).map (·.size) = some 5 := by kernel_rfl
theorem infoWide : (Tryz.prog.info? 45).map (·.size) = some 2 := by kernel_rfl
theorem Cs.at3 {w : World} {g : Nat} {a b c v : Value} {vs : List Value} (h : Cs w g (a :: b :: c :: v :: vs)) : w.cell? ⟨g, 3, none⟩ = some v := (h 3 v rfl).1
theorem Cs.at4 {w : World} {g : Nat} {a b c d v : Value} {vs : List Value} (h : Cs w g (a :: b :: c :: d :: v :: vs)) : w.cell? ⟨g, 4, none⟩ = some v := (h 4 v rfl).1
theorem Mu.at {w : World} {g : Nat} (m : Mu) (h : Cs w g m.cells) : w.cell? ⟨g, 0, none⟩ = some (.int .u64 m.b) ∧ w.cell? ⟨g, 1, none⟩ = some (.int .i64 (hiW m.a)) ∧ w.cell? ⟨g, 2, none⟩ = some (.int .u64 (loW m.a)) ∧ w.cell? ⟨g, 3, none⟩ = some (.int .u64 m.w) ∧ w.cell? ⟨g, 4, none⟩ = some (.int .i64 m.n) :=
  ⟨h.at0, h.at1, h.at2, h.at3, h.at4⟩
def pcells (p : P3) : List Value := [.int .u64 p.1, .int .u32 p.2.1, .int .u32 p.2.2]
theorem P3.at {w : World} {g : Nat} (p : P3) (h : Cs w g (pcells p)) : w.cell? ⟨g, 0, none⟩ = some (.int .u64 p.1) ∧ w.cell? ⟨g, 1, none⟩ = some (.int .u32 p.2.1) ∧ w.cell? ⟨g, 2, none⟩ = some (.int .u32 p.2.2) := ⟨h.at0, h.at1, h.at2⟩
theorem eq_words {a b : Int} : (hiW a = hiW b ∧ loW a = loW b) ↔ a = b := by
  constructor
  · rintro ⟨h1, h2⟩; unfold hiW at h1; unfold loW at h2; omega
  · rintro rfl; exact ⟨rfl, rfl⟩
set_option maxHeartbeats 2000000 in
theorem Mean.eqB (b1 b2 h1 h2 l1 l2 v1 v2 n1 n2 : Int) (w : World) :
    (binOp .eql 127 (.agg #[.int .u64 b1, .int .i64 h1, .int .u64 l1, .int .u64 v1, .int .i64 n1]) (.agg #[.int .u64 b2, .int .i64 h2, .int .u64 l2, .int .u64 v2, .int .i64 n2])).run Tryz.prog w = .ok (.bool (b1 == b2 && h1 == h2 && l1 == l2 && v1 == v2 && n1 == n2)) w := by
  by_cases pb : b1 = b2
  · subst pb
    by_cases ph : h1 = h2
    · subst ph
      by_cases pl : l1 = l2
      · subst pl
        by_cases pv : v1 = v2
        · subst pv
          by_cases pn : n1 = n2
          · subst pn
            go_simp
          · have qn : (n1 == n2) = false := by simpa using pn
            go_simp
        · have qv : (v1 == v2) = false := by simpa using pv
          go_simp
      · have ql : (l1 == l2) = false := by simpa using pl
        go_simp
    · have qh : (h1 == h2) = false := by simpa using ph
      go_simp
  · have qb : (b1 == b2) = false := by simpa using pb
    go_simp
section
attribute [local go_sem] Mean.eqB
set_option maxRecDepth 100000 in
set_option maxHeartbeats 4000000 in
theorem Mean.right (m : Mu) (hm : m.In) (w : World) : Calls Tryz.prog 166 #[m.val] w (Ans (.bool m.right) w) := by
  obtain ⟨b, a, v, n⟩ := m
  obtain ⟨⟨b0, b1⟩, ha, ⟨v0, v1⟩, ⟨n0, n1⟩⟩ := hm
  dsimp only at b0 b1 ha v0 v1 n0 n1
  have HB0 := hid ((Below.refl w.heap.size w).alloc (Nat.le_refl _) (.cells #[.int .u64 b, .int .i64 (hiW a), .int .u64 (loW a), .int .u64 v, .int .i64 n] 127))
  unfold Mu.val
  dsimp only
  by_cases c : n = 0
  · subst c
    have E : Hid ((b == b && hiW a == 0 && loW a == 0 && v == 0 && (0 : Int) == 0) = Mu.right ⟨b, a, v, 0⟩) := hid (by
      have h1 := eq_words (a := a) (b := 0)
      rw [hiW0, loW0] at h1
      unfold Mu.right
      rw [if_pos rfl, Bool.eq_iff_iff]
      simp only [Bool.and_eq_true, beq_iff_eq, decide_eq_true_eq, true_and, and_true]
      rw [h1])
    clear b0 b1 ha v0 v1 n0 n1
    go_enter Tryz.func166, Tryz.ntmps166
    go_wp2_with fail
    all_goals go_ret
    all_goals exact ⟨by rw [← E.out]; simp [*], (Below.refl _ _).alloc (Nat.le_refl _) _⟩
  · have c' : (n == 0) = false := by simpa using c
    have E : Hid ((decide (1 ≤ n ∧ n ≤ 32) && decide (n ≤ v ∧ v ≤ n * 1048576)) = Mu.right ⟨b, a, v, n⟩) := hid (by unfold Mu.right; rw [if_neg c])
    rw [← E.out]
    clear E c ha b0 b1
    by_cases c1 : 1 ≤ n
    · by_cases c2 : n ≤ 32
      · have e1 : IntKind.u64.wrap n = n := by rw [IntKind.wrap_u64]; omega
        have e2 : IntKind.u64.wrap (n * 1048576) = n * 1048576 := by rw [IntKind.wrap_u64]; omega
        by_cases c3 : n ≤ v
        · by_cases c4 : v ≤ n * 1048576
          · have F : Hid ((decide (1 ≤ n ∧ n ≤ 32) && decide (n ≤ v ∧ v ≤ n * 1048576)) = true) := hid (by simp only [Bool.and_eq_true, decide_eq_true_eq]; omega)
            rw [F.out]
            go_enter Tryz.func166, Tryz.ntmps166
            go_wp2_with fail
            go_ret
            exact ⟨rfl, HB0.out⟩
          · have F : Hid ((decide (1 ≤ n ∧ n ≤ 32) && decide (n ≤ v ∧ v ≤ n * 1048576)) = false) := hid (by rw [Bool.and_eq_false_iff]; right; rw [decide_eq_false_iff_not]; omega)
            rw [F.out]
            go_enter Tryz.func166, Tryz.ntmps166
            go_wp2_with fail
            go_ret
            exact ⟨rfl, HB0.out⟩
        · have F : Hid ((decide (1 ≤ n ∧ n ≤ 32) && decide (n ≤ v ∧ v ≤ n * 1048576)) = false) := hid (by rw [Bool.and_eq_false_iff]; right; rw [decide_eq_false_iff_not]; omega)
          rw [F.out]
          have c4 : ¬ v ≥ n := by omega
          go_enter Tryz.func166, Tryz.ntmps166
          go_wp2_with fail
          go_ret
          exact ⟨rfl, HB0.out⟩
      · have F : Hid ((decide (1 ≤ n ∧ n ≤ 32) && decide (n ≤ v ∧ v ≤ n * 1048576)) = false) := hid (by rw [Bool.and_eq_false_iff]; left; rw [decide_eq_false_iff_not]; omega)
        rw [F.out]
        go_enter Tryz.func166, Tryz.ntmps166
        go_wp2_with fail
        go_ret
        exact ⟨rfl, HB0.out⟩
    · have F : Hid ((decide (1 ≤ n ∧ n ≤ 32) && decide (n ≤ v ∧ v ≤ n * 1048576)) = false) := hid (by rw [Bool.and_eq_false_iff]; left; rw [decide_eq_false_iff_not]; omega)
      rw [F.out]
      go_enter Tryz.func166, Tryz.ntmps166
      go_wp2_with fail
      go_ret
      exact ⟨rfl, HB0.out⟩
end
end


section
open Go.RowKit
def M2 (w : World) (m : Mu) (p : P3) (r : List Value) (w' : World) : Prop := Cs w' w.heap.size m.cells ∧ Cs w' (w.heap.size + 1) (pcells p) ∧ Cs w' (w.heap.size + 2) r ∧ Below w.heap.size w w'
theorem M2.below {w w1 w2 : World} {m : Mu} {p : P3} {r : List Value} (h : M2 w m p r w1) (hb : Below w1.heap.size w1 w2) : M2 w m p r w2 := ⟨h.1.below hb, h.2.1.below hb, h.2.2.1.below hb, below_on h.2.2.2 hb⟩
theorem M2.stays (w : World) (m : Mu) (p : P3) (r : List Value) : Stays (M2 w m p r) := fun _ _ h hb => h.below hb
theorem M2.new (w : World) (m : Mu) (p : P3) : M2 w m p [.int .u64 0, .int .i64 0, .int .u64 0, .int .u64 0, .int .i64 0] (((w.alloc (.cells #[.int .u64 m.b, .int .i64 (hiW m.a), .int .u64 (loW m.a), .int .u64 m.w, .int .i64 m.n] 127)).alloc (.cells #[.int .u64 p.1, .int .u32 p.2.1, .int .u32 p.2.2] 27)).alloc (.cells #[.int .u64 0, .int .i64 0, .int .u64 0, .int .u64 0, .int .i64 0] 127)) := by
  have h1 := Cs.alloc_new6 w 127 m.cells
  have h2 := Cs.alloc_new6 (w.alloc (.cells #[.int .u64 m.b, .int .i64 (hiW m.a), .int .u64 (loW m.a), .int .u64 m.w, .int .i64 m.n] 127)) 27 (pcells p)
  have h3 := Cs.alloc_new6 ((w.alloc (.cells #[.int .u64 m.b, .int .i64 (hiW m.a), .int .u64 (loW m.a), .int .u64 m.w, .int .i64 m.n] 127)).alloc (.cells #[.int .u64 p.1, .int .u32 p.2.1, .int .u32 p.2.2] 27)) 127 [.int .u64 0, .int .i64 0, .int .u64 0, .int .u64 0, .int .i64 0]
  simp only [World.size_alloc] at h2 h3
  exact ⟨(h1.alloc _).alloc _, h2.alloc _, h3, (((Below.refl w.heap.size w).alloc (Nat.le_refl _) _).alloc (by simp) _).alloc (by simp; omega) _⟩
theorem M2.put {w w1 : World} {m : Mu} {p : P3} {a b c d e : Value} (h : M2 w m p [a, b, c, d, e] w1) {a' b' c' d' e' : Value} {W : World} (hW : W = w1.setCells (w.heap.size + 2) 0 [a', b', c', d', e']) : Cs W (w.heap.size + 2) [a', b', c', d', e'] ∧ Below w.heap.size w W := by
  rw [hW]
  exact ⟨Cs.putL [a', b', c', d', e'] 0 h.2.2.1 (by simp), below_sets (by omega) _ _ h.2.2.2⟩
theorem M2.fars {w w1 : World} {m : Mu} {p : P3} {r : List Value} (h : M2 w m p r w1) {g : Nat} (hg : w.heap.size + 2 < g) (vs : List Value) : M2 w m p r (w1.setCells g 0 vs) :=
  ⟨h.1.fars (by omega) _ _, h.2.1.fars (by omega) _ _, h.2.2.1.fars (by omega) _ _, below_sets (by omega) _ _ h.2.2.2⟩
theorem Cs.five {w : World} {g : Nat} {a b c d e : Value} (h : Cs w g [a, b, c, d, e]) : w.cell? ⟨g, 0, none⟩ = some a ∧ w.cell? ⟨g, 1, none⟩ = some b ∧ w.cell? ⟨g, 2, none⟩ = some c ∧ w.cell? ⟨g, 3, none⟩ = some d ∧ w.cell? ⟨g, 4, none⟩ = some e := ⟨h.at0, h.at1, h.at2, h.at3, h.at4⟩
set_option maxRecDepth 100000 in
set_option maxHeartbeats 4000000 in
theorem Mean.add (m : Mu) (p : P3) (hm : m.In) (hp : PIn p) (w : World) : Calls Tryz.prog 122 #[m.val, pv p] w (Ans (.tuple #[Mu.val (m.add p).2, .bool (m.add p).1]) w) := by
  have HM := hid hm
  have HP := hid hp
  have HQ0 := hid (M2.new w m p)
  clear hm hp
  unfold Mu.val pv
  cases h1 : m.right with
  | false =>
    have E : Hid (m.add p = (false, Mu.no)) := hid (by unfold Mu.add Mu.addOk; rw [h1, if_neg (by simp)])
    rw [E.out]
    have H1 := hid h1
    clear h1
    go_enter Tryz.func122, Tryz.ntmps122
    go_wp2_with fail
    generalize (((w.alloc (.cells #[.int .u64 m.b, .int .i64 (hiW m.a), .int .u64 (loW m.a), .int .u64 m.w, .int .i64 m.n] 127)).alloc (.cells #[.int .u64 p.1, .int .u32 p.2.1, .int .u32 p.2.2] 27)).alloc (.cells #[.int .u64 0, .int .i64 0, .int .u64 0, .int .u64 0, .int .i64 0] 127)) = W0 at HQ0 ⊢
    obtain ⟨m0, m1, m2, m3, m4⟩ := Mu.at m HQ0.out.1
    go_wp2_with fail
    refine (Mean.right m HM.out _).mono ?_
    rintro e w1 ⟨rfl, hb⟩
    have HQ1 := hid (HQ0.out.below hb)
    clear hb HQ0
    rw [H1.out]
    clear m0 m1 m2 m3 m4
    have HCr := hid HQ1.out.2.2.1
    go_wp2_with (first | ((with_reducible refine wpList_put_cs 127 [.int .u64 0, .int .i64 0, .int .u64 0, .int .u64 0, .int .i64 0] infoMean rfl (.tmp 4) (.tmp 21) rfl (w.heap.size + 2) _ HCr.out ?h1_1 ?h1_2 ?h1_3 ?h1_4 ?h1_5 ?h1_6); (case h1_1 => rfl); (case h1_2 => rfl); (case h1_3 => rfl); (case h1_4 => rfl); (case h1_5 => rfl); (intro W2 hW2); (have HW := hid (HQ1.out.put hW2)); (clear hW2)) | fail)
    obtain ⟨z0, z1, z2, z3, z4⟩ := HW.out.1.five
    go_wp2_with fail
    refine bodyPost_ret (v := .tuple #[Mu.val Mu.no, .bool false]) (by simp [results, Tryz.results122, go_sem, z0, z1, z2, z3, z4, hiW0, loW0]) rfl ⟨rfl, HW.out.2⟩
  | true =>
    cases h2 : pR p with
    | false =>
      have E : Hid (m.add p = (false, Mu.no)) := hid (by unfold Mu.add Mu.addOk; rw [h2, if_neg (by simp)])
      rw [E.out]
      have H1 := hid h1
      have H2 := hid h2
      clear h1 h2
      go_enter Tryz.func122, Tryz.ntmps122
      go_wp2_with fail
      generalize (((w.alloc (.cells #[.int .u64 m.b, .int .i64 (hiW m.a), .int .u64 (loW m.a), .int .u64 m.w, .int .i64 m.n] 127)).alloc (.cells #[.int .u64 p.1, .int .u32 p.2.1, .int .u32 p.2.2] 27)).alloc (.cells #[.int .u64 0, .int .i64 0, .int .u64 0, .int .u64 0, .int .i64 0] 127)) = W0 at HQ0 ⊢
      obtain ⟨m0, m1, m2, m3, m4⟩ := Mu.at m HQ0.out.1
      go_wp2_with fail
      refine (Mean.right m HM.out _).mono ?_
      rintro e w1 ⟨rfl, hb⟩
      have HQ1 := hid (HQ0.out.below hb)
      clear hb HQ0
      rw [H1.out]
      clear m0 m1 m2 m3 m4
      obtain ⟨q0, q1, q2⟩ := P3.at p HQ1.out.2.1
      go_wp2_with fail
      refine (Pos.rightF p _).mono ?_
      rintro e w2 ⟨rfl, hb⟩
      have HQ2 := hid (HQ1.out.below hb)
      clear hb q0 q1 q2 HQ1
      rw [H2.out]
      have HCr := hid HQ2.out.2.2.1
      go_wp2_with (first | ((with_reducible refine wpList_put_cs 127 [.int .u64 0, .int .i64 0, .int .u64 0, .int .u64 0, .int .i64 0] infoMean rfl (.tmp 4) (.tmp 21) rfl (w.heap.size + 2) _ HCr.out ?h2_1 ?h2_2 ?h2_3 ?h2_4 ?h2_5 ?h2_6); (case h2_1 => rfl); (case h2_2 => rfl); (case h2_3 => rfl); (case h2_4 => rfl); (case h2_5 => rfl); (intro W2 hW2); (have HW := hid (HQ2.out.put hW2)); (clear hW2)) | fail)
      obtain ⟨z0, z1, z2, z3, z4⟩ := HW.out.1.five
      go_wp2_with fail
      refine bodyPost_ret (v := .tuple #[Mu.val Mu.no, .bool false]) (by simp [results, Tryz.results122, go_sem, z0, z1, z2, z3, z4, hiW0, loW0]) rfl ⟨rfl, HW.out.2⟩
    | true =>
      by_cases h3 : m.n = 32
      · have C3 := hid (show (m.n == 32) = true by rw [h3]; rfl)
        have E : Hid (m.add p = (false, Mu.no)) := hid (by unfold Mu.add Mu.addOk; rw [h3, if_neg (by simp)])
        rw [E.out]
        clear h3
        have H1 := hid h1
        have H2 := hid h2
        clear h1 h2
        go_enter Tryz.func122, Tryz.ntmps122
        go_wp2_with fail
        generalize (((w.alloc (.cells #[.int .u64 m.b, .int .i64 (hiW m.a), .int .u64 (loW m.a), .int .u64 m.w, .int .i64 m.n] 127)).alloc (.cells #[.int .u64 p.1, .int .u32 p.2.1, .int .u32 p.2.2] 27)).alloc (.cells #[.int .u64 0, .int .i64 0, .int .u64 0, .int .u64 0, .int .i64 0] 127)) = W0 at HQ0 ⊢
        obtain ⟨m0, m1, m2, m3, m4⟩ := Mu.at m HQ0.out.1
        go_wp2_with fail
        refine (Mean.right m HM.out _).mono ?_
        rintro e w1 ⟨rfl, hb⟩
        have HQ1 := hid (HQ0.out.below hb)
        clear hb HQ0
        rw [H1.out]
        clear m0 m1 m2 m3 m4
        obtain ⟨q0, q1, q2⟩ := P3.at p HQ1.out.2.1
        go_wp2_with fail
        refine (Pos.rightF p _).mono ?_
        rintro e w2 ⟨rfl, hb⟩
        have HQ2 := hid (HQ1.out.below hb)
        clear hb q0 q1 q2 HQ1
        rw [H2.out]
        obtain ⟨m0, m1, m2, m3, m4⟩ := Mu.at m HQ2.out.1
        have c3 := C3.out
        have HCr := hid HQ2.out.2.2.1
        go_wp2_with (first | ((with_reducible refine wpList_put_cs 127 [.int .u64 0, .int .i64 0, .int .u64 0, .int .u64 0, .int .i64 0] infoMean rfl (.tmp 4) (.tmp 21) rfl (w.heap.size + 2) _ HCr.out ?h3_1 ?h3_2 ?h3_3 ?h3_4 ?h3_5 ?h3_6); (case h3_1 => rfl); (case h3_2 => rfl); (case h3_3 => rfl); (case h3_4 => rfl); (case h3_5 => rfl); (intro W2 hW2); (have HW := hid (HQ2.out.put hW2)); (clear hW2)) | fail)
        obtain ⟨z0, z1, z2, z3, z4⟩ := HW.out.1.five
        go_wp2_with fail
        refine bodyPost_ret (v := .tuple #[Mu.val Mu.no, .bool false]) (by simp [results, Tryz.results122, go_sem, z0, z1, z2, z3, z4, hiW0, loW0]) rfl ⟨rfl, HW.out.2⟩
      · have h3' : (m.n == 32) = false := by simpa using h3
        have N3 : Hid (m.n < 32) := hid (by unfold Mu.right at h1; split at h1; omega; simp only [Bool.and_eq_true, decide_eq_true_eq] at h1; omega)
        have HD : Hid (WR (pD m.b p)) := hid (by have := pD_bd m.b HP.out; unfold WR; omega)
        cases h4 : okW (m.a + pD m.b p) with
        | false =>
          have E : Hid (m.add p = (false, Mu.no)) := hid (by unfold Mu.add Mu.addOk; rw [h4, if_neg (by simp)])
          rw [E.out]
          have H4 := hid h4
          have H5 := hid (clW_no h4)
          clear h3 h4
          have H1 := hid h1
          have H2 := hid h2
          clear h1 h2
          go_enter Tryz.func122, Tryz.ntmps122
          go_wp2_with fail
          generalize (((w.alloc (.cells #[.int .u64 m.b, .int .i64 (hiW m.a), .int .u64 (loW m.a), .int .u64 m.w, .int .i64 m.n] 127)).alloc (.cells #[.int .u64 p.1, .int .u32 p.2.1, .int .u32 p.2.2] 27)).alloc (.cells #[.int .u64 0, .int .i64 0, .int .u64 0, .int .u64 0, .int .i64 0] 127)) = W0 at HQ0 ⊢
          obtain ⟨m0, m1, m2, m3, m4⟩ := Mu.at m HQ0.out.1
          go_wp2_with fail
          refine (Mean.right m HM.out _).mono ?_
          rintro e w1 ⟨rfl, hb⟩
          have HQ1 := hid (HQ0.out.below hb)
          clear hb HQ0
          rw [H1.out]
          clear m0 m1 m2 m3 m4
          obtain ⟨q0, q1, q2⟩ := P3.at p HQ1.out.2.1
          go_wp2_with fail
          refine (Pos.rightF p _).mono ?_
          rintro e w2 ⟨rfl, hb⟩
          have HQ2 := hid (HQ1.out.below hb)
          clear hb q0 q1 q2 HQ1
          rw [H2.out]
          obtain ⟨m0, m1, m2, m3, m4⟩ := Mu.at m HQ2.out.1
          go_wp2_with fail
          clear m0 m1 m2 m3 m4 h3'
          refine wp_region_grow (S := M2 w m p [.int .u64 0, .int .i64 0, .int .u64 0, .int .u64 0, .int .i64 0]) 13 (by kernel_rfl) (HQ2.out.below (Below.refl _ _).drew) ?_
          refine tE 0 (v := ?_) (M2.stays w m p [.int .u64 0, .int .i64 0, .int .u64 0, .int .u64 0, .int .i64 0]) (fun _ h => h) rfl (by kernel_rfl) (by rfl) ?_ ?_
          rotate_left
          · intro wq hSw
            go_simp; try with_reducible rfl
          try simp only [tdy]
          refine tE 1 (v := ?_) (M2.stays w m p [.int .u64 0, .int .i64 0, .int .u64 0, .int .u64 0, .int .i64 0]) (fun _ h => h) rfl (by kernel_rfl) (by rfl) ?_ ?_
          rotate_left
          · intro wq hSw
            obtain ⟨m0, m1, m2, m3, m4⟩ := Mu.at m hSw.1
            obtain ⟨q0, q1, q2⟩ := P3.at p hSw.2.1
            go_simp; try with_reducible rfl
          try simp only [tdy]
          refine tE 2 (v := ?_) (M2.stays w m p [.int .u64 0, .int .i64 0, .int .u64 0, .int .u64 0, .int .i64 0]) (fun _ h => h) rfl (by kernel_rfl) (by rfl) ?_ ?_
          rotate_left
          · intro wq hSw
            obtain ⟨m0, m1, m2, m3, m4⟩ := Mu.at m hSw.1
            obtain ⟨q0, q1, q2⟩ := P3.at p hSw.2.1
            go_simp; try with_reducible rfl
          try simp only [tdy]
          refine tE 3 (v := ?_) (M2.stays w m p [.int .u64 0, .int .i64 0, .int .u64 0, .int .u64 0, .int .i64 0]) (fun _ h => h) rfl (by kernel_rfl) (by rfl) ?_ ?_
          rotate_left
          · intro wq hSw
            go_simp; try with_reducible rfl
          try simp only [tdy]
          refine tE 4 (v := ?_) (M2.stays w m p [.int .u64 0, .int .i64 0, .int .u64 0, .int .u64 0, .int .i64 0]) (fun _ h => h) rfl (by kernel_rfl) (by rfl) ?_ ?_
          rotate_left
          · intro wq hSw
            obtain ⟨m0, m1, m2, m3, m4⟩ := Mu.at m hSw.1
            obtain ⟨q0, q1, q2⟩ := P3.at p hSw.2.1
            go_simp; try with_reducible rfl
          try simp only [tdy]
          refine wpAnyE_take (i := 5) (v := wv (pD m.b p)) (M2.stays w m p [.int .u64 0, .int .i64 0, .int .u64 0, .int .u64 0, .int .i64 0]) (fun _ h => h) rfl (by kernel_rfl) (by kernel_rfl) (by kernel_rfl) (by kernel_rfl) (fun _ _ _ h => h) (Or.inl ⟨by rfl, fun wq hSw => ?_⟩) ?_
          · refine RunB.of_calls (Pos.distanceF m.b HP.out wq) (by go_simp) ?_
            rintro e wr ⟨rfl, hb⟩
            exact ⟨rfl, hb⟩
          try simp only [tdy]
          refine wpAnyE_take (i := 6) (v := (.tuple #[wv (clW (m.a + pD m.b p)), .bool (okW (m.a + pD m.b p))])) (M2.stays w m p [.int .u64 0, .int .i64 0, .int .u64 0, .int .u64 0, .int .i64 0]) (fun _ h => h) rfl (by kernel_rfl) (by kernel_rfl) (by kernel_rfl) (by kernel_rfl) (fun _ _ _ h => h) (Or.inl ⟨by rfl, fun wq hSw => ?_⟩) ?_
          · refine RunB.of_calls (Wide.addF HM.out.2.1 HD.out wq) (by go_simp) ?_
            rintro e wr ⟨rfl, hb⟩
            exact ⟨rfl, hb⟩
          try simp only [tdy]
          refine tE 7 (v := ?_) (M2.stays w m p [.int .u64 0, .int .i64 0, .int .u64 0, .int .u64 0, .int .i64 0]) (fun _ h => h) rfl (by kernel_rfl) (by rfl) ?_ ?_
          rotate_left
          · intro wq hSw
            go_simp; try with_reducible rfl
          try simp only [tdy]
          refine tE 8 (v := ?_) (M2.stays w m p [.int .u64 0, .int .i64 0, .int .u64 0, .int .u64 0, .int .i64 0]) (fun _ h => h) rfl (by kernel_rfl) (by rfl) ?_ ?_
          rotate_left
          · intro wq hSw
            go_simp; try with_reducible rfl
          try simp only [tdy]
          refine tE 9 (v := ?_) (M2.stays w m p [.int .u64 0, .int .i64 0, .int .u64 0, .int .u64 0, .int .i64 0]) (fun _ h => h) rfl (by kernel_rfl) (by rfl) ?_ ?_
          rotate_left
          · intro wq hSw
            go_simp; try with_reducible rfl
          try simp only [tdy]
          refine wpAnyE_alloc (i := 10) (fun wx g => Cs wx g [.int .i64 0, .int .u64 0] ∧ w.heap.size + 2 < g) rfl (by kernel_rfl) (by decide) (by rfl) (M2.stays w m p [.int .u64 0, .int .i64 0, .int .u64 0, .int .u64 0, .int .i64 0]) (fun _ h => h) (fun g => (fun _ _ h hb => ⟨h.1.below hb, h.2⟩)) (fun wq hSw => ?_) (fun gA => ?_)
          · exact ⟨_, by go_simp; (try with_reducible rfl), (Below.refl _ _).alloc (Nat.le_refl _) _, Cs.new2 _ _ _ _, hSw.2.2.1.lt⟩
          try simp only [tdy]
          refine wpAnyE_store (i := 11) (fun wx => (M2 w m p [.int .u64 0, .int .i64 0, .int .u64 0, .int .u64 0, .int .i64 0]) wx ∧ (Cs wx gA [.int .i64 (hiW (clW (m.a + pD m.b p))), .int .u64 (loW (clW (m.a + pD m.b p)))] ∧ w.heap.size + 2 < gA)) 45 [.int .i64 (hiW (clW (m.a + pD m.b p))), .int .u64 (loW (clW (m.a + pD m.b p)))] [.int .i64 0, .int .u64 0] gA infoWide (.tmp 6) (.tmp 30) rfl rfl (by kernel_rfl) (by decide) (by rfl) ?st11_1a ?st11_1b ?st11_1c ?st11_1d ?st11_1e (fun _ h => h.2.1) (fun _ h => ⟨h.1.fars h.2.2 _, Cs.putL _ 0 h.2.1 (by simp), h.2.2⟩) (fun _ h => h.1) ((M2.stays w m p [.int .u64 0, .int .i64 0, .int .u64 0, .int .u64 0, .int .i64 0]).and_ (fun _ _ h hb => ⟨h.1.below hb, h.2⟩)) ?st11_1f
          case st11_1a => rfl
          case st11_1b => rfl
          case st11_1c => rfl
          case st11_1d => rfl
          case st11_1e => rfl
          try simp only [tdy]
          refine tE 12 (v := ?_) ((M2.stays w m p [.int .u64 0, .int .i64 0, .int .u64 0, .int .u64 0, .int .i64 0]).and_ (fun _ _ h hb => ⟨h.1.below hb, h.2⟩)) (fun _ h => h.1) rfl (by kernel_rfl) (by rfl) ?_ ?_
          rotate_left
          · intro wq hSw
            go_simp; try with_reducible rfl
          try simp only [tdy]
          refine wpAnyE_done (by kernel_rfl) (fun wz hSz => ?_) _
          obtain ⟨hQ, hG⟩ := hSz
          have HQ3 := hid hQ
          clear hQ hG HQ2
          rw [H4.out]
          have HCr := hid HQ3.out.2.2.1
          go_wp2_with (first | ((with_reducible refine wpList_put_cs 127 [.int .u64 0, .int .i64 0, .int .u64 0, .int .u64 0, .int .i64 0] infoMean rfl (.tmp 4) (.tmp 34) rfl (w.heap.size + 2) _ HCr.out ?h4_1 ?h4_2 ?h4_3 ?h4_4 ?h4_5 ?h4_6); (case h4_1 => rfl); (case h4_2 => rfl); (case h4_3 => rfl); (case h4_4 => rfl); (case h4_5 => rfl); (intro W2 hW2); (have HW := hid (HQ3.out.put hW2)); (clear hW2)) | fail)
          obtain ⟨z0, z1, z2, z3, z4⟩ := HW.out.1.five
          go_wp2_with fail
          refine bodyPost_ret (v := .tuple #[Mu.val Mu.no, .bool false]) (by simp [results, Tryz.results122, go_sem, z0, z1, z2, z3, z4, hiW0, loW0]) rfl ⟨rfl, HW.out.2⟩
        | true =>
          have E : Hid (m.add p = (true, ⟨m.b, m.a + pD m.b p, m.w + p.2.2, m.n + 1⟩)) := hid (by unfold Mu.add Mu.addOk; rw [h1, h2, h4, if_pos (by have := N3.out; simp; omega)])
          rw [E.out]
          have H4 := hid h4
          have H5 := hid (clW_ok h4)
          have HB := hid (right_bd h1)
          have HIP := hid (pR_isP HP.out h2)
          clear h3 h4
          have H1 := hid h1
          have H2 := hid h2
          clear h1 h2
          go_enter Tryz.func122, Tryz.ntmps122
          go_wp2_with fail
          generalize (((w.alloc (.cells #[.int .u64 m.b, .int .i64 (hiW m.a), .int .u64 (loW m.a), .int .u64 m.w, .int .i64 m.n] 127)).alloc (.cells #[.int .u64 p.1, .int .u32 p.2.1, .int .u32 p.2.2] 27)).alloc (.cells #[.int .u64 0, .int .i64 0, .int .u64 0, .int .u64 0, .int .i64 0] 127)) = W0 at HQ0 ⊢
          obtain ⟨m0, m1, m2, m3, m4⟩ := Mu.at m HQ0.out.1
          go_wp2_with fail
          refine (Mean.right m HM.out _).mono ?_
          rintro e w1 ⟨rfl, hb⟩
          have HQ1 := hid (HQ0.out.below hb)
          clear hb HQ0
          rw [H1.out]
          clear m0 m1 m2 m3 m4
          obtain ⟨q0, q1, q2⟩ := P3.at p HQ1.out.2.1
          go_wp2_with fail
          refine (Pos.rightF p _).mono ?_
          rintro e w2 ⟨rfl, hb⟩
          have HQ2 := hid (HQ1.out.below hb)
          clear hb q0 q1 q2 HQ1
          rw [H2.out]
          obtain ⟨m0, m1, m2, m3, m4⟩ := Mu.at m HQ2.out.1
          go_wp2_with fail
          clear m0 m1 m2 m3 m4 h3'
          refine wp_region_grow (S := M2 w m p [.int .u64 0, .int .i64 0, .int .u64 0, .int .u64 0, .int .i64 0]) 13 (by kernel_rfl) (HQ2.out.below (Below.refl _ _).drew) ?_
          refine tE 0 (v := ?_) (M2.stays w m p [.int .u64 0, .int .i64 0, .int .u64 0, .int .u64 0, .int .i64 0]) (fun _ h => h) rfl (by kernel_rfl) (by rfl) ?_ ?_
          rotate_left
          · intro wq hSw
            go_simp; try with_reducible rfl
          try simp only [tdy]
          refine tE 1 (v := ?_) (M2.stays w m p [.int .u64 0, .int .i64 0, .int .u64 0, .int .u64 0, .int .i64 0]) (fun _ h => h) rfl (by kernel_rfl) (by rfl) ?_ ?_
          rotate_left
          · intro wq hSw
            obtain ⟨m0, m1, m2, m3, m4⟩ := Mu.at m hSw.1
            obtain ⟨q0, q1, q2⟩ := P3.at p hSw.2.1
            go_simp; try with_reducible rfl
          try simp only [tdy]
          refine tE 2 (v := ?_) (M2.stays w m p [.int .u64 0, .int .i64 0, .int .u64 0, .int .u64 0, .int .i64 0]) (fun _ h => h) rfl (by kernel_rfl) (by rfl) ?_ ?_
          rotate_left
          · intro wq hSw
            obtain ⟨m0, m1, m2, m3, m4⟩ := Mu.at m hSw.1
            obtain ⟨q0, q1, q2⟩ := P3.at p hSw.2.1
            go_simp; try with_reducible rfl
          try simp only [tdy]
          refine tE 3 (v := ?_) (M2.stays w m p [.int .u64 0, .int .i64 0, .int .u64 0, .int .u64 0, .int .i64 0]) (fun _ h => h) rfl (by kernel_rfl) (by rfl) ?_ ?_
          rotate_left
          · intro wq hSw
            go_simp; try with_reducible rfl
          try simp only [tdy]
          refine tE 4 (v := ?_) (M2.stays w m p [.int .u64 0, .int .i64 0, .int .u64 0, .int .u64 0, .int .i64 0]) (fun _ h => h) rfl (by kernel_rfl) (by rfl) ?_ ?_
          rotate_left
          · intro wq hSw
            obtain ⟨m0, m1, m2, m3, m4⟩ := Mu.at m hSw.1
            obtain ⟨q0, q1, q2⟩ := P3.at p hSw.2.1
            go_simp; try with_reducible rfl
          try simp only [tdy]
          refine wpAnyE_take (i := 5) (v := wv (pD m.b p)) (M2.stays w m p [.int .u64 0, .int .i64 0, .int .u64 0, .int .u64 0, .int .i64 0]) (fun _ h => h) rfl (by kernel_rfl) (by kernel_rfl) (by kernel_rfl) (by kernel_rfl) (fun _ _ _ h => h) (Or.inl ⟨by rfl, fun wq hSw => ?_⟩) ?_
          · refine RunB.of_calls (Pos.distanceF m.b HP.out wq) (by go_simp) ?_
            rintro e wr ⟨rfl, hb⟩
            exact ⟨rfl, hb⟩
          try simp only [tdy]
          refine wpAnyE_take (i := 6) (v := (.tuple #[wv (clW (m.a + pD m.b p)), .bool (okW (m.a + pD m.b p))])) (M2.stays w m p [.int .u64 0, .int .i64 0, .int .u64 0, .int .u64 0, .int .i64 0]) (fun _ h => h) rfl (by kernel_rfl) (by kernel_rfl) (by kernel_rfl) (by kernel_rfl) (fun _ _ _ h => h) (Or.inl ⟨by rfl, fun wq hSw => ?_⟩) ?_
          · refine RunB.of_calls (Wide.addF HM.out.2.1 HD.out wq) (by go_simp) ?_
            rintro e wr ⟨rfl, hb⟩
            exact ⟨rfl, hb⟩
          try simp only [tdy]
          refine tE 7 (v := ?_) (M2.stays w m p [.int .u64 0, .int .i64 0, .int .u64 0, .int .u64 0, .int .i64 0]) (fun _ h => h) rfl (by kernel_rfl) (by rfl) ?_ ?_
          rotate_left
          · intro wq hSw
            go_simp; try with_reducible rfl
          try simp only [tdy]
          refine tE 8 (v := ?_) (M2.stays w m p [.int .u64 0, .int .i64 0, .int .u64 0, .int .u64 0, .int .i64 0]) (fun _ h => h) rfl (by kernel_rfl) (by rfl) ?_ ?_
          rotate_left
          · intro wq hSw
            go_simp; try with_reducible rfl
          try simp only [tdy]
          refine tE 9 (v := ?_) (M2.stays w m p [.int .u64 0, .int .i64 0, .int .u64 0, .int .u64 0, .int .i64 0]) (fun _ h => h) rfl (by kernel_rfl) (by rfl) ?_ ?_
          rotate_left
          · intro wq hSw
            go_simp; try with_reducible rfl
          try simp only [tdy]
          refine wpAnyE_alloc (i := 10) (fun wx g => Cs wx g [.int .i64 0, .int .u64 0] ∧ w.heap.size + 2 < g) rfl (by kernel_rfl) (by decide) (by rfl) (M2.stays w m p [.int .u64 0, .int .i64 0, .int .u64 0, .int .u64 0, .int .i64 0]) (fun _ h => h) (fun g => (fun _ _ h hb => ⟨h.1.below hb, h.2⟩)) (fun wq hSw => ?_) (fun gA => ?_)
          · exact ⟨_, by go_simp; (try with_reducible rfl), (Below.refl _ _).alloc (Nat.le_refl _) _, Cs.new2 _ _ _ _, hSw.2.2.1.lt⟩
          try simp only [tdy]
          refine wpAnyE_store (i := 11) (fun wx => (M2 w m p [.int .u64 0, .int .i64 0, .int .u64 0, .int .u64 0, .int .i64 0]) wx ∧ (Cs wx gA [.int .i64 (hiW (clW (m.a + pD m.b p))), .int .u64 (loW (clW (m.a + pD m.b p)))] ∧ w.heap.size + 2 < gA)) 45 [.int .i64 (hiW (clW (m.a + pD m.b p))), .int .u64 (loW (clW (m.a + pD m.b p)))] [.int .i64 0, .int .u64 0] gA infoWide (.tmp 6) (.tmp 30) rfl rfl (by kernel_rfl) (by decide) (by rfl) ?st11_2a ?st11_2b ?st11_2c ?st11_2d ?st11_2e (fun _ h => h.2.1) (fun _ h => ⟨h.1.fars h.2.2 _, Cs.putL _ 0 h.2.1 (by simp), h.2.2⟩) (fun _ h => h.1) ((M2.stays w m p [.int .u64 0, .int .i64 0, .int .u64 0, .int .u64 0, .int .i64 0]).and_ (fun _ _ h hb => ⟨h.1.below hb, h.2⟩)) ?st11_2f
          case st11_2a => rfl
          case st11_2b => rfl
          case st11_2c => rfl
          case st11_2d => rfl
          case st11_2e => rfl
          try simp only [tdy]
          refine tE 12 (v := ?_) ((M2.stays w m p [.int .u64 0, .int .i64 0, .int .u64 0, .int .u64 0, .int .i64 0]).and_ (fun _ _ h hb => ⟨h.1.below hb, h.2⟩)) (fun _ h => h.1) rfl (by kernel_rfl) (by rfl) ?_ ?_
          rotate_left
          · intro wq hSw
            go_simp; try with_reducible rfl
          try simp only [tdy]
          refine wpAnyE_done (by kernel_rfl) (fun wz hSz => ?_) _
          obtain ⟨hQ, hG⟩ := hSz
          have HQ3 := hid hQ
          rw [H5.out] at hG
          have g0 := hG.1.at0
          have g1 := hG.1.at1
          obtain ⟨m0, m1, m2, m3, m4⟩ := Mu.at m HQ3.out.1
          obtain ⟨q0, q1, q2⟩ := P3.at p HQ3.out.2.1
          have e1 : IntKind.u64.wrap p.2.2 = p.2.2 := by have := HIP.out; unfold IsP at this; rw [IntKind.wrap_u64]; omega
          have e2 : IntKind.u64.wrap (m.w + p.2.2) = m.w + p.2.2 := by have := HIP.out; have := HB.out; unfold IsP at *; rw [IntKind.wrap_u64]; omega
          have e3 : IntKind.i64.wrap (m.n + 1) = m.n + 1 := by have := HB.out; rw [IntKind.wrap_i64]; omega
          have H4o := H4.out
          clear hQ hG HQ2 H5
          have HCr := hid HQ3.out.2.2.1
          rw [H4o]
          go_wp2_with (first | ((with_reducible refine wpList_put_cs 127 [.int .u64 m.b, .int .i64 (hiW (m.a + pD m.b p)), .int .u64 (loW (m.a + pD m.b p)), .int .u64 (m.w + p.2.2), .int .i64 (m.n + 1)] infoMean rfl (.tmp 4) (.tmp 47) rfl (w.heap.size + 2) _ HCr.out ?h5_1 ?h5_2 ?h5_3 ?h5_4 ?h5_5 ?h5_6); (case h5_1 => rfl); (case h5_2 => rfl); (case h5_3 => rfl); (case h5_4 => rfl); (case h5_5 => rfl); (intro W2 hW2); (have HW := hid (HQ3.out.put hW2)); (clear hW2)) | fail)
          obtain ⟨z0, z1, z2, z3, z4⟩ := HW.out.1.five
          go_wp2_with fail
          refine bodyPost_ret (v := .tuple #[Mu.val ⟨m.b, m.a + pD m.b p, m.w + p.2.2, m.n + 1⟩, .bool true]) (by simp [results, Tryz.results122, go_sem, z0, z1, z2, z3, z4, hiW0, loW0]) rfl ⟨rfl, HW.out.2⟩
end


section
open Go.RowKit
theorem take_one {m : Mu} {p : P3} (hp : PIn p) (h1 : m.right = true) (h2 : pR p = true) (h3 : m.n = 1) : m.take p = if (Mu.mk m.b 0 (IntKind.u64.wrap (m.w - p.2.2)) (m.n - 1)).right = true then (true, (Mu.mk m.b 0 (IntKind.u64.wrap (m.w - p.2.2)) (m.n - 1))) else (false, Mu.no) := by
  have hb := right_bd h1
  have hip := pR_isP hp h2
  unfold IsP at hip
  have hw : m.w ≤ 33554432 := hb.2.2
  unfold Mu.take
  by_cases c : m.w = p.2.2
  · have e : (IntKind.u64.wrap (m.w - p.2.2)) = m.w - p.2.2 := by rw [IntKind.wrap_u64]; omega
    have e2 : m.left p = (Mu.mk m.b 0 (IntKind.u64.wrap (m.w - p.2.2)) (m.n - 1)) := by unfold Mu.left; rw [e, h3]; simp
    have hr : (Mu.mk m.b 0 (IntKind.u64.wrap (m.w - p.2.2)) (m.n - 1)).right = true := by
      unfold Mu.right; rw [e, h3, c]; simp
    rw [if_pos hr, ← e2, if_pos]
    unfold Mu.takeOk
    rw [h1, h2, e2, hr, h3]
    simp; omega
  · have hr : (Mu.mk m.b 0 (IntKind.u64.wrap (m.w - p.2.2)) (m.n - 1)).right = false := by
      unfold Mu.right
      rw [h3]
      simp only [Int.sub_self, if_true]
      rw [Bool.and_eq_false_iff]; right
      rw [decide_eq_false_iff_not, IntKind.wrap_u64]; omega
    have h9 : ¬ m.takeOk p = true := by
      unfold Mu.takeOk
      intro h
      simp only [Bool.and_eq_true, decide_eq_true_eq] at h
      have h5 := h.2
      unfold Mu.right Mu.left at h5
      simp only [h3, Int.sub_self, if_true, Bool.and_eq_true, decide_eq_true_eq] at h5
      omega
    rw [if_neg h9, hr, if_neg (by decide)]
theorem take_two {m : Mu} {p : P3} (hp : PIn p) (h1 : m.right = true) (h2 : pR p = true) (h3 : 1 < m.n) (h4 : okW (m.a - pD m.b p) = true) : m.take p = if (Mu.mk m.b (m.a - pD m.b p) (IntKind.u64.wrap (m.w - p.2.2)) (m.n - 1)).right = true then (true, (Mu.mk m.b (m.a - pD m.b p) (IntKind.u64.wrap (m.w - p.2.2)) (m.n - 1))) else (false, Mu.no) := by
  have hb := right_bd h1
  have hip := pR_isP hp h2
  unfold IsP at hip
  unfold Mu.take
  by_cases c : p.2.2 ≤ m.w
  · have e : (IntKind.u64.wrap (m.w - p.2.2)) = m.w - p.2.2 := by rw [IntKind.wrap_u64]; omega
    have e2 : m.left p = (Mu.mk m.b (m.a - pD m.b p) (IntKind.u64.wrap (m.w - p.2.2)) (m.n - 1)) := by unfold Mu.left; rw [e, if_neg (by omega)]
    have e3 : m.takeOk p = (Mu.mk m.b (m.a - pD m.b p) (IntKind.u64.wrap (m.w - p.2.2)) (m.n - 1)).right := by
      unfold Mu.takeOk
      rw [h1, h2, h4, e2, decide_eq_true (show m.n ≠ 0 by omega), decide_eq_true c]
      simp
    rw [e3, e2]
  · have hr : (Mu.mk m.b (m.a - pD m.b p) (IntKind.u64.wrap (m.w - p.2.2)) (m.n - 1)).right = false := by
      unfold Mu.right
      rw [if_neg (by simp only; omega), Bool.and_eq_false_iff]; right
      rw [decide_eq_false_iff_not]; simp only; rw [IntKind.wrap_u64]; omega
    have h9 : ¬ m.takeOk p = true := by
      unfold Mu.takeOk
      intro h
      simp only [Bool.and_eq_true, decide_eq_true_eq] at h
      exact c h.1.2
    rw [if_neg h9, hr, if_neg (by decide)]
theorem M2.putF {w w1 : World} {m : Mu} {p : P3} {r : List Value} (h : M2 w m p r w1) {g o : Nat} (hg : w.heap.size + 2 < g) (vs : List Value) : M2 w m p r (w1.setCells g o vs) :=
  ⟨h.1.fars (by omega) _ _, h.2.1.fars (by omega) _ _, h.2.2.1.fars (by omega) _ _, below_sets (by omega) _ _ h.2.2.2⟩
set_option maxRecDepth 100000 in
set_option maxHeartbeats 16000000 in
theorem Mean.take (m : Mu) (p : P3) (hm : m.In) (hp : PIn p) (w : World) : Calls Tryz.prog 117 #[m.val, pv p] w (Ans (.tuple #[Mu.val (m.take p).2, .bool (m.take p).1]) w) := by
  have HM := hid hm
  have HP := hid hp
  clear hm hp
  unfold Mu.val pv
  cases h1 : m.right with
  | false =>
    have E : Hid (m.take p = (false, Mu.no)) := hid (by unfold Mu.take Mu.takeOk; rw [h1, if_neg (by simp)])
    rw [E.out]
    have H1 := hid h1
    clear h1
    have HQ0 := hid (M2.new w m p)
    go_enter Tryz.func117, Tryz.ntmps117
    go_wp2_with fail
    generalize (((w.alloc (.cells #[.int .u64 m.b, .int .i64 (hiW m.a), .int .u64 (loW m.a), .int .u64 m.w, .int .i64 m.n] 127)).alloc (.cells #[.int .u64 p.1, .int .u32 p.2.1, .int .u32 p.2.2] 27)).alloc (.cells #[.int .u64 0, .int .i64 0, .int .u64 0, .int .u64 0, .int .i64 0] 127)) = W0 at HQ0 ⊢
    obtain ⟨m0, m1, m2, m3, m4⟩ := Mu.at m HQ0.out.1
    go_wp2_with fail
    refine (Mean.right m HM.out _).mono ?_
    rintro e w1 ⟨rfl, hb⟩
    have HQ1 := hid (HQ0.out.below hb)
    clear hb HQ0 m0 m1 m2 m3 m4
    rw [H1.out]
    have HCr := hid HQ1.out.2.2.1
    go_wp2_with (first | ((with_reducible refine wpList_put_cs 127 [.int .u64 0, .int .i64 0, .int .u64 0, .int .u64 0, .int .i64 0] infoMean rfl (.tmp 4) (.tmp 21) rfl (w.heap.size + 2) _ HCr.out ?h12001_1 ?h12001_2 ?h12001_3 ?h12001_4 ?h12001_5 ?h12001_6); (case h12001_1 => rfl); (case h12001_2 => rfl); (case h12001_3 => rfl); (case h12001_4 => rfl); (case h12001_5 => rfl); (intro W2 hW2); (have HW := hid (HQ1.out.put hW2)); (clear hW2)) | fail)
    obtain ⟨z0, z1, z2, z3, z4⟩ := HW.out.1.five
    go_wp2_with fail
    refine bodyPost_ret (v := .tuple #[Mu.val Mu.no, .bool false]) (by simp [results, Tryz.results117, go_sem, z0, z1, z2, z3, z4, hiW0, loW0]) rfl ⟨rfl, HW.out.2⟩
  | true =>
  have H1 := hid h1
  cases h2 : pR p with
  | false =>
    have E : Hid (m.take p = (false, Mu.no)) := hid (by unfold Mu.take Mu.takeOk; rw [h2, if_neg (by simp)])
    rw [E.out]
    have H2 := hid h2
    clear h1 h2
    have HQ0 := hid (M2.new w m p)
    go_enter Tryz.func117, Tryz.ntmps117
    go_wp2_with fail
    generalize (((w.alloc (.cells #[.int .u64 m.b, .int .i64 (hiW m.a), .int .u64 (loW m.a), .int .u64 m.w, .int .i64 m.n] 127)).alloc (.cells #[.int .u64 p.1, .int .u32 p.2.1, .int .u32 p.2.2] 27)).alloc (.cells #[.int .u64 0, .int .i64 0, .int .u64 0, .int .u64 0, .int .i64 0] 127)) = W0 at HQ0 ⊢
    obtain ⟨m0, m1, m2, m3, m4⟩ := Mu.at m HQ0.out.1
    go_wp2_with fail
    refine (Mean.right m HM.out _).mono ?_
    rintro e w1 ⟨rfl, hb⟩
    have HQ1 := hid (HQ0.out.below hb)
    clear hb HQ0 m0 m1 m2 m3 m4
    rw [H1.out]
    obtain ⟨q0, q1, q2⟩ := P3.at p HQ1.out.2.1
    go_wp2_with fail
    refine (Pos.rightF p _).mono ?_
    rintro e w2 ⟨rfl, hb⟩
    have HQ2 := hid (HQ1.out.below hb)
    clear hb q0 q1 q2 HQ1
    rw [H2.out]
    have HCr := hid HQ2.out.2.2.1
    go_wp2_with (first | ((with_reducible refine wpList_put_cs 127 [.int .u64 0, .int .i64 0, .int .u64 0, .int .u64 0, .int .i64 0] infoMean rfl (.tmp 4) (.tmp 21) rfl (w.heap.size + 2) _ HCr.out ?h12002_1 ?h12002_2 ?h12002_3 ?h12002_4 ?h12002_5 ?h12002_6); (case h12002_1 => rfl); (case h12002_2 => rfl); (case h12002_3 => rfl); (case h12002_4 => rfl); (case h12002_5 => rfl); (intro W2 hW2); (have HW := hid (HQ2.out.put hW2)); (clear hW2)) | fail)
    obtain ⟨z0, z1, z2, z3, z4⟩ := HW.out.1.five
    go_wp2_with fail
    refine bodyPost_ret (v := .tuple #[Mu.val Mu.no, .bool false]) (by simp [results, Tryz.results117, go_sem, z0, z1, z2, z3, z4, hiW0, loW0]) rfl ⟨rfl, HW.out.2⟩
  | true =>
  have H2 := hid h2
  by_cases h3 : m.n = 0
  · have C3 := hid (show (m.n == 0) = true by rw [h3]; rfl)
    have E : Hid (m.take p = (false, Mu.no)) := hid (by unfold Mu.take Mu.takeOk; rw [h3, if_neg (by simp)])
    rw [E.out]
    clear h1 h2 h3
    have HQ0 := hid (M2.new w m p)
    go_enter Tryz.func117, Tryz.ntmps117
    go_wp2_with fail
    generalize (((w.alloc (.cells #[.int .u64 m.b, .int .i64 (hiW m.a), .int .u64 (loW m.a), .int .u64 m.w, .int .i64 m.n] 127)).alloc (.cells #[.int .u64 p.1, .int .u32 p.2.1, .int .u32 p.2.2] 27)).alloc (.cells #[.int .u64 0, .int .i64 0, .int .u64 0, .int .u64 0, .int .i64 0] 127)) = W0 at HQ0 ⊢
    obtain ⟨m0, m1, m2, m3, m4⟩ := Mu.at m HQ0.out.1
    go_wp2_with fail
    refine (Mean.right m HM.out _).mono ?_
    rintro e w1 ⟨rfl, hb⟩
    have HQ1 := hid (HQ0.out.below hb)
    clear hb HQ0 m0 m1 m2 m3 m4
    rw [H1.out]
    obtain ⟨q0, q1, q2⟩ := P3.at p HQ1.out.2.1
    go_wp2_with fail
    refine (Pos.rightF p _).mono ?_
    rintro e w2 ⟨rfl, hb⟩
    have HQ2 := hid (HQ1.out.below hb)
    clear hb q0 q1 q2 HQ1
    rw [H2.out]
    obtain ⟨m0, m1, m2, m3, m4⟩ := Mu.at m HQ2.out.1
    have c3 := C3.out
    have HCr := hid HQ2.out.2.2.1
    go_wp2_with (first | ((with_reducible refine wpList_put_cs 127 [.int .u64 0, .int .i64 0, .int .u64 0, .int .u64 0, .int .i64 0] infoMean rfl (.tmp 4) (.tmp 21) rfl (w.heap.size + 2) _ HCr.out ?h12003_1 ?h12003_2 ?h12003_3 ?h12003_4 ?h12003_5 ?h12003_6); (case h12003_1 => rfl); (case h12003_2 => rfl); (case h12003_3 => rfl); (case h12003_4 => rfl); (case h12003_5 => rfl); (intro W2 hW2); (have HW := hid (HQ2.out.put hW2)); (clear hW2)) | fail)
    obtain ⟨z0, z1, z2, z3, z4⟩ := HW.out.1.five
    go_wp2_with fail
    refine bodyPost_ret (v := .tuple #[Mu.val Mu.no, .bool false]) (by simp [results, Tryz.results117, go_sem, z0, z1, z2, z3, z4, hiW0, loW0]) rfl ⟨rfl, HW.out.2⟩
  · have C3 := hid (show (m.n == 0) = false by simpa using h3)
    have HB := hid (right_w h1 h3)
    have HIP := hid (pR_isP HP.out h2)
    have e1 : IntKind.u64.wrap p.2.2 = p.2.2 := by have := HIP.out; unfold IsP at this; rw [IntKind.wrap_u64]; omega
    have e3 : IntKind.i64.wrap (m.n - 1) = m.n - 1 := by have := HB.out; rw [IntKind.wrap_i64]; omega
    by_cases h4 : m.n = 1
    · have N0 : Hid (m.n - 1 = 0) := hid (by omega)
      have ET := hid (take_one HP.out h1 h2 h4)
      have HLI : Hid ((Mu.mk m.b 0 (IntKind.u64.wrap (m.w - p.2.2)) (m.n - 1)).In) := hid ⟨HM.out.1, by unfold WR; simp only; omega, by simp only; rw [IntKind.wrap_u64]; omega, by simp only; have := HB.out; omega⟩
      have G0 : Hid (¬ 0 < m.n - 1) := hid (by omega)
      clear h1 h2 h3 h4
      cases hr : (Mu.mk m.b 0 (IntKind.u64.wrap (m.w - p.2.2)) (m.n - 1)).right with
      | false =>
        have E9 : Hid (m.take p = (false, Mu.no)) := hid (by rw [ET.out, hr]; rw [if_neg (by decide)])
        rw [E9.out]
        have HR9 := hid hr
        clear hr
        have HQ0 := hid (M2.new w m p)
        go_enter Tryz.func117, Tryz.ntmps117
        go_wp2_with fail
        generalize (((w.alloc (.cells #[.int .u64 m.b, .int .i64 (hiW m.a), .int .u64 (loW m.a), .int .u64 m.w, .int .i64 m.n] 127)).alloc (.cells #[.int .u64 p.1, .int .u32 p.2.1, .int .u32 p.2.2] 27)).alloc (.cells #[.int .u64 0, .int .i64 0, .int .u64 0, .int .u64 0, .int .i64 0] 127)) = W0 at HQ0 ⊢
        obtain ⟨m0, m1, m2, m3, m4⟩ := Mu.at m HQ0.out.1
        go_wp2_with fail
        refine (Mean.right m HM.out _).mono ?_
        rintro e w1 ⟨rfl, hb⟩
        have HQ1 := hid (HQ0.out.below hb)
        clear hb HQ0 m0 m1 m2 m3 m4
        rw [H1.out]
        obtain ⟨q0, q1, q2⟩ := P3.at p HQ1.out.2.1
        go_wp2_with fail
        refine (Pos.rightF p _).mono ?_
        rintro e w2 ⟨rfl, hb⟩
        have HQ2 := hid (HQ1.out.below hb)
        clear hb q0 q1 q2 HQ1
        rw [H2.out]
        obtain ⟨m0, m1, m2, m3, m4⟩ := Mu.at m HQ2.out.1
        obtain ⟨q0, q1, q2⟩ := P3.at p HQ2.out.2.1
        have c3 := C3.out
        have g0 := G0.out
        have HL0 := hid (Cs.alloc_new6 w2 127 [.int .u64 m.b, .int .i64 0, .int .u64 0, .int .u64 (IntKind.u64.wrap (m.w - p.2.2)), .int .i64 (m.n - 1)])
        have HQ3 := hid (HQ2.out.below ((Below.refl _ _).alloc (Nat.le_refl _) (.cells #[.int .u64 m.b, .int .i64 0, .int .u64 0, .int .u64 (IntKind.u64.wrap (m.w - p.2.2)), .int .i64 (m.n - 1)] 127)))
        go_wp2_with fail
        refine (Mean.right (Mu.mk m.b 0 (IntKind.u64.wrap (m.w - p.2.2)) (m.n - 1)) HLI.out _).mono ?_
        rw [HR9.out]
        rintro e w3 ⟨rfl, hb⟩
        have HQ4 := hid (HQ3.out.below hb)
        have HL4 := hid ((show Cs (w2.alloc (.cells #[.int .u64 m.b, .int .i64 0, .int .u64 0, .int .u64 (IntKind.u64.wrap (m.w - p.2.2)), .int .i64 (m.n - 1)] 127)) w2.heap.size [.int .u64 m.b, .int .i64 0, .int .u64 0, .int .u64 (IntKind.u64.wrap (m.w - p.2.2)), .int .i64 (m.n - 1)] from HL0.out).below hb)
        clear hb HQ3 HQ2 HL0 m0 m1 m2 m3 m4 c3 g0 q0 q1 q2
        have HCr := hid HQ4.out.2.2.1
        go_wp2_with (first | ((with_reducible refine wpList_put_cs 127 [.int .u64 0, .int .i64 0, .int .u64 0, .int .u64 0, .int .i64 0] infoMean rfl (.tmp 4) (.tmp 54) rfl (w.heap.size + 2) _ HCr.out ?h12004_1 ?h12004_2 ?h12004_3 ?h12004_4 ?h12004_5 ?h12004_6); (case h12004_1 => rfl); (case h12004_2 => rfl); (case h12004_3 => rfl); (case h12004_4 => rfl); (case h12004_5 => rfl); (intro W2 hW2); (have HW := hid (HQ4.out.put hW2)); (clear hW2)) | fail)
        obtain ⟨z0, z1, z2, z3, z4⟩ := HW.out.1.five
        go_wp2_with fail
        refine bodyPost_ret (v := .tuple #[Mu.val Mu.no, .bool false]) (by simp [results, Tryz.results117, go_sem, z0, z1, z2, z3, z4, hiW0, loW0]) rfl ⟨rfl, HW.out.2⟩
      | true =>
        have E9 : Hid (m.take p = (true, (Mu.mk m.b 0 (IntKind.u64.wrap (m.w - p.2.2)) (m.n - 1)))) := hid (by rw [ET.out, hr]; rw [if_pos rfl])
        rw [E9.out]
        have HR9 := hid hr
        clear hr
        have HQ0 := hid (M2.new w m p)
        go_enter Tryz.func117, Tryz.ntmps117
        go_wp2_with fail
        generalize (((w.alloc (.cells #[.int .u64 m.b, .int .i64 (hiW m.a), .int .u64 (loW m.a), .int .u64 m.w, .int .i64 m.n] 127)).alloc (.cells #[.int .u64 p.1, .int .u32 p.2.1, .int .u32 p.2.2] 27)).alloc (.cells #[.int .u64 0, .int .i64 0, .int .u64 0, .int .u64 0, .int .i64 0] 127)) = W0 at HQ0 ⊢
        obtain ⟨m0, m1, m2, m3, m4⟩ := Mu.at m HQ0.out.1
        go_wp2_with fail
        refine (Mean.right m HM.out _).mono ?_
        rintro e w1 ⟨rfl, hb⟩
        have HQ1 := hid (HQ0.out.below hb)
        clear hb HQ0 m0 m1 m2 m3 m4
        rw [H1.out]
        obtain ⟨q0, q1, q2⟩ := P3.at p HQ1.out.2.1
        go_wp2_with fail
        refine (Pos.rightF p _).mono ?_
        rintro e w2 ⟨rfl, hb⟩
        have HQ2 := hid (HQ1.out.below hb)
        clear hb q0 q1 q2 HQ1
        rw [H2.out]
        obtain ⟨m0, m1, m2, m3, m4⟩ := Mu.at m HQ2.out.1
        obtain ⟨q0, q1, q2⟩ := P3.at p HQ2.out.2.1
        have c3 := C3.out
        have g0 := G0.out
        have HL0 := hid (Cs.alloc_new6 w2 127 [.int .u64 m.b, .int .i64 0, .int .u64 0, .int .u64 (IntKind.u64.wrap (m.w - p.2.2)), .int .i64 (m.n - 1)])
        have HQ3 := hid (HQ2.out.below ((Below.refl _ _).alloc (Nat.le_refl _) (.cells #[.int .u64 m.b, .int .i64 0, .int .u64 0, .int .u64 (IntKind.u64.wrap (m.w - p.2.2)), .int .i64 (m.n - 1)] 127)))
        go_wp2_with fail
        refine (Mean.right (Mu.mk m.b 0 (IntKind.u64.wrap (m.w - p.2.2)) (m.n - 1)) HLI.out _).mono ?_
        rw [HR9.out]
        rintro e w3 ⟨rfl, hb⟩
        have HQ4 := hid (HQ3.out.below hb)
        have HL4 := hid ((show Cs (w2.alloc (.cells #[.int .u64 m.b, .int .i64 0, .int .u64 0, .int .u64 (IntKind.u64.wrap (m.w - p.2.2)), .int .i64 (m.n - 1)] 127)) w2.heap.size [.int .u64 m.b, .int .i64 0, .int .u64 0, .int .u64 (IntKind.u64.wrap (m.w - p.2.2)), .int .i64 (m.n - 1)] from HL0.out).below hb)
        clear hb HQ3 HQ2 HL0 m0 m1 m2 m3 m4 c3 g0 q0 q1 q2
        have HCr := hid HQ4.out.2.2.1
        obtain ⟨m0, m1, m2, m3, m4⟩ := HL4.out.five
        go_wp2_with (first | ((with_reducible refine wpList_put_cs 127 [.int .u64 m.b, .int .i64 0, .int .u64 0, .int .u64 (IntKind.u64.wrap (m.w - p.2.2)), .int .i64 (m.n - 1)] infoMean rfl (.tmp 4) (.tmp 55) rfl (w.heap.size + 2) _ HCr.out ?h12005_1 ?h12005_2 ?h12005_3 ?h12005_4 ?h12005_5 ?h12005_6); (case h12005_1 => rfl); (case h12005_2 => rfl); (case h12005_3 => rfl); (case h12005_4 => rfl); (case h12005_5 => rfl); (intro W2 hW2); (have HW := hid (HQ4.out.put hW2)); (clear hW2)) | fail)
        clear m0 m1 m2 m3 m4
        obtain ⟨z0, z1, z2, z3, z4⟩ := HW.out.1.five
        go_wp2_with fail
        refine bodyPost_ret (v := .tuple #[Mu.val (Mu.mk m.b 0 (IntKind.u64.wrap (m.w - p.2.2)) (m.n - 1)), .bool true]) (by simp [results, Tryz.results117, go_sem, z0, z1, z2, z3, z4, hiW0, loW0]) rfl ⟨rfl, HW.out.2⟩
    · have G1 : Hid (0 < m.n - 1) := hid (by have := HB.out; omega)
      have HD : Hid (WR (pD m.b p)) := hid (by have := pD_bd m.b HP.out; unfold WR; omega)
      cases h5 : okW (m.a - pD m.b p) with
      | false =>
        have E : Hid (m.take p = (false, Mu.no)) := hid (by unfold Mu.take Mu.takeOk; rw [h5, decide_eq_false h4, if_neg (by simp)])
        rw [E.out]
        have H5 := hid h5
        clear h1 h2 h3 h4 h5
        have HQ0 := hid (M2.new w m p)
        go_enter Tryz.func117, Tryz.ntmps117
        go_wp2_with fail
        generalize (((w.alloc (.cells #[.int .u64 m.b, .int .i64 (hiW m.a), .int .u64 (loW m.a), .int .u64 m.w, .int .i64 m.n] 127)).alloc (.cells #[.int .u64 p.1, .int .u32 p.2.1, .int .u32 p.2.2] 27)).alloc (.cells #[.int .u64 0, .int .i64 0, .int .u64 0, .int .u64 0, .int .i64 0] 127)) = W0 at HQ0 ⊢
        obtain ⟨m0, m1, m2, m3, m4⟩ := Mu.at m HQ0.out.1
        go_wp2_with fail
        refine (Mean.right m HM.out _).mono ?_
        rintro e w1 ⟨rfl, hb⟩
        have HQ1 := hid (HQ0.out.below hb)
        clear hb HQ0 m0 m1 m2 m3 m4
        rw [H1.out]
        obtain ⟨q0, q1, q2⟩ := P3.at p HQ1.out.2.1
        go_wp2_with fail
        refine (Pos.rightF p _).mono ?_
        rintro e w2 ⟨rfl, hb⟩
        have HQ2 := hid (HQ1.out.below hb)
        clear hb q0 q1 q2 HQ1
        rw [H2.out]
        obtain ⟨m0, m1, m2, m3, m4⟩ := Mu.at m HQ2.out.1
        obtain ⟨q0, q1, q2⟩ := P3.at p HQ2.out.2.1
        have c3 := C3.out
        have g0 := G1.out
        have HL : Hid (Cs (w2.alloc (.cells #[.int .u64 m.b, .int .i64 0, .int .u64 0, .int .u64 (IntKind.u64.wrap (m.w - p.2.2)), .int .i64 (m.n - 1)] 127)) w2.heap.size [.int .u64 m.b, .int .i64 0, .int .u64 0, .int .u64 (IntKind.u64.wrap (m.w - p.2.2)), .int .i64 (m.n - 1)] ∧ w.heap.size + 2 < w2.heap.size) := hid ⟨Cs.alloc_new6 w2 127 [.int .u64 m.b, .int .i64 0, .int .u64 0, .int .u64 (IntKind.u64.wrap (m.w - p.2.2)), .int .i64 (m.n - 1)], HQ2.out.2.2.1.lt⟩
        have HQ3 := hid (HQ2.out.below ((Below.refl _ _).alloc (Nat.le_refl _) (.cells #[.int .u64 m.b, .int .i64 0, .int .u64 0, .int .u64 (IntKind.u64.wrap (m.w - p.2.2)), .int .i64 (m.n - 1)] 127)))
        go_wp2_with fail
        generalize w2.alloc (.cells #[.int .u64 m.b, .int .i64 0, .int .u64 0, .int .u64 (IntKind.u64.wrap (m.w - p.2.2)), .int .i64 (m.n - 1)] 127) = W3 at HQ3 HL ⊢
        generalize w2.heap.size = g6 at HL ⊢
        clear HQ2 m0 m1 m2 m3 m4 c3 g0 q0 q1 q2
        refine wp_region_any (by kernel_rfl) (wpAny_of_E (S0 := fun wx => M2 w m p [.int .u64 0, .int .i64 0, .int .u64 0, .int .u64 0, .int .i64 0] wx) (n := 13) _ (fun wx => M2 w m p [.int .u64 0, .int .i64 0, .int .u64 0, .int .u64 0, .int .i64 0] wx ∧ (Cs wx g6 [.int .u64 m.b, .int .i64 0, .int .u64 0, .int .u64 (IntKind.u64.wrap (m.w - p.2.2)), .int .i64 (m.n - 1)] ∧ w.heap.size + 2 < g6)) _ _ _ (⟨HQ3.out.below (Below.refl _ _).drew, HL.out⟩) ?_)
        refine tE 0 (v := ?_) ((Stays.and_ (M2.stays w m p [.int .u64 0, .int .i64 0, .int .u64 0, .int .u64 0, .int .i64 0]) (fun _ _ h hb => ⟨h.1.below hb, h.2⟩) : Stays (fun wx => M2 w m p [.int .u64 0, .int .i64 0, .int .u64 0, .int .u64 0, .int .i64 0] wx ∧ (Cs wx g6 [.int .u64 m.b, .int .i64 0, .int .u64 0, .int .u64 (IntKind.u64.wrap (m.w - p.2.2)), .int .i64 (m.n - 1)] ∧ w.heap.size + 2 < g6)))) (fun _ h => h.1) rfl (by kernel_rfl) (by rfl) ?_ ?_
        rotate_left
        · intro wq hSw
          go_simp; try with_reducible rfl
        try simp only [tdy]
        refine tE 1 (v := ?_) ((Stays.and_ (M2.stays w m p [.int .u64 0, .int .i64 0, .int .u64 0, .int .u64 0, .int .i64 0]) (fun _ _ h hb => ⟨h.1.below hb, h.2⟩) : Stays (fun wx => M2 w m p [.int .u64 0, .int .i64 0, .int .u64 0, .int .u64 0, .int .i64 0] wx ∧ (Cs wx g6 [.int .u64 m.b, .int .i64 0, .int .u64 0, .int .u64 (IntKind.u64.wrap (m.w - p.2.2)), .int .i64 (m.n - 1)] ∧ w.heap.size + 2 < g6)))) (fun _ h => h.1) rfl (by kernel_rfl) (by rfl) ?_ ?_
        rotate_left
        · intro wq hSw
          obtain ⟨m0, m1, m2, m3, m4⟩ := Mu.at m hSw.1
          obtain ⟨q0, q1, q2⟩ := P3.at p hSw.2.1
          go_simp; try with_reducible rfl
        try simp only [tdy]
        refine tE 2 (v := ?_) ((Stays.and_ (M2.stays w m p [.int .u64 0, .int .i64 0, .int .u64 0, .int .u64 0, .int .i64 0]) (fun _ _ h hb => ⟨h.1.below hb, h.2⟩) : Stays (fun wx => M2 w m p [.int .u64 0, .int .i64 0, .int .u64 0, .int .u64 0, .int .i64 0] wx ∧ (Cs wx g6 [.int .u64 m.b, .int .i64 0, .int .u64 0, .int .u64 (IntKind.u64.wrap (m.w - p.2.2)), .int .i64 (m.n - 1)] ∧ w.heap.size + 2 < g6)))) (fun _ h => h.1) rfl (by kernel_rfl) (by rfl) ?_ ?_
        rotate_left
        · intro wq hSw
          obtain ⟨m0, m1, m2, m3, m4⟩ := Mu.at m hSw.1
          obtain ⟨q0, q1, q2⟩ := P3.at p hSw.2.1
          go_simp; try with_reducible rfl
        try simp only [tdy]
        refine tE 3 (v := ?_) ((Stays.and_ (M2.stays w m p [.int .u64 0, .int .i64 0, .int .u64 0, .int .u64 0, .int .i64 0]) (fun _ _ h hb => ⟨h.1.below hb, h.2⟩) : Stays (fun wx => M2 w m p [.int .u64 0, .int .i64 0, .int .u64 0, .int .u64 0, .int .i64 0] wx ∧ (Cs wx g6 [.int .u64 m.b, .int .i64 0, .int .u64 0, .int .u64 (IntKind.u64.wrap (m.w - p.2.2)), .int .i64 (m.n - 1)] ∧ w.heap.size + 2 < g6)))) (fun _ h => h.1) rfl (by kernel_rfl) (by rfl) ?_ ?_
        rotate_left
        · intro wq hSw
          go_simp; try with_reducible rfl
        try simp only [tdy]
        refine tE 4 (v := ?_) ((Stays.and_ (M2.stays w m p [.int .u64 0, .int .i64 0, .int .u64 0, .int .u64 0, .int .i64 0]) (fun _ _ h hb => ⟨h.1.below hb, h.2⟩) : Stays (fun wx => M2 w m p [.int .u64 0, .int .i64 0, .int .u64 0, .int .u64 0, .int .i64 0] wx ∧ (Cs wx g6 [.int .u64 m.b, .int .i64 0, .int .u64 0, .int .u64 (IntKind.u64.wrap (m.w - p.2.2)), .int .i64 (m.n - 1)] ∧ w.heap.size + 2 < g6)))) (fun _ h => h.1) rfl (by kernel_rfl) (by rfl) ?_ ?_
        rotate_left
        · intro wq hSw
          obtain ⟨m0, m1, m2, m3, m4⟩ := Mu.at m hSw.1
          obtain ⟨q0, q1, q2⟩ := P3.at p hSw.2.1
          go_simp; try with_reducible rfl
        try simp only [tdy]
        refine wpAnyE_take (i := 5) (v := wv (pD m.b p)) ((Stays.and_ (M2.stays w m p [.int .u64 0, .int .i64 0, .int .u64 0, .int .u64 0, .int .i64 0]) (fun _ _ h hb => ⟨h.1.below hb, h.2⟩) : Stays (fun wx => M2 w m p [.int .u64 0, .int .i64 0, .int .u64 0, .int .u64 0, .int .i64 0] wx ∧ (Cs wx g6 [.int .u64 m.b, .int .i64 0, .int .u64 0, .int .u64 (IntKind.u64.wrap (m.w - p.2.2)), .int .i64 (m.n - 1)] ∧ w.heap.size + 2 < g6)))) (fun _ h => h.1) rfl (by kernel_rfl) (by kernel_rfl) (by kernel_rfl) (by kernel_rfl) (fun _ _ _ h => h) (Or.inl ⟨by rfl, fun wq hSw => ?_⟩) ?_
        · refine RunB.of_calls (Pos.distanceF m.b HP.out wq) (by go_simp) ?_
          rintro e wr ⟨rfl, hb⟩
          exact ⟨rfl, hb⟩
        try simp only [tdy]
        refine wpAnyE_take (i := 6) (v := (.tuple #[wv (clW (m.a - pD m.b p)), .bool (okW (m.a - pD m.b p))])) ((Stays.and_ (M2.stays w m p [.int .u64 0, .int .i64 0, .int .u64 0, .int .u64 0, .int .i64 0]) (fun _ _ h hb => ⟨h.1.below hb, h.2⟩) : Stays (fun wx => M2 w m p [.int .u64 0, .int .i64 0, .int .u64 0, .int .u64 0, .int .i64 0] wx ∧ (Cs wx g6 [.int .u64 m.b, .int .i64 0, .int .u64 0, .int .u64 (IntKind.u64.wrap (m.w - p.2.2)), .int .i64 (m.n - 1)] ∧ w.heap.size + 2 < g6)))) (fun _ h => h.1) rfl (by kernel_rfl) (by kernel_rfl) (by kernel_rfl) (by kernel_rfl) (fun _ _ _ h => h) (Or.inl ⟨by rfl, fun wq hSw => ?_⟩) ?_
        · refine RunB.of_calls (Wide.subF HM.out.2.1 HD.out wq) (by go_simp) ?_
          rintro e wr ⟨rfl, hb⟩
          exact ⟨rfl, hb⟩
        try simp only [tdy]
        refine tE 7 (v := ?_) ((Stays.and_ (M2.stays w m p [.int .u64 0, .int .i64 0, .int .u64 0, .int .u64 0, .int .i64 0]) (fun _ _ h hb => ⟨h.1.below hb, h.2⟩) : Stays (fun wx => M2 w m p [.int .u64 0, .int .i64 0, .int .u64 0, .int .u64 0, .int .i64 0] wx ∧ (Cs wx g6 [.int .u64 m.b, .int .i64 0, .int .u64 0, .int .u64 (IntKind.u64.wrap (m.w - p.2.2)), .int .i64 (m.n - 1)] ∧ w.heap.size + 2 < g6)))) (fun _ h => h.1) rfl (by kernel_rfl) (by rfl) ?_ ?_
        rotate_left
        · intro wq hSw
          go_simp; try with_reducible rfl
        try simp only [tdy]
        refine tE 8 (v := ?_) ((Stays.and_ (M2.stays w m p [.int .u64 0, .int .i64 0, .int .u64 0, .int .u64 0, .int .i64 0]) (fun _ _ h hb => ⟨h.1.below hb, h.2⟩) : Stays (fun wx => M2 w m p [.int .u64 0, .int .i64 0, .int .u64 0, .int .u64 0, .int .i64 0] wx ∧ (Cs wx g6 [.int .u64 m.b, .int .i64 0, .int .u64 0, .int .u64 (IntKind.u64.wrap (m.w - p.2.2)), .int .i64 (m.n - 1)] ∧ w.heap.size + 2 < g6)))) (fun _ h => h.1) rfl (by kernel_rfl) (by rfl) ?_ ?_
        rotate_left
        · intro wq hSw
          go_simp; try with_reducible rfl
        try simp only [tdy]
        refine tE 9 (v := ?_) ((Stays.and_ (M2.stays w m p [.int .u64 0, .int .i64 0, .int .u64 0, .int .u64 0, .int .i64 0]) (fun _ _ h hb => ⟨h.1.below hb, h.2⟩) : Stays (fun wx => M2 w m p [.int .u64 0, .int .i64 0, .int .u64 0, .int .u64 0, .int .i64 0] wx ∧ (Cs wx g6 [.int .u64 m.b, .int .i64 0, .int .u64 0, .int .u64 (IntKind.u64.wrap (m.w - p.2.2)), .int .i64 (m.n - 1)] ∧ w.heap.size + 2 < g6)))) (fun _ h => h.1) rfl (by kernel_rfl) (by rfl) ?_ ?_
        rotate_left
        · intro wq hSw
          go_simp; try with_reducible rfl
        try simp only [tdy]
        refine tE 10 (v := ?_) ((Stays.and_ (M2.stays w m p [.int .u64 0, .int .i64 0, .int .u64 0, .int .u64 0, .int .i64 0]) (fun _ _ h hb => ⟨h.1.below hb, h.2⟩) : Stays (fun wx => M2 w m p [.int .u64 0, .int .i64 0, .int .u64 0, .int .u64 0, .int .i64 0] wx ∧ (Cs wx g6 [.int .u64 m.b, .int .i64 0, .int .u64 0, .int .u64 (IntKind.u64.wrap (m.w - p.2.2)), .int .i64 (m.n - 1)] ∧ w.heap.size + 2 < g6)))) (fun _ h => h.1) rfl (by kernel_rfl) (by rfl) ?_ ?_
        rotate_left
        · intro wq hSw
          go_simp; try with_reducible rfl
        try simp only [tdy]
        refine wpAnyE_storeAt (i := 11) (fun wx => (fun wx => M2 w m p [.int .u64 0, .int .i64 0, .int .u64 0, .int .u64 0, .int .i64 0] wx) wx ∧ (Cs wx g6 [.int .u64 m.b, .int .i64 (hiW (clW (m.a - pD m.b p))), .int .u64 (loW (clW (m.a - pD m.b p))), .int .u64 (IntKind.u64.wrap (m.w - p.2.2)), .int .i64 (m.n - 1)] ∧ w.heap.size + 2 < g6)) 45 [.int .i64 (hiW (clW (m.a - pD m.b p))), .int .u64 (loW (clW (m.a - pD m.b p)))] [.int .u64 m.b, .int .i64 0, .int .u64 0, .int .u64 (IntKind.u64.wrap (m.w - p.2.2)), .int .i64 (m.n - 1)] g6 1 infoWide (.tmp 47) (.tmp 45) rfl rfl (by kernel_rfl) (by decide) (by rfl) ?st11_1a ?st11_1b ?st11_1c ?st11_1d ?st11_1e (fun _ h => h.2.1) (fun _ h => ⟨h.1.putF h.2.2 _, Cs.putL _ 1 h.2.1 (by simp), h.2.2⟩) (fun _ h => h.1) ((Stays.and_ (M2.stays w m p [.int .u64 0, .int .i64 0, .int .u64 0, .int .u64 0, .int .i64 0] : Stays (fun wx => M2 w m p [.int .u64 0, .int .i64 0, .int .u64 0, .int .u64 0, .int .i64 0] wx)) (fun _ _ h hb => ⟨h.1.below hb, h.2⟩))) ?st11_1f
        case st11_1a => rfl
        case st11_1b => simp
        case st11_1c => rfl
        case st11_1d => rfl
        case st11_1e => rfl
        try simp only [tdy]
        refine tE 12 (v := ?_) ((Stays.and_ (M2.stays w m p [.int .u64 0, .int .i64 0, .int .u64 0, .int .u64 0, .int .i64 0] : Stays (fun wx => M2 w m p [.int .u64 0, .int .i64 0, .int .u64 0, .int .u64 0, .int .i64 0] wx)) (fun _ _ h hb => ⟨h.1.below hb, h.2⟩))) (fun _ h => h.1) rfl (by kernel_rfl) (by rfl) ?_ ?_
        rotate_left
        · intro wq hSw
          go_simp; try with_reducible rfl
        try simp only [tdy]
        refine wpAnyE_done (by kernel_rfl) (fun wz hSz => ?_) _
        have HQ5 := hid hSz.1
        clear hSz HQ3 HL
        rw [H5.out]
        have HCr := hid HQ5.out.2.2.1
        go_wp2_with (first | ((with_reducible refine wpList_put_cs 127 [.int .u64 0, .int .i64 0, .int .u64 0, .int .u64 0, .int .i64 0] infoMean rfl (.tmp 4) (.tmp 50) rfl (w.heap.size + 2) _ HCr.out ?h12006_1 ?h12006_2 ?h12006_3 ?h12006_4 ?h12006_5 ?h12006_6); (case h12006_1 => rfl); (case h12006_2 => rfl); (case h12006_3 => rfl); (case h12006_4 => rfl); (case h12006_5 => rfl); (intro W2 hW2); (have HW := hid (HQ5.out.put hW2)); (clear hW2)) | fail)
        obtain ⟨z0, z1, z2, z3, z4⟩ := HW.out.1.five
        go_wp2_with fail
        refine bodyPost_ret (v := .tuple #[Mu.val Mu.no, .bool false]) (by simp [results, Tryz.results117, go_sem, z0, z1, z2, z3, z4, hiW0, loW0]) rfl ⟨rfl, HW.out.2⟩
      | true =>
        have ET := hid (take_two HP.out h1 h2 (by have := HB.out; omega) h5)
        have H5 := hid h5
        have H6 := hid (clW_ok h5)
        have HLI : Hid ((Mu.mk m.b (m.a - pD m.b p) (IntKind.u64.wrap (m.w - p.2.2)) (m.n - 1)).In) := hid ⟨HM.out.1, okW_iff.1 h5, by simp only; rw [IntKind.wrap_u64]; omega, by simp only; have := HB.out; omega⟩
        clear h1 h2 h3 h4 h5
        cases hr : (Mu.mk m.b (m.a - pD m.b p) (IntKind.u64.wrap (m.w - p.2.2)) (m.n - 1)).right with
        | false =>
          have E9 : Hid (m.take p = (false, Mu.no)) := hid (by rw [ET.out, hr]; rw [if_neg (by decide)])
          rw [E9.out]
          have HR9 := hid hr
          clear hr
          have HQ0 := hid (M2.new w m p)
          go_enter Tryz.func117, Tryz.ntmps117
          go_wp2_with fail
          generalize (((w.alloc (.cells #[.int .u64 m.b, .int .i64 (hiW m.a), .int .u64 (loW m.a), .int .u64 m.w, .int .i64 m.n] 127)).alloc (.cells #[.int .u64 p.1, .int .u32 p.2.1, .int .u32 p.2.2] 27)).alloc (.cells #[.int .u64 0, .int .i64 0, .int .u64 0, .int .u64 0, .int .i64 0] 127)) = W0 at HQ0 ⊢
          obtain ⟨m0, m1, m2, m3, m4⟩ := Mu.at m HQ0.out.1
          go_wp2_with fail
          refine (Mean.right m HM.out _).mono ?_
          rintro e w1 ⟨rfl, hb⟩
          have HQ1 := hid (HQ0.out.below hb)
          clear hb HQ0 m0 m1 m2 m3 m4
          rw [H1.out]
          obtain ⟨q0, q1, q2⟩ := P3.at p HQ1.out.2.1
          go_wp2_with fail
          refine (Pos.rightF p _).mono ?_
          rintro e w2 ⟨rfl, hb⟩
          have HQ2 := hid (HQ1.out.below hb)
          clear hb q0 q1 q2 HQ1
          rw [H2.out]
          obtain ⟨m0, m1, m2, m3, m4⟩ := Mu.at m HQ2.out.1
          obtain ⟨q0, q1, q2⟩ := P3.at p HQ2.out.2.1
          have c3 := C3.out
          have g0 := G1.out
          have HL : Hid (Cs (w2.alloc (.cells #[.int .u64 m.b, .int .i64 0, .int .u64 0, .int .u64 (IntKind.u64.wrap (m.w - p.2.2)), .int .i64 (m.n - 1)] 127)) w2.heap.size [.int .u64 m.b, .int .i64 0, .int .u64 0, .int .u64 (IntKind.u64.wrap (m.w - p.2.2)), .int .i64 (m.n - 1)] ∧ w.heap.size + 2 < w2.heap.size) := hid ⟨Cs.alloc_new6 w2 127 [.int .u64 m.b, .int .i64 0, .int .u64 0, .int .u64 (IntKind.u64.wrap (m.w - p.2.2)), .int .i64 (m.n - 1)], HQ2.out.2.2.1.lt⟩
          have HQ3 := hid (HQ2.out.below ((Below.refl _ _).alloc (Nat.le_refl _) (.cells #[.int .u64 m.b, .int .i64 0, .int .u64 0, .int .u64 (IntKind.u64.wrap (m.w - p.2.2)), .int .i64 (m.n - 1)] 127)))
          go_wp2_with fail
          generalize w2.alloc (.cells #[.int .u64 m.b, .int .i64 0, .int .u64 0, .int .u64 (IntKind.u64.wrap (m.w - p.2.2)), .int .i64 (m.n - 1)] 127) = W3 at HQ3 HL ⊢
          generalize w2.heap.size = g6 at HL ⊢
          clear HQ2 m0 m1 m2 m3 m4 c3 g0 q0 q1 q2
          refine wp_region_any (by kernel_rfl) (wpAny_of_E (S0 := fun wx => M2 w m p [.int .u64 0, .int .i64 0, .int .u64 0, .int .u64 0, .int .i64 0] wx) (n := 13) _ (fun wx => M2 w m p [.int .u64 0, .int .i64 0, .int .u64 0, .int .u64 0, .int .i64 0] wx ∧ (Cs wx g6 [.int .u64 m.b, .int .i64 0, .int .u64 0, .int .u64 (IntKind.u64.wrap (m.w - p.2.2)), .int .i64 (m.n - 1)] ∧ w.heap.size + 2 < g6)) _ _ _ (⟨HQ3.out.below (Below.refl _ _).drew, HL.out⟩) ?_)
          refine tE 0 (v := ?_) ((Stays.and_ (M2.stays w m p [.int .u64 0, .int .i64 0, .int .u64 0, .int .u64 0, .int .i64 0]) (fun _ _ h hb => ⟨h.1.below hb, h.2⟩) : Stays (fun wx => M2 w m p [.int .u64 0, .int .i64 0, .int .u64 0, .int .u64 0, .int .i64 0] wx ∧ (Cs wx g6 [.int .u64 m.b, .int .i64 0, .int .u64 0, .int .u64 (IntKind.u64.wrap (m.w - p.2.2)), .int .i64 (m.n - 1)] ∧ w.heap.size + 2 < g6)))) (fun _ h => h.1) rfl (by kernel_rfl) (by rfl) ?_ ?_
          rotate_left
          · intro wq hSw
            go_simp; try with_reducible rfl
          try simp only [tdy]
          refine tE 1 (v := ?_) ((Stays.and_ (M2.stays w m p [.int .u64 0, .int .i64 0, .int .u64 0, .int .u64 0, .int .i64 0]) (fun _ _ h hb => ⟨h.1.below hb, h.2⟩) : Stays (fun wx => M2 w m p [.int .u64 0, .int .i64 0, .int .u64 0, .int .u64 0, .int .i64 0] wx ∧ (Cs wx g6 [.int .u64 m.b, .int .i64 0, .int .u64 0, .int .u64 (IntKind.u64.wrap (m.w - p.2.2)), .int .i64 (m.n - 1)] ∧ w.heap.size + 2 < g6)))) (fun _ h => h.1) rfl (by kernel_rfl) (by rfl) ?_ ?_
          rotate_left
          · intro wq hSw
            obtain ⟨m0, m1, m2, m3, m4⟩ := Mu.at m hSw.1
            obtain ⟨q0, q1, q2⟩ := P3.at p hSw.2.1
            go_simp; try with_reducible rfl
          try simp only [tdy]
          refine tE 2 (v := ?_) ((Stays.and_ (M2.stays w m p [.int .u64 0, .int .i64 0, .int .u64 0, .int .u64 0, .int .i64 0]) (fun _ _ h hb => ⟨h.1.below hb, h.2⟩) : Stays (fun wx => M2 w m p [.int .u64 0, .int .i64 0, .int .u64 0, .int .u64 0, .int .i64 0] wx ∧ (Cs wx g6 [.int .u64 m.b, .int .i64 0, .int .u64 0, .int .u64 (IntKind.u64.wrap (m.w - p.2.2)), .int .i64 (m.n - 1)] ∧ w.heap.size + 2 < g6)))) (fun _ h => h.1) rfl (by kernel_rfl) (by rfl) ?_ ?_
          rotate_left
          · intro wq hSw
            obtain ⟨m0, m1, m2, m3, m4⟩ := Mu.at m hSw.1
            obtain ⟨q0, q1, q2⟩ := P3.at p hSw.2.1
            go_simp; try with_reducible rfl
          try simp only [tdy]
          refine tE 3 (v := ?_) ((Stays.and_ (M2.stays w m p [.int .u64 0, .int .i64 0, .int .u64 0, .int .u64 0, .int .i64 0]) (fun _ _ h hb => ⟨h.1.below hb, h.2⟩) : Stays (fun wx => M2 w m p [.int .u64 0, .int .i64 0, .int .u64 0, .int .u64 0, .int .i64 0] wx ∧ (Cs wx g6 [.int .u64 m.b, .int .i64 0, .int .u64 0, .int .u64 (IntKind.u64.wrap (m.w - p.2.2)), .int .i64 (m.n - 1)] ∧ w.heap.size + 2 < g6)))) (fun _ h => h.1) rfl (by kernel_rfl) (by rfl) ?_ ?_
          rotate_left
          · intro wq hSw
            go_simp; try with_reducible rfl
          try simp only [tdy]
          refine tE 4 (v := ?_) ((Stays.and_ (M2.stays w m p [.int .u64 0, .int .i64 0, .int .u64 0, .int .u64 0, .int .i64 0]) (fun _ _ h hb => ⟨h.1.below hb, h.2⟩) : Stays (fun wx => M2 w m p [.int .u64 0, .int .i64 0, .int .u64 0, .int .u64 0, .int .i64 0] wx ∧ (Cs wx g6 [.int .u64 m.b, .int .i64 0, .int .u64 0, .int .u64 (IntKind.u64.wrap (m.w - p.2.2)), .int .i64 (m.n - 1)] ∧ w.heap.size + 2 < g6)))) (fun _ h => h.1) rfl (by kernel_rfl) (by rfl) ?_ ?_
          rotate_left
          · intro wq hSw
            obtain ⟨m0, m1, m2, m3, m4⟩ := Mu.at m hSw.1
            obtain ⟨q0, q1, q2⟩ := P3.at p hSw.2.1
            go_simp; try with_reducible rfl
          try simp only [tdy]
          refine wpAnyE_take (i := 5) (v := wv (pD m.b p)) ((Stays.and_ (M2.stays w m p [.int .u64 0, .int .i64 0, .int .u64 0, .int .u64 0, .int .i64 0]) (fun _ _ h hb => ⟨h.1.below hb, h.2⟩) : Stays (fun wx => M2 w m p [.int .u64 0, .int .i64 0, .int .u64 0, .int .u64 0, .int .i64 0] wx ∧ (Cs wx g6 [.int .u64 m.b, .int .i64 0, .int .u64 0, .int .u64 (IntKind.u64.wrap (m.w - p.2.2)), .int .i64 (m.n - 1)] ∧ w.heap.size + 2 < g6)))) (fun _ h => h.1) rfl (by kernel_rfl) (by kernel_rfl) (by kernel_rfl) (by kernel_rfl) (fun _ _ _ h => h) (Or.inl ⟨by rfl, fun wq hSw => ?_⟩) ?_
          · refine RunB.of_calls (Pos.distanceF m.b HP.out wq) (by go_simp) ?_
            rintro e wr ⟨rfl, hb⟩
            exact ⟨rfl, hb⟩
          try simp only [tdy]
          refine wpAnyE_take (i := 6) (v := (.tuple #[wv (clW (m.a - pD m.b p)), .bool (okW (m.a - pD m.b p))])) ((Stays.and_ (M2.stays w m p [.int .u64 0, .int .i64 0, .int .u64 0, .int .u64 0, .int .i64 0]) (fun _ _ h hb => ⟨h.1.below hb, h.2⟩) : Stays (fun wx => M2 w m p [.int .u64 0, .int .i64 0, .int .u64 0, .int .u64 0, .int .i64 0] wx ∧ (Cs wx g6 [.int .u64 m.b, .int .i64 0, .int .u64 0, .int .u64 (IntKind.u64.wrap (m.w - p.2.2)), .int .i64 (m.n - 1)] ∧ w.heap.size + 2 < g6)))) (fun _ h => h.1) rfl (by kernel_rfl) (by kernel_rfl) (by kernel_rfl) (by kernel_rfl) (fun _ _ _ h => h) (Or.inl ⟨by rfl, fun wq hSw => ?_⟩) ?_
          · refine RunB.of_calls (Wide.subF HM.out.2.1 HD.out wq) (by go_simp) ?_
            rintro e wr ⟨rfl, hb⟩
            exact ⟨rfl, hb⟩
          try simp only [tdy]
          refine tE 7 (v := ?_) ((Stays.and_ (M2.stays w m p [.int .u64 0, .int .i64 0, .int .u64 0, .int .u64 0, .int .i64 0]) (fun _ _ h hb => ⟨h.1.below hb, h.2⟩) : Stays (fun wx => M2 w m p [.int .u64 0, .int .i64 0, .int .u64 0, .int .u64 0, .int .i64 0] wx ∧ (Cs wx g6 [.int .u64 m.b, .int .i64 0, .int .u64 0, .int .u64 (IntKind.u64.wrap (m.w - p.2.2)), .int .i64 (m.n - 1)] ∧ w.heap.size + 2 < g6)))) (fun _ h => h.1) rfl (by kernel_rfl) (by rfl) ?_ ?_
          rotate_left
          · intro wq hSw
            go_simp; try with_reducible rfl
          try simp only [tdy]
          refine tE 8 (v := ?_) ((Stays.and_ (M2.stays w m p [.int .u64 0, .int .i64 0, .int .u64 0, .int .u64 0, .int .i64 0]) (fun _ _ h hb => ⟨h.1.below hb, h.2⟩) : Stays (fun wx => M2 w m p [.int .u64 0, .int .i64 0, .int .u64 0, .int .u64 0, .int .i64 0] wx ∧ (Cs wx g6 [.int .u64 m.b, .int .i64 0, .int .u64 0, .int .u64 (IntKind.u64.wrap (m.w - p.2.2)), .int .i64 (m.n - 1)] ∧ w.heap.size + 2 < g6)))) (fun _ h => h.1) rfl (by kernel_rfl) (by rfl) ?_ ?_
          rotate_left
          · intro wq hSw
            go_simp; try with_reducible rfl
          try simp only [tdy]
          refine tE 9 (v := ?_) ((Stays.and_ (M2.stays w m p [.int .u64 0, .int .i64 0, .int .u64 0, .int .u64 0, .int .i64 0]) (fun _ _ h hb => ⟨h.1.below hb, h.2⟩) : Stays (fun wx => M2 w m p [.int .u64 0, .int .i64 0, .int .u64 0, .int .u64 0, .int .i64 0] wx ∧ (Cs wx g6 [.int .u64 m.b, .int .i64 0, .int .u64 0, .int .u64 (IntKind.u64.wrap (m.w - p.2.2)), .int .i64 (m.n - 1)] ∧ w.heap.size + 2 < g6)))) (fun _ h => h.1) rfl (by kernel_rfl) (by rfl) ?_ ?_
          rotate_left
          · intro wq hSw
            go_simp; try with_reducible rfl
          try simp only [tdy]
          refine tE 10 (v := ?_) ((Stays.and_ (M2.stays w m p [.int .u64 0, .int .i64 0, .int .u64 0, .int .u64 0, .int .i64 0]) (fun _ _ h hb => ⟨h.1.below hb, h.2⟩) : Stays (fun wx => M2 w m p [.int .u64 0, .int .i64 0, .int .u64 0, .int .u64 0, .int .i64 0] wx ∧ (Cs wx g6 [.int .u64 m.b, .int .i64 0, .int .u64 0, .int .u64 (IntKind.u64.wrap (m.w - p.2.2)), .int .i64 (m.n - 1)] ∧ w.heap.size + 2 < g6)))) (fun _ h => h.1) rfl (by kernel_rfl) (by rfl) ?_ ?_
          rotate_left
          · intro wq hSw
            go_simp; try with_reducible rfl
          try simp only [tdy]
          refine wpAnyE_storeAt (i := 11) (fun wx => (fun wx => M2 w m p [.int .u64 0, .int .i64 0, .int .u64 0, .int .u64 0, .int .i64 0] wx) wx ∧ (Cs wx g6 [.int .u64 m.b, .int .i64 (hiW (clW (m.a - pD m.b p))), .int .u64 (loW (clW (m.a - pD m.b p))), .int .u64 (IntKind.u64.wrap (m.w - p.2.2)), .int .i64 (m.n - 1)] ∧ w.heap.size + 2 < g6)) 45 [.int .i64 (hiW (clW (m.a - pD m.b p))), .int .u64 (loW (clW (m.a - pD m.b p)))] [.int .u64 m.b, .int .i64 0, .int .u64 0, .int .u64 (IntKind.u64.wrap (m.w - p.2.2)), .int .i64 (m.n - 1)] g6 1 infoWide (.tmp 47) (.tmp 45) rfl rfl (by kernel_rfl) (by decide) (by rfl) ?st11_2a ?st11_2b ?st11_2c ?st11_2d ?st11_2e (fun _ h => h.2.1) (fun _ h => ⟨h.1.putF h.2.2 _, Cs.putL _ 1 h.2.1 (by simp), h.2.2⟩) (fun _ h => h.1) ((Stays.and_ (M2.stays w m p [.int .u64 0, .int .i64 0, .int .u64 0, .int .u64 0, .int .i64 0] : Stays (fun wx => M2 w m p [.int .u64 0, .int .i64 0, .int .u64 0, .int .u64 0, .int .i64 0] wx)) (fun _ _ h hb => ⟨h.1.below hb, h.2⟩))) ?st11_2f
          case st11_2a => rfl
          case st11_2b => simp
          case st11_2c => rfl
          case st11_2d => rfl
          case st11_2e => rfl
          try simp only [tdy]
          refine tE 12 (v := ?_) ((Stays.and_ (M2.stays w m p [.int .u64 0, .int .i64 0, .int .u64 0, .int .u64 0, .int .i64 0] : Stays (fun wx => M2 w m p [.int .u64 0, .int .i64 0, .int .u64 0, .int .u64 0, .int .i64 0] wx)) (fun _ _ h hb => ⟨h.1.below hb, h.2⟩))) (fun _ h => h.1) rfl (by kernel_rfl) (by rfl) ?_ ?_
          rotate_left
          · intro wq hSw
            go_simp; try with_reducible rfl
          try simp only [tdy]
          refine wpAnyE_done (by kernel_rfl) (fun wz hSz => ?_) _
          have HQ5 := hid hSz.1
          have HL5 := hid hSz.2.1
          clear hSz HQ3 HL
          rw [H6.out] at HL5
          rw [H5.out]
          obtain ⟨m0, m1, m2, m3, m4⟩ := HL5.out.five
          go_wp2_with fail
          refine (Mean.right (Mu.mk m.b (m.a - pD m.b p) (IntKind.u64.wrap (m.w - p.2.2)) (m.n - 1)) HLI.out _).mono ?_
          rw [HR9.out]
          rintro e w3 ⟨rfl, hb⟩
          have HQ6 := hid (HQ5.out.below hb)
          have HL6 := hid (HL5.out.below hb)
          clear hb HQ5 HL5 m0 m1 m2 m3 m4
          have HCr := hid HQ6.out.2.2.1
          go_wp2_with (first | ((with_reducible refine wpList_put_cs 127 [.int .u64 0, .int .i64 0, .int .u64 0, .int .u64 0, .int .i64 0] infoMean rfl (.tmp 4) (.tmp 54) rfl (w.heap.size + 2) _ HCr.out ?h12007_1 ?h12007_2 ?h12007_3 ?h12007_4 ?h12007_5 ?h12007_6); (case h12007_1 => rfl); (case h12007_2 => rfl); (case h12007_3 => rfl); (case h12007_4 => rfl); (case h12007_5 => rfl); (intro W2 hW2); (have HW := hid (HQ6.out.put hW2)); (clear hW2)) | fail)
          obtain ⟨z0, z1, z2, z3, z4⟩ := HW.out.1.five
          go_wp2_with fail
          refine bodyPost_ret (v := .tuple #[Mu.val Mu.no, .bool false]) (by simp [results, Tryz.results117, go_sem, z0, z1, z2, z3, z4, hiW0, loW0]) rfl ⟨rfl, HW.out.2⟩
        | true =>
          have E9 : Hid (m.take p = (true, (Mu.mk m.b (m.a - pD m.b p) (IntKind.u64.wrap (m.w - p.2.2)) (m.n - 1)))) := hid (by rw [ET.out, hr]; rw [if_pos rfl])
          rw [E9.out]
          have HR9 := hid hr
          clear hr
          have HQ0 := hid (M2.new w m p)
          go_enter Tryz.func117, Tryz.ntmps117
          go_wp2_with fail
          generalize (((w.alloc (.cells #[.int .u64 m.b, .int .i64 (hiW m.a), .int .u64 (loW m.a), .int .u64 m.w, .int .i64 m.n] 127)).alloc (.cells #[.int .u64 p.1, .int .u32 p.2.1, .int .u32 p.2.2] 27)).alloc (.cells #[.int .u64 0, .int .i64 0, .int .u64 0, .int .u64 0, .int .i64 0] 127)) = W0 at HQ0 ⊢
          obtain ⟨m0, m1, m2, m3, m4⟩ := Mu.at m HQ0.out.1
          go_wp2_with fail
          refine (Mean.right m HM.out _).mono ?_
          rintro e w1 ⟨rfl, hb⟩
          have HQ1 := hid (HQ0.out.below hb)
          clear hb HQ0 m0 m1 m2 m3 m4
          rw [H1.out]
          obtain ⟨q0, q1, q2⟩ := P3.at p HQ1.out.2.1
          go_wp2_with fail
          refine (Pos.rightF p _).mono ?_
          rintro e w2 ⟨rfl, hb⟩
          have HQ2 := hid (HQ1.out.below hb)
          clear hb q0 q1 q2 HQ1
          rw [H2.out]
          obtain ⟨m0, m1, m2, m3, m4⟩ := Mu.at m HQ2.out.1
          obtain ⟨q0, q1, q2⟩ := P3.at p HQ2.out.2.1
          have c3 := C3.out
          have g0 := G1.out
          have HL : Hid (Cs (w2.alloc (.cells #[.int .u64 m.b, .int .i64 0, .int .u64 0, .int .u64 (IntKind.u64.wrap (m.w - p.2.2)), .int .i64 (m.n - 1)] 127)) w2.heap.size [.int .u64 m.b, .int .i64 0, .int .u64 0, .int .u64 (IntKind.u64.wrap (m.w - p.2.2)), .int .i64 (m.n - 1)] ∧ w.heap.size + 2 < w2.heap.size) := hid ⟨Cs.alloc_new6 w2 127 [.int .u64 m.b, .int .i64 0, .int .u64 0, .int .u64 (IntKind.u64.wrap (m.w - p.2.2)), .int .i64 (m.n - 1)], HQ2.out.2.2.1.lt⟩
          have HQ3 := hid (HQ2.out.below ((Below.refl _ _).alloc (Nat.le_refl _) (.cells #[.int .u64 m.b, .int .i64 0, .int .u64 0, .int .u64 (IntKind.u64.wrap (m.w - p.2.2)), .int .i64 (m.n - 1)] 127)))
          go_wp2_with fail
          generalize w2.alloc (.cells #[.int .u64 m.b, .int .i64 0, .int .u64 0, .int .u64 (IntKind.u64.wrap (m.w - p.2.2)), .int .i64 (m.n - 1)] 127) = W3 at HQ3 HL ⊢
          generalize w2.heap.size = g6 at HL ⊢
          clear HQ2 m0 m1 m2 m3 m4 c3 g0 q0 q1 q2
          refine wp_region_any (by kernel_rfl) (wpAny_of_E (S0 := fun wx => M2 w m p [.int .u64 0, .int .i64 0, .int .u64 0, .int .u64 0, .int .i64 0] wx) (n := 13) _ (fun wx => M2 w m p [.int .u64 0, .int .i64 0, .int .u64 0, .int .u64 0, .int .i64 0] wx ∧ (Cs wx g6 [.int .u64 m.b, .int .i64 0, .int .u64 0, .int .u64 (IntKind.u64.wrap (m.w - p.2.2)), .int .i64 (m.n - 1)] ∧ w.heap.size + 2 < g6)) _ _ _ (⟨HQ3.out.below (Below.refl _ _).drew, HL.out⟩) ?_)
          refine tE 0 (v := ?_) ((Stays.and_ (M2.stays w m p [.int .u64 0, .int .i64 0, .int .u64 0, .int .u64 0, .int .i64 0]) (fun _ _ h hb => ⟨h.1.below hb, h.2⟩) : Stays (fun wx => M2 w m p [.int .u64 0, .int .i64 0, .int .u64 0, .int .u64 0, .int .i64 0] wx ∧ (Cs wx g6 [.int .u64 m.b, .int .i64 0, .int .u64 0, .int .u64 (IntKind.u64.wrap (m.w - p.2.2)), .int .i64 (m.n - 1)] ∧ w.heap.size + 2 < g6)))) (fun _ h => h.1) rfl (by kernel_rfl) (by rfl) ?_ ?_
          rotate_left
          · intro wq hSw
            go_simp; try with_reducible rfl
          try simp only [tdy]
          refine tE 1 (v := ?_) ((Stays.and_ (M2.stays w m p [.int .u64 0, .int .i64 0, .int .u64 0, .int .u64 0, .int .i64 0]) (fun _ _ h hb => ⟨h.1.below hb, h.2⟩) : Stays (fun wx => M2 w m p [.int .u64 0, .int .i64 0, .int .u64 0, .int .u64 0, .int .i64 0] wx ∧ (Cs wx g6 [.int .u64 m.b, .int .i64 0, .int .u64 0, .int .u64 (IntKind.u64.wrap (m.w - p.2.2)), .int .i64 (m.n - 1)] ∧ w.heap.size + 2 < g6)))) (fun _ h => h.1) rfl (by kernel_rfl) (by rfl) ?_ ?_
          rotate_left
          · intro wq hSw
            obtain ⟨m0, m1, m2, m3, m4⟩ := Mu.at m hSw.1
            obtain ⟨q0, q1, q2⟩ := P3.at p hSw.2.1
            go_simp; try with_reducible rfl
          try simp only [tdy]
          refine tE 2 (v := ?_) ((Stays.and_ (M2.stays w m p [.int .u64 0, .int .i64 0, .int .u64 0, .int .u64 0, .int .i64 0]) (fun _ _ h hb => ⟨h.1.below hb, h.2⟩) : Stays (fun wx => M2 w m p [.int .u64 0, .int .i64 0, .int .u64 0, .int .u64 0, .int .i64 0] wx ∧ (Cs wx g6 [.int .u64 m.b, .int .i64 0, .int .u64 0, .int .u64 (IntKind.u64.wrap (m.w - p.2.2)), .int .i64 (m.n - 1)] ∧ w.heap.size + 2 < g6)))) (fun _ h => h.1) rfl (by kernel_rfl) (by rfl) ?_ ?_
          rotate_left
          · intro wq hSw
            obtain ⟨m0, m1, m2, m3, m4⟩ := Mu.at m hSw.1
            obtain ⟨q0, q1, q2⟩ := P3.at p hSw.2.1
            go_simp; try with_reducible rfl
          try simp only [tdy]
          refine tE 3 (v := ?_) ((Stays.and_ (M2.stays w m p [.int .u64 0, .int .i64 0, .int .u64 0, .int .u64 0, .int .i64 0]) (fun _ _ h hb => ⟨h.1.below hb, h.2⟩) : Stays (fun wx => M2 w m p [.int .u64 0, .int .i64 0, .int .u64 0, .int .u64 0, .int .i64 0] wx ∧ (Cs wx g6 [.int .u64 m.b, .int .i64 0, .int .u64 0, .int .u64 (IntKind.u64.wrap (m.w - p.2.2)), .int .i64 (m.n - 1)] ∧ w.heap.size + 2 < g6)))) (fun _ h => h.1) rfl (by kernel_rfl) (by rfl) ?_ ?_
          rotate_left
          · intro wq hSw
            go_simp; try with_reducible rfl
          try simp only [tdy]
          refine tE 4 (v := ?_) ((Stays.and_ (M2.stays w m p [.int .u64 0, .int .i64 0, .int .u64 0, .int .u64 0, .int .i64 0]) (fun _ _ h hb => ⟨h.1.below hb, h.2⟩) : Stays (fun wx => M2 w m p [.int .u64 0, .int .i64 0, .int .u64 0, .int .u64 0, .int .i64 0] wx ∧ (Cs wx g6 [.int .u64 m.b, .int .i64 0, .int .u64 0, .int .u64 (IntKind.u64.wrap (m.w - p.2.2)), .int .i64 (m.n - 1)] ∧ w.heap.size + 2 < g6)))) (fun _ h => h.1) rfl (by kernel_rfl) (by rfl) ?_ ?_
          rotate_left
          · intro wq hSw
            obtain ⟨m0, m1, m2, m3, m4⟩ := Mu.at m hSw.1
            obtain ⟨q0, q1, q2⟩ := P3.at p hSw.2.1
            go_simp; try with_reducible rfl
          try simp only [tdy]
          refine wpAnyE_take (i := 5) (v := wv (pD m.b p)) ((Stays.and_ (M2.stays w m p [.int .u64 0, .int .i64 0, .int .u64 0, .int .u64 0, .int .i64 0]) (fun _ _ h hb => ⟨h.1.below hb, h.2⟩) : Stays (fun wx => M2 w m p [.int .u64 0, .int .i64 0, .int .u64 0, .int .u64 0, .int .i64 0] wx ∧ (Cs wx g6 [.int .u64 m.b, .int .i64 0, .int .u64 0, .int .u64 (IntKind.u64.wrap (m.w - p.2.2)), .int .i64 (m.n - 1)] ∧ w.heap.size + 2 < g6)))) (fun _ h => h.1) rfl (by kernel_rfl) (by kernel_rfl) (by kernel_rfl) (by kernel_rfl) (fun _ _ _ h => h) (Or.inl ⟨by rfl, fun wq hSw => ?_⟩) ?_
          · refine RunB.of_calls (Pos.distanceF m.b HP.out wq) (by go_simp) ?_
            rintro e wr ⟨rfl, hb⟩
            exact ⟨rfl, hb⟩
          try simp only [tdy]
          refine wpAnyE_take (i := 6) (v := (.tuple #[wv (clW (m.a - pD m.b p)), .bool (okW (m.a - pD m.b p))])) ((Stays.and_ (M2.stays w m p [.int .u64 0, .int .i64 0, .int .u64 0, .int .u64 0, .int .i64 0]) (fun _ _ h hb => ⟨h.1.below hb, h.2⟩) : Stays (fun wx => M2 w m p [.int .u64 0, .int .i64 0, .int .u64 0, .int .u64 0, .int .i64 0] wx ∧ (Cs wx g6 [.int .u64 m.b, .int .i64 0, .int .u64 0, .int .u64 (IntKind.u64.wrap (m.w - p.2.2)), .int .i64 (m.n - 1)] ∧ w.heap.size + 2 < g6)))) (fun _ h => h.1) rfl (by kernel_rfl) (by kernel_rfl) (by kernel_rfl) (by kernel_rfl) (fun _ _ _ h => h) (Or.inl ⟨by rfl, fun wq hSw => ?_⟩) ?_
          · refine RunB.of_calls (Wide.subF HM.out.2.1 HD.out wq) (by go_simp) ?_
            rintro e wr ⟨rfl, hb⟩
            exact ⟨rfl, hb⟩
          try simp only [tdy]
          refine tE 7 (v := ?_) ((Stays.and_ (M2.stays w m p [.int .u64 0, .int .i64 0, .int .u64 0, .int .u64 0, .int .i64 0]) (fun _ _ h hb => ⟨h.1.below hb, h.2⟩) : Stays (fun wx => M2 w m p [.int .u64 0, .int .i64 0, .int .u64 0, .int .u64 0, .int .i64 0] wx ∧ (Cs wx g6 [.int .u64 m.b, .int .i64 0, .int .u64 0, .int .u64 (IntKind.u64.wrap (m.w - p.2.2)), .int .i64 (m.n - 1)] ∧ w.heap.size + 2 < g6)))) (fun _ h => h.1) rfl (by kernel_rfl) (by rfl) ?_ ?_
          rotate_left
          · intro wq hSw
            go_simp; try with_reducible rfl
          try simp only [tdy]
          refine tE 8 (v := ?_) ((Stays.and_ (M2.stays w m p [.int .u64 0, .int .i64 0, .int .u64 0, .int .u64 0, .int .i64 0]) (fun _ _ h hb => ⟨h.1.below hb, h.2⟩) : Stays (fun wx => M2 w m p [.int .u64 0, .int .i64 0, .int .u64 0, .int .u64 0, .int .i64 0] wx ∧ (Cs wx g6 [.int .u64 m.b, .int .i64 0, .int .u64 0, .int .u64 (IntKind.u64.wrap (m.w - p.2.2)), .int .i64 (m.n - 1)] ∧ w.heap.size + 2 < g6)))) (fun _ h => h.1) rfl (by kernel_rfl) (by rfl) ?_ ?_
          rotate_left
          · intro wq hSw
            go_simp; try with_reducible rfl
          try simp only [tdy]
          refine tE 9 (v := ?_) ((Stays.and_ (M2.stays w m p [.int .u64 0, .int .i64 0, .int .u64 0, .int .u64 0, .int .i64 0]) (fun _ _ h hb => ⟨h.1.below hb, h.2⟩) : Stays (fun wx => M2 w m p [.int .u64 0, .int .i64 0, .int .u64 0, .int .u64 0, .int .i64 0] wx ∧ (Cs wx g6 [.int .u64 m.b, .int .i64 0, .int .u64 0, .int .u64 (IntKind.u64.wrap (m.w - p.2.2)), .int .i64 (m.n - 1)] ∧ w.heap.size + 2 < g6)))) (fun _ h => h.1) rfl (by kernel_rfl) (by rfl) ?_ ?_
          rotate_left
          · intro wq hSw
            go_simp; try with_reducible rfl
          try simp only [tdy]
          refine tE 10 (v := ?_) ((Stays.and_ (M2.stays w m p [.int .u64 0, .int .i64 0, .int .u64 0, .int .u64 0, .int .i64 0]) (fun _ _ h hb => ⟨h.1.below hb, h.2⟩) : Stays (fun wx => M2 w m p [.int .u64 0, .int .i64 0, .int .u64 0, .int .u64 0, .int .i64 0] wx ∧ (Cs wx g6 [.int .u64 m.b, .int .i64 0, .int .u64 0, .int .u64 (IntKind.u64.wrap (m.w - p.2.2)), .int .i64 (m.n - 1)] ∧ w.heap.size + 2 < g6)))) (fun _ h => h.1) rfl (by kernel_rfl) (by rfl) ?_ ?_
          rotate_left
          · intro wq hSw
            go_simp; try with_reducible rfl
          try simp only [tdy]
          refine wpAnyE_storeAt (i := 11) (fun wx => (fun wx => M2 w m p [.int .u64 0, .int .i64 0, .int .u64 0, .int .u64 0, .int .i64 0] wx) wx ∧ (Cs wx g6 [.int .u64 m.b, .int .i64 (hiW (clW (m.a - pD m.b p))), .int .u64 (loW (clW (m.a - pD m.b p))), .int .u64 (IntKind.u64.wrap (m.w - p.2.2)), .int .i64 (m.n - 1)] ∧ w.heap.size + 2 < g6)) 45 [.int .i64 (hiW (clW (m.a - pD m.b p))), .int .u64 (loW (clW (m.a - pD m.b p)))] [.int .u64 m.b, .int .i64 0, .int .u64 0, .int .u64 (IntKind.u64.wrap (m.w - p.2.2)), .int .i64 (m.n - 1)] g6 1 infoWide (.tmp 47) (.tmp 45) rfl rfl (by kernel_rfl) (by decide) (by rfl) ?st11_3a ?st11_3b ?st11_3c ?st11_3d ?st11_3e (fun _ h => h.2.1) (fun _ h => ⟨h.1.putF h.2.2 _, Cs.putL _ 1 h.2.1 (by simp), h.2.2⟩) (fun _ h => h.1) ((Stays.and_ (M2.stays w m p [.int .u64 0, .int .i64 0, .int .u64 0, .int .u64 0, .int .i64 0] : Stays (fun wx => M2 w m p [.int .u64 0, .int .i64 0, .int .u64 0, .int .u64 0, .int .i64 0] wx)) (fun _ _ h hb => ⟨h.1.below hb, h.2⟩))) ?st11_3f
          case st11_3a => rfl
          case st11_3b => simp
          case st11_3c => rfl
          case st11_3d => rfl
          case st11_3e => rfl
          try simp only [tdy]
          refine tE 12 (v := ?_) ((Stays.and_ (M2.stays w m p [.int .u64 0, .int .i64 0, .int .u64 0, .int .u64 0, .int .i64 0] : Stays (fun wx => M2 w m p [.int .u64 0, .int .i64 0, .int .u64 0, .int .u64 0, .int .i64 0] wx)) (fun _ _ h hb => ⟨h.1.below hb, h.2⟩))) (fun _ h => h.1) rfl (by kernel_rfl) (by rfl) ?_ ?_
          rotate_left
          · intro wq hSw
            go_simp; try with_reducible rfl
          try simp only [tdy]
          refine wpAnyE_done (by kernel_rfl) (fun wz hSz => ?_) _
          have HQ5 := hid hSz.1
          have HL5 := hid hSz.2.1
          clear hSz HQ3 HL
          rw [H6.out] at HL5
          rw [H5.out]
          obtain ⟨m0, m1, m2, m3, m4⟩ := HL5.out.five
          go_wp2_with fail
          refine (Mean.right (Mu.mk m.b (m.a - pD m.b p) (IntKind.u64.wrap (m.w - p.2.2)) (m.n - 1)) HLI.out _).mono ?_
          rw [HR9.out]
          rintro e w3 ⟨rfl, hb⟩
          have HQ6 := hid (HQ5.out.below hb)
          have HL6 := hid (HL5.out.below hb)
          clear hb HQ5 HL5 m0 m1 m2 m3 m4
          have HCr := hid HQ6.out.2.2.1
          obtain ⟨m0, m1, m2, m3, m4⟩ := HL6.out.five
          go_wp2_with (first | ((with_reducible refine wpList_put_cs 127 [.int .u64 m.b, .int .i64 (hiW (m.a - pD m.b p)), .int .u64 (loW (m.a - pD m.b p)), .int .u64 (IntKind.u64.wrap (m.w - p.2.2)), .int .i64 (m.n - 1)] infoMean rfl (.tmp 4) (.tmp 55) rfl (w.heap.size + 2) _ HCr.out ?h12008_1 ?h12008_2 ?h12008_3 ?h12008_4 ?h12008_5 ?h12008_6); (case h12008_1 => rfl); (case h12008_2 => rfl); (case h12008_3 => rfl); (case h12008_4 => rfl); (case h12008_5 => rfl); (intro W2 hW2); (have HW := hid (HQ6.out.put hW2)); (clear hW2)) | fail)
          clear m0 m1 m2 m3 m4
          obtain ⟨z0, z1, z2, z3, z4⟩ := HW.out.1.five
          go_wp2_with fail
          refine bodyPost_ret (v := .tuple #[Mu.val (Mu.mk m.b (m.a - pD m.b p) (IntKind.u64.wrap (m.w - p.2.2)) (m.n - 1)), .bool true]) (by simp [results, Tryz.results117, go_sem, z0, z1, z2, z3, z4, hiW0, loW0]) rfl ⟨rfl, HW.out.2⟩
end

end Go.Proofs.YtjndmmcjobbcbaaGreatDoor

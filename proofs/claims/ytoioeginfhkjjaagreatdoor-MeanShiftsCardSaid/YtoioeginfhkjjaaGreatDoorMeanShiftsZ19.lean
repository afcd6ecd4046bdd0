/- Texts of MeanShifts's proof, together. -/
import Derived.Test.YtoioeginfhkjjaaGreatDoorMeanShiftsZ12
import Derived.Test.YtoioeginfhkjjaaGreatDoorMeanShiftsZ18
import Derived.Test.YtoioeginfhkjjaaGreatDoorMeanShiftsZ0
namespace Go.Proofs.YtoioeginfhkjjaaGreatDoor
/- Variables of several cells: stored whole. Means compared. -/
section
open Go.RowKit

def setL : List Value → Nat → List Value → List Value
  | us, _, [] => us
  | us, o, v :: r => setL (us.set o v) (o + 1) r
theorem Cs.putL {g : Nat} : ∀ (vs : List Value) {w : World} {us : List Value} (o : Nat), Cs w g us → o + vs.length ≤ us.length → Cs (w.setCells g o vs) g (setL us o vs)
  | [], _, _, _, h, _ => h
  | v :: r, _, us, o, h, hl => Cs.putL r (o + 1) (h.putAt o (by simp at hl; omega) v) (by simp at hl ⊢; omega)
theorem Cs.thereL {w : World} {g : Nat} {us : List Value} (h : Cs w g us) : w.there g 0 us.length := fun j hj => by
  rw [Nat.zero_add]
  exact ⟨by rw [(h j _ (List.getElem?_eq_getElem hj)).1]; rfl, (h j _ (List.getElem?_eq_getElem hj)).2⟩
/-- A variable is stored whole; the world behind it by a name of its own. -/
theorem wpList_put_cs {ops : Array Oper} {rest : List Oper} {op : Oper} {a : Act} {w : World} {Q : Exit → Act → World → Prop} (T : TypeId) (vs : List Value) {n : Nat} (hT : (Tryz.prog.info? T).map (·.size) = some n) (hgd : op.guard = none) (x y : Operand) (ho : op.op = .store T x y)
    (b : Nat) (us : List Value) (hc : Cs w b us) (hn : vs.length = n) (hl : us.length = n) (h1 : vs.all (·.oneCell') = true) (hx : a.eval x = .pointer (some ⟨b, 0, none⟩)) (hy : a.eval y = .agg vs.toArray)
    (h : ∀ W, W = w.setCells b 0 vs → wpList Tryz.prog ops Q rest (a.put op.dst undef) W) : wpList Tryz.prog ops Q (op :: rest) a w :=
  wpList_store_mid hgd T x y ho b 0 vs.toArray hx hy (by have := hc.thereL; rw [hl, ← hn] at this; simpa using this) (by rw [hT, ← hn]; simp) (by simpa using h1) (h _ rfl)
theorem infoMean : (Tryz.prog.info? 36).map (·.size) = some 5 := by kernel_rfl
theorem infoPos : (Tryz.prog.info? 29).map (·.size) = some 3 := by kernel_rfl
theorem infoWide : (Tryz.prog.info? 34).map (·.size) = some 2 := by kernel_rfl

theorem Cs.at3 {w : World} {g : Nat} {a b c v : Value} {vs : List Value} (h : Cs w g (a :: b :: c :: v :: vs)) : w.cell? ⟨g, 3, none⟩ = some v := (h 3 v rfl).1
theorem Cs.at4 {w : World} {g : Nat} {a b c d v : Value} {vs : List Value} (h : Cs w g (a :: b :: c :: d :: v :: vs)) : w.cell? ⟨g, 4, none⟩ = some v := (h 4 v rfl).1
/-- A mean's cells, as a walk reads them. -/
theorem Mu.at {w : World} {g : Nat} (m : Mu) (h : Cs w g m.cells) : w.cell? ⟨g, 0, none⟩ = some (.int .u64 m.b) ∧ w.cell? ⟨g, 1, none⟩ = some (.int .i64 (hiW m.a)) ∧ w.cell? ⟨g, 2, none⟩ = some (.int .u64 (loW m.a)) ∧ w.cell? ⟨g, 3, none⟩ = some (.int .u64 m.w) ∧ w.cell? ⟨g, 4, none⟩ = some (.int .i64 m.n) :=
  ⟨h.at0, h.at1, h.at2, h.at3, h.at4⟩
def pcells (p : P3) : List Value := [.int .u64 p.1, .int .u32 p.2.1, .int .u32 p.2.2]
theorem P3.at {w : World} {g : Nat} (p : P3) (h : Cs w g (pcells p)) : w.cell? ⟨g, 0, none⟩ = some (.int .u64 p.1) ∧ w.cell? ⟨g, 1, none⟩ = some (.int .u32 p.2.1) ∧ w.cell? ⟨g, 2, none⟩ = some (.int .u32 p.2.2) := ⟨h.at0, h.at1, h.at2⟩

theorem eq_words {a b : Int} : (hiW a = hiW b ∧ loW a = loW b) ↔ a = b := by
  constructor
  · rintro ⟨h1, h2⟩; unfold hiW at h1; unfold loW at h2; omega
  · rintro rfl; exact ⟨rfl, rfl⟩
set_option maxHeartbeats 2000000 in
theorem Mean.eqB (b1 b2 h1 h2 l1 l2 v1 v2 n1 n2 : Int) (w : World) :
    (binOp .eql 36 (.agg #[.int .u64 b1, .int .i64 h1, .int .u64 l1, .int .u64 v1, .int .i64 n1]) (.agg #[.int .u64 b2, .int .i64 h2, .int .u64 l2, .int .u64 v2, .int .i64 n2])).run Tryz.prog w = .ok (.bool (b1 == b2 && h1 == h2 && l1 == l2 && v1 == v2 && n1 == n2)) w := by
  by_cases pb : b1 = b2
  · subst pb
    by_cases ph : h1 = h2
    · subst ph
      by_cases pl : l1 = l2
      · subst pl
        by_cases pv : v1 = v2
        · subst pv
          by_cases pn : n1 = n2
          · subst pn
            go_simp
          · have qn : (n1 == n2) = false := by simpa using pn
            go_simp
        · have qv : (v1 == v2) = false := by simpa using pv
          go_simp
      · have ql : (l1 == l2) = false := by simpa using pl
        go_simp
    · have qh : (h1 == h2) = false := by simpa using ph
      go_simp
  · have qb : (b1 == b2) = false := by simpa using pb
    go_simp
set_option maxHeartbeats 1000000 in
theorem Pos.eqB (b1 b2 h1 h2 l1 l2 : Int) (w : World) :
    (binOp .eql 29 (.agg #[.int .u64 b1, .int .u32 h1, .int .u32 l1]) (.agg #[.int .u64 b2, .int .u32 h2, .int .u32 l2])).run Tryz.prog w = .ok (.bool (b1 == b2 && h1 == h2 && l1 == l2)) w := by
  by_cases pb : b1 = b2
  · subst pb
    by_cases ph : h1 = h2
    · subst ph
      by_cases pl : l1 = l2
      · subst pl
        go_simp
      · have ql : (l1 == l2) = false := by simpa using pl
        go_simp
    · have qh : (h1 == h2) = false := by simpa using ph
      go_simp
  · have qb : (b1 == b2) = false := by simpa using pb
    go_simp
section
attribute [local go_sem] Mean.eqB
set_option maxRecDepth 100000 in
set_option maxHeartbeats 4000000 in
theorem Mean.right (m : Mu) (hm : m.In) (w : World) : Calls Tryz.prog 61 #[m.val] w (Ans (.bool m.right) w) := by
  obtain ⟨b, a, v, n⟩ := m
  obtain ⟨⟨b0, b1⟩, ha, ⟨v0, v1⟩, ⟨n0, n1⟩⟩ := hm
  dsimp only at b0 b1 ha v0 v1 n0 n1
  have HB0 := hid ((Below.refl w.heap.size w).alloc (Nat.le_refl _) (.cells #[.int .u64 b, .int .i64 (hiW a), .int .u64 (loW a), .int .u64 v, .int .i64 n] 36))
  unfold Mu.val
  dsimp only
  by_cases c : n = 0
  · subst c
    have E : Hid ((b == b && hiW a == 0 && loW a == 0 && v == 0 && (0 : Int) == 0) = Mu.right ⟨b, a, v, 0⟩) := hid (by
      have h1 := eq_words (a := a) (b := 0)
      rw [hiW0, loW0] at h1
      unfold Mu.right
      rw [if_pos rfl, Bool.eq_iff_iff]
      simp only [Bool.and_eq_true, beq_iff_eq, decide_eq_true_eq, true_and, and_true]
      rw [h1])
    clear b0 b1 ha v0 v1 n0 n1
    go_enter Tryz.func61, Tryz.ntmps61
    go_wp2_with fail
    all_goals go_ret
    all_goals exact ⟨by rw [← E.out]; simp [*], (Below.refl _ _).alloc (Nat.le_refl _) _⟩
  · have c' : (n == 0) = false := by simpa using c
    have E : Hid ((decide (1 ≤ n ∧ n ≤ 32) && decide (n ≤ v ∧ v ≤ n * 1048576)) = Mu.right ⟨b, a, v, n⟩) := hid (by unfold Mu.right; rw [if_neg c])
    rw [← E.out]
    clear E c ha b0 b1
    by_cases c1 : 1 ≤ n
    · by_cases c2 : n ≤ 32
      · have e1 : IntKind.u64.wrap n = n := by rw [IntKind.wrap_u64]; omega
        have e2 : IntKind.u64.wrap (n * 1048576) = n * 1048576 := by rw [IntKind.wrap_u64]; omega
        by_cases c3 : n ≤ v
        · by_cases c4 : v ≤ n * 1048576
          · have F : Hid ((decide (1 ≤ n ∧ n ≤ 32) && decide (n ≤ v ∧ v ≤ n * 1048576)) = true) := hid (by simp only [Bool.and_eq_true, decide_eq_true_eq]; omega)
            rw [F.out]
            go_enter Tryz.func61, Tryz.ntmps61
            go_wp2_with fail
            go_ret
            exact ⟨rfl, HB0.out⟩
          · have F : Hid ((decide (1 ≤ n ∧ n ≤ 32) && decide (n ≤ v ∧ v ≤ n * 1048576)) = false) := hid (by rw [Bool.and_eq_false_iff]; right; rw [decide_eq_false_iff_not]; omega)
            rw [F.out]
            go_enter Tryz.func61, Tryz.ntmps61
            go_wp2_with fail
            go_ret
            exact ⟨rfl, HB0.out⟩
        · have F : Hid ((decide (1 ≤ n ∧ n ≤ 32) && decide (n ≤ v ∧ v ≤ n * 1048576)) = false) := hid (by rw [Bool.and_eq_false_iff]; right; rw [decide_eq_false_iff_not]; omega)
          rw [F.out]
          have c4 : ¬ v ≥ n := by omega
          go_enter Tryz.func61, Tryz.ntmps61
          go_wp2_with fail
          go_ret
          exact ⟨rfl, HB0.out⟩
      · have F : Hid ((decide (1 ≤ n ∧ n ≤ 32) && decide (n ≤ v ∧ v ≤ n * 1048576)) = false) := hid (by rw [Bool.and_eq_false_iff]; left; rw [decide_eq_false_iff_not]; omega)
        rw [F.out]
        go_enter Tryz.func61, Tryz.ntmps61
        go_wp2_with fail
        go_ret
        exact ⟨rfl, HB0.out⟩
    · have F : Hid ((decide (1 ≤ n ∧ n ≤ 32) && decide (n ≤ v ∧ v ≤ n * 1048576)) = false) := hid (by rw [Bool.and_eq_false_iff]; left; rw [decide_eq_false_iff_not]; omega)
      rw [F.out]
      go_enter Tryz.func61, Tryz.ntmps61
      go_wp2_with fail
      go_ret
      exact ⟨rfl, HB0.out⟩
end
end

/- The contracts of the package mean: one more, one less. -/
section
open Go.RowKit

/-- A mean, a position, and what is answered. -/
def M2 (w : World) (m : Mu) (p : P3) (r : List Value) (w' : World) : Prop := Cs w' w.heap.size m.cells ∧ Cs w' (w.heap.size + 1) (pcells p) ∧ Cs w' (w.heap.size + 2) r ∧ Below w.heap.size w w'
theorem M2.below {w w1 w2 : World} {m : Mu} {p : P3} {r : List Value} (h : M2 w m p r w1) (hb : Below w1.heap.size w1 w2) : M2 w m p r w2 := ⟨h.1.below hb, h.2.1.below hb, h.2.2.1.below hb, below_on h.2.2.2 hb⟩
theorem M2.stays (w : World) (m : Mu) (p : P3) (r : List Value) : Stays (M2 w m p r) := fun _ _ h hb => h.below hb
theorem M2.new (w : World) (m : Mu) (p : P3) : M2 w m p [.int .u64 0, .int .i64 0, .int .u64 0, .int .u64 0, .int .i64 0] (((w.alloc (.cells #[.int .u64 m.b, .int .i64 (hiW m.a), .int .u64 (loW m.a), .int .u64 m.w, .int .i64 m.n] 36)).alloc (.cells #[.int .u64 p.1, .int .u32 p.2.1, .int .u32 p.2.2] 29)).alloc (.cells #[.int .u64 0, .int .i64 0, .int .u64 0, .int .u64 0, .int .i64 0] 36)) := by
  have h1 := Cs.alloc_new6 w 36 m.cells
  have h2 := Cs.alloc_new6 (w.alloc (.cells #[.int .u64 m.b, .int .i64 (hiW m.a), .int .u64 (loW m.a), .int .u64 m.w, .int .i64 m.n] 36)) 29 (pcells p)
  have h3 := Cs.alloc_new6 ((w.alloc (.cells #[.int .u64 m.b, .int .i64 (hiW m.a), .int .u64 (loW m.a), .int .u64 m.w, .int .i64 m.n] 36)).alloc (.cells #[.int .u64 p.1, .int .u32 p.2.1, .int .u32 p.2.2] 29)) 36 [.int .u64 0, .int .i64 0, .int .u64 0, .int .u64 0, .int .i64 0]
  simp only [World.size_alloc] at h2 h3
  exact ⟨(h1.alloc _).alloc _, h2.alloc _, h3, (((Below.refl w.heap.size w).alloc (Nat.le_refl _) _).alloc (by simp) _).alloc (by simp; omega) _⟩
theorem M2.put {w w1 : World} {m : Mu} {p : P3} {a b c d e : Value} (h : M2 w m p [a, b, c, d, e] w1) {a' b' c' d' e' : Value} {W : World} (hW : W = w1.setCells (w.heap.size + 2) 0 [a', b', c', d', e']) : Cs W (w.heap.size + 2) [a', b', c', d', e'] ∧ Below w.heap.size w W := by
  rw [hW]
  exact ⟨Cs.putL [a', b', c', d', e'] 0 h.2.2.1 (by simp), below_sets (by omega) _ _ h.2.2.2⟩
theorem M2.fars {w w1 : World} {m : Mu} {p : P3} {r : List Value} (h : M2 w m p r w1) {g : Nat} (hg : w.heap.size + 2 < g) (vs : List Value) : M2 w m p r (w1.setCells g 0 vs) :=
  ⟨h.1.fars (by omega) _ _, h.2.1.fars (by omega) _ _, h.2.2.1.fars (by omega) _ _, below_sets (by omega) _ _ h.2.2.2⟩
theorem Cs.five {w : World} {g : Nat} {a b c d e : Value} (h : Cs w g [a, b, c, d, e]) : w.cell? ⟨g, 0, none⟩ = some a ∧ w.cell? ⟨g, 1, none⟩ = some b ∧ w.cell? ⟨g, 2, none⟩ = some c ∧ w.cell? ⟨g, 3, none⟩ = some d ∧ w.cell? ⟨g, 4, none⟩ = some e := ⟨h.at0, h.at1, h.at2, h.at3, h.at4⟩

set_option maxRecDepth 100000 in
set_option maxHeartbeats 4000000 in
theorem Mean.add (m : Mu) (p : P3) (hm : m.In) (hp : PIn p) (w : World) : Calls Tryz.prog 50 #[m.val, pv p] w (Ans (.tuple #[Mu.val (m.add p).2, .bool (m.add p).1]) w) := by
  have HM := hid hm
  have HP := hid hp
  have HQ0 := hid (M2.new w m p)
  clear hm hp
  unfold Mu.val pv
  cases h1 : m.right with
  | false =>
    have E : Hid (m.add p = (false, Mu.no)) := hid (by unfold Mu.add Mu.addOk; rw [h1, if_neg (by simp)])
    rw [E.out]
    have H1 := hid h1
    clear h1
    go_enter Tryz.func50, Tryz.ntmps50
    go_wp2_with fail
    generalize (((w.alloc (.cells #[.int .u64 m.b, .int .i64 (hiW m.a), .int .u64 (loW m.a), .int .u64 m.w, .int .i64 m.n] 36)).alloc (.cells #[.int .u64 p.1, .int .u32 p.2.1, .int .u32 p.2.2] 29)).alloc (.cells #[.int .u64 0, .int .i64 0, .int .u64 0, .int .u64 0, .int .i64 0] 36)) = W0 at HQ0 ⊢
    obtain ⟨m0, m1, m2, m3, m4⟩ := Mu.at m HQ0.out.1
    go_wp2_with fail
    refine (Mean.right m HM.out _).mono ?_
    rintro e w1 ⟨rfl, hb⟩
    have HQ1 := hid (HQ0.out.below hb)
    clear hb HQ0
    rw [H1.out]
    clear m0 m1 m2 m3 m4
    have HCr := hid HQ1.out.2.2.1
    go_wp2_with (first | ((with_reducible refine wpList_put_cs 36 [.int .u64 0, .int .i64 0, .int .u64 0, .int .u64 0, .int .i64 0] infoMean rfl (.tmp 4) (.tmp 21) rfl (w.heap.size + 2) _ HCr.out ?h1_1 ?h1_2 ?h1_3 ?h1_4 ?h1_5 ?h1_6); (case h1_1 => rfl); (case h1_2 => rfl); (case h1_3 => rfl); (case h1_4 => rfl); (case h1_5 => rfl); (intro W2 hW2); (have HW := hid (HQ1.out.put hW2)); (clear hW2)) | fail)
    obtain ⟨z0, z1, z2, z3, z4⟩ := HW.out.1.five
    go_wp2_with fail
    refine bodyPost_ret (v := .tuple #[Mu.val Mu.no, .bool false]) (by simp [results, Tryz.results50, go_sem, z0, z1, z2, z3, z4, hiW0, loW0]) rfl ⟨rfl, HW.out.2⟩
  | true =>
    cases h2 : pR p with
    | false =>
      have E : Hid (m.add p = (false, Mu.no)) := hid (by unfold Mu.add Mu.addOk; rw [h2, if_neg (by simp)])
      rw [E.out]
      have H1 := hid h1
      have H2 := hid h2
      clear h1 h2
      go_enter Tryz.func50, Tryz.ntmps50
      go_wp2_with fail
      generalize (((w.alloc (.cells #[.int .u64 m.b, .int .i64 (hiW m.a), .int .u64 (loW m.a), .int .u64 m.w, .int .i64 m.n] 36)).alloc (.cells #[.int .u64 p.1, .int .u32 p.2.1, .int .u32 p.2.2] 29)).alloc (.cells #[.int .u64 0, .int .i64 0, .int .u64 0, .int .u64 0, .int .i64 0] 36)) = W0 at HQ0 ⊢
      obtain ⟨m0, m1, m2, m3, m4⟩ := Mu.at m HQ0.out.1
      go_wp2_with fail
      refine (Mean.right m HM.out _).mono ?_
      rintro e w1 ⟨rfl, hb⟩
      have HQ1 := hid (HQ0.out.below hb)
      clear hb HQ0
      rw [H1.out]
      clear m0 m1 m2 m3 m4
      obtain ⟨q0, q1, q2⟩ := P3.at p HQ1.out.2.1
      go_wp2_with fail
      refine (Pos.rightF p _).mono ?_
      rintro e w2 ⟨rfl, hb⟩
      have HQ2 := hid (HQ1.out.below hb)
      clear hb q0 q1 q2 HQ1
      rw [H2.out]
      have HCr := hid HQ2.out.2.2.1
      go_wp2_with (first | ((with_reducible refine wpList_put_cs 36 [.int .u64 0, .int .i64 0, .int .u64 0, .int .u64 0, .int .i64 0] infoMean rfl (.tmp 4) (.tmp 21) rfl (w.heap.size + 2) _ HCr.out ?h2_1 ?h2_2 ?h2_3 ?h2_4 ?h2_5 ?h2_6); (case h2_1 => rfl); (case h2_2 => rfl); (case h2_3 => rfl); (case h2_4 => rfl); (case h2_5 => rfl); (intro W2 hW2); (have HW := hid (HQ2.out.put hW2)); (clear hW2)) | fail)
      obtain ⟨z0, z1, z2, z3, z4⟩ := HW.out.1.five
      go_wp2_with fail
      refine bodyPost_ret (v := .tuple #[Mu.val Mu.no, .bool false]) (by simp [results, Tryz.results50, go_sem, z0, z1, z2, z3, z4, hiW0, loW0]) rfl ⟨rfl, HW.out.2⟩
    | true =>
      by_cases h3 : m.n = 32
      · have C3 := hid (show (m.n == 32) = true by rw [h3]; rfl)
        have E : Hid (m.add p = (false, Mu.no)) := hid (by unfold Mu.add Mu.addOk; rw [h3, if_neg (by simp)])
        rw [E.out]
        clear h3
        have H1 := hid h1
        have H2 := hid h2
        clear h1 h2
        go_enter Tryz.func50, Tryz.ntmps50
        go_wp2_with fail
        generalize (((w.alloc (.cells #[.int .u64 m.b, .int .i64 (hiW m.a), .int .u64 (loW m.a), .int .u64 m.w, .int .i64 m.n] 36)).alloc (.cells #[.int .u64 p.1, .int .u32 p.2.1, .int .u32 p.2.2] 29)).alloc (.cells #[.int .u64 0, .int .i64 0, .int .u64 0, .int .u64 0, .int .i64 0] 36)) = W0 at HQ0 ⊢
        obtain ⟨m0, m1, m2, m3, m4⟩ := Mu.at m HQ0.out.1
        go_wp2_with fail
        refine (Mean.right m HM.out _).mono ?_
        rintro e w1 ⟨rfl, hb⟩
        have HQ1 := hid (HQ0.out.below hb)
        clear hb HQ0
        rw [H1.out]
        clear m0 m1 m2 m3 m4
        obtain ⟨q0, q1, q2⟩ := P3.at p HQ1.out.2.1
        go_wp2_with fail
        refine (Pos.rightF p _).mono ?_
        rintro e w2 ⟨rfl, hb⟩
        have HQ2 := hid (HQ1.out.below hb)
        clear hb q0 q1 q2 HQ1
        rw [H2.out]
        obtain ⟨m0, m1, m2, m3, m4⟩ := Mu.at m HQ2.out.1
        have c3 := C3.out
        have HCr := hid HQ2.out.2.2.1
        go_wp2_with (first | ((with_reducible refine wpList_put_cs 36 [.int .u64 0, .int .i64 0, .int .u64 0, .int .u64 0, .int .i64 0] infoMean rfl (.tmp 4) (.tmp 21) rfl (w.heap.size + 2) _ HCr.out ?h3_1 ?h3_2 ?h3_3 ?h3_4 ?h3_5 ?h3_6); (case h3_1 => rfl); (case h3_2 => rfl); (case h3_3 => rfl); (case h3_4 => rfl); (case h3_5 => rfl); (intro W2 hW2); (have HW := hid (HQ2.out.put hW2)); (clear hW2)) | fail)
        obtain ⟨z0, z1, z2, z3, z4⟩ := HW.out.1.five
        go_wp2_with fail
        refine bodyPost_ret (v := .tuple #[Mu.val Mu.no, .bool false]) (by simp [results, Tryz.results50, go_sem, z0, z1, z2, z3, z4, hiW0, loW0]) rfl ⟨rfl, HW.out.2⟩
      · have h3' : (m.n == 32) = false := by simpa using h3
        have N3 : Hid (m.n < 32) := hid (by unfold Mu.right at h1; split at h1; omega; simp only [Bool.and_eq_true, decide_eq_true_eq] at h1; omega)
        have HD : Hid (WR (pD m.b p)) := hid (by have := pD_bd m.b HP.out; unfold WR; omega)
        cases h4 : okW (m.a + pD m.b p) with
        | false =>
          have E : Hid (m.add p = (false, Mu.no)) := hid (by unfold Mu.add Mu.addOk; rw [h4, if_neg (by simp)])
          rw [E.out]
          have H4 := hid h4
          have H5 := hid (clW_no h4)
          clear h3 h4
          have H1 := hid h1
          have H2 := hid h2
          clear h1 h2
          go_enter Tryz.func50, Tryz.ntmps50
          go_wp2_with fail
          generalize (((w.alloc (.cells #[.int .u64 m.b, .int .i64 (hiW m.a), .int .u64 (loW m.a), .int .u64 m.w, .int .i64 m.n] 36)).alloc (.cells #[.int .u64 p.1, .int .u32 p.2.1, .int .u32 p.2.2] 29)).alloc (.cells #[.int .u64 0, .int .i64 0, .int .u64 0, .int .u64 0, .int .i64 0] 36)) = W0 at HQ0 ⊢
          obtain ⟨m0, m1, m2, m3, m4⟩ := Mu.at m HQ0.out.1
          go_wp2_with fail
          refine (Mean.right m HM.out _).mono ?_
          rintro e w1 ⟨rfl, hb⟩
          have HQ1 := hid (HQ0.out.below hb)
          clear hb HQ0
          rw [H1.out]
          clear m0 m1 m2 m3 m4
          obtain ⟨q0, q1, q2⟩ := P3.at p HQ1.out.2.1
          go_wp2_with fail
          refine (Pos.rightF p _).mono ?_
          rintro e w2 ⟨rfl, hb⟩
          have HQ2 := hid (HQ1.out.below hb)
          clear hb q0 q1 q2 HQ1
          rw [H2.out]
          obtain ⟨m0, m1, m2, m3, m4⟩ := Mu.at m HQ2.out.1
          go_wp2_with fail
          clear m0 m1 m2 m3 m4 h3'
          refine wp_region_grow (S := M2 w m p [.int .u64 0, .int .i64 0, .int .u64 0, .int .u64 0, .int .i64 0]) 13 (by kernel_rfl) (HQ2.out.below (Below.refl _ _).drew) ?_
          refine wpAnyE_take (i := 0) (v := ?_) (M2.stays w m p [.int .u64 0, .int .i64 0, .int .u64 0, .int .u64 0, .int .i64 0]) (fun _ h => h) rfl (by kernel_rfl) (by kernel_rfl) (by kernel_rfl) (by kernel_rfl) (fun _ _ _ h => h) (SteadyB.of_yields (Or.inl ⟨by rfl, ?_⟩)) ?_
          rotate_left
          · intro wq hSw
            go_simp
            (try with_reducible rfl)
          try simp only [List.getElem_toArray, List.getElem_cons_zero, List.getElem_cons_succ, Act.put, List.setIfInBounds_toArray, List.set_cons_zero, List.set_cons_succ]
          refine wpAnyE_take (i := 1) (v := ?_) (M2.stays w m p [.int .u64 0, .int .i64 0, .int .u64 0, .int .u64 0, .int .i64 0]) (fun _ h => h) rfl (by kernel_rfl) (by kernel_rfl) (by kernel_rfl) (by kernel_rfl) (fun _ _ _ h => h) (SteadyB.of_yields (Or.inl ⟨by rfl, ?_⟩)) ?_
          rotate_left
          · intro wq hSw
            obtain ⟨m0, m1, m2, m3, m4⟩ := Mu.at m hSw.1
            obtain ⟨q0, q1, q2⟩ := P3.at p hSw.2.1
            go_simp
            (try with_reducible rfl)
          try simp only [List.getElem_toArray, List.getElem_cons_zero, List.getElem_cons_succ, Act.put, List.setIfInBounds_toArray, List.set_cons_zero, List.set_cons_succ]
          refine wpAnyE_take (i := 2) (v := ?_) (M2.stays w m p [.int .u64 0, .int .i64 0, .int .u64 0, .int .u64 0, .int .i64 0]) (fun _ h => h) rfl (by kernel_rfl) (by kernel_rfl) (by kernel_rfl) (by kernel_rfl) (fun _ _ _ h => h) (SteadyB.of_yields (Or.inl ⟨by rfl, ?_⟩)) ?_
          rotate_left
          · intro wq hSw
            obtain ⟨m0, m1, m2, m3, m4⟩ := Mu.at m hSw.1
            obtain ⟨q0, q1, q2⟩ := P3.at p hSw.2.1
            go_simp
            (try with_reducible rfl)
          try simp only [List.getElem_toArray, List.getElem_cons_zero, List.getElem_cons_succ, Act.put, List.setIfInBounds_toArray, List.set_cons_zero, List.set_cons_succ]
          refine wpAnyE_take (i := 3) (v := ?_) (M2.stays w m p [.int .u64 0, .int .i64 0, .int .u64 0, .int .u64 0, .int .i64 0]) (fun _ h => h) rfl (by kernel_rfl) (by kernel_rfl) (by kernel_rfl) (by kernel_rfl) (fun _ _ _ h => h) (SteadyB.of_yields (Or.inl ⟨by rfl, ?_⟩)) ?_
          rotate_left
          · intro wq hSw
            go_simp
            (try with_reducible rfl)
          try simp only [List.getElem_toArray, List.getElem_cons_zero, List.getElem_cons_succ, Act.put, List.setIfInBounds_toArray, List.set_cons_zero, List.set_cons_succ]
          refine wpAnyE_take (i := 4) (v := ?_) (M2.stays w m p [.int .u64 0, .int .i64 0, .int .u64 0, .int .u64 0, .int .i64 0]) (fun _ h => h) rfl (by kernel_rfl) (by kernel_rfl) (by kernel_rfl) (by kernel_rfl) (fun _ _ _ h => h) (SteadyB.of_yields (Or.inl ⟨by rfl, ?_⟩)) ?_
          rotate_left
          · intro wq hSw
            obtain ⟨m0, m1, m2, m3, m4⟩ := Mu.at m hSw.1
            obtain ⟨q0, q1, q2⟩ := P3.at p hSw.2.1
            go_simp
            (try with_reducible rfl)
          try simp only [List.getElem_toArray, List.getElem_cons_zero, List.getElem_cons_succ, Act.put, List.setIfInBounds_toArray, List.set_cons_zero, List.set_cons_succ]
          refine wpAnyE_take (i := 5) (v := wv (pD m.b p)) (M2.stays w m p [.int .u64 0, .int .i64 0, .int .u64 0, .int .u64 0, .int .i64 0]) (fun _ h => h) rfl (by kernel_rfl) (by kernel_rfl) (by kernel_rfl) (by kernel_rfl) (fun _ _ _ h => h) (Or.inl ⟨by rfl, fun wq hSw => ?_⟩) ?_
          · refine RunB.of_calls (Pos.distanceF m.b HP.out wq) (by go_simp) ?_
            rintro e wr ⟨rfl, hb⟩
            exact ⟨rfl, hb⟩
          try simp only [List.getElem_toArray, List.getElem_cons_zero, List.getElem_cons_succ, Act.put, List.setIfInBounds_toArray, List.set_cons_zero, List.set_cons_succ]
          refine wpAnyE_take (i := 6) (v := (.tuple #[wv (clW (m.a + pD m.b p)), .bool (okW (m.a + pD m.b p))])) (M2.stays w m p [.int .u64 0, .int .i64 0, .int .u64 0, .int .u64 0, .int .i64 0]) (fun _ h => h) rfl (by kernel_rfl) (by kernel_rfl) (by kernel_rfl) (by kernel_rfl) (fun _ _ _ h => h) (Or.inl ⟨by rfl, fun wq hSw => ?_⟩) ?_
          · refine RunB.of_calls (Wide.addF HM.out.2.1 HD.out wq) (by go_simp) ?_
            rintro e wr ⟨rfl, hb⟩
            exact ⟨rfl, hb⟩
          try simp only [List.getElem_toArray, List.getElem_cons_zero, List.getElem_cons_succ, Act.put, List.setIfInBounds_toArray, List.set_cons_zero, List.set_cons_succ]
          refine wpAnyE_take (i := 7) (v := ?_) (M2.stays w m p [.int .u64 0, .int .i64 0, .int .u64 0, .int .u64 0, .int .i64 0]) (fun _ h => h) rfl (by kernel_rfl) (by kernel_rfl) (by kernel_rfl) (by kernel_rfl) (fun _ _ _ h => h) (SteadyB.of_yields (Or.inl ⟨by rfl, ?_⟩)) ?_
          rotate_left
          · intro wq hSw
            go_simp
            (try with_reducible rfl)
          try simp only [List.getElem_toArray, List.getElem_cons_zero, List.getElem_cons_succ, Act.put, List.setIfInBounds_toArray, List.set_cons_zero, List.set_cons_succ]
          refine wpAnyE_take (i := 8) (v := ?_) (M2.stays w m p [.int .u64 0, .int .i64 0, .int .u64 0, .int .u64 0, .int .i64 0]) (fun _ h => h) rfl (by kernel_rfl) (by kernel_rfl) (by kernel_rfl) (by kernel_rfl) (fun _ _ _ h => h) (SteadyB.of_yields (Or.inl ⟨by rfl, ?_⟩)) ?_
          rotate_left
          · intro wq hSw
            go_simp
            (try with_reducible rfl)
          try simp only [List.getElem_toArray, List.getElem_cons_zero, List.getElem_cons_succ, Act.put, List.setIfInBounds_toArray, List.set_cons_zero, List.set_cons_succ]
          refine wpAnyE_take (i := 9) (v := ?_) (M2.stays w m p [.int .u64 0, .int .i64 0, .int .u64 0, .int .u64 0, .int .i64 0]) (fun _ h => h) rfl (by kernel_rfl) (by kernel_rfl) (by kernel_rfl) (by kernel_rfl) (fun _ _ _ h => h) (SteadyB.of_yields (Or.inl ⟨by rfl, ?_⟩)) ?_
          rotate_left
          · intro wq hSw
            go_simp
            (try with_reducible rfl)
          try simp only [List.getElem_toArray, List.getElem_cons_zero, List.getElem_cons_succ, Act.put, List.setIfInBounds_toArray, List.set_cons_zero, List.set_cons_succ]
          refine wpAnyE_alloc (i := 10) (fun wx g => Cs wx g [.int .i64 0, .int .u64 0] ∧ w.heap.size + 2 < g) rfl (by kernel_rfl) (by decide) (by rfl) (M2.stays w m p [.int .u64 0, .int .i64 0, .int .u64 0, .int .u64 0, .int .i64 0]) (fun _ h => h) (fun g => (fun _ _ h hb => ⟨h.1.below hb, h.2⟩)) (fun wq hSw => ?_) (fun gA => ?_)
          · exact ⟨_, by go_simp; (try with_reducible rfl), (Below.refl _ _).alloc (Nat.le_refl _) _, Cs.new2 _ _ _ _, hSw.2.2.1.lt⟩
          try simp only [List.getElem_toArray, List.getElem_cons_zero, List.getElem_cons_succ, Act.put, List.setIfInBounds_toArray, List.set_cons_zero, List.set_cons_succ]
          refine wpAnyE_store (i := 11) (fun wx => (M2 w m p [.int .u64 0, .int .i64 0, .int .u64 0, .int .u64 0, .int .i64 0]) wx ∧ (Cs wx gA [.int .i64 (hiW (clW (m.a + pD m.b p))), .int .u64 (loW (clW (m.a + pD m.b p)))] ∧ w.heap.size + 2 < gA)) 34 [.int .i64 (hiW (clW (m.a + pD m.b p))), .int .u64 (loW (clW (m.a + pD m.b p)))] [.int .i64 0, .int .u64 0] gA infoWide (.tmp 6) (.tmp 30) rfl rfl (by kernel_rfl) (by decide) (by rfl) ?st11_1a ?st11_1b ?st11_1c ?st11_1d ?st11_1e (fun _ h => h.2.1) (fun _ h => ⟨h.1.fars h.2.2 _, Cs.putL _ 0 h.2.1 (by simp), h.2.2⟩) (fun _ h => h.1) ((M2.stays w m p [.int .u64 0, .int .i64 0, .int .u64 0, .int .u64 0, .int .i64 0]).and_ (fun _ _ h hb => ⟨h.1.below hb, h.2⟩)) ?st11_1f
          case st11_1a => rfl
          case st11_1b => rfl
          case st11_1c => rfl
          case st11_1d => rfl
          case st11_1e => rfl
          try simp only [List.getElem_toArray, List.getElem_cons_zero, List.getElem_cons_succ, Act.put, List.setIfInBounds_toArray, List.set_cons_zero, List.set_cons_succ]
          refine wpAnyE_take (i := 12) (v := ?_) ((M2.stays w m p [.int .u64 0, .int .i64 0, .int .u64 0, .int .u64 0, .int .i64 0]).and_ (fun _ _ h hb => ⟨h.1.below hb, h.2⟩)) (fun _ h => h.1) rfl (by kernel_rfl) (by kernel_rfl) (by kernel_rfl) (by kernel_rfl) (fun _ _ _ h => h) (SteadyB.of_yields (Or.inl ⟨by rfl, ?_⟩)) ?_
          rotate_left
          · intro wq hSw
            go_simp
            (try with_reducible rfl)
          try simp only [List.getElem_toArray, List.getElem_cons_zero, List.getElem_cons_succ, Act.put, List.setIfInBounds_toArray, List.set_cons_zero, List.set_cons_succ]
          refine wpAnyE_done (by kernel_rfl) (fun wz hSz => ?_) _
          obtain ⟨hQ, hG⟩ := hSz
          have HQ3 := hid hQ
          clear hQ hG HQ2
          rw [H4.out]
          have HCr := hid HQ3.out.2.2.1
          go_wp2_with (first | ((with_reducible refine wpList_put_cs 36 [.int .u64 0, .int .i64 0, .int .u64 0, .int .u64 0, .int .i64 0] infoMean rfl (.tmp 4) (.tmp 34) rfl (w.heap.size + 2) _ HCr.out ?h4_1 ?h4_2 ?h4_3 ?h4_4 ?h4_5 ?h4_6); (case h4_1 => rfl); (case h4_2 => rfl); (case h4_3 => rfl); (case h4_4 => rfl); (case h4_5 => rfl); (intro W2 hW2); (have HW := hid (HQ3.out.put hW2)); (clear hW2)) | fail)
          obtain ⟨z0, z1, z2, z3, z4⟩ := HW.out.1.five
          go_wp2_with fail
          refine bodyPost_ret (v := .tuple #[Mu.val Mu.no, .bool false]) (by simp [results, Tryz.results50, go_sem, z0, z1, z2, z3, z4, hiW0, loW0]) rfl ⟨rfl, HW.out.2⟩
        | true =>
          have E : Hid (m.add p = (true, ⟨m.b, m.a + pD m.b p, m.w + p.2.2, m.n + 1⟩)) := hid (by unfold Mu.add Mu.addOk; rw [h1, h2, h4, if_pos (by have := N3.out; simp; omega)])
          rw [E.out]
          have H4 := hid h4
          have H5 := hid (clW_ok h4)
          have HB := hid (right_bd h1)
          have HIP := hid (pR_isP HP.out h2)
          clear h3 h4
          have H1 := hid h1
          have H2 := hid h2
          clear h1 h2
          go_enter Tryz.func50, Tryz.ntmps50
          go_wp2_with fail
          generalize (((w.alloc (.cells #[.int .u64 m.b, .int .i64 (hiW m.a), .int .u64 (loW m.a), .int .u64 m.w, .int .i64 m.n] 36)).alloc (.cells #[.int .u64 p.1, .int .u32 p.2.1, .int .u32 p.2.2] 29)).alloc (.cells #[.int .u64 0, .int .i64 0, .int .u64 0, .int .u64 0, .int .i64 0] 36)) = W0 at HQ0 ⊢
          obtain ⟨m0, m1, m2, m3, m4⟩ := Mu.at m HQ0.out.1
          go_wp2_with fail
          refine (Mean.right m HM.out _).mono ?_
          rintro e w1 ⟨rfl, hb⟩
          have HQ1 := hid (HQ0.out.below hb)
          clear hb HQ0
          rw [H1.out]
          clear m0 m1 m2 m3 m4
          obtain ⟨q0, q1, q2⟩ := P3.at p HQ1.out.2.1
          go_wp2_with fail
          refine (Pos.rightF p _).mono ?_
          rintro e w2 ⟨rfl, hb⟩
          have HQ2 := hid (HQ1.out.below hb)
          clear hb q0 q1 q2 HQ1
          rw [H2.out]
          obtain ⟨m0, m1, m2, m3, m4⟩ := Mu.at m HQ2.out.1
          go_wp2_with fail
          clear m0 m1 m2 m3 m4 h3'
          refine wp_region_grow (S := M2 w m p [.int .u64 0, .int .i64 0, .int .u64 0, .int .u64 0, .int .i64 0]) 13 (by kernel_rfl) (HQ2.out.below (Below.refl _ _).drew) ?_
          refine wpAnyE_take (i := 0) (v := ?_) (M2.stays w m p [.int .u64 0, .int .i64 0, .int .u64 0, .int .u64 0, .int .i64 0]) (fun _ h => h) rfl (by kernel_rfl) (by kernel_rfl) (by kernel_rfl) (by kernel_rfl) (fun _ _ _ h => h) (SteadyB.of_yields (Or.inl ⟨by rfl, ?_⟩)) ?_
          rotate_left
          · intro wq hSw
            go_simp
            (try with_reducible rfl)
          try simp only [List.getElem_toArray, List.getElem_cons_zero, List.getElem_cons_succ, Act.put, List.setIfInBounds_toArray, List.set_cons_zero, List.set_cons_succ]
          refine wpAnyE_take (i := 1) (v := ?_) (M2.stays w m p [.int .u64 0, .int .i64 0, .int .u64 0, .int .u64 0, .int .i64 0]) (fun _ h => h) rfl (by kernel_rfl) (by kernel_rfl) (by kernel_rfl) (by kernel_rfl) (fun _ _ _ h => h) (SteadyB.of_yields (Or.inl ⟨by rfl, ?_⟩)) ?_
          rotate_left
          · intro wq hSw
            obtain ⟨m0, m1, m2, m3, m4⟩ := Mu.at m hSw.1
            obtain ⟨q0, q1, q2⟩ := P3.at p hSw.2.1
            go_simp
            (try with_reducible rfl)
          try simp only [List.getElem_toArray, List.getElem_cons_zero, List.getElem_cons_succ, Act.put, List.setIfInBounds_toArray, List.set_cons_zero, List.set_cons_succ]
          refine wpAnyE_take (i := 2) (v := ?_) (M2.stays w m p [.int .u64 0, .int .i64 0, .int .u64 0, .int .u64 0, .int .i64 0]) (fun _ h => h) rfl (by kernel_rfl) (by kernel_rfl) (by kernel_rfl) (by kernel_rfl) (fun _ _ _ h => h) (SteadyB.of_yields (Or.inl ⟨by rfl, ?_⟩)) ?_
          rotate_left
          · intro wq hSw
            obtain ⟨m0, m1, m2, m3, m4⟩ := Mu.at m hSw.1
            obtain ⟨q0, q1, q2⟩ := P3.at p hSw.2.1
            go_simp
            (try with_reducible rfl)
          try simp only [List.getElem_toArray, List.getElem_cons_zero, List.getElem_cons_succ, Act.put, List.setIfInBounds_toArray, List.set_cons_zero, List.set_cons_succ]
          refine wpAnyE_take (i := 3) (v := ?_) (M2.stays w m p [.int .u64 0, .int .i64 0, .int .u64 0, .int .u64 0, .int .i64 0]) (fun _ h => h) rfl (by kernel_rfl) (by kernel_rfl) (by kernel_rfl) (by kernel_rfl) (fun _ _ _ h => h) (SteadyB.of_yields (Or.inl ⟨by rfl, ?_⟩)) ?_
          rotate_left
          · intro wq hSw
            go_simp
            (try with_reducible rfl)
          try simp only [List.getElem_toArray, List.getElem_cons_zero, List.getElem_cons_succ, Act.put, List.setIfInBounds_toArray, List.set_cons_zero, List.set_cons_succ]
          refine wpAnyE_take (i := 4) (v := ?_) (M2.stays w m p [.int .u64 0, .int .i64 0, .int .u64 0, .int .u64 0, .int .i64 0]) (fun _ h => h) rfl (by kernel_rfl) (by kernel_rfl) (by kernel_rfl) (by kernel_rfl) (fun _ _ _ h => h) (SteadyB.of_yields (Or.inl ⟨by rfl, ?_⟩)) ?_
          rotate_left
          · intro wq hSw
            obtain ⟨m0, m1, m2, m3, m4⟩ := Mu.at m hSw.1
            obtain ⟨q0, q1, q2⟩ := P3.at p hSw.2.1
            go_simp
            (try with_reducible rfl)
          try simp only [List.getElem_toArray, List.getElem_cons_zero, List.getElem_cons_succ, Act.put, List.setIfInBounds_toArray, List.set_cons_zero, List.set_cons_succ]
          refine wpAnyE_take (i := 5) (v := wv (pD m.b p)) (M2.stays w m p [.int .u64 0, .int .i64 0, .int .u64 0, .int .u64 0, .int .i64 0]) (fun _ h => h) rfl (by kernel_rfl) (by kernel_rfl) (by kernel_rfl) (by kernel_rfl) (fun _ _ _ h => h) (Or.inl ⟨by rfl, fun wq hSw => ?_⟩) ?_
          · refine RunB.of_calls (Pos.distanceF m.b HP.out wq) (by go_simp) ?_
            rintro e wr ⟨rfl, hb⟩
            exact ⟨rfl, hb⟩
          try simp only [List.getElem_toArray, List.getElem_cons_zero, List.getElem_cons_succ, Act.put, List.setIfInBounds_toArray, List.set_cons_zero, List.set_cons_succ]
          refine wpAnyE_take (i := 6) (v := (.tuple #[wv (clW (m.a + pD m.b p)), .bool (okW (m.a + pD m.b p))])) (M2.stays w m p [.int .u64 0, .int .i64 0, .int .u64 0, .int .u64 0, .int .i64 0]) (fun _ h => h) rfl (by kernel_rfl) (by kernel_rfl) (by kernel_rfl) (by kernel_rfl) (fun _ _ _ h => h) (Or.inl ⟨by rfl, fun wq hSw => ?_⟩) ?_
          · refine RunB.of_calls (Wide.addF HM.out.2.1 HD.out wq) (by go_simp) ?_
            rintro e wr ⟨rfl, hb⟩
            exact ⟨rfl, hb⟩
          try simp only [List.getElem_toArray, List.getElem_cons_zero, List.getElem_cons_succ, Act.put, List.setIfInBounds_toArray, List.set_cons_zero, List.set_cons_succ]
          refine wpAnyE_take (i := 7) (v := ?_) (M2.stays w m p [.int .u64 0, .int .i64 0, .int .u64 0, .int .u64 0, .int .i64 0]) (fun _ h => h) rfl (by kernel_rfl) (by kernel_rfl) (by kernel_rfl) (by kernel_rfl) (fun _ _ _ h => h) (SteadyB.of_yields (Or.inl ⟨by rfl, ?_⟩)) ?_
          rotate_left
          · intro wq hSw
            go_simp
            (try with_reducible rfl)
          try simp only [List.getElem_toArray, List.getElem_cons_zero, List.getElem_cons_succ, Act.put, List.setIfInBounds_toArray, List.set_cons_zero, List.set_cons_succ]
          refine wpAnyE_take (i := 8) (v := ?_) (M2.stays w m p [.int .u64 0, .int .i64 0, .int .u64 0, .int .u64 0, .int .i64 0]) (fun _ h => h) rfl (by kernel_rfl) (by kernel_rfl) (by kernel_rfl) (by kernel_rfl) (fun _ _ _ h => h) (SteadyB.of_yields (Or.inl ⟨by rfl, ?_⟩)) ?_
          rotate_left
          · intro wq hSw
            go_simp
            (try with_reducible rfl)
          try simp only [List.getElem_toArray, List.getElem_cons_zero, List.getElem_cons_succ, Act.put, List.setIfInBounds_toArray, List.set_cons_zero, List.set_cons_succ]
          refine wpAnyE_take (i := 9) (v := ?_) (M2.stays w m p [.int .u64 0, .int .i64 0, .int .u64 0, .int .u64 0, .int .i64 0]) (fun _ h => h) rfl (by kernel_rfl) (by kernel_rfl) (by kernel_rfl) (by kernel_rfl) (fun _ _ _ h => h) (SteadyB.of_yields (Or.inl ⟨by rfl, ?_⟩)) ?_
          rotate_left
          · intro wq hSw
            go_simp
            (try with_reducible rfl)
          try simp only [List.getElem_toArray, List.getElem_cons_zero, List.getElem_cons_succ, Act.put, List.setIfInBounds_toArray, List.set_cons_zero, List.set_cons_succ]
          refine wpAnyE_alloc (i := 10) (fun wx g => Cs wx g [.int .i64 0, .int .u64 0] ∧ w.heap.size + 2 < g) rfl (by kernel_rfl) (by decide) (by rfl) (M2.stays w m p [.int .u64 0, .int .i64 0, .int .u64 0, .int .u64 0, .int .i64 0]) (fun _ h => h) (fun g => (fun _ _ h hb => ⟨h.1.below hb, h.2⟩)) (fun wq hSw => ?_) (fun gA => ?_)
          · exact ⟨_, by go_simp; (try with_reducible rfl), (Below.refl _ _).alloc (Nat.le_refl _) _, Cs.new2 _ _ _ _, hSw.2.2.1.lt⟩
          try simp only [List.getElem_toArray, List.getElem_cons_zero, List.getElem_cons_succ, Act.put, List.setIfInBounds_toArray, List.set_cons_zero, List.set_cons_succ]
          refine wpAnyE_store (i := 11) (fun wx => (M2 w m p [.int .u64 0, .int .i64 0, .int .u64 0, .int .u64 0, .int .i64 0]) wx ∧ (Cs wx gA [.int .i64 (hiW (clW (m.a + pD m.b p))), .int .u64 (loW (clW (m.a + pD m.b p)))] ∧ w.heap.size + 2 < gA)) 34 [.int .i64 (hiW (clW (m.a + pD m.b p))), .int .u64 (loW (clW (m.a + pD m.b p)))] [.int .i64 0, .int .u64 0] gA infoWide (.tmp 6) (.tmp 30) rfl rfl (by kernel_rfl) (by decide) (by rfl) ?st11_2a ?st11_2b ?st11_2c ?st11_2d ?st11_2e (fun _ h => h.2.1) (fun _ h => ⟨h.1.fars h.2.2 _, Cs.putL _ 0 h.2.1 (by simp), h.2.2⟩) (fun _ h => h.1) ((M2.stays w m p [.int .u64 0, .int .i64 0, .int .u64 0, .int .u64 0, .int .i64 0]).and_ (fun _ _ h hb => ⟨h.1.below hb, h.2⟩)) ?st11_2f
          case st11_2a => rfl
          case st11_2b => rfl
          case st11_2c => rfl
          case st11_2d => rfl
          case st11_2e => rfl
          try simp only [List.getElem_toArray, List.getElem_cons_zero, List.getElem_cons_succ, Act.put, List.setIfInBounds_toArray, List.set_cons_zero, List.set_cons_succ]
          refine wpAnyE_take (i := 12) (v := ?_) ((M2.stays w m p [.int .u64 0, .int .i64 0, .int .u64 0, .int .u64 0, .int .i64 0]).and_ (fun _ _ h hb => ⟨h.1.below hb, h.2⟩)) (fun _ h => h.1) rfl (by kernel_rfl) (by kernel_rfl) (by kernel_rfl) (by kernel_rfl) (fun _ _ _ h => h) (SteadyB.of_yields (Or.inl ⟨by rfl, ?_⟩)) ?_
          rotate_left
          · intro wq hSw
            go_simp
            (try with_reducible rfl)
          try simp only [List.getElem_toArray, List.getElem_cons_zero, List.getElem_cons_succ, Act.put, List.setIfInBounds_toArray, List.set_cons_zero, List.set_cons_succ]
          refine wpAnyE_done (by kernel_rfl) (fun wz hSz => ?_) _
          obtain ⟨hQ, hG⟩ := hSz
          have HQ3 := hid hQ
          rw [H5.out] at hG
          have g0 := hG.1.at0
          have g1 := hG.1.at1
          obtain ⟨m0, m1, m2, m3, m4⟩ := Mu.at m HQ3.out.1
          obtain ⟨q0, q1, q2⟩ := P3.at p HQ3.out.2.1
          have e1 : IntKind.u64.wrap p.2.2 = p.2.2 := by have := HIP.out; unfold IsP at this; rw [IntKind.wrap_u64]; omega
          have e2 : IntKind.u64.wrap (m.w + p.2.2) = m.w + p.2.2 := by have := HIP.out; have := HB.out; unfold IsP at *; rw [IntKind.wrap_u64]; omega
          have e3 : IntKind.i64.wrap (m.n + 1) = m.n + 1 := by have := HB.out; rw [IntKind.wrap_i64]; omega
          have H4o := H4.out
          clear hQ hG HQ2 H5
          have HCr := hid HQ3.out.2.2.1
          rw [H4o]
          go_wp2_with (first | ((with_reducible refine wpList_put_cs 36 [.int .u64 m.b, .int .i64 (hiW (m.a + pD m.b p)), .int .u64 (loW (m.a + pD m.b p)), .int .u64 (m.w + p.2.2), .int .i64 (m.n + 1)] infoMean rfl (.tmp 4) (.tmp 47) rfl (w.heap.size + 2) _ HCr.out ?h5_1 ?h5_2 ?h5_3 ?h5_4 ?h5_5 ?h5_6); (case h5_1 => rfl); (case h5_2 => rfl); (case h5_3 => rfl); (case h5_4 => rfl); (case h5_5 => rfl); (intro W2 hW2); (have HW := hid (HQ3.out.put hW2)); (clear hW2)) | fail)
          obtain ⟨z0, z1, z2, z3, z4⟩ := HW.out.1.five
          go_wp2_with fail
          refine bodyPost_ret (v := .tuple #[Mu.val ⟨m.b, m.a + pD m.b p, m.w + p.2.2, m.n + 1⟩, .bool true]) (by simp [results, Tryz.results50, go_sem, z0, z1, z2, z3, z4, hiW0, loW0]) rfl ⟨rfl, HW.out.2⟩
end

/- Who comes in among positions near a time, as numbers. -/
section
open Go.RowKit

theorem atP_yes {b d v : Int} (h : AtOk d v) : atP b d v = (adv b (d / v), d % v, v) := by unfold atP; rw [if_pos (atOk_iff.2 h)]
theorem atP_right {b d v : Int} (h : AtOk d v) : pR (atP b d v) = true ∧ PIn (atP b d v) := by
  rw [atP_yes h]
  obtain ⟨v0, v1, q0, q1⟩ := h
  have r0 := Int.emod_nonneg d (show v ≠ 0 by omega)
  have r1 := Int.emod_lt_of_pos d (show 0 < v by omega)
  refine ⟨?_, adv_T _ _, ?_, ?_⟩
  · unfold pR; simp only [Bool.and_eq_true, decide_eq_true_eq]; omega
  · simp only; omega
  · simp only; omega
theorem atP_D {b d v : Int} (h : AtOk d v) : pD b (atP b d v) = d := by
  rw [atP_yes h]
  obtain ⟨v0, v1, q0, q1⟩ := h
  show dif (adv b (d / v)) b * v + d % v = d
  rw [dif_adv b q0 q1]
  have := Int.emod_add_mul_ediv d v
  rw [Int.mul_comm] at this
  omega
theorem atP_w {b d v : Int} (h : AtOk d v) : (atP b d v).2.2 = v := by rw [atP_yes h]
theorem cmp_mono {b v D1 D2 : Int} (h1 : AtOk D1 v) (h2 : AtOk D2 v) (n1 : -2305843009213693952 ≤ D1 / v ∧ D1 / v ≤ 2305843009213693952) (n2 : -2305843009213693952 ≤ D2 / v ∧ D2 / v ≤ 2305843009213693952) (h : D1 ≤ D2) : ¬ 0 < cmpP (atP b D1 v) (atP b D2 v) := by
  rw [atP_yes h1, atP_yes h2]
  have v0 := h1.1
  have p1 : IsP (D1 % v) v := ⟨h1.1, h1.2.1, Int.emod_nonneg _ (by omega), Int.emod_lt_of_pos _ (by omega)⟩
  have p2 : IsP (D2 % v) v := ⟨h2.1, h2.2.1, Int.emod_nonneg _ (by omega), Int.emod_lt_of_pos _ (by omega)⟩
  unfold cmpP
  simp only
  rw [posC_eq p1 p2, dif_near b (by omega) (by omega)]
  have e1 := Int.emod_add_mul_ediv D1 v
  have e2 := Int.emod_add_mul_ediv D2 v
  rw [Int.mul_sub, cmpI_pos]
  omega

/-- What is known of positions around a time. -/
structure Ring (t : Int) (l : List P3) : Prop where
  near : ∀ p ∈ l, NrP 576460752303423488 t p
  some : 0 < l.length
  few : l.length ≤ 31
theorem Ring.ok {t : Int} {l : List P3} (h : Ring t l) : ∀ p ∈ l, pR p = true ∧ PIn p := fun p hp => (h.near p hp).1
theorem Ring.W {t : Int} {l : List P3} (h : Ring t l) : 0 < sumW l := sumW_pos h.ok h.some
theorem Ring.right {t : Int} {l : List P3} (h : Ring t l) : (Mu.sums t l).right = true := sums_right t h.ok (by have := h.few; omega)
theorem Ring.n {t : Int} {l : List P3} (h : Ring t l) : (Mu.sums t l).n ≠ 0 := sums_n h.some
theorem Ring.lo {t : Int} {l : List P3} (h : Ring t l) : -576460752303423488 * sumW l ≤ sumD t l := sum_lo h.ok (fun p hp => by have := (h.near p hp).2; omega)
theorem Ring.hi {t : Int} {l : List P3} (h : Ring t l) : sumD t l ≤ 576460752303423489 * sumW l := by
  have := sum_hi (t := t) (hi := 576460752303423488) h.ok (fun p hp => by have := (h.near p hp).2; omega)
  omega
/-- Where one comes in. -/
theorem Ring.in_ {t : Int} {l : List P3} (h : Ring t l) {w o : Int} (w0 : 1 ≤ w) (w1 : w ≤ 1048576) (o0 : -1125899906842624 < o) (o1 : o < 1125899906842624) :
    (-1152921504606846976 ≤ (Mu.sums t l).plD w o / w ∧ (Mu.sums t l).plD w o / w ≤ 1152921504606846976) ∧ AtOk ((Mu.sums t l).plD w o) w ∧ (Mu.sums t l).plOk1 w o = true := by
  have hW := h.W
  have hWb := (right_w h.right h.n).2.2
  have hlo := h.lo
  have hhi := h.hi
  have e1 : (Mu.sums t l).a = sumD t l := rfl
  have e2 : (Mu.sums t l).w = sumW l := rfl
  rw [e2] at hWb
  unfold Mu.plD Mu.plOk1
  rw [e1, e2]
  generalize sumD t l = a at *
  generalize sumW l = W at *
  have x1 : -576460752303423488 * W * w ≤ a * w := Int.mul_le_mul_of_nonneg_right hlo (by omega)
  have x2 : a * w ≤ 576460752303423489 * W * w := Int.mul_le_mul_of_nonneg_right hhi (by omega)
  have y1 : o * (W + w) ≤ 1125899906842624 * (W + w) := Int.mul_le_mul_of_nonneg_right (by omega) (by omega)
  have y2 : -1125899906842624 * (W + w) ≤ o * (W + w) := Int.mul_le_mul_of_nonneg_right (by omega) (by omega)
  have z1 : W ≤ W * w := by have := Int.mul_le_mul_of_nonneg_left w0 (show 0 ≤ W by omega); omega
  have z2 : w ≤ W * w := by have := Int.mul_le_mul_of_nonneg_right (show 1 ≤ W by omega) (show 0 ≤ w by omega); omega
  have z3 : W * w ≤ 33554432 * 1048576 := by
    have a1 := Int.mul_le_mul_of_nonneg_right hWb (show 0 ≤ w by omega)
    have a2 := Int.mul_le_mul_of_nonneg_left w1 (show (0 : Int) ≤ 33554432 by decide)
    omega
  have k1 : -576460752303423488 * W * w = -576460752303423488 * (W * w) := Int.mul_assoc _ _ _
  have k2 : 576460752303423489 * W * w = 576460752303423489 * (W * w) := Int.mul_assoc _ _ _
  have m1 : -1152921504606846976 * (W * w) ≤ a * w - o * (W + w) := by omega
  have m2 : a * w - o * (W + w) ≤ 1152921504606846976 * (W * w) := by omega
  have ok1 : okW (a * w) = true := okW_bd (by omega) (by omega)
  have ok2 : okW (a * w - o * (W + w)) = true := okW_bd (by omega) (by omega)
  have d1 : -1152921504606846976 * w ≤ (a * w - o * (W + w)) / W := fl_lo hW (by
    have : -1152921504606846976 * w * W = -1152921504606846976 * (W * w) := by grind
    omega)
  have d2 : (a * w - o * (W + w)) / W ≤ 1152921504606846976 * w := by
    have := Int.ediv_le_ediv hW m2
    have e : 1152921504606846976 * (W * w) = 1152921504606846976 * w * W := by grind
    rw [e, Int.mul_ediv_cancel _ (by omega)] at this
    exact this
  have q1 : -1152921504606846976 ≤ (a * w - o * (W + w)) / W / w := fl_lo (by omega) d1
  have q2 : (a * w - o * (W + w)) / W / w ≤ 1152921504606846976 := by
    have := Int.ediv_le_ediv (show 0 < w by omega) d2
    rw [Int.mul_ediv_cancel _ (by omega)] at this
    exact this
  refine ⟨⟨q1, q2⟩, ⟨w0, w1, by omega, by omega⟩, ?_⟩
  rw [ok1, ok2]; rfl
/-- The mean with it. -/
def Mu.more (m : Mu) (w o : Int) : Mu := ⟨m.b, m.a + m.plD w o, m.w + w, m.n + 1⟩
theorem Ring.add {t : Int} {l : List P3} (h : Ring t l) {w o : Int} (w0 : 1 ≤ w) (w1 : w ≤ 1048576) (o0 : -1125899906842624 < o) (o1 : o < 1125899906842624) :
    (Mu.sums t l).add (atP t ((Mu.sums t l).plD w o) w) = (true, (Mu.sums t l).more w o) ∧ ((Mu.sums t l).more w o).right = true ∧ ((Mu.sums t l).more w o).n ≠ 0 ∧ -1267650600228229401496703205376 ≤ ((Mu.sums t l).more w o).a ∧ ((Mu.sums t l).more w o).a ≤ 1267650600228229401496703205376 := by
  obtain ⟨_, hok, _⟩ := h.in_ w0 w1 o0 o1
  have hr := h.right
  have hn := h.n
  obtain ⟨n0, n1, n2⟩ := right_w hr hn
  have hw : (Mu.sums t l).w = sumW l := rfl
  have hnn : (Mu.sums t l).n = l.length := rfl
  have ha := sums_a t h.ok (by have := h.few; omega)
  have hfew := h.few
  have hd := pD_bdR t (atP_right (b := t) hok).2 (atP_right (b := t) hok).1
  rw [atP_D hok] at hd
  have hwb := sumW_bd (l := l) (fun p hp => pR_isP (h.ok p hp).2 (h.ok p hp).1)
  have hsA : (Mu.sums t l).a = sumD t l := rfl
  have hsB : (Mu.sums t l).b = t := rfl
  have hsd := sumD_bd t h.ok
  have hA : (Mu.sums t l).addOk (atP t ((Mu.sums t l).plD w o) w) = true := by
    unfold Mu.addOk
    rw [hr, (atP_right hok).1, hsB, atP_D hok]
    simp only [Bool.true_and, Bool.and_eq_true, decide_eq_true_eq]
    refine ⟨by rw [hnn]; omega, okW_bd ?_ ?_⟩ <;> rw [hsA] <;> omega
  refine ⟨?_, ?_, ?_, ?_, ?_⟩
  · unfold Mu.add
    rw [if_pos hA, hsB, atP_D hok, atP_w hok]
    rfl
  · unfold Mu.right Mu.more
    rw [if_neg (by simp only; rw [hnn]; omega)]
    simp only [Bool.and_eq_true, decide_eq_true_eq]
    rw [hnn, hw]
    omega
  · unfold Mu.more; simp only; rw [hnn]; omega
  · unfold Mu.more; simp only; rw [hsA]; omega
  · unfold Mu.more; simp only; rw [hsA]; omega
/-- Its own lag. -/
theorem Ring.own {t : Int} {l : List P3} (h : Ring t l) {w o : Int} (w0 : 1 ≤ w) (w1 : w ≤ 1048576) (o0 : -1125899906842624 < o) (o1 : o < 1125899906842624) :
    ((Mu.sums t l).more w o).lag (atP t ((Mu.sums t l).plD w o) w) = (true, o) := by
  obtain ⟨_, hok, _⟩ := h.in_ w0 w1 o0 o1
  obtain ⟨_, hr, hn, a0, a1⟩ := h.add w0 w1 o0 o1
  have hv := ov_yes hr hn (atP_right (b := t) hok) a0 a1
  unfold Mu.lag
  rw [if_pos hv]
  have hb : ((Mu.sums t l).more w o).b = t := rfl
  have hw : ((Mu.sums t l).more w o).w = sumW l + w := rfl
  have ha : ((Mu.sums t l).more w o).a = sumD t l + (sumD t l * w - o * (sumW l + w)) / sumW l := rfl
  have hp : (Mu.sums t l).plD w o = (sumD t l * w - o * (sumW l + w)) / sumW l := rfl
  unfold Mu.ov
  rw [hb, atP_D hok, atP_w hok, hw, ha, hp, place_own h.W (by omega)]
/-- All others' lags. -/
theorem Ring.other {t : Int} {l : List P3} (h : Ring t l) {w o : Int} (w0 : 1 ≤ w) (w1 : w ≤ 1048576) (o0 : -1125899906842624 < o) (o1 : o < 1125899906842624) {q : P3} (hq : q ∈ l) :
    ∃ a b : Int, (Mu.sums t l).lag q = (true, a) ∧ ((Mu.sums t l).more w o).lag q = (true, b) ∧ (0 ≤ o → b - a ≤ 0 ∧ -(o + 2) < b - a) ∧ (o ≤ 0 → -2 < b - a ∧ b - a ≤ -o) := by
  obtain ⟨_, hr, hn, a0, a1⟩ := h.add w0 w1 o0 o1
  have hv := ov_yes hr hn (h.ok q hq) a0 a1
  have hv2 := sums_ov (t := t) h.ok (by have := h.few; omega) h.some (h.ok q hq)
  have hb : ((Mu.sums t l).more w o).b = t := rfl
  have hw : ((Mu.sums t l).more w o).w = sumW l + w := rfl
  have ha : ((Mu.sums t l).more w o).a = sumD t l + (sumD t l * w - o * (sumW l + w)) / sumW l := rfl
  refine ⟨(sumD t l * q.2.2 - pD t q * sumW l) / sumW l, ((sumD t l + (sumD t l * w - o * (sumW l + w)) / sumW l) * q.2.2 - pD t q * (sumW l + w)) / (sumW l + w), ?_, ?_, ?_⟩
  · unfold Mu.lag; rw [if_pos hv2]; rfl
  · unfold Mu.lag; rw [if_pos hv]; unfold Mu.ov; rw [hb, hw, ha]
  · obtain ⟨e, x, y, he, hx, hy, key⟩ := place_eq (a := sumD t l) (o := o) (v := q.2.2) (d := pD t q) h.W (show 0 < w by omega)
    obtain ⟨v0, _, _, _⟩ := pR_isP (h.ok q hq).2 (h.ok q hq).1
    exact place_bd h.W (by omega) (by omega) (w_le_sum h.ok hq) he hx hy key
/-- The virtual time. -/
theorem Ring.time {t : Int} {l : List P3} (ht : IsT t) (h : Ring t l) {w : Int} (w0 : 1 ≤ w) (w1 : w ≤ 1048576) :
    ∃ x y : Int, (Mu.sums t l).fl = (true, x) ∧ ((Mu.sums t l).more w 0).fl = (true, y) ∧ 0 ≤ dif x y ∧ dif x y ≤ 1 := by
  have hx := near_fl ht (fun p hp => ⟨(h.near p hp).1, by have := (h.near p hp).2; omega, by have := (h.near p hp).2; omega⟩) h.some (by have := h.few; omega)
  obtain ⟨_, hr, hn, a0, a1⟩ := h.add (o := 0) w0 w1 (by decide) (by decide)
  have hq := place_fl (a := sumD t l) h.W (show 0 < w by omega)
  have hlo := fl_lo h.W h.lo
  have hhi : sumD t l / sumW l ≤ 576460752303423489 := by
    have := Int.ediv_le_ediv h.W h.hi
    rw [Int.mul_ediv_cancel _ (by have := h.W; omega)] at this
    exact this
  have e : ((Mu.sums t l).more w 0).a / ((Mu.sums t l).more w 0).w = (sumD t l + sumD t l * w / sumW l) / (sumW l + w) := by
    show (sumD t l + (sumD t l * w - 0 * (sumW l + w)) / sumW l) / (sumW l + w) = _
    rw [Int.zero_mul, Int.sub_zero]
  have hy : ((Mu.sums t l).more w 0).flOk = true := by
    unfold Mu.flOk
    rw [hr, e]
    simp only [Bool.true_and, Bool.and_eq_true, decide_eq_true_eq, smI]
    exact ⟨hn, by omega, by omega⟩
  refine ⟨_, adv t ((sumD t l + sumD t l * w / sumW l) / (sumW l + w)), hx, ?_, ?_⟩
  · unfold Mu.fl
    rw [if_pos hy, e]
    rfl
  · rw [dif_near t (by omega) (by omega)]
    exact hq
/-- Who is owed more comes in no further behind. -/
theorem Ring.order {t : Int} {l : List P3} (h : Ring t l) {w o o' : Int} (w0 : 1 ≤ w) (w1 : w ≤ 1048576) (o0 : -1125899906842624 < o) (o1 : o < 1125899906842624) (p0 : -1125899906842624 < o') (p1 : o' < 1125899906842624) (ho : o' ≤ o) :
    ¬ 0 < cmpP (atP t ((Mu.sums t l).plD w o) w) (atP t ((Mu.sums t l).plD w o') w) := by
  obtain ⟨h1, h2, _⟩ := h.in_ w0 w1 o0 o1
  obtain ⟨g1, g2, _⟩ := h.in_ w0 w1 p0 p1
  refine cmp_mono h2 g2 ⟨by omega, by omega⟩ ⟨by omega, by omega⟩ ?_
  have hW := h.W
  show (sumD t l * w - o * (sumW l + w)) / sumW l ≤ (sumD t l * w - o' * (sumW l + w)) / sumW l
  refine Int.ediv_le_ediv hW ?_
  have := Int.mul_le_mul_of_nonneg_right ho (show 0 ≤ sumW l + w by omega)
  omega
end

/- Somebody is served; all lags together: as numbers. -/
section
open Go.RowKit

theorem split_at {l : List P3} {k : Nat} (hk : k < l.length) : l = l.take k ++ l.getD k (0, 0, 0) :: l.drop (k + 1) := by
  have e : l.getD k (0, 0, 0) = l[k] := by simp [List.getD, hk]
  rw [e, List.getElem_cons_drop hk, List.take_append_drop]
theorem sumD_split (t : Int) {l : List P3} {k : Nat} (hk : k < l.length) : sumD t l = sumD t (l.take k ++ l.drop (k + 1)) + pD t (l.getD k (0, 0, 0)) := by
  have := congrArg (sumD t) (split_at hk)
  rw [sumD_app, sumD_cons] at this
  rw [sumD_app]; omega
theorem sumW_split {l : List P3} {k : Nat} (hk : k < l.length) : sumW l = sumW (l.take k ++ l.drop (k + 1)) + (l.getD k (0, 0, 0)).2.2 := by
  have := congrArg sumW (split_at hk)
  rw [sumW_app, sumW_cons] at this
  rw [sumW_app]; omega
theorem len_split {l : List P3} {k : Nat} (hk : k < l.length) : (l.take k ++ l.drop (k + 1)).length = l.length - 1 := by simp; omega
theorem mem_split {l : List P3} {k : Nat} {q : P3} (h : q ∈ l.take k ++ l.drop (k + 1)) : q ∈ l := by
  rcases List.mem_append.1 h with h | h
  · exact List.mem_of_mem_take h
  · exact List.mem_of_mem_drop h
theorem getD_mem {l : List P3} {k : Nat} (hk : k < l.length) : l.getD k (0, 0, 0) ∈ l := by
  have e : l.getD k (0, 0, 0) = l[k] := by simp [List.getD, hk]
  rw [e]; exact List.getElem_mem hk
/-- One less. -/
theorem sums_take (t : Int) {l : List P3} {k : Nat} (hr : ∀ p ∈ l, pR p = true ∧ PIn p) (hk : k < l.length) (hn : l.length ≤ 32) :
    (Mu.sums t l).take (l.getD k (0, 0, 0)) = (true, Mu.sums t (l.take k ++ l.drop (k + 1))) := by
  have hr2 : ∀ p ∈ l.take k ++ l.drop (k + 1), pR p = true ∧ PIn p := fun q hq => hr q (mem_split hq)
  have hp := hr _ (getD_mem hk)
  have e1 := sumD_split t hk
  have e2 := sumW_split hk
  have e3 := len_split hk
  have h1 := sums_right t hr hn
  have h2 := sums_right t hr2 (by omega)
  have h3 := sums_wr t hr2 (by omega)
  have hw := sumW_bd (l := l.take k ++ l.drop (k + 1)) (fun p hp => pR_isP (hr2 p hp).2 (hr2 p hp).1)
  have hl : (Mu.sums t l).left (l.getD k (0, 0, 0)) = Mu.sums t (l.take k ++ l.drop (k + 1)) := by
    unfold Mu.left Mu.sums
    simp only
    have hn1 : (l.length : Int) - 1 = ((l.take k ++ l.drop (k + 1)).length : Nat) := by omega
    rw [hn1]
    have hd : (if (l.length : Int) = 1 then 0 else sumD t l - pD t (l.getD k (0, 0, 0))) = sumD t (l.take k ++ l.drop (k + 1)) := by
      split
      · have : l.take k ++ l.drop (k + 1) = [] := List.eq_nil_of_length_eq_zero (by omega)
        rw [this]; rfl
      · omega
    rw [hd, show sumW l - (l.getD k (0, 0, 0)).2.2 = sumW (l.take k ++ l.drop (k + 1)) by omega]
  have hok : (Mu.sums t l).takeOk (l.getD k (0, 0, 0)) = true := by
    unfold Mu.takeOk
    rw [hl, h1, h2, hp.1]
    have ea : (Mu.sums t l).a - pD (Mu.sums t l).b (l.getD k (0, 0, 0)) = sumD t (l.take k ++ l.drop (k + 1)) := by
      show sumD t l - pD t _ = _
      omega
    rw [ea, okW_iff.2 h3]
    simp only [Bool.true_and, Bool.and_true, Bool.or_true, Bool.and_eq_true, decide_eq_true_eq]
    refine ⟨?_, ?_⟩
    · show ((l.length : Nat) : Int) ≠ 0
      omega
    · show (l.getD k (0, 0, 0)).2.2 ≤ sumW l
      omega
  unfold Mu.take
  rw [if_pos hok, hl]
theorem put_back (t : Int) {l : List P3} {k : Nat} {q : P3} (hr : ∀ p ∈ l, pR p = true ∧ PIn p) (hq : pR q = true ∧ PIn q) (hw : q.2.2 = (l.getD k (0, 0, 0)).2.2) {g : Int} (hg : pD t q = pD t (l.getD k (0, 0, 0)) + g) (hk : k < l.length) (hn : l.length ≤ 32) :
    (Mu.sums t (l.take k ++ l.drop (k + 1))).add q = (true, ⟨t, sumD t l + g, sumW l, l.length⟩) := by
  have hr2 : ∀ p ∈ l.take k ++ l.drop (k + 1), pR p = true ∧ PIn p := fun q hq => hr q (mem_split hq)
  have e3 := len_split hk
  rw [sums_add t hr2 hq (by omega)]
  unfold Mu.sums
  rw [sumD_app, sumW_app, sumD_split t hk, sumW_split hk, sumD_cons, sumW_cons, sumD_nil, sumW_nil, hg, hw, List.length_append, e3]
  simp only [List.length_singleton]
  congr 2
  · omega
  · omega
  · omega
theorem pD_base (t : Int) (p : P3) : pD t p = dif p.1 t * p.2.2 + p.2.1 := rfl
/-- Where one is that is served. -/
theorem moved {t : Int} {p : P3} {g : Int} (hp : NrP 576460752303423488 t p) (g0 : 0 ≤ g) (g1 : g ≤ 288230376151711744) :
    AtOk (g + p.2.1) p.2.2 ∧ pR (atP p.1 (g + p.2.1) p.2.2) = true ∧ PIn (atP p.1 (g + p.2.1) p.2.2) ∧ (atP p.1 (g + p.2.1) p.2.2).2.2 = p.2.2 ∧ pD t (atP p.1 (g + p.2.1) p.2.2) = pD t p + g := by
  have hip := pR_isP hp.1.2 hp.1.1
  have hok : AtOk (g + p.2.1) p.2.2 := move_ok hip g0 (by omega)
  have h1 := atP_right (b := p.1) hok
  refine ⟨hok, h1.1, h1.2, atP_w hok, ?_⟩
  have q0 := quot_le hip g0
  have q1 := (quot_bd hip g0 (by omega)).1
  have hd := hp.2
  rw [atP_yes hok]
  show dif (adv p.1 ((g + p.2.1) / p.2.2)) t * p.2.2 + (g + p.2.1) % p.2.2 = dif p.1 t * p.2.2 + p.2.1 + g
  have e : dif (adv p.1 ((g + p.2.1) / p.2.2)) t = dif p.1 t + (g + p.2.1) / p.2.2 := by
    unfold dif adv at *; omega
  have e2 := Int.emod_add_mul_ediv (g + p.2.1) p.2.2
  rw [e, Int.add_mul, Int.mul_comm ((g + p.2.1) / p.2.2)]
  omega
/-- The mean behind it. -/
def Mu.served (t : Int) (l : List P3) (g : Int) : Mu := ⟨t, sumD t l + g, sumW l, l.length⟩
theorem served_ov {t : Int} {l : List P3} {g : Int} {q : P3} (hr : ∀ p ∈ l, pR p = true ∧ PIn p) (h0 : 0 < l.length) (hn : l.length ≤ 32) (g0 : 0 ≤ g) (g1 : g ≤ 288230376151711744) (hq : pR q = true ∧ PIn q) : (Mu.served t l g).ovOk q = true := by
  have h1 := sums_right t hr hn
  have h2 := sumD_bd t hr
  refine ov_yes ?_ ?_ hq ?_ ?_
  · have : (Mu.served t l g).right = (Mu.sums t l).right := by
      unfold Mu.right Mu.served Mu.sums
      simp only
      rw [if_neg (by omega), if_neg (by omega)]
    rw [this, h1]
  · show ((l.length : Nat) : Int) ≠ 0
    omega
  · show _ ≤ sumD t l + g
    omega
  · show sumD t l + g ≤ _
    omega
/-- How the lags move. -/
theorem lag_moves {t : Int} {l : List P3} {k : Nat} {g : Int} (hl : ∀ p ∈ l, NrP 576460752303423488 t p) (hk : k < l.length) (hn : l.length ≤ 32) (g0 : 0 ≤ g) (g1 : g ≤ 288230376151711744) :
    (∃ a b, (Mu.sums t l).lag (l.getD k (0, 0, 0)) = (true, a) ∧ (Mu.served t l g).lag (atP (l.getD k (0, 0, 0)).1 (g + (l.getD k (0, 0, 0)).2.1) (l.getD k (0, 0, 0)).2.2) = (true, b) ∧ -g ≤ b - a ∧ b - a ≤ 0) ∧
    (∀ p ∈ l, ∃ a b, (Mu.sums t l).lag p = (true, a) ∧ (Mu.served t l g).lag p = (true, b) ∧ 0 ≤ b - a ∧ b - a ≤ g + 1) := by
  have hr : ∀ p ∈ l, pR p = true ∧ PIn p := fun p hp => (hl p hp).1
  have hW := sumW_pos hr (by omega)
  refine ⟨?_, fun p hp => ?_⟩
  · have hm := getD_mem hk
    generalize l.getD k (0, 0, 0) = p at *
    obtain ⟨_, m1, m2, m3, m4⟩ := moved (hl p hm) g0 g1
    have hv := sums_ov (t := t) hr hn (by omega) (hr p hm)
    have hv2 := served_ov (t := t) (g := g) hr (by omega) hn g0 g1 ⟨m1, m2⟩
    obtain ⟨v0, _, _, _⟩ := pR_isP (hr p hm).2 (hr p hm).1
    refine ⟨_, _, by unfold Mu.lag; rw [if_pos hv], by unfold Mu.lag; rw [if_pos hv2], ?_⟩
    have := move_own (a := sumD t l) (D := pD t p) (v := p.2.2) hW (by omega) (w_le_sum hr hm) g0
    unfold Mu.ov
    have e1 : (Mu.served t l g).b = t := rfl
    have e2 : (Mu.served t l g).a = sumD t l + g := rfl
    have e3 : (Mu.served t l g).w = sumW l := rfl
    rw [e1, e2, e3, m3, m4]
    exact this
  · have hv := sums_ov (t := t) hr hn (by omega) (hr p hp)
    have hv2 := served_ov (t := t) (g := g) hr (by omega) hn g0 g1 (hr p hp)
    obtain ⟨v0, _, _, _⟩ := pR_isP (hr p hp).2 (hr p hp).1
    refine ⟨_, _, by unfold Mu.lag; rw [if_pos hv], by unfold Mu.lag; rw [if_pos hv2], ?_⟩
    exact move_other (a := sumD t l) (D := pD t p) (v := p.2.2) hW (by omega) (w_le_sum hr hp) g0

/-- All lags, times all weights, together. -/
def sumO (m : Mu) (l : List P3) : Int := (l.map m.ov).sum
def sumL (m : Mu) (l : List P3) : Int := (l.map fun p => m.ov p / m.w).sum
theorem sumO_app (m : Mu) (l k : List P3) : sumO m (l ++ k) = sumO m l + sumO m k := by simp [sumO]
theorem sumL_app (m : Mu) (l k : List P3) : sumL m (l ++ k) = sumL m l + sumL m k := by simp [sumL]
theorem sumO_eq (m : Mu) : ∀ l : List P3, sumO m l = m.a * sumW l - sumD m.b l * m.w
  | [] => by simp [sumO, sumW, sumD]
  | p :: l => by
    have := sumO_eq m l
    have e : sumO m (p :: l) = m.ov p + sumO m l := by simp [sumO]
    rw [e, this, sumW_cons, sumD_cons]
    unfold Mu.ov
    rw [Int.mul_add, Int.add_mul]
    omega
theorem sumO_zero (t : Int) (l : List P3) : sumO (Mu.sums t l) l = 0 := by
  rw [sumO_eq]
  show sumD t l * sumW l - sumD t l * sumW l = 0
  omega
theorem some_up {m : Mu} : ∀ {l : List P3}, 0 < l.length → 0 ≤ sumO m l → ∃ p ∈ l, 0 ≤ m.ov p
  | [p], _, h => ⟨p, by simp, by simpa [sumO] using h⟩
  | p :: q :: l, _, h => by
    by_cases c : 0 ≤ m.ov p
    · exact ⟨p, by simp, c⟩
    · have e : sumO m (p :: q :: l) = m.ov p + sumO m (q :: l) := by simp [sumO]
      obtain ⟨r, hr, h2⟩ := some_up (m := m) (l := q :: l) (by simp) (by omega)
      exact ⟨r, by simp at hr ⊢; exact Or.inr hr, h2⟩
theorem some_down {m : Mu} : ∀ {l : List P3}, 0 < l.length → sumO m l ≤ 0 → ∃ p ∈ l, m.ov p ≤ 0
  | [p], _, h => ⟨p, by simp, by simpa [sumO] using h⟩
  | p :: q :: l, _, h => by
    by_cases c : m.ov p ≤ 0
    · exact ⟨p, by simp, c⟩
    · have e : sumO m (p :: q :: l) = m.ov p + sumO m (q :: l) := by simp [sumO]
      obtain ⟨r, hr, h2⟩ := some_down (m := m) (l := q :: l) (by simp) (by omega)
      exact ⟨r, by simp at hr ⊢; exact Or.inr hr, h2⟩
theorem sumL_bd {m : Mu} (hW : 0 < m.w) : ∀ l : List P3, m.w * sumL m l ≤ sumO m l ∧ sumO m l ≤ m.w * sumL m l + l.length * (m.w - 1)
  | [] => by simp [sumL, sumO]
  | p :: l => by
    have ih := sumL_bd hW l
    have e1 : sumO m (p :: l) = m.ov p + sumO m l := by simp [sumO]
    have e2 : sumL m (p :: l) = m.ov p / m.w + sumL m l := by simp [sumL]
    have h1 := Int.emod_add_mul_ediv (m.ov p) m.w
    have h2 := Int.emod_nonneg (m.ov p) (show m.w ≠ 0 by omega)
    have h3 := Int.emod_lt_of_pos (m.ov p) hW
    rw [e1, e2, Int.mul_add, List.length_cons]
    push_cast
    rw [Int.add_mul]
    omega
theorem sumL_zero {m : Mu} {l : List P3} (hW : 0 < m.w) (h : sumO m l = 0) (h0 : 0 < l.length) : sumL m l ≤ 0 ∧ -(l.length : Int) < sumL m l := by
  obtain ⟨a, b⟩ := sumL_bd hW l
  rw [h] at a b
  refine ⟨?_, ?_⟩
  · have : m.w * sumL m l < m.w * 1 := by omega
    have := Int.lt_of_mul_lt_mul_left this (by omega)
    omega
  · have e : (l.length : Int) * (m.w - 1) = m.w * l.length - l.length := by grind
    have : m.w * (-(l.length : Int)) < m.w * sumL m l := by rw [Int.mul_neg]; omega
    exact Int.lt_of_mul_lt_mul_left this (by omega)
/-- How many have a lag that isn't below 0, or isn't above. -/
def upN (m : Mu) (l : List P3) : Nat := l.countP fun p => decide (0 ≤ m.ov p)
def dnN (m : Mu) (l : List P3) : Nat := l.countP fun p => decide (m.ov p ≤ 0)
theorem upN_pos {m : Mu} {l : List P3} (h0 : 0 < l.length) (h : sumO m l = 0) : 0 < upN m l := by
  obtain ⟨p, hp, h1⟩ := some_up (m := m) h0 (by omega)
  exact List.countP_pos_iff.2 ⟨p, hp, by simpa using h1⟩
theorem dnN_pos {m : Mu} {l : List P3} (h0 : 0 < l.length) (h : sumO m l = 0) : 0 < dnN m l := by
  obtain ⟨p, hp, h1⟩ := some_down (m := m) h0 (by omega)
  exact List.countP_pos_iff.2 ⟨p, hp, by simpa using h1⟩

theorem sums_in {base : Int} {l : List P3} (hb : IsT base) (hr : ∀ p ∈ l, pR p = true ∧ PIn p) (hn : l.length ≤ 32) : (Mu.sums base l).In := by
  have h1 := sums_wr base hr (by omega)
  have h2 := sumW_bd (l := l) (fun p hp => pR_isP (hr p hp).2 (hr p hp).1)
  refine ⟨hb, h1, ⟨?_, ?_⟩, ?_, ?_⟩
  · show 0 ≤ sumW l; omega
  · show sumW l ≤ _; omega
  · show _ ≤ ((l.length : Nat) : Int); omega
  · show ((l.length : Nat) : Int) ≤ _; omega
theorem of_in {base : Int} {l : List P3} (hb : IsT base) (hl : ∀ q ∈ l, PIn q) : (Mu.of base l).2.In := by
  rw [of_eq base l hl]
  split
  · rename_i h
    exact sums_in hb (fun p hp => ⟨h.2 p hp, hl p hp⟩) h.1
  · exact Mu.no_in
theorem fold_step_no : ∀ (l : List P3) {s : Bool × Mu}, s.1 = false → l.foldl ofStep s = s
  | [], _, _ => rfl
  | p :: l, s, h => by
    rw [List.foldl_cons]
    have : ofStep s p = s := by unfold ofStep; rw [h, if_neg (by decide)]
    rw [this]
    exact fold_step_no l h
/-- Where one of them fails all fail. -/
theorem of_fails {base : Int} {l : List P3} {k : Nat} (hk : k < l.length) (h1 : (Mu.of base (l.take k)).1 = true) (h2 : ((Mu.of base (l.take k)).2.add (l.getD k (0, 0, 0))).1 = false) : Mu.of base l = (false, Mu.no) := by
  have e : l = l.take (k + 1) ++ l.drop (k + 1) := (List.take_append_drop _ _).symm
  have h3 : Mu.of base (l.take (k + 1)) = (false, Mu.no) := by
    rw [of_take base hk]
    unfold ofStep
    rw [if_pos h1]
    unfold Mu.add at *
    by_cases c : (Mu.of base (l.take k)).2.addOk (l.getD k (0, 0, 0)) = true
    · rw [if_pos c] at h2; cases h2
    · rw [if_neg c]
  unfold Mu.of at *
  rw [e, List.foldl_append, h3]
  exact fold_step_no _ rfl
theorem of_goes {base : Int} {l : List P3} {k : Nat} (hk : k < l.length) (h1 : (Mu.of base (l.take k)).1 = true) (h2 : ((Mu.of base (l.take k)).2.add (l.getD k (0, 0, 0))).1 = true) : (Mu.of base (l.take (k + 1))).1 = true ∧ (Mu.of base (l.take (k + 1))).2 = ((Mu.of base (l.take k)).2.add (l.getD k (0, 0, 0))).2 := by
  rw [of_take base hk]
  unfold ofStep
  rw [if_pos h1]
  exact ⟨h2, rfl⟩
end

end Go.Proofs.YtoioeginfhkjjaaGreatDoor

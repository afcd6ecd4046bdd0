/- Texts of MeanShifts's proof, together. -/
import Derived.Test.YtoioeginfhkjjaaGreatDoorMeanShiftsZ0
import Derived.Test.YtoioeginfhkjjaaGreatDoorMeanShiftsZ11
import Derived.Test.YtoioeginfhkjjaaGreatDoorMeanShiftsZ7
import Derived.Test.YtoioeginfhkjjaaGreatDoorVspread
import Derived.Test.YtoioeginfhkjjaaGreatDoorCs
import Derived.Test.YtoioeginfhkjjaaGreatDoorRdu
import Derived.Deep.LoopGhost
import Derived.OpenShut
namespace Go.Proofs.YtoioeginfhkjjaaGreatDoor
/- The contracts of wide, vtime and pos, as functions of numbers. -/
section
open Go.RowKit

theorem Wide.addF {a b : Int} (ha : WR a) (hb : WR b) (w : World) : Calls Tryz.prog 85 #[wv a, wv b] w (Ans (.tuple #[wv (clW (a + b)), .bool (okW (a + b))]) w) :=
  (Wide.add _ _ _ _ a b (isW_of ha) (isW_of hb) w).mono (by rintro e w' ⟨h, l, ok, rfl, hr, hb⟩; obtain ⟨rfl, rfl, rfl⟩ := wres_F hr; exact ⟨rfl, hb⟩)
theorem Wide.subF {a b : Int} (ha : WR a) (hb : WR b) (w : World) : Calls Tryz.prog 51 #[wv a, wv b] w (Ans (.tuple #[wv (clW (a - b)), .bool (okW (a - b))]) w) :=
  (Wide.sub _ _ _ _ a b (isW_of ha) (isW_of hb) w).mono (by rintro e w' ⟨h, l, ok, rfl, hr, hb⟩; obtain ⟨rfl, rfl, rfl⟩ := wres_F hr; exact ⟨rfl, hb⟩)
theorem Wide.mulF {a b : Int} (ha : WR a) (b0 : -9223372036854775808 ≤ b) (b1 : b ≤ 9223372036854775807) (w : World) : Calls Tryz.prog 66 #[wv a, .int .i64 b] w (Ans (.tuple #[wv (clW (a * b)), .bool (okW (a * b))]) w) :=
  (Wide.mul _ _ b a (isW_of ha) b0 b1 w).mono (by rintro e w' ⟨h, l, ok, rfl, hr, hb⟩; obtain ⟨rfl, rfl, rfl⟩ := wres_F hr; exact ⟨rfl, hb⟩)
theorem Wide.ofF {x : Int} (h0 : -9223372036854775808 ≤ x) (h1 : x ≤ 9223372036854775807) (w : World) : Calls Tryz.prog 57 #[.int .i64 x] w (Ans (wv x) w) :=
  (Wide.ofN x h0 h1 w).mono (by rintro e w' ⟨h, l, rfl, hr, hb⟩; obtain ⟨rfl, rfl⟩ := hr.words; exact ⟨rfl, hb⟩)
theorem Wide.divF {a b : Int} (ha : WR a) (b0 : 0 < b) (b1 : b ≤ 18446744073709551615) (w : World) : Calls Tryz.prog 67 #[wv a, .int .u64 b] w (Ans (.tuple #[wv (a / b), .int .u64 (a % b), .bool true]) w) :=
  (Wide.div _ _ a b (isW_of ha) b0 b1 w).mono (by
    rintro e w' ⟨h, l, q, r, rfl, ⟨hw, he, r0, r1⟩, hb⟩
    obtain ⟨rfl, rfl⟩ := div_uniq he r0 r1
    obtain ⟨rfl, rfl⟩ := hw.words
    exact ⟨rfl, hb⟩)
theorem Wide.smallF {a : Int} (ha : WR a) (w : World) : Calls Tryz.prog 52 #[wv a] w (Ans (.tuple #[.int .i64 (if smI a = true then a else 0), .bool (smI a)]) w) := by
  cases h : smI a with
  | true =>
    have h2 := h
    unfold smI at h2
    rw [decide_eq_true_eq] at h2
    rw [if_pos rfl]
    exact Wide.small _ _ a (isW_of ha) h2.1 h2.2 w
  | false =>
    have h2 := h
    unfold smI at h2
    rw [decide_eq_false_iff_not] at h2
    rw [if_neg (by decide)]
    exact Wide.small_no _ _ a (isW_of ha) (by omega) w
theorem Wide.signF {a : Int} (ha : WR a) (w : World) : Calls Tryz.prog 70 #[wv a] w (Ans (.int .i64 (cmpI a 0)) w) :=
  (Wide.sign _ _ a (isW_of ha) w).mono (by rintro e w' ⟨c, rfl, hc, hb⟩; exact ⟨by rw [hc.eq], hb⟩)

theorem Pos.distanceF (base : Int) {p : P3} (hp : PIn p) (w : World) : Calls Tryz.prog 62 #[pv p, .int .u64 base] w (Ans (wv (pD base p)) w) :=
  (Pos.distance p.1 p.2.1 p.2.2 base hp.2.1.1 hp.2.1.2 hp.2.2.1 hp.2.2.2 w).mono (by rintro e w' ⟨h, l, rfl, hr, hb⟩; obtain ⟨rfl, rfl⟩ := hr.words; exact ⟨rfl, hb⟩)
theorem Pos.rightF (p : P3) (w : World) : Calls Tryz.prog 25 #[pv p] w (Ans (.bool (pR p)) w) := Pos.right p.1 p.2.1 p.2.2 w
theorem Pos.shiftF (p : P3) (d : Int) (w : World) : Calls Tryz.prog 31 #[pv p, .int .u64 d] w (Ans (pv (shP d p)) w) := Pos.shift p.1 p.2.1 p.2.2 d w
theorem Pos.cmpF {p q : P3} (hp : PIn p) (hq : PIn q) (w : World) : Calls Tryz.prog 26 #[pv p, pv q] w (Ans (.int .i64 (cmpP p q)) w) :=
  Pos.cmp p.1 p.2.1 p.2.2 q.1 q.2.1 q.2.2 hp.2.1.1 hp.2.1.2 hp.2.2.1 hp.2.2.2 hq.2.1.1 hq.2.1.2 hq.2.2.1 hq.2.2.2 w
theorem Pos.atF (base : Int) {d v : Int} (hd : WR d) (v0 : 0 ≤ v) (v1 : v ≤ 4294967295) (w : World) : Calls Tryz.prog 86 #[.int .u64 base, wv d, .int .u32 v] w (Ans (.tuple #[pv (atP base d v), .bool (atOk d v)]) w) := by
  unfold atP
  cases h : atOk d v with
  | true => rw [if_pos rfl]; exact Pos.at_yes base _ _ d v (isW_of hd) (atOk_iff.1 h) w
  | false => rw [if_neg (by decide)]; exact Pos.at_no base _ _ d v (isW_of hd) v0 v1 (fun h2 => by rw [atOk_iff.2 h2] at h; cases h) w
theorem Pos.moveF {p : P3} (hp : PIn p) {g : Int} (g0 : 0 ≤ g) (g1 : g ≤ 18446744073709551615) (w : World) :
    Calls Tryz.prog 49 #[pv p, .int .u64 g] w (Ans (.tuple #[pv (atP p.1 (g + p.2.1) p.2.2), .bool (atOk (g + p.2.1) p.2.2)]) w) := by
  unfold atP
  cases h : atOk (g + p.2.1) p.2.2 with
  | true => rw [if_pos rfl]; exact Pos.move_yes p.1 p.2.1 p.2.2 g hp.2.1.1 hp.2.1.2 g0 g1 (atOk_iff.1 h) w
  | false => rw [if_neg (by decide)]; exact Pos.move_no p.1 p.2.1 p.2.2 g hp.2.1.1 hp.2.1.2 hp.2.2.1 hp.2.2.2 g0 g1 (fun h2 => by rw [atOk_iff.2 h2] at h; cases h) w
end

/- Many variables through a walk. -/
section
open Go.RowKit

/-- Many variables. -/
def Vs (w0 : World) (L : List (Nat × List Value)) (w : World) : Prop := (∀ x ∈ L, Cs w x.1 x.2) ∧ Below w0.heap.size w0 w
theorem Vs.below {w0 w w' : World} {L : List (Nat × List Value)} (h : Vs w0 L w) (hb : Below w.heap.size w w') : Vs w0 L w' := ⟨fun x hx => (h.1 x hx).below hb, below_on h.2 hb⟩
theorem Vs.alloc {w0 w : World} {L : List (Nat × List Value)} (h : Vs w0 L w) (o : Obj) : Vs w0 L (w.alloc o) := h.below ((Below.refl _ _).alloc (Nat.le_refl _) o)
theorem Vs.drew {w0 w : World} {L : List (Nat × List Value)} (h : Vs w0 L w) : Vs w0 L w.drew := ⟨fun x hx => (h.1 x hx).drew, h.2.drew⟩
theorem Vs.nil {w0 w : World} (h : Below w0.heap.size w0 w) : Vs w0 [] w := ⟨fun x hx => absurd hx (by simp), h⟩
theorem Vs.more {w0 w : World} {L : List (Nat × List Value)} (h : Vs w0 L w) {g : Nat} {vs : List Value} (hc : Cs w g vs) : Vs w0 ((g, vs) :: L) w :=
  ⟨fun x hx => by
    rcases List.mem_cons.1 hx with rfl | hx
    · exact hc
    · exact h.1 x hx, h.2⟩
theorem Vs.at {w0 w : World} {L : List (Nat × List Value)} (h : Vs w0 L w) (k : Nat) {g : Nat} {vs : List Value} (hk : L[k]? = some (g, vs)) : Cs w g vs := h.1 _ (List.mem_of_getElem? hk)
end

/- The contracts of the package item. -/
section
open Go.RowKit

/-- An item, in whole numbers. -/
structure It where
  t : Int
  r : Int
  v : Int
  i : Int
  u : Int
  s : Int
  y : Int
def It.cells (a : It) : List Value := [.int .u64 a.t, .int .u32 a.r, .int .u32 a.v, .int .i64 a.i, .int .u64 a.u, .int .u32 a.s, .int .u32 a.y]
abbrev It.val (a : It) : Value := .agg #[.int .u64 a.t, .int .u32 a.r, .int .u32 a.v, .int .i64 a.i, .int .u64 a.u, .int .u32 a.s, .int .u32 a.y]
def It.In (a : It) : Prop := (0 ≤ a.t ∧ a.t ≤ 18446744073709551615) ∧ (0 ≤ a.r ∧ a.r ≤ 4294967295) ∧ (0 ≤ a.v ∧ a.v ≤ 4294967295) ∧ (-9223372036854775808 ≤ a.i ∧ a.i ≤ 9223372036854775807) ∧ (0 ≤ a.u ∧ a.u ≤ 18446744073709551615) ∧ (0 ≤ a.s ∧ a.s ≤ 4294967295) ∧ (0 ≤ a.y ∧ a.y ≤ 4294967295)
def It.ahead (a b : It) : Bool := if posC a.t a.r a.v b.t b.r b.v = 0 then decide (a.i < b.i) else decide (posC a.t a.r a.v b.t b.r b.v < 0)
def It.due (a b : It) : Bool := if posC a.u a.s a.y b.u b.s b.y = 0 then It.ahead a b else decide (posC a.u a.s a.y b.u b.s b.y < 0)
theorem Cs.new7 (w : World) (t : TypeId) (a : It) : Cs (w.alloc (.cells #[.int .u64 a.t, .int .u32 a.r, .int .u32 a.v, .int .i64 a.i, .int .u64 a.u, .int .u32 a.s, .int .u32 a.y] t)) w.heap.size a.cells := fun i v hv => by
  refine ⟨?_, by simp [go_sem]⟩
  rw [World.cell?_alloc_new]
  simpa [It.cells] using hv
theorem It.at (a : It) {w : World} {g : Nat} (h : Cs w g a.cells) : w.cell? ⟨g, 0, none⟩ = some (.int .u64 a.t) ∧ w.cell? ⟨g, 1, none⟩ = some (.int .u32 a.r) ∧ w.cell? ⟨g, 2, none⟩ = some (.int .u32 a.v) ∧ w.cell? ⟨g, 3, none⟩ = some (.int .i64 a.i) ∧ w.cell? ⟨g, 4, none⟩ = some (.int .u64 a.u) ∧ w.cell? ⟨g, 5, none⟩ = some (.int .u32 a.s) ∧ w.cell? ⟨g, 6, none⟩ = some (.int .u32 a.y) :=
  ⟨(h 0 _ rfl).1, (h 1 _ rfl).1, (h 2 _ rfl).1, (h 3 _ rfl).1, (h 4 _ rfl).1, (h 5 _ rfl).1, (h 6 _ rfl).1⟩

set_option maxRecDepth 100000 in
set_option maxHeartbeats 1000000 in
theorem Item.ahead (a b : It) (ha : a.In) (hb : b.In) (w : World) :
    Calls Tryz.prog 128 #[a.val, b.val] w (Ans (.bool (It.ahead a b)) w) := by
  have HA := hid ha
  have HB := hid hb
  have HT0 : Hid (∀ w' : World, Below ((w.alloc (.cells #[.int .u64 a.t, .int .u32 a.r, .int .u32 a.v, .int .i64 a.i, .int .u64 a.u, .int .u32 a.s, .int .u32 a.y] 140)).alloc (.cells #[.int .u64 b.t, .int .u32 b.r, .int .u32 b.v, .int .i64 b.i, .int .u64 b.u, .int .u32 b.s, .int .u32 b.y] 140)).heap.size ((w.alloc (.cells #[.int .u64 a.t, .int .u32 a.r, .int .u32 a.v, .int .i64 a.i, .int .u64 a.u, .int .u32 a.s, .int .u32 a.y] 140)).alloc (.cells #[.int .u64 b.t, .int .u32 b.r, .int .u32 b.v, .int .i64 b.i, .int .u64 b.u, .int .u32 b.s, .int .u32 b.y] 140)) w' →
      Cs w' w.heap.size a.cells ∧ Cs w' (w.heap.size + 1) b.cells ∧ Below w.heap.size w w') :=
    hid (fun w' hb => ⟨((Cs.new7 _ _ _).alloc _).below hb, by have := Cs.new7 (w.alloc (.cells #[.int .u64 a.t, .int .u32 a.r, .int .u32 a.v, .int .i64 a.i, .int .u64 a.u, .int .u32 a.s, .int .u32 a.y] 140)) 140 b; simp only [World.size_alloc] at this; exact this.below hb, below_on (((Below.refl _ _).alloc (Nat.le_refl _) _).alloc (by simp) _) hb⟩)
  clear ha hb
  unfold It.val
  cases hc : decide (posC a.t a.r a.v b.t b.r b.v = 0) with
  | true =>
    have hq : posC a.t a.r a.v b.t b.r b.v = 0 := of_decide_eq_true hc
    have c1 : (posC a.t a.r a.v b.t b.r b.v != 0) = false := by rw [hq]; rfl
    have HE : Hid (It.ahead a b = decide (a.i < b.i)) := hid (by unfold It.ahead; rw [if_pos hq])
    have C1 := hid c1
    clear hc hq c1
    go_enter Tryz.func128, Tryz.ntmps128
    go_wp2_with fail
    refine (Pos.cmp a.t a.r a.v b.t b.r b.v HA.out.2.1.1 HA.out.2.1.2 HA.out.2.2.1.1 HA.out.2.2.1.2 HB.out.2.1.1 HB.out.2.1.2 HB.out.2.2.1.1 HB.out.2.2.1.2 _).mono ?_
    rintro e w1 ⟨rfl, hb1⟩
    have HT1 := hid (HT0.out _ hb1)
    have q1 := (It.at a HT1.out.1).2.2.2.1
    have q2 := (It.at b HT1.out.2.1).2.2.2.1
    have c1 := C1.out
    clear hb1
    go_wp2_with fail
    go_ret
    exact ⟨by rw [HE.out]; rfl, HT1.out.2.2⟩
  | false =>
    have hq : ¬ posC a.t a.r a.v b.t b.r b.v = 0 := of_decide_eq_false hc
    have c1 : (posC a.t a.r a.v b.t b.r b.v != 0) = true := by rw [bne_iff_ne]; exact hq
    have HE : Hid (It.ahead a b = decide (posC a.t a.r a.v b.t b.r b.v < 0)) := hid (by unfold It.ahead; rw [if_neg hq])
    have C1 := hid c1
    clear hc hq c1
    go_enter Tryz.func128, Tryz.ntmps128
    go_wp2_with fail
    refine (Pos.cmp a.t a.r a.v b.t b.r b.v HA.out.2.1.1 HA.out.2.1.2 HA.out.2.2.1.1 HA.out.2.2.1.2 HB.out.2.1.1 HB.out.2.1.2 HB.out.2.2.1.1 HB.out.2.2.1.2 _).mono ?_
    rintro e w1 ⟨rfl, hb1⟩
    have HT1 := hid (HT0.out _ hb1)
    have c1 := C1.out
    clear hb1
    go_wp2_with fail
    go_ret
    exact ⟨by rw [HE.out]; rfl, HT1.out.2.2⟩
end

/- The contracts of the package item, continued. -/
section
open Go.RowKit

set_option maxRecDepth 100000 in
set_option maxHeartbeats 1000000 in
theorem Item.due (a b : It) (ha : a.In) (hb : b.In) (w : World) :
    Calls Tryz.prog 142 #[a.val, b.val] w (Ans (.bool (It.due a b)) w) := by
  have HA := hid ha
  have HB := hid hb
  have HT0 : Hid (∀ w' : World, Below ((w.alloc (.cells #[.int .u64 a.t, .int .u32 a.r, .int .u32 a.v, .int .i64 a.i, .int .u64 a.u, .int .u32 a.s, .int .u32 a.y] 140)).alloc (.cells #[.int .u64 b.t, .int .u32 b.r, .int .u32 b.v, .int .i64 b.i, .int .u64 b.u, .int .u32 b.s, .int .u32 b.y] 140)).heap.size ((w.alloc (.cells #[.int .u64 a.t, .int .u32 a.r, .int .u32 a.v, .int .i64 a.i, .int .u64 a.u, .int .u32 a.s, .int .u32 a.y] 140)).alloc (.cells #[.int .u64 b.t, .int .u32 b.r, .int .u32 b.v, .int .i64 b.i, .int .u64 b.u, .int .u32 b.s, .int .u32 b.y] 140)) w' → Cs w' w.heap.size a.cells ∧ Cs w' (w.heap.size + 1) b.cells ∧ Below w.heap.size w w') :=
    hid (fun w' hb => ⟨((Cs.new7 _ _ _).alloc _).below hb, by have := Cs.new7 (w.alloc (.cells #[.int .u64 a.t, .int .u32 a.r, .int .u32 a.v, .int .i64 a.i, .int .u64 a.u, .int .u32 a.s, .int .u32 a.y] 140)) 140 b; simp only [World.size_alloc] at this; exact this.below hb, below_on (((Below.refl _ _).alloc (Nat.le_refl _) _).alloc (by simp) _) hb⟩)
  clear ha hb
  unfold It.val
  cases hc : decide (posC a.u a.s a.y b.u b.s b.y = 0) with
  | true =>
    have hq : posC a.u a.s a.y b.u b.s b.y = 0 := of_decide_eq_true hc
    have c1 : (posC a.u a.s a.y b.u b.s b.y != 0) = false := by rw [hq]; rfl
    have HE : Hid (It.due a b = It.ahead a b) := hid (by unfold It.due; rw [if_pos hq])
    have C1 := hid c1
    clear hc hq c1
    go_enter Tryz.func142, Tryz.ntmps142
    go_wp2_with fail
    refine (Pos.cmp a.u a.s a.y b.u b.s b.y HA.out.2.2.2.2.2.1.1 HA.out.2.2.2.2.2.1.2 HA.out.2.2.2.2.2.2.1 HA.out.2.2.2.2.2.2.2 HB.out.2.2.2.2.2.1.1 HB.out.2.2.2.2.2.1.2 HB.out.2.2.2.2.2.2.1 HB.out.2.2.2.2.2.2.2 _).mono ?_
    rintro e w1 ⟨rfl, hb1⟩
    have HT1 := hid (HT0.out _ hb1)
    obtain ⟨p0, p1, p2, p3, p4, p5, p6⟩ := It.at a HT1.out.1
    obtain ⟨q0, q1, q2, q3, q4, q5, q6⟩ := It.at b HT1.out.2.1
    have c1 := C1.out
    clear hb1
    go_wp2_with fail
    refine (Item.ahead a b HA.out HB.out _).mono ?_
    rintro e w2 ⟨rfl, hb2⟩
    have HB2 := hid (below_on HT1.out.2.2 hb2)
    clear hb2
    go_wp2_with fail
    go_ret
    exact ⟨by rw [HE.out]; rfl, HB2.out⟩
  | false =>
    have hq : ¬ posC a.u a.s a.y b.u b.s b.y = 0 := of_decide_eq_false hc
    have c1 : (posC a.u a.s a.y b.u b.s b.y != 0) = true := by rw [bne_iff_ne]; exact hq
    have HE : Hid (It.due a b = decide (posC a.u a.s a.y b.u b.s b.y < 0)) := hid (by unfold It.due; rw [if_neg hq])
    have C1 := hid c1
    clear hc hq c1
    go_enter Tryz.func142, Tryz.ntmps142
    go_wp2_with fail
    refine (Pos.cmp a.u a.s a.y b.u b.s b.y HA.out.2.2.2.2.2.1.1 HA.out.2.2.2.2.2.1.2 HA.out.2.2.2.2.2.2.1 HA.out.2.2.2.2.2.2.2 HB.out.2.2.2.2.2.1.1 HB.out.2.2.2.2.2.1.2 HB.out.2.2.2.2.2.2.1 HB.out.2.2.2.2.2.2.2 _).mono ?_
    rintro e w1 ⟨rfl, hb1⟩
    have HT1 := hid (HT0.out _ hb1)
    have c1 := C1.out
    clear hb1
    go_wp2_with fail
    go_ret
    exact ⟨by rw [HE.out]; rfl, HT1.out.2.2⟩

/-- May a position be? -/
def posOk (r v : Int) : Bool := decide (1 ≤ v ∧ v ≤ 1048576) && decide (r < v)
def It.right (a : It) : Bool := posOk a.r a.v && posOk a.s a.y && decide (a.v = a.y) && decide (0 < a.i) && decide (0 ≤ dif a.u a.t) && decide (dif a.u a.t ≤ 1152921504606846976)
theorem Pos.rightOk (t r v : Int) (w : World) : Calls Tryz.prog 25 #[.agg #[.int .u64 t, .int .u32 r, .int .u32 v]] w (Ans (.bool (posOk r v)) w) := Pos.right t r v w
end

/- The contracts of the package muldiv. -/
section
open Go.RowKit

/-- What a step is: its quotient and what is left, true; or nothing, false. -/
def StepR (a num den rem q r : Int) (ok : Bool) : Prop :=
  (ok = true ∧ rem < den ∧ q * den + r = a * num + rem ∧ 0 ≤ r ∧ r < den ∧ 0 ≤ q ∧ q ≤ 18446744073709551615) ∨
  (ok = false ∧ q = 0 ∧ r = 0 ∧ (den ≤ rem ∨ 18446744073709551616 * den ≤ a * num + rem))
def StepAns (a num den rem : Int) (w : World) (e : Ending) (w' : World) : Prop :=
  ∃ (q r : Int) (ok : Bool), e = .returned (.tuple #[.int .u64 q, .int .u64 r, .bool ok]) ∧ StepR a num den rem q r ok ∧ Below w.heap.size w w'

theorem step_no {a num den rem h l : Int} (e : h * 18446744073709551616 + l = a * num) (p : den ≤ h + (l + rem) / 18446744073709551616) : StepR a num den rem 0 0 false := by
  refine .inr ⟨rfl, rfl, rfl, .inr ?_⟩
  omega
theorem step_yes {a num den rem h l q r : Int} (e : h * 18446744073709551616 + l = a * num) (hr : rem < den) (d : q * den + r = (h + (l + rem) / 18446744073709551616) * 18446744073709551616 + (l + rem) % 18446744073709551616)
    (r0 : 0 ≤ r) (r1 : r < den) (q0 : 0 ≤ q) (q1 : q ≤ 18446744073709551615) : StepR a num den rem q r true :=
  .inl ⟨rfl, hr, by omega, r0, r1, q0, q1⟩
/-- The upper word of a product has room for a carry. -/
theorem mul_room {a num h l : Int} (a1 : a ≤ 18446744073709551615) (n0 : 0 ≤ num) (n1 : num ≤ 18446744073709551615) (e : h * 18446744073709551616 + l = a * num) (l0 : 0 ≤ l) : h ≤ 18446744073709551614 := by
  have : a * num ≤ 18446744073709551615 * 18446744073709551615 := Int.mul_le_mul a1 n1 n0 (by decide)
  omega

set_option maxHeartbeats 1000000 in
theorem Muldiv.step (a num den rem : Int) (a0 : 0 ≤ a) (a1 : a ≤ 18446744073709551615) (n0 : 0 ≤ num) (n1 : num ≤ 18446744073709551615) (d0 : 0 ≤ den) (d1 : den ≤ 18446744073709551615) (r0 : 0 ≤ rem) (r1 : rem ≤ 18446744073709551615) (w : World) :
    Calls Tryz.prog 185 #[.int .u64 a, .int .u64 num, .int .u64 den, .int .u64 rem] w (StepAns a num den rem w) := by
  by_cases c1 : den ≤ rem
  · go_enter Tryz.func185, Tryz.ntmps185
    go_wp2
    go_ret3
    exact ⟨_, _, _, rfl, .inr ⟨rfl, rfl, rfl, .inl c1⟩, Below.refl _ _⟩
  · go_enter Tryz.func185, Tryz.ntmps185
    go_wp2_with fail
    refine (Bits.mul64 a num a0 (by omega) n0 (by omega) _).mono ?_
    rintro e w' ⟨⟨h, l, rfl, e1, h0, h1, l0, l1⟩, rfl⟩
    have hm := mul_room a1 n0 n1 e1 l0
    have E1 := hid e1
    clear e1
    have k0 : 0 ≤ (l + rem) / 18446744073709551616 := by omega
    have k1 : (l + rem) / 18446744073709551616 ≤ 1 := by omega
    by_cases c2 : den ≤ h + (l + rem) / 18446744073709551616
    · go_wp2_with (simp only [Bits.add64_0 _ _ l0 r0])
      go_ret3
      exact ⟨_, _, _, rfl, step_no E1.out c2, Below.refl _ _⟩
    · go_wp2_with (simp only [Bits.add64_0 _ _ l0 r0])
      refine (Div.div64 _ _ den (by omega) (by omega) (by omega) (by omega) d1 _).mono ?_
      rintro e w2 ⟨q, r, rfl, ⟨e2, f0, f1, q0, q1⟩, hb⟩
      have SR := hid (step_yes E1.out (by omega) e2 f0 f1 q0 q1)
      clear e2
      go_wp2
      go_ret3
      exact ⟨_, _, _, rfl, SR.out, hb⟩

/-- Where a loop of steps stands. -/
def Part (S num den rem q r : Int) : Prop := q * den + r = S * num + rem ∧ 0 ≤ r ∧ r < den ∧ 0 ≤ q ∧ q ≤ 18446744073709551615
/-- A step on: it is told; or it can't be, and neither can all. -/
theorem Part.step {S num den rem q r a p s : Int} (h : Part S num den rem q r) (d1 : den ≤ 18446744073709551615) (hs : StepR a num den r p s true) :
    ((q + p) / 18446744073709551616 = 0 → Part (S + a) num den rem ((q + p) % 18446744073709551616) s) ∧ (0 < (q + p) / 18446744073709551616 → 18446744073709551616 * den ≤ (S + a) * num + rem) := by
  obtain ⟨h1, h2, h3, h4, h5⟩ := h
  rcases hs with ⟨_, g1, g2, g3, g4, g5, g6⟩ | ⟨g, _⟩
  · have e : (q + p) * den + s = (S + a) * num + rem := by rw [Int.add_mul, Int.add_mul]; omega
    refine ⟨fun c => ⟨?_, g3, g4, by omega, by omega⟩, fun c => ?_⟩
    · rw [show (q + p) % 18446744073709551616 = q + p by omega]; exact e
    · have : 18446744073709551616 * den ≤ (q + p) * den := Int.mul_le_mul_of_nonneg_right (by omega) (by omega)
      omega
  · cases g
theorem Part.stop {S num den rem q r a p s : Int} (h : Part S num den rem q r) (hs : StepR a num den r p s false) : 18446744073709551616 * den ≤ (S + a) * num + rem := by
  obtain ⟨h1, h2, h3, h4, h5⟩ := h
  rcases hs with ⟨g, _⟩ | ⟨_, _, _, g | g⟩
  · cases g
  · omega
  · have : 0 ≤ q * den := Int.mul_nonneg h4 (by omega)
    rw [Int.add_mul]; omega
theorem great_all {S T num den rem : Int} (h : 18446744073709551616 * den ≤ S * num + rem) (hle : S ≤ T) (n0 : 0 ≤ num) : StepR T num den rem 0 0 false := by
  refine .inr ⟨rfl, rfl, rfl, .inr ?_⟩
  have := Int.mul_le_mul_of_nonneg_right hle n0
  omega

set_option maxHeartbeats 2000000 in
theorem Muldiv.steps (num den rem : Int) (A : Option Addr) (n c : Nat) (zs : List Int) (n0 : 0 ≤ num) (n1 : num ≤ 18446744073709551615) (d0 : 0 ≤ den) (d1 : den ≤ 18446744073709551615) (r0 : 0 ≤ rem)
    (w : World) (hz : RdU .u64 w A n zs) (hi : InU zs) (hn : n ≤ 1152921504606846976) :
    Calls Tryz.prog 186 #[.int .u64 num, .int .u64 den, .int .u64 rem, .slice A n c] w (StepAns zs.sum num den rem w) := by
  have HI := hid hi
  clear hi
  by_cases c1 : den ≤ rem
  · go_enter Tryz.func186, Tryz.ntmps186
    go_wp2
    go_ret3
    exact ⟨_, _, _, rfl, .inr ⟨rfl, rfl, rfl, .inl c1⟩, Below.refl _ _⟩
  · have HZ := hid hz
    obtain ⟨hl, hz⟩ := hz
    have HL := hid hl
    clear hl hz
    go_enter Tryz.func186, Tryz.ntmps186
    go_wp2_with fail
    go_loopg [8, 2, 20] n (fun g a b i wr => ∃ (k : Nat) (q r : Int), k ≤ n ∧ g = n - k ∧ i = .int .i64 k ∧ a = .int .u64 q ∧ b = .int .u64 r ∧ Part (zs.take k).sum num den rem q r ∧ Below w.heap.size w wr)
    case atStart => exact ⟨0, 0, rem, Nat.zero_le _, by omega, rfl, rfl, rfl, ⟨by simp, r0, by omega, by decide, by decide⟩, Below.refl _ _⟩
    case round =>
      obtain ⟨k, q, r, hk, hg, rfl, rfl, rfl, hp, hb⟩ := hrel
      have HP := hid hp
      have HB := hid hb
      have HG := hid hg
      obtain ⟨_, p2, p3, p4, p5⟩ := hp
      clear hb hg
      by_cases hlt : k < n
      · obtain ⟨b, off, rfl, hbl, hc⟩ := (HZ.out.below HB.out).2 k hlt
        have hcell := hc k hlt
        obtain ⟨z0, z1⟩ := HI.out.get (k := k) (by have := HL.out; omega)
        have HS := hid (sum_take zs (k := k) (by have := HL.out; omega))
        generalize zs.getD k 0 = z at *
        clear hc
        go_wp2_with fail
        refine (Muldiv.step z num den r z0 z1 n0 n1 d0 d1 p2 (by omega) _).mono ?_
        rintro e w2 ⟨p, s, ok, rfl, hsr, hb2⟩
        have HB2 := hid (HB.out.trans (hb2.mono HB.out.size))
        clear hb2
        rcases ok with _ | _
        · have NO := hid (great_all (HP.out.stop hsr) (by rw [← HS.out]; exact sum_take_le zs HI.out (k + 1)) n0)
          clear hsr
          go_wp2_with fail
          go_ret3
          exact ⟨_, _, _, rfl, NO.out, HB2.out⟩
        · have P2 := hid (HP.out.step d1 hsr)
          have q0 : 0 ≤ p := by rcases hsr with ⟨_, _, _, _, _, g5, _⟩ | ⟨g, _⟩; exact g5; cases g
          clear hsr
          by_cases c2 : (q + p) / 18446744073709551616 = 0
          · have c3 : ((q + p) / 18446744073709551616 != 0) = false := by simpa using c2
            clear c2
            go_wp2_with (simp only [Bits.add64_0 _ _ p4 q0])
            go_roundg (n - (k + 1))
            case measure => have := HG.out; omega
            case rel => exact ⟨k + 1, _, _, by omega, rfl, by go_num, rfl, rfl, by rw [HS.out]; exact P2.out.1 (by simpa using c3), HB2.out⟩
          · have c3 : ((q + p) / 18446744073709551616 != 0) = true := by simpa using c2
            have NO := hid (great_all (P2.out.2 (by omega)) (by rw [← HS.out]; exact sum_take_le zs HI.out (k + 1)) n0)
            clear c2
            go_wp2_with (simp only [Bits.add64_0 _ _ p4 q0])
            go_ret3
            exact ⟨_, _, _, rfl, NO.out, HB2.out⟩
      · go_wp2_with fail
        go_ret3
        have e : zs.take k = zs := List.take_of_length_le (by have := HL.out; omega)
        have HP2 := HP.out
        rw [e] at HP2
        obtain ⟨g1, g2, g3, g4, g5⟩ := HP2
        exact ⟨_, _, _, rfl, .inl ⟨rfl, by omega, g1, g2, g3, g4, g5⟩, HB.out⟩

theorem StepR.inj {a num den rem q r p s : Int} {b c : Bool} (h : StepR a num den rem q r b) (g : StepR a num den rem p s c) : q = p ∧ r = s ∧ b = c := by
  rcases h with ⟨rfl, h1, h2, h3, h4, h5, h6⟩ | ⟨rfl, rfl, rfl, h1⟩ <;> rcases g with ⟨rfl, g1, g2, g3, g4, g5, g6⟩ | ⟨rfl, rfl, rfl, g1⟩
  · have e : q = p := by
      rcases Int.lt_trichotomy q p with hh | hh | hh
      · have : (q + 1) * den ≤ p * den := Int.mul_le_mul_of_nonneg_right (by omega) (by omega)
        rw [Int.add_mul, Int.one_mul] at this; omega
      · exact hh
      · have : (p + 1) * den ≤ q * den := Int.mul_le_mul_of_nonneg_right (by omega) (by omega)
        rw [Int.add_mul, Int.one_mul] at this; omega
    subst e
    exact ⟨rfl, by omega, rfl⟩
  · have : q * den ≤ 18446744073709551615 * den := Int.mul_le_mul_of_nonneg_right h6 (by omega)
    omega
  · have : p * den ≤ 18446744073709551615 * den := Int.mul_le_mul_of_nonneg_right g6 (by omega)
    omega
  · exact ⟨rfl, rfl, rfl⟩

set_option maxHeartbeats 1000000 in
theorem Law2.awake (w : World) : Calls Tryz.prog 178 #[] w fun e w' => e = .returned (.bool true) ∧ Below w.heap.size w w' := by
  go_enter Tryz.func178, Tryz.ntmps178
  go_wp2_with fail
  refine (Muldiv.step 3 5 4 1 (by decide) (by decide) (by decide) (by decide) (by decide) (by decide) (by decide) (by decide) _).mono ?_
  rintro e w1 ⟨q, r, ok, rfl, hs, hb⟩
  obtain ⟨rfl, rfl, rfl⟩ : q = 4 ∧ r = 0 ∧ ok = true := by
    rcases hs with ⟨rfl, h1, h2, h3, h4, h5, h6⟩ | ⟨_, _, _, h1⟩
    · exact ⟨by omega, by omega, rfl⟩
    · omega
  clear hs
  go_wp2_with fail
  refine (Muldiv.steps 1 3 0 _ _ _ _ (by decide) (by decide) (by decide) (by decide) (by decide) _ (RdU.new3 _ _ _ _ _ _) (by intro z hz; simp at hz; omega) (by decide)).mono ?_
  rintro e w2 ⟨q, r, ok, rfl, hs, hb2⟩
  obtain ⟨rfl, rfl, rfl⟩ : q = 1 ∧ r = 0 ∧ ok = true := by
    simp only [List.sum_cons, List.sum_nil] at hs
    rcases hs with ⟨rfl, h1, h2, h3, h4, h5, h6⟩ | ⟨_, _, _, h1⟩
    · exact ⟨by omega, by omega, rfl⟩
    · omega
  clear hs
  have B2 := hid (hb.trans (((Below.refl _ _).alloc (Nat.le_refl _) _).trans (hb2.mono (by simp)) |>.mono hb.size))
  clear hb hb2
  go_wp2_with fail
  refine (Law1.Awake _).mono ?_
  rintro e w3 ⟨rfl, hb3⟩
  have B3 := hid (B2.out.trans (hb3.mono B2.out.size))
  clear hb3 B2
  go_wp2
  go_ret
  exact ⟨rfl, B3.out⟩
end

end Go.Proofs.YtoioeginfhkjjaaGreatDoor

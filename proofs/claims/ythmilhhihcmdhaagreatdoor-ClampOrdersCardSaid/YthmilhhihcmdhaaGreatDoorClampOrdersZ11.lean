/- Texts of ClampOrders's proof, together. -/
import Derived.Test.YthmilhhihcmdhaaGreatDoorClampOrdersZ0
import Derived.Test.YthmilhhihcmdhaaGreatDoorClampOrdersZ10
import Derived.Test.YthmilhhihcmdhaaGreatDoorClampOrdersZ7
import Derived.Test.YthmilhhihcmdhaaGreatDoorClampOrdersZ8
import Derived.Test.YthmilhhihcmdhaaGreatDoorCs
namespace Go.Proofs.YthmilhhihcmdhaaGreatDoor
/- The contracts of wide, vtime and pos, as functions of numbers. -/
section
open Go.RowKit
theorem Wide.addF {a b : Int} (ha : WR a) (hb : WR b) (w : World) : Calls Tryz.prog 91 #[wv a, wv b] w (Ans (.tuple #[wv (clW (a + b)), .bool (okW (a + b))]) w) :=
  (Wide.add _ _ _ _ a b (isW_of ha) (isW_of hb) w).mono (by rintro e w' ⟨h, l, ok, rfl, hr, hb⟩; obtain ⟨rfl, rfl, rfl⟩ := wres_F hr; exact ⟨rfl, hb⟩)
theorem Wide.subF {a b : Int} (ha : WR a) (hb : WR b) (w : World) : Calls Tryz.prog 47 #[wv a, wv b] w (Ans (.tuple #[wv (clW (a - b)), .bool (okW (a - b))]) w) :=
  (Wide.sub _ _ _ _ a b (isW_of ha) (isW_of hb) w).mono (by rintro e w' ⟨h, l, ok, rfl, hr, hb⟩; obtain ⟨rfl, rfl, rfl⟩ := wres_F hr; exact ⟨rfl, hb⟩)
theorem Wide.mulF {a b : Int} (ha : WR a) (b0 : -9223372036854775808 ≤ b) (b1 : b ≤ 9223372036854775807) (w : World) : Calls Tryz.prog 90 #[wv a, .int .i64 b] w (Ans (.tuple #[wv (clW (a * b)), .bool (okW (a * b))]) w) :=
  (Wide.mul _ _ b a (isW_of ha) b0 b1 w).mono (by rintro e w' ⟨h, l, ok, rfl, hr, hb⟩; obtain ⟨rfl, rfl, rfl⟩ := wres_F hr; exact ⟨rfl, hb⟩)
theorem Wide.ofF {x : Int} (h0 : -9223372036854775808 ≤ x) (h1 : x ≤ 9223372036854775807) (w : World) : Calls Tryz.prog 59 #[.int .i64 x] w (Ans (wv x) w) :=
  (Wide.ofN x h0 h1 w).mono (by rintro e w' ⟨h, l, rfl, hr, hb⟩; obtain ⟨rfl, rfl⟩ := hr.words; exact ⟨rfl, hb⟩)
theorem Wide.divF {a b : Int} (ha : WR a) (b0 : 0 < b) (b1 : b ≤ 18446744073709551615) (w : World) : Calls Tryz.prog 70 #[wv a, .int .u64 b] w (Ans (.tuple #[wv (a / b), .int .u64 (a % b), .bool true]) w) :=
  (Wide.div _ _ a b (isW_of ha) b0 b1 w).mono (by
    rintro e w' ⟨h, l, q, r, rfl, ⟨hw, he, r0, r1⟩, hb⟩
    obtain ⟨rfl, rfl⟩ := div_uniq he r0 r1
    obtain ⟨rfl, rfl⟩ := hw.words
    exact ⟨rfl, hb⟩)
theorem Wide.smallF {a : Int} (ha : WR a) (w : World) : Calls Tryz.prog 48 #[wv a] w (Ans (.tuple #[.int .i64 (if smI a = true then a else 0), .bool (smI a)]) w) := by
  cases h : smI a with
  | true =>
    have h2 := h
    unfold smI at h2
    rw [decide_eq_true_eq] at h2
    rw [if_pos rfl]
    exact Wide.small _ _ a (isW_of ha) h2.1 h2.2 w
  | false =>
    have h2 := h
    unfold smI at h2
    rw [decide_eq_false_iff_not] at h2
    rw [if_neg (by decide)]
    exact Wide.small_no _ _ a (isW_of ha) (by omega) w
theorem Wide.signF {a : Int} (ha : WR a) (w : World) : Calls Tryz.prog 61 #[wv a] w (Ans (.int .i64 (cmpI a 0)) w) :=
  (Wide.sign _ _ a (isW_of ha) w).mono (by rintro e w' ⟨c, rfl, hc, hb⟩; exact ⟨by rw [hc.eq], hb⟩)
theorem Pos.distanceF (base : Int) {p : P3} (hp : PIn p) (w : World) : Calls Tryz.prog 67 #[pv p, .int .u64 base] w (Ans (wv (pD base p)) w) :=
  (Pos.distance p.1 p.2.1 p.2.2 base hp.2.1.1 hp.2.1.2 hp.2.2.1 hp.2.2.2 w).mono (by rintro e w' ⟨h, l, rfl, hr, hb⟩; obtain ⟨rfl, rfl⟩ := hr.words; exact ⟨rfl, hb⟩)
theorem Pos.rightF (p : P3) (w : World) : Calls Tryz.prog 34 #[pv p] w (Ans (.bool (pR p)) w) := Pos.right p.1 p.2.1 p.2.2 w
theorem Pos.cmpF {p q : P3} (hp : PIn p) (hq : PIn q) (w : World) : Calls Tryz.prog 150 #[pv p, pv q] w (Ans (.int .i64 (cmpP p q)) w) :=
  Pos.cmp p.1 p.2.1 p.2.2 q.1 q.2.1 q.2.2 hp.2.1.1 hp.2.1.2 hp.2.2.1 hp.2.2.2 hq.2.1.1 hq.2.1.2 hq.2.2.1 hq.2.2.2 w
theorem Pos.atF (base : Int) {d v : Int} (hd : WR d) (v0 : 0 ≤ v) (v1 : v ≤ 4294967295) (w : World) : Calls Tryz.prog 86 #[.int .u64 base, wv d, .int .u32 v] w (Ans (.tuple #[pv (atP base d v), .bool (atOk d v)]) w) := by
  unfold atP
  cases h : atOk d v with
  | true => rw [if_pos rfl]; exact Pos.at_yes base _ _ d v (isW_of hd) (atOk_iff.1 h) w
  | false => rw [if_neg (by decide)]; exact Pos.at_no base _ _ d v (isW_of hd) v0 v1 (fun h2 => by rw [atOk_iff.2 h2] at h; cases h) w
end

/- Many variables through a walk. -/
section
open Go.RowKit
/-- Many variables. -/
def Vs (w0 : World) (L : List (Nat × List Value)) (w : World) : Prop := (∀ x ∈ L, Cs w x.1 x.2) ∧ Below w0.heap.size w0 w
theorem Vs.below {w0 w w' : World} {L : List (Nat × List Value)} (h : Vs w0 L w) (hb : Below w.heap.size w w') : Vs w0 L w' := ⟨fun x hx => (h.1 x hx).below hb, below_on h.2 hb⟩
theorem Vs.alloc {w0 w : World} {L : List (Nat × List Value)} (h : Vs w0 L w) (o : Obj) : Vs w0 L (w.alloc o) := h.below ((Below.refl _ _).alloc (Nat.le_refl _) o)
theorem Vs.drew {w0 w : World} {L : List (Nat × List Value)} (h : Vs w0 L w) : Vs w0 L w.drew := ⟨fun x hx => (h.1 x hx).drew, h.2.drew⟩
theorem Vs.nil {w0 w : World} (h : Below w0.heap.size w0 w) : Vs w0 [] w := ⟨fun x hx => absurd hx (by simp), h⟩
theorem Vs.more {w0 w : World} {L : List (Nat × List Value)} (h : Vs w0 L w) {g : Nat} {vs : List Value} (hc : Cs w g vs) : Vs w0 ((g, vs) :: L) w :=
  ⟨fun x hx => by
    rcases List.mem_cons.1 hx with rfl | hx
    · exact hc
    · exact h.1 x hx, h.2⟩
theorem Vs.at {w0 w : World} {L : List (Nat × List Value)} (h : Vs w0 L w) (k : Nat) {g : Nat} {vs : List Value} (hk : L[k]? = some (g, vs)) : Cs w g vs := h.1 _ (List.mem_of_getElem? hk)
end

/- The contracts of the package item. -/
section
open Go.RowKit
/-- An item, in whole numbers. -/
structure It where
  t : Int
  r : Int
  v : Int
  i : Int
  u : Int
  s : Int
  y : Int
def It.cells (a : It) : List Value := [.int .u64 a.t, .int .u32 a.r, .int .u32 a.v, .int .i64 a.i, .int .u64 a.u, .int .u32 a.s, .int .u32 a.y]
abbrev It.val (a : It) : Value := .agg #[.int .u64 a.t, .int .u32 a.r, .int .u32 a.v, .int .i64 a.i, .int .u64 a.u, .int .u32 a.s, .int .u32 a.y]
def It.In (a : It) : Prop := (0 ≤ a.t ∧ a.t ≤ 18446744073709551615) ∧ (0 ≤ a.r ∧ a.r ≤ 4294967295) ∧ (0 ≤ a.v ∧ a.v ≤ 4294967295) ∧ (-9223372036854775808 ≤ a.i ∧ a.i ≤ 9223372036854775807) ∧ (0 ≤ a.u ∧ a.u ≤ 18446744073709551615) ∧ (0 ≤ a.s ∧ a.s ≤ 4294967295) ∧ (0 ≤ a.y ∧ a.y ≤ 4294967295)
def It.ahead (a b : It) : Bool := if posC a.t a.r a.v b.t b.r b.v = 0 then decide (a.i < b.i) else decide (posC a.t a.r a.v b.t b.r b.v < 0)
def It.due (a b : It) : Bool := if posC a.u a.s a.y b.u b.s b.y = 0 then It.ahead a b else decide (posC a.u a.s a.y b.u b.s b.y < 0)
theorem Cs.new7 (w : World) (t : TypeId) (a : It) : Cs (w.alloc (.cells #[.int .u64 a.t, .int .u32 a.r, .int .u32 a.v, .int .i64 a.i, .int .u64 a.u, .int .u32 a.s, .int .u32 a.y] t)) w.heap.size a.cells := fun i v hv => by
  refine ⟨?_, by simp [go_sem]⟩
  rw [World.cell?_alloc_new]
  simpa [It.cells] using hv
theorem It.at (a : It) {w : World} {g : Nat} (h : Cs w g a.cells) : w.cell? ⟨g, 0, none⟩ = some (.int .u64 a.t) ∧ w.cell? ⟨g, 1, none⟩ = some (.int .u32 a.r) ∧ w.cell? ⟨g, 2, none⟩ = some (.int .u32 a.v) ∧ w.cell? ⟨g, 3, none⟩ = some (.int .i64 a.i) ∧ w.cell? ⟨g, 4, none⟩ = some (.int .u64 a.u) ∧ w.cell? ⟨g, 5, none⟩ = some (.int .u32 a.s) ∧ w.cell? ⟨g, 6, none⟩ = some (.int .u32 a.y) :=
  ⟨(h 0 _ rfl).1, (h 1 _ rfl).1, (h 2 _ rfl).1, (h 3 _ rfl).1, (h 4 _ rfl).1, (h 5 _ rfl).1, (h 6 _ rfl).1⟩
set_option maxRecDepth 100000 in
set_option maxHeartbeats 1000000 in
theorem Item.ahead (a b : It) (ha : a.In) (hb : b.In) (w : World) :
    Calls Tryz.prog 134 #[a.val, b.val] w (Ans (.bool (It.ahead a b)) w) := by
  have HA := hid ha
  have HB := hid hb
  have HT0 : Hid (∀ w' : World, Below ((w.alloc (.cells #[.int .u64 a.t, .int .u32 a.r, .int .u32 a.v, .int .i64 a.i, .int .u64 a.u, .int .u32 a.s, .int .u32 a.y] 143)).alloc (.cells #[.int .u64 b.t, .int .u32 b.r, .int .u32 b.v, .int .i64 b.i, .int .u64 b.u, .int .u32 b.s, .int .u32 b.y] 143)).heap.size ((w.alloc (.cells #[.int .u64 a.t, .int .u32 a.r, .int .u32 a.v, .int .i64 a.i, .int .u64 a.u, .int .u32 a.s, .int .u32 a.y] 143)).alloc (.cells #[.int .u64 b.t, .int .u32 b.r, .int .u32 b.v, .int .i64 b.i, .int .u64 b.u, .int .u32 b.s, .int .u32 b.y] 143)) w' →
      Cs w' w.heap.size a.cells ∧ Cs w' (w.heap.size + 1) b.cells ∧ Below w.heap.size w w') :=
    hid (fun w' hb => ⟨((Cs.new7 _ _ _).alloc _).below hb, by have := Cs.new7 (w.alloc (.cells #[.int .u64 a.t, .int .u32 a.r, .int .u32 a.v, .int .i64 a.i, .int .u64 a.u, .int .u32 a.s, .int .u32 a.y] 143)) 143 b; simp only [World.size_alloc] at this; exact this.below hb, below_on (((Below.refl _ _).alloc (Nat.le_refl _) _).alloc (by simp) _) hb⟩)
  clear ha hb
  unfold It.val
  cases hc : decide (posC a.t a.r a.v b.t b.r b.v = 0) with
  | true =>
    have hq : posC a.t a.r a.v b.t b.r b.v = 0 := of_decide_eq_true hc
    have c1 : (posC a.t a.r a.v b.t b.r b.v != 0) = false := by rw [hq]; rfl
    have HE : Hid (It.ahead a b = decide (a.i < b.i)) := hid (by unfold It.ahead; rw [if_pos hq])
    have C1 := hid c1
    clear hc hq c1
    go_enter Tryz.func134, Tryz.ntmps134
    go_wp2_with fail
    refine (Pos.cmp a.t a.r a.v b.t b.r b.v HA.out.2.1.1 HA.out.2.1.2 HA.out.2.2.1.1 HA.out.2.2.1.2 HB.out.2.1.1 HB.out.2.1.2 HB.out.2.2.1.1 HB.out.2.2.1.2 _).mono ?_
    rintro e w1 ⟨rfl, hb1⟩
    have HT1 := hid (HT0.out _ hb1)
    have q1 := (It.at a HT1.out.1).2.2.2.1
    have q2 := (It.at b HT1.out.2.1).2.2.2.1
    have c1 := C1.out
    clear hb1
    go_wp2_with fail
    go_ret
    exact ⟨by rw [HE.out]; rfl, HT1.out.2.2⟩
  | false =>
    have hq : ¬ posC a.t a.r a.v b.t b.r b.v = 0 := of_decide_eq_false hc
    have c1 : (posC a.t a.r a.v b.t b.r b.v != 0) = true := by rw [bne_iff_ne]; exact hq
    have HE : Hid (It.ahead a b = decide (posC a.t a.r a.v b.t b.r b.v < 0)) := hid (by unfold It.ahead; rw [if_neg hq])
    have C1 := hid c1
    clear hc hq c1
    go_enter Tryz.func134, Tryz.ntmps134
    go_wp2_with fail
    refine (Pos.cmp a.t a.r a.v b.t b.r b.v HA.out.2.1.1 HA.out.2.1.2 HA.out.2.2.1.1 HA.out.2.2.1.2 HB.out.2.1.1 HB.out.2.1.2 HB.out.2.2.1.1 HB.out.2.2.1.2 _).mono ?_
    rintro e w1 ⟨rfl, hb1⟩
    have HT1 := hid (HT0.out _ hb1)
    have c1 := C1.out
    clear hb1
    go_wp2_with fail
    go_ret
    exact ⟨by rw [HE.out]; rfl, HT1.out.2.2⟩
end

/- The contracts of the package item, continued. -/
section
open Go.RowKit
set_option maxRecDepth 100000 in
set_option maxHeartbeats 1000000 in
theorem Item.due (a b : It) (ha : a.In) (hb : b.In) (w : World) :
    Calls Tryz.prog 148 #[a.val, b.val] w (Ans (.bool (It.due a b)) w) := by
  have HA := hid ha
  have HB := hid hb
  have HT0 : Hid (∀ w' : World, Below ((w.alloc (.cells #[.int .u64 a.t, .int .u32 a.r, .int .u32 a.v, .int .i64 a.i, .int .u64 a.u, .int .u32 a.s, .int .u32 a.y] 143)).alloc (.cells #[.int .u64 b.t, .int .u32 b.r, .int .u32 b.v, .int .i64 b.i, .int .u64 b.u, .int .u32 b.s, .int .u32 b.y] 143)).heap.size ((w.alloc (.cells #[.int .u64 a.t, .int .u32 a.r, .int .u32 a.v, .int .i64 a.i, .int .u64 a.u, .int .u32 a.s, .int .u32 a.y] 143)).alloc (.cells #[.int .u64 b.t, .int .u32 b.r, .int .u32 b.v, .int .i64 b.i, .int .u64 b.u, .int .u32 b.s, .int .u32 b.y] 143)) w' → Cs w' w.heap.size a.cells ∧ Cs w' (w.heap.size + 1) b.cells ∧ Below w.heap.size w w') :=
    hid (fun w' hb => ⟨((Cs.new7 _ _ _).alloc _).below hb, by have := Cs.new7 (w.alloc (.cells #[.int .u64 a.t, .int .u32 a.r, .int .u32 a.v, .int .i64 a.i, .int .u64 a.u, .int .u32 a.s, .int .u32 a.y] 143)) 143 b; simp only [World.size_alloc] at this; exact this.below hb, below_on (((Below.refl _ _).alloc (Nat.le_refl _) _).alloc (by simp) _) hb⟩)
  clear ha hb
  unfold It.val
  cases hc : decide (posC a.u a.s a.y b.u b.s b.y = 0) with
  | true =>
    have hq : posC a.u a.s a.y b.u b.s b.y = 0 := of_decide_eq_true hc
    have c1 : (posC a.u a.s a.y b.u b.s b.y != 0) = false := by rw [hq]; rfl
    have HE : Hid (It.due a b = It.ahead a b) := hid (by unfold It.due; rw [if_pos hq])
    have C1 := hid c1
    clear hc hq c1
    go_enter Tryz.func148, Tryz.ntmps148
    go_wp2_with fail
    refine (Pos.cmp a.u a.s a.y b.u b.s b.y HA.out.2.2.2.2.2.1.1 HA.out.2.2.2.2.2.1.2 HA.out.2.2.2.2.2.2.1 HA.out.2.2.2.2.2.2.2 HB.out.2.2.2.2.2.1.1 HB.out.2.2.2.2.2.1.2 HB.out.2.2.2.2.2.2.1 HB.out.2.2.2.2.2.2.2 _).mono ?_
    rintro e w1 ⟨rfl, hb1⟩
    have HT1 := hid (HT0.out _ hb1)
    obtain ⟨p0, p1, p2, p3, p4, p5, p6⟩ := It.at a HT1.out.1
    obtain ⟨q0, q1, q2, q3, q4, q5, q6⟩ := It.at b HT1.out.2.1
    have c1 := C1.out
    clear hb1
    go_wp2_with fail
    refine (Item.ahead a b HA.out HB.out _).mono ?_
    rintro e w2 ⟨rfl, hb2⟩
    have HB2 := hid (below_on HT1.out.2.2 hb2)
    clear hb2
    go_wp2_with fail
    go_ret
    exact ⟨by rw [HE.out]; rfl, HB2.out⟩
  | false =>
    have hq : ¬ posC a.u a.s a.y b.u b.s b.y = 0 := of_decide_eq_false hc
    have c1 : (posC a.u a.s a.y b.u b.s b.y != 0) = true := by rw [bne_iff_ne]; exact hq
    have HE : Hid (It.due a b = decide (posC a.u a.s a.y b.u b.s b.y < 0)) := hid (by unfold It.due; rw [if_neg hq])
    have C1 := hid c1
    clear hc hq c1
    go_enter Tryz.func148, Tryz.ntmps148
    go_wp2_with fail
    refine (Pos.cmp a.u a.s a.y b.u b.s b.y HA.out.2.2.2.2.2.1.1 HA.out.2.2.2.2.2.1.2 HA.out.2.2.2.2.2.2.1 HA.out.2.2.2.2.2.2.2 HB.out.2.2.2.2.2.1.1 HB.out.2.2.2.2.2.1.2 HB.out.2.2.2.2.2.2.1 HB.out.2.2.2.2.2.2.2 _).mono ?_
    rintro e w1 ⟨rfl, hb1⟩
    have HT1 := hid (HT0.out _ hb1)
    have c1 := C1.out
    clear hb1
    go_wp2_with fail
    go_ret
    exact ⟨by rw [HE.out]; rfl, HT1.out.2.2⟩
/-- May a position be? -/
def posOk (r v : Int) : Bool := decide (1 ≤ v ∧ v ≤ 1048576) && decide (r < v)
def It.right (a : It) : Bool := posOk a.r a.v && posOk a.s a.y && decide (a.v = a.y) && decide (0 < a.i) && decide (0 ≤ dif a.u a.t) && decide (dif a.u a.t ≤ 1152921504606846976)
end

end Go.Proofs.YthmilhhihcmdhaaGreatDoor

/- Texts of SetNone's proof, together. -/
import Derived.Test.YtegohmeapamoaaaGreatDoorSetNoneZ8
import Derived.Test.YtegohmeapamoaaaGreatDoorCs
import Derived.Test.YtegohmeapamoaaaGreatDoorKnuth
import Derived.Test.YtegohmeapamoaaaGreatDoorSetNoneZ5
import Derived.Deep.RegionHeld3
import Derived.Deep.QuietTactic
import Derived.BigQuiet
import Derived.Test.YtegohmeapamoaaaGreatDoorRows
import Derived.WalkKit
import Derived.WalkSpells
import Derived.Shelf.Bits.Mul64
import Derived.Shelf.Small.Bits
import Derived.Deep.LoopGhost
import Derived.Deep.CutBlock
import Derived.Deep.DeepCutAuto
namespace Go.Proofs.YtegohmeapamoaaaGreatDoor
/- The contracts of the package pos, continued: where a distance leads. -/
section
open Go.RowKit
/-- What a call answers, and that nothing that was there is written. -/
def Ans (v : Value) (w : World) (e : Ending) (w' : World) : Prop := e = .returned v ∧ Below w.heap.size w w'
end

/- The contracts of the package pos, continued: shifts, order, the least and the greatest difference. -/
section
open Go.RowKit
set_option maxHeartbeats 1000000 in
theorem Pos.shift (t r v by' : Int) (w : World) :
    Calls Tryz.prog 273 #[.agg #[.int .u64 t, .int .u32 r, .int .u32 v], .int .u64 by'] w (Ans (.agg #[.int .u64 (IntKind.u64.wrap (t + by')), .int .u32 r, .int .u32 v]) w) := by
  go_enter Tryz.func273, Tryz.ntmps273
  go_wp2_with fail
  refine bodyPost_ret (v := .agg #[.int .u64 (IntKind.u64.wrap (t + by')), .int .u32 r, .int .u32 v]) (by simp [results, Tryz.results273, go_sem]) rfl ⟨rfl, ?_⟩
  exact ((Below.refl _ _).alloc (Nat.le_refl _) _).alloc (by simp) _
set_option maxHeartbeats 1000000 in
theorem Cmp.nan64 (x : Int) (w : World) : Calls Tryz.prog 269 #[.int .i64 x] w (Ans (.bool false) w) := by
  go_enter Tryz.func269, Tryz.ntmps269
  go_wp2
  go_ret
  exact ⟨by simp, Below.refl _ _⟩
set_option maxHeartbeats 1000000 in
theorem Cmp.nanU64 (x : Int) (w : World) : Calls Tryz.prog 270 #[.int .u64 x] w (Ans (.bool false) w) := by
  go_enter Tryz.func270, Tryz.ntmps270
  go_wp2
  go_ret
  exact ⟨by simp, Below.refl _ _⟩
set_option maxHeartbeats 1000000 in
theorem Cmp.i64 (x y : Int) (w : World) : Calls Tryz.prog 255 #[.int .i64 x, .int .i64 y] w (Ans (.int .i64 (cmpI x y)) w) := by
  rcases Int.lt_trichotomy x y with h | h | h
  · have E := hid (cmpI_lt h)
    go_enter Tryz.func255, Tryz.ntmps255
    go_wp2_with fail
    refine (Cmp.nan64 x _).mono ?_
    rintro e w1 ⟨rfl, hb1⟩
    go_wp2_with fail
    refine (Cmp.nan64 y _).mono ?_
    rintro e w2 ⟨rfl, hb2⟩
    go_wp2_with fail
    go_ret
    exact ⟨by rw [E.out]; rfl, below_on hb1 hb2⟩
  · subst h
    have E := hid (cmpI_eq x)
    go_enter Tryz.func255, Tryz.ntmps255
    go_wp2_with fail
    refine (Cmp.nan64 x _).mono ?_
    rintro e w1 ⟨rfl, hb1⟩
    go_wp2_with fail
    refine (Cmp.nan64 x _).mono ?_
    rintro e w2 ⟨rfl, hb2⟩
    go_wp2_with fail
    go_ret
    exact ⟨by rw [E.out]; rfl, below_on hb1 hb2⟩
  · have E := hid (cmpI_gt h)
    have h2 : ¬ x < y := by omega
    go_enter Tryz.func255, Tryz.ntmps255
    go_wp2_with fail
    refine (Cmp.nan64 x _).mono ?_
    rintro e w1 ⟨rfl, hb1⟩
    go_wp2_with fail
    refine (Cmp.nan64 y _).mono ?_
    rintro e w2 ⟨rfl, hb2⟩
    go_wp2_with fail
    go_ret
    exact ⟨by rw [E.out]; rfl, below_on hb1 hb2⟩
set_option maxHeartbeats 1000000 in
theorem Cmp.u64 (x y : Int) (w : World) : Calls Tryz.prog 256 #[.int .u64 x, .int .u64 y] w (Ans (.int .i64 (cmpI x y)) w) := by
  rcases Int.lt_trichotomy x y with h | h | h
  · have E := hid (cmpI_lt h)
    go_enter Tryz.func256, Tryz.ntmps256
    go_wp2_with fail
    refine (Cmp.nanU64 x _).mono ?_
    rintro e w1 ⟨rfl, hb1⟩
    go_wp2_with fail
    refine (Cmp.nanU64 y _).mono ?_
    rintro e w2 ⟨rfl, hb2⟩
    go_wp2_with fail
    go_ret
    exact ⟨by rw [E.out]; rfl, below_on hb1 hb2⟩
  · subst h
    have E := hid (cmpI_eq x)
    go_enter Tryz.func256, Tryz.ntmps256
    go_wp2_with fail
    refine (Cmp.nanU64 x _).mono ?_
    rintro e w1 ⟨rfl, hb1⟩
    go_wp2_with fail
    refine (Cmp.nanU64 x _).mono ?_
    rintro e w2 ⟨rfl, hb2⟩
    go_wp2_with fail
    go_ret
    exact ⟨by rw [E.out]; rfl, below_on hb1 hb2⟩
  · have E := hid (cmpI_gt h)
    have h2 : ¬ x < y := by omega
    go_enter Tryz.func256, Tryz.ntmps256
    go_wp2_with fail
    refine (Cmp.nanU64 x _).mono ?_
    rintro e w1 ⟨rfl, hb1⟩
    go_wp2_with fail
    refine (Cmp.nanU64 y _).mono ?_
    rintro e w2 ⟨rfl, hb2⟩
    go_wp2_with fail
    go_ret
    exact ⟨by rw [E.out]; rfl, below_on hb1 hb2⟩
theorem mul32 {a b : Int} (a0 : 0 ≤ a) (a1 : a ≤ 4294967295) (b0 : 0 ≤ b) (b1 : b ≤ 4294967295) : IntKind.u64.wrap (a * b) = a * b := by
  have h0 : 0 ≤ a * b := Int.mul_nonneg a0 b0
  have h1 : a * b ≤ 4294967295 * 4294967295 := Int.mul_le_mul a1 b1 b0 (by decide)
  rw [IntKind.wrap_u64]; omega
theorem up32 {a : Int} (a0 : 0 ≤ a) (a1 : a ≤ 4294967295) : IntKind.u64.wrap a = a := by rw [IntKind.wrap_u64]; omega
set_option maxHeartbeats 2000000 in
theorem Pos.cmp (t r v u s y : Int) (r0 : 0 ≤ r) (r1 : r ≤ 4294967295) (v0 : 0 ≤ v) (v1 : v ≤ 4294967295) (s0 : 0 ≤ s) (s1 : s ≤ 4294967295) (y0 : 0 ≤ y) (y1 : y ≤ 4294967295) (w : World) :
    Calls Tryz.prog 227 #[.agg #[.int .u64 t, .int .u32 r, .int .u32 v], .agg #[.int .u64 u, .int .u32 s, .int .u32 y]] w (Ans (.int .i64 (posC t r v u s y)) w) := by
  have e1 := up32 r0 r1
  have e2 := up32 v0 v1
  have e3 := up32 s0 s1
  have e4 := up32 y0 y1
  have e5 := mul32 r0 r1 y0 y1
  have e6 := mul32 s0 s1 v0 v1
  clear r0 r1 v0 v1 s0 s1 y0 y1
  have E : Hid (posC t r v u s y = if dif u t ≠ 0 then cmpI 0 (dif u t) else cmpI (r * y) (s * v)) := rfl
  by_cases c : dif u t = 0
  · have c1 : (dif u t != 0) = false := by rw [c]; rfl
    rw [if_neg (by omega)] at E
    clear c
    go_enter Tryz.func227, Tryz.ntmps227
    go_wp2_with fail
    refine (Vtime.since u t _).mono ?_
    rintro e w1 ⟨rfl, hb1⟩
    have HB1 := hid ((((Below.refl _ w).alloc (Nat.le_refl _) (.cells #[.int .u64 t, .int .u32 r, .int .u32 v] 86)).alloc (by simp) (.cells #[.int .u64 u, .int .u32 s, .int .u32 y] 86)).trans (hb1.mono (by simp; omega)))
    have hc := keep4 (w := (w.alloc (.cells #[.int .u64 t, .int .u32 r, .int .u32 v] 86)).alloc (.cells #[.int .u64 u, .int .u32 s, .int .u32 y] 86)) (b0 := w.heap.size) (o0 := 1) (v0 := .int .u32 r) (b1 := w.heap.size) (o1 := 2) (v1 := .int .u32 v) (b2 := w.heap.size + 1) (o2 := 1) (v2 := .int .u32 s) (b3 := w.heap.size + 1) (o3 := 2) (v3 := .int .u32 y) ⟨by simp [go_sem], by simp [go_sem], by simp [go_sem], by simp [go_sem]⟩ hb1
    obtain ⟨x1, x2, x3, x4⟩ := hc
    clear hb1
    go_wp2_with fail
    refine (Cmp.u64 (r * y) (s * v) _).mono ?_
    rintro e w2 ⟨rfl, hb2⟩
    go_wp2_with fail
    go_ret
    exact ⟨by rw [E.out]; rfl, below_on HB1.out hb2⟩
  · have c1 : (dif u t != 0) = true := by simpa using c
    rw [if_pos c] at E
    clear c e1 e2 e3 e4 e5 e6
    go_enter Tryz.func227, Tryz.ntmps227
    go_wp2_with fail
    refine (Vtime.since u t _).mono ?_
    rintro e w1 ⟨rfl, hb1⟩
    have HB1 := hid ((((Below.refl _ w).alloc (Nat.le_refl _) (.cells #[.int .u64 t, .int .u32 r, .int .u32 v] 86)).alloc (by simp) (.cells #[.int .u64 u, .int .u32 s, .int .u32 y] 86)).trans (hb1.mono (by simp; omega)))
    clear hb1
    go_wp2_with fail
    refine (Cmp.i64 0 (dif u t) _).mono ?_
    rintro e w2 ⟨rfl, hb2⟩
    go_wp2_with fail
    go_ret
    exact ⟨by rw [E.out]; rfl, below_on HB1.out hb2⟩
end

/- The contracts of the package item. -/
section
open Go.RowKit
/-- An item, in whole numbers. -/
structure It where
  t : Int
  r : Int
  v : Int
  i : Int
  u : Int
  s : Int
  y : Int
def It.cells (a : It) : List Value := [.int .u64 a.t, .int .u32 a.r, .int .u32 a.v, .int .i64 a.i, .int .u64 a.u, .int .u32 a.s, .int .u32 a.y]
abbrev It.val (a : It) : Value := .agg #[.int .u64 a.t, .int .u32 a.r, .int .u32 a.v, .int .i64 a.i, .int .u64 a.u, .int .u32 a.s, .int .u32 a.y]
def It.In (a : It) : Prop := (0 ≤ a.t ∧ a.t ≤ 18446744073709551615) ∧ (0 ≤ a.r ∧ a.r ≤ 4294967295) ∧ (0 ≤ a.v ∧ a.v ≤ 4294967295) ∧ (-9223372036854775808 ≤ a.i ∧ a.i ≤ 9223372036854775807) ∧ (0 ≤ a.u ∧ a.u ≤ 18446744073709551615) ∧ (0 ≤ a.s ∧ a.s ≤ 4294967295) ∧ (0 ≤ a.y ∧ a.y ≤ 4294967295)
def It.ahead (a b : It) : Bool := if posC a.t a.r a.v b.t b.r b.v = 0 then decide (a.i < b.i) else decide (posC a.t a.r a.v b.t b.r b.v < 0)
def It.due (a b : It) : Bool := if posC a.u a.s a.y b.u b.s b.y = 0 then It.ahead a b else decide (posC a.u a.s a.y b.u b.s b.y < 0)
theorem Cs.new7 (w : World) (t : TypeId) (a : It) : Cs (w.alloc (.cells #[.int .u64 a.t, .int .u32 a.r, .int .u32 a.v, .int .i64 a.i, .int .u64 a.u, .int .u32 a.s, .int .u32 a.y] t)) w.heap.size a.cells := fun i v hv => by
  refine ⟨?_, by simp [go_sem]⟩
  rw [World.cell?_alloc_new]
  simpa [It.cells] using hv
theorem It.at (a : It) {w : World} {g : Nat} (h : Cs w g a.cells) : w.cell? ⟨g, 0, none⟩ = some (.int .u64 a.t) ∧ w.cell? ⟨g, 1, none⟩ = some (.int .u32 a.r) ∧ w.cell? ⟨g, 2, none⟩ = some (.int .u32 a.v) ∧ w.cell? ⟨g, 3, none⟩ = some (.int .i64 a.i) ∧ w.cell? ⟨g, 4, none⟩ = some (.int .u64 a.u) ∧ w.cell? ⟨g, 5, none⟩ = some (.int .u32 a.s) ∧ w.cell? ⟨g, 6, none⟩ = some (.int .u32 a.y) :=
  ⟨(h 0 _ rfl).1, (h 1 _ rfl).1, (h 2 _ rfl).1, (h 3 _ rfl).1, (h 4 _ rfl).1, (h 5 _ rfl).1, (h 6 _ rfl).1⟩
set_option maxRecDepth 100000 in
set_option maxHeartbeats 1000000 in
theorem Item.ahead (a b : It) (ha : a.In) (hb : b.In) (w : World) :
    Calls Tryz.prog 192 #[a.val, b.val] w (Ans (.bool (It.ahead a b)) w) := by
  have HA := hid ha
  have HB := hid hb
  have HT0 : Hid (∀ w' : World, Below ((w.alloc (.cells #[.int .u64 a.t, .int .u32 a.r, .int .u32 a.v, .int .i64 a.i, .int .u64 a.u, .int .u32 a.s, .int .u32 a.y] 88)).alloc (.cells #[.int .u64 b.t, .int .u32 b.r, .int .u32 b.v, .int .i64 b.i, .int .u64 b.u, .int .u32 b.s, .int .u32 b.y] 88)).heap.size ((w.alloc (.cells #[.int .u64 a.t, .int .u32 a.r, .int .u32 a.v, .int .i64 a.i, .int .u64 a.u, .int .u32 a.s, .int .u32 a.y] 88)).alloc (.cells #[.int .u64 b.t, .int .u32 b.r, .int .u32 b.v, .int .i64 b.i, .int .u64 b.u, .int .u32 b.s, .int .u32 b.y] 88)) w' →
      Cs w' w.heap.size a.cells ∧ Cs w' (w.heap.size + 1) b.cells ∧ Below w.heap.size w w') :=
    hid (fun w' hb => ⟨((Cs.new7 _ _ _).alloc _).below hb, by have := Cs.new7 (w.alloc (.cells #[.int .u64 a.t, .int .u32 a.r, .int .u32 a.v, .int .i64 a.i, .int .u64 a.u, .int .u32 a.s, .int .u32 a.y] 88)) 88 b; simp only [World.size_alloc] at this; exact this.below hb, below_on (((Below.refl _ _).alloc (Nat.le_refl _) _).alloc (by simp) _) hb⟩)
  clear ha hb
  unfold It.val
  cases hc : decide (posC a.t a.r a.v b.t b.r b.v = 0) with
  | true =>
    have hq : posC a.t a.r a.v b.t b.r b.v = 0 := of_decide_eq_true hc
    have c1 : (posC a.t a.r a.v b.t b.r b.v != 0) = false := by rw [hq]; rfl
    have HE : Hid (It.ahead a b = decide (a.i < b.i)) := hid (by unfold It.ahead; rw [if_pos hq])
    have C1 := hid c1
    clear hc hq c1
    go_enter Tryz.func192, Tryz.ntmps192
    go_wp2_with fail
    refine (Pos.cmp a.t a.r a.v b.t b.r b.v HA.out.2.1.1 HA.out.2.1.2 HA.out.2.2.1.1 HA.out.2.2.1.2 HB.out.2.1.1 HB.out.2.1.2 HB.out.2.2.1.1 HB.out.2.2.1.2 _).mono ?_
    rintro e w1 ⟨rfl, hb1⟩
    have HT1 := hid (HT0.out _ hb1)
    have q1 := (It.at a HT1.out.1).2.2.2.1
    have q2 := (It.at b HT1.out.2.1).2.2.2.1
    have c1 := C1.out
    clear hb1
    go_wp2_with fail
    go_ret
    exact ⟨by rw [HE.out]; rfl, HT1.out.2.2⟩
  | false =>
    have hq : ¬ posC a.t a.r a.v b.t b.r b.v = 0 := of_decide_eq_false hc
    have c1 : (posC a.t a.r a.v b.t b.r b.v != 0) = true := by rw [bne_iff_ne]; exact hq
    have HE : Hid (It.ahead a b = decide (posC a.t a.r a.v b.t b.r b.v < 0)) := hid (by unfold It.ahead; rw [if_neg hq])
    have C1 := hid c1
    clear hc hq c1
    go_enter Tryz.func192, Tryz.ntmps192
    go_wp2_with fail
    refine (Pos.cmp a.t a.r a.v b.t b.r b.v HA.out.2.1.1 HA.out.2.1.2 HA.out.2.2.1.1 HA.out.2.2.1.2 HB.out.2.1.1 HB.out.2.1.2 HB.out.2.2.1.1 HB.out.2.2.1.2 _).mono ?_
    rintro e w1 ⟨rfl, hb1⟩
    have HT1 := hid (HT0.out _ hb1)
    have c1 := C1.out
    clear hb1
    go_wp2_with fail
    go_ret
    exact ⟨by rw [HE.out]; rfl, HT1.out.2.2⟩
end

/- The contracts of the package item, continued. -/
section
open Go.RowKit
set_option maxRecDepth 100000 in
set_option maxHeartbeats 1000000 in
theorem Item.due (a b : It) (ha : a.In) (hb : b.In) (w : World) :
    Calls Tryz.prog 225 #[a.val, b.val] w (Ans (.bool (It.due a b)) w) := by
  have HA := hid ha
  have HB := hid hb
  have HT0 : Hid (∀ w' : World, Below ((w.alloc (.cells #[.int .u64 a.t, .int .u32 a.r, .int .u32 a.v, .int .i64 a.i, .int .u64 a.u, .int .u32 a.s, .int .u32 a.y] 88)).alloc (.cells #[.int .u64 b.t, .int .u32 b.r, .int .u32 b.v, .int .i64 b.i, .int .u64 b.u, .int .u32 b.s, .int .u32 b.y] 88)).heap.size ((w.alloc (.cells #[.int .u64 a.t, .int .u32 a.r, .int .u32 a.v, .int .i64 a.i, .int .u64 a.u, .int .u32 a.s, .int .u32 a.y] 88)).alloc (.cells #[.int .u64 b.t, .int .u32 b.r, .int .u32 b.v, .int .i64 b.i, .int .u64 b.u, .int .u32 b.s, .int .u32 b.y] 88)) w' → Cs w' w.heap.size a.cells ∧ Cs w' (w.heap.size + 1) b.cells ∧ Below w.heap.size w w') :=
    hid (fun w' hb => ⟨((Cs.new7 _ _ _).alloc _).below hb, by have := Cs.new7 (w.alloc (.cells #[.int .u64 a.t, .int .u32 a.r, .int .u32 a.v, .int .i64 a.i, .int .u64 a.u, .int .u32 a.s, .int .u32 a.y] 88)) 88 b; simp only [World.size_alloc] at this; exact this.below hb, below_on (((Below.refl _ _).alloc (Nat.le_refl _) _).alloc (by simp) _) hb⟩)
  clear ha hb
  unfold It.val
  cases hc : decide (posC a.u a.s a.y b.u b.s b.y = 0) with
  | true =>
    have hq : posC a.u a.s a.y b.u b.s b.y = 0 := of_decide_eq_true hc
    have c1 : (posC a.u a.s a.y b.u b.s b.y != 0) = false := by rw [hq]; rfl
    have HE : Hid (It.due a b = It.ahead a b) := hid (by unfold It.due; rw [if_pos hq])
    have C1 := hid c1
    clear hc hq c1
    go_enter Tryz.func225, Tryz.ntmps225
    go_wp2_with fail
    refine (Pos.cmp a.u a.s a.y b.u b.s b.y HA.out.2.2.2.2.2.1.1 HA.out.2.2.2.2.2.1.2 HA.out.2.2.2.2.2.2.1 HA.out.2.2.2.2.2.2.2 HB.out.2.2.2.2.2.1.1 HB.out.2.2.2.2.2.1.2 HB.out.2.2.2.2.2.2.1 HB.out.2.2.2.2.2.2.2 _).mono ?_
    rintro e w1 ⟨rfl, hb1⟩
    have HT1 := hid (HT0.out _ hb1)
    obtain ⟨p0, p1, p2, p3, p4, p5, p6⟩ := It.at a HT1.out.1
    obtain ⟨q0, q1, q2, q3, q4, q5, q6⟩ := It.at b HT1.out.2.1
    have c1 := C1.out
    clear hb1
    go_wp2_with fail
    refine (Item.ahead a b HA.out HB.out _).mono ?_
    rintro e w2 ⟨rfl, hb2⟩
    have HB2 := hid (below_on HT1.out.2.2 hb2)
    clear hb2
    go_wp2_with fail
    go_ret
    exact ⟨by rw [HE.out]; rfl, HB2.out⟩
  | false =>
    have hq : ¬ posC a.u a.s a.y b.u b.s b.y = 0 := of_decide_eq_false hc
    have c1 : (posC a.u a.s a.y b.u b.s b.y != 0) = true := by rw [bne_iff_ne]; exact hq
    have HE : Hid (It.due a b = decide (posC a.u a.s a.y b.u b.s b.y < 0)) := hid (by unfold It.due; rw [if_neg hq])
    have C1 := hid c1
    clear hc hq c1
    go_enter Tryz.func225, Tryz.ntmps225
    go_wp2_with fail
    refine (Pos.cmp a.u a.s a.y b.u b.s b.y HA.out.2.2.2.2.2.1.1 HA.out.2.2.2.2.2.1.2 HA.out.2.2.2.2.2.2.1 HA.out.2.2.2.2.2.2.2 HB.out.2.2.2.2.2.1.1 HB.out.2.2.2.2.2.1.2 HB.out.2.2.2.2.2.2.1 HB.out.2.2.2.2.2.2.2 _).mono ?_
    rintro e w1 ⟨rfl, hb1⟩
    have HT1 := hid (HT0.out _ hb1)
    have c1 := C1.out
    clear hb1
    go_wp2_with fail
    go_ret
    exact ⟨by rw [HE.out]; rfl, HT1.out.2.2⟩
/-- May a position be? -/
def posOk (r v : Int) : Bool := decide (1 ≤ v ∧ v ≤ 1048576) && decide (r < v)
def It.right (a : It) : Bool := posOk a.r a.v && posOk a.s a.y && decide (a.v = a.y) && decide (0 < a.i) && decide (0 ≤ dif a.u a.t) && decide (dif a.u a.t ≤ 1152921504606846976)
theorem Pos.rightOk (t r v : Int) (w : World) : Calls Tryz.prog 173 #[.agg #[.int .u64 t, .int .u32 r, .int .u32 v]] w (Ans (.bool (posOk r v)) w) := Pos.right t r v w
set_option maxRecDepth 100000 in
set_option maxHeartbeats 1000000 in
theorem Item.right_no1 (a : It) (w : World)  (h1 : posOk a.r a.v = false) :
    Calls Tryz.prog 150 #[a.val] w (Ans (.bool false) w) := by
  have HT0 : Hid (∀ w' : World, Below (w.alloc (.cells #[.int .u64 a.t, .int .u32 a.r, .int .u32 a.v, .int .i64 a.i, .int .u64 a.u, .int .u32 a.s, .int .u32 a.y] 88)).heap.size (w.alloc (.cells #[.int .u64 a.t, .int .u32 a.r, .int .u32 a.v, .int .i64 a.i, .int .u64 a.u, .int .u32 a.s, .int .u32 a.y] 88)) w' → Cs w' w.heap.size a.cells ∧ Below w.heap.size w w') :=
    hid (fun w' hb => ⟨(Cs.new7 _ _ _).below hb, below_on ((Below.refl _ _).alloc (Nat.le_refl _) _) hb⟩)
  have H1 := hid h1
  clear h1
  unfold It.val
  go_enter Tryz.func150, Tryz.ntmps150
  go_wp2_with fail
  refine (Vtime.since a.u a.t _).mono ?_
  rintro e w1 ⟨rfl, hb1⟩
  have HT1 := hid (HT0.out _ hb1)
  obtain ⟨p0, p1, p2, p3, p4, p5, p6⟩ := It.at a HT1.out.1
  clear hb1
  go_wp2_with fail
  refine (Pos.rightOk a.t a.r a.v _).mono ?_
  rintro e w2 ⟨rfl, hb2⟩
  rw [H1.out]
  have HT2 := hid (And.intro (HT1.out.1.below hb2) (below_on HT1.out.2 hb2))
  clear hb2 p0 p1 p2 p3 p4 p5 p6
  obtain ⟨p0, p1, p2, p3, p4, p5, p6⟩ := It.at a HT2.out.1
  go_wp2_with fail
  go_ret
  exact ⟨rfl, HT2.out.2⟩
set_option maxRecDepth 100000 in
set_option maxHeartbeats 1000000 in
theorem Item.right_no2 (a : It) (w : World) (h1 : posOk a.r a.v = true) (h2 : posOk a.s a.y = false) :
    Calls Tryz.prog 150 #[a.val] w (Ans (.bool false) w) := by
  have HT0 : Hid (∀ w' : World, Below (w.alloc (.cells #[.int .u64 a.t, .int .u32 a.r, .int .u32 a.v, .int .i64 a.i, .int .u64 a.u, .int .u32 a.s, .int .u32 a.y] 88)).heap.size (w.alloc (.cells #[.int .u64 a.t, .int .u32 a.r, .int .u32 a.v, .int .i64 a.i, .int .u64 a.u, .int .u32 a.s, .int .u32 a.y] 88)) w' → Cs w' w.heap.size a.cells ∧ Below w.heap.size w w') :=
    hid (fun w' hb => ⟨(Cs.new7 _ _ _).below hb, below_on ((Below.refl _ _).alloc (Nat.le_refl _) _) hb⟩)
  have H1 := hid h1
  have H2 := hid h2
  clear h1 h2
  unfold It.val
  go_enter Tryz.func150, Tryz.ntmps150
  go_wp2_with fail
  refine (Vtime.since a.u a.t _).mono ?_
  rintro e w1 ⟨rfl, hb1⟩
  have HT1 := hid (HT0.out _ hb1)
  obtain ⟨p0, p1, p2, p3, p4, p5, p6⟩ := It.at a HT1.out.1
  clear hb1
  go_wp2_with fail
  refine (Pos.rightOk a.t a.r a.v _).mono ?_
  rintro e w2 ⟨rfl, hb2⟩
  rw [H1.out]
  have HT2 := hid (And.intro (HT1.out.1.below hb2) (below_on HT1.out.2 hb2))
  clear hb2 p0 p1 p2 p3 p4 p5 p6
  obtain ⟨p0, p1, p2, p3, p4, p5, p6⟩ := It.at a HT2.out.1
  go_wp2_with fail
  refine (Pos.rightOk a.u a.s a.y _).mono ?_
  rintro e w3 ⟨rfl, hb3⟩
  rw [H2.out]
  have HT3 := hid (And.intro (HT2.out.1.below hb3) (below_on HT2.out.2 hb3))
  clear hb3 p0 p1 p2 p3 p4 p5 p6
  obtain ⟨p0, p1, p2, p3, p4, p5, p6⟩ := It.at a HT3.out.1
  go_wp2_with fail
  go_ret
  exact ⟨rfl, HT3.out.2⟩
set_option maxRecDepth 100000 in
set_option maxHeartbeats 1000000 in
theorem Item.right_no3 (a : It) (w : World) (h1 : posOk a.r a.v = true) (h2 : posOk a.s a.y = true) (h3 : decide (a.v = a.y) = false) :
    Calls Tryz.prog 150 #[a.val] w (Ans (.bool false) w) := by
  have HT0 : Hid (∀ w' : World, Below (w.alloc (.cells #[.int .u64 a.t, .int .u32 a.r, .int .u32 a.v, .int .i64 a.i, .int .u64 a.u, .int .u32 a.s, .int .u32 a.y] 88)).heap.size (w.alloc (.cells #[.int .u64 a.t, .int .u32 a.r, .int .u32 a.v, .int .i64 a.i, .int .u64 a.u, .int .u32 a.s, .int .u32 a.y] 88)) w' → Cs w' w.heap.size a.cells ∧ Below w.heap.size w w') :=
    hid (fun w' hb => ⟨(Cs.new7 _ _ _).below hb, below_on ((Below.refl _ _).alloc (Nat.le_refl _) _) hb⟩)
  have H1 := hid h1
  have H2 := hid h2
  have H3 := hid h3
  clear h1 h2 h3
  unfold It.val
  go_enter Tryz.func150, Tryz.ntmps150
  go_wp2_with fail
  refine (Vtime.since a.u a.t _).mono ?_
  rintro e w1 ⟨rfl, hb1⟩
  have HT1 := hid (HT0.out _ hb1)
  obtain ⟨p0, p1, p2, p3, p4, p5, p6⟩ := It.at a HT1.out.1
  clear hb1
  go_wp2_with fail
  refine (Pos.rightOk a.t a.r a.v _).mono ?_
  rintro e w2 ⟨rfl, hb2⟩
  rw [H1.out]
  have HT2 := hid (And.intro (HT1.out.1.below hb2) (below_on HT1.out.2 hb2))
  clear hb2 p0 p1 p2 p3 p4 p5 p6
  obtain ⟨p0, p1, p2, p3, p4, p5, p6⟩ := It.at a HT2.out.1
  go_wp2_with fail
  refine (Pos.rightOk a.u a.s a.y _).mono ?_
  rintro e w3 ⟨rfl, hb3⟩
  rw [H2.out]
  have HT3 := hid (And.intro (HT2.out.1.below hb3) (below_on HT2.out.2 hb3))
  clear hb3 p0 p1 p2 p3 p4 p5 p6
  obtain ⟨p0, p1, p2, p3, p4, p5, p6⟩ := It.at a HT3.out.1
  have g3 : (a.v == a.y) = false := by have := H3.out; simpa using this
  go_wp2_with fail
  go_ret
  exact ⟨rfl, HT3.out.2⟩
set_option maxRecDepth 100000 in
set_option maxHeartbeats 1000000 in
theorem Item.right_no4 (a : It) (w : World) (h1 : posOk a.r a.v = true) (h2 : posOk a.s a.y = true) (h3 : decide (a.v = a.y) = true) (h4 : decide (0 < a.i) = false) :
    Calls Tryz.prog 150 #[a.val] w (Ans (.bool false) w) := by
  have HT0 : Hid (∀ w' : World, Below (w.alloc (.cells #[.int .u64 a.t, .int .u32 a.r, .int .u32 a.v, .int .i64 a.i, .int .u64 a.u, .int .u32 a.s, .int .u32 a.y] 88)).heap.size (w.alloc (.cells #[.int .u64 a.t, .int .u32 a.r, .int .u32 a.v, .int .i64 a.i, .int .u64 a.u, .int .u32 a.s, .int .u32 a.y] 88)) w' → Cs w' w.heap.size a.cells ∧ Below w.heap.size w w') :=
    hid (fun w' hb => ⟨(Cs.new7 _ _ _).below hb, below_on ((Below.refl _ _).alloc (Nat.le_refl _) _) hb⟩)
  have H1 := hid h1
  have H2 := hid h2
  have H3 := hid h3
  have H4 := hid h4
  clear h1 h2 h3 h4
  unfold It.val
  go_enter Tryz.func150, Tryz.ntmps150
  go_wp2_with fail
  refine (Vtime.since a.u a.t _).mono ?_
  rintro e w1 ⟨rfl, hb1⟩
  have HT1 := hid (HT0.out _ hb1)
  obtain ⟨p0, p1, p2, p3, p4, p5, p6⟩ := It.at a HT1.out.1
  clear hb1
  go_wp2_with fail
  refine (Pos.rightOk a.t a.r a.v _).mono ?_
  rintro e w2 ⟨rfl, hb2⟩
  rw [H1.out]
  have HT2 := hid (And.intro (HT1.out.1.below hb2) (below_on HT1.out.2 hb2))
  clear hb2 p0 p1 p2 p3 p4 p5 p6
  obtain ⟨p0, p1, p2, p3, p4, p5, p6⟩ := It.at a HT2.out.1
  go_wp2_with fail
  refine (Pos.rightOk a.u a.s a.y _).mono ?_
  rintro e w3 ⟨rfl, hb3⟩
  rw [H2.out]
  have HT3 := hid (And.intro (HT2.out.1.below hb3) (below_on HT2.out.2 hb3))
  clear hb3 p0 p1 p2 p3 p4 p5 p6
  obtain ⟨p0, p1, p2, p3, p4, p5, p6⟩ := It.at a HT3.out.1
  have g3 : (a.v == a.y) = true := by have := H3.out; simpa using this
  have g4 := H4.out
  go_wp2_with fail
  go_ret
  exact ⟨rfl, HT3.out.2⟩
set_option maxRecDepth 100000 in
set_option maxHeartbeats 1000000 in
theorem Item.right_no5 (a : It) (w : World) (h1 : posOk a.r a.v = true) (h2 : posOk a.s a.y = true) (h3 : decide (a.v = a.y) = true) (h4 : decide (0 < a.i) = true) (h5 : decide (0 ≤ dif a.u a.t) = false) :
    Calls Tryz.prog 150 #[a.val] w (Ans (.bool false) w) := by
  have HT0 : Hid (∀ w' : World, Below (w.alloc (.cells #[.int .u64 a.t, .int .u32 a.r, .int .u32 a.v, .int .i64 a.i, .int .u64 a.u, .int .u32 a.s, .int .u32 a.y] 88)).heap.size (w.alloc (.cells #[.int .u64 a.t, .int .u32 a.r, .int .u32 a.v, .int .i64 a.i, .int .u64 a.u, .int .u32 a.s, .int .u32 a.y] 88)) w' → Cs w' w.heap.size a.cells ∧ Below w.heap.size w w') :=
    hid (fun w' hb => ⟨(Cs.new7 _ _ _).below hb, below_on ((Below.refl _ _).alloc (Nat.le_refl _) _) hb⟩)
  have H1 := hid h1
  have H2 := hid h2
  have H3 := hid h3
  have H4 := hid h4
  have H5 := hid h5
  clear h1 h2 h3 h4 h5
  unfold It.val
  go_enter Tryz.func150, Tryz.ntmps150
  go_wp2_with fail
  refine (Vtime.since a.u a.t _).mono ?_
  rintro e w1 ⟨rfl, hb1⟩
  have HT1 := hid (HT0.out _ hb1)
  obtain ⟨p0, p1, p2, p3, p4, p5, p6⟩ := It.at a HT1.out.1
  clear hb1
  go_wp2_with fail
  refine (Pos.rightOk a.t a.r a.v _).mono ?_
  rintro e w2 ⟨rfl, hb2⟩
  rw [H1.out]
  have HT2 := hid (And.intro (HT1.out.1.below hb2) (below_on HT1.out.2 hb2))
  clear hb2 p0 p1 p2 p3 p4 p5 p6
  obtain ⟨p0, p1, p2, p3, p4, p5, p6⟩ := It.at a HT2.out.1
  go_wp2_with fail
  refine (Pos.rightOk a.u a.s a.y _).mono ?_
  rintro e w3 ⟨rfl, hb3⟩
  rw [H2.out]
  have HT3 := hid (And.intro (HT2.out.1.below hb3) (below_on HT2.out.2 hb3))
  clear hb3 p0 p1 p2 p3 p4 p5 p6
  obtain ⟨p0, p1, p2, p3, p4, p5, p6⟩ := It.at a HT3.out.1
  have g3 : (a.v == a.y) = true := by have := H3.out; simpa using this
  have g4 := H4.out
  have g5 := H5.out
  go_wp2_with fail
  go_ret
  exact ⟨rfl, HT3.out.2⟩
set_option maxRecDepth 100000 in
set_option maxHeartbeats 1000000 in
theorem Item.right_no6 (a : It) (w : World) (h1 : posOk a.r a.v = true) (h2 : posOk a.s a.y = true) (h3 : decide (a.v = a.y) = true) (h4 : decide (0 < a.i) = true) (h5 : decide (0 ≤ dif a.u a.t) = true) (h6 : decide (dif a.u a.t ≤ 1152921504606846976) = false) :
    Calls Tryz.prog 150 #[a.val] w (Ans (.bool false) w) := by
  have HT0 : Hid (∀ w' : World, Below (w.alloc (.cells #[.int .u64 a.t, .int .u32 a.r, .int .u32 a.v, .int .i64 a.i, .int .u64 a.u, .int .u32 a.s, .int .u32 a.y] 88)).heap.size (w.alloc (.cells #[.int .u64 a.t, .int .u32 a.r, .int .u32 a.v, .int .i64 a.i, .int .u64 a.u, .int .u32 a.s, .int .u32 a.y] 88)) w' → Cs w' w.heap.size a.cells ∧ Below w.heap.size w w') :=
    hid (fun w' hb => ⟨(Cs.new7 _ _ _).below hb, below_on ((Below.refl _ _).alloc (Nat.le_refl _) _) hb⟩)
  have H1 := hid h1
  have H2 := hid h2
  have H3 := hid h3
  have H4 := hid h4
  have H5 := hid h5
  have H6 := hid h6
  clear h1 h2 h3 h4 h5 h6
  unfold It.val
  go_enter Tryz.func150, Tryz.ntmps150
  go_wp2_with fail
  refine (Vtime.since a.u a.t _).mono ?_
  rintro e w1 ⟨rfl, hb1⟩
  have HT1 := hid (HT0.out _ hb1)
  obtain ⟨p0, p1, p2, p3, p4, p5, p6⟩ := It.at a HT1.out.1
  clear hb1
  go_wp2_with fail
  refine (Pos.rightOk a.t a.r a.v _).mono ?_
  rintro e w2 ⟨rfl, hb2⟩
  rw [H1.out]
  have HT2 := hid (And.intro (HT1.out.1.below hb2) (below_on HT1.out.2 hb2))
  clear hb2 p0 p1 p2 p3 p4 p5 p6
  obtain ⟨p0, p1, p2, p3, p4, p5, p6⟩ := It.at a HT2.out.1
  go_wp2_with fail
  refine (Pos.rightOk a.u a.s a.y _).mono ?_
  rintro e w3 ⟨rfl, hb3⟩
  rw [H2.out]
  have HT3 := hid (And.intro (HT2.out.1.below hb3) (below_on HT2.out.2 hb3))
  clear hb3 p0 p1 p2 p3 p4 p5 p6
  obtain ⟨p0, p1, p2, p3, p4, p5, p6⟩ := It.at a HT3.out.1
  have g3 : (a.v == a.y) = true := by have := H3.out; simpa using this
  have g4 := H4.out
  have g5 := H5.out
  have g6 := H6.out
  go_wp2_with fail
  go_ret
  exact ⟨rfl, HT3.out.2⟩
set_option maxRecDepth 100000 in
set_option maxHeartbeats 1000000 in
theorem Item.right_yes (a : It) (w : World) (h1 : posOk a.r a.v = true) (h2 : posOk a.s a.y = true) (h3 : decide (a.v = a.y) = true) (h4 : decide (0 < a.i) = true) (h5 : decide (0 ≤ dif a.u a.t) = true) (h6 : decide (dif a.u a.t ≤ 1152921504606846976) = true) :
    Calls Tryz.prog 150 #[a.val] w (Ans (.bool true) w) := by
  have HT0 : Hid (∀ w' : World, Below (w.alloc (.cells #[.int .u64 a.t, .int .u32 a.r, .int .u32 a.v, .int .i64 a.i, .int .u64 a.u, .int .u32 a.s, .int .u32 a.y] 88)).heap.size (w.alloc (.cells #[.int .u64 a.t, .int .u32 a.r, .int .u32 a.v, .int .i64 a.i, .int .u64 a.u, .int .u32 a.s, .int .u32 a.y] 88)) w' → Cs w' w.heap.size a.cells ∧ Below w.heap.size w w') :=
    hid (fun w' hb => ⟨(Cs.new7 _ _ _).below hb, below_on ((Below.refl _ _).alloc (Nat.le_refl _) _) hb⟩)
  have H1 := hid h1
  have H2 := hid h2
  have H3 := hid h3
  have H4 := hid h4
  have H5 := hid h5
  have H6 := hid h6
  clear h1 h2 h3 h4 h5 h6
  unfold It.val
  go_enter Tryz.func150, Tryz.ntmps150
  go_wp2_with fail
  refine (Vtime.since a.u a.t _).mono ?_
  rintro e w1 ⟨rfl, hb1⟩
  have HT1 := hid (HT0.out _ hb1)
  obtain ⟨p0, p1, p2, p3, p4, p5, p6⟩ := It.at a HT1.out.1
  clear hb1
  go_wp2_with fail
  refine (Pos.rightOk a.t a.r a.v _).mono ?_
  rintro e w2 ⟨rfl, hb2⟩
  rw [H1.out]
  have HT2 := hid (And.intro (HT1.out.1.below hb2) (below_on HT1.out.2 hb2))
  clear hb2 p0 p1 p2 p3 p4 p5 p6
  obtain ⟨p0, p1, p2, p3, p4, p5, p6⟩ := It.at a HT2.out.1
  go_wp2_with fail
  refine (Pos.rightOk a.u a.s a.y _).mono ?_
  rintro e w3 ⟨rfl, hb3⟩
  rw [H2.out]
  have HT3 := hid (And.intro (HT2.out.1.below hb3) (below_on HT2.out.2 hb3))
  clear hb3 p0 p1 p2 p3 p4 p5 p6
  obtain ⟨p0, p1, p2, p3, p4, p5, p6⟩ := It.at a HT3.out.1
  have g3 : (a.v == a.y) = true := by have := H3.out; simpa using this
  have g4 := H4.out
  have g5 := H5.out
  have g6 := H6.out
  go_wp2_with fail
  go_ret
  exact ⟨rfl, HT3.out.2⟩
theorem Item.right (a : It) (w : World) : Calls Tryz.prog 150 #[a.val] w (Ans (.bool (It.right a)) w) := by
  unfold It.right
  cases h1 : posOk a.r a.v with
  | false => simpa using Item.right_no1 a w h1
  | true =>
    cases h2 : posOk a.s a.y with
    | false => simpa using Item.right_no2 a w h1 h2
    | true =>
      cases h3 : decide (a.v = a.y) with
      | false => simpa using Item.right_no3 a w h1 h2 h3
      | true =>
        cases h4 : decide (0 < a.i) with
        | false => simpa using Item.right_no4 a w h1 h2 h3 h4
        | true =>
          cases h5 : decide (0 ≤ dif a.u a.t) with
          | false => simpa using Item.right_no5 a w h1 h2 h3 h4 h5
          | true =>
            cases h6 : decide (dif a.u a.t ≤ 1152921504606846976) with
            | false => simpa using Item.right_no6 a w h1 h2 h3 h4 h5 h6
            | true =>
              simpa using Item.right_yes a w h1 h2 h3 h4 h5 h6
end

end Go.Proofs.YtegohmeapamoaaaGreatDoor

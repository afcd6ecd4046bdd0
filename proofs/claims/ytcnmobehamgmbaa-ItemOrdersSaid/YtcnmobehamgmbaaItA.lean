/- The contracts of the package item. -/
import Derived.Test.YtcnmobehamgmbaaPosD
import Derived.Test.YtcnmobehamgmbaaVs
namespace Go.Proofs.Ytcnmobehamgmbaa
open Go.RowKit

/-- An item, in whole numbers. -/
structure It where
  t : Int
  r : Int
  v : Int
  i : Int
  u : Int
  s : Int
  y : Int
def It.cells (a : It) : List Value := [.int .u64 a.t, .int .u32 a.r, .int .u32 a.v, .int .i64 a.i, .int .u64 a.u, .int .u32 a.s, .int .u32 a.y]
abbrev It.val (a : It) : Value := .agg #[.int .u64 a.t, .int .u32 a.r, .int .u32 a.v, .int .i64 a.i, .int .u64 a.u, .int .u32 a.s, .int .u32 a.y]
def It.In (a : It) : Prop := (0 ≤ a.t ∧ a.t ≤ 18446744073709551615) ∧ (0 ≤ a.r ∧ a.r ≤ 4294967295) ∧ (0 ≤ a.v ∧ a.v ≤ 4294967295) ∧ (-9223372036854775808 ≤ a.i ∧ a.i ≤ 9223372036854775807) ∧ (0 ≤ a.u ∧ a.u ≤ 18446744073709551615) ∧ (0 ≤ a.s ∧ a.s ≤ 4294967295) ∧ (0 ≤ a.y ∧ a.y ≤ 4294967295)
def It.ahead (a b : It) : Bool := if posC a.t a.r a.v b.t b.r b.v = 0 then decide (a.i < b.i) else decide (posC a.t a.r a.v b.t b.r b.v < 0)
def It.due (a b : It) : Bool := if posC a.u a.s a.y b.u b.s b.y = 0 then It.ahead a b else decide (posC a.u a.s a.y b.u b.s b.y < 0)
theorem Cs.new7 (w : World) (t : TypeId) (a : It) : Cs (w.alloc (.cells #[.int .u64 a.t, .int .u32 a.r, .int .u32 a.v, .int .i64 a.i, .int .u64 a.u, .int .u32 a.s, .int .u32 a.y] t)) w.heap.size a.cells := fun i v hv => by
  refine ⟨?_, by simp [go_sem]⟩
  rw [World.cell?_alloc_new]
  simpa [It.cells] using hv
theorem It.at (a : It) {w : World} {g : Nat} (h : Cs w g a.cells) : w.cell? ⟨g, 0, none⟩ = some (.int .u64 a.t) ∧ w.cell? ⟨g, 1, none⟩ = some (.int .u32 a.r) ∧ w.cell? ⟨g, 2, none⟩ = some (.int .u32 a.v) ∧ w.cell? ⟨g, 3, none⟩ = some (.int .i64 a.i) ∧ w.cell? ⟨g, 4, none⟩ = some (.int .u64 a.u) ∧ w.cell? ⟨g, 5, none⟩ = some (.int .u32 a.s) ∧ w.cell? ⟨g, 6, none⟩ = some (.int .u32 a.y) :=
  ⟨(h 0 _ rfl).1, (h 1 _ rfl).1, (h 2 _ rfl).1, (h 3 _ rfl).1, (h 4 _ rfl).1, (h 5 _ rfl).1, (h 6 _ rfl).1⟩

set_option maxRecDepth 100000 in
set_option maxHeartbeats 1000000 in
theorem Item.ahead (a b : It) (ha : a.In) (hb : b.In) (w : World) :
    Calls Try.prog 17 #[a.val, b.val] w (Ans (.bool (It.ahead a b)) w) := by
  have HA := hid ha
  have HB := hid hb
  have HT0 : Hid (∀ w' : World, Below ((w.alloc (.cells #[.int .u64 a.t, .int .u32 a.r, .int .u32 a.v, .int .i64 a.i, .int .u64 a.u, .int .u32 a.s, .int .u32 a.y] 28)).alloc (.cells #[.int .u64 b.t, .int .u32 b.r, .int .u32 b.v, .int .i64 b.i, .int .u64 b.u, .int .u32 b.s, .int .u32 b.y] 28)).heap.size ((w.alloc (.cells #[.int .u64 a.t, .int .u32 a.r, .int .u32 a.v, .int .i64 a.i, .int .u64 a.u, .int .u32 a.s, .int .u32 a.y] 28)).alloc (.cells #[.int .u64 b.t, .int .u32 b.r, .int .u32 b.v, .int .i64 b.i, .int .u64 b.u, .int .u32 b.s, .int .u32 b.y] 28)) w' →
      Cs w' w.heap.size a.cells ∧ Cs w' (w.heap.size + 1) b.cells ∧ Below w.heap.size w w') :=
    hid (fun w' hb => ⟨((Cs.new7 _ _ _).alloc _).below hb, by have := Cs.new7 (w.alloc (.cells #[.int .u64 a.t, .int .u32 a.r, .int .u32 a.v, .int .i64 a.i, .int .u64 a.u, .int .u32 a.s, .int .u32 a.y] 28)) 28 b; simp only [World.size_alloc] at this; exact this.below hb, below_on (((Below.refl _ _).alloc (Nat.le_refl _) _).alloc (by simp) _) hb⟩)
  clear ha hb
  unfold It.val
  cases hc : decide (posC a.t a.r a.v b.t b.r b.v = 0) with
  | true =>
    have hq : posC a.t a.r a.v b.t b.r b.v = 0 := of_decide_eq_true hc
    have c1 : (posC a.t a.r a.v b.t b.r b.v != 0) = false := by rw [hq]; rfl
    have HE : Hid (It.ahead a b = decide (a.i < b.i)) := hid (by unfold It.ahead; rw [if_pos hq])
    have C1 := hid c1
    clear hc hq c1
    go_enter Try.func17, Try.ntmps17
    go_wp2_with fail
    refine (Pos.cmp a.t a.r a.v b.t b.r b.v HA.out.2.1.1 HA.out.2.1.2 HA.out.2.2.1.1 HA.out.2.2.1.2 HB.out.2.1.1 HB.out.2.1.2 HB.out.2.2.1.1 HB.out.2.2.1.2 _).mono ?_
    rintro e w1 ⟨rfl, hb1⟩
    have HT1 := hid (HT0.out _ hb1)
    have q1 := (It.at a HT1.out.1).2.2.2.1
    have q2 := (It.at b HT1.out.2.1).2.2.2.1
    have c1 := C1.out
    clear hb1
    go_wp2_with fail
    go_ret
    exact ⟨by rw [HE.out]; rfl, HT1.out.2.2⟩
  | false =>
    have hq : ¬ posC a.t a.r a.v b.t b.r b.v = 0 := of_decide_eq_false hc
    have c1 : (posC a.t a.r a.v b.t b.r b.v != 0) = true := by rw [bne_iff_ne]; exact hq
    have HE : Hid (It.ahead a b = decide (posC a.t a.r a.v b.t b.r b.v < 0)) := hid (by unfold It.ahead; rw [if_neg hq])
    have C1 := hid c1
    clear hc hq c1
    go_enter Try.func17, Try.ntmps17
    go_wp2_with fail
    refine (Pos.cmp a.t a.r a.v b.t b.r b.v HA.out.2.1.1 HA.out.2.1.2 HA.out.2.2.1.1 HA.out.2.2.1.2 HB.out.2.1.1 HB.out.2.1.2 HB.out.2.2.1.1 HB.out.2.2.1.2 _).mono ?_
    rintro e w1 ⟨rfl, hb1⟩
    have HT1 := hid (HT0.out _ hb1)
    have c1 := C1.out
    clear hb1
    go_wp2_with fail
    go_ret
    exact ⟨by rw [HE.out]; rfl, HT1.out.2.2⟩

end Go.Proofs.Ytcnmobehamgmbaa

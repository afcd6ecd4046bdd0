/- ItemOrders: the walk. -/
import Derived.Test.YtcnmobehamgmbaaItD
namespace Go.Proofs.Ytcnmobehamgmbaa
open Go.RowKit

/-- Three items' variables. -/
def I3 (w : World) (a b c : It) (w' : World) : Prop := Cs w' w.heap.size a.cells ∧ Cs w' (w.heap.size + 1) b.cells ∧ Cs w' (w.heap.size + 2) c.cells ∧ Below w.heap.size w w'
theorem I3.below {w w1 w2 : World} {a b c : It} (h : I3 w a b c w1) (hb : Below w1.heap.size w1 w2) : I3 w a b c w2 := ⟨h.1.below hb, h.2.1.below hb, h.2.2.1.below hb, below_on h.2.2.2 hb⟩
theorem I3.drew {w w1 : World} {a b c : It} (h : I3 w a b c w1) : I3 w a b c w1.drew := h.below (Below.refl _ _).drew
theorem I3.see {w w' : World} {a b c : It} (h : I3 w a b c w') : ((w'.cell? ⟨w.heap.size, 0, none⟩ = some (.int .u64 a.t) ∧ w'.cell? ⟨w.heap.size, 1, none⟩ = some (.int .u32 a.r) ∧ w'.cell? ⟨w.heap.size, 2, none⟩ = some (.int .u32 a.v) ∧ w'.cell? ⟨w.heap.size, 3, none⟩ = some (.int .i64 a.i) ∧ w'.cell? ⟨w.heap.size, 4, none⟩ = some (.int .u64 a.u) ∧ w'.cell? ⟨w.heap.size, 5, none⟩ = some (.int .u32 a.s) ∧ w'.cell? ⟨w.heap.size, 6, none⟩ = some (.int .u32 a.y)) ∧ (w'.cell? ⟨w.heap.size + 1, 0, none⟩ = some (.int .u64 b.t) ∧ w'.cell? ⟨w.heap.size + 1, 1, none⟩ = some (.int .u32 b.r) ∧ w'.cell? ⟨w.heap.size + 1, 2, none⟩ = some (.int .u32 b.v) ∧ w'.cell? ⟨w.heap.size + 1, 3, none⟩ = some (.int .i64 b.i) ∧ w'.cell? ⟨w.heap.size + 1, 4, none⟩ = some (.int .u64 b.u) ∧ w'.cell? ⟨w.heap.size + 1, 5, none⟩ = some (.int .u32 b.s) ∧ w'.cell? ⟨w.heap.size + 1, 6, none⟩ = some (.int .u32 b.y))) ∧ I3 w a b c w' := ⟨⟨It.at a h.1, It.at b h.2.1⟩, h⟩
theorem I3.new (w : World) (a b c : It) : I3 w a b c (((w.alloc (.cells #[.int .u64 a.t, .int .u32 a.r, .int .u32 a.v, .int .i64 a.i, .int .u64 a.u, .int .u32 a.s, .int .u32 a.y] 28)).alloc (.cells #[.int .u64 b.t, .int .u32 b.r, .int .u32 b.v, .int .i64 b.i, .int .u64 b.u, .int .u32 b.s, .int .u32 b.y] 28)).alloc (.cells #[.int .u64 c.t, .int .u32 c.r, .int .u32 c.v, .int .i64 c.i, .int .u64 c.u, .int .u32 c.s, .int .u32 c.y] 28)) := by
  have h2 := Cs.new7 (w.alloc (.cells #[.int .u64 a.t, .int .u32 a.r, .int .u32 a.v, .int .i64 a.i, .int .u64 a.u, .int .u32 a.s, .int .u32 a.y] 28)) 28 b
  have h3 := Cs.new7 ((w.alloc (.cells #[.int .u64 a.t, .int .u32 a.r, .int .u32 a.v, .int .i64 a.i, .int .u64 a.u, .int .u32 a.s, .int .u32 a.y] 28)).alloc (.cells #[.int .u64 b.t, .int .u32 b.r, .int .u32 b.v, .int .i64 b.i, .int .u64 b.u, .int .u32 b.s, .int .u32 b.y] 28)) 28 c
  simp only [World.size_alloc] at h2 h3
  exact ⟨((Cs.new7 _ _ _).alloc _).alloc _, h2.alloc _, h3, (((Below.refl _ _).alloc (Nat.le_refl _) _).alloc (by simp) _).alloc (by simp; omega) _⟩

set_option maxRecDepth 100000 in
set_option maxHeartbeats 4000000 in
theorem Iorders.not1 (t : Int) (a b c : It) (ha : a.In) (hb : b.In) (hc : c.In) (w : World) (h1 : It.near t a = false) :
    Calls Try.prog 5 #[.int .u64 t, a.val, b.val, c.val] w (Ans (.bool true) w) := by
  have HA := hid ha
  have HB := hid hb
  have HC := hid hc
  have HI0 := hid (I3.new w a b c)
  have H1 := hid h1
  clear h1
  clear ha hb hc
  unfold It.val
  go_enter Try.func5, Try.ntmps5
  go_wp2_with fail
  refine (Law5.awake _).mono ?_
  rintro e w1 ⟨rfl, hb⟩
  have HI1 := hid (HI0.out.below hb)
  clear hb
  obtain ⟨a0, a1, a2, a3, a4, a5, a6⟩ := It.at a HI1.out.1
  obtain ⟨b0, b1, b2, b3, b4, b5, b6⟩ := It.at b HI1.out.2.1
  obtain ⟨c0, c1, c2, c3, c4, c5, c6⟩ := It.at c HI1.out.2.2.1
  go_wp2_with fail
  refine (Law5.near t a _).mono ?_
  rintro e w2 ⟨rfl, hb⟩
  rw [H1.out]
  have HI2 := hid (HI1.out.below hb)
  clear hb
  clear a0 a1 a2 a3 a4 a5 a6 b0 b1 b2 b3 b4 b5 b6 c0 c1 c2 c3 c4 c5 c6
  obtain ⟨a0, a1, a2, a3, a4, a5, a6⟩ := It.at a HI2.out.1
  obtain ⟨b0, b1, b2, b3, b4, b5, b6⟩ := It.at b HI2.out.2.1
  obtain ⟨c0, c1, c2, c3, c4, c5, c6⟩ := It.at c HI2.out.2.2.1
  go_wp2_with fail
  go_ret
  exact ⟨rfl, HI2.out.2.2.2⟩

set_option maxRecDepth 100000 in
set_option maxHeartbeats 4000000 in
theorem Iorders.not2 (t : Int) (a b c : It) (ha : a.In) (hb : b.In) (hc : c.In) (w : World) (h1 : It.near t a = true) (h2 : It.near t b = false) :
    Calls Try.prog 5 #[.int .u64 t, a.val, b.val, c.val] w (Ans (.bool true) w) := by
  have HA := hid ha
  have HB := hid hb
  have HC := hid hc
  have HI0 := hid (I3.new w a b c)
  have H1 := hid h1
  have H2 := hid h2
  clear h1 h2
  clear ha hb hc
  unfold It.val
  go_enter Try.func5, Try.ntmps5
  go_wp2_with fail
  refine (Law5.awake _).mono ?_
  rintro e w1 ⟨rfl, hb⟩
  have HI1 := hid (HI0.out.below hb)
  clear hb
  obtain ⟨a0, a1, a2, a3, a4, a5, a6⟩ := It.at a HI1.out.1
  obtain ⟨b0, b1, b2, b3, b4, b5, b6⟩ := It.at b HI1.out.2.1
  obtain ⟨c0, c1, c2, c3, c4, c5, c6⟩ := It.at c HI1.out.2.2.1
  go_wp2_with fail
  refine (Law5.near t a _).mono ?_
  rintro e w2 ⟨rfl, hb⟩
  rw [H1.out]
  have HI2 := hid (HI1.out.below hb)
  clear hb
  clear a0 a1 a2 a3 a4 a5 a6 b0 b1 b2 b3 b4 b5 b6 c0 c1 c2 c3 c4 c5 c6
  obtain ⟨a0, a1, a2, a3, a4, a5, a6⟩ := It.at a HI2.out.1
  obtain ⟨b0, b1, b2, b3, b4, b5, b6⟩ := It.at b HI2.out.2.1
  obtain ⟨c0, c1, c2, c3, c4, c5, c6⟩ := It.at c HI2.out.2.2.1
  go_wp2_with fail
  refine (Law5.near t b _).mono ?_
  rintro e w3 ⟨rfl, hb⟩
  rw [H2.out]
  have HI3 := hid (HI2.out.below hb)
  clear hb
  clear a0 a1 a2 a3 a4 a5 a6 b0 b1 b2 b3 b4 b5 b6 c0 c1 c2 c3 c4 c5 c6
  obtain ⟨a0, a1, a2, a3, a4, a5, a6⟩ := It.at a HI3.out.1
  obtain ⟨b0, b1, b2, b3, b4, b5, b6⟩ := It.at b HI3.out.2.1
  obtain ⟨c0, c1, c2, c3, c4, c5, c6⟩ := It.at c HI3.out.2.2.1
  go_wp2_with fail
  go_ret
  exact ⟨rfl, HI3.out.2.2.2⟩

set_option maxRecDepth 100000 in
set_option maxHeartbeats 4000000 in
theorem Iorders.not3 (t : Int) (a b c : It) (ha : a.In) (hb : b.In) (hc : c.In) (w : World) (h1 : It.near t a = true) (h2 : It.near t b = true) (h3 : It.near t c = false) :
    Calls Try.prog 5 #[.int .u64 t, a.val, b.val, c.val] w (Ans (.bool true) w) := by
  have HA := hid ha
  have HB := hid hb
  have HC := hid hc
  have HI0 := hid (I3.new w a b c)
  have H1 := hid h1
  have H2 := hid h2
  have H3 := hid h3
  clear h1 h2 h3
  clear ha hb hc
  unfold It.val
  go_enter Try.func5, Try.ntmps5
  go_wp2_with fail
  refine (Law5.awake _).mono ?_
  rintro e w1 ⟨rfl, hb⟩
  have HI1 := hid (HI0.out.below hb)
  clear hb
  obtain ⟨a0, a1, a2, a3, a4, a5, a6⟩ := It.at a HI1.out.1
  obtain ⟨b0, b1, b2, b3, b4, b5, b6⟩ := It.at b HI1.out.2.1
  obtain ⟨c0, c1, c2, c3, c4, c5, c6⟩ := It.at c HI1.out.2.2.1
  go_wp2_with fail
  refine (Law5.near t a _).mono ?_
  rintro e w2 ⟨rfl, hb⟩
  rw [H1.out]
  have HI2 := hid (HI1.out.below hb)
  clear hb
  clear a0 a1 a2 a3 a4 a5 a6 b0 b1 b2 b3 b4 b5 b6 c0 c1 c2 c3 c4 c5 c6
  obtain ⟨a0, a1, a2, a3, a4, a5, a6⟩ := It.at a HI2.out.1
  obtain ⟨b0, b1, b2, b3, b4, b5, b6⟩ := It.at b HI2.out.2.1
  obtain ⟨c0, c1, c2, c3, c4, c5, c6⟩ := It.at c HI2.out.2.2.1
  go_wp2_with fail
  refine (Law5.near t b _).mono ?_
  rintro e w3 ⟨rfl, hb⟩
  rw [H2.out]
  have HI3 := hid (HI2.out.below hb)
  clear hb
  clear a0 a1 a2 a3 a4 a5 a6 b0 b1 b2 b3 b4 b5 b6 c0 c1 c2 c3 c4 c5 c6
  obtain ⟨a0, a1, a2, a3, a4, a5, a6⟩ := It.at a HI3.out.1
  obtain ⟨b0, b1, b2, b3, b4, b5, b6⟩ := It.at b HI3.out.2.1
  obtain ⟨c0, c1, c2, c3, c4, c5, c6⟩ := It.at c HI3.out.2.2.1
  go_wp2_with fail
  refine (Law5.near t c _).mono ?_
  rintro e w4 ⟨rfl, hb⟩
  rw [H3.out]
  have HI4 := hid (HI3.out.below hb)
  clear hb
  clear a0 a1 a2 a3 a4 a5 a6 b0 b1 b2 b3 b4 b5 b6 c0 c1 c2 c3 c4 c5 c6
  obtain ⟨a0, a1, a2, a3, a4, a5, a6⟩ := It.at a HI4.out.1
  obtain ⟨b0, b1, b2, b3, b4, b5, b6⟩ := It.at b HI4.out.2.1
  obtain ⟨c0, c1, c2, c3, c4, c5, c6⟩ := It.at c HI4.out.2.2.1
  go_wp2_with fail
  go_ret
  exact ⟨rfl, HI4.out.2.2.2⟩

set_option maxRecDepth 100000 in
set_option maxHeartbeats 4000000 in
theorem Iorders.same1 (t : Int) (a b c : It) (ha : a.In) (hb : b.In) (hc : c.In) (w : World) (h1 : It.near t a = true) (h2 : It.near t b = true) (h3 : It.near t c = true) (h4 : a.i = b.i) :
    Calls Try.prog 5 #[.int .u64 t, a.val, b.val, c.val] w (Ans (.bool true) w) := by
  have HA := hid ha
  have HB := hid hb
  have HC := hid hc
  have HI0 := hid (I3.new w a b c)
  have H1 := hid h1
  have H2 := hid h2
  have H3 := hid h3
  have H4 := hid h4
  clear h1 h2 h3 h4
  clear ha hb hc
  unfold It.val
  go_enter Try.func5, Try.ntmps5
  go_wp2_with fail
  refine (Law5.awake _).mono ?_
  rintro e w1 ⟨rfl, hb⟩
  have HI1 := hid (HI0.out.below hb)
  clear hb
  obtain ⟨a0, a1, a2, a3, a4, a5, a6⟩ := It.at a HI1.out.1
  obtain ⟨b0, b1, b2, b3, b4, b5, b6⟩ := It.at b HI1.out.2.1
  obtain ⟨c0, c1, c2, c3, c4, c5, c6⟩ := It.at c HI1.out.2.2.1
  go_wp2_with fail
  refine (Law5.near t a _).mono ?_
  rintro e w2 ⟨rfl, hb⟩
  rw [H1.out]
  have HI2 := hid (HI1.out.below hb)
  clear hb
  clear a0 a1 a2 a3 a4 a5 a6 b0 b1 b2 b3 b4 b5 b6 c0 c1 c2 c3 c4 c5 c6
  obtain ⟨a0, a1, a2, a3, a4, a5, a6⟩ := It.at a HI2.out.1
  obtain ⟨b0, b1, b2, b3, b4, b5, b6⟩ := It.at b HI2.out.2.1
  obtain ⟨c0, c1, c2, c3, c4, c5, c6⟩ := It.at c HI2.out.2.2.1
  go_wp2_with fail
  refine (Law5.near t b _).mono ?_
  rintro e w3 ⟨rfl, hb⟩
  rw [H2.out]
  have HI3 := hid (HI2.out.below hb)
  clear hb
  clear a0 a1 a2 a3 a4 a5 a6 b0 b1 b2 b3 b4 b5 b6 c0 c1 c2 c3 c4 c5 c6
  obtain ⟨a0, a1, a2, a3, a4, a5, a6⟩ := It.at a HI3.out.1
  obtain ⟨b0, b1, b2, b3, b4, b5, b6⟩ := It.at b HI3.out.2.1
  obtain ⟨c0, c1, c2, c3, c4, c5, c6⟩ := It.at c HI3.out.2.2.1
  go_wp2_with fail
  refine (Law5.near t c _).mono ?_
  rintro e w4 ⟨rfl, hb⟩
  rw [H3.out]
  have HI4 := hid (HI3.out.below hb)
  clear hb
  clear a0 a1 a2 a3 a4 a5 a6 b0 b1 b2 b3 b4 b5 b6 c0 c1 c2 c3 c4 c5 c6
  have e4 : (a.i == b.i) = true := by have := H4.out; simpa using this
  obtain ⟨a0, a1, a2, a3, a4, a5, a6⟩ := It.at a HI4.out.1
  obtain ⟨b0, b1, b2, b3, b4, b5, b6⟩ := It.at b HI4.out.2.1
  obtain ⟨c0, c1, c2, c3, c4, c5, c6⟩ := It.at c HI4.out.2.2.1
  go_wp2_with fail
  go_ret
  exact ⟨rfl, HI4.out.2.2.2⟩

set_option maxRecDepth 100000 in
set_option maxHeartbeats 4000000 in
theorem Iorders.same2 (t : Int) (a b c : It) (ha : a.In) (hb : b.In) (hc : c.In) (w : World) (h1 : It.near t a = true) (h2 : It.near t b = true) (h3 : It.near t c = true) (h4 : ¬ a.i = b.i) (h5 : b.i = c.i) :
    Calls Try.prog 5 #[.int .u64 t, a.val, b.val, c.val] w (Ans (.bool true) w) := by
  have HA := hid ha
  have HB := hid hb
  have HC := hid hc
  have HI0 := hid (I3.new w a b c)
  have H1 := hid h1
  have H2 := hid h2
  have H3 := hid h3
  have H4 := hid h4
  have H5 := hid h5
  clear h1 h2 h3 h4 h5
  clear ha hb hc
  unfold It.val
  go_enter Try.func5, Try.ntmps5
  go_wp2_with fail
  refine (Law5.awake _).mono ?_
  rintro e w1 ⟨rfl, hb⟩
  have HI1 := hid (HI0.out.below hb)
  clear hb
  obtain ⟨a0, a1, a2, a3, a4, a5, a6⟩ := It.at a HI1.out.1
  obtain ⟨b0, b1, b2, b3, b4, b5, b6⟩ := It.at b HI1.out.2.1
  obtain ⟨c0, c1, c2, c3, c4, c5, c6⟩ := It.at c HI1.out.2.2.1
  go_wp2_with fail
  refine (Law5.near t a _).mono ?_
  rintro e w2 ⟨rfl, hb⟩
  rw [H1.out]
  have HI2 := hid (HI1.out.below hb)
  clear hb
  clear a0 a1 a2 a3 a4 a5 a6 b0 b1 b2 b3 b4 b5 b6 c0 c1 c2 c3 c4 c5 c6
  obtain ⟨a0, a1, a2, a3, a4, a5, a6⟩ := It.at a HI2.out.1
  obtain ⟨b0, b1, b2, b3, b4, b5, b6⟩ := It.at b HI2.out.2.1
  obtain ⟨c0, c1, c2, c3, c4, c5, c6⟩ := It.at c HI2.out.2.2.1
  go_wp2_with fail
  refine (Law5.near t b _).mono ?_
  rintro e w3 ⟨rfl, hb⟩
  rw [H2.out]
  have HI3 := hid (HI2.out.below hb)
  clear hb
  clear a0 a1 a2 a3 a4 a5 a6 b0 b1 b2 b3 b4 b5 b6 c0 c1 c2 c3 c4 c5 c6
  obtain ⟨a0, a1, a2, a3, a4, a5, a6⟩ := It.at a HI3.out.1
  obtain ⟨b0, b1, b2, b3, b4, b5, b6⟩ := It.at b HI3.out.2.1
  obtain ⟨c0, c1, c2, c3, c4, c5, c6⟩ := It.at c HI3.out.2.2.1
  go_wp2_with fail
  refine (Law5.near t c _).mono ?_
  rintro e w4 ⟨rfl, hb⟩
  rw [H3.out]
  have HI4 := hid (HI3.out.below hb)
  clear hb
  clear a0 a1 a2 a3 a4 a5 a6 b0 b1 b2 b3 b4 b5 b6 c0 c1 c2 c3 c4 c5 c6
  have e4 : (a.i == b.i) = false := by have := H4.out; simpa using this
  have e5 : (b.i == c.i) = true := by have := H5.out; simpa using this
  obtain ⟨a0, a1, a2, a3, a4, a5, a6⟩ := It.at a HI4.out.1
  obtain ⟨b0, b1, b2, b3, b4, b5, b6⟩ := It.at b HI4.out.2.1
  obtain ⟨c0, c1, c2, c3, c4, c5, c6⟩ := It.at c HI4.out.2.2.1
  go_wp2_with fail
  go_ret
  exact ⟨rfl, HI4.out.2.2.2⟩

set_option maxRecDepth 100000 in
set_option maxHeartbeats 4000000 in
theorem Iorders.same3 (t : Int) (a b c : It) (ha : a.In) (hb : b.In) (hc : c.In) (w : World) (h1 : It.near t a = true) (h2 : It.near t b = true) (h3 : It.near t c = true) (h4 : ¬ a.i = b.i) (h5 : ¬ b.i = c.i) (h6 : a.i = c.i) :
    Calls Try.prog 5 #[.int .u64 t, a.val, b.val, c.val] w (Ans (.bool true) w) := by
  have HA := hid ha
  have HB := hid hb
  have HC := hid hc
  have HI0 := hid (I3.new w a b c)
  have H1 := hid h1
  have H2 := hid h2
  have H3 := hid h3
  have H4 := hid h4
  have H5 := hid h5
  have H6 := hid h6
  clear h1 h2 h3 h4 h5 h6
  clear ha hb hc
  unfold It.val
  go_enter Try.func5, Try.ntmps5
  go_wp2_with fail
  refine (Law5.awake _).mono ?_
  rintro e w1 ⟨rfl, hb⟩
  have HI1 := hid (HI0.out.below hb)
  clear hb
  obtain ⟨a0, a1, a2, a3, a4, a5, a6⟩ := It.at a HI1.out.1
  obtain ⟨b0, b1, b2, b3, b4, b5, b6⟩ := It.at b HI1.out.2.1
  obtain ⟨c0, c1, c2, c3, c4, c5, c6⟩ := It.at c HI1.out.2.2.1
  go_wp2_with fail
  refine (Law5.near t a _).mono ?_
  rintro e w2 ⟨rfl, hb⟩
  rw [H1.out]
  have HI2 := hid (HI1.out.below hb)
  clear hb
  clear a0 a1 a2 a3 a4 a5 a6 b0 b1 b2 b3 b4 b5 b6 c0 c1 c2 c3 c4 c5 c6
  obtain ⟨a0, a1, a2, a3, a4, a5, a6⟩ := It.at a HI2.out.1
  obtain ⟨b0, b1, b2, b3, b4, b5, b6⟩ := It.at b HI2.out.2.1
  obtain ⟨c0, c1, c2, c3, c4, c5, c6⟩ := It.at c HI2.out.2.2.1
  go_wp2_with fail
  refine (Law5.near t b _).mono ?_
  rintro e w3 ⟨rfl, hb⟩
  rw [H2.out]
  have HI3 := hid (HI2.out.below hb)
  clear hb
  clear a0 a1 a2 a3 a4 a5 a6 b0 b1 b2 b3 b4 b5 b6 c0 c1 c2 c3 c4 c5 c6
  obtain ⟨a0, a1, a2, a3, a4, a5, a6⟩ := It.at a HI3.out.1
  obtain ⟨b0, b1, b2, b3, b4, b5, b6⟩ := It.at b HI3.out.2.1
  obtain ⟨c0, c1, c2, c3, c4, c5, c6⟩ := It.at c HI3.out.2.2.1
  go_wp2_with fail
  refine (Law5.near t c _).mono ?_
  rintro e w4 ⟨rfl, hb⟩
  rw [H3.out]
  have HI4 := hid (HI3.out.below hb)
  clear hb
  clear a0 a1 a2 a3 a4 a5 a6 b0 b1 b2 b3 b4 b5 b6 c0 c1 c2 c3 c4 c5 c6
  have e4 : (a.i == b.i) = false := by have := H4.out; simpa using this
  have e5 : (b.i == c.i) = false := by have := H5.out; simpa using this
  have e6 : (a.i == c.i) = true := by have := H6.out; simpa using this
  obtain ⟨a0, a1, a2, a3, a4, a5, a6⟩ := It.at a HI4.out.1
  obtain ⟨b0, b1, b2, b3, b4, b5, b6⟩ := It.at b HI4.out.2.1
  obtain ⟨c0, c1, c2, c3, c4, c5, c6⟩ := It.at c HI4.out.2.2.1
  go_wp2_with fail
  go_ret
  exact ⟨rfl, HI4.out.2.2.2⟩

set_option maxRecDepth 100000 in
set_option maxHeartbeats 4000000 in
theorem Iorders.main_false_false (t : Int) (a b c : It) (ha : a.In) (hb : b.In) (hc : c.In) (w : World) (h1 : It.near t a = true) (h2 : It.near t b = true) (h3 : It.near t c = true) (h4 : ¬ a.i = b.i) (h5 : ¬ b.i = c.i) (h6 : ¬ a.i = c.i) (h7 : It.ahead a b = false) (h8 : It.due a b = false) :
    Calls Try.prog 5 #[.int .u64 t, a.val, b.val, c.val] w (Ans (.bool true) w) := by
  have HA := hid ha
  have HB := hid hb
  have HC := hid hc
  have HI0 := hid (I3.new w a b c)
  have H9 : Hid (It.ahead b a = true) := hid (by rw [ahead_ne h1 h2 h4, h7]; rfl)
  have HQ : Hid (It.due b a = true) := hid (by rw [due_ne h1 h2 h4, h8]; rfl)
  have HS : Hid (It.ahead a a = false) := hid (ahead_self h1)
  have HU : Hid (It.due a a = false) := hid (due_self h1)
  have H1 := hid h1
  have H2 := hid h2
  have H3 := hid h3
  have H4 := hid h4
  have H5 := hid h5
  have H6 := hid h6
  have H7 := hid h7
  have H8 := hid h8
  clear h1 h2 h3 h4 h5 h6 h7 h8
  clear ha hb hc
  unfold It.val
  go_enter Try.func5, Try.ntmps5
  go_wp2_with fail
  refine (Law5.awake _).mono ?_
  rintro e w1 ⟨rfl, hb⟩
  have HI1 := hid (HI0.out.below hb)
  clear hb
  obtain ⟨a0, a1, a2, a3, a4, a5, a6⟩ := It.at a HI1.out.1
  obtain ⟨b0, b1, b2, b3, b4, b5, b6⟩ := It.at b HI1.out.2.1
  obtain ⟨c0, c1, c2, c3, c4, c5, c6⟩ := It.at c HI1.out.2.2.1
  go_wp2_with fail
  refine (Law5.near t a _).mono ?_
  rintro e w2 ⟨rfl, hb⟩
  rw [H1.out]
  have HI2 := hid (HI1.out.below hb)
  clear hb
  clear a0 a1 a2 a3 a4 a5 a6 b0 b1 b2 b3 b4 b5 b6 c0 c1 c2 c3 c4 c5 c6
  obtain ⟨a0, a1, a2, a3, a4, a5, a6⟩ := It.at a HI2.out.1
  obtain ⟨b0, b1, b2, b3, b4, b5, b6⟩ := It.at b HI2.out.2.1
  obtain ⟨c0, c1, c2, c3, c4, c5, c6⟩ := It.at c HI2.out.2.2.1
  go_wp2_with fail
  refine (Law5.near t b _).mono ?_
  rintro e w3 ⟨rfl, hb⟩
  rw [H2.out]
  have HI3 := hid (HI2.out.below hb)
  clear hb
  clear a0 a1 a2 a3 a4 a5 a6 b0 b1 b2 b3 b4 b5 b6 c0 c1 c2 c3 c4 c5 c6
  obtain ⟨a0, a1, a2, a3, a4, a5, a6⟩ := It.at a HI3.out.1
  obtain ⟨b0, b1, b2, b3, b4, b5, b6⟩ := It.at b HI3.out.2.1
  obtain ⟨c0, c1, c2, c3, c4, c5, c6⟩ := It.at c HI3.out.2.2.1
  go_wp2_with fail
  refine (Law5.near t c _).mono ?_
  rintro e w4 ⟨rfl, hb⟩
  rw [H3.out]
  have HI4 := hid (HI3.out.below hb)
  clear hb
  clear a0 a1 a2 a3 a4 a5 a6 b0 b1 b2 b3 b4 b5 b6 c0 c1 c2 c3 c4 c5 c6
  have e4 : (a.i == b.i) = false := by have := H4.out; simpa using this
  have e5 : (b.i == c.i) = false := by have := H5.out; simpa using this
  have e6 : (a.i == c.i) = false := by have := H6.out; simpa using this
  obtain ⟨a0, a1, a2, a3, a4, a5, a6⟩ := It.at a HI4.out.1
  obtain ⟨b0, b1, b2, b3, b4, b5, b6⟩ := It.at b HI4.out.2.1
  obtain ⟨c0, c1, c2, c3, c4, c5, c6⟩ := It.at c HI4.out.2.2.1
  go_wp2_with fail
  clear a0 a1 a2 a3 a4 a5 a6 b0 b1 b2 b3 b4 b5 b6 c0 c1 c2 c3 c4 c5 c6
  go_region_held3 (fun w' => ((w'.cell? ⟨w.heap.size, 0, none⟩ = some (.int .u64 a.t) ∧ w'.cell? ⟨w.heap.size, 1, none⟩ = some (.int .u32 a.r) ∧ w'.cell? ⟨w.heap.size, 2, none⟩ = some (.int .u32 a.v) ∧ w'.cell? ⟨w.heap.size, 3, none⟩ = some (.int .i64 a.i) ∧ w'.cell? ⟨w.heap.size, 4, none⟩ = some (.int .u64 a.u) ∧ w'.cell? ⟨w.heap.size, 5, none⟩ = some (.int .u32 a.s) ∧ w'.cell? ⟨w.heap.size, 6, none⟩ = some (.int .u32 a.y)) ∧ (w'.cell? ⟨w.heap.size + 1, 0, none⟩ = some (.int .u64 b.t) ∧ w'.cell? ⟨w.heap.size + 1, 1, none⟩ = some (.int .u32 b.r) ∧ w'.cell? ⟨w.heap.size + 1, 2, none⟩ = some (.int .u32 b.v) ∧ w'.cell? ⟨w.heap.size + 1, 3, none⟩ = some (.int .i64 b.i) ∧ w'.cell? ⟨w.heap.size + 1, 4, none⟩ = some (.int .u64 b.u) ∧ w'.cell? ⟨w.heap.size + 1, 5, none⟩ = some (.int .u32 b.s) ∧ w'.cell? ⟨w.heap.size + 1, 6, none⟩ = some (.int .u32 b.y))) ∧ I3 w a b c w')
    (first | with_reducible exact I3.see HI4.out.drew | with_reducible exact I3.see (I3.below (And.right (by assumption : (_ ∧ _) ∧ I3 w a b c _)) hb2))
    (first
      | ((with_reducible refine (Item.ahead a b HA.out HB.out _).mono ?_); rintro e w1 ⟨rfl, hb2⟩; rw [H7.out])
      | ((with_reducible refine (Item.ahead b a HB.out HA.out _).mono ?_); rintro e w1 ⟨rfl, hb2⟩; rw [H9.out])
      | ((with_reducible refine (Item.due a b HA.out HB.out _).mono ?_); rintro e w1 ⟨rfl, hb2⟩; rw [H8.out])
      | ((with_reducible refine (Item.due b a HB.out HA.out _).mono ?_); rintro e w1 ⟨rfl, hb2⟩; rw [HQ.out])
      | ((with_reducible refine (Item.ahead a a HA.out HA.out _).mono ?_); rintro e w1 ⟨rfl, hb2⟩; rw [HS.out])
      | ((with_reducible refine (Item.due a a HA.out HA.out _).mono ?_); rintro e w1 ⟨rfl, hb2⟩; rw [HU.out]))
  all_goals
    have HI11 := hid (And.right (by assumption : (_ ∧ _) ∧ I3 w a b c w1))
    obtain ⟨a0, a1, a2, a3, a4, a5, a6⟩ := It.at a HI11.out.1
    obtain ⟨b0, b1, b2, b3, b4, b5, b6⟩ := It.at b HI11.out.2.1
    obtain ⟨c0, c1, c2, c3, c4, c5, c6⟩ := It.at c HI11.out.2.2.1
    go_wp2_with fail
    refine (Item.ahead a b HA.out HB.out _).mono ?_
    rintro e w12 ⟨rfl, hb⟩
    rw [H7.out]
    have HI12 := hid (HI11.out.below hb)
    clear hb
    clear a0 a1 a2 a3 a4 a5 a6 b0 b1 b2 b3 b4 b5 b6 c0 c1 c2 c3 c4 c5 c6
    obtain ⟨a0, a1, a2, a3, a4, a5, a6⟩ := It.at a HI12.out.1
    obtain ⟨b0, b1, b2, b3, b4, b5, b6⟩ := It.at b HI12.out.2.1
    obtain ⟨c0, c1, c2, c3, c4, c5, c6⟩ := It.at c HI12.out.2.2.1
    go_wp2_with fail
    refine (Item.due a b HA.out HB.out _).mono ?_
    rintro e w13 ⟨rfl, hb⟩
    rw [H8.out]
    have HI13 := hid (HI12.out.below hb)
    clear hb
    clear a0 a1 a2 a3 a4 a5 a6 b0 b1 b2 b3 b4 b5 b6 c0 c1 c2 c3 c4 c5 c6
    obtain ⟨a0, a1, a2, a3, a4, a5, a6⟩ := It.at a HI13.out.1
    obtain ⟨b0, b1, b2, b3, b4, b5, b6⟩ := It.at b HI13.out.2.1
    obtain ⟨c0, c1, c2, c3, c4, c5, c6⟩ := It.at c HI13.out.2.2.1
    go_wp2_with fail
    go_ret
    exact ⟨rfl, HI13.out.2.2.2⟩

set_option maxRecDepth 100000 in
set_option maxHeartbeats 4000000 in
theorem Iorders.main_false_true (t : Int) (a b c : It) (ha : a.In) (hb : b.In) (hc : c.In) (w : World) (h1 : It.near t a = true) (h2 : It.near t b = true) (h3 : It.near t c = true) (h4 : ¬ a.i = b.i) (h5 : ¬ b.i = c.i) (h6 : ¬ a.i = c.i) (h7 : It.ahead a b = false) (h8 : It.due a b = true) :
    Calls Try.prog 5 #[.int .u64 t, a.val, b.val, c.val] w (Ans (.bool true) w) := by
  have HA := hid ha
  have HB := hid hb
  have HC := hid hc
  have HI0 := hid (I3.new w a b c)
  have H9 : Hid (It.ahead b a = true) := hid (by rw [ahead_ne h1 h2 h4, h7]; rfl)
  have HQ : Hid (It.due b a = false) := hid (by rw [due_ne h1 h2 h4, h8]; rfl)
  have HS : Hid (It.ahead a a = false) := hid (ahead_self h1)
  have HU : Hid (It.due a a = false) := hid (due_self h1)
  have H1 := hid h1
  have H2 := hid h2
  have H3 := hid h3
  have H4 := hid h4
  have H5 := hid h5
  have H6 := hid h6
  have H7 := hid h7
  have H8 := hid h8
  clear h1 h2 h3 h4 h5 h6 h7 h8
  clear ha hb hc
  unfold It.val
  go_enter Try.func5, Try.ntmps5
  go_wp2_with fail
  refine (Law5.awake _).mono ?_
  rintro e w1 ⟨rfl, hb⟩
  have HI1 := hid (HI0.out.below hb)
  clear hb
  obtain ⟨a0, a1, a2, a3, a4, a5, a6⟩ := It.at a HI1.out.1
  obtain ⟨b0, b1, b2, b3, b4, b5, b6⟩ := It.at b HI1.out.2.1
  obtain ⟨c0, c1, c2, c3, c4, c5, c6⟩ := It.at c HI1.out.2.2.1
  go_wp2_with fail
  refine (Law5.near t a _).mono ?_
  rintro e w2 ⟨rfl, hb⟩
  rw [H1.out]
  have HI2 := hid (HI1.out.below hb)
  clear hb
  clear a0 a1 a2 a3 a4 a5 a6 b0 b1 b2 b3 b4 b5 b6 c0 c1 c2 c3 c4 c5 c6
  obtain ⟨a0, a1, a2, a3, a4, a5, a6⟩ := It.at a HI2.out.1
  obtain ⟨b0, b1, b2, b3, b4, b5, b6⟩ := It.at b HI2.out.2.1
  obtain ⟨c0, c1, c2, c3, c4, c5, c6⟩ := It.at c HI2.out.2.2.1
  go_wp2_with fail
  refine (Law5.near t b _).mono ?_
  rintro e w3 ⟨rfl, hb⟩
  rw [H2.out]
  have HI3 := hid (HI2.out.below hb)
  clear hb
  clear a0 a1 a2 a3 a4 a5 a6 b0 b1 b2 b3 b4 b5 b6 c0 c1 c2 c3 c4 c5 c6
  obtain ⟨a0, a1, a2, a3, a4, a5, a6⟩ := It.at a HI3.out.1
  obtain ⟨b0, b1, b2, b3, b4, b5, b6⟩ := It.at b HI3.out.2.1
  obtain ⟨c0, c1, c2, c3, c4, c5, c6⟩ := It.at c HI3.out.2.2.1
  go_wp2_with fail
  refine (Law5.near t c _).mono ?_
  rintro e w4 ⟨rfl, hb⟩
  rw [H3.out]
  have HI4 := hid (HI3.out.below hb)
  clear hb
  clear a0 a1 a2 a3 a4 a5 a6 b0 b1 b2 b3 b4 b5 b6 c0 c1 c2 c3 c4 c5 c6
  have e4 : (a.i == b.i) = false := by have := H4.out; simpa using this
  have e5 : (b.i == c.i) = false := by have := H5.out; simpa using this
  have e6 : (a.i == c.i) = false := by have := H6.out; simpa using this
  obtain ⟨a0, a1, a2, a3, a4, a5, a6⟩ := It.at a HI4.out.1
  obtain ⟨b0, b1, b2, b3, b4, b5, b6⟩ := It.at b HI4.out.2.1
  obtain ⟨c0, c1, c2, c3, c4, c5, c6⟩ := It.at c HI4.out.2.2.1
  go_wp2_with fail
  clear a0 a1 a2 a3 a4 a5 a6 b0 b1 b2 b3 b4 b5 b6 c0 c1 c2 c3 c4 c5 c6
  go_region_held3 (fun w' => ((w'.cell? ⟨w.heap.size, 0, none⟩ = some (.int .u64 a.t) ∧ w'.cell? ⟨w.heap.size, 1, none⟩ = some (.int .u32 a.r) ∧ w'.cell? ⟨w.heap.size, 2, none⟩ = some (.int .u32 a.v) ∧ w'.cell? ⟨w.heap.size, 3, none⟩ = some (.int .i64 a.i) ∧ w'.cell? ⟨w.heap.size, 4, none⟩ = some (.int .u64 a.u) ∧ w'.cell? ⟨w.heap.size, 5, none⟩ = some (.int .u32 a.s) ∧ w'.cell? ⟨w.heap.size, 6, none⟩ = some (.int .u32 a.y)) ∧ (w'.cell? ⟨w.heap.size + 1, 0, none⟩ = some (.int .u64 b.t) ∧ w'.cell? ⟨w.heap.size + 1, 1, none⟩ = some (.int .u32 b.r) ∧ w'.cell? ⟨w.heap.size + 1, 2, none⟩ = some (.int .u32 b.v) ∧ w'.cell? ⟨w.heap.size + 1, 3, none⟩ = some (.int .i64 b.i) ∧ w'.cell? ⟨w.heap.size + 1, 4, none⟩ = some (.int .u64 b.u) ∧ w'.cell? ⟨w.heap.size + 1, 5, none⟩ = some (.int .u32 b.s) ∧ w'.cell? ⟨w.heap.size + 1, 6, none⟩ = some (.int .u32 b.y))) ∧ I3 w a b c w')
    (first | with_reducible exact I3.see HI4.out.drew | with_reducible exact I3.see (I3.below (And.right (by assumption : (_ ∧ _) ∧ I3 w a b c _)) hb2))
    (first
      | ((with_reducible refine (Item.ahead a b HA.out HB.out _).mono ?_); rintro e w1 ⟨rfl, hb2⟩; rw [H7.out])
      | ((with_reducible refine (Item.ahead b a HB.out HA.out _).mono ?_); rintro e w1 ⟨rfl, hb2⟩; rw [H9.out])
      | ((with_reducible refine (Item.due a b HA.out HB.out _).mono ?_); rintro e w1 ⟨rfl, hb2⟩; rw [H8.out])
      | ((with_reducible refine (Item.due b a HB.out HA.out _).mono ?_); rintro e w1 ⟨rfl, hb2⟩; rw [HQ.out])
      | ((with_reducible refine (Item.ahead a a HA.out HA.out _).mono ?_); rintro e w1 ⟨rfl, hb2⟩; rw [HS.out])
      | ((with_reducible refine (Item.due a a HA.out HA.out _).mono ?_); rintro e w1 ⟨rfl, hb2⟩; rw [HU.out]))
  all_goals
    have HI11 := hid (And.right (by assumption : (_ ∧ _) ∧ I3 w a b c w1))
    obtain ⟨a0, a1, a2, a3, a4, a5, a6⟩ := It.at a HI11.out.1
    obtain ⟨b0, b1, b2, b3, b4, b5, b6⟩ := It.at b HI11.out.2.1
    obtain ⟨c0, c1, c2, c3, c4, c5, c6⟩ := It.at c HI11.out.2.2.1
    go_wp2_with fail
    refine (Item.ahead a b HA.out HB.out _).mono ?_
    rintro e w12 ⟨rfl, hb⟩
    rw [H7.out]
    have HI12 := hid (HI11.out.below hb)
    clear hb
    clear a0 a1 a2 a3 a4 a5 a6 b0 b1 b2 b3 b4 b5 b6 c0 c1 c2 c3 c4 c5 c6
    obtain ⟨a0, a1, a2, a3, a4, a5, a6⟩ := It.at a HI12.out.1
    obtain ⟨b0, b1, b2, b3, b4, b5, b6⟩ := It.at b HI12.out.2.1
    obtain ⟨c0, c1, c2, c3, c4, c5, c6⟩ := It.at c HI12.out.2.2.1
    go_wp2_with fail
    refine (Item.due a b HA.out HB.out _).mono ?_
    rintro e w13 ⟨rfl, hb⟩
    rw [H8.out]
    have HI13 := hid (HI12.out.below hb)
    clear hb
    clear a0 a1 a2 a3 a4 a5 a6 b0 b1 b2 b3 b4 b5 b6 c0 c1 c2 c3 c4 c5 c6
    obtain ⟨a0, a1, a2, a3, a4, a5, a6⟩ := It.at a HI13.out.1
    obtain ⟨b0, b1, b2, b3, b4, b5, b6⟩ := It.at b HI13.out.2.1
    obtain ⟨c0, c1, c2, c3, c4, c5, c6⟩ := It.at c HI13.out.2.2.1
    go_wp2_with fail
    refine (Item.due b c HB.out HC.out _).mono ?_
    rintro e w14 ⟨rfl, hb⟩
    have HI14 := hid (HI13.out.below hb)
    clear hb
    clear a0 a1 a2 a3 a4 a5 a6 b0 b1 b2 b3 b4 b5 b6 c0 c1 c2 c3 c4 c5 c6
    cases hdc : It.due b c with
    | false =>
      clear hdc
      obtain ⟨a0, a1, a2, a3, a4, a5, a6⟩ := It.at a HI14.out.1
      obtain ⟨b0, b1, b2, b3, b4, b5, b6⟩ := It.at b HI14.out.2.1
      obtain ⟨c0, c1, c2, c3, c4, c5, c6⟩ := It.at c HI14.out.2.2.1
      go_wp2_with fail
      go_ret
      exact ⟨rfl, HI14.out.2.2.2⟩
    | true =>
      have HDC := hid (due_trans H1.out H2.out H3.out H8.out hdc)
      clear hdc
      obtain ⟨a0, a1, a2, a3, a4, a5, a6⟩ := It.at a HI14.out.1
      obtain ⟨b0, b1, b2, b3, b4, b5, b6⟩ := It.at b HI14.out.2.1
      obtain ⟨c0, c1, c2, c3, c4, c5, c6⟩ := It.at c HI14.out.2.2.1
      go_wp2_with fail
      refine (Item.due a c HA.out HC.out _).mono ?_
      rintro e w15 ⟨rfl, hb⟩
      rw [HDC.out]
      have HI15 := hid (HI14.out.below hb)
      clear hb
      clear a0 a1 a2 a3 a4 a5 a6 b0 b1 b2 b3 b4 b5 b6 c0 c1 c2 c3 c4 c5 c6
      obtain ⟨a0, a1, a2, a3, a4, a5, a6⟩ := It.at a HI15.out.1
      obtain ⟨b0, b1, b2, b3, b4, b5, b6⟩ := It.at b HI15.out.2.1
      obtain ⟨c0, c1, c2, c3, c4, c5, c6⟩ := It.at c HI15.out.2.2.1
      go_wp2_with fail
      go_ret
      exact ⟨rfl, HI15.out.2.2.2⟩

set_option maxRecDepth 100000 in
set_option maxHeartbeats 4000000 in
theorem Iorders.main_true_false (t : Int) (a b c : It) (ha : a.In) (hb : b.In) (hc : c.In) (w : World) (h1 : It.near t a = true) (h2 : It.near t b = true) (h3 : It.near t c = true) (h4 : ¬ a.i = b.i) (h5 : ¬ b.i = c.i) (h6 : ¬ a.i = c.i) (h7 : It.ahead a b = true) (h8 : It.due a b = false) :
    Calls Try.prog 5 #[.int .u64 t, a.val, b.val, c.val] w (Ans (.bool true) w) := by
  have HA := hid ha
  have HB := hid hb
  have HC := hid hc
  have HI0 := hid (I3.new w a b c)
  have H9 : Hid (It.ahead b a = false) := hid (by rw [ahead_ne h1 h2 h4, h7]; rfl)
  have HQ : Hid (It.due b a = true) := hid (by rw [due_ne h1 h2 h4, h8]; rfl)
  have HS : Hid (It.ahead a a = false) := hid (ahead_self h1)
  have HU : Hid (It.due a a = false) := hid (due_self h1)
  have H1 := hid h1
  have H2 := hid h2
  have H3 := hid h3
  have H4 := hid h4
  have H5 := hid h5
  have H6 := hid h6
  have H7 := hid h7
  have H8 := hid h8
  clear h1 h2 h3 h4 h5 h6 h7 h8
  clear ha hb hc
  unfold It.val
  go_enter Try.func5, Try.ntmps5
  go_wp2_with fail
  refine (Law5.awake _).mono ?_
  rintro e w1 ⟨rfl, hb⟩
  have HI1 := hid (HI0.out.below hb)
  clear hb
  obtain ⟨a0, a1, a2, a3, a4, a5, a6⟩ := It.at a HI1.out.1
  obtain ⟨b0, b1, b2, b3, b4, b5, b6⟩ := It.at b HI1.out.2.1
  obtain ⟨c0, c1, c2, c3, c4, c5, c6⟩ := It.at c HI1.out.2.2.1
  go_wp2_with fail
  refine (Law5.near t a _).mono ?_
  rintro e w2 ⟨rfl, hb⟩
  rw [H1.out]
  have HI2 := hid (HI1.out.below hb)
  clear hb
  clear a0 a1 a2 a3 a4 a5 a6 b0 b1 b2 b3 b4 b5 b6 c0 c1 c2 c3 c4 c5 c6
  obtain ⟨a0, a1, a2, a3, a4, a5, a6⟩ := It.at a HI2.out.1
  obtain ⟨b0, b1, b2, b3, b4, b5, b6⟩ := It.at b HI2.out.2.1
  obtain ⟨c0, c1, c2, c3, c4, c5, c6⟩ := It.at c HI2.out.2.2.1
  go_wp2_with fail
  refine (Law5.near t b _).mono ?_
  rintro e w3 ⟨rfl, hb⟩
  rw [H2.out]
  have HI3 := hid (HI2.out.below hb)
  clear hb
  clear a0 a1 a2 a3 a4 a5 a6 b0 b1 b2 b3 b4 b5 b6 c0 c1 c2 c3 c4 c5 c6
  obtain ⟨a0, a1, a2, a3, a4, a5, a6⟩ := It.at a HI3.out.1
  obtain ⟨b0, b1, b2, b3, b4, b5, b6⟩ := It.at b HI3.out.2.1
  obtain ⟨c0, c1, c2, c3, c4, c5, c6⟩ := It.at c HI3.out.2.2.1
  go_wp2_with fail
  refine (Law5.near t c _).mono ?_
  rintro e w4 ⟨rfl, hb⟩
  rw [H3.out]
  have HI4 := hid (HI3.out.below hb)
  clear hb
  clear a0 a1 a2 a3 a4 a5 a6 b0 b1 b2 b3 b4 b5 b6 c0 c1 c2 c3 c4 c5 c6
  have e4 : (a.i == b.i) = false := by have := H4.out; simpa using this
  have e5 : (b.i == c.i) = false := by have := H5.out; simpa using this
  have e6 : (a.i == c.i) = false := by have := H6.out; simpa using this
  obtain ⟨a0, a1, a2, a3, a4, a5, a6⟩ := It.at a HI4.out.1
  obtain ⟨b0, b1, b2, b3, b4, b5, b6⟩ := It.at b HI4.out.2.1
  obtain ⟨c0, c1, c2, c3, c4, c5, c6⟩ := It.at c HI4.out.2.2.1
  go_wp2_with fail
  clear a0 a1 a2 a3 a4 a5 a6 b0 b1 b2 b3 b4 b5 b6 c0 c1 c2 c3 c4 c5 c6
  go_region_held3 (fun w' => ((w'.cell? ⟨w.heap.size, 0, none⟩ = some (.int .u64 a.t) ∧ w'.cell? ⟨w.heap.size, 1, none⟩ = some (.int .u32 a.r) ∧ w'.cell? ⟨w.heap.size, 2, none⟩ = some (.int .u32 a.v) ∧ w'.cell? ⟨w.heap.size, 3, none⟩ = some (.int .i64 a.i) ∧ w'.cell? ⟨w.heap.size, 4, none⟩ = some (.int .u64 a.u) ∧ w'.cell? ⟨w.heap.size, 5, none⟩ = some (.int .u32 a.s) ∧ w'.cell? ⟨w.heap.size, 6, none⟩ = some (.int .u32 a.y)) ∧ (w'.cell? ⟨w.heap.size + 1, 0, none⟩ = some (.int .u64 b.t) ∧ w'.cell? ⟨w.heap.size + 1, 1, none⟩ = some (.int .u32 b.r) ∧ w'.cell? ⟨w.heap.size + 1, 2, none⟩ = some (.int .u32 b.v) ∧ w'.cell? ⟨w.heap.size + 1, 3, none⟩ = some (.int .i64 b.i) ∧ w'.cell? ⟨w.heap.size + 1, 4, none⟩ = some (.int .u64 b.u) ∧ w'.cell? ⟨w.heap.size + 1, 5, none⟩ = some (.int .u32 b.s) ∧ w'.cell? ⟨w.heap.size + 1, 6, none⟩ = some (.int .u32 b.y))) ∧ I3 w a b c w')
    (first | with_reducible exact I3.see HI4.out.drew | with_reducible exact I3.see (I3.below (And.right (by assumption : (_ ∧ _) ∧ I3 w a b c _)) hb2))
    (first
      | ((with_reducible refine (Item.ahead a b HA.out HB.out _).mono ?_); rintro e w1 ⟨rfl, hb2⟩; rw [H7.out])
      | ((with_reducible refine (Item.ahead b a HB.out HA.out _).mono ?_); rintro e w1 ⟨rfl, hb2⟩; rw [H9.out])
      | ((with_reducible refine (Item.due a b HA.out HB.out _).mono ?_); rintro e w1 ⟨rfl, hb2⟩; rw [H8.out])
      | ((with_reducible refine (Item.due b a HB.out HA.out _).mono ?_); rintro e w1 ⟨rfl, hb2⟩; rw [HQ.out])
      | ((with_reducible refine (Item.ahead a a HA.out HA.out _).mono ?_); rintro e w1 ⟨rfl, hb2⟩; rw [HS.out])
      | ((with_reducible refine (Item.due a a HA.out HA.out _).mono ?_); rintro e w1 ⟨rfl, hb2⟩; rw [HU.out]))
  all_goals
    have HI11 := hid (And.right (by assumption : (_ ∧ _) ∧ I3 w a b c w1))
    obtain ⟨a0, a1, a2, a3, a4, a5, a6⟩ := It.at a HI11.out.1
    obtain ⟨b0, b1, b2, b3, b4, b5, b6⟩ := It.at b HI11.out.2.1
    obtain ⟨c0, c1, c2, c3, c4, c5, c6⟩ := It.at c HI11.out.2.2.1
    go_wp2_with fail
    refine (Item.ahead a b HA.out HB.out _).mono ?_
    rintro e w12 ⟨rfl, hb⟩
    rw [H7.out]
    have HI12 := hid (HI11.out.below hb)
    clear hb
    clear a0 a1 a2 a3 a4 a5 a6 b0 b1 b2 b3 b4 b5 b6 c0 c1 c2 c3 c4 c5 c6
    obtain ⟨a0, a1, a2, a3, a4, a5, a6⟩ := It.at a HI12.out.1
    obtain ⟨b0, b1, b2, b3, b4, b5, b6⟩ := It.at b HI12.out.2.1
    obtain ⟨c0, c1, c2, c3, c4, c5, c6⟩ := It.at c HI12.out.2.2.1
    go_wp2_with fail
    refine (Item.ahead b c HB.out HC.out _).mono ?_
    rintro e w13 ⟨rfl, hb⟩
    have HI13 := hid (HI12.out.below hb)
    clear hb
    clear a0 a1 a2 a3 a4 a5 a6 b0 b1 b2 b3 b4 b5 b6 c0 c1 c2 c3 c4 c5 c6
    cases hbc : It.ahead b c with
    | false =>
      clear hbc
      obtain ⟨a0, a1, a2, a3, a4, a5, a6⟩ := It.at a HI13.out.1
      obtain ⟨b0, b1, b2, b3, b4, b5, b6⟩ := It.at b HI13.out.2.1
      obtain ⟨c0, c1, c2, c3, c4, c5, c6⟩ := It.at c HI13.out.2.2.1
      go_wp2_with fail
      refine (Item.due a b HA.out HB.out _).mono ?_
      rintro e w14 ⟨rfl, hb⟩
      rw [H8.out]
      have HI14 := hid (HI13.out.below hb)
      clear hb
      clear a0 a1 a2 a3 a4 a5 a6 b0 b1 b2 b3 b4 b5 b6 c0 c1 c2 c3 c4 c5 c6
      obtain ⟨a0, a1, a2, a3, a4, a5, a6⟩ := It.at a HI14.out.1
      obtain ⟨b0, b1, b2, b3, b4, b5, b6⟩ := It.at b HI14.out.2.1
      obtain ⟨c0, c1, c2, c3, c4, c5, c6⟩ := It.at c HI14.out.2.2.1
      go_wp2_with fail
      go_ret
      exact ⟨rfl, HI14.out.2.2.2⟩
    | true =>
      have HBC := hid (ahead_trans H1.out H2.out H3.out H7.out hbc)
      clear hbc
      obtain ⟨a0, a1, a2, a3, a4, a5, a6⟩ := It.at a HI13.out.1
      obtain ⟨b0, b1, b2, b3, b4, b5, b6⟩ := It.at b HI13.out.2.1
      obtain ⟨c0, c1, c2, c3, c4, c5, c6⟩ := It.at c HI13.out.2.2.1
      go_wp2_with fail
      refine (Item.ahead a c HA.out HC.out _).mono ?_
      rintro e w14 ⟨rfl, hb⟩
      rw [HBC.out]
      have HI14 := hid (HI13.out.below hb)
      clear hb
      clear a0 a1 a2 a3 a4 a5 a6 b0 b1 b2 b3 b4 b5 b6 c0 c1 c2 c3 c4 c5 c6
      obtain ⟨a0, a1, a2, a3, a4, a5, a6⟩ := It.at a HI14.out.1
      obtain ⟨b0, b1, b2, b3, b4, b5, b6⟩ := It.at b HI14.out.2.1
      obtain ⟨c0, c1, c2, c3, c4, c5, c6⟩ := It.at c HI14.out.2.2.1
      go_wp2_with fail
      refine (Item.due a b HA.out HB.out _).mono ?_
      rintro e w15 ⟨rfl, hb⟩
      rw [H8.out]
      have HI15 := hid (HI14.out.below hb)
      clear hb
      clear a0 a1 a2 a3 a4 a5 a6 b0 b1 b2 b3 b4 b5 b6 c0 c1 c2 c3 c4 c5 c6
      obtain ⟨a0, a1, a2, a3, a4, a5, a6⟩ := It.at a HI15.out.1
      obtain ⟨b0, b1, b2, b3, b4, b5, b6⟩ := It.at b HI15.out.2.1
      obtain ⟨c0, c1, c2, c3, c4, c5, c6⟩ := It.at c HI15.out.2.2.1
      go_wp2_with fail
      go_ret
      exact ⟨rfl, HI15.out.2.2.2⟩

set_option maxRecDepth 100000 in
set_option maxHeartbeats 4000000 in
theorem Iorders.main_true_true (t : Int) (a b c : It) (ha : a.In) (hb : b.In) (hc : c.In) (w : World) (h1 : It.near t a = true) (h2 : It.near t b = true) (h3 : It.near t c = true) (h4 : ¬ a.i = b.i) (h5 : ¬ b.i = c.i) (h6 : ¬ a.i = c.i) (h7 : It.ahead a b = true) (h8 : It.due a b = true) :
    Calls Try.prog 5 #[.int .u64 t, a.val, b.val, c.val] w (Ans (.bool true) w) := by
  have HA := hid ha
  have HB := hid hb
  have HC := hid hc
  have HI0 := hid (I3.new w a b c)
  have H9 : Hid (It.ahead b a = false) := hid (by rw [ahead_ne h1 h2 h4, h7]; rfl)
  have HQ : Hid (It.due b a = false) := hid (by rw [due_ne h1 h2 h4, h8]; rfl)
  have HS : Hid (It.ahead a a = false) := hid (ahead_self h1)
  have HU : Hid (It.due a a = false) := hid (due_self h1)
  have H1 := hid h1
  have H2 := hid h2
  have H3 := hid h3
  have H4 := hid h4
  have H5 := hid h5
  have H6 := hid h6
  have H7 := hid h7
  have H8 := hid h8
  clear h1 h2 h3 h4 h5 h6 h7 h8
  clear ha hb hc
  unfold It.val
  go_enter Try.func5, Try.ntmps5
  go_wp2_with fail
  refine (Law5.awake _).mono ?_
  rintro e w1 ⟨rfl, hb⟩
  have HI1 := hid (HI0.out.below hb)
  clear hb
  obtain ⟨a0, a1, a2, a3, a4, a5, a6⟩ := It.at a HI1.out.1
  obtain ⟨b0, b1, b2, b3, b4, b5, b6⟩ := It.at b HI1.out.2.1
  obtain ⟨c0, c1, c2, c3, c4, c5, c6⟩ := It.at c HI1.out.2.2.1
  go_wp2_with fail
  refine (Law5.near t a _).mono ?_
  rintro e w2 ⟨rfl, hb⟩
  rw [H1.out]
  have HI2 := hid (HI1.out.below hb)
  clear hb
  clear a0 a1 a2 a3 a4 a5 a6 b0 b1 b2 b3 b4 b5 b6 c0 c1 c2 c3 c4 c5 c6
  obtain ⟨a0, a1, a2, a3, a4, a5, a6⟩ := It.at a HI2.out.1
  obtain ⟨b0, b1, b2, b3, b4, b5, b6⟩ := It.at b HI2.out.2.1
  obtain ⟨c0, c1, c2, c3, c4, c5, c6⟩ := It.at c HI2.out.2.2.1
  go_wp2_with fail
  refine (Law5.near t b _).mono ?_
  rintro e w3 ⟨rfl, hb⟩
  rw [H2.out]
  have HI3 := hid (HI2.out.below hb)
  clear hb
  clear a0 a1 a2 a3 a4 a5 a6 b0 b1 b2 b3 b4 b5 b6 c0 c1 c2 c3 c4 c5 c6
  obtain ⟨a0, a1, a2, a3, a4, a5, a6⟩ := It.at a HI3.out.1
  obtain ⟨b0, b1, b2, b3, b4, b5, b6⟩ := It.at b HI3.out.2.1
  obtain ⟨c0, c1, c2, c3, c4, c5, c6⟩ := It.at c HI3.out.2.2.1
  go_wp2_with fail
  refine (Law5.near t c _).mono ?_
  rintro e w4 ⟨rfl, hb⟩
  rw [H3.out]
  have HI4 := hid (HI3.out.below hb)
  clear hb
  clear a0 a1 a2 a3 a4 a5 a6 b0 b1 b2 b3 b4 b5 b6 c0 c1 c2 c3 c4 c5 c6
  have e4 : (a.i == b.i) = false := by have := H4.out; simpa using this
  have e5 : (b.i == c.i) = false := by have := H5.out; simpa using this
  have e6 : (a.i == c.i) = false := by have := H6.out; simpa using this
  obtain ⟨a0, a1, a2, a3, a4, a5, a6⟩ := It.at a HI4.out.1
  obtain ⟨b0, b1, b2, b3, b4, b5, b6⟩ := It.at b HI4.out.2.1
  obtain ⟨c0, c1, c2, c3, c4, c5, c6⟩ := It.at c HI4.out.2.2.1
  go_wp2_with fail
  clear a0 a1 a2 a3 a4 a5 a6 b0 b1 b2 b3 b4 b5 b6 c0 c1 c2 c3 c4 c5 c6
  go_region_held3 (fun w' => ((w'.cell? ⟨w.heap.size, 0, none⟩ = some (.int .u64 a.t) ∧ w'.cell? ⟨w.heap.size, 1, none⟩ = some (.int .u32 a.r) ∧ w'.cell? ⟨w.heap.size, 2, none⟩ = some (.int .u32 a.v) ∧ w'.cell? ⟨w.heap.size, 3, none⟩ = some (.int .i64 a.i) ∧ w'.cell? ⟨w.heap.size, 4, none⟩ = some (.int .u64 a.u) ∧ w'.cell? ⟨w.heap.size, 5, none⟩ = some (.int .u32 a.s) ∧ w'.cell? ⟨w.heap.size, 6, none⟩ = some (.int .u32 a.y)) ∧ (w'.cell? ⟨w.heap.size + 1, 0, none⟩ = some (.int .u64 b.t) ∧ w'.cell? ⟨w.heap.size + 1, 1, none⟩ = some (.int .u32 b.r) ∧ w'.cell? ⟨w.heap.size + 1, 2, none⟩ = some (.int .u32 b.v) ∧ w'.cell? ⟨w.heap.size + 1, 3, none⟩ = some (.int .i64 b.i) ∧ w'.cell? ⟨w.heap.size + 1, 4, none⟩ = some (.int .u64 b.u) ∧ w'.cell? ⟨w.heap.size + 1, 5, none⟩ = some (.int .u32 b.s) ∧ w'.cell? ⟨w.heap.size + 1, 6, none⟩ = some (.int .u32 b.y))) ∧ I3 w a b c w')
    (first | with_reducible exact I3.see HI4.out.drew | with_reducible exact I3.see (I3.below (And.right (by assumption : (_ ∧ _) ∧ I3 w a b c _)) hb2))
    (first
      | ((with_reducible refine (Item.ahead a b HA.out HB.out _).mono ?_); rintro e w1 ⟨rfl, hb2⟩; rw [H7.out])
      | ((with_reducible refine (Item.ahead b a HB.out HA.out _).mono ?_); rintro e w1 ⟨rfl, hb2⟩; rw [H9.out])
      | ((with_reducible refine (Item.due a b HA.out HB.out _).mono ?_); rintro e w1 ⟨rfl, hb2⟩; rw [H8.out])
      | ((with_reducible refine (Item.due b a HB.out HA.out _).mono ?_); rintro e w1 ⟨rfl, hb2⟩; rw [HQ.out])
      | ((with_reducible refine (Item.ahead a a HA.out HA.out _).mono ?_); rintro e w1 ⟨rfl, hb2⟩; rw [HS.out])
      | ((with_reducible refine (Item.due a a HA.out HA.out _).mono ?_); rintro e w1 ⟨rfl, hb2⟩; rw [HU.out]))
  all_goals
    have HI11 := hid (And.right (by assumption : (_ ∧ _) ∧ I3 w a b c w1))
    obtain ⟨a0, a1, a2, a3, a4, a5, a6⟩ := It.at a HI11.out.1
    obtain ⟨b0, b1, b2, b3, b4, b5, b6⟩ := It.at b HI11.out.2.1
    obtain ⟨c0, c1, c2, c3, c4, c5, c6⟩ := It.at c HI11.out.2.2.1
    go_wp2_with fail
    refine (Item.ahead a b HA.out HB.out _).mono ?_
    rintro e w12 ⟨rfl, hb⟩
    rw [H7.out]
    have HI12 := hid (HI11.out.below hb)
    clear hb
    clear a0 a1 a2 a3 a4 a5 a6 b0 b1 b2 b3 b4 b5 b6 c0 c1 c2 c3 c4 c5 c6
    obtain ⟨a0, a1, a2, a3, a4, a5, a6⟩ := It.at a HI12.out.1
    obtain ⟨b0, b1, b2, b3, b4, b5, b6⟩ := It.at b HI12.out.2.1
    obtain ⟨c0, c1, c2, c3, c4, c5, c6⟩ := It.at c HI12.out.2.2.1
    go_wp2_with fail
    refine (Item.ahead b c HB.out HC.out _).mono ?_
    rintro e w13 ⟨rfl, hb⟩
    have HI13 := hid (HI12.out.below hb)
    clear hb
    clear a0 a1 a2 a3 a4 a5 a6 b0 b1 b2 b3 b4 b5 b6 c0 c1 c2 c3 c4 c5 c6
    cases hbc : It.ahead b c with
    | false =>
      clear hbc
      obtain ⟨a0, a1, a2, a3, a4, a5, a6⟩ := It.at a HI13.out.1
      obtain ⟨b0, b1, b2, b3, b4, b5, b6⟩ := It.at b HI13.out.2.1
      obtain ⟨c0, c1, c2, c3, c4, c5, c6⟩ := It.at c HI13.out.2.2.1
      go_wp2_with fail
      refine (Item.due a b HA.out HB.out _).mono ?_
      rintro e w14 ⟨rfl, hb⟩
      rw [H8.out]
      have HI14 := hid (HI13.out.below hb)
      clear hb
      clear a0 a1 a2 a3 a4 a5 a6 b0 b1 b2 b3 b4 b5 b6 c0 c1 c2 c3 c4 c5 c6
      obtain ⟨a0, a1, a2, a3, a4, a5, a6⟩ := It.at a HI14.out.1
      obtain ⟨b0, b1, b2, b3, b4, b5, b6⟩ := It.at b HI14.out.2.1
      obtain ⟨c0, c1, c2, c3, c4, c5, c6⟩ := It.at c HI14.out.2.2.1
      go_wp2_with fail
      refine (Item.due b c HB.out HC.out _).mono ?_
      rintro e w15 ⟨rfl, hb⟩
      have HI15 := hid (HI14.out.below hb)
      clear hb
      clear a0 a1 a2 a3 a4 a5 a6 b0 b1 b2 b3 b4 b5 b6 c0 c1 c2 c3 c4 c5 c6
      cases hdc : It.due b c with
      | false =>
        clear hdc
        obtain ⟨a0, a1, a2, a3, a4, a5, a6⟩ := It.at a HI15.out.1
        obtain ⟨b0, b1, b2, b3, b4, b5, b6⟩ := It.at b HI15.out.2.1
        obtain ⟨c0, c1, c2, c3, c4, c5, c6⟩ := It.at c HI15.out.2.2.1
        go_wp2_with fail
        go_ret
        exact ⟨rfl, HI15.out.2.2.2⟩
      | true =>
        have HDC := hid (due_trans H1.out H2.out H3.out H8.out hdc)
        clear hdc
        obtain ⟨a0, a1, a2, a3, a4, a5, a6⟩ := It.at a HI15.out.1
        obtain ⟨b0, b1, b2, b3, b4, b5, b6⟩ := It.at b HI15.out.2.1
        obtain ⟨c0, c1, c2, c3, c4, c5, c6⟩ := It.at c HI15.out.2.2.1
        go_wp2_with fail
        refine (Item.due a c HA.out HC.out _).mono ?_
        rintro e w16 ⟨rfl, hb⟩
        rw [HDC.out]
        have HI16 := hid (HI15.out.below hb)
        clear hb
        clear a0 a1 a2 a3 a4 a5 a6 b0 b1 b2 b3 b4 b5 b6 c0 c1 c2 c3 c4 c5 c6
        obtain ⟨a0, a1, a2, a3, a4, a5, a6⟩ := It.at a HI16.out.1
        obtain ⟨b0, b1, b2, b3, b4, b5, b6⟩ := It.at b HI16.out.2.1
        obtain ⟨c0, c1, c2, c3, c4, c5, c6⟩ := It.at c HI16.out.2.2.1
        go_wp2_with fail
        go_ret
        exact ⟨rfl, HI16.out.2.2.2⟩
    | true =>
      have HBC := hid (ahead_trans H1.out H2.out H3.out H7.out hbc)
      clear hbc
      obtain ⟨a0, a1, a2, a3, a4, a5, a6⟩ := It.at a HI13.out.1
      obtain ⟨b0, b1, b2, b3, b4, b5, b6⟩ := It.at b HI13.out.2.1
      obtain ⟨c0, c1, c2, c3, c4, c5, c6⟩ := It.at c HI13.out.2.2.1
      go_wp2_with fail
      refine (Item.ahead a c HA.out HC.out _).mono ?_
      rintro e w14 ⟨rfl, hb⟩
      rw [HBC.out]
      have HI14 := hid (HI13.out.below hb)
      clear hb
      clear a0 a1 a2 a3 a4 a5 a6 b0 b1 b2 b3 b4 b5 b6 c0 c1 c2 c3 c4 c5 c6
      obtain ⟨a0, a1, a2, a3, a4, a5, a6⟩ := It.at a HI14.out.1
      obtain ⟨b0, b1, b2, b3, b4, b5, b6⟩ := It.at b HI14.out.2.1
      obtain ⟨c0, c1, c2, c3, c4, c5, c6⟩ := It.at c HI14.out.2.2.1
      go_wp2_with fail
      refine (Item.due a b HA.out HB.out _).mono ?_
      rintro e w15 ⟨rfl, hb⟩
      rw [H8.out]
      have HI15 := hid (HI14.out.below hb)
      clear hb
      clear a0 a1 a2 a3 a4 a5 a6 b0 b1 b2 b3 b4 b5 b6 c0 c1 c2 c3 c4 c5 c6
      obtain ⟨a0, a1, a2, a3, a4, a5, a6⟩ := It.at a HI15.out.1
      obtain ⟨b0, b1, b2, b3, b4, b5, b6⟩ := It.at b HI15.out.2.1
      obtain ⟨c0, c1, c2, c3, c4, c5, c6⟩ := It.at c HI15.out.2.2.1
      go_wp2_with fail
      refine (Item.due b c HB.out HC.out _).mono ?_
      rintro e w16 ⟨rfl, hb⟩
      have HI16 := hid (HI15.out.below hb)
      clear hb
      clear a0 a1 a2 a3 a4 a5 a6 b0 b1 b2 b3 b4 b5 b6 c0 c1 c2 c3 c4 c5 c6
      cases hdc : It.due b c with
      | false =>
        clear hdc
        obtain ⟨a0, a1, a2, a3, a4, a5, a6⟩ := It.at a HI16.out.1
        obtain ⟨b0, b1, b2, b3, b4, b5, b6⟩ := It.at b HI16.out.2.1
        obtain ⟨c0, c1, c2, c3, c4, c5, c6⟩ := It.at c HI16.out.2.2.1
        go_wp2_with fail
        go_ret
        exact ⟨rfl, HI16.out.2.2.2⟩
      | true =>
        have HDC := hid (due_trans H1.out H2.out H3.out H8.out hdc)
        clear hdc
        obtain ⟨a0, a1, a2, a3, a4, a5, a6⟩ := It.at a HI16.out.1
        obtain ⟨b0, b1, b2, b3, b4, b5, b6⟩ := It.at b HI16.out.2.1
        obtain ⟨c0, c1, c2, c3, c4, c5, c6⟩ := It.at c HI16.out.2.2.1
        go_wp2_with fail
        refine (Item.due a c HA.out HC.out _).mono ?_
        rintro e w17 ⟨rfl, hb⟩
        rw [HDC.out]
        have HI17 := hid (HI16.out.below hb)
        clear hb
        clear a0 a1 a2 a3 a4 a5 a6 b0 b1 b2 b3 b4 b5 b6 c0 c1 c2 c3 c4 c5 c6
        obtain ⟨a0, a1, a2, a3, a4, a5, a6⟩ := It.at a HI17.out.1
        obtain ⟨b0, b1, b2, b3, b4, b5, b6⟩ := It.at b HI17.out.2.1
        obtain ⟨c0, c1, c2, c3, c4, c5, c6⟩ := It.at c HI17.out.2.2.1
        go_wp2_with fail
        go_ret
        exact ⟨rfl, HI17.out.2.2.2⟩

theorem Iorders.law (t : Int) (a b c : It) (ha : a.In) (hb : b.In) (hc : c.In) (w : World) :
    Calls Try.prog 5 #[.int .u64 t, a.val, b.val, c.val] w (Ans (.bool true) w) := by
  cases h1 : It.near t a with
  | false => exact Iorders.not1 t a b c ha hb hc w h1
  | true =>
    cases h2 : It.near t b with
    | false => exact Iorders.not2 t a b c ha hb hc w h1 h2
    | true =>
      cases h3 : It.near t c with
      | false => exact Iorders.not3 t a b c ha hb hc w h1 h2 h3
      | true =>
        by_cases h4 : a.i = b.i
        · exact Iorders.same1 t a b c ha hb hc w h1 h2 h3 h4
        · by_cases h5 : b.i = c.i
          · exact Iorders.same2 t a b c ha hb hc w h1 h2 h3 h4 h5
          · by_cases h6 : a.i = c.i
            · exact Iorders.same3 t a b c ha hb hc w h1 h2 h3 h4 h5 h6
            · cases h7 : It.ahead a b <;> cases h8 : It.due a b
              · exact Iorders.main_false_false t a b c ha hb hc w h1 h2 h3 h4 h5 h6 h7 h8
              · exact Iorders.main_false_true t a b c ha hb hc w h1 h2 h3 h4 h5 h6 h7 h8
              · exact Iorders.main_true_false t a b c ha hb hc w h1 h2 h3 h4 h5 h6 h7 h8
              · exact Iorders.main_true_true t a b c ha hb hc w h1 h2 h3 h4 h5 h6 h7 h8

end Go.Proofs.Ytcnmobehamgmbaa

/- The law of layer 5: the chapter's example; which items are near. -/
import Derived.Test.YtcnmobehamgmbaaItB
import Derived.Test.YtcnmobehamgmbaaPosE
namespace Go.Proofs.Ytcnmobehamgmbaa
open Go.RowKit

def nearOk (d : Int) : Bool := decide (-1152921504606846976 < d) && decide (d < 1152921504606846976)
def It.near (t : Int) (a : It) : Bool := nearOk (dif a.t t) && nearOk (dif a.u t) && It.right a

set_option maxHeartbeats 1000000 in
theorem Law4.Awake (w : World) : Calls Try.prog 53 #[] w (Ans (.bool true) w) := by
  go_enter Try.func53, Try.ntmps53
  go_wp2_with fail
  refine (Law4.awake _).mono ?_
  rintro e w1 ⟨rfl, hb⟩
  have HB := hid hb
  clear hb
  go_wp2_with fail
  go_ret
  exact ⟨rfl, HB.out⟩

theorem exIn1 : (It.mk 1 0 1 1 2 0 1).In := by unfold It.In; refine ⟨?_, ?_, ?_, ?_, ?_, ?_, ?_⟩ <;> exact ⟨by decide, by decide⟩
theorem exIn2 : (It.mk 1 0 1 2 2 0 1).In := by unfold It.In; refine ⟨?_, ?_, ?_, ?_, ?_, ?_, ?_⟩ <;> exact ⟨by decide, by decide⟩

set_option maxRecDepth 100000 in
set_option maxHeartbeats 2000000 in
theorem Law5.awake (w : World) : Calls Try.prog 11 #[] w (Ans (.bool true) w) := by
  go_enter Try.func11, Try.ntmps11
  go_wp2_with fail
  refine (Law4.Awake _).mono ?_
  rintro e w1 ⟨rfl, hb⟩
  have HT1 : Hid (Cs w1 w.heap.size (It.mk 1 0 1 1 2 0 1).cells ∧ Cs w1 (w.heap.size + 1) (It.mk 1 0 1 2 2 0 1).cells ∧ Below w.heap.size w w1) := hid
    ⟨((Cs.new7 w 28 (It.mk 1 0 1 1 2 0 1)).alloc _).below hb, by have := Cs.new7 (w.alloc (.cells #[.int .u64 1, .int .u32 0, .int .u32 1, .int .i64 1, .int .u64 2, .int .u32 0, .int .u32 1] 28)) 28 (It.mk 1 0 1 2 2 0 1); simp only [World.size_alloc] at this; exact this.below hb, below_on (((Below.refl _ _).alloc (Nat.le_refl _) _).alloc (by simp) _) hb⟩
  obtain ⟨p0, p1, p2, p3, p4, p5, p6⟩ := It.at _ HT1.out.1
  obtain ⟨q0, q1, q2, q3, q4, q5, q6⟩ := It.at _ HT1.out.2.1
  clear hb
  go_wp2_with fail
  refine (Item.due (It.mk 1 0 1 1 2 0 1) (It.mk 1 0 1 2 2 0 1) exIn1 exIn2 _).mono ?_
  rintro e w2 ⟨rfl, hb⟩
  rw [show It.due (It.mk 1 0 1 1 2 0 1) (It.mk 1 0 1 2 2 0 1) = true from rfl]
  have HT2 := hid (And.intro (HT1.out.1.below hb) (And.intro (HT1.out.2.1.below hb) (below_on HT1.out.2.2 hb)))
  clear hb p0 p1 p2 p3 p4 p5 p6 q0 q1 q2 q3 q4 q5 q6
  obtain ⟨p0, p1, p2, p3, p4, p5, p6⟩ := It.at _ HT2.out.1
  obtain ⟨q0, q1, q2, q3, q4, q5, q6⟩ := It.at _ HT2.out.2.1
  go_wp2_with fail
  refine (Item.due (It.mk 1 0 1 2 2 0 1) (It.mk 1 0 1 1 2 0 1) exIn2 exIn1 _).mono ?_
  rintro e w3 ⟨rfl, hb⟩
  rw [show It.due (It.mk 1 0 1 2 2 0 1) (It.mk 1 0 1 1 2 0 1) = false from rfl]
  have HB3 := hid (below_on HT2.out.2.2 hb)
  clear hb
  go_wp2_with fail
  go_ret
  exact ⟨rfl, HB3.out⟩

theorem Cs.alloc_new6 (w : World) (t : TypeId) (vs : List Value) : Cs (w.alloc (.cells vs.toArray t)) w.heap.size vs := fun i v hv => by
  refine ⟨?_, by simp [go_sem]⟩
  rw [World.cell?_alloc_new]
  simpa using hv

/-- The items' variable, and the two positions, while near goes on. -/
def Nr (w : World) (a : It) (w' : World) : Prop := Cs w' w.heap.size a.cells ∧ Cs w' (w.heap.size + 1) [.int .u64 a.t, .int .u32 a.r, .int .u32 a.v, .int .u64 a.u, .int .u32 a.s, .int .u32 a.y] ∧ Below w.heap.size w w'
theorem Nr.below {w w1 w2 : World} {a : It} (h : Nr w a w1) (hb : Below w1.heap.size w1 w2) : Nr w a w2 := ⟨h.1.below hb, h.2.1.below hb, below_on h.2.2 hb⟩

set_option maxRecDepth 100000 in
set_option maxHeartbeats 4000000 in
theorem Law5.near (t : Int) (a : It) (w : World) : Calls Try.prog 27 #[.int .u64 t, a.val] w (Ans (.bool (It.near t a)) w) := by
  have HN0 : Hid (Nr w a ((w.alloc (.cells #[.int .u64 a.t, .int .u32 a.r, .int .u32 a.v, .int .i64 a.i, .int .u64 a.u, .int .u32 a.s, .int .u32 a.y] 28)).alloc (.cells #[.int .u64 a.t, .int .u32 a.r, .int .u32 a.v, .int .u64 a.u, .int .u32 a.s, .int .u32 a.y] 26))) := hid
    ⟨(Cs.new7 _ _ _).alloc _, by have := Cs.alloc_new6 (w.alloc (.cells #[.int .u64 a.t, .int .u32 a.r, .int .u32 a.v, .int .i64 a.i, .int .u64 a.u, .int .u32 a.s, .int .u32 a.y] 28)) 26 [.int .u64 a.t, .int .u32 a.r, .int .u32 a.v, .int .u64 a.u, .int .u32 a.s, .int .u32 a.y]; simpa using this, ((Below.refl _ _).alloc (Nat.le_refl _) _).alloc (by simp) _⟩
  unfold It.val
  go_enter Try.func27, Try.ntmps27
  go_wp2_with fail
  go_loopg [14] 2 (fun s b wr => ∃ k : Nat, b = .int .i64 k ∧ k ≤ 2 ∧ s = 2 - k ∧ (1 ≤ k → nearOk (dif a.t t) = true) ∧ (2 ≤ k → nearOk (dif a.u t) = true) ∧ Nr w a wr)
  case atStart => exact ⟨0, rfl, by omega, rfl, by omega, by omega, HN0.out⟩
  case round =>
    obtain ⟨k, rfl, hk, hs, h1, h2, hn⟩ := hrel
    have HS := hid hs
    have HN := hid hn
    have q0 := (hn.2.1 0 _ rfl).1
    have q1 := (hn.2.1 1 _ rfl).1
    have q2 := (hn.2.1 2 _ rfl).1
    have q3 := (hn.2.1 3 _ rfl).1
    have q4 := (hn.2.1 4 _ rfl).1
    have q5 := (hn.2.1 5 _ rfl).1
    obtain ⟨p0, p1, p2, p3, p4, p5, p6⟩ := It.at a hn.1
    have H1 := hid h1
    have H2 := hid h2
    clear hs hn h1 h2
    match k, hk with
    | 0, _ =>
      clear p0 p1 p2 p3 p4 p5 p6
      have HF : Hid (nearOk (dif a.t t) = false → It.near t a = false) := hid (fun h => by unfold It.near; rw [h]; simp)
      go_wp2_with fail
      refine (Vtime.since a.t t _).mono ?_
      rintro e w1 ⟨rfl, hb1⟩
      have HN1 := hid ((HN.out.below ((Below.refl _ _).alloc (Nat.le_refl _) _)).below hb1)
      clear hb1 q0 q1 q2 q3 q4 q5
      by_cases c1 : dif a.t t ≤ -1152921504606846976
      · have HX : Hid (nearOk (dif a.t t) = false) := hid (by unfold nearOk; rw [decide_eq_false (by omega)]; rfl)
        go_wp2_with fail
        go_ret
        exact ⟨by rw [HF.out HX.out]; rfl, HN1.out.2.2⟩
      · by_cases c2 : 1152921504606846976 ≤ dif a.t t
        · have HX : Hid (nearOk (dif a.t t) = false) := hid (by unfold nearOk; rw [decide_eq_false (show ¬ dif a.t t < 1152921504606846976 by omega)]; simp)
          go_wp2_with fail
          go_ret
          exact ⟨by rw [HF.out HX.out]; rfl, HN1.out.2.2⟩
        · have HX : Hid (nearOk (dif a.t t) = true) := hid (by unfold nearOk; rw [decide_eq_true (by omega), decide_eq_true (by omega)]; rfl)
          go_wp2_with fail
          go_roundg (1)
          case measure => have := HS.out; omega
          case rel => exact ⟨1, rfl, by omega, rfl, fun _ => HX.out, fun h => absurd h (by omega), HN1.out⟩
    | 1, _ =>
      clear p0 p1 p2 p3 p4 p5 p6
      have HF : Hid (nearOk (dif a.u t) = false → It.near t a = false) := hid (fun h => by unfold It.near; rw [h]; simp)
      go_wp2_with fail
      refine (Vtime.since a.u t _).mono ?_
      rintro e w1 ⟨rfl, hb1⟩
      have HN1 := hid ((HN.out.below ((Below.refl _ _).alloc (Nat.le_refl _) _)).below hb1)
      clear hb1 q0 q1 q2 q3 q4 q5
      by_cases c1 : dif a.u t ≤ -1152921504606846976
      · have HX : Hid (nearOk (dif a.u t) = false) := hid (by unfold nearOk; rw [decide_eq_false (by omega)]; rfl)
        go_wp2_with fail
        go_ret
        exact ⟨by rw [HF.out HX.out]; rfl, HN1.out.2.2⟩
      · by_cases c2 : 1152921504606846976 ≤ dif a.u t
        · have HX : Hid (nearOk (dif a.u t) = false) := hid (by unfold nearOk; rw [decide_eq_false (show ¬ dif a.u t < 1152921504606846976 by omega)]; simp)
          go_wp2_with fail
          go_ret
          exact ⟨by rw [HF.out HX.out]; rfl, HN1.out.2.2⟩
        · have HX : Hid (nearOk (dif a.u t) = true) := hid (by unfold nearOk; rw [decide_eq_true (by omega), decide_eq_true (by omega)]; rfl)
          go_wp2_with fail
          go_roundg (0)
          case measure => have := HS.out; omega
          case rel => exact ⟨2, rfl, by omega, rfl, fun _ => H1.out (by omega), fun _ => HX.out, HN1.out⟩
    | 2, _ =>
      have HE : Hid (It.near t a = It.right a) := hid (by unfold It.near; rw [H1.out (by omega), H2.out (by omega)]; rfl)
      clear q0 q1 q2 q3 q4 q5
      go_wp2_with fail
      refine (Item.right a _).mono ?_
      rintro e w1 ⟨rfl, hb1⟩
      have HB := hid (below_on HN.out.2.2 hb1)
      clear hb1
      go_wp2_with fail
      go_ret
      exact ⟨by rw [HE.out]; rfl, HB.out⟩

end Go.Proofs.Ytcnmobehamgmbaa

/- Texts of RbtreePlays's proof, together. -/
import Derived.Test.YtmklbmiddeonkaaPos
import Derived.Test.YtmklbmiddeonkaaCs
import Derived.Test.YtmklbmiddeonkaaRbtreePlaysZ12
namespace Go.Proofs.Ytmklbmiddeonkaa
/- The contracts of the package pos, continued: distances. -/
section
open Go.RowKit

/-- Two variables, and all that was there, while a walk goes on. -/
def Two (w0 : World) (N : Nat) (vs : List Value) (M : Nat) (us : List Value) (w : World) : Prop := Cs w N vs ∧ Cs w M us ∧ Below w0.heap.size w0 w
theorem Two.below {w0 w w' : World} {N M : Nat} {vs us : List Value} (h : Two w0 N vs M us w) (hb : Below w.heap.size w w') : Two w0 N vs M us w' := ⟨h.1.below hb, h.2.1.below hb, below_on h.2.2 hb⟩
theorem Two.alloc {w0 w : World} {N M : Nat} {vs us : List Value} (h : Two w0 N vs M us w) (o : Obj) : Two w0 N vs M us (w.alloc o) := h.below ((Below.refl _ _).alloc (Nat.le_refl _) o)
theorem Two.drew {w0 w : World} {N M : Nat} {vs us : List Value} (h : Two w0 N vs M us w) : Two w0 N vs M us w.drew := ⟨h.1, h.2.1, h.2.2.drew⟩
theorem Two.far {w0 w : World} {N M : Nat} {vs us : List Value} (h : Two w0 N vs M us w) {g : Nat} (hN : g ≠ N) (hM : g ≠ M) (hg : w0.heap.size ≤ g) (o : Nat) (u : Value) : Two w0 N vs M us (w.setCell ⟨g, o, none⟩ u) :=
  ⟨h.1.far hN _ _, h.2.1.far hM _ _, h.2.2.setCell hg _⟩
/-- What the walk sees of it. -/
theorem Two.see {w0 w : World} {N M : Nat} {a b c : Value} {us : List Value} (h : Two w0 N [a, b, c] M us w) :
    (w.cell? ⟨N, 0, none⟩ = some a ∧ w.cell? ⟨N, 1, none⟩ = some b ∧ w.cell? ⟨N, 2, none⟩ = some c) ∧ Two w0 N [a, b, c] M us w := ⟨⟨h.1.at0, h.1.at1, h.1.at2⟩, h⟩

/-- A third one. -/
def Tri (w0 : World) (N : Nat) (vs : List Value) (M : Nat) (us : List Value) (g : Nat) (xs : List Value) (w : World) : Prop := Two w0 N vs M us w ∧ Cs w g xs
theorem Tri.below {w0 w w' : World} {N M g : Nat} {vs us xs : List Value} (h : Tri w0 N vs M us g xs w) (hb : Below w.heap.size w w') : Tri w0 N vs M us g xs w' := ⟨h.1.below hb, h.2.below hb⟩
theorem Tri.alloc {w0 w : World} {N M g : Nat} {vs us xs : List Value} (h : Tri w0 N vs M us g xs w) (o : Obj) : Tri w0 N vs M us g xs (w.alloc o) := h.below ((Below.refl _ _).alloc (Nat.le_refl _) o)
theorem Tri.drew {w0 w : World} {N M g : Nat} {vs us xs : List Value} (h : Tri w0 N vs M us g xs w) : Tri w0 N vs M us g xs w.drew := ⟨h.1.drew, h.2⟩
theorem Tri.far {w0 w : World} {N M g : Nat} {vs us xs : List Value} (h : Tri w0 N vs M us g xs w) {k : Nat} (hN : k ≠ N) (hM : k ≠ M) (hG : k ≠ g) (hg : w0.heap.size ≤ k) (o : Nat) (u : Value) : Tri w0 N vs M us g xs (w.setCell ⟨k, o, none⟩ u) :=
  ⟨h.1.far hN hM hg _ _, h.2.far hG _ _⟩
theorem Tri.see {w0 w : World} {N M g : Nat} {a b c x y : Value} {us : List Value} (h : Tri w0 N [a, b, c] M us g [x, y] w) :
    (w.cell? ⟨N, 1, none⟩ = some b ∧ w.cell? ⟨g, 0, none⟩ = some x ∧ w.cell? ⟨g, 1, none⟩ = some y) ∧ Tri w0 N [a, b, c] M us g [x, y] w := ⟨⟨h.1.1.at1, h.2.at0, h.2.at1⟩, h⟩

/-- A wide number as an answer. -/
def WV (n : Int) (w : World) (e : Ending) (w' : World) : Prop := ∃ h l : Int, e = .returned (.agg #[.int .i64 h, .int .u64 l]) ∧ IsW h l n ∧ Below w.heap.size w w'
end

/- The contracts of the package pos, continued: where a distance leads. -/
section
open Go.RowKit

set_option maxRecDepth 100000 in
set_option maxHeartbeats 4000000 in
theorem Pos.at_yes (base h l d v : Int) (hw : IsW h l d) (ok : AtOk d v) (w : World) :
    Calls Try.prog 146 #[.int .u64 base, .agg #[.int .i64 h, .int .u64 l], .int .u32 v] w fun e w' =>
      e = .returned (.tuple #[.agg #[.int .u64 (adv base (d / v)), .int .u32 (d % v), .int .u32 v], .bool true]) ∧ Below w.heap.size w w' := by
  obtain ⟨v0, v1, q0, q1⟩ := ok
  have e1 : IntKind.u64.wrap v = v := by rw [IntKind.wrap_u64]; omega
  have ew : decide (1 ≤ v ∧ v ≤ 1048576) = true := by rw [decide_eq_true_eq]; exact ⟨v0, v1⟩
  have Q0 := hid q0
  have Q1 := hid q1
  have HW := hid hw
  have EW := hid ew
  clear q0 q1 hw ew
  go_enter Try.func146, Try.ntmps146
  go_wp2_with fail
  refine (Pos.weight v _).mono ?_
  rintro e w1 ⟨rfl, hb1⟩
  rw [EW.out]
  have HT1 : Hid (Two w w.heap.size [.int .i64 h, .int .u64 l] (w.heap.size + 1) [.int .u64 0, .int .u32 0, .int .u32 0] w1) := hid (Two.below ⟨(Cs.new2 _ _ _ _).alloc _, by have := Cs.new3 (w.alloc (Obj.cells #[.int .i64 h, .int .u64 l] 157)) 26 (.int .u64 0) (.int .u32 0) (.int .u32 0); simpa using this, ((Below.refl _ _).alloc (Nat.le_refl _) _).alloc (by simp) _⟩ hb1)
  have x0 := HT1.out.1.at0
  have x1 := HT1.out.1.at1
  clear hb1
  go_wp2_with fail
  refine (Wide.div h l d v HW.out (by omega) (by omega) _).mono ?_
  rintro e w2 ⟨hq, lq, q, r, rfl, ⟨hq1, hq2, r0, r1⟩, hb2⟩
  obtain ⟨rfl, rfl⟩ := div_uniq hq2 r0 r1
  have HQ := hid hq1
  have HT2 := hid (HT1.out.below hb2)
  have e2 : IntKind.u32.wrap (d % v) = d % v := by rw [IntKind.wrap_u32]; omega
  clear hq1 hq2 hb2 x0 x1
  go_wp2_with fail
  refine (Wide.small hq lq (d / v) HQ.out Q0.out Q1.out _).mono ?_
  rintro e w3 ⟨rfl, hb3⟩
  have HT3 := hid (HT2.out.below (((Below.refl _ _).alloc (Nat.le_refl _) (.cells #[.int .i64 hq, .int .u64 lq] 157)).trans (hb3.mono (by simp))))
  clear hb3
  go_wp2_with fail
  refine (Vtime.add base (d / v) _).mono ?_
  rintro e w4 ⟨rfl, hb4⟩
  have HT4 := hid (HT3.out.below hb4)
  have y0 := HT4.out.2.1.at0
  have y1 := HT4.out.2.1.at1
  have y2 := HT4.out.2.1.at2
  have y3 := HT4.out.2.1.fr0
  have y4 := HT4.out.2.1.fr1
  have y5 := HT4.out.2.1.fr2
  clear hb4
  go_wp2_with fail
  refine bodyPost_ret (v := .tuple #[.agg #[.int .u64 (adv base (d / v)), .int .u32 (d % v), .int .u32 v], .bool true]) (by simp [results, Try.results146, go_sem, y0, y1, y2]) rfl ⟨rfl, ?_⟩
  exact ((HT4.out.2.2.setCell (by simp) _).setCell (by simp) _).setCell (by simp) _

set_option maxRecDepth 100000 in
set_option maxHeartbeats 4000000 in
theorem Pos.at_no (base h l d v : Int) (hw : IsW h l d) (v0 : 0 ≤ v) (v1 : v ≤ 4294967295) (no : ¬ AtOk d v) (w : World) :
    Calls Try.prog 146 #[.int .u64 base, .agg #[.int .i64 h, .int .u64 l], .int .u32 v] w fun e w' =>
      e = .returned (.tuple #[.agg #[.int .u64 0, .int .u32 0, .int .u32 0], .bool false]) ∧ Below w.heap.size w w' := by
  by_cases c : 1 ≤ v ∧ v ≤ 1048576
  · have e1 : IntKind.u64.wrap v = v := by rw [IntKind.wrap_u64]; omega
    have ew : decide (1 ≤ v ∧ v ≤ 1048576) = true := by rw [decide_eq_true_eq]; exact c
    have q0 : d / v < -9223372036854775808 ∨ 9223372036854775807 < d / v := by unfold AtOk at no; omega
    have c0 : 0 < v := c.1
    have Q0 := hid q0
    have HW := hid hw
    have EW := hid ew
    clear q0 hw ew no c
    go_enter Try.func146, Try.ntmps146
    go_wp2_with fail
    refine (Pos.weight v _).mono ?_
    rintro e w1 ⟨rfl, hb1⟩
    rw [EW.out]
    have HT1 : Hid (Two w w.heap.size [.int .i64 h, .int .u64 l] (w.heap.size + 1) [.int .u64 0, .int .u32 0, .int .u32 0] w1) := hid (Two.below ⟨(Cs.new2 _ _ _ _).alloc _, by have := Cs.new3 (w.alloc (Obj.cells #[.int .i64 h, .int .u64 l] 157)) 26 (.int .u64 0) (.int .u32 0) (.int .u32 0); simpa using this, ((Below.refl _ _).alloc (Nat.le_refl _) _).alloc (by simp) _⟩ hb1)
    have x0 := HT1.out.1.at0
    have x1 := HT1.out.1.at1
    clear hb1
    go_wp2_with fail
    refine (Wide.div h l d v HW.out c0 (by omega) _).mono ?_
    rintro e w2 ⟨hq, lq, q, r, rfl, ⟨hq1, hq2, r0, r1⟩, hb2⟩
    obtain ⟨rfl, rfl⟩ := div_uniq hq2 r0 r1
    have HQ := hid hq1
    have HT2 := hid (HT1.out.below hb2)
    clear hq1 hq2 hb2 x0 x1
    go_wp2_with fail
    refine (Wide.small_no hq lq (d / v) HQ.out Q0.out _).mono ?_
    rintro e w3 ⟨rfl, hb3⟩
    have HT3 := hid (HT2.out.below (((Below.refl _ _).alloc (Nat.le_refl _) (.cells #[.int .i64 hq, .int .u64 lq] 157)).trans (hb3.mono (by simp))))
    have y0 := HT3.out.2.1.at0
    have y1 := HT3.out.2.1.at1
    have y2 := HT3.out.2.1.at2
    have y3 := HT3.out.2.1.fr0
    have y4 := HT3.out.2.1.fr1
    have y5 := HT3.out.2.1.fr2
    clear hb3
    go_wp2_with fail
    refine bodyPost_ret (v := .tuple #[.agg #[.int .u64 0, .int .u32 0, .int .u32 0], .bool false]) (by simp [results, Try.results146, go_sem, y0, y1, y2]) rfl ⟨rfl, ?_⟩
    exact ((HT3.out.2.2.setCell (by simp) _).setCell (by simp) _).setCell (by simp) _
  · have ew : decide (1 ≤ v ∧ v ≤ 1048576) = false := by rw [decide_eq_false_iff_not]; exact c
    have EW := hid ew
    clear ew no c
    go_enter Try.func146, Try.ntmps146
    go_wp2_with fail
    refine (Pos.weight v _).mono ?_
    rintro e w1 ⟨rfl, hb1⟩
    rw [EW.out]
    have HT3 : Hid (Two w w.heap.size [.int .i64 h, .int .u64 l] (w.heap.size + 1) [.int .u64 0, .int .u32 0, .int .u32 0] w1) := hid (Two.below ⟨(Cs.new2 _ _ _ _).alloc _, by have := Cs.new3 (w.alloc (Obj.cells #[.int .i64 h, .int .u64 l] 157)) 26 (.int .u64 0) (.int .u32 0) (.int .u32 0); simpa using this, ((Below.refl _ _).alloc (Nat.le_refl _) _).alloc (by simp) _⟩ hb1)
    have y0 := HT3.out.2.1.at0
    have y1 := HT3.out.2.1.at1
    have y2 := HT3.out.2.1.at2
    have y3 := HT3.out.2.1.fr0
    have y4 := HT3.out.2.1.fr1
    have y5 := HT3.out.2.1.fr2
    clear hb1
    go_wp2_with fail
    refine bodyPost_ret (v := .tuple #[.agg #[.int .u64 0, .int .u32 0, .int .u32 0], .bool false]) (by simp [results, Try.results146, go_sem, y0, y1, y2]) rfl ⟨rfl, ?_⟩
    exact ((HT3.out.2.2.setCell (by simp) _).setCell (by simp) _).setCell (by simp) _

/-- What a call answers, and that nothing that was there is written. -/
def Ans (v : Value) (w : World) (e : Ending) (w' : World) : Prop := e = .returned v ∧ Below w.heap.size w w'

set_option maxRecDepth 100000 in
set_option maxHeartbeats 4000000 in
/-- Move, by what At answers. -/
theorem Pos.move_of (t r v a : Int) (r0 : 0 ≤ r) (r1 : r ≤ 4294967295) (a0 : 0 ≤ a) (a1 : a ≤ 18446744073709551615) (T R V : Int) (b : Bool) (w : World)
    (hat : ∀ h l, IsW h l (a + r) → ∀ w, Calls Try.prog 146 #[.int .u64 t, .agg #[.int .i64 h, .int .u64 l], .int .u32 v] w (Ans (.tuple #[.agg #[.int .u64 T, .int .u32 R, .int .u32 V], .bool b]) w)) :
    Calls Try.prog 125 #[.agg #[.int .u64 t, .int .u32 r, .int .u32 v], .int .u64 a] w (Ans (.tuple #[.agg #[.int .u64 T, .int .u32 R, .int .u32 V], .bool b]) w) := by
  have e1 : IntKind.u64.wrap r = r := by rw [IntKind.wrap_u64]; omega
  have hm : WR (a + r) := by unfold WR; omega
  have HM := hid hm
  have HA := hid hat
  have A0 := hid a0
  have A1 := hid a1
  have R0 := hid r0
  have R1 := hid (show r ≤ 18446744073709551615 by omega)
  clear hm hat a0 a1 r0 r1
  go_enter Try.func125, Try.ntmps125
  go_wp2_with fail
  obtain ⟨W0, hW⟩ : ∃ W0, W0 = (w.alloc (Obj.cells #[.int .u64 t, .int .u32 r, .int .u32 v] 26)).alloc (Obj.cells #[.int .u64 0, .int .u32 0, .int .u32 0] 26) := ⟨_, rfl⟩
  rw [← hW]
  have HQ0 : Hid (Two w w.heap.size [.int .u64 t, .int .u32 r, .int .u32 v] (w.heap.size + 1) [.int .u64 0, .int .u32 0, .int .u32 0] W0) := hid (by rw [hW]; exact ⟨(Cs.new3 _ _ _ _ _).alloc _, by have := Cs.new3 (w.alloc (Obj.cells #[.int .u64 t, .int .u32 r, .int .u32 v] 26)) 26 (.int .u64 0) (.int .u32 0) (.int .u32 0); simpa using this, ((Below.refl _ _).alloc (Nat.le_refl _) _).alloc (by simp) _⟩)
  have hz : w.heap.size + 1 < W0.heap.size := HQ0.out.2.1.lt
  clear hW
  go_cut [6] (fun p wc => ∃ (g : Nat) (h l : Int), p = .pointer (some ⟨g, 0, none⟩) ∧ w.heap.size + 1 < g ∧ IsW h l (a + r) ∧ Cs wc g [.int .i64 h, .int .u64 l] ∧ Two w w.heap.size [.int .u64 t, .int .u32 r, .int .u32 v] (w.heap.size + 1) [.int .u64 0, .int .u32 0, .int .u32 0] wc)
  case first =>
    go_region_held3 (fun w' => (w'.cell? ⟨w.heap.size, 0, none⟩ = some (.int .u64 t) ∧ w'.cell? ⟨w.heap.size, 1, none⟩ = some (.int .u32 r) ∧ w'.cell? ⟨w.heap.size, 2, none⟩ = some (.int .u32 v)) ∧ Two w w.heap.size [.int .u64 t, .int .u32 r, .int .u32 v] (w.heap.size + 1) [.int .u64 0, .int .u32 0, .int .u32 0] w')
      (first | with_reducible exact HQ0.out.drew.see | ((try dsimp only); refine Two.see ?_; repeat (first | with_reducible exact HQ0.out | with_reducible exact hQ4.out | with_reducible exact hQ3.out | with_reducible exact hQ2.out | with_reducible refine Two.drew ?_ | with_reducible refine Two.alloc ?_ _ | with_reducible refine Two.far ?_ (by omega) (by omega) (by omega) _ _)))
      (first
        | (go_at_call_of 144 (Value.int .u64 a); refine (Wide.ofU a A0.out A1.out _).mono ?_; rintro e w2 ⟨rfl, hw2, hb2⟩; have hQ2 := hid ((And.right (by assumption : (_ ∧ _ ∧ _) ∧ Two w w.heap.size [.int .u64 t, .int .u32 r, .int .u32 v] (w.heap.size + 1) [.int .u64 0, .int .u32 0, .int .u32 0] _)).below hb2); have HW2 := hid hw2; clear hw2; (try (have F := hid (Cs.below (by first | with_reducible exact F.out | with_reducible exact Cs.new2 _ _ _ _ | with_reducible exact Cs.drew (Cs.new2 _ _ _ _) | with_reducible exact Cs.alloc F.out _) hb2); have F0 := F.out.at0; have F1 := F.out.at1; have F2 := F.out.fr0; have F3 := F.out.fr1; have F4 := F.out.lt)); (have G := hQ2.out.1.lt); (have G' := hQ2.out.2.1.lt))
        | (go_at_call_of 144 (Value.int .u64 r); refine (Wide.ofU r R0.out R1.out _).mono ?_; rintro e w3 ⟨rfl, hw3, hb3⟩; have hQ3 := hid ((And.right (by assumption : (_ ∧ _ ∧ _) ∧ Two w w.heap.size [.int .u64 t, .int .u32 r, .int .u32 v] (w.heap.size + 1) [.int .u64 0, .int .u32 0, .int .u32 0] _)).below hb3); have HW3 := hid hw3; clear hw3; (try (have F := hid (Cs.below (by first | with_reducible exact F.out | with_reducible exact Cs.new2 _ _ _ _ | with_reducible exact Cs.drew (Cs.new2 _ _ _ _) | with_reducible exact Cs.alloc F.out _) hb3); have F0 := F.out.at0; have F1 := F.out.at1; have F2 := F.out.fr0; have F3 := F.out.fr1; have F4 := F.out.lt)); (have G := hQ3.out.1.lt); (have G' := hQ3.out.2.1.lt))
        | (go_at_call 145; refine (Wide.add 0 a 0 r a r HW2.out HW3.out _).mono ?_; rintro e w4 ⟨h4, l4, ok4, rfl, hr4, hb4⟩; have hQ4 := hid ((And.right (by assumption : (_ ∧ _ ∧ _) ∧ Two w w.heap.size [.int .u64 t, .int .u32 r, .int .u32 v] (w.heap.size + 1) [.int .u64 0, .int .u32 0, .int .u32 0] _)).below hb4); obtain ⟨rfl, hw4⟩ := wres_ok hr4 HM.out; have HW4 := hid hw4; clear hr4 hw4; (try (have F := hid (Cs.below (by first | with_reducible exact F.out | with_reducible exact Cs.new2 _ _ _ _ | with_reducible exact Cs.drew (Cs.new2 _ _ _ _) | with_reducible exact Cs.alloc F.out _) hb4); have F0 := F.out.at0; have F1 := F.out.at1; have F2 := F.out.fr0; have F3 := F.out.fr1; have F4 := F.out.lt)); (have G := hQ4.out.1.lt); (have G' := hQ4.out.2.1.lt)))
    all_goals
      go_wp2_with fail
      go_meet
      refine ⟨_, h4, l4, rfl, ?_, HW4.out, ?_, And.right (by assumption : (_ ∧ _ ∧ _) ∧ Two w w.heap.size [.int .u64 t, .int .u32 r, .int .u32 v] (w.heap.size + 1) [.int .u64 0, .int .u32 0, .int .u32 0] _)⟩
      all_goals first
        | omega
        | with_reducible exact Cs.new2 _ _ _ _
        | with_reducible exact Cs.put2 F.out _ _
        | with_reducible exact Cs.put2 (Cs.new2 _ _ _ _) _ _
        | with_reducible exact Cs.put2 (Cs.drew (Cs.new2 _ _ _ _)) _ _
        | with_reducible exact Cs.put2 (Cs.drew F.out) _ _
  case rest =>
    obtain ⟨g, h, l, rfl, hg, hw, hcs, hT⟩ := hcut
    have HW := hid hw
    have HT := hid hT
    have z1 := hT.1.lt
    have z2 := hT.2.1.lt
    have z3 := hcs.lt
    have x0 := hT.1.at0
    have x2 := hT.1.at2
    have g0 := hcs.at0
    have g1 := hcs.at1
    clear hw hT hcs HQ0 hz e1
    go_wp2_with fail
    refine (HA.out h l HW.out _).mono ?_
    rintro e w5 ⟨rfl, hb5⟩
    have HT5 := hid (HT.out.below hb5)
    have y0 := HT5.out.2.1.at0
    have y1 := HT5.out.2.1.at1
    have y2 := HT5.out.2.1.at2
    have y3 := HT5.out.2.1.fr0
    have y4 := HT5.out.2.1.fr1
    have y5 := HT5.out.2.1.fr2
    clear hb5 x0 x2 g0 g1 z1 z2 z3
    go_wp2_with fail
    refine bodyPost_ret (v := .tuple #[.agg #[.int .u64 T, .int .u32 R, .int .u32 V], .bool b]) (by simp [results, Try.results125, go_sem, y0, y1, y2]) rfl ⟨rfl, ?_⟩
    exact ((HT5.out.2.2.setCell (by simp) _).setCell (by simp) _).setCell (by simp) _

theorem Pos.move_yes (t r v a : Int) (r0 : 0 ≤ r) (r1 : r ≤ 4294967295) (a0 : 0 ≤ a) (a1 : a ≤ 18446744073709551615) (ok : AtOk (a + r) v) (w : World) :
    Calls Try.prog 125 #[.agg #[.int .u64 t, .int .u32 r, .int .u32 v], .int .u64 a] w (Ans (.tuple #[.agg #[.int .u64 (adv t ((a + r) / v)), .int .u32 ((a + r) % v), .int .u32 v], .bool true]) w) :=
  Pos.move_of t r v a r0 r1 a0 a1 _ _ _ _ w fun h l hw w => Pos.at_yes t h l (a + r) v hw ok w
theorem Pos.move_no (t r v a : Int) (r0 : 0 ≤ r) (r1 : r ≤ 4294967295) (v0 : 0 ≤ v) (v1 : v ≤ 4294967295) (a0 : 0 ≤ a) (a1 : a ≤ 18446744073709551615) (no : ¬ AtOk (a + r) v) (w : World) :
    Calls Try.prog 125 #[.agg #[.int .u64 t, .int .u32 r, .int .u32 v], .int .u64 a] w (Ans (.tuple #[.agg #[.int .u64 0, .int .u32 0, .int .u32 0], .bool false]) w) :=
  Pos.move_of t r v a r0 r1 a0 a1 _ _ _ _ w fun h l hw w => Pos.at_no t h l (a + r) v hw v0 v1 no w
end

end Go.Proofs.Ytmklbmiddeonkaa

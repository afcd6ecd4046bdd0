/- The contracts of the package pos, continued: distances. -/
import Derived.Test.YtjklcbbanlaicaaPos
import Derived.Test.YtjklcbbanlaicaaCs
import Derived.Test.YtjklcbbanlaicaaWideD
namespace Go.Proofs.Ytjklcbbanlaicaa
open Go.RowKit

/-- Two variables, and all that was there, while a walk goes on. -/
def Two (w0 : World) (N : Nat) (vs : List Value) (M : Nat) (us : List Value) (w : World) : Prop := Cs w N vs ∧ Cs w M us ∧ Below w0.heap.size w0 w
theorem Two.below {w0 w w' : World} {N M : Nat} {vs us : List Value} (h : Two w0 N vs M us w) (hb : Below w.heap.size w w') : Two w0 N vs M us w' := ⟨h.1.below hb, h.2.1.below hb, below_on h.2.2 hb⟩
theorem Two.alloc {w0 w : World} {N M : Nat} {vs us : List Value} (h : Two w0 N vs M us w) (o : Obj) : Two w0 N vs M us (w.alloc o) := h.below ((Below.refl _ _).alloc (Nat.le_refl _) o)
theorem Two.drew {w0 w : World} {N M : Nat} {vs us : List Value} (h : Two w0 N vs M us w) : Two w0 N vs M us w.drew := ⟨h.1, h.2.1, h.2.2.drew⟩
theorem Two.far {w0 w : World} {N M : Nat} {vs us : List Value} (h : Two w0 N vs M us w) {g : Nat} (hN : g ≠ N) (hM : g ≠ M) (hg : w0.heap.size ≤ g) (o : Nat) (u : Value) : Two w0 N vs M us (w.setCell ⟨g, o, none⟩ u) :=
  ⟨h.1.far hN _ _, h.2.1.far hM _ _, h.2.2.setCell hg _⟩
/-- What the walk sees of it. -/
theorem Two.see {w0 w : World} {N M : Nat} {a b c : Value} {us : List Value} (h : Two w0 N [a, b, c] M us w) :
    (w.cell? ⟨N, 0, none⟩ = some a ∧ w.cell? ⟨N, 1, none⟩ = some b ∧ w.cell? ⟨N, 2, none⟩ = some c) ∧ Two w0 N [a, b, c] M us w := ⟨⟨h.1.at0, h.1.at1, h.1.at2⟩, h⟩

/-- A third one. -/
def Tri (w0 : World) (N : Nat) (vs : List Value) (M : Nat) (us : List Value) (g : Nat) (xs : List Value) (w : World) : Prop := Two w0 N vs M us w ∧ Cs w g xs
theorem Tri.below {w0 w w' : World} {N M g : Nat} {vs us xs : List Value} (h : Tri w0 N vs M us g xs w) (hb : Below w.heap.size w w') : Tri w0 N vs M us g xs w' := ⟨h.1.below hb, h.2.below hb⟩
theorem Tri.alloc {w0 w : World} {N M g : Nat} {vs us xs : List Value} (h : Tri w0 N vs M us g xs w) (o : Obj) : Tri w0 N vs M us g xs (w.alloc o) := h.below ((Below.refl _ _).alloc (Nat.le_refl _) o)
theorem Tri.drew {w0 w : World} {N M g : Nat} {vs us xs : List Value} (h : Tri w0 N vs M us g xs w) : Tri w0 N vs M us g xs w.drew := ⟨h.1.drew, h.2⟩
theorem Tri.far {w0 w : World} {N M g : Nat} {vs us xs : List Value} (h : Tri w0 N vs M us g xs w) {k : Nat} (hN : k ≠ N) (hM : k ≠ M) (hG : k ≠ g) (hg : w0.heap.size ≤ k) (o : Nat) (u : Value) : Tri w0 N vs M us g xs (w.setCell ⟨k, o, none⟩ u) :=
  ⟨h.1.far hN hM hg _ _, h.2.far hG _ _⟩
theorem Tri.see {w0 w : World} {N M g : Nat} {a b c x y : Value} {us : List Value} (h : Tri w0 N [a, b, c] M us g [x, y] w) :
    (w.cell? ⟨N, 1, none⟩ = some b ∧ w.cell? ⟨g, 0, none⟩ = some x ∧ w.cell? ⟨g, 1, none⟩ = some y) ∧ Tri w0 N [a, b, c] M us g [x, y] w := ⟨⟨h.1.1.at1, h.2.at0, h.2.at1⟩, h⟩

/-- A wide number as an answer. -/
def WV (n : Int) (w : World) (e : Ending) (w' : World) : Prop := ∃ h l : Int, e = .returned (.agg #[.int .i64 h, .int .u64 l]) ∧ IsW h l n ∧ Below w.heap.size w w'

set_option maxRecDepth 100000 in
set_option maxHeartbeats 4000000 in
theorem Pos.distance (t r v base : Int) (r0 : 0 ≤ r) (r1 : r ≤ 4294967295) (v0 : 0 ≤ v) (v1 : v ≤ 4294967295) (w : World) :
    Calls Try.prog 57 #[.agg #[.int .u64 t, .int .u32 r, .int .u32 v], .int .u64 base] w (WV (dif t base * v + r) w) := by
  obtain ⟨d0, d1⟩ := dif_bd t base
  have m0 : -9223372036854775808 * 4294967295 ≤ dif t base * v := by
    have : -9223372036854775808 * v ≤ dif t base * v := Int.mul_le_mul_of_nonneg_right d0 v0
    omega
  have m1 : dif t base * v ≤ 9223372036854775807 * 4294967295 := by
    have : dif t base * v ≤ 9223372036854775807 * v := Int.mul_le_mul_of_nonneg_right d1 v0
    omega
  have HM0 := hid m0
  have HM1 := hid m1
  clear m0 m1
  have D0 := hid d0
  have D1 := hid d1
  have e1 : wrap64 v = v := by unfold wrap64; omega
  have e2 : IntKind.i64.wrap v = v := by rw [IntKind.wrap_i64]; omega
  clear d0 d1
  go_enter Try.func57, Try.ntmps57
  go_wp2_with fail
  obtain ⟨W0, hW⟩ : ∃ W0, W0 = (w.alloc (Obj.cells #[.int .u64 t, .int .u32 r, .int .u32 v] 75)).alloc (Obj.cells #[.int .i64 0, .int .u64 0] 29) := ⟨_, rfl⟩
  rw [← hW]
  have HQ0 : Hid (Two w w.heap.size [.int .u64 t, .int .u32 r, .int .u32 v] (w.heap.size + 1) [.int .i64 0, .int .u64 0] W0) := hid (by rw [hW]; exact ⟨(Cs.new3 _ _ _ _ _).alloc _, by have := Cs.new2 (w.alloc (Obj.cells #[.int .u64 t, .int .u32 r, .int .u32 v] 75)) 29 (.int .i64 0) (.int .u64 0); simpa using this, ((Below.refl _ _).alloc (Nat.le_refl _) _).alloc (by simp) _⟩)
  have hz : w.heap.size + 1 < W0.heap.size := HQ0.out.2.1.lt
  clear hW
  go_cut [5, 6] (fun p q wc => ∃ (g : Nat) (h l : Int), p = .pointer (some ⟨g, 0, none⟩) ∧ q = .bool true ∧ w.heap.size + 1 < g ∧ IsW h l (dif t base * v) ∧ Cs wc g [.int .i64 h, .int .u64 l] ∧ Two w w.heap.size [.int .u64 t, .int .u32 r, .int .u32 v] (w.heap.size + 1) [.int .i64 0, .int .u64 0] wc)
  case first =>
    go_region_held3 (fun w' => (w'.cell? ⟨w.heap.size, 0, none⟩ = some (.int .u64 t) ∧ w'.cell? ⟨w.heap.size, 1, none⟩ = some (.int .u32 r) ∧ w'.cell? ⟨w.heap.size, 2, none⟩ = some (.int .u32 v)) ∧ Two w w.heap.size [.int .u64 t, .int .u32 r, .int .u32 v] (w.heap.size + 1) [.int .i64 0, .int .u64 0] w')
      (first | with_reducible exact HQ0.out.drew.see | ((try dsimp only); refine Two.see ?_; repeat (first | with_reducible exact HQ0.out | with_reducible exact hQ4.out | with_reducible exact hQ3.out | with_reducible exact hQ2.out | with_reducible refine Two.drew ?_ | with_reducible refine Two.alloc ?_ _ | with_reducible refine Two.far ?_ (by omega) (by omega) (by omega) _ _)))
      (first
        | (go_at_call 42; refine (Vtime.since t base _).mono ?_; rintro e w2 ⟨rfl, hb2⟩; have hQ2 := hid ((And.right (by assumption : (_ ∧ _ ∧ _) ∧ Two w w.heap.size [.int .u64 t, .int .u32 r, .int .u32 v] (w.heap.size + 1) [.int .i64 0, .int .u64 0] _)).below hb2); (try (have F := hid (Cs.below (by first | with_reducible exact F.out | with_reducible exact Cs.new2 _ _ _ _ | with_reducible exact Cs.drew (Cs.new2 _ _ _ _) | with_reducible exact Cs.alloc F.out _) hb2); have F0 := F.out.at0; have F1 := F.out.at1; have F2 := F.out.fr0; have F3 := F.out.fr1; have F4 := F.out.lt)); (have G := hQ2.out.1.lt); (have G' := hQ2.out.2.1.lt))
        | (go_at_call 66; refine (Wide.ofN (dif t base) D0.out D1.out _).mono ?_; rintro e w3 ⟨h3, l3, rfl, hw3, hb3⟩; have hQ3 := hid ((And.right (by assumption : (_ ∧ _ ∧ _) ∧ Two w w.heap.size [.int .u64 t, .int .u32 r, .int .u32 v] (w.heap.size + 1) [.int .i64 0, .int .u64 0] _)).below hb3); have HW3 := hid hw3; clear hw3; (try (have F := hid (Cs.below (by first | with_reducible exact F.out | with_reducible exact Cs.new2 _ _ _ _ | with_reducible exact Cs.drew (Cs.new2 _ _ _ _) | with_reducible exact Cs.alloc F.out _) hb3); have F0 := F.out.at0; have F1 := F.out.at1; have F2 := F.out.fr0; have F3 := F.out.fr1; have F4 := F.out.lt)); (have G := hQ3.out.1.lt); (have G' := hQ3.out.2.1.lt))
        | (go_at_call 26; refine (Wide.mul h3 l3 v (dif t base) HW3.out (by omega) (by omega) _).mono ?_; rintro e w4 ⟨h4, l4, ok4, rfl, hr4, hb4⟩; have hQ4 := hid ((And.right (by assumption : (_ ∧ _ ∧ _) ∧ Two w w.heap.size [.int .u64 t, .int .u32 r, .int .u32 v] (w.heap.size + 1) [.int .i64 0, .int .u64 0] _)).below hb4); obtain ⟨rfl, hw4⟩ := wres_ok hr4 (by unfold WR; exact ⟨by have := HM0.out; omega, by have := HM1.out; omega⟩); have HW4 := hid hw4; clear hr4 hw4; (try (have F := hid (Cs.below (by first | with_reducible exact F.out | with_reducible exact Cs.new2 _ _ _ _ | with_reducible exact Cs.drew (Cs.new2 _ _ _ _) | with_reducible exact Cs.alloc F.out _) hb4); have F0 := F.out.at0; have F1 := F.out.at1; have F2 := F.out.fr0; have F3 := F.out.fr1; have F4 := F.out.lt)); (have G := hQ4.out.1.lt); (have G' := hQ4.out.2.1.lt)))
    all_goals
      go_wp2_with fail
      go_meet
      refine ⟨_, h4, l4, rfl, rfl, ?_, HW4.out, ?_, And.right (by assumption : (_ ∧ _ ∧ _) ∧ Two w w.heap.size [.int .u64 t, .int .u32 r, .int .u32 v] (w.heap.size + 1) [.int .i64 0, .int .u64 0] _)⟩
      all_goals first
        | omega
        | with_reducible exact Cs.new2 _ _ _ _
        | with_reducible exact Cs.put2 F.out _ _
        | with_reducible exact Cs.put2 (Cs.new2 _ _ _ _) _ _
        | with_reducible exact Cs.put2 (Cs.drew (Cs.new2 _ _ _ _)) _ _
        | with_reducible exact Cs.put2 (Cs.drew F.out) _ _
  case rest =>
    obtain ⟨g, h, l, rfl, rfl, hg, hw, hcs, hT⟩ := hcut
    have HW := hid hw
    have HT := hid (show Tri w w.heap.size [.int .u64 t, .int .u32 r, .int .u32 v] (w.heap.size + 1) [.int .i64 0, .int .u64 0] g [.int .i64 h, .int .u64 l] _ from ⟨hT, hcs⟩)
    have z1 := hT.1.lt
    have z2 := hT.2.1.lt
    have z3 := hcs.lt
    clear hw hT hcs HQ0 hz D0 D1 e1 e2
    have e3 : IntKind.u64.wrap r = r := by rw [IntKind.wrap_u64]; omega
    go_wp2_with fail
    go_cut [7] (fun p wc => ∃ (k : Nat) (h5 l5 : Int), p = .pointer (some ⟨k, 0, none⟩) ∧ w.heap.size + 1 < k ∧ IsW h5 l5 (dif t base * v + r) ∧ Cs wc k [.int .i64 h5, .int .u64 l5] ∧ Two w w.heap.size [.int .u64 t, .int .u32 r, .int .u32 v] (w.heap.size + 1) [.int .i64 0, .int .u64 0] wc)
    case first =>
      go_region_held3 (fun w' => (w'.cell? ⟨w.heap.size, 1, none⟩ = some (.int .u32 r) ∧ w'.cell? ⟨g, 0, none⟩ = some (.int .i64 h) ∧ w'.cell? ⟨g, 1, none⟩ = some (.int .u64 l)) ∧ Tri w w.heap.size [.int .u64 t, .int .u32 r, .int .u32 v] (w.heap.size + 1) [.int .i64 0, .int .u64 0] g [.int .i64 h, .int .u64 l] w')
        (first | with_reducible exact HT.out.drew.see | ((try dsimp only); refine Tri.see ?_; repeat (first | with_reducible exact HT.out | with_reducible exact hQ6.out | with_reducible exact hQ5.out | with_reducible refine Tri.drew ?_ | with_reducible refine Tri.alloc ?_ _ | with_reducible refine Tri.far ?_ (by omega) (by omega) (by omega) (by omega) _ _)))
        (first
          | (go_at_call 68; refine (Wide.ofU r r0 (by omega) _).mono ?_; rintro e w5 ⟨rfl, hw5, hb5⟩; have hQ5 := hid ((And.right (by assumption : (_ ∧ _ ∧ _) ∧ Tri w w.heap.size [.int .u64 t, .int .u32 r, .int .u32 v] (w.heap.size + 1) [.int .i64 0, .int .u64 0] g [.int .i64 h, .int .u64 l] _)).below hb5); have HW5 := hid hw5; clear hw5; (try (have F := hid (Cs.below (by first | with_reducible exact F.out | with_reducible exact Cs.new2 _ _ _ _ | with_reducible exact Cs.drew (Cs.new2 _ _ _ _) | with_reducible exact Cs.alloc F.out _) hb5); have F0 := F.out.at0; have F1 := F.out.at1; have F2 := F.out.fr0; have F3 := F.out.fr1; have F4 := F.out.lt)); (have G := hQ5.out.1.1.lt); (have G'' := hQ5.out.2.lt); (have G' := hQ5.out.1.2.1.lt))
          | (go_at_call 24; refine (Wide.add h l 0 r (dif t base * v) r HW.out HW5.out _).mono ?_; rintro e w6 ⟨h6, l6, ok6, rfl, hr6, hb6⟩; have hQ6 := hid ((And.right (by assumption : (_ ∧ _ ∧ _) ∧ Tri w w.heap.size [.int .u64 t, .int .u32 r, .int .u32 v] (w.heap.size + 1) [.int .i64 0, .int .u64 0] g [.int .i64 h, .int .u64 l] _)).below hb6); obtain ⟨rfl, hw6⟩ := wres_ok hr6 (by unfold WR; exact ⟨by have := HM0.out; omega, by have := HM1.out; omega⟩); have HW6 := hid hw6; clear hr6 hw6; (try (have F := hid (Cs.below (by first | with_reducible exact F.out | with_reducible exact Cs.new2 _ _ _ _ | with_reducible exact Cs.drew (Cs.new2 _ _ _ _) | with_reducible exact Cs.alloc F.out _) hb6); have F0 := F.out.at0; have F1 := F.out.at1; have F2 := F.out.fr0; have F3 := F.out.fr1; have F4 := F.out.lt)); (have G := hQ6.out.1.1.lt); (have G'' := hQ6.out.2.lt); (have G' := hQ6.out.1.2.1.lt)))
      all_goals
        go_wp2_with fail
        go_meet
        refine ⟨_, h6, l6, rfl, ?_, HW6.out, ?_, (And.right (by assumption : (_ ∧ _ ∧ _) ∧ Tri w w.heap.size [.int .u64 t, .int .u32 r, .int .u32 v] (w.heap.size + 1) [.int .i64 0, .int .u64 0] g [.int .i64 h, .int .u64 l] _)).1⟩
        all_goals first
          | omega
          | with_reducible exact Cs.new2 _ _ _ _
          | with_reducible exact Cs.put2 F.out _ _
          | with_reducible exact Cs.put2 (Cs.new2 _ _ _ _) _ _
          | with_reducible exact Cs.put2 (Cs.drew (Cs.new2 _ _ _ _)) _ _
          | with_reducible exact Cs.put2 (Cs.drew F.out) _ _
    case rest =>
      obtain ⟨k, h5, l5, rfl, hk, hw, hcs, hT⟩ := hcut
      have HF := hid hT
      have HW5 := hid hw
      have x0 := hcs.at0
      have x1 := hcs.at1
      have y0 := hT.2.1.at0
      have y1 := hT.2.1.at1
      have y2 := hT.2.1.fr0
      have y3 := hT.2.1.fr1
      clear hcs hT hw
      go_wp2_with fail
      refine bodyPost_ret (v := .agg #[.int .i64 h5, .int .u64 l5]) (by simp [results, Try.results57, go_sem, y0, y1]) rfl ⟨h5, l5, rfl, HW5.out, ?_⟩
      exact (HF.out.2.2.setCell (by simp) _).setCell (by simp) _

end Go.Proofs.Ytjklcbbanlaicaa

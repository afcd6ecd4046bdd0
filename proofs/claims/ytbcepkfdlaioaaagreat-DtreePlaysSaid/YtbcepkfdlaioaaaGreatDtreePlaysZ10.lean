/- Texts of DtreePlays's proof, together. -/
import Derived.Test.YtbcepkfdlaioaaaGreatDtreePlaysZ8
import Derived.Test.YtbcepkfdlaioaaaGreatCs
import Derived.Test.YtbcepkfdlaioaaaGreatDtreePlaysZ7
namespace Go.Proofs.YtbcepkfdlaioaaaGreat

section
open Go.RowKit
def Two (w0 : World) (N : Nat) (vs : List Value) (M : Nat) (us : List Value) (w : World) : Prop := Cs w N vs ∧ Cs w M us ∧ Below w0.heap.size w0 w
theorem Two.below {w0 w w' : World} {N M : Nat} {vs us : List Value} (h : Two w0 N vs M us w) (hb : Below w.heap.size w w') : Two w0 N vs M us w' := ⟨h.1.below hb, h.2.1.below hb, below_on h.2.2 hb⟩
theorem Two.alloc {w0 w : World} {N M : Nat} {vs us : List Value} (h : Two w0 N vs M us w) (o : Obj) : Two w0 N vs M us (w.alloc o) := h.below ((Below.refl _ _).alloc (Nat.le_refl _) o)
theorem Two.drew {w0 w : World} {N M : Nat} {vs us : List Value} (h : Two w0 N vs M us w) : Two w0 N vs M us w.drew := ⟨h.1, h.2.1, h.2.2.drew⟩
theorem Two.far {w0 w : World} {N M : Nat} {vs us : List Value} (h : Two w0 N vs M us w) {g : Nat} (hN : g ≠ N) (hM : g ≠ M) (hg : w0.heap.size ≤ g) (o : Nat) (u : Value) : Two w0 N vs M us (w.setCell ⟨g, o, none⟩ u) :=
 ⟨h.1.far hN _ _, h.2.1.far hM _ _, h.2.2.setCell hg _⟩
theorem Two.see {w0 w : World} {N M : Nat} {a b c : Value} {us : List Value} (h : Two w0 N [a, b, c] M us w) :
  (w.cell? ⟨N, 0, none⟩ = some a ∧ w.cell? ⟨N, 1, none⟩ = some b ∧ w.cell? ⟨N, 2, none⟩ = some c) ∧ Two w0 N [a, b, c] M us w := ⟨⟨h.1.at0, h.1.at1, h.1.at2⟩, h⟩
end


section
open Go.RowKit
set_option maxRecDepth 100000
set_option maxHeartbeats 32000000
theorem Pos.at_yes (base h l d v : Int) (hw : IsW h l d) (ok : AtOk d v) (w : World) :
  Calls Tryz.prog 107 #[.int .u64 base, .agg #[.int .i64 h, .int .u64 l], .int .u32 v] w fun e w' =>
   e = .returned (.tuple #[.agg #[.int .u64 (adv base (d / v)), .int .u32 (d % v), .int .u32 v], .bool true]) ∧ Below w.heap.size w w' := by
 obtain ⟨v0, v1, q0, q1⟩ := ok
 have e1 : IntKind.u64.wrap v = v := by rw [IntKind.wrap_u64]; omega
 have ew : decide (1 ≤ v ∧ v ≤ 1048576) = true := by rw [decide_eq_true_eq]; exact ⟨v0, v1⟩
 have Q0 := hid q0
 have Q1 := hid q1
 have HW := hid hw
 have EW := hid ew
 clear q0 q1 hw ew
 go_enter Tryz.func107, Tryz.ntmps107
 go_wp2_with fail
 refine (Pos.weight v _).mono ?_
 rintro e w1 ⟨rfl, hb1⟩
 rw [EW.out]
 have HT1 : Hid (Two w w.heap.size [.int .i64 h, .int .u64 l] (w.heap.size + 1) [.int .u64 0, .int .u32 0, .int .u32 0] w1) := hid (Two.below ⟨(Cs.new2 _ _ _ _).alloc _, by have := Cs.new3 (w.alloc (Obj.cells #[.int .i64 h, .int .u64 l] 126)) 33 (.int .u64 0) (.int .u32 0) (.int .u32 0); simpa using this, ((Below.refl _ _).alloc (Nat.le_refl _) _).alloc (by simp) _⟩ hb1)
 have x0 := HT1.out.1.at0
 have x1 := HT1.out.1.at1
 clear hb1
 go_wp2_with fail
 refine (Wide.div h l d v HW.out (by omega) (by omega) _).mono ?_
 rintro e w2 ⟨hq, lq, q, r, rfl, ⟨hq1, hq2, r0, r1⟩, hb2⟩
 obtain ⟨rfl, rfl⟩ := div_uniq hq2 r0 r1
 have HQ := hid hq1
 have HT2 := hid (HT1.out.below hb2)
 have e2 : IntKind.u32.wrap (d % v) = d % v := by rw [IntKind.wrap_u32]; omega
 clear hq1 hq2 hb2 x0 x1
 go_wp2_with fail
 refine (Wide.small hq lq (d / v) HQ.out Q0.out Q1.out _).mono ?_
 rintro e w3 ⟨rfl, hb3⟩
 have HT3 := hid (HT2.out.below (((Below.refl _ _).alloc (Nat.le_refl _) (.cells #[.int .i64 hq, .int .u64 lq] 126)).trans (hb3.mono (by simp))))
 clear hb3
 go_wp2_with fail
 refine (Vtime.add base (d / v) _).mono ?_
 rintro e w4 ⟨rfl, hb4⟩
 have HT4 := hid (HT3.out.below hb4)
 have y0 := HT4.out.2.1.at0
 have y1 := HT4.out.2.1.at1
 have y2 := HT4.out.2.1.at2
 have y3 := HT4.out.2.1.fr0
 have y4 := HT4.out.2.1.fr1
 have y5 := HT4.out.2.1.fr2
 clear hb4
 go_wp2_with fail
 refine bodyPost_ret (v := .tuple #[.agg #[.int .u64 (adv base (d / v)), .int .u32 (d % v), .int .u32 v], .bool true]) (by simp [results, Tryz.results107, go_sem, y0, y1, y2]) rfl ⟨rfl, ?_⟩
 exact ((HT4.out.2.2.setCell (by simp) _).setCell (by simp) _).setCell (by simp) _
def Ans (v : Value) (w : World) (e : Ending) (w' : World) : Prop := e = .returned v ∧ Below w.heap.size w w'
theorem Pos.move_of (t r v a : Int) (r0 : 0 ≤ r) (r1 : r ≤ 4294967295) (a0 : 0 ≤ a) (a1 : a ≤ 18446744073709551615) (T R V : Int) (b : Bool) (w : World)
  (hat : ∀ h l, IsW h l (a + r) → ∀ w, Calls Tryz.prog 107 #[.int .u64 t, .agg #[.int .i64 h, .int .u64 l], .int .u32 v] w (Ans (.tuple #[.agg #[.int .u64 T, .int .u32 R, .int .u32 V], .bool b]) w)) :
  Calls Tryz.prog 96 #[.agg #[.int .u64 t, .int .u32 r, .int .u32 v], .int .u64 a] w (Ans (.tuple #[.agg #[.int .u64 T, .int .u32 R, .int .u32 V], .bool b]) w) := by
 have e1 : IntKind.u64.wrap r = r := by rw [IntKind.wrap_u64]; omega
 have hm : WR (a + r) := by unfold WR; omega
 have HM := hid hm
 have HA := hid hat
 have A0 := hid a0
 have A1 := hid a1
 have R0 := hid r0
 have R1 := hid (show r ≤ 18446744073709551615 by omega)
 clear hm hat a0 a1 r0 r1
 go_enter Tryz.func96, Tryz.ntmps96
 go_wp2_with fail
 obtain ⟨W0, hW⟩ : ∃ W0, W0 = (w.alloc (Obj.cells #[.int .u64 t, .int .u32 r, .int .u32 v] 33)).alloc (Obj.cells #[.int .u64 0, .int .u32 0, .int .u32 0] 33) := ⟨_, rfl⟩
 rw [← hW]
 have HQ0 : Hid (Two w w.heap.size [.int .u64 t, .int .u32 r, .int .u32 v] (w.heap.size + 1) [.int .u64 0, .int .u32 0, .int .u32 0] W0) := hid (by rw [hW]; exact ⟨(Cs.new3 _ _ _ _ _).alloc _, by have := Cs.new3 (w.alloc (Obj.cells #[.int .u64 t, .int .u32 r, .int .u32 v] 33)) 33 (.int .u64 0) (.int .u32 0) (.int .u32 0); simpa using this, ((Below.refl _ _).alloc (Nat.le_refl _) _).alloc (by simp) _⟩)
 have hz : w.heap.size + 1 < W0.heap.size := HQ0.out.2.1.lt
 clear hW
 go_cut [6] (fun p wc => ∃ (g : Nat) (h l : Int), p = .pointer (some ⟨g, 0, none⟩) ∧ w.heap.size + 1 < g ∧ IsW h l (a + r) ∧ Cs wc g [.int .i64 h, .int .u64 l] ∧ Two w w.heap.size [.int .u64 t, .int .u32 r, .int .u32 v] (w.heap.size + 1) [.int .u64 0, .int .u32 0, .int .u32 0] wc)
 case first =>
  go_region_held3 (fun w' => (w'.cell? ⟨w.heap.size, 0, none⟩ = some (.int .u64 t) ∧ w'.cell? ⟨w.heap.size, 1, none⟩ = some (.int .u32 r) ∧ w'.cell? ⟨w.heap.size, 2, none⟩ = some (.int .u32 v)) ∧ Two w w.heap.size [.int .u64 t, .int .u32 r, .int .u32 v] (w.heap.size + 1) [.int .u64 0, .int .u32 0, .int .u32 0] w')
   (first | with_reducible exact HQ0.out.drew.see | ((try dsimp only); refine Two.see ?_; repeat (first | with_reducible exact HQ0.out | with_reducible exact hQ4.out | with_reducible exact hQ3.out | with_reducible exact hQ2.out | with_reducible refine Two.drew ?_ | with_reducible refine Two.alloc ?_ _ | with_reducible refine Two.far ?_ (by omega) (by omega) (by omega) _ _)))
   (first
    | (go_at_call_of 105 (Value.int .u64 a); refine (Wide.ofU a A0.out A1.out _).mono ?_; rintro e w2 ⟨rfl, hw2, hb2⟩; have hQ2 := hid ((And.right (by assumption : (_ ∧ _ ∧ _) ∧ Two w w.heap.size [.int .u64 t, .int .u32 r, .int .u32 v] (w.heap.size + 1) [.int .u64 0, .int .u32 0, .int .u32 0] _)).below hb2); have HW2 := hid hw2; clear hw2; (try (have F := hid (Cs.below (by first | with_reducible exact F.out | with_reducible exact Cs.new2 _ _ _ _ | with_reducible exact Cs.drew (Cs.new2 _ _ _ _) | with_reducible exact Cs.alloc F.out _) hb2); have F0 := F.out.at0; have F1 := F.out.at1; have F2 := F.out.fr0; have F3 := F.out.fr1; have F4 := F.out.lt)); (have G := hQ2.out.1.lt); (have G' := hQ2.out.2.1.lt))
    | (go_at_call_of 105 (Value.int .u64 r); refine (Wide.ofU r R0.out R1.out _).mono ?_; rintro e w3 ⟨rfl, hw3, hb3⟩; have hQ3 := hid ((And.right (by assumption : (_ ∧ _ ∧ _) ∧ Two w w.heap.size [.int .u64 t, .int .u32 r, .int .u32 v] (w.heap.size + 1) [.int .u64 0, .int .u32 0, .int .u32 0] _)).below hb3); have HW3 := hid hw3; clear hw3; (try (have F := hid (Cs.below (by first | with_reducible exact F.out | with_reducible exact Cs.new2 _ _ _ _ | with_reducible exact Cs.drew (Cs.new2 _ _ _ _) | with_reducible exact Cs.alloc F.out _) hb3); have F0 := F.out.at0; have F1 := F.out.at1; have F2 := F.out.fr0; have F3 := F.out.fr1; have F4 := F.out.lt)); (have G := hQ3.out.1.lt); (have G' := hQ3.out.2.1.lt))
    | (go_at_call 106; refine (Wide.add 0 a 0 r a r HW2.out HW3.out _).mono ?_; rintro e w4 ⟨h4, l4, ok4, rfl, hr4, hb4⟩; have hQ4 := hid ((And.right (by assumption : (_ ∧ _ ∧ _) ∧ Two w w.heap.size [.int .u64 t, .int .u32 r, .int .u32 v] (w.heap.size + 1) [.int .u64 0, .int .u32 0, .int .u32 0] _)).below hb4); obtain ⟨rfl, hw4⟩ := wres_ok hr4 HM.out; have HW4 := hid hw4; clear hr4 hw4; (try (have F := hid (Cs.below (by first | with_reducible exact F.out | with_reducible exact Cs.new2 _ _ _ _ | with_reducible exact Cs.drew (Cs.new2 _ _ _ _) | with_reducible exact Cs.alloc F.out _) hb4); have F0 := F.out.at0; have F1 := F.out.at1; have F2 := F.out.fr0; have F3 := F.out.fr1; have F4 := F.out.lt)); (have G := hQ4.out.1.lt); (have G' := hQ4.out.2.1.lt)))
  all_goals
   go_wp2_with fail
   go_meet
   refine ⟨_, h4, l4, rfl, ?_, HW4.out, ?_, And.right (by assumption : (_ ∧ _ ∧ _) ∧ Two w w.heap.size [.int .u64 t, .int .u32 r, .int .u32 v] (w.heap.size + 1) [.int .u64 0, .int .u32 0, .int .u32 0] _)⟩
   all_goals first
    | omega
    | with_reducible exact Cs.new2 _ _ _ _
    | with_reducible exact Cs.put2 F.out _ _
    | with_reducible exact Cs.put2 (Cs.new2 _ _ _ _) _ _
    | with_reducible exact Cs.put2 (Cs.drew (Cs.new2 _ _ _ _)) _ _
    | with_reducible exact Cs.put2 (Cs.drew F.out) _ _
 case rest =>
  obtain ⟨g, h, l, rfl, hg, hw, hcs, hT⟩ := hcut
  have HW := hid hw
  have HT := hid hT
  have z1 := hT.1.lt
  have z2 := hT.2.1.lt
  have z3 := hcs.lt
  have x0 := hT.1.at0
  have x2 := hT.1.at2
  have g0 := hcs.at0
  have g1 := hcs.at1
  clear hw hT hcs HQ0 hz e1
  go_wp2_with fail
  refine (HA.out h l HW.out _).mono ?_
  rintro e w5 ⟨rfl, hb5⟩
  have HT5 := hid (HT.out.below hb5)
  have y0 := HT5.out.2.1.at0
  have y1 := HT5.out.2.1.at1
  have y2 := HT5.out.2.1.at2
  have y3 := HT5.out.2.1.fr0
  have y4 := HT5.out.2.1.fr1
  have y5 := HT5.out.2.1.fr2
  clear hb5 x0 x2 g0 g1 z1 z2 z3
  go_wp2_with fail
  refine bodyPost_ret (v := .tuple #[.agg #[.int .u64 T, .int .u32 R, .int .u32 V], .bool b]) (by simp [results, Tryz.results96, go_sem, y0, y1, y2]) rfl ⟨rfl, ?_⟩
  exact ((HT5.out.2.2.setCell (by simp) _).setCell (by simp) _).setCell (by simp) _
theorem Pos.move_yes (t r v a : Int) (r0 : 0 ≤ r) (r1 : r ≤ 4294967295) (a0 : 0 ≤ a) (a1 : a ≤ 18446744073709551615) (ok : AtOk (a + r) v) (w : World) :
  Calls Tryz.prog 96 #[.agg #[.int .u64 t, .int .u32 r, .int .u32 v], .int .u64 a] w (Ans (.tuple #[.agg #[.int .u64 (adv t ((a + r) / v)), .int .u32 ((a + r) % v), .int .u32 v], .bool true]) w) :=
 Pos.move_of t r v a r0 r1 a0 a1 _ _ _ _ w fun h l hw w => Pos.at_yes t h l (a + r) v hw ok w
end


section
open Go.RowKit
set_option maxHeartbeats 1000000 in
theorem Pos.shift (t r v by' : Int) (w : World) :
  Calls Tryz.prog 42 #[.agg #[.int .u64 t, .int .u32 r, .int .u32 v], .int .u64 by'] w (Ans (.agg #[.int .u64 (IntKind.u64.wrap (t + by')), .int .u32 r, .int .u32 v]) w) := by
 go_enter Tryz.func42, Tryz.ntmps42
 go_wp2_with fail
 refine bodyPost_ret (v := .agg #[.int .u64 (IntKind.u64.wrap (t + by')), .int .u32 r, .int .u32 v]) (by simp [results, Tryz.results42, go_sem]) rfl ⟨rfl, ?_⟩
 exact ((Below.refl _ _).alloc (Nat.le_refl _) _).alloc (by simp) _
set_option maxHeartbeats 1000000 in
theorem Cmp.nan64 (x : Int) (w : World) : Calls Tryz.prog 88 #[.int .i64 x] w (Ans (.bool false) w) := by
 go_enter Tryz.func88, Tryz.ntmps88
 go_wp2
 go_ret
 exact ⟨by simp, Below.refl _ _⟩
set_option maxHeartbeats 1000000 in
theorem Cmp.nanU64 (x : Int) (w : World) : Calls Tryz.prog 89 #[.int .u64 x] w (Ans (.bool false) w) := by
 go_enter Tryz.func89, Tryz.ntmps89
 go_wp2
 go_ret
 exact ⟨by simp, Below.refl _ _⟩
set_option maxHeartbeats 1000000 in
theorem Cmp.i64 (x y : Int) (w : World) : Calls Tryz.prog 66 #[.int .i64 x, .int .i64 y] w (Ans (.int .i64 (cmpI x y)) w) := by
 rcases Int.lt_trichotomy x y with h | h | h
 ·have E := hid (cmpI_lt h)
  go_enter Tryz.func66, Tryz.ntmps66
  go_wp2_with fail
  refine (Cmp.nan64 x _).mono ?_
  rintro e w1 ⟨rfl, hb1⟩
  go_wp2_with fail
  refine (Cmp.nan64 y _).mono ?_
  rintro e w2 ⟨rfl, hb2⟩
  go_wp2_with fail
  go_ret
  exact ⟨by rw [E.out]; rfl, below_on hb1 hb2⟩
 ·subst h
  have E := hid (cmpI_eq x)
  go_enter Tryz.func66, Tryz.ntmps66
  go_wp2_with fail
  refine (Cmp.nan64 x _).mono ?_
  rintro e w1 ⟨rfl, hb1⟩
  go_wp2_with fail
  refine (Cmp.nan64 x _).mono ?_
  rintro e w2 ⟨rfl, hb2⟩
  go_wp2_with fail
  go_ret
  exact ⟨by rw [E.out]; rfl, below_on hb1 hb2⟩
 ·have E := hid (cmpI_gt h)
  have h2 : ¬ x < y := by omega
  go_enter Tryz.func66, Tryz.ntmps66
  go_wp2_with fail
  refine (Cmp.nan64 x _).mono ?_
  rintro e w1 ⟨rfl, hb1⟩
  go_wp2_with fail
  refine (Cmp.nan64 y _).mono ?_
  rintro e w2 ⟨rfl, hb2⟩
  go_wp2_with fail
  go_ret
  exact ⟨by rw [E.out]; rfl, below_on hb1 hb2⟩
set_option maxHeartbeats 1000000 in
theorem Cmp.u64 (x y : Int) (w : World) : Calls Tryz.prog 67 #[.int .u64 x, .int .u64 y] w (Ans (.int .i64 (cmpI x y)) w) := by
 rcases Int.lt_trichotomy x y with h | h | h
 ·have E := hid (cmpI_lt h)
  go_enter Tryz.func67, Tryz.ntmps67
  go_wp2_with fail
  refine (Cmp.nanU64 x _).mono ?_
  rintro e w1 ⟨rfl, hb1⟩
  go_wp2_with fail
  refine (Cmp.nanU64 y _).mono ?_
  rintro e w2 ⟨rfl, hb2⟩
  go_wp2_with fail
  go_ret
  exact ⟨by rw [E.out]; rfl, below_on hb1 hb2⟩
 ·subst h
  have E := hid (cmpI_eq x)
  go_enter Tryz.func67, Tryz.ntmps67
  go_wp2_with fail
  refine (Cmp.nanU64 x _).mono ?_
  rintro e w1 ⟨rfl, hb1⟩
  go_wp2_with fail
  refine (Cmp.nanU64 x _).mono ?_
  rintro e w2 ⟨rfl, hb2⟩
  go_wp2_with fail
  go_ret
  exact ⟨by rw [E.out]; rfl, below_on hb1 hb2⟩
 ·have E := hid (cmpI_gt h)
  have h2 : ¬ x < y := by omega
  go_enter Tryz.func67, Tryz.ntmps67
  go_wp2_with fail
  refine (Cmp.nanU64 x _).mono ?_
  rintro e w1 ⟨rfl, hb1⟩
  go_wp2_with fail
  refine (Cmp.nanU64 y _).mono ?_
  rintro e w2 ⟨rfl, hb2⟩
  go_wp2_with fail
  go_ret
  exact ⟨by rw [E.out]; rfl, below_on hb1 hb2⟩
theorem mul32 {a b : Int} (a0 : 0 ≤ a) (a1 : a ≤ 4294967295) (b0 : 0 ≤ b) (b1 : b ≤ 4294967295) : IntKind.u64.wrap (a * b) = a * b := by
 have h0 : 0 ≤ a * b := Int.mul_nonneg a0 b0
 have h1 : a * b ≤ 4294967295 * 4294967295 := Int.mul_le_mul a1 b1 b0 (by decide)
 rw [IntKind.wrap_u64]; omega
theorem up32 {a : Int} (a0 : 0 ≤ a) (a1 : a ≤ 4294967295) : IntKind.u64.wrap a = a := by rw [IntKind.wrap_u64]; omega
set_option maxHeartbeats 2000000 in
theorem Pos.cmp (t r v u s y : Int) (r0 : 0 ≤ r) (r1 : r ≤ 4294967295) (v0 : 0 ≤ v) (v1 : v ≤ 4294967295) (s0 : 0 ≤ s) (s1 : s ≤ 4294967295) (y0 : 0 ≤ y) (y1 : y ≤ 4294967295) (w : World) :
  Calls Tryz.prog 48 #[.agg #[.int .u64 t, .int .u32 r, .int .u32 v], .agg #[.int .u64 u, .int .u32 s, .int .u32 y]] w (Ans (.int .i64 (posC t r v u s y)) w) := by
 have e1 := up32 r0 r1
 have e2 := up32 v0 v1
 have e3 := up32 s0 s1
 have e4 := up32 y0 y1
 have e5 := mul32 r0 r1 y0 y1
 have e6 := mul32 s0 s1 v0 v1
 clear r0 r1 v0 v1 s0 s1 y0 y1
 have E : Hid (posC t r v u s y = if dif u t ≠ 0 then cmpI 0 (dif u t) else cmpI (r * y) (s * v)) := rfl
 by_cases c : dif u t = 0
 ·have c1 : (dif u t != 0) = false := by rw [c]; rfl
  rw [if_neg (by omega)] at E
  clear c
  go_enter Tryz.func48, Tryz.ntmps48
  go_wp2_with fail
  refine (Vtime.since u t _).mono ?_
  rintro e w1 ⟨rfl, hb1⟩
  have HB1 := hid ((((Below.refl _ w).alloc (Nat.le_refl _) (.cells #[.int .u64 t, .int .u32 r, .int .u32 v] 33)).alloc (by simp) (.cells #[.int .u64 u, .int .u32 s, .int .u32 y] 33)).trans (hb1.mono (by simp; omega)))
  have hc := keep4 (w := (w.alloc (.cells #[.int .u64 t, .int .u32 r, .int .u32 v] 33)).alloc (.cells #[.int .u64 u, .int .u32 s, .int .u32 y] 33)) (b0 := w.heap.size) (o0 := 1) (v0 := .int .u32 r) (b1 := w.heap.size) (o1 := 2) (v1 := .int .u32 v) (b2 := w.heap.size + 1) (o2 := 1) (v2 := .int .u32 s) (b3 := w.heap.size + 1) (o3 := 2) (v3 := .int .u32 y) ⟨by simp [go_sem], by simp [go_sem], by simp [go_sem], by simp [go_sem]⟩ hb1
  obtain ⟨x1, x2, x3, x4⟩ := hc
  clear hb1
  go_wp2_with fail
  refine (Cmp.u64 (r * y) (s * v) _).mono ?_
  rintro e w2 ⟨rfl, hb2⟩
  go_wp2_with fail
  go_ret
  exact ⟨by rw [E.out]; rfl, below_on HB1.out hb2⟩
 ·have c1 : (dif u t != 0) = true := by simpa using c
  rw [if_pos c] at E
  clear c e1 e2 e3 e4 e5 e6
  go_enter Tryz.func48, Tryz.ntmps48
  go_wp2_with fail
  refine (Vtime.since u t _).mono ?_
  rintro e w1 ⟨rfl, hb1⟩
  have HB1 := hid ((((Below.refl _ w).alloc (Nat.le_refl _) (.cells #[.int .u64 t, .int .u32 r, .int .u32 v] 33)).alloc (by simp) (.cells #[.int .u64 u, .int .u32 s, .int .u32 y] 33)).trans (hb1.mono (by simp; omega)))
  clear hb1
  go_wp2_with fail
  refine (Cmp.i64 0 (dif u t) _).mono ?_
  rintro e w2 ⟨rfl, hb2⟩
  go_wp2_with fail
  go_ret
  exact ⟨by rw [E.out]; rfl, below_on HB1.out hb2⟩
end


section
open Go.RowKit
structure It where
 t : Int
 r : Int
 v : Int
 i : Int
 u : Int
 s : Int
 y : Int
def It.cells (a : It) : List Value := [.int .u64 a.t, .int .u32 a.r, .int .u32 a.v, .int .i64 a.i, .int .u64 a.u, .int .u32 a.s, .int .u32 a.y]
abbrev It.val (a : It) : Value := .agg #[.int .u64 a.t, .int .u32 a.r, .int .u32 a.v, .int .i64 a.i, .int .u64 a.u, .int .u32 a.s, .int .u32 a.y]
def It.In (a : It) : Prop := (0 ≤ a.t ∧ a.t ≤ 18446744073709551615) ∧ (0 ≤ a.r ∧ a.r ≤ 4294967295) ∧ (0 ≤ a.v ∧ a.v ≤ 4294967295) ∧ (-9223372036854775808 ≤ a.i ∧ a.i ≤ 9223372036854775807) ∧ (0 ≤ a.u ∧ a.u ≤ 18446744073709551615) ∧ (0 ≤ a.s ∧ a.s ≤ 4294967295) ∧ (0 ≤ a.y ∧ a.y ≤ 4294967295)
def It.ahead (a b : It) : Bool := if posC a.t a.r a.v b.t b.r b.v = 0 then decide (a.i < b.i) else decide (posC a.t a.r a.v b.t b.r b.v < 0)
def It.due (a b : It) : Bool := if posC a.u a.s a.y b.u b.s b.y = 0 then It.ahead a b else decide (posC a.u a.s a.y b.u b.s b.y < 0)
theorem Cs.new7 (w : World) (t : TypeId) (a : It) : Cs (w.alloc (.cells #[.int .u64 a.t, .int .u32 a.r, .int .u32 a.v, .int .i64 a.i, .int .u64 a.u, .int .u32 a.s, .int .u32 a.y] t)) w.heap.size a.cells := fun i v hv => by
 refine ⟨?_, by simp [go_sem]⟩
 rw [World.cell?_alloc_new]
 simpa [It.cells] using hv
theorem It.at (a : It) {w : World} {g : Nat} (h : Cs w g a.cells) : w.cell? ⟨g, 0, none⟩ = some (.int .u64 a.t) ∧ w.cell? ⟨g, 1, none⟩ = some (.int .u32 a.r) ∧ w.cell? ⟨g, 2, none⟩ = some (.int .u32 a.v) ∧ w.cell? ⟨g, 3, none⟩ = some (.int .i64 a.i) ∧ w.cell? ⟨g, 4, none⟩ = some (.int .u64 a.u) ∧ w.cell? ⟨g, 5, none⟩ = some (.int .u32 a.s) ∧ w.cell? ⟨g, 6, none⟩ = some (.int .u32 a.y) :=
 ⟨(h 0 _ rfl).1, (h 1 _ rfl).1, (h 2 _ rfl).1, (h 3 _ rfl).1, (h 4 _ rfl).1, (h 5 _ rfl).1, (h 6 _ rfl).1⟩
set_option maxRecDepth 100000 in
set_option maxHeartbeats 1000000 in
theorem Item.ahead (a b : It) (ha : a.In) (hb : b.In) (w : World) :
  Calls Tryz.prog 29 #[a.val, b.val] w (Ans (.bool (It.ahead a b)) w) := by
 have HA := hid ha
 have HB := hid hb
 have HT0 : Hid (∀ w' : World, Below ((w.alloc (.cells #[.int .u64 a.t, .int .u32 a.r, .int .u32 a.v, .int .i64 a.i, .int .u64 a.u, .int .u32 a.s, .int .u32 a.y] 35)).alloc (.cells #[.int .u64 b.t, .int .u32 b.r, .int .u32 b.v, .int .i64 b.i, .int .u64 b.u, .int .u32 b.s, .int .u32 b.y] 35)).heap.size ((w.alloc (.cells #[.int .u64 a.t, .int .u32 a.r, .int .u32 a.v, .int .i64 a.i, .int .u64 a.u, .int .u32 a.s, .int .u32 a.y] 35)).alloc (.cells #[.int .u64 b.t, .int .u32 b.r, .int .u32 b.v, .int .i64 b.i, .int .u64 b.u, .int .u32 b.s, .int .u32 b.y] 35)) w' →
   Cs w' w.heap.size a.cells ∧ Cs w' (w.heap.size + 1) b.cells ∧ Below w.heap.size w w') :=
  hid (fun w' hb => ⟨((Cs.new7 _ _ _).alloc _).below hb, by have := Cs.new7 (w.alloc (.cells #[.int .u64 a.t, .int .u32 a.r, .int .u32 a.v, .int .i64 a.i, .int .u64 a.u, .int .u32 a.s, .int .u32 a.y] 35)) 35 b; simp only [World.size_alloc] at this; exact this.below hb, below_on (((Below.refl _ _).alloc (Nat.le_refl _) _).alloc (by simp) _) hb⟩)
 clear ha hb
 unfold It.val
 cases hc : decide (posC a.t a.r a.v b.t b.r b.v = 0) with
 | true =>
  have hq : posC a.t a.r a.v b.t b.r b.v = 0 := of_decide_eq_true hc
  have c1 : (posC a.t a.r a.v b.t b.r b.v != 0) = false := by rw [hq]; rfl
  have HE : Hid (It.ahead a b = decide (a.i < b.i)) := hid (by unfold It.ahead; rw [if_pos hq])
  have C1 := hid c1
  clear hc hq c1
  go_enter Tryz.func29, Tryz.ntmps29
  go_wp2_with fail
  refine (Pos.cmp a.t a.r a.v b.t b.r b.v HA.out.2.1.1 HA.out.2.1.2 HA.out.2.2.1.1 HA.out.2.2.1.2 HB.out.2.1.1 HB.out.2.1.2 HB.out.2.2.1.1 HB.out.2.2.1.2 _).mono ?_
  rintro e w1 ⟨rfl, hb1⟩
  have HT1 := hid (HT0.out _ hb1)
  have q1 := (It.at a HT1.out.1).2.2.2.1
  have q2 := (It.at b HT1.out.2.1).2.2.2.1
  have c1 := C1.out
  clear hb1
  go_wp2_with fail
  go_ret
  exact ⟨by rw [HE.out]; rfl, HT1.out.2.2⟩
 | false =>
  have hq : ¬ posC a.t a.r a.v b.t b.r b.v = 0 := of_decide_eq_false hc
  have c1 : (posC a.t a.r a.v b.t b.r b.v != 0) = true := by rw [bne_iff_ne]; exact hq
  have HE : Hid (It.ahead a b = decide (posC a.t a.r a.v b.t b.r b.v < 0)) := hid (by unfold It.ahead; rw [if_neg hq])
  have C1 := hid c1
  clear hc hq c1
  go_enter Tryz.func29, Tryz.ntmps29
  go_wp2_with fail
  refine (Pos.cmp a.t a.r a.v b.t b.r b.v HA.out.2.1.1 HA.out.2.1.2 HA.out.2.2.1.1 HA.out.2.2.1.2 HB.out.2.1.1 HB.out.2.1.2 HB.out.2.2.1.1 HB.out.2.2.1.2 _).mono ?_
  rintro e w1 ⟨rfl, hb1⟩
  have HT1 := hid (HT0.out _ hb1)
  have c1 := C1.out
  clear hb1
  go_wp2_with fail
  go_ret
  exact ⟨by rw [HE.out]; rfl, HT1.out.2.2⟩
end


section
open Go.RowKit
set_option maxRecDepth 100000
set_option maxHeartbeats 32000000
theorem Item.due (a b : It) (ha : a.In) (hb : b.In) (w : World) :
  Calls Tryz.prog 46 #[a.val, b.val] w (Ans (.bool (It.due a b)) w) := by
 have HA := hid ha
 have HB := hid hb
 have HT0 : Hid (∀ w' : World, Below ((w.alloc (.cells #[.int .u64 a.t, .int .u32 a.r, .int .u32 a.v, .int .i64 a.i, .int .u64 a.u, .int .u32 a.s, .int .u32 a.y] 35)).alloc (.cells #[.int .u64 b.t, .int .u32 b.r, .int .u32 b.v, .int .i64 b.i, .int .u64 b.u, .int .u32 b.s, .int .u32 b.y] 35)).heap.size ((w.alloc (.cells #[.int .u64 a.t, .int .u32 a.r, .int .u32 a.v, .int .i64 a.i, .int .u64 a.u, .int .u32 a.s, .int .u32 a.y] 35)).alloc (.cells #[.int .u64 b.t, .int .u32 b.r, .int .u32 b.v, .int .i64 b.i, .int .u64 b.u, .int .u32 b.s, .int .u32 b.y] 35)) w' → Cs w' w.heap.size a.cells ∧ Cs w' (w.heap.size + 1) b.cells ∧ Below w.heap.size w w') :=
  hid (fun w' hb => ⟨((Cs.new7 _ _ _).alloc _).below hb, by have := Cs.new7 (w.alloc (.cells #[.int .u64 a.t, .int .u32 a.r, .int .u32 a.v, .int .i64 a.i, .int .u64 a.u, .int .u32 a.s, .int .u32 a.y] 35)) 35 b; simp only [World.size_alloc] at this; exact this.below hb, below_on (((Below.refl _ _).alloc (Nat.le_refl _) _).alloc (by simp) _) hb⟩)
 clear ha hb
 unfold It.val
 cases hc : decide (posC a.u a.s a.y b.u b.s b.y = 0) with
 | true =>
  have hq : posC a.u a.s a.y b.u b.s b.y = 0 := of_decide_eq_true hc
  have c1 : (posC a.u a.s a.y b.u b.s b.y != 0) = false := by rw [hq]; rfl
  have HE : Hid (It.due a b = It.ahead a b) := hid (by unfold It.due; rw [if_pos hq])
  have C1 := hid c1
  clear hc hq c1
  go_enter Tryz.func46, Tryz.ntmps46
  go_wp2_with fail
  refine (Pos.cmp a.u a.s a.y b.u b.s b.y HA.out.2.2.2.2.2.1.1 HA.out.2.2.2.2.2.1.2 HA.out.2.2.2.2.2.2.1 HA.out.2.2.2.2.2.2.2 HB.out.2.2.2.2.2.1.1 HB.out.2.2.2.2.2.1.2 HB.out.2.2.2.2.2.2.1 HB.out.2.2.2.2.2.2.2 _).mono ?_
  rintro e w1 ⟨rfl, hb1⟩
  have HT1 := hid (HT0.out _ hb1)
  obtain ⟨p0, p1, p2, p3, p4, p5, p6⟩ := It.at a HT1.out.1
  obtain ⟨q0, q1, q2, q3, q4, q5, q6⟩ := It.at b HT1.out.2.1
  have c1 := C1.out
  clear hb1
  go_wp2_with fail
  refine (Item.ahead a b HA.out HB.out _).mono ?_
  rintro e w2 ⟨rfl, hb2⟩
  have HB2 := hid (below_on HT1.out.2.2 hb2)
  clear hb2
  go_wp2_with fail
  go_ret
  exact ⟨by rw [HE.out]; rfl, HB2.out⟩
 | false =>
  have hq : ¬ posC a.u a.s a.y b.u b.s b.y = 0 := of_decide_eq_false hc
  have c1 : (posC a.u a.s a.y b.u b.s b.y != 0) = true := by rw [bne_iff_ne]; exact hq
  have HE : Hid (It.due a b = decide (posC a.u a.s a.y b.u b.s b.y < 0)) := hid (by unfold It.due; rw [if_neg hq])
  have C1 := hid c1
  clear hc hq c1
  go_enter Tryz.func46, Tryz.ntmps46
  go_wp2_with fail
  refine (Pos.cmp a.u a.s a.y b.u b.s b.y HA.out.2.2.2.2.2.1.1 HA.out.2.2.2.2.2.1.2 HA.out.2.2.2.2.2.2.1 HA.out.2.2.2.2.2.2.2 HB.out.2.2.2.2.2.1.1 HB.out.2.2.2.2.2.1.2 HB.out.2.2.2.2.2.2.1 HB.out.2.2.2.2.2.2.2 _).mono ?_
  rintro e w1 ⟨rfl, hb1⟩
  have HT1 := hid (HT0.out _ hb1)
  have c1 := C1.out
  clear hb1
  go_wp2_with fail
  go_ret
  exact ⟨by rw [HE.out]; rfl, HT1.out.2.2⟩
def posOk (r v : Int) : Bool := decide (1 ≤ v ∧ v ≤ 1048576) && decide (r < v)
def It.right (a : It) : Bool := posOk a.r a.v && posOk a.s a.y && decide (a.v = a.y) && decide (0 < a.i) && decide (0 ≤ dif a.u a.t) && decide (dif a.u a.t ≤ 1152921504606846976)
theorem Pos.rightOk (t r v : Int) (w : World) : Calls Tryz.prog 49 #[.agg #[.int .u64 t, .int .u32 r, .int .u32 v]] w (Ans (.bool (posOk r v)) w) := Pos.right t r v w
theorem Item.right_no1 (a : It) (w : World)  (h1 : posOk a.r a.v = false) :
  Calls Tryz.prog 31 #[a.val] w (Ans (.bool false) w) := by
 have HT0 : Hid (∀ w' : World, Below (w.alloc (.cells #[.int .u64 a.t, .int .u32 a.r, .int .u32 a.v, .int .i64 a.i, .int .u64 a.u, .int .u32 a.s, .int .u32 a.y] 35)).heap.size (w.alloc (.cells #[.int .u64 a.t, .int .u32 a.r, .int .u32 a.v, .int .i64 a.i, .int .u64 a.u, .int .u32 a.s, .int .u32 a.y] 35)) w' → Cs w' w.heap.size a.cells ∧ Below w.heap.size w w') :=
  hid (fun w' hb => ⟨(Cs.new7 _ _ _).below hb, below_on ((Below.refl _ _).alloc (Nat.le_refl _) _) hb⟩)
 have H1 := hid h1
 clear h1
 unfold It.val
 go_enter Tryz.func31, Tryz.ntmps31
 go_wp2_with fail
 refine (Vtime.since a.u a.t _).mono ?_
 rintro e w1 ⟨rfl, hb1⟩
 have HT1 := hid (HT0.out _ hb1)
 obtain ⟨p0, p1, p2, p3, p4, p5, p6⟩ := It.at a HT1.out.1
 clear hb1
 go_wp2_with fail
 refine (Pos.rightOk a.t a.r a.v _).mono ?_
 rintro e w2 ⟨rfl, hb2⟩
 rw [H1.out]
 have HT2 := hid (And.intro (HT1.out.1.below hb2) (below_on HT1.out.2 hb2))
 clear hb2 p0 p1 p2 p3 p4 p5 p6
 obtain ⟨p0, p1, p2, p3, p4, p5, p6⟩ := It.at a HT2.out.1
 go_wp2_with fail
 go_ret
 exact ⟨rfl, HT2.out.2⟩
theorem Item.right_no2 (a : It) (w : World) (h1 : posOk a.r a.v = true) (h2 : posOk a.s a.y = false) :
  Calls Tryz.prog 31 #[a.val] w (Ans (.bool false) w) := by
 have HT0 : Hid (∀ w' : World, Below (w.alloc (.cells #[.int .u64 a.t, .int .u32 a.r, .int .u32 a.v, .int .i64 a.i, .int .u64 a.u, .int .u32 a.s, .int .u32 a.y] 35)).heap.size (w.alloc (.cells #[.int .u64 a.t, .int .u32 a.r, .int .u32 a.v, .int .i64 a.i, .int .u64 a.u, .int .u32 a.s, .int .u32 a.y] 35)) w' → Cs w' w.heap.size a.cells ∧ Below w.heap.size w w') :=
  hid (fun w' hb => ⟨(Cs.new7 _ _ _).below hb, below_on ((Below.refl _ _).alloc (Nat.le_refl _) _) hb⟩)
 have H1 := hid h1
 have H2 := hid h2
 clear h1 h2
 unfold It.val
 go_enter Tryz.func31, Tryz.ntmps31
 go_wp2_with fail
 refine (Vtime.since a.u a.t _).mono ?_
 rintro e w1 ⟨rfl, hb1⟩
 have HT1 := hid (HT0.out _ hb1)
 obtain ⟨p0, p1, p2, p3, p4, p5, p6⟩ := It.at a HT1.out.1
 clear hb1
 go_wp2_with fail
 refine (Pos.rightOk a.t a.r a.v _).mono ?_
 rintro e w2 ⟨rfl, hb2⟩
 rw [H1.out]
 have HT2 := hid (And.intro (HT1.out.1.below hb2) (below_on HT1.out.2 hb2))
 clear hb2 p0 p1 p2 p3 p4 p5 p6
 obtain ⟨p0, p1, p2, p3, p4, p5, p6⟩ := It.at a HT2.out.1
 go_wp2_with fail
 refine (Pos.rightOk a.u a.s a.y _).mono ?_
 rintro e w3 ⟨rfl, hb3⟩
 rw [H2.out]
 have HT3 := hid (And.intro (HT2.out.1.below hb3) (below_on HT2.out.2 hb3))
 clear hb3 p0 p1 p2 p3 p4 p5 p6
 obtain ⟨p0, p1, p2, p3, p4, p5, p6⟩ := It.at a HT3.out.1
 go_wp2_with fail
 go_ret
 exact ⟨rfl, HT3.out.2⟩
theorem Item.right_no3 (a : It) (w : World) (h1 : posOk a.r a.v = true) (h2 : posOk a.s a.y = true) (h3 : decide (a.v = a.y) = false) :
  Calls Tryz.prog 31 #[a.val] w (Ans (.bool false) w) := by
 have HT0 : Hid (∀ w' : World, Below (w.alloc (.cells #[.int .u64 a.t, .int .u32 a.r, .int .u32 a.v, .int .i64 a.i, .int .u64 a.u, .int .u32 a.s, .int .u32 a.y] 35)).heap.size (w.alloc (.cells #[.int .u64 a.t, .int .u32 a.r, .int .u32 a.v, .int .i64 a.i, .int .u64 a.u, .int .u32 a.s, .int .u32 a.y] 35)) w' → Cs w' w.heap.size a.cells ∧ Below w.heap.size w w') :=
  hid (fun w' hb => ⟨(Cs.new7 _ _ _).below hb, below_on ((Below.refl _ _).alloc (Nat.le_refl _) _) hb⟩)
 have H1 := hid h1
 have H2 := hid h2
 have H3 := hid h3
 clear h1 h2 h3
 unfold It.val
 go_enter Tryz.func31, Tryz.ntmps31
 go_wp2_with fail
 refine (Vtime.since a.u a.t _).mono ?_
 rintro e w1 ⟨rfl, hb1⟩
 have HT1 := hid (HT0.out _ hb1)
 obtain ⟨p0, p1, p2, p3, p4, p5, p6⟩ := It.at a HT1.out.1
 clear hb1
 go_wp2_with fail
 refine (Pos.rightOk a.t a.r a.v _).mono ?_
 rintro e w2 ⟨rfl, hb2⟩
 rw [H1.out]
 have HT2 := hid (And.intro (HT1.out.1.below hb2) (below_on HT1.out.2 hb2))
 clear hb2 p0 p1 p2 p3 p4 p5 p6
 obtain ⟨p0, p1, p2, p3, p4, p5, p6⟩ := It.at a HT2.out.1
 go_wp2_with fail
 refine (Pos.rightOk a.u a.s a.y _).mono ?_
 rintro e w3 ⟨rfl, hb3⟩
 rw [H2.out]
 have HT3 := hid (And.intro (HT2.out.1.below hb3) (below_on HT2.out.2 hb3))
 clear hb3 p0 p1 p2 p3 p4 p5 p6
 obtain ⟨p0, p1, p2, p3, p4, p5, p6⟩ := It.at a HT3.out.1
 have g3 : (a.v == a.y) = false := by have := H3.out; simpa using this
 go_wp2_with fail
 go_ret
 exact ⟨rfl, HT3.out.2⟩
theorem Item.right_no4 (a : It) (w : World) (h1 : posOk a.r a.v = true) (h2 : posOk a.s a.y = true) (h3 : decide (a.v = a.y) = true) (h4 : decide (0 < a.i) = false) :
  Calls Tryz.prog 31 #[a.val] w (Ans (.bool false) w) := by
 have HT0 : Hid (∀ w' : World, Below (w.alloc (.cells #[.int .u64 a.t, .int .u32 a.r, .int .u32 a.v, .int .i64 a.i, .int .u64 a.u, .int .u32 a.s, .int .u32 a.y] 35)).heap.size (w.alloc (.cells #[.int .u64 a.t, .int .u32 a.r, .int .u32 a.v, .int .i64 a.i, .int .u64 a.u, .int .u32 a.s, .int .u32 a.y] 35)) w' → Cs w' w.heap.size a.cells ∧ Below w.heap.size w w') :=
  hid (fun w' hb => ⟨(Cs.new7 _ _ _).below hb, below_on ((Below.refl _ _).alloc (Nat.le_refl _) _) hb⟩)
 have H1 := hid h1
 have H2 := hid h2
 have H3 := hid h3
 have H4 := hid h4
 clear h1 h2 h3 h4
 unfold It.val
 go_enter Tryz.func31, Tryz.ntmps31
 go_wp2_with fail
 refine (Vtime.since a.u a.t _).mono ?_
 rintro e w1 ⟨rfl, hb1⟩
 have HT1 := hid (HT0.out _ hb1)
 obtain ⟨p0, p1, p2, p3, p4, p5, p6⟩ := It.at a HT1.out.1
 clear hb1
 go_wp2_with fail
 refine (Pos.rightOk a.t a.r a.v _).mono ?_
 rintro e w2 ⟨rfl, hb2⟩
 rw [H1.out]
 have HT2 := hid (And.intro (HT1.out.1.below hb2) (below_on HT1.out.2 hb2))
 clear hb2 p0 p1 p2 p3 p4 p5 p6
 obtain ⟨p0, p1, p2, p3, p4, p5, p6⟩ := It.at a HT2.out.1
 go_wp2_with fail
 refine (Pos.rightOk a.u a.s a.y _).mono ?_
 rintro e w3 ⟨rfl, hb3⟩
 rw [H2.out]
 have HT3 := hid (And.intro (HT2.out.1.below hb3) (below_on HT2.out.2 hb3))
 clear hb3 p0 p1 p2 p3 p4 p5 p6
 obtain ⟨p0, p1, p2, p3, p4, p5, p6⟩ := It.at a HT3.out.1
 have g3 : (a.v == a.y) = true := by have := H3.out; simpa using this
 have g4 := H4.out
 go_wp2_with fail
 go_ret
 exact ⟨rfl, HT3.out.2⟩
theorem Item.right_no5 (a : It) (w : World) (h1 : posOk a.r a.v = true) (h2 : posOk a.s a.y = true) (h3 : decide (a.v = a.y) = true) (h4 : decide (0 < a.i) = true) (h5 : decide (0 ≤ dif a.u a.t) = false) :
  Calls Tryz.prog 31 #[a.val] w (Ans (.bool false) w) := by
 have HT0 : Hid (∀ w' : World, Below (w.alloc (.cells #[.int .u64 a.t, .int .u32 a.r, .int .u32 a.v, .int .i64 a.i, .int .u64 a.u, .int .u32 a.s, .int .u32 a.y] 35)).heap.size (w.alloc (.cells #[.int .u64 a.t, .int .u32 a.r, .int .u32 a.v, .int .i64 a.i, .int .u64 a.u, .int .u32 a.s, .int .u32 a.y] 35)) w' → Cs w' w.heap.size a.cells ∧ Below w.heap.size w w') :=
  hid (fun w' hb => ⟨(Cs.new7 _ _ _).below hb, below_on ((Below.refl _ _).alloc (Nat.le_refl _) _) hb⟩)
 have H1 := hid h1
 have H2 := hid h2
 have H3 := hid h3
 have H4 := hid h4
 have H5 := hid h5
 clear h1 h2 h3 h4 h5
 unfold It.val
 go_enter Tryz.func31, Tryz.ntmps31
 go_wp2_with fail
 refine (Vtime.since a.u a.t _).mono ?_
 rintro e w1 ⟨rfl, hb1⟩
 have HT1 := hid (HT0.out _ hb1)
 obtain ⟨p0, p1, p2, p3, p4, p5, p6⟩ := It.at a HT1.out.1
 clear hb1
 go_wp2_with fail
 refine (Pos.rightOk a.t a.r a.v _).mono ?_
 rintro e w2 ⟨rfl, hb2⟩
 rw [H1.out]
 have HT2 := hid (And.intro (HT1.out.1.below hb2) (below_on HT1.out.2 hb2))
 clear hb2 p0 p1 p2 p3 p4 p5 p6
 obtain ⟨p0, p1, p2, p3, p4, p5, p6⟩ := It.at a HT2.out.1
 go_wp2_with fail
 refine (Pos.rightOk a.u a.s a.y _).mono ?_
 rintro e w3 ⟨rfl, hb3⟩
 rw [H2.out]
 have HT3 := hid (And.intro (HT2.out.1.below hb3) (below_on HT2.out.2 hb3))
 clear hb3 p0 p1 p2 p3 p4 p5 p6
 obtain ⟨p0, p1, p2, p3, p4, p5, p6⟩ := It.at a HT3.out.1
 have g3 : (a.v == a.y) = true := by have := H3.out; simpa using this
 have g4 := H4.out
 have g5 := H5.out
 go_wp2_with fail
 go_ret
 exact ⟨rfl, HT3.out.2⟩
theorem Item.right_no6 (a : It) (w : World) (h1 : posOk a.r a.v = true) (h2 : posOk a.s a.y = true) (h3 : decide (a.v = a.y) = true) (h4 : decide (0 < a.i) = true) (h5 : decide (0 ≤ dif a.u a.t) = true) (h6 : decide (dif a.u a.t ≤ 1152921504606846976) = false) :
  Calls Tryz.prog 31 #[a.val] w (Ans (.bool false) w) := by
 have HT0 : Hid (∀ w' : World, Below (w.alloc (.cells #[.int .u64 a.t, .int .u32 a.r, .int .u32 a.v, .int .i64 a.i, .int .u64 a.u, .int .u32 a.s, .int .u32 a.y] 35)).heap.size (w.alloc (.cells #[.int .u64 a.t, .int .u32 a.r, .int .u32 a.v, .int .i64 a.i, .int .u64 a.u, .int .u32 a.s, .int .u32 a.y] 35)) w' → Cs w' w.heap.size a.cells ∧ Below w.heap.size w w') :=
  hid (fun w' hb => ⟨(Cs.new7 _ _ _).below hb, below_on ((Below.refl _ _).alloc (Nat.le_refl _) _) hb⟩)
 have H1 := hid h1
 have H2 := hid h2
 have H3 := hid h3
 have H4 := hid h4
 have H5 := hid h5
 have H6 := hid h6
 clear h1 h2 h3 h4 h5 h6
 unfold It.val
 go_enter Tryz.func31, Tryz.ntmps31
 go_wp2_with fail
 refine (Vtime.since a.u a.t _).mono ?_
 rintro e w1 ⟨rfl, hb1⟩
 have HT1 := hid (HT0.out _ hb1)
 obtain ⟨p0, p1, p2, p3, p4, p5, p6⟩ := It.at a HT1.out.1
 clear hb1
 go_wp2_with fail
 refine (Pos.rightOk a.t a.r a.v _).mono ?_
 rintro e w2 ⟨rfl, hb2⟩
 rw [H1.out]
 have HT2 := hid (And.intro (HT1.out.1.below hb2) (below_on HT1.out.2 hb2))
 clear hb2 p0 p1 p2 p3 p4 p5 p6
 obtain ⟨p0, p1, p2, p3, p4, p5, p6⟩ := It.at a HT2.out.1
 go_wp2_with fail
 refine (Pos.rightOk a.u a.s a.y _).mono ?_
 rintro e w3 ⟨rfl, hb3⟩
 rw [H2.out]
 have HT3 := hid (And.intro (HT2.out.1.below hb3) (below_on HT2.out.2 hb3))
 clear hb3 p0 p1 p2 p3 p4 p5 p6
 obtain ⟨p0, p1, p2, p3, p4, p5, p6⟩ := It.at a HT3.out.1
 have g3 : (a.v == a.y) = true := by have := H3.out; simpa using this
 have g4 := H4.out
 have g5 := H5.out
 have g6 := H6.out
 go_wp2_with fail
 go_ret
 exact ⟨rfl, HT3.out.2⟩
theorem Item.right_yes (a : It) (w : World) (h1 : posOk a.r a.v = true) (h2 : posOk a.s a.y = true) (h3 : decide (a.v = a.y) = true) (h4 : decide (0 < a.i) = true) (h5 : decide (0 ≤ dif a.u a.t) = true) (h6 : decide (dif a.u a.t ≤ 1152921504606846976) = true) :
  Calls Tryz.prog 31 #[a.val] w (Ans (.bool true) w) := by
 have HT0 : Hid (∀ w' : World, Below (w.alloc (.cells #[.int .u64 a.t, .int .u32 a.r, .int .u32 a.v, .int .i64 a.i, .int .u64 a.u, .int .u32 a.s, .int .u32 a.y] 35)).heap.size (w.alloc (.cells #[.int .u64 a.t, .int .u32 a.r, .int .u32 a.v, .int .i64 a.i, .int .u64 a.u, .int .u32 a.s, .int .u32 a.y] 35)) w' → Cs w' w.heap.size a.cells ∧ Below w.heap.size w w') :=
  hid (fun w' hb => ⟨(Cs.new7 _ _ _).below hb, below_on ((Below.refl _ _).alloc (Nat.le_refl _) _) hb⟩)
 have H1 := hid h1
 have H2 := hid h2
 have H3 := hid h3
 have H4 := hid h4
 have H5 := hid h5
 have H6 := hid h6
 clear h1 h2 h3 h4 h5 h6
 unfold It.val
 go_enter Tryz.func31, Tryz.ntmps31
 go_wp2_with fail
 refine (Vtime.since a.u a.t _).mono ?_
 rintro e w1 ⟨rfl, hb1⟩
 have HT1 := hid (HT0.out _ hb1)
 obtain ⟨p0, p1, p2, p3, p4, p5, p6⟩ := It.at a HT1.out.1
 clear hb1
 go_wp2_with fail
 refine (Pos.rightOk a.t a.r a.v _).mono ?_
 rintro e w2 ⟨rfl, hb2⟩
 rw [H1.out]
 have HT2 := hid (And.intro (HT1.out.1.below hb2) (below_on HT1.out.2 hb2))
 clear hb2 p0 p1 p2 p3 p4 p5 p6
 obtain ⟨p0, p1, p2, p3, p4, p5, p6⟩ := It.at a HT2.out.1
 go_wp2_with fail
 refine (Pos.rightOk a.u a.s a.y _).mono ?_
 rintro e w3 ⟨rfl, hb3⟩
 rw [H2.out]
 have HT3 := hid (And.intro (HT2.out.1.below hb3) (below_on HT2.out.2 hb3))
 clear hb3 p0 p1 p2 p3 p4 p5 p6
 obtain ⟨p0, p1, p2, p3, p4, p5, p6⟩ := It.at a HT3.out.1
 have g3 : (a.v == a.y) = true := by have := H3.out; simpa using this
 have g4 := H4.out
 have g5 := H5.out
 have g6 := H6.out
 go_wp2_with fail
 go_ret
 exact ⟨rfl, HT3.out.2⟩
theorem Item.right (a : It) (w : World) : Calls Tryz.prog 31 #[a.val] w (Ans (.bool (It.right a)) w) := by
 unfold It.right
 cases h1 : posOk a.r a.v with
 | false => simpa using Item.right_no1 a w h1
 | true =>
  cases h2 : posOk a.s a.y with
  | false => simpa using Item.right_no2 a w h1 h2
  | true =>
   cases h3 : decide (a.v = a.y) with
   | false => simpa using Item.right_no3 a w h1 h2 h3
   | true =>
    cases h4 : decide (0 < a.i) with
    | false => simpa using Item.right_no4 a w h1 h2 h3 h4
    | true =>
     cases h5 : decide (0 ≤ dif a.u a.t) with
     | false => simpa using Item.right_no5 a w h1 h2 h3 h4 h5
     | true =>
      cases h6 : decide (dif a.u a.t ≤ 1152921504606846976) with
      | false => simpa using Item.right_no6 a w h1 h2 h3 h4 h5 h6
      | true =>
       simpa using Item.right_yes a w h1 h2 h3 h4 h5 h6
end

end Go.Proofs.YtbcepkfdlaioaaaGreat

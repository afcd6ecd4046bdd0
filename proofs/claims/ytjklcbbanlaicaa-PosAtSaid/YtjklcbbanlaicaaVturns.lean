/- VtimeTurns: the walk. -/
import Derived.Test.YtjklcbbanlaicaaVspread
import Derived.Test.YtjklcbbanlaicaaOpen
namespace Go.Proofs.Ytjklcbbanlaicaa
open Go.RowKit

set_option maxHeartbeats 1000000 in
theorem Law3.awake (w : World) : Calls Try.prog 39 #[] w fun e w' => e = .returned (.bool true) ∧ Below w.heap.size w w' := by
  go_enter Try.func39, Try.ntmps39
  go_wp2_with fail
  refine (Law1.Awake _).mono ?_
  rintro e w1 ⟨rfl, hb1⟩
  go_wp2_with fail
  refine (Vtime.since 2 18446744073709551615 _).mono ?_
  rintro e w2 ⟨rfl, hb2⟩
  have E : dif 2 18446744073709551615 = 3 := by decide
  rw [E]
  clear E
  go_wp2
  go_ret
  exact ⟨rfl, below_on hb1 hb2⟩

theorem RdU.new1 (k : IntKind) (w : World) (t : TypeId) (x : Int) : RdU k (w.alloc (.cells #[.int k x] t)) (some ⟨w.heap.size, 0, none⟩) 1 [x] :=
  ⟨rfl, fun _ _ => ⟨_, 0, rfl, by simp, fun j hj => by
    rcases j with _ | j
    · simp
    · omega⟩⟩

set_option maxRecDepth 100000 in
set_option maxHeartbeats 4000000 in
theorem Vturns.walk (t d x : Int) (d0 : -9223372036854775808 ≤ d) (d1 : d ≤ 9223372036854775807) (w : World) :
    Calls Try.prog 11 #[.int .u64 t, .int .i64 d, .int .i64 x] w fun e w' => e = .returned (.bool true) ∧ Below w.heap.size w w' := by
  have F1 : (dif (adv t d) t == d) = true := by rw [beq_iff_eq]; exact dif_adv t d0 d1
  have F2 : (adv (adv (adv t d) x) (wrap64 (-x)) == adv t d) = true := by rw [beq_iff_eq]; unfold adv wrap64; omega
  have F3 : (adv (adv t d) x == adv (adv t x) d) = true := by rw [beq_iff_eq]; exact adv_comm _ _ _
  have F4 : (decide (dif (adv t d) t < 0) == decide (d < 0)) = true := by rw [dif_adv t d0 d1, beq_iff_eq]
  have F5 : firstL t [] = t := rfl
  have F6 : spreadL [t] = 0 := by unfold spreadL firstL lastL; simp only [List.foldl_nil, dif_self]; rfl
  clear d0 d1
  go_enter Try.func11, Try.ntmps11
  go_wp2_with fail
  refine (Law3.awake _).mono ?_
  rintro e w1 ⟨rfl, hb1⟩
  have B1 := hid hb1
  clear hb1
  go_wp2_with fail
  refine (Vtime.add t d _).mono ?_
  rintro e w2 ⟨rfl, hb2⟩
  have B2 := hid (below_on B1.out hb2)
  clear hb2
  go_wp2_with fail
  refine (Vtime.add (adv t d) x _).mono ?_
  rintro e w3 ⟨rfl, hb3⟩
  have B3 := hid (below_on B2.out hb3)
  clear hb3
  go_wp2_with fail
  refine (Vtime.add (adv (adv t d) x) (wrap64 (-x)) _).mono ?_
  rintro e w4 ⟨rfl, hb4⟩
  have B4 := hid (below_on B3.out hb4)
  clear hb4
  go_wp2_with fail
  refine (Vtime.since _ _ _).mono ?_
  rintro e w5 ⟨rfl, hb5⟩
  have B5 := hid (below_on B4.out hb5)
  clear hb5
  go_wp2_with fail
  refine (Vtime.add _ _ _).mono ?_
  rintro e w6 ⟨rfl, hb6⟩
  have B6 := hid (below_on B5.out hb6)
  clear hb6
  go_wp2_with fail
  refine (Vtime.add _ _ _).mono ?_
  rintro e w7 ⟨rfl, hb7⟩
  have B7 := hid (below_on B6.out hb7)
  clear hb7
  go_wp2_with fail
  refine (Vtime.add _ _ _).mono ?_
  rintro e w8 ⟨rfl, hb8⟩
  have B8 := hid (below_on B7.out hb8)
  clear hb8
  go_wp2_with fail
  refine (Vtime.before _ _ _).mono ?_
  rintro e w9 ⟨rfl, hb9⟩
  have B9 := hid (below_on B8.out hb9)
  clear hb9
  go_wp2_with fail
  refine (Vtime.first t none 0 0 [] _ ⟨rfl, fun i hi => absurd hi (by omega)⟩ (by decide)).mono ?_
  rintro e w10 ⟨rfl, hb10⟩
  have B10 := hid (below_on B9.out hb10)
  clear hb10
  rw [F5]
  go_wp2_with fail
  refine (Vtime.spread _ 0 1 t [] _ (RdU.new1 _ _ _ _) (by decide) (by decide)).mono ?_
  rintro e w11 ⟨rfl, hb11⟩
  have B11 := hid (below_on ((below_on B10.out (((Below.refl _ _).alloc (Nat.le_refl _) _)))) hb11)
  clear hb11
  rw [F6]
  go_wp2
  go_ret
  exact ⟨rfl, B11.out⟩

theorem Vturns.law (a0 a1 a2 : Int) (w : World) (_w0 : (Lit.int .u64 a0).wf = true) (w1 : (Lit.int .i64 a1).wf = true) (_w2 : (Lit.int .i64 a2).wf = true) :
    Calls Try.prog 11 #[.int .u64 a0, .int .i64 a1, .int .i64 a2] w fun e w' => e = .returned (.bool true) ∧ Below w.heap.size w w' :=
  Vturns.walk a0 a1 a2 (bounds_i64 w1).1 (bounds_i64 w1).2 w

end Go.Proofs.Ytjklcbbanlaicaa

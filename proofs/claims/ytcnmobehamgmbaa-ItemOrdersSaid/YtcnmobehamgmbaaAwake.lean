/- The chapter's examples of layer 1, as the laws ask them. -/
import Derived.Test.YtcnmobehamgmbaaWideD
namespace Go.Proofs.Ytcnmobehamgmbaa
open Go.RowKit

set_option maxHeartbeats 2000000 in
theorem Law1.awake (w : World) : Calls Try.prog 144 #[] w fun e w' => e = .returned (.bool true) ∧ Below w.heap.size w w' := by
  go_enter Try.func144, Try.ntmps144
  go_wp2_with fail
  refine (Wide.ofN (-7) (by decide) (by decide) _).mono ?_
  rintro e w1 ⟨h, l, rfl, hw, hb⟩
  go_wp2_with fail
  refine (Wide.div _ _ _ 2 hw (by decide) (by decide) _).mono ?_
  rintro e w2 ⟨hq, lq, q, r, rfl, ⟨hq1, hq2, r0, r1⟩, hb2⟩
  obtain rfl : r = 1 := by omega
  obtain rfl : q = -4 := by omega
  have B2 := hid (hb.trans (hb2.mono hb.size))
  have HQ := hid hq1
  clear hb hb2 hw hq1 hq2 r0 r1
  go_wp2_with fail
  refine (Wide.ofU 9223372036854775808 (by decide) (by decide) _).mono ?_
  rintro e w3 ⟨rfl, hw, hb3⟩
  go_wp2_with fail
  refine (Wide.mul _ _ 2 _ hw (by decide) (by decide) _).mono ?_
  rintro e w4 ⟨h', l', ok, rfl, hr, hb4⟩
  obtain ⟨rfl, hi⟩ := wres_ok hr (by unfold WR; omega)
  obtain ⟨rfl, rfl⟩ : h' = 1 ∧ l' = 0 := by obtain ⟨_, _, _, _, _⟩ := hi; omega
  have B4 := hb3.trans (hb4.mono hb3.size)
  clear hb3 hb4 hw hr hi
  obtain ⟨hc, hf⟩ := bcell B4
  have hs : w2.heap.size < w4.heap.size := by have := B4.size; simp at this; omega
  go_wp2_with fail
  have hcell0 : w4.cell? ⟨w2.heap.size, 0, none⟩ = some (.int .i64 hq) := by rw [hc _ _ (by simp)]; simp
  have hcell1 : w4.cell? ⟨w2.heap.size, 1, none⟩ = some (.int .u64 lq) := by rw [hc _ _ (by simp)]; simp
  clear hc hf
  have BT := hid (B2.out.trans ((((Below.refl _ _).alloc (Nat.le_refl _) (.cells #[.int .i64 hq, .int .u64 lq] 133)).trans (B4.mono (by simp))).mono B2.out.size))
  clear B4
  go_region_held3 (fun w' => w'.cell? ⟨w2.heap.size, 0, none⟩ = some (.int .i64 hq) ∧ w'.cell? ⟨w2.heap.size, 1, none⟩ = some (.int .u64 lq) ∧ w'.cell? ⟨w4.heap.size, 0, none⟩ = some (.int .i64 1) ∧ w'.cell? ⟨w4.heap.size, 1, none⟩ = some (.int .u64 0)) (first | go_keep | (refine ⟨(hb5.cell (p := ⟨w2.heap.size, 0, none⟩) ?_).trans ?_, (hb5.cell (p := ⟨w2.heap.size, 1, none⟩) ?_).trans ?_, (hb5.cell (p := ⟨w4.heap.size, 0, none⟩) ?_).trans ?_, (hb5.cell (p := ⟨w4.heap.size, 1, none⟩) ?_).trans ?_⟩ <;> first | (simp; done) | (simp; omega) | (simp [go_sem, *]; done)))
    (first | (go_at_call 142; refine (Wide.ofN (-4) (by decide) (by decide) _).mono ?_; rintro e w5 ⟨h5, l5, rfl, hw5, hb5⟩; obtain ⟨rfl, rfl⟩ := IsW.inj HQ.out hw5))
  have B5 := hid (((BT.out.alloc (BT.out.size) (.cells #[.int .i64 1, .int .u64 0] 133)).drew).trans (hb5.mono (by have := BT.out.size; simp; omega)))
  go_wp2
  go_ret
  exact ⟨rfl, B5.out⟩

theorem Law1.Awake (w : World) : Calls Try.prog 138 #[] w fun e w' => e = .returned (.bool true) ∧ Below w.heap.size w w' := by
  go_enter Try.func138, Try.ntmps138
  go_wp2_with (go_at_call 144; refine (Law1.awake _).mono ?_; rintro e w' ⟨rfl, hb⟩)
  go_ret
  exact ⟨rfl, hb⟩

set_option maxHeartbeats 1000000 in
theorem Wide.eqB (h1 l1 h2 l2 : Int) (w : World) :
    (binOp .eql 133 (.agg #[.int .i64 h1, .int .u64 l1]) (.agg #[.int .i64 h2, .int .u64 l2])).run Try.prog w = .ok (.bool (h1 == h2 && l1 == l2)) w := by
  by_cases p : h1 = h2
  · subst p
    by_cases q : l1 = l2
    · subst q
      go_simp
    · have q' : (l1 == l2) = false := by simpa using q
      go_simp
  · have p' : (h1 == h2) = false := by simpa using p
    go_simp
set_option maxHeartbeats 1000000 in
theorem Wide.neB (h1 l1 h2 l2 : Int) (w : World) :
    (binOp .neq 133 (.agg #[.int .i64 h1, .int .u64 l1]) (.agg #[.int .i64 h2, .int .u64 l2])).run Try.prog w = .ok (.bool (!(h1 == h2 && l1 == l2))) w := by
  by_cases p : h1 = h2
  · subst p
    by_cases q : l1 = l2
    · subst q
      go_simp
    · have q' : (l1 == l2) = false := by simpa using q
      go_simp
  · have p' : (h1 == h2) = false := by simpa using p
    go_simp
/-- '==' of two wide numbers: as the numbers are. -/
theorem Wide.eqV {h1 l1 h2 l2 a b : Int} (ha : IsW h1 l1 a) (hb : IsW h2 l2 b) (w : World) :
    (binOp .eql 133 (.agg #[.int .i64 h1, .int .u64 l1]) (.agg #[.int .i64 h2, .int .u64 l2])).run Try.prog w = .ok (.bool (decide (a = b))) w := by
  have e : (h1 == h2 && l1 == l2) = decide (a = b) := by
    rw [Bool.eq_iff_iff]; simp only [Bool.and_eq_true, beq_iff_eq, decide_eq_true_eq]; exact IsW.same ha hb
  rw [Wide.eqB, e]
theorem Wide.neV {h1 l1 h2 l2 a b : Int} (ha : IsW h1 l1 a) (hb : IsW h2 l2 b) (w : World) :
    (binOp .neq 133 (.agg #[.int .i64 h1, .int .u64 l1]) (.agg #[.int .i64 h2, .int .u64 l2])).run Try.prog w = .ok (.bool (!decide (a = b))) w := by
  have e : (h1 == h2 && l1 == l2) = decide (a = b) := by
    rw [Bool.eq_iff_iff]; simp only [Bool.and_eq_true, beq_iff_eq, decide_eq_true_eq]; exact IsW.same ha hb
  rw [Wide.neB, e]

end Go.Proofs.Ytcnmobehamgmbaa

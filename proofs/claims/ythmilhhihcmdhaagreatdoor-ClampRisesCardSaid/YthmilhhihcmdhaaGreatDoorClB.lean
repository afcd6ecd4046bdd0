/- The contracts of the package clamp: windows, sizes. -/
import Derived.Test.YthmilhhihcmdhaaGreatDoorClampRisesZ19
import Derived.Test.YthmilhhihcmdhaaGreatDoorClampRisesZ0
namespace Go.Proofs.YthmilhhihcmdhaaGreatDoor
open Go.RowKit
theorem winOk_no {s t : Int} (h : ¬ ((1 ≤ s ∧ s ≤ 1099511627776) ∧ (1 ≤ t ∧ t ≤ 1099511627776))) : winI s t = 0 ∧ winOk s t = false := by
  have : winOk s t = false := by
    cases e : winOk s t
    · rfl
    · exact absurd (winOk_iff.1 e) h
  unfold winI
  rw [this]
  exact ⟨rfl, rfl⟩
set_option maxRecDepth 100000 in
set_option maxHeartbeats 2000000 in
theorem Clamp.window (s t : Int) (hs : IsT s) (ht : IsT t) (w : World) :
    Calls Tryz.prog 51 #[.int .u64 s, .int .u64 t] w (Ans (.tuple #[.int .i64 (winI s t), .bool (winOk s t)]) w) := by
  obtain ⟨s0, s1⟩ := hs
  obtain ⟨t0, t1⟩ := ht
  by_cases h1 : s < 1
  · obtain ⟨e1, e2⟩ := winOk_no (s := s) (t := t) (by omega)
    rw [e1, e2]
    clear e1 e2
    go_enter Tryz.func51, Tryz.ntmps51
    go_wp2_with fail
    go_ret2
    exact ⟨rfl, Below.refl _ _⟩
  · by_cases h2 : 1099511627776 < s
    · obtain ⟨e1, e2⟩ := winOk_no (s := s) (t := t) (by omega)
      rw [e1, e2]
      clear e1 e2
      go_enter Tryz.func51, Tryz.ntmps51
      go_wp2_with fail
      go_ret2
      exact ⟨rfl, Below.refl _ _⟩
    · by_cases h3 : t < 1
      · obtain ⟨e1, e2⟩ := winOk_no (s := s) (t := t) (by omega)
        rw [e1, e2]
        clear e1 e2
        go_enter Tryz.func51, Tryz.ntmps51
        go_wp2_with fail
        go_ret2
        exact ⟨rfl, Below.refl _ _⟩
      · by_cases h4 : 1099511627776 < t
        · obtain ⟨e1, e2⟩ := winOk_no (s := s) (t := t) (by omega)
          rw [e1, e2]
          clear e1 e2
          go_enter Tryz.func51, Tryz.ntmps51
          go_wp2_with fail
          go_ret2
          exact ⟨rfl, Below.refl _ _⟩
        · have e2 : winOk s t = true := winOk_iff.2 (by omega)
          have e1 : winI s t = (2 * s + t) * 1048576 := by unfold winI; rw [if_pos e2]
          rw [e1, e2]
          clear e1 e2
          have k1 : IntKind.u64.wrap (2 * s) = 2 * s := by rw [IntKind.wrap_u64]; omega
          have k2 : IntKind.u64.wrap (2 * s + t) = 2 * s + t := by rw [IntKind.wrap_u64]; omega
          have k3 : IntKind.u64.wrap ((2 * s + t) * 1048576) = (2 * s + t) * 1048576 := by rw [IntKind.wrap_u64]; omega
          have k4 : IntKind.i64.wrap ((2 * s + t) * 1048576) = (2 * s + t) * 1048576 := by rw [IntKind.wrap_i64]; omega
          go_enter Tryz.func51, Tryz.ntmps51
          go_wp2_with fail
          go_ret2
          exact ⟨rfl, Below.refl _ _⟩
theorem mxW_words : hiW mxW = 9223372036854775807 ∧ loW mxW = 18446744073709551615 := by unfold mxW hiW loW; decide
set_option maxRecDepth 100000 in
set_option maxHeartbeats 1000000 in
theorem Clamp.greatest (w : World) : Calls Tryz.prog 97 #[] w (Ans (wv mxW) w) := by
  obtain ⟨e1, e2⟩ := mxW_words
  unfold wv
  rw [e1, e2]
  clear e1 e2
  go_enter Tryz.func97, Tryz.ntmps97
  go_wp2_with fail
  refine bodyPost_ret (v := .agg #[.int .i64 9223372036854775807, .int .u64 18446744073709551615]) (by simp [results, Tryz.results97, go_sem]) rfl ⟨rfl, ?_⟩
  exact (Below.refl w.heap.size w).alloc (Nat.le_refl _) _
theorem Wide.negF {a : Int} (ha : WR a) (w : World) : Calls Tryz.prog 96 #[wv a] w (Ans (.tuple #[wv (clW (-a)), .bool (okW (-a))]) w) := by
  have e0 : -a = 0 - a := by omega
  rw [e0]
  exact (Wide.neg _ _ a (isW_of ha) w).mono (by rintro e w' ⟨h, l, ok, rfl, hr, hb⟩; obtain ⟨rfl, rfl, rfl⟩ := wres_F hr; exact ⟨rfl, hb⟩)
theorem cmpI_ge0 {x : Int} : 0 ≤ cmpI x 0 ↔ 0 ≤ x := by unfold cmpI; split <;> (try split) <;> omega
end Go.Proofs.YthmilhhihcmdhaaGreatDoor

/- PosBack: for any arguments. -/
import Derived.Test.YtjklcbbanlaicaaPback
namespace Go.Proofs.Ytjklcbbanlaicaa
open Go.RowKit

set_option maxRecDepth 100000 in
set_option maxHeartbeats 4000000 in
/-- A position that may not be, or is far. -/
theorem Back.away (t r v base : Int) (b : Bool) (hR : (decide (1 ≤ v ∧ v ≤ 1048576) && decide (r < v)) = b) (far : b = false ∨ dif t base ≤ -4611686018427387904 ∨ 4611686018427387904 ≤ dif t base) (w : World) :
    Calls Try.prog 17 #[.agg #[.int .u64 t, .int .u32 r, .int .u32 v], .int .u64 base] w (Ans (.bool true) w) := by
  have HR := hid hR
  clear hR
  rcases b with _ | _
  · clear far
    go_enter Try.func17, Try.ntmps17
    go_wp2_with fail
    refine (Law4.awake _).mono ?_
    rintro e w1 ⟨rfl, hb1⟩
    have HT1 := hid (show Cs _ w.heap.size [.int .u64 t, .int .u32 r, .int .u32 v] ∧ Below w.heap.size w w1 from ⟨(Cs.new3 _ _ _ _ _).below hb1, below_on ((Below.refl _ _).alloc (Nat.le_refl _) _) hb1⟩)
    clear hb1
    have x0 := HT1.out.1.at0
    have x1 := HT1.out.1.at1
    have x2 := HT1.out.1.at2
    go_wp2_with fail
    refine (Vtime.since t base _).mono ?_
    rintro e w2 ⟨rfl, hb2⟩
    have HT2 := hid (show Cs _ w.heap.size [.int .u64 t, .int .u32 r, .int .u32 v] ∧ Below w.heap.size w w2 from ⟨HT1.out.1.below hb2, below_on HT1.out.2 hb2⟩)
    clear hb2 x0 x1 x2 HT1
    have x0 := HT2.out.1.at0
    have x1 := HT2.out.1.at1
    have x2 := HT2.out.1.at2
    go_wp2_with fail
    refine (Pos.right t r v _).mono ?_
    rintro e w3 ⟨rfl, hb3⟩
    rw [HR.out]
    have HF := hid (below_on HT2.out.2 hb3)
    clear hb3 x0 x1 x2 HT2
    go_wp2_with fail
    go_ret
    exact ⟨rfl, HF.out⟩
  · have far2 : dif t base ≤ -4611686018427387904 ∨ (-4611686018427387904 < dif t base ∧ 4611686018427387904 ≤ dif t base) := by
      rcases far with h | h | h
      · cases h
      · exact .inl h
      · exact .inr ⟨by omega, h⟩
    clear far
    rcases far2 with c | ⟨c1, c2⟩
    all_goals
      go_enter Try.func17, Try.ntmps17
      go_wp2_with fail
      refine (Law4.awake _).mono ?_
      rintro e w1 ⟨rfl, hb1⟩
      have HT1 := hid (show Cs _ w.heap.size [.int .u64 t, .int .u32 r, .int .u32 v] ∧ Below w.heap.size w w1 from ⟨(Cs.new3 _ _ _ _ _).below hb1, below_on ((Below.refl _ _).alloc (Nat.le_refl _) _) hb1⟩)
      clear hb1
      have x0 := HT1.out.1.at0
      have x1 := HT1.out.1.at1
      have x2 := HT1.out.1.at2
      go_wp2_with fail
      refine (Vtime.since t base _).mono ?_
      rintro e w2 ⟨rfl, hb2⟩
      have HT2 := hid (show Cs _ w.heap.size [.int .u64 t, .int .u32 r, .int .u32 v] ∧ Below w.heap.size w w2 from ⟨HT1.out.1.below hb2, below_on HT1.out.2 hb2⟩)
      clear hb2 x0 x1 x2 HT1
      have x0 := HT2.out.1.at0
      have x1 := HT2.out.1.at1
      have x2 := HT2.out.1.at2
      go_wp2_with fail
      refine (Pos.right t r v _).mono ?_
      rintro e w3 ⟨rfl, hb3⟩
      rw [HR.out]
      have HF := hid (below_on HT2.out.2 hb3)
      clear hb3 x0 x1 x2 HT2
      go_wp2_with fail
      go_ret
      exact ⟨rfl, HF.out⟩

theorem Back.law (t r v base : Int) (w : World) (w0 : (0 ≤ t ∧ t ≤ 18446744073709551615) ∧ (0 ≤ r ∧ r ≤ 4294967295) ∧ (0 ≤ v ∧ v ≤ 4294967295)) (_w1 : (Lit.int .u64 base).wf = true) :
    Calls Try.prog 17 #[.agg #[.int .u64 t, .int .u32 r, .int .u32 v], .int .u64 base] w fun e w' => e = .returned (.bool true) ∧ Below w.heap.size w w' := by
  obtain ⟨ht, ⟨r0, r1⟩, ⟨v0, v1⟩⟩ := w0
  by_cases hp : IsP r v
  · by_cases c1 : dif t base ≤ -4611686018427387904
    · exact Back.away t r v base _ rfl (.inr (.inl c1)) w
    · by_cases c2 : 4611686018427387904 ≤ dif t base
      · exact Back.away t r v base _ rfl (.inr (.inr c2)) w
      · have hR : (decide (1 ≤ v ∧ v ≤ 1048576) && decide (r < v)) = true := by
          rw [Bool.and_eq_true, decide_eq_true_eq, decide_eq_true_eq]; exact ⟨⟨hp.1, hp.2.1⟩, hp.2.2.2⟩
        refine Back.core t r v base (adv t 1) r0 r1 v0 v1 (by omega) (by omega) hR ?_ ?_ ?_ ?_ ?_ ?_ w
        · intro h l hw w
          have := Pos.at_yes base h l _ v hw (back_ok hp (dif_bd t base).1 (dif_bd t base).2) w
          rw [(back_div hp).1, (back_div hp).2, adv_dif (show IsT t from ht)] at this
          exact this
        · intro w
          have := Pos.move_yes t r v v r0 r1 v0 (by omega) (move_ok hp v0 (by omega)) w
          rw [(one_div hp).1, (one_div hp).2] at this
          exact this
        · intro w
          have := Pos.shift t r v 1 w
          rw [show IntKind.u64.wrap (t + 1) = adv t 1 by rw [IntKind.wrap_u64]; unfold adv; omega] at this
          exact this
        · intro w
          have := Pos.cmp t r v (adv t 1) r v r0 r1 v0 v1 r0 r1 v0 v1 w
          rw [posC_next] at this
          exact this
        · intro w
          have := Pos.cmp t r v t r v r0 r1 v0 v1 r0 r1 v0 v1 w
          rw [posC_self] at this
          exact this
        · intro w A c h
          have := Pos.floors t A 2 c _ w h (by decide)
          have e1 : loL t [(t, r, v), (adv t 1, r, v)] = 0 := by simp only [loL, List.foldl_cons, List.foldl_nil, dif_self]; rw [dif_adv t (by omega) (by omega)]; decide
          have e2 : hiL t [(t, r, v), (adv t 1, r, v)] = 1 := by simp only [hiL, List.foldl_cons, List.foldl_nil, dif_self]; rw [dif_adv t (by omega) (by omega)]; decide
          rw [e1, e2] at this
          exact this
  · refine Back.away t r v base false ?_ (.inl rfl) w
    unfold IsP at hp
    rw [Bool.and_eq_false_iff, decide_eq_false_iff_not, decide_eq_false_iff_not]; omega

end Go.Proofs.Ytjklcbbanlaicaa

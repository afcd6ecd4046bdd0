/- PosMoves: for any arguments. -/
import Derived.Test.YtjklcbbanlaicaaPmoves
namespace Go.Proofs.Ytjklcbbanlaicaa
open Go.RowKit

set_option maxRecDepth 100000 in
set_option maxHeartbeats 4000000 in
/-- A position that may not be, or too many grains. -/
theorem Moves.away (t r v u s y a b : Int) (k : Bool) (hR : (decide (1 ≤ v ∧ v ≤ 1048576) && decide (r < v)) = k) (far : k = false ∨ 2305843009213693952 < a ∨ (a ≤ 2305843009213693952 ∧ 2305843009213693952 < b)) (w : World) :
    Calls Try.prog 16 #[.agg #[.int .u64 t, .int .u32 r, .int .u32 v], .agg #[.int .u64 u, .int .u32 s, .int .u32 y], .int .u64 a, .int .u64 b] w (Ans (.bool true) w) := by
  have HR := hid hR
  clear hR
  rcases k with _ | _
  · clear far
    go_enter Try.func16, Try.ntmps16
    go_wp2_with fail
    refine (Law4.awake _).mono ?_
    rintro e w1 ⟨rfl, hb1⟩
    have HT1 := hid (show Cs _ w.heap.size [.int .u64 t, .int .u32 r, .int .u32 v] ∧ Below w.heap.size w w1 from ⟨((Cs.new3 _ _ _ _ _).alloc _).below hb1, below_on (((Below.refl _ _).alloc (Nat.le_refl _) _).alloc (by simp) _) hb1⟩)
    clear hb1
    have x0 := HT1.out.1.at0
    have x1 := HT1.out.1.at1
    have x2 := HT1.out.1.at2
    go_wp2_with fail
    refine (Pos.right t r v _).mono ?_
    rintro e w2 ⟨rfl, hb2⟩
    rw [HR.out]
    have HF := hid (below_on HT1.out.2 hb2)
    clear hb2 x0 x1 x2 HT1
    go_wp2_with fail
    go_ret
    exact ⟨rfl, HF.out⟩
  · have far2 : 2305843009213693952 < a ∨ (a ≤ 2305843009213693952 ∧ 2305843009213693952 < b) := by
      rcases far with h | h
      · cases h
      · exact h
    clear far
    rcases far2 with c | ⟨c1, c2⟩
    all_goals
      go_enter Try.func16, Try.ntmps16
      go_wp2_with fail
      refine (Law4.awake _).mono ?_
      rintro e w1 ⟨rfl, hb1⟩
      have HT1 := hid (show Cs _ w.heap.size [.int .u64 t, .int .u32 r, .int .u32 v] ∧ Below w.heap.size w w1 from ⟨((Cs.new3 _ _ _ _ _).alloc _).below hb1, below_on (((Below.refl _ _).alloc (Nat.le_refl _) _).alloc (by simp) _) hb1⟩)
      clear hb1
      have x0 := HT1.out.1.at0
      have x1 := HT1.out.1.at1
      have x2 := HT1.out.1.at2
      go_wp2_with fail
      refine (Pos.right t r v _).mono ?_
      rintro e w2 ⟨rfl, hb2⟩
      rw [HR.out]
      have HF := hid (below_on HT1.out.2 hb2)
      clear hb2 x0 x1 x2 HT1
      go_wp2_with fail
      go_ret
      exact ⟨rfl, HF.out⟩

theorem right_of {r v : Int} (hp : IsP r v) : (decide (1 ≤ v ∧ v ≤ 1048576) && decide (r < v)) = true := by
  rw [Bool.and_eq_true, decide_eq_true_eq, decide_eq_true_eq]; exact ⟨⟨hp.1, hp.2.1⟩, hp.2.2.2⟩
theorem not_right_of {r v : Int} (r0 : 0 ≤ r) (hp : ¬ IsP r v) : (decide (1 ≤ v ∧ v ≤ 1048576) && decide (r < v)) = false := by
  unfold IsP at hp
  rw [Bool.and_eq_false_iff, decide_eq_false_iff_not, decide_eq_false_iff_not]; omega

theorem Moves.law (t r v u s y a b : Int) (w : World) (w0 : (0 ≤ t ∧ t ≤ 18446744073709551615) ∧ (0 ≤ r ∧ r ≤ 4294967295) ∧ (0 ≤ v ∧ v ≤ 4294967295)) (w1 : (0 ≤ u ∧ u ≤ 18446744073709551615) ∧ (0 ≤ s ∧ s ≤ 4294967295) ∧ (0 ≤ y ∧ y ≤ 4294967295))
    (w2 : (Lit.int .u64 a).wf = true) (w3 : (Lit.int .u64 b).wf = true) :
    Calls Try.prog 16 #[.agg #[.int .u64 t, .int .u32 r, .int .u32 v], .agg #[.int .u64 u, .int .u32 s, .int .u32 y], .int .u64 a, .int .u64 b] w fun e w' => e = .returned (.bool true) ∧ Below w.heap.size w w' := by
  obtain ⟨ht, ⟨r0, r1⟩, ⟨v0, v1⟩⟩ := w0
  obtain ⟨hu, ⟨s0, s1⟩, _⟩ := w1
  obtain ⟨a0, a1⟩ := bounds_u64 w2
  obtain ⟨b0, b1⟩ := bounds_u64 w3
  by_cases hp : IsP r v
  · by_cases c1 : a ≤ 2305843009213693952
    · by_cases c2 : b ≤ 2305843009213693952
      · have hx := move_P (a := a) hp
        have P1 := Pos.move_yes t r v a r0 r1 a0 a1 (move_ok hp a0 (by omega))
        have ag := move_again (T := t) (a := a) (b := b) hp
        have x0 := hx.2.2.1
        have x1 : (a + r) % v ≤ 4294967295 := by have := hx.2.2.2; omega
        refine Moves.core t r v u s y a b (adv t ((a + r) / v)) ((a + r) % v) (adv t ((a + b + r) / v)) ((a + b + r) % v) (if 1 ≤ a then 1 else a) c1 c2 (by rw [IntKind.wrap_u64]; omega) (by rw [IntKind.wrap_i64]; omega) (by unfold wrap64; omega)
          (right_of hp) (right_of hx) P1 ?_ ?_ ?_ ?_ ?_ ?_ w
        · intro w
          have := Pos.move_yes (adv t ((a + r) / v)) ((a + r) % v) v b x0 x1 b0 b1 (move_ok hx b0 (by omega)) w
          rw [ag.1, ag.2] at this
          exact this
        · intro w
          exact Pos.move_yes t r v (a + b) r0 r1 (by omega) (by omega) (move_ok hp (by omega) (by omega)) w
        · rw [move_since hp a0 c1]
          have := (quot_bd hp a0 (by omega)).1
          omega
        · intro w
          have := Pos.cmp (adv t ((a + r) / v)) ((a + r) % v) v t r v x0 x1 v0 v1 r0 r1 v0 v1 w
          rw [move_ahead hp a0 c1] at this
          exact this
        · rw [bne_eq_false_iff_eq]
          split <;> omega
        · by_cases hq : IsP s v
          · by_cases d1 : 2305843009213693952 ≤ dif u t
            · exact .inr (.inl ⟨right_of hq, d1⟩)
            · by_cases d2 : dif u t ≤ -2305843009213693952
              · exact .inr (.inr (.inl ⟨right_of hq, by omega, d2⟩))
              · have hz := move_P (a := a) hq
                refine .inr (.inr (.inr ⟨right_of hq, by omega, by omega, adv u ((a + s) / v), (a + s) % v, posC u s v t r v, ?_, ?_, ?_⟩))
                · exact Pos.move_yes u s v a s0 s1 a0 a1 (move_ok hq a0 (by omega))
                · intro w
                  have := Pos.cmp (adv u ((a + s) / v)) ((a + s) % v) v (adv t ((a + r) / v)) ((a + r) % v) v hz.2.2.1 (by have := hz.2.2.2; omega) v0 v1 x0 x1 v0 v1 w
                  rw [move_cmp hp hq a0 c1 (by omega) (by omega)] at this
                  exact this
                · exact Pos.cmp u s v t r v s0 s1 v0 v1 r0 r1 v0 v1
          · exact .inl (not_right_of s0 hq)
      · exact Moves.away t r v u s y a b _ rfl (.inr (.inr ⟨c1, by omega⟩)) w
    · exact Moves.away t r v u s y a b _ rfl (.inr (.inl (by omega))) w
  · exact Moves.away t r v u s y a b false (not_right_of r0 hp) (.inl rfl) w

end Go.Proofs.Ytjklcbbanlaicaa

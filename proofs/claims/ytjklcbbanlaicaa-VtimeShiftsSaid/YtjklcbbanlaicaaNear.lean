/- Plain facts on times near one another: nothing of the program. -/
import Derived.Test.YtjklcbbanlaicaaVnum
namespace Go.Proofs.Ytjklcbbanlaicaa
open Go.RowKit

/-- Nearer than 2^62. -/
def Nr (d : Int) : Prop := -4611686018427387904 < d ∧ d < 4611686018427387904
theorem fstep_near (t : Int) {d e : Int} (hd : Nr d) (he : Nr e) : fstep (adv t d) (adv t e) = adv t (min d e) := by
  unfold Nr at hd he
  unfold fstep
  rw [dif_near t (by omega) (by omega)]
  by_cases h : e - d < 0
  · rw [if_pos h, Int.min_eq_right (by omega)]
  · rw [if_neg h, Int.min_eq_left (by omega)]
theorem lstep_near (t : Int) {d e : Int} (hd : Nr d) (he : Nr e) : lstep (adv t d) (adv t e) = adv t (max d e) := by
  unfold Nr at hd he
  unfold lstep
  rw [dif_near t (by omega) (by omega)]
  by_cases h : d - e < 0
  · rw [if_pos h, Int.max_eq_right (by omega)]
  · rw [if_neg h, Int.max_eq_left (by omega)]
theorem min_nr {d e : Int} (hd : Nr d) (he : Nr e) : Nr (min d e) := by unfold Nr at *; omega
theorem max_nr {d e : Int} (hd : Nr d) (he : Nr e) : Nr (max d e) := by unfold Nr at *; omega
theorem firstL_near (t : Int) : ∀ (ds : List Int) {d : Int}, Nr d → (∀ e ∈ ds, Nr e) → firstL (adv t d) (ds.map (adv t)) = adv t (ds.foldl min d)
  | [], _, _, _ => rfl
  | e :: ds, d, hd, he => by
    unfold firstL
    rw [List.map_cons, List.foldl_cons, List.foldl_cons, fstep_near t hd (he e (by simp))]
    exact firstL_near t ds (min_nr hd (he e (by simp))) (fun x hx => he x (by simp [hx]))
theorem lastL_near (t : Int) : ∀ (ds : List Int) {d : Int}, Nr d → (∀ e ∈ ds, Nr e) → lastL (adv t d) (ds.map (adv t)) = adv t (ds.foldl max d)
  | [], _, _, _ => rfl
  | e :: ds, d, hd, he => by
    unfold lastL
    rw [List.map_cons, List.foldl_cons, List.foldl_cons, lstep_near t hd (he e (by simp))]
    exact lastL_near t ds (max_nr hd (he e (by simp))) (fun x hx => he x (by simp [hx]))
theorem foldl_min : ∀ (ds : List Int) (d : Int), ds.foldl min d ≤ d ∧ (∀ e ∈ ds, ds.foldl min d ≤ e) ∧ (ds.foldl min d = d ∨ ds.foldl min d ∈ ds)
  | [], d => ⟨Int.le_refl _, (by intro e he; cases he), .inl rfl⟩
  | e :: ds, d => by
    obtain ⟨h1, h2, h3⟩ := foldl_min ds (min d e)
    rw [List.foldl_cons]
    refine ⟨by omega, ?_, ?_⟩
    · intro x hx
      rcases List.mem_cons.1 hx with rfl | hx
      · omega
      · exact h2 x hx
    · rcases h3 with h3 | h3
      · by_cases c : d ≤ e
        · exact .inl (by rw [h3]; omega)
        · exact .inr (by rw [h3, Int.min_eq_right (by omega)]; simp)
      · exact .inr (by simp [h3])
theorem foldl_max : ∀ (ds : List Int) (d : Int), d ≤ ds.foldl max d ∧ (∀ e ∈ ds, e ≤ ds.foldl max d) ∧ (ds.foldl max d = d ∨ ds.foldl max d ∈ ds)
  | [], d => ⟨Int.le_refl _, (by intro e he; cases he), .inl rfl⟩
  | e :: ds, d => by
    obtain ⟨h1, h2, h3⟩ := foldl_max ds (max d e)
    rw [List.foldl_cons]
    refine ⟨by omega, ?_, ?_⟩
    · intro x hx
      rcases List.mem_cons.1 hx with rfl | hx
      · omega
      · exact h2 x hx
    · rcases h3 with h3 | h3
      · by_cases c : e ≤ d
        · exact .inl (by rw [h3]; omega)
        · exact .inr (by rw [h3, Int.max_eq_right (by omega)]; simp)
      · exact .inr (by simp [h3])
/-- The least of some, in any order. -/
theorem foldl_min_same {ds es : List Int} {d e : Int} (hd : d ∈ ds) (he : e ∈ es) (h : ∀ x, x ∈ ds ↔ x ∈ es) : ds.foldl min d = es.foldl min e := by
  obtain ⟨a1, a2, a3⟩ := foldl_min ds d
  obtain ⟨b1, b2, b3⟩ := foldl_min es e
  have ha : ds.foldl min d ∈ ds := by rcases a3 with a3 | a3; rw [a3]; exact hd; exact a3
  have hb : es.foldl min e ∈ es := by rcases b3 with b3 | b3; rw [b3]; exact he; exact b3
  have := a2 _ ((h _).2 hb)
  have := b2 _ ((h _).1 ha)
  omega
theorem foldl_max_same {ds es : List Int} {d e : Int} (hd : d ∈ ds) (he : e ∈ es) (h : ∀ x, x ∈ ds ↔ x ∈ es) : ds.foldl max d = es.foldl max e := by
  obtain ⟨a1, a2, a3⟩ := foldl_max ds d
  obtain ⟨b1, b2, b3⟩ := foldl_max es e
  have ha : ds.foldl max d ∈ ds := by rcases a3 with a3 | a3; rw [a3]; exact hd; exact a3
  have hb : es.foldl max e ∈ es := by rcases b3 with b3 | b3; rw [b3]; exact he; exact b3
  have := a2 _ ((h _).2 hb)
  have := b2 _ ((h _).1 ha)
  omega
theorem foldl_min_nr {ds : List Int} {d : Int} (hd : Nr d) (hn : ∀ e ∈ ds, Nr e) : Nr (ds.foldl min d) := by
  obtain ⟨_, _, a3⟩ := foldl_min ds d
  rcases a3 with a3 | a3
  · rw [a3]; exact hd
  · exact hn _ a3
theorem foldl_max_nr {ds : List Int} {d : Int} (hd : Nr d) (hn : ∀ e ∈ ds, Nr e) : Nr (ds.foldl max d) := by
  obtain ⟨_, _, a3⟩ := foldl_max ds d
  rcases a3 with a3 | a3
  · rw [a3]; exact hd
  · exact hn _ a3

end Go.Proofs.Ytjklcbbanlaicaa

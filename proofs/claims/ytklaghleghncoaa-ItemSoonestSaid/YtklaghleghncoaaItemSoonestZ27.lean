/- Texts of ItemSoonest's proof, together. -/
import Derived.Test.YtklaghleghncoaaRbB
import Derived.StillTailTactics
namespace Go.Proofs.Ytklaghleghncoaa
/- The tree of numbers: turning. -/
section
open Go.RowKit
theorem In.far {w : World} {t : Tr Int} (h : In w t) {g : Nat} (hn : Nl w g) (hg : g ∉ t.blocks) (o : Nat) (u : Value) : In (w.setCell ⟨g, o, none⟩ u) t :=
  h.chg (F := [g]) ((Chg.refl [g] w).set (Or.inl (by simp)) o u) (fun k hk => by simp at hk; subst hk; exact hn) (fun k hk hk' => by simp at hk'; subst hk'; exact hg hk)
theorem In.drew {w : World} {t : Tr Int} (h : In w t) : In w.drew t := h.below ((Below.refl _ _).drew)
theorem Sl.far {w : World} {v : Value} {L : List Int} (h : Sl w v L) {g : Nat} (hn : Nl w g) (o : Nat) (u : Value) : Sl (w.setCell ⟨g, o, none⟩ u) v L :=
  h.chg (F := [g]) ((Chg.refl [g] w).set (Or.inl (by simp)) o u) (fun k hk => by simp at hk; subst hk; exact hn)
theorem Nl.chg {F : List Nat} {w w' : World} {g : Nat} (h : Nl w g) (hc : Chg F w w') (hg : g ∉ F) : Nl w' g := by
  obtain ⟨A, n, c, e⟩ := h
  exact ⟨A, n, c, (hc.cell (p := ⟨g, 1, none⟩) (World.block_lt_of_cell? w _ e) hg).trans e⟩
end

/- The tree of numbers: counting. -/
section
open Go.RowKit
theorem Sl.form {w : World} {v : Value} {L : List Int} (h : Sl w v L) : ∃ A n c, v = .slice A n c := by obtain ⟨s, c, e, _⟩ := h; exact ⟨_, _, _, e⟩
end

end Go.Proofs.Ytklaghleghncoaa

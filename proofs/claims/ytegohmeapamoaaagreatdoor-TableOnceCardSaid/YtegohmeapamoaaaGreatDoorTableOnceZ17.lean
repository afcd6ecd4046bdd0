/- Texts of TableOnce's proof, together. -/
import Derived.Test.YtegohmeapamoaaaGreatDoorRbB
import Derived.StillTailTactics
import Derived.Test.YtegohmeapamoaaaGreatDoorTableOnceZ15
import Derived.BigQuiet
import Derived.Deep.QuietTactic
namespace Go.Proofs.YtegohmeapamoaaaGreatDoor
/- The tree of numbers: turning. -/
section
open Go.RowKit
theorem In.far {w : World} {t : Tr Int} (h : In w t) {g : Nat} (hn : Nl w g) (hg : g ∉ t.blocks) (o : Nat) (u : Value) : In (w.setCell ⟨g, o, none⟩ u) t :=
  h.chg (F := [g]) ((Chg.refl [g] w).set (Or.inl (by simp)) o u) (fun k hk => by simp at hk; subst hk; exact hn) (fun k hk hk' => by simp at hk'; subst hk'; exact hg hk)
theorem In.drew {w : World} {t : Tr Int} (h : In w t) : In w.drew t := h.below ((Below.refl _ _).drew)
theorem Sl.far {w : World} {v : Value} {L : List Int} (h : Sl w v L) {g : Nat} (hn : Nl w g) (o : Nat) (u : Value) : Sl (w.setCell ⟨g, o, none⟩ u) v L :=
  h.chg (F := [g]) ((Chg.refl [g] w).set (Or.inl (by simp)) o u) (fun k hk => by simp at hk; subst hk; exact hn)
theorem Nl.chg {F : List Nat} {w w' : World} {g : Nat} (h : Nl w g) (hc : Chg F w w') (hg : g ∉ F) : Nl w' g := by
  obtain ⟨A, n, c, e⟩ := h
  exact ⟨A, n, c, (hc.cell (p := ⟨g, 1, none⟩) (World.block_lt_of_cell? w _ e) hg).trans e⟩
end

/- The tree of numbers: counting. -/
section
open Go.RowKit
theorem Sl.form {w : World} {v : Value} {L : List Int} (h : Sl w v L) : ∃ A n c, v = .slice A n c := by obtain ⟨s, c, e, _⟩ := h; exact ⟨_, _, _, e⟩
end

/- The tree of numbers: lending. -/
section
open Go.RowKit
theorem St.far {w : World} {t : Tr Int} (h : St w t) {g : Nat} (hn : Nl w g) (hg : g ∉ t.blocks) (o : Nat) (u : Value) : St (w.setCell ⟨g, o, none⟩ u) t := by
  cases t with
  | nil => trivial
  | node g' c l x r =>
    simp only [Tr.blocks, List.mem_cons, List.mem_append, not_or] at hg
    obtain ⟨⟨A, m, k, hc⟩, hl, hr⟩ := h
    exact ⟨⟨A, m, k, hc.far hg.1 _ _⟩, hl.far hn hg.2.1 _ _, hr.far hn hg.2.2 _ _⟩
end

/- The tree of numbers: Insert, Delete. -/
section
open Go.RowKit
/-- The tree's own variable is no node, and no list. -/
def Hd (w : World) (th : Nat) : Prop := ∃ f a c, w.cell? ⟨th, 0, none⟩ = some (.func f a c)
theorem Env.hd {w : World} {th : Nat} {rt : Value} {n : Int} (h : Env w th rt n) : Hd w th := by obtain ⟨_, _, t, _⟩ := h; exact ⟨_, _, _, t.at0⟩
theorem Env.root {w : World} {th : Nat} {rt : Value} {n : Int} (h : Env w th rt n) (u : Value) : Env (w.setCell ⟨th, 3, none⟩ u) th u n := by
  obtain ⟨b1, b2, h0, h1, h2, n1, n2⟩ := h
  have f1 : th ≠ b1 := by rintro rfl; rw [h0.at1] at n1; cases n1
  have f2 : th ≠ b2 := by rintro rfl; rw [h0.at1] at n2; cases n2
  refine ⟨b1, b2, h0.set 3 (by simp) u, h1.far f1 _ _, h2.far f2 _ _, ?_, ?_⟩
  · exact (World.cell?_setCell_other w ⟨th, 3, none⟩ ⟨b1, 1, none⟩ u (fun e => by injection e with e1; exact f1 e1)).trans n1
  · exact (World.cell?_setCell_other w ⟨th, 3, none⟩ ⟨b2, 1, none⟩ u (fun e => by injection e with e1; exact f2 e1)).trans n2
theorem Env.size {w : World} {th : Nat} {rt : Value} {n : Int} (h : Env w th rt n) (m : Int) : Env (w.setCell ⟨th, 4, none⟩ (.int .i64 m)) th rt m := by
  obtain ⟨b1, b2, h0, h1, h2, n1, n2⟩ := h
  have f1 : th ≠ b1 := by rintro rfl; rw [h0.at1] at n1; cases n1
  have f2 : th ≠ b2 := by rintro rfl; rw [h0.at1] at n2; cases n2
  refine ⟨b1, b2, h0.set 4 (by simp) _, h1.far f1 _ _, h2.far f2 _ _, ?_, ?_⟩
  · exact (World.cell?_setCell_other w ⟨th, 4, none⟩ ⟨b1, 1, none⟩ _ (fun e => by injection e with e1; exact f1 e1)).trans n1
  · exact (World.cell?_setCell_other w ⟨th, 4, none⟩ ⟨b2, 1, none⟩ _ (fun e => by injection e with e1; exact f2 e1)).trans n2
end

end Go.Proofs.YtegohmeapamoaaaGreatDoor

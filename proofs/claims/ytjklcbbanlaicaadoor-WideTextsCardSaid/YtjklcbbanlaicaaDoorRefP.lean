/- The contracts of the document's answer for layer 1, continued: powers of two, wide or not, small or not. -/
import Derived.Test.YtjklcbbanlaicaaDoorRefN
namespace Go.Proofs.YtjklcbbanlaicaaDoor
open Go.RowKit

theorem NoInt.store {w : World} {g : Nat} (h : NoInt w g) {u0 u1 : Value} (x0 : w.cell? ⟨g, 0, none⟩ = some u0) (x1 : w.cell? ⟨g, 1, none⟩ = some u1) (s : Bool) (A : Option Addr) (n c : Nat) :
    NoInt ((w.setCell ⟨g, 0, none⟩ (.bool s)).setCell ⟨g, 1, none⟩ (.slice A n c)) g := by
  intro o k e
  by_cases e1 : o = 1
  · subst e1; simp [go_sem, x1] at e
  · rw [World.cell?_setCell_other _ ⟨g, 1, none⟩ ⟨g, o, none⟩ _ (fun e => by injection e with _ e2; exact e1 e2.symm)] at e
    by_cases e0 : o = 0
    · subst e0; simp [go_sem, x0] at e
    · rw [World.cell?_setCell_other _ ⟨g, 0, none⟩ ⟨g, o, none⟩ _ (fun e => by injection e with _ e2; exact e0 e2.symm)] at e
      exact h o k e

/-- A variable of type Big that holds a number. -/
def Var (w : World) (g : Nat) (s : Bool) (A : Option Addr) (n c : Nat) : Prop := w.cell? ⟨g, 0, none⟩ = some (.bool s) ∧ w.cell? ⟨g, 1, none⟩ = some (.slice A n c) ∧ w.frozen? ⟨g, 0, none⟩ = false ∧ w.frozen? ⟨g, 1, none⟩ = false ∧ NoInt w g
theorem Var.below {w w' : World} {g : Nat} {s : Bool} {A : Option Addr} {n c : Nat} (h : Var w g s A n c) (hb : Below w.heap.size w w') : Var w' g s A n c := by
  have hg := World.block_lt_of_cell? w _ h.1
  exact ⟨keep1 hb h.1, keep1 hb h.2.1, (hb.frozen (p := ⟨g, 0, none⟩) hg).trans h.2.2.1, (hb.frozen (p := ⟨g, 1, none⟩) hg).trans h.2.2.2.1, h.2.2.2.2.below hg hb⟩
theorem Var.new (w : World) (t : TypeId) (s : Bool) (A : Option Addr) (n c : Nat) : Var (w.alloc (.cells #[.bool s, .slice A n c] t)) w.heap.size s A n c :=
  ⟨by simp [go_sem], by simp [go_sem], by simp [go_sem], by simp [go_sem], NoInt.new _ _ _ _ _ _⟩
theorem Var.store {w : World} {g : Nat} {s : Bool} {A : Option Addr} {n c : Nat} (h : Var w g s A n c) (s' : Bool) (A' : Option Addr) (n' c' : Nat) : Var ((w.setCell ⟨g, 0, none⟩ (.bool s')).setCell ⟨g, 1, none⟩ (.slice A' n' c')) g s' A' n' c' :=
  ⟨by simp [go_sem, h.1], by simp [go_sem, h.2.1], by simp [go_sem, h.2.2.1], by simp [go_sem, h.2.2.2.1], h.2.2.2.2.store h.1 h.2.1 _ _ _ _⟩

set_option maxRecDepth 100000 in
set_option maxHeartbeats 4000000 in
theorem Ref.power (N : Nat) (hN : N ≤ 1000) (w : World) :
    Calls Tryd.prog 17 #[.int .i64 N] w (BAns (5 + N) (2 ^ N) w) := by
  go_enter Tryd.func17, Tryd.ntmps17
  go_wp2_with fail
  refine (Ref.N 1 (by decide) (by decide) _).mono ?_
  rintro e w1 ⟨s1, A1, n1, c1, rfl, hB1, hb1⟩
  have hF := (Fresh.new w 31).below hb1
  have hlt : w.heap.size < w1.heap.size := World.block_lt_of_cell? w1 _ hF.1
  have HB1 := hid hB1
  have HF := hid hF
  have HBW := hid (((Below.refl _ w).alloc (Nat.le_refl _) (Obj.cells #[Value.bool false, Value.slice none 0 0] 31)).trans (hb1.mono (by simp)))
  clear hB1 hb1 hF
  go_wp2_with fail
  go_loopg [4] N (fun g i wr => ∃ (k : Nat) (s : Bool) (A : Option Addr) (n c : Nat), i = .int .i64 k ∧ g = N - k ∧ k ≤ N ∧ IsB wr (5 + k) s A n c (2 ^ k) ∧ Var wr w1.heap.size s A n c ∧ Fresh wr w.heap.size ∧ Below w.heap.size w wr)
  case atStart =>
    have hba := (Below.refl _ w1).alloc (Nat.le_refl _) (Obj.cells #[.bool s1, .slice A1 n1 c1] 31)
    exact ⟨0, s1, A1, n1, c1, rfl, rfl, Nat.zero_le _, HB1.out.alloc _, Var.new _ _ _ _ _ _, HF.out.below hba, below_keep HBW.out hba⟩
  case round =>
    obtain ⟨k, s, A, n, c, rfl, hg, hk, hB, hV, hF, hb⟩ := hrel
    have HG := hid hg
    have HB := hid hB
    have HV := hid hV
    have HF := hid hF
    have HBW := hid hb
    obtain ⟨x0, x1, _⟩ := hV
    clear hg hB hF hb
    by_cases hend : k = N
    · subst hend
      have f1 : ¬ (k : Int) < (k : Int) := by omega
      obtain ⟨t0, t1, t2, t3, _⟩ := HF.out
      go_wp2_with fail
      exact bodyPost_ret (v := .agg #[.bool s, .slice A n c]) (by simp [results, Tryd.results17, go_sem, t0, t1]) rfl ⟨_, _, _, _, rfl, HB.out.store HF.out.2.2.2.2 _ _ _ _, (HBW.out.setCell (Nat.le_refl _) _).setCell (Nat.le_refl _) _⟩
    · have h1 : (k : Int) < (N : Int) := by omega
      go_wp2_with fail
      refine (Ref.add (5 + k) s s A A n c n c _ _ _ HB.out HB.out (by omega)).mono ?_
      rintro e w2 ⟨s', A', n', c', rfl, hB2, hb2⟩
      have HB2 := hid hB2
      have HV2 := hid (HV.out.below hb2)
      have HF2 := hid (HF.out.below hb2)
      have HBW2 := hid (below_keep HBW.out hb2)
      clear hB2 hb2
      obtain ⟨y0, y1, y2, y3, _⟩ := HV2.out
      have wk : IntKind.i64.wrap ((k : Int) + 1) = ((k + 1 : Nat) : Int) := by rw [IntKind.wrap_i64]; omega
      go_wp2_with fail
      go_roundg (N - (k + 1))
      case measure => have := HG.out; omega
      case rel =>
        have e2 : (2 : Int) ^ k + 2 ^ k = 2 ^ (k + 1) := by rw [Int.pow_succ]; omega
        exact ⟨k + 1, s', A', n', c', by first | rfl | go_num, rfl, by omega, e2 ▸ HB2.out.store HV2.out.2.2.2.2 _ _ _ _, HV2.out.store _ _ _ _, (HF2.out.setCell (by omega) _ _).setCell (by omega) _ _, (HBW2.out.setCell (by simp; omega) _).setCell (by simp; omega) _⟩

end Go.Proofs.YtjklcbbanlaicaaDoor

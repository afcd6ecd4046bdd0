/- Texts of MeanShifts's proof, together. -/
import Derived.Test.YtoioeginfhkjjaaGreatDoorRefQ
import Derived.Test.YtoioeginfhkjjaaGreatDoorMeanShiftsZ7
import Derived.Test.YtoioeginfhkjjaaGreatDoorMeanShiftsZ28
namespace Go.Proofs.YtoioeginfhkjjaaGreatDoor
/- What the statements of layer 1 ask of a wide number and one of the document's: the same, or told as it is. -/
section
open Go.RowKit

set_option maxHeartbeats 1000000 in
theorem Law.of (h l n : Int) (hw : IsW h l n) (w : World) :
    Calls Tryz.prog 43 #[.agg #[.int .i64 h, .int .u64 l]] w (BAns 18 n w) := by
  obtain ⟨h0, h1, l0, l1, rfl⟩ := hw
  go_enter Tryz.func43, Tryz.ntmps43
  go_wp2_with fail
  refine (Ref.wide h l h0 h1 l0 l1 _).mono ?_
  rintro e w1 ⟨s', A', n', c', rfl, hB, hb⟩
  have hF := (Fresh.new (w.alloc (.cells #[.int .i64 h, .int .u64 l] 34)) 41).below hb
  simp only [World.size_alloc] at hF
  have HB := hid hB
  have HF := hid hF
  obtain ⟨t0, t1, t2, t3, _⟩ := hF
  clear hB
  go_wp2
  refine bodyPost_ret (v := .agg #[.bool s', .slice A' n' c']) (by simp [results, Tryz.results43, go_sem, t0, t1]) rfl ⟨_, _, _, _, rfl, HB.out.store HF.out.2.2.2.2 _ _ _ _, ?_⟩
  exact (((((Below.refl _ _).alloc (Nat.le_refl _) _).alloc (by simp) _).trans (hb.mono (by simp; omega))).setCell (by simp) _).setCell (by simp) _

/-- What stands in memory while two are held together. -/
def SQ (w0 : World) (K : Nat) (s : Bool) (A : Option Addr) (n c : Nat) (P : Int) (w : World) : Prop := Below w0.heap.size w0 w ∧ IsB w K s A n c P
theorem SQ.below {w0 : World} {K : Nat} {s : Bool} {A : Option Addr} {n c : Nat} {P : Int} {w w' : World} (h : SQ w0 K s A n c P w) (hb : Below w.heap.size w w') : SQ w0 K s A n c P w' := ⟨below_keep h.1 hb, h.2.below hb⟩

set_option maxRecDepth 100000 in
set_option maxHeartbeats 4000000 in
theorem Law.same (K : Nat) (hK : K ≤ 1000) (h l a : Int) (hw : IsW h l a) (s : Bool) (A : Option Addr) (n c : Nat) (x : Int) (w : World) (hx : IsB w K s A n c x) (v : Bool) (hv : v = true ↔ a = x) :
    Calls Tryz.prog 40 #[.agg #[.int .i64 h, .int .u64 l], .agg #[.bool s, .slice A n c]] w fun e w' => e = .returned (.bool v) ∧ Below w.heap.size w w' := by
  have HX := hid (hx.mono (show K ≤ 1132 by omega))
  have f : (cmpI a x == 0) = v := by
    cases v
    · rw [beq_eq_false_iff_ne]; intro e; exact absurd (hv.2 ((cmpI_zero a x).1 e)) (by decide)
    · rw [beq_iff_eq, cmpI_zero]; exact hv.1 rfl
  clear hx hv
  go_enter Tryz.func40, Tryz.ntmps40
  go_wp2_with fail
  obtain ⟨W0, hW⟩ : ∃ W0, W0 = (w.alloc (Obj.cells #[.int .i64 h, .int .u64 l] 34)).alloc (Obj.cells #[Value.bool s, Value.slice A n c] 41) := ⟨_, rfl⟩
  rw [← hW]
  have HS0 : Hid ((W0.cell? ⟨w.heap.size, 0, none⟩ = some (.int .i64 h) ∧ W0.cell? ⟨w.heap.size, 1, none⟩ = some (.int .u64 l) ∧ W0.cell? ⟨w.heap.size + 1, 0, none⟩ = some (.bool s) ∧ W0.cell? ⟨w.heap.size + 1, 1, none⟩ = some (.slice A n c)) ∧ SQ w 1132 s A n c x W0) :=
    hid (by rw [hW]; exact ⟨⟨by simp [go_sem], by simp [go_sem], by simp [go_sem], by simp [go_sem]⟩, ((Below.refl _ _).alloc (Nat.le_refl _) _).alloc (by simp) _, (HX.out.alloc _).alloc _⟩)
  clear hW
  go_region_held3 (fun w' => (w'.cell? ⟨w.heap.size, 0, none⟩ = some (.int .i64 h) ∧ w'.cell? ⟨w.heap.size, 1, none⟩ = some (.int .u64 l) ∧ w'.cell? ⟨w.heap.size + 1, 0, none⟩ = some (.bool s) ∧ w'.cell? ⟨w.heap.size + 1, 1, none⟩ = some (.slice A n c)) ∧ SQ w 1132 s A n c x w')
    (first | exact ⟨HS0.out.1, HS0.out.2.1.drew, HS0.out.2.2.drew⟩ | exact keepP (by assumption) hb2 (fun h => SQ.below h hb2))
    (first
      | (go_at_call 43; refine (Law.of h l a hw _).mono ?_; rintro e w2 ⟨s2, A2, n2, c2, rfl, hB2, hb2⟩; have H2 := hid (hB2.mono (show 18 ≤ 1132 by decide)); have HX2 := hid (IsB.below (w := W0.drew) HS0.out.2.2 hb2); clear hB2)
      | (go_at_call 45; refine (Ref.cmp 1132 s2 s A2 A n2 c2 n c a x _ H2.out HX2.out (by decide)).mono ?_; rintro e w3 ⟨rfl, hb2⟩))
  obtain ⟨_, hfin⟩ : (_ ∧ _ ∧ _ ∧ _) ∧ SQ w 1132 s A n c x w3 := by assumption
  have HFIN := hid hfin.1
  clear hfin
  go_wp2
  go_ret
  exact ⟨rfl, HFIN.out⟩
end

/- A variable of type Big, and a number, through what a call does next: new blocks, stores, other calls. -/
section
open Go.RowKit

theorem Var.fresh {w : World} {g : Nat} (h : Fresh w g) : Var w g false none 0 0 := h
theorem Var.drew {w : World} {g : Nat} {s : Bool} {A : Option Addr} {n c : Nat} (h : Var w g s A n c) : Var w.drew g s A n c := h
theorem Var.alloc {w : World} {g : Nat} {s : Bool} {A : Option Addr} {n c : Nat} (h : Var w g s A n c) (o : Obj) : Var (w.alloc o) g s A n c := h.below ((Below.refl _ _).alloc (Nat.le_refl _) o)
theorem Var.far {w : World} {g : Nat} {s : Bool} {A : Option Addr} {n c : Nat} (h : Var w g s A n c) {b : Nat} (hb : b ≠ g) (o o' : Nat) (u v : Value) : Var ((w.setCell ⟨b, o, none⟩ u).setCell ⟨b, o', none⟩ v) g s A n c := by
  have far : ∀ (p : Nat), ((w.setCell ⟨b, o, none⟩ u).setCell ⟨b, o', none⟩ v).cell? ⟨g, p, none⟩ = w.cell? ⟨g, p, none⟩ := fun p =>
    (World.cell?_setCell_other _ ⟨b, o', none⟩ ⟨g, p, none⟩ v (fun e => by injection e with e1; exact hb e1)).trans (World.cell?_setCell_other w ⟨b, o, none⟩ ⟨g, p, none⟩ u (fun e => by injection e with e1; exact hb e1))
  refine ⟨(far 0).trans h.1, (far 1).trans h.2.1, ?_, ?_, fun p k e => h.2.2.2.2 p k ((far p).symm.trans e)⟩
  · simpa [go_sem] using h.2.2.1
  · simpa [go_sem] using h.2.2.2.1
theorem Var.lt {w : World} {g : Nat} {s : Bool} {A : Option Addr} {n c : Nat} (h : Var w g s A n c) : g < w.heap.size := World.block_lt_of_cell? w _ h.1
theorem IsB.storeV {w : World} {L : Nat} {s : Bool} {A : Option Addr} {n c : Nat} {z : Int} {g : Nat} {s0 : Bool} {A0 : Option Addr} {n0 c0 : Nat} (h : IsB w L s A n c z) (hv : Var w g s0 A0 n0 c0) (o o' : Nat) (u v : Value) :
    IsB ((w.setCell ⟨g, o, none⟩ u).setCell ⟨g, o', none⟩ v) L s A n c z := h.store hv.2.2.2.2 _ _ _ _
theorem Fresh.ofVar {w : World} {g : Nat} (h : Var w g false none 0 0) : Fresh w g := h
end

end Go.Proofs.YtoioeginfhkjjaaGreatDoor

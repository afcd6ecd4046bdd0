/- What the statements of layer 1 ask of a wide number and one of the document's: the same, or told as it is. -/
import Derived.Test.YtjklcbbanlaicaaDoorRefQ
import Derived.Test.YtjklcbbanlaicaaDoorAwake
namespace Go.Proofs.YtjklcbbanlaicaaDoor
open Go.RowKit

set_option maxHeartbeats 1000000 in
theorem Law.of (h l n : Int) (hw : IsW h l n) (w : World) :
    Calls Tryd.prog 7 #[.agg #[.int .i64 h, .int .u64 l]] w (BAns 18 n w) := by
  obtain ⟨h0, h1, l0, l1, rfl⟩ := hw
  go_enter Tryd.func7, Tryd.ntmps7
  go_wp2_with fail
  refine (Ref.wide h l h0 h1 l0 l1 _).mono ?_
  rintro e w1 ⟨s', A', n', c', rfl, hB, hb⟩
  have hF := (Fresh.new (w.alloc (.cells #[.int .i64 h, .int .u64 l] 24)) 31).below hb
  simp only [World.size_alloc] at hF
  have HB := hid hB
  have HF := hid hF
  obtain ⟨t0, t1, t2, t3, _⟩ := hF
  clear hB
  go_wp2
  refine bodyPost_ret (v := .agg #[.bool s', .slice A' n' c']) (by simp [results, Tryd.results7, go_sem, t0, t1]) rfl ⟨_, _, _, _, rfl, HB.out.store HF.out.2.2.2.2 _ _ _ _, ?_⟩
  exact (((((Below.refl _ _).alloc (Nat.le_refl _) _).alloc (by simp) _).trans (hb.mono (by simp; omega))).setCell (by simp) _).setCell (by simp) _

/-- What stands in memory while two are held together. -/
def SQ (w0 : World) (K : Nat) (s : Bool) (A : Option Addr) (n c : Nat) (P : Int) (w : World) : Prop := Below w0.heap.size w0 w ∧ IsB w K s A n c P
theorem SQ.below {w0 : World} {K : Nat} {s : Bool} {A : Option Addr} {n c : Nat} {P : Int} {w w' : World} (h : SQ w0 K s A n c P w) (hb : Below w.heap.size w w') : SQ w0 K s A n c P w' := ⟨below_keep h.1 hb, h.2.below hb⟩

set_option maxRecDepth 100000 in
set_option maxHeartbeats 4000000 in
theorem Law.same (K : Nat) (hK : K ≤ 1000) (h l a : Int) (hw : IsW h l a) (s : Bool) (A : Option Addr) (n c : Nat) (x : Int) (w : World) (hx : IsB w K s A n c x) (v : Bool) (hv : v = true ↔ a = x) :
    Calls Tryd.prog 8 #[.agg #[.int .i64 h, .int .u64 l], .agg #[.bool s, .slice A n c]] w fun e w' => e = .returned (.bool v) ∧ Below w.heap.size w w' := by
  have HX := hid (hx.mono (show K ≤ 1132 by omega))
  have f : (cmpI a x == 0) = v := by
    cases v
    · rw [beq_eq_false_iff_ne]; intro e; exact absurd (hv.2 ((cmpI_zero a x).1 e)) (by decide)
    · rw [beq_iff_eq, cmpI_zero]; exact hv.1 rfl
  clear hx hv
  go_enter Tryd.func8, Tryd.ntmps8
  go_wp2_with fail
  obtain ⟨W0, hW⟩ : ∃ W0, W0 = (w.alloc (Obj.cells #[.int .i64 h, .int .u64 l] 24)).alloc (Obj.cells #[Value.bool s, Value.slice A n c] 31) := ⟨_, rfl⟩
  rw [← hW]
  have HS0 : Hid ((W0.cell? ⟨w.heap.size, 0, none⟩ = some (.int .i64 h) ∧ W0.cell? ⟨w.heap.size, 1, none⟩ = some (.int .u64 l) ∧ W0.cell? ⟨w.heap.size + 1, 0, none⟩ = some (.bool s) ∧ W0.cell? ⟨w.heap.size + 1, 1, none⟩ = some (.slice A n c)) ∧ SQ w 1132 s A n c x W0) :=
    hid (by rw [hW]; exact ⟨⟨by simp [go_sem], by simp [go_sem], by simp [go_sem], by simp [go_sem]⟩, ((Below.refl _ _).alloc (Nat.le_refl _) _).alloc (by simp) _, (HX.out.alloc _).alloc _⟩)
  clear hW
  go_region_held3 (fun w' => (w'.cell? ⟨w.heap.size, 0, none⟩ = some (.int .i64 h) ∧ w'.cell? ⟨w.heap.size, 1, none⟩ = some (.int .u64 l) ∧ w'.cell? ⟨w.heap.size + 1, 0, none⟩ = some (.bool s) ∧ w'.cell? ⟨w.heap.size + 1, 1, none⟩ = some (.slice A n c)) ∧ SQ w 1132 s A n c x w')
    (first | exact ⟨HS0.out.1, HS0.out.2.1.drew, HS0.out.2.2.drew⟩ | exact keepP (by assumption) hb2 (fun h => SQ.below h hb2))
    (first
      | (go_at_call 7; refine (Law.of h l a hw _).mono ?_; rintro e w2 ⟨s2, A2, n2, c2, rfl, hB2, hb2⟩; have H2 := hid (hB2.mono (show 18 ≤ 1132 by decide)); have HX2 := hid (IsB.below (w := W0.drew) HS0.out.2.2 hb2); clear hB2)
      | (go_at_call 18; refine (Ref.cmp 1132 s2 s A2 A n2 c2 n c a x _ H2.out HX2.out (by decide)).mono ?_; rintro e w3 ⟨rfl, hb2⟩))
  obtain ⟨_, hfin⟩ : (_ ∧ _ ∧ _ ∧ _) ∧ SQ w 1132 s A n c x w3 := by assumption
  have HFIN := hid hfin.1
  clear hfin
  go_wp2
  go_ret
  exact ⟨rfl, HFIN.out⟩

end Go.Proofs.YtjklcbbanlaicaaDoor

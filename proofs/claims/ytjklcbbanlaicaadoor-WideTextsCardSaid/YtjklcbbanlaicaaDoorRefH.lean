/- The contracts of the document's answer for layer 1, continued: differences, comparing, numbers with a sign, powers. -/
import Derived.Test.YtjklcbbanlaicaaDoorRefG
namespace Go.Proofs.YtjklcbbanlaicaaDoor
open Go.RowKit

/-- A number above 0, with the other sign. -/
theorem IsB.flip {w : World} {L : Nat} {s : Bool} {A : Option Addr} {n c : Nat} {v : Int} (h : IsB w L s A n c v) (hv : 0 < v) : IsB w L true A n c (-v) := by
  obtain ⟨zs, h1, h2, h3, h4, h5, h6, h7⟩ := h
  have hn := val_nonneg h4
  have hs : s = false := by
    cases s
    · rfl
    · simp at h7; omega
  subst hs
  refine ⟨zs, h1, h2, h3, h4, h5, fun _ e => ?_, by simp at h7; simp [h7]⟩
  subst e
  simp [val] at h7; omega

theorem addsub (x y : Int) : x + (0 - y) = x - y := by omega

set_option maxRecDepth 100000 in
set_option maxHeartbeats 4000000 in
theorem Ref.sub (K : Nat) (s t : Bool) (A B : Option Addr) (n c m d : Nat) (x y : Int) (w : World) (hx : IsB w K s A n c x) (hy : IsB w K t B m d y) (hK : K ≤ 1000000) :
    Calls Tryd.prog 31 #[.agg #[.bool s, .slice A n c], .agg #[.bool t, .slice B m d]] w (BAns (K + 1) (x - y) w) := by
  have HX := hid hx
  have HY := hid hy
  clear hx hy
  go_enter Tryd.func31, Tryd.ntmps31
  go_wp2_with fail
  obtain ⟨W0, hW⟩ : ∃ W0, W0 = ((w.alloc (Obj.cells #[Value.bool s, Value.slice A n c] 31)).alloc (Obj.cells #[Value.bool t, Value.slice B m d] 31)).alloc (Obj.cells #[Value.bool false, Value.slice none 0 0] 31) := ⟨_, rfl⟩
  rw [← hW]
  have hN := AddW.new w s t A B n c m d 31
  rw [← hW] at hN
  have HS0 := hid hN.1
  have HF := hid hN.2
  clear hN hW
  go_region_held3 (fun w' => (w'.cell? ⟨w.heap.size, 0, none⟩ = some (.bool s) ∧ w'.cell? ⟨w.heap.size, 1, none⟩ = some (.slice A n c) ∧ w'.cell? ⟨w.heap.size + 1, 0, none⟩ = some (.bool t) ∧ w'.cell? ⟨w.heap.size + 1, 1, none⟩ = some (.slice B m d)) ∧ Below w.heap.size w w')
    (first | exact ⟨HS0.out.1, HS0.out.2.drew⟩ | exact keepP (by assumption) hb2 (fun h => below_keep h hb2) | exact keepSt (by assumption) (by omega) (by omega) (by omega) (by omega) (by omega))
    (first
      | (go_at_call 19; refine (Ref.neg K t B m d y _ (HY.out.below (And.right (by assumption : (_ ∧ _ ∧ _ ∧ _) ∧ Below w.heap.size w _))) (by omega)).mono ?_; rintro e w2 ⟨sp, Ap, np, cp, rfl, hB2, hb2⟩; have HP := hid hB2; have HX2 := hid (HX.out.below (below_keep (And.right (by assumption : (_ ∧ _ ∧ _ ∧ _) ∧ Below w.heap.size w _)) hb2)); have HF2 := hid (Fresh.below (w := W0.drew) HF.out hb2); clear hB2)
      | (go_at_call 29; refine (Ref.add K s sp A Ap n c np cp x (0 - y) _ HX2.out HP.out hK).mono ?_; rintro e w3 ⟨s', A', n', c', rfl, hB, hb2⟩; have HB := hid hB; have HF3 := hid (HF2.out.below hb2); obtain ⟨t0, t1, t2, t3, _⟩ := HF3.out; clear hB))
  obtain ⟨_, hfin⟩ : (_ ∧ _ ∧ _ ∧ _) ∧ Below w.heap.size w ((w3.setCell ⟨w.heap.size + 1 + 1, 0, none⟩ (.bool s')).setCell ⟨w.heap.size + 1 + 1, 1, none⟩ (.slice A' n' c')) := by assumption
  have HFIN := hid hfin
  clear hfin
  go_wp2
  refine bodyPost_ret (v := .agg #[.bool s', .slice A' n' c']) (by simp [results, Tryd.results31, go_sem, t0, t1]) rfl ⟨_, _, _, _, rfl, ?_, HFIN.out⟩
  rw [← addsub]
  exact HB.out.store HF3.out.2.2.2.2 _ _ _ _

set_option maxHeartbeats 1000000 in
theorem Ref.N (x : Int) (x0 : -9223372036854775808 ≤ x) (x1 : x ≤ 9223372036854775807) (w : World) :
    Calls Tryd.prog 9 #[.int .i64 x] w (BAns 5 x w) := by
  by_cases h : 0 ≤ x
  · go_enter Tryd.func9, Tryd.ntmps9
    go_wp2_with fail
    refine (Ref.U x h (by omega) _).mono ?_
    rintro e w1 ⟨s', A', n', c', rfl, hB, hb⟩
    have HB := hid hB
    have HF := hid ((Fresh.new _ _).below hb)
    obtain ⟨t0, t1, t2, t3, _⟩ := HF.out
    clear hB
    go_wp2
    refine bodyPost_ret (v := .agg #[.bool s', .slice A' n' c']) (by simp [results, Tryd.results9, go_sem, t0, t1]) rfl ⟨_, _, _, _, rfl, HB.out.store HF.out.2.2.2.2 _ _ _ _, ?_⟩
    exact ((((Below.refl _ _).alloc (Nat.le_refl _) _).trans (hb.mono (by simp))).setCell (by simp) _).setCell (by simp) _
  · have e1 : wrap64 (x + 1) = x + 1 := by unfold wrap64; omega
    have e2 : IntKind.u64.wrap (-(x + 1)) = -(x + 1) := by rw [IntKind.wrap_u64]; omega
    go_enter Tryd.func9, Tryd.ntmps9
    go_wp2_with fail
    refine (Ref.U (-(x + 1) + 1) (by omega) (by omega) _).mono ?_
    rintro e w1 ⟨s', A', n', c', rfl, hB, hb⟩
    have hv : -(-(x + 1) + 1) = x := by omega
    have HB := hid (hB.flip (by omega))
    rw [hv] at HB
    have HF := hid ((Fresh.new _ _).below hb)
    obtain ⟨t0, t1, t2, t3, _⟩ := HF.out
    have hsz : w.heap.size < w1.heap.size := by have := hb.size; simp at this; omega
    clear hB
    go_wp2
    refine bodyPost_ret (v := .agg #[.bool true, .slice A' n' c']) (by simp [results, Tryd.results9, go_sem, t0, t1, hsz]) rfl ⟨_, _, _, _, rfl, ?_, ?_⟩
    · exact (HB.out.store HF.out.2.2.2.2 _ _ _ _).alloc _
    · exact (((((Below.refl _ _).alloc (Nat.le_refl _) _).trans (hb.mono (by simp))).setCell (by simp) _).setCell (by simp) _).alloc (by simp; omega) _

end Go.Proofs.YtjklcbbanlaicaaDoor

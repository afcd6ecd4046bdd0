/- WideTexts: the walk. -/
import Derived.Test.YtjklcbbanlaicaaDoorTextR
import Derived.Test.YtjklcbbanlaicaaDoorWsmall
import Derived.Test.YtjklcbbanlaicaaDoorSmall
import Derived.Test.YtjklcbbanlaicaaDoorAwake
import Derived.Deep.CutBlock
import Derived.Deep.DeepCutAuto
namespace Go.Proofs.YtjklcbbanlaicaaDoor
open Go.RowKit

theorem Tab10.at_ {w0 w : World} (h : Tab10 w0.heap.size w0) (hb : Below w0.heap.size w0 w) : Tab10 w.heap.size w := Tab10.of (h.on hb).here
theorem Wide.smallB (h l n : Int) (hw : IsW h l n) (w : World) :
    Calls Tryd.prog 5 #[.agg #[.int .i64 h, .int .u64 l]] w fun e w' => ∃ (m : Int) (ok : Bool), e = .returned (.tuple #[.int .i64 m, .bool ok]) ∧ ((ok = true ∧ m = n ∧ -9223372036854775808 ≤ n ∧ n ≤ 9223372036854775807) ∨ (ok = false ∧ m = 0 ∧ ¬ (-9223372036854775808 ≤ n ∧ n ≤ 9223372036854775807))) ∧ Below w.heap.size w w' := by
  by_cases hs : -9223372036854775808 ≤ n ∧ n ≤ 9223372036854775807
  · exact (Wide.small h l n hw hs.1 hs.2 w).mono fun e w' ⟨he, hb⟩ => ⟨n, true, he, .inl ⟨rfl, rfl, hs.1, hs.2⟩, hb⟩
  · exact (Wide.small_no h l n hw (by omega) w).mono fun e w' ⟨he, hb⟩ => ⟨0, false, he, .inr ⟨rfl, rfl, hs⟩, hb⟩

set_option maxRecDepth 100000 in
set_option maxHeartbeats 8000000 in
theorem Texts.walk (ah al a x y : Int) (ha : IsW ah al a) (x0 : -9223372036854775808 ≤ x) (x1 : x ≤ 9223372036854775807) (y0 : 0 ≤ y) (y1 : y ≤ 18446744073709551615) (w : World) (htab : Tab10 w.heap.size w) :
    Calls Tryd.prog 3 #[.agg #[.int .i64 ah, .int .u64 al], .int .i64 x, .int .u64 y] w fun e w' => e = .returned (.bool true) ∧ Below w.heap.size w w' := by
  have HA := hid ha
  have HX0 := hid x0
  have HX1 := hid x1
  have HY0 := hid y0
  have HY1 := hid y1
  have HT := hid htab
  clear ha x0 x1 y0 y1 htab
  go_enter Tryd.func3, Tryd.ntmps3
  go_wp2_with fail
  refine (Law1.awake _).mono ?_
  rintro e w1 ⟨rfl, hb1⟩
  have HB1 := hid (((Below.refl _ w).alloc (Nat.le_refl _) (.cells #[.int .i64 ah, .int .u64 al] 24)).trans (hb1.mono (by simp)))
  obtain ⟨g0, g1⟩ := keep2 (b0 := w.heap.size) (o0 := 0) (b1 := w.heap.size) (o1 := 1) (v0 := .int .i64 ah) (v1 := .int .u64 al) ⟨by rw [World.cell?_alloc_new]; rfl, by rw [World.cell?_alloc_new]; rfl⟩ hb1
  have HG1 := hid (And.intro g0 g1)
  clear hb1
  by_cases hsm : -9223372036854775808 ≤ a ∧ a ≤ 9223372036854775807
  · have HA0 := hid hsm.1
    have HA1 := hid hsm.2
    clear hsm
    go_wp2_with fail
    refine (Wide.small ah al a HA.out HA0.out HA1.out _).mono ?_
    rintro e w2 ⟨rfl, hb2⟩
    have HB := hid (below_keep HB1.out hb2)
    have hS := keep2 HG1.out hb2
    clear hb2 g0 g1 HB1 HG1
    go_upto_region 4 with fail
    go_cut [40] (fun s wc => s = .bool false ∧ (wc.cell? ⟨w.heap.size, 0, none⟩ = some (.int .i64 ah) ∧ wc.cell? ⟨w.heap.size, 1, none⟩ = some (.int .u64 al)) ∧ Below w.heap.size w wc)
    case first =>
      refine wp_region_held_drew (S := fun w' => (w'.cell? ⟨w.heap.size, 0, none⟩ = some (.int .i64 ah) ∧ w'.cell? ⟨w.heap.size, 1, none⟩ = some (.int .u64 al)) ∧ Below w.heap.size w w') (by kernel_rfl) ⟨hS, HB.out.drew⟩ (fun hHeld => ?_)
      refine wpAnyH_take (i := 0) (v := ?_) rfl (by kernel_rfl) (by kernel_rfl) (by kernel_rfl) (fun _ _ _ h => h) (Or.inl ⟨by rfl, ?_⟩) (by assumption) ?_
      rotate_left
      · intro w hSw; (try dsimp only at hSw); go_simp; (try with_reducible rfl)
      try simp only [List.getElem_toArray, List.getElem_cons_zero, List.getElem_cons_succ, Act.put, List.setIfInBounds_toArray, List.set_cons_zero, List.set_cons_succ]
      refine wpAnyH_take (i := 1) (v := ?_) rfl (by kernel_rfl) (by kernel_rfl) (by kernel_rfl) (fun _ _ _ h => h) (Or.inl ⟨by rfl, ?_⟩) (by assumption) ?_
      rotate_left
      · intro w hSw; (try dsimp only at hSw); go_simp; (try with_reducible rfl)
      try simp only [List.getElem_toArray, List.getElem_cons_zero, List.getElem_cons_succ, Act.put, List.setIfInBounds_toArray, List.set_cons_zero, List.set_cons_succ]
      refine wpAnyH_ready (rs := [2]) (by kernel_rfl) (by simp) ?_
      refine AllReadyH.cons rfl (fun K hK => ?_) AllReadyH.nil
      go_simp
      go_at_call 7
      refine (Law.of ah al a HA.out _).mono ?_
      rintro e w2 ⟨s2, A2, n2, c2, rfl, hB2, hb2⟩
      have HB2 := hid hB2
      clear hB2
      refine hK.out _ _ ?_ (fun hHeld => ?_)
      · exact ⟨keep2 hHeld.1 hb2, below_keep hHeld.2 hb2⟩
      clear hK K
      try simp only [List.getElem_toArray, List.getElem_cons_zero, List.getElem_cons_succ, Act.put, List.setIfInBounds_toArray, List.set_cons_zero, List.set_cons_succ]
      refine wpAnyH_ready (rs := [3]) (by kernel_rfl) (by simp) ?_
      refine AllReadyH.cons rfl (fun K hK => ?_) AllReadyH.nil
      go_simp
      go_at_call 6
      refine (Ref.small 18 (by decide) s2 A2 n2 c2 a _ HB2.out true (by have := HA0.out; have := HA1.out; simp; omega)).mono ?_
      rintro e w2 ⟨rfl, hb2⟩
      refine hK.out _ _ ?_ (fun hHeld => ?_)
      · exact ⟨keep2 hHeld.1 hb2, below_keep hHeld.2 hb2⟩
      clear hK K
      try simp only [List.getElem_toArray, List.getElem_cons_zero, List.getElem_cons_succ, Act.put, List.setIfInBounds_toArray, List.set_cons_zero, List.set_cons_succ]
      refine wpAnyH_take (i := 4) (v := ?_) rfl (by kernel_rfl) (by kernel_rfl) (by kernel_rfl) (fun _ _ _ h => h) (Or.inl ⟨by rfl, ?_⟩) (by assumption) ?_
      rotate_left
      · intro w hSw; (try dsimp only at hSw); go_simp; (try with_reducible rfl)
      try simp only [List.getElem_toArray, List.getElem_cons_zero, List.getElem_cons_succ, Act.put, List.setIfInBounds_toArray, List.set_cons_zero, List.set_cons_succ]
      refine wpAnyH_take (i := 5) (v := ?_) rfl (by kernel_rfl) (by kernel_rfl) (by kernel_rfl) (fun _ _ _ h => h) (Or.inl ⟨by rfl, ?_⟩) (by assumption) ?_
      rotate_left
      · intro w hSw; (try dsimp only at hSw); go_simp; (try with_reducible rfl)
      try simp only [List.getElem_toArray, List.getElem_cons_zero, List.getElem_cons_succ, Act.put, List.setIfInBounds_toArray, List.set_cons_zero, List.set_cons_succ]
      refine wpAnyH_take (i := 6) (v := ?_) rfl (by kernel_rfl) (by kernel_rfl) (by kernel_rfl) (fun _ _ _ h => h) (Or.inl ⟨by rfl, ?_⟩) (by assumption) ?_
      rotate_left
      · intro w hSw; (try dsimp only at hSw); go_simp; (try with_reducible rfl)
      try simp only [List.getElem_toArray, List.getElem_cons_zero, List.getElem_cons_succ, Act.put, List.setIfInBounds_toArray, List.set_cons_zero, List.set_cons_succ]
      refine wpAnyH_take (i := 7) (v := ?_) rfl (by kernel_rfl) (by kernel_rfl) (by kernel_rfl) (fun _ _ _ h => h) (Or.inl ⟨by rfl, ?_⟩) (by assumption) ?_
      rotate_left
      · intro w hSw; (try dsimp only at hSw); go_simp; (try with_reducible rfl)
      try simp only [List.getElem_toArray, List.getElem_cons_zero, List.getElem_cons_succ, Act.put, List.setIfInBounds_toArray, List.set_cons_zero, List.set_cons_succ]
      refine wpAnyH_take (i := 8) (v := ?_) rfl (by kernel_rfl) (by kernel_rfl) (by kernel_rfl) (fun _ _ _ h => h) (Or.inl ⟨by rfl, ?_⟩) (by assumption) ?_
      rotate_left
      · intro w hSw; (try dsimp only at hSw); go_simp; (try with_reducible rfl)
      try simp only [List.getElem_toArray, List.getElem_cons_zero, List.getElem_cons_succ, Act.put, List.setIfInBounds_toArray, List.set_cons_zero, List.set_cons_succ]
      refine wpAnyH_take (i := 9) (v := ?_) rfl (by kernel_rfl) (by kernel_rfl) (by kernel_rfl) (fun _ _ _ h => h) (Or.inl ⟨by rfl, ?_⟩) (by assumption) ?_
      rotate_left
      · intro w hSw; (try dsimp only at hSw); go_simp; (try with_reducible rfl)
      try simp only [List.getElem_toArray, List.getElem_cons_zero, List.getElem_cons_succ, Act.put, List.setIfInBounds_toArray, List.set_cons_zero, List.set_cons_succ]
      refine wpAnyH_ready (rs := [10]) (by kernel_rfl) (by simp) ?_
      refine AllReadyH.cons rfl (fun K hK => ?_) AllReadyH.nil
      go_simp
      go_at_call 9
      refine (Ref.N a HA0.out HA1.out _).mono ?_
      rintro e w2 ⟨s3, A3, n3, c3, rfl, hB3, hb2⟩
      have HB3 := hid hB3
      clear hB3
      refine hK.out _ _ ?_ (fun hHeld => ?_)
      · exact ⟨keep2 hHeld.1 hb2, below_keep hHeld.2 hb2⟩
      clear hK K
      try simp only [List.getElem_toArray, List.getElem_cons_zero, List.getElem_cons_succ, Act.put, List.setIfInBounds_toArray, List.set_cons_zero, List.set_cons_succ]
      refine wpAnyH_ready (rs := [11]) (by kernel_rfl) (by simp) ?_
      refine AllReadyH.cons rfl (fun K hK => ?_) AllReadyH.nil
      go_simp
      go_at_call 8
      refine (Law.same 5 (by decide) ah al a HA.out s3 A3 n3 c3 a _ HB3.out true (by simp)).mono ?_
      rintro e w2 ⟨rfl, hb2⟩
      refine hK.out _ _ ?_ (fun hHeld => ?_)
      · exact ⟨keep2 hHeld.1 hb2, below_keep hHeld.2 hb2⟩
      clear hK K
      try simp only [List.getElem_toArray, List.getElem_cons_zero, List.getElem_cons_succ, Act.put, List.setIfInBounds_toArray, List.set_cons_zero, List.set_cons_succ]
      refine wpAnyH_take (i := 12) (v := ?_) rfl (by kernel_rfl) (by kernel_rfl) (by kernel_rfl) (fun _ _ _ h => h) (Or.inl ⟨by rfl, ?_⟩) (by assumption) ?_
      rotate_left
      · intro w hSw; (try dsimp only at hSw); go_simp; (try with_reducible rfl)
      try simp only [List.getElem_toArray, List.getElem_cons_zero, List.getElem_cons_succ, Act.put, List.setIfInBounds_toArray, List.set_cons_zero, List.set_cons_succ]
      refine wpAnyH_take (i := 13) (v := ?_) rfl (by kernel_rfl) (by kernel_rfl) (by kernel_rfl) (fun _ _ _ h => h) (Or.inl ⟨by rfl, ?_⟩) (by assumption) ?_
      rotate_left
      · intro w hSw; (try dsimp only at hSw); go_simp; (try with_reducible rfl)
      try simp only [List.getElem_toArray, List.getElem_cons_zero, List.getElem_cons_succ, Act.put, List.setIfInBounds_toArray, List.set_cons_zero, List.set_cons_succ]
      refine wpAnyH_take (i := 14) (v := ?_) rfl (by kernel_rfl) (by kernel_rfl) (by kernel_rfl) (fun _ _ _ h => h) (Or.inl ⟨by rfl, ?_⟩) (by assumption) ?_
      rotate_left
      · intro w hSw; (try dsimp only at hSw); go_simp; (try with_reducible rfl)
      try simp only [List.getElem_toArray, List.getElem_cons_zero, List.getElem_cons_succ, Act.put, List.setIfInBounds_toArray, List.set_cons_zero, List.set_cons_succ]
      refine wpAnyH_take (i := 15) (v := ?_) rfl (by kernel_rfl) (by kernel_rfl) (by kernel_rfl) (fun _ _ _ h => h) (Or.inl ⟨by rfl, ?_⟩) (by assumption) ?_
      rotate_left
      · intro w hSw; (try dsimp only at hSw); go_simp; (try with_reducible rfl)
      try simp only [List.getElem_toArray, List.getElem_cons_zero, List.getElem_cons_succ, Act.put, List.setIfInBounds_toArray, List.set_cons_zero, List.set_cons_succ]
      refine wpAnyH_take (i := 16) (v := ?_) rfl (by kernel_rfl) (by kernel_rfl) (by kernel_rfl) (fun _ _ _ h => h) (Or.inl ⟨by rfl, ?_⟩) (by assumption) ?_
      rotate_left
      · intro w hSw; (try dsimp only at hSw); go_simp; (try with_reducible rfl)
      try simp only [List.getElem_toArray, List.getElem_cons_zero, List.getElem_cons_succ, Act.put, List.setIfInBounds_toArray, List.set_cons_zero, List.set_cons_succ]
      refine wpAnyH_take (i := 17) (v := ?_) rfl (by kernel_rfl) (by kernel_rfl) (by kernel_rfl) (fun _ _ _ h => h) (Or.inl ⟨by rfl, ?_⟩) (by assumption) ?_
      rotate_left
      · intro w hSw; (try dsimp only at hSw); go_simp; (try with_reducible rfl)
      try simp only [List.getElem_toArray, List.getElem_cons_zero, List.getElem_cons_succ, Act.put, List.setIfInBounds_toArray, List.set_cons_zero, List.set_cons_succ]
      refine wpAnyH_take (i := 18) (v := ?_) rfl (by kernel_rfl) (by kernel_rfl) (by kernel_rfl) (fun _ _ _ h => h) (Or.inl ⟨by rfl, ?_⟩) (by assumption) ?_
      rotate_left
      · intro w hSw; (try dsimp only at hSw); go_simp; (try with_reducible rfl)
      try simp only [List.getElem_toArray, List.getElem_cons_zero, List.getElem_cons_succ, Act.put, List.setIfInBounds_toArray, List.set_cons_zero, List.set_cons_succ]
      refine wpAnyH_take (i := 19) (v := undef) rfl (by kernel_rfl) (by kernel_rfl) (by kernel_rfl) (fun _ _ _ h => h) (Or.inr ⟨by rfl, rfl⟩) (by assumption) ?_
      try simp only [List.getElem_toArray, List.getElem_cons_zero, List.getElem_cons_succ, Act.put, List.setIfInBounds_toArray, List.set_cons_zero, List.set_cons_succ]
      refine wpAnyH_take (i := 20) (v := undef) rfl (by kernel_rfl) (by kernel_rfl) (by kernel_rfl) (fun _ _ _ h => h) (Or.inr ⟨by rfl, rfl⟩) (by assumption) ?_
      try simp only [List.getElem_toArray, List.getElem_cons_zero, List.getElem_cons_succ, Act.put, List.setIfInBounds_toArray, List.set_cons_zero, List.set_cons_succ]
      refine wpAnyH_take (i := 21) (v := ?_) rfl (by kernel_rfl) (by kernel_rfl) (by kernel_rfl) (fun _ _ _ h => h) (Or.inl ⟨by rfl, ?_⟩) (by assumption) ?_
      rotate_left
      · intro w hSw; (try dsimp only at hSw); go_simp; (try with_reducible rfl)
      try simp only [List.getElem_toArray, List.getElem_cons_zero, List.getElem_cons_succ, Act.put, List.setIfInBounds_toArray, List.set_cons_zero, List.set_cons_succ]
      refine wpAnyH_take (i := 22) (v := ?_) rfl (by kernel_rfl) (by kernel_rfl) (by kernel_rfl) (fun _ _ _ h => h) (Or.inl ⟨by rfl, ?_⟩) (by assumption) ?_
      rotate_left
      · intro w hSw; (try dsimp only at hSw); go_simp; (try with_reducible rfl)
      try simp only [List.getElem_toArray, List.getElem_cons_zero, List.getElem_cons_succ, Act.put, List.setIfInBounds_toArray, List.set_cons_zero, List.set_cons_succ]
      refine wpAnyH_done (by kernel_rfl) ?_ _
      obtain ⟨hS2, hB2⟩ := hHeld
      go_wp2_with fail
      go_meet
      exact ⟨rfl, hS2, hB2⟩
    case rest =>
      obtain ⟨rfl, hS, hB⟩ := hcut
      have HS3 := hid hS
      have HB3 := hid hB
      clear hS hB HB
      go_wp2_with fail
      refine (Wide.ofN x HX0.out HX1.out _).mono ?_
      rintro e w3 ⟨h3, l3, rfl, hw3, hb3⟩
      have HW3 := hid hw3
      have HB4 := hid (below_keep HB3.out hb3)
      have HS4 := hid (keep2 HS3.out hb3)
      clear hb3 hw3
      go_wp2_with fail
      refine (Wide.small h3 l3 x HW3.out HX0.out HX1.out _).mono ?_
      rintro e w4 ⟨rfl, hb4⟩
      have HB5 := hid (below_keep HB4.out hb4)
      obtain ⟨g0, g1⟩ := keep2 HS4.out hb4
      have HS5 := hid (And.intro g0 g1)
      clear hb4
      go_wp2_with fail
      go_region_held3 (fun w' => (w'.cell? ⟨w.heap.size, 0, none⟩ = some (.int .i64 ah) ∧ w'.cell? ⟨w.heap.size, 1, none⟩ = some (.int .u64 al)) ∧ Below w.heap.size w w')
        (first | exact ⟨HS5.out, HB5.out.drew⟩ | exact ⟨keep2 (And.left (by assumption : _ ∧ Below w.heap.size w _)) hb2, below_keep (And.right (by assumption : _ ∧ Below w.heap.size w _)) hb2⟩)
        (first
          | (go_at_call 11; refine (Wide.string 0 y y HWY.out _ (HT.out.at_ (And.right (by assumption : _ ∧ Below w.heap.size w _)))).mono ?_; rintro e w5 ⟨rfl, hb2⟩)
          | (go_at_call 11; refine (Wide.string ah al a HA.out _ (HT.out.at_ (And.right (by assumption : _ ∧ Below w.heap.size w _)))).mono ?_; rintro e w5 ⟨rfl, hb2⟩)
          | (go_at_call 7; refine (Law.of ah al a HA.out _).mono ?_; rintro e w5 ⟨s2, A2, n2, c2, rfl, hI2, hb2⟩; have HI2 := hid hI2; clear hI2)
          | (go_at_call 12; refine (Ref.text 5 (by decide) s6 A6 n6 c6 y _ HI6.out).mono ?_; rintro e w5 ⟨rfl, hb2⟩)
          | (go_at_call 12; refine (Ref.text 18 (by decide) s2 A2 n2 c2 a _ HI2.out).mono ?_; rintro e w5 ⟨rfl, hb2⟩)
          | (go_at_call 10; refine (Wide.ofN x HX0.out HX1.out _).mono ?_; rintro e w5 ⟨h5, l5, rfl, hw5, hb2⟩; have HW5 := hid hw5; clear hw5)
          | (go_at_call 9; refine (Ref.N x HX0.out HX1.out _).mono ?_; rintro e w5 ⟨s4, A4, n4, c4, rfl, hI4, hb2⟩; have HI4 := hid hI4; clear hI4)
          | (go_at_call 8; refine (Law.same 5 (by decide) 0 y y HWY.out s6 A6 n6 c6 y _ HI6.out true (by simp)).mono ?_; rintro e w5 ⟨rfl, hb2⟩)
          | (go_at_call 8; refine (Law.same 5 (by decide) h5 l5 x HW5.out s4 A4 n4 c4 x _ HI4.out true (by simp)).mono ?_; rintro e w5 ⟨rfl, hb2⟩)
          | (go_at_call 13; refine (Wide.ofU y HY0.out HY1.out _).mono ?_; rintro e w5 ⟨rfl, hwy, hb2⟩; have HWY := hid hwy; clear hwy)
          | (go_at_call 14; refine (Ref.U y HY0.out HY1.out _).mono ?_; rintro e w5 ⟨s6, A6, n6, c6, rfl, hI6, hb2⟩; have HI6 := hid hI6; clear hI6))
      have HF := hid (And.right (by assumption : _ ∧ Below w.heap.size w w5))
      clear hb2
      go_wp2
      go_ret
      exact ⟨rfl, HF.out⟩
  · have HN2 := hid hsm
    clear hsm
    go_wp2_with fail
    refine (Wide.small_no ah al a HA.out (by have := HN2.out; omega) _).mono ?_
    rintro e w2 ⟨rfl, hb2⟩
    have HB := hid (below_keep HB1.out hb2)
    have hS := keep2 HG1.out hb2
    clear hb2 g0 g1 HB1 HG1
    go_upto_region 4 with fail
    go_cut [40] (fun s wc => s = .bool false ∧ (wc.cell? ⟨w.heap.size, 0, none⟩ = some (.int .i64 ah) ∧ wc.cell? ⟨w.heap.size, 1, none⟩ = some (.int .u64 al)) ∧ Below w.heap.size w wc)
    case first =>
      refine wp_region_held_drew (S := fun w' => (w'.cell? ⟨w.heap.size, 0, none⟩ = some (.int .i64 ah) ∧ w'.cell? ⟨w.heap.size, 1, none⟩ = some (.int .u64 al)) ∧ Below w.heap.size w w') (by kernel_rfl) ⟨hS, HB.out.drew⟩ (fun hHeld => ?_)
      refine wpAnyH_take (i := 0) (v := ?_) rfl (by kernel_rfl) (by kernel_rfl) (by kernel_rfl) (fun _ _ _ h => h) (Or.inl ⟨by rfl, ?_⟩) (by assumption) ?_
      rotate_left
      · intro w hSw; (try dsimp only at hSw); go_simp; (try with_reducible rfl)
      try simp only [List.getElem_toArray, List.getElem_cons_zero, List.getElem_cons_succ, Act.put, List.setIfInBounds_toArray, List.set_cons_zero, List.set_cons_succ]
      refine wpAnyH_take (i := 1) (v := ?_) rfl (by kernel_rfl) (by kernel_rfl) (by kernel_rfl) (fun _ _ _ h => h) (Or.inl ⟨by rfl, ?_⟩) (by assumption) ?_
      rotate_left
      · intro w hSw; (try dsimp only at hSw); go_simp; (try with_reducible rfl)
      try simp only [List.getElem_toArray, List.getElem_cons_zero, List.getElem_cons_succ, Act.put, List.setIfInBounds_toArray, List.set_cons_zero, List.set_cons_succ]
      refine wpAnyH_ready (rs := [2]) (by kernel_rfl) (by simp) ?_
      refine AllReadyH.cons rfl (fun K hK => ?_) AllReadyH.nil
      go_simp
      go_at_call 7
      refine (Law.of ah al a HA.out _).mono ?_
      rintro e w2 ⟨s2, A2, n2, c2, rfl, hB2, hb2⟩
      have HB2 := hid hB2
      clear hB2
      refine hK.out _ _ ?_ (fun hHeld => ?_)
      · exact ⟨keep2 hHeld.1 hb2, below_keep hHeld.2 hb2⟩
      clear hK K
      try simp only [List.getElem_toArray, List.getElem_cons_zero, List.getElem_cons_succ, Act.put, List.setIfInBounds_toArray, List.set_cons_zero, List.set_cons_succ]
      refine wpAnyH_ready (rs := [3]) (by kernel_rfl) (by simp) ?_
      refine AllReadyH.cons rfl (fun K hK => ?_) AllReadyH.nil
      go_simp
      go_at_call 6
      refine (Ref.small 18 (by decide) s2 A2 n2 c2 a _ HB2.out false (by have := HN2.out; simp; omega)).mono ?_
      rintro e w2 ⟨rfl, hb2⟩
      refine hK.out _ _ ?_ (fun hHeld => ?_)
      · exact ⟨keep2 hHeld.1 hb2, below_keep hHeld.2 hb2⟩
      clear hK K
      try simp only [List.getElem_toArray, List.getElem_cons_zero, List.getElem_cons_succ, Act.put, List.setIfInBounds_toArray, List.set_cons_zero, List.set_cons_succ]
      refine wpAnyH_take (i := 4) (v := ?_) rfl (by kernel_rfl) (by kernel_rfl) (by kernel_rfl) (fun _ _ _ h => h) (Or.inl ⟨by rfl, ?_⟩) (by assumption) ?_
      rotate_left
      · intro w hSw; (try dsimp only at hSw); go_simp; (try with_reducible rfl)
      try simp only [List.getElem_toArray, List.getElem_cons_zero, List.getElem_cons_succ, Act.put, List.setIfInBounds_toArray, List.set_cons_zero, List.set_cons_succ]
      refine wpAnyH_take (i := 5) (v := ?_) rfl (by kernel_rfl) (by kernel_rfl) (by kernel_rfl) (fun _ _ _ h => h) (Or.inl ⟨by rfl, ?_⟩) (by assumption) ?_
      rotate_left
      · intro w hSw; (try dsimp only at hSw); go_simp; (try with_reducible rfl)
      try simp only [List.getElem_toArray, List.getElem_cons_zero, List.getElem_cons_succ, Act.put, List.setIfInBounds_toArray, List.set_cons_zero, List.set_cons_succ]
      refine wpAnyH_take (i := 6) (v := ?_) rfl (by kernel_rfl) (by kernel_rfl) (by kernel_rfl) (fun _ _ _ h => h) (Or.inl ⟨by rfl, ?_⟩) (by assumption) ?_
      rotate_left
      · intro w hSw; (try dsimp only at hSw); go_simp; (try with_reducible rfl)
      try simp only [List.getElem_toArray, List.getElem_cons_zero, List.getElem_cons_succ, Act.put, List.setIfInBounds_toArray, List.set_cons_zero, List.set_cons_succ]
      refine wpAnyH_take (i := 7) (v := ?_) rfl (by kernel_rfl) (by kernel_rfl) (by kernel_rfl) (fun _ _ _ h => h) (Or.inl ⟨by rfl, ?_⟩) (by assumption) ?_
      rotate_left
      · intro w hSw; (try dsimp only at hSw); go_simp; (try with_reducible rfl)
      try simp only [List.getElem_toArray, List.getElem_cons_zero, List.getElem_cons_succ, Act.put, List.setIfInBounds_toArray, List.set_cons_zero, List.set_cons_succ]
      refine wpAnyH_take (i := 8) (v := undef) rfl (by kernel_rfl) (by kernel_rfl) (by kernel_rfl) (fun _ _ _ h => h) (Or.inr ⟨by rfl, rfl⟩) (by assumption) ?_
      try simp only [List.getElem_toArray, List.getElem_cons_zero, List.getElem_cons_succ, Act.put, List.setIfInBounds_toArray, List.set_cons_zero, List.set_cons_succ]
      refine wpAnyH_take (i := 9) (v := undef) rfl (by kernel_rfl) (by kernel_rfl) (by kernel_rfl) (fun _ _ _ h => h) (Or.inr ⟨by rfl, rfl⟩) (by assumption) ?_
      try simp only [List.getElem_toArray, List.getElem_cons_zero, List.getElem_cons_succ, Act.put, List.setIfInBounds_toArray, List.set_cons_zero, List.set_cons_succ]
      refine wpAnyH_take (i := 10) (v := undef) rfl (by kernel_rfl) (by kernel_rfl) (by kernel_rfl) (fun _ _ _ h => h) (Or.inr ⟨by rfl, rfl⟩) (by assumption) ?_
      try simp only [List.getElem_toArray, List.getElem_cons_zero, List.getElem_cons_succ, Act.put, List.setIfInBounds_toArray, List.set_cons_zero, List.set_cons_succ]
      refine wpAnyH_take (i := 11) (v := undef) rfl (by kernel_rfl) (by kernel_rfl) (by kernel_rfl) (fun _ _ _ h => h) (Or.inr ⟨by rfl, rfl⟩) (by assumption) ?_
      try simp only [List.getElem_toArray, List.getElem_cons_zero, List.getElem_cons_succ, Act.put, List.setIfInBounds_toArray, List.set_cons_zero, List.set_cons_succ]
      refine wpAnyH_take (i := 12) (v := undef) rfl (by kernel_rfl) (by kernel_rfl) (by kernel_rfl) (fun _ _ _ h => h) (Or.inr ⟨by rfl, rfl⟩) (by assumption) ?_
      try simp only [List.getElem_toArray, List.getElem_cons_zero, List.getElem_cons_succ, Act.put, List.setIfInBounds_toArray, List.set_cons_zero, List.set_cons_succ]
      refine wpAnyH_take (i := 13) (v := ?_) rfl (by kernel_rfl) (by kernel_rfl) (by kernel_rfl) (fun _ _ _ h => h) (Or.inl ⟨by rfl, ?_⟩) (by assumption) ?_
      rotate_left
      · intro w hSw; (try dsimp only at hSw); go_simp; (try with_reducible rfl)
      try simp only [List.getElem_toArray, List.getElem_cons_zero, List.getElem_cons_succ, Act.put, List.setIfInBounds_toArray, List.set_cons_zero, List.set_cons_succ]
      refine wpAnyH_take (i := 14) (v := ?_) rfl (by kernel_rfl) (by kernel_rfl) (by kernel_rfl) (fun _ _ _ h => h) (Or.inl ⟨by rfl, ?_⟩) (by assumption) ?_
      rotate_left
      · intro w hSw; (try dsimp only at hSw); go_simp; (try with_reducible rfl)
      try simp only [List.getElem_toArray, List.getElem_cons_zero, List.getElem_cons_succ, Act.put, List.setIfInBounds_toArray, List.set_cons_zero, List.set_cons_succ]
      refine wpAnyH_take (i := 15) (v := ?_) rfl (by kernel_rfl) (by kernel_rfl) (by kernel_rfl) (fun _ _ _ h => h) (Or.inl ⟨by rfl, ?_⟩) (by assumption) ?_
      rotate_left
      · intro w hSw; (try dsimp only at hSw); go_simp; (try with_reducible rfl)
      try simp only [List.getElem_toArray, List.getElem_cons_zero, List.getElem_cons_succ, Act.put, List.setIfInBounds_toArray, List.set_cons_zero, List.set_cons_succ]
      refine wpAnyH_take (i := 16) (v := ?_) rfl (by kernel_rfl) (by kernel_rfl) (by kernel_rfl) (fun _ _ _ h => h) (Or.inl ⟨by rfl, ?_⟩) (by assumption) ?_
      rotate_left
      · intro w hSw; (try dsimp only at hSw); go_simp; (try with_reducible rfl)
      try simp only [List.getElem_toArray, List.getElem_cons_zero, List.getElem_cons_succ, Act.put, List.setIfInBounds_toArray, List.set_cons_zero, List.set_cons_succ]
      refine wpAnyH_take (i := 17) (v := ?_) rfl (by kernel_rfl) (by kernel_rfl) (by kernel_rfl) (fun _ _ _ h => h) (Or.inl ⟨by rfl, ?_⟩) (by assumption) ?_
      rotate_left
      · intro w hSw; (try dsimp only at hSw); go_simp; (try with_reducible rfl)
      try simp only [List.getElem_toArray, List.getElem_cons_zero, List.getElem_cons_succ, Act.put, List.setIfInBounds_toArray, List.set_cons_zero, List.set_cons_succ]
      refine wpAnyH_take (i := 18) (v := ?_) rfl (by kernel_rfl) (by kernel_rfl) (by kernel_rfl) (fun _ _ _ h => h) (Or.inl ⟨by rfl, ?_⟩) (by assumption) ?_
      rotate_left
      · intro w hSw; (try dsimp only at hSw); go_simp; (try with_reducible rfl)
      try simp only [List.getElem_toArray, List.getElem_cons_zero, List.getElem_cons_succ, Act.put, List.setIfInBounds_toArray, List.set_cons_zero, List.set_cons_succ]
      refine wpAnyH_take (i := 19) (v := ?_) rfl (by kernel_rfl) (by kernel_rfl) (by kernel_rfl) (fun _ _ _ h => h) (Or.inl ⟨by rfl, ?_⟩) (by assumption) ?_
      rotate_left
      · intro w hSw; (try dsimp only at hSw); go_simp; (try with_reducible rfl)
      try simp only [List.getElem_toArray, List.getElem_cons_zero, List.getElem_cons_succ, Act.put, List.setIfInBounds_toArray, List.set_cons_zero, List.set_cons_succ]
      refine wpAnyH_take (i := 20) (v := ?_) rfl (by kernel_rfl) (by kernel_rfl) (by kernel_rfl) (fun _ _ _ h => h) (Or.inl ⟨by rfl, ?_⟩) (by assumption) ?_
      rotate_left
      · intro w hSw; (try dsimp only at hSw); go_simp; (try with_reducible rfl)
      try simp only [List.getElem_toArray, List.getElem_cons_zero, List.getElem_cons_succ, Act.put, List.setIfInBounds_toArray, List.set_cons_zero, List.set_cons_succ]
      refine wpAnyH_take (i := 21) (v := ?_) rfl (by kernel_rfl) (by kernel_rfl) (by kernel_rfl) (fun _ _ _ h => h) (Or.inl ⟨by rfl, ?_⟩) (by assumption) ?_
      rotate_left
      · intro w hSw; (try dsimp only at hSw); go_simp; (try with_reducible rfl)
      try simp only [List.getElem_toArray, List.getElem_cons_zero, List.getElem_cons_succ, Act.put, List.setIfInBounds_toArray, List.set_cons_zero, List.set_cons_succ]
      refine wpAnyH_take (i := 22) (v := ?_) rfl (by kernel_rfl) (by kernel_rfl) (by kernel_rfl) (fun _ _ _ h => h) (Or.inl ⟨by rfl, ?_⟩) (by assumption) ?_
      rotate_left
      · intro w hSw; (try dsimp only at hSw); go_simp; (try with_reducible rfl)
      try simp only [List.getElem_toArray, List.getElem_cons_zero, List.getElem_cons_succ, Act.put, List.setIfInBounds_toArray, List.set_cons_zero, List.set_cons_succ]
      refine wpAnyH_done (by kernel_rfl) ?_ _
      obtain ⟨hS2, hB2⟩ := hHeld
      go_wp2_with fail
      go_meet
      exact ⟨rfl, hS2, hB2⟩
    case rest =>
      obtain ⟨rfl, hS, hB⟩ := hcut
      have HS3 := hid hS
      have HB3 := hid hB
      clear hS hB HB
      go_wp2_with fail
      refine (Wide.ofN x HX0.out HX1.out _).mono ?_
      rintro e w3 ⟨h3, l3, rfl, hw3, hb3⟩
      have HW3 := hid hw3
      have HB4 := hid (below_keep HB3.out hb3)
      have HS4 := hid (keep2 HS3.out hb3)
      clear hb3 hw3
      go_wp2_with fail
      refine (Wide.small h3 l3 x HW3.out HX0.out HX1.out _).mono ?_
      rintro e w4 ⟨rfl, hb4⟩
      have HB5 := hid (below_keep HB4.out hb4)
      obtain ⟨g0, g1⟩ := keep2 HS4.out hb4
      have HS5 := hid (And.intro g0 g1)
      clear hb4
      go_wp2_with fail
      go_region_held3 (fun w' => (w'.cell? ⟨w.heap.size, 0, none⟩ = some (.int .i64 ah) ∧ w'.cell? ⟨w.heap.size, 1, none⟩ = some (.int .u64 al)) ∧ Below w.heap.size w w')
        (first | exact ⟨HS5.out, HB5.out.drew⟩ | exact ⟨keep2 (And.left (by assumption : _ ∧ Below w.heap.size w _)) hb2, below_keep (And.right (by assumption : _ ∧ Below w.heap.size w _)) hb2⟩)
        (first
          | (go_at_call 11; refine (Wide.string 0 y y HWY.out _ (HT.out.at_ (And.right (by assumption : _ ∧ Below w.heap.size w _)))).mono ?_; rintro e w5 ⟨rfl, hb2⟩)
          | (go_at_call 11; refine (Wide.string ah al a HA.out _ (HT.out.at_ (And.right (by assumption : _ ∧ Below w.heap.size w _)))).mono ?_; rintro e w5 ⟨rfl, hb2⟩)
          | (go_at_call 7; refine (Law.of ah al a HA.out _).mono ?_; rintro e w5 ⟨s2, A2, n2, c2, rfl, hI2, hb2⟩; have HI2 := hid hI2; clear hI2)
          | (go_at_call 12; refine (Ref.text 5 (by decide) s6 A6 n6 c6 y _ HI6.out).mono ?_; rintro e w5 ⟨rfl, hb2⟩)
          | (go_at_call 12; refine (Ref.text 18 (by decide) s2 A2 n2 c2 a _ HI2.out).mono ?_; rintro e w5 ⟨rfl, hb2⟩)
          | (go_at_call 10; refine (Wide.ofN x HX0.out HX1.out _).mono ?_; rintro e w5 ⟨h5, l5, rfl, hw5, hb2⟩; have HW5 := hid hw5; clear hw5)
          | (go_at_call 9; refine (Ref.N x HX0.out HX1.out _).mono ?_; rintro e w5 ⟨s4, A4, n4, c4, rfl, hI4, hb2⟩; have HI4 := hid hI4; clear hI4)
          | (go_at_call 8; refine (Law.same 5 (by decide) 0 y y HWY.out s6 A6 n6 c6 y _ HI6.out true (by simp)).mono ?_; rintro e w5 ⟨rfl, hb2⟩)
          | (go_at_call 8; refine (Law.same 5 (by decide) h5 l5 x HW5.out s4 A4 n4 c4 x _ HI4.out true (by simp)).mono ?_; rintro e w5 ⟨rfl, hb2⟩)
          | (go_at_call 13; refine (Wide.ofU y HY0.out HY1.out _).mono ?_; rintro e w5 ⟨rfl, hwy, hb2⟩; have HWY := hid hwy; clear hwy)
          | (go_at_call 14; refine (Ref.U y HY0.out HY1.out _).mono ?_; rintro e w5 ⟨s6, A6, n6, c6, rfl, hI6, hb2⟩; have HI6 := hid hI6; clear hI6))
      have HF := hid (And.right (by assumption : _ ∧ Below w.heap.size w w5))
      clear hb2
      go_wp2
      go_ret
      exact ⟨rfl, HF.out⟩

end Go.Proofs.YtjklcbbanlaicaaDoor

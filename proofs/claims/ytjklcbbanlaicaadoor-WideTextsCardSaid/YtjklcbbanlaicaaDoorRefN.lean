/- The contracts of the document's answer for layer 1, continued: the number that a high and a low half are. -/
import Derived.Test.YtjklcbbanlaicaaDoorRefM
namespace Go.Proofs.YtjklcbbanlaicaaDoor
open Go.RowKit

set_option maxRecDepth 100000 in
set_option maxHeartbeats 4000000 in
theorem Ref.wide (a b : Int) (a0 : -9223372036854775808 ≤ a) (a1 : a ≤ 9223372036854775807) (b0 : 0 ≤ b) (b1 : b ≤ 18446744073709551615) (w : World) :
    Calls Tryd.prog 20 #[.int .i64 a, .int .u64 b] w (BAns 18 (a * 18446744073709551616 + b) w) := by
  go_enter Tryd.func20, Tryd.ntmps20
  go_wp2_with fail
  refine (Ref.U 4294967296 (by decide) (by decide) _).mono ?_
  rintro e w1 ⟨s1, A1, n1, c1, rfl, hB1, hb1⟩
  have H1 := hid hB1
  have HF := hid ((Fresh.new w 31).below hb1)
  have hbw := ((Below.refl _ w).alloc (Nat.le_refl _) (Obj.cells #[Value.bool false, Value.slice none 0 0] 31)).trans (hb1.mono (by simp))
  have HBW := hid hbw
  clear hB1 hb1 hbw
  go_wp2_with fail
  refine (Ref.U 4294967296 (by decide) (by decide) _).mono ?_
  rintro e w2 ⟨s2, A2, n2, c2, rfl, hB2, hb2⟩
  have H2 := hid hB2
  have H12 := hid (H1.out.below hb2)
  have HF2 := hid (HF.out.below hb2)
  have HBW2 := hid (below_keep HBW.out hb2)
  clear hB2 hb2
  go_wp2_with fail
  refine (Ref.mul 5 5 s1 s2 A1 A2 n1 c1 n2 c2 _ _ _ H12.out H2.out (by decide) (by decide)).mono ?_
  rintro e w3 ⟨s3, A3, n3, c3, rfl, hB3, hb3⟩
  have hF3 := HF2.out.below hb3
  have hBW3 := below_keep HBW2.out hb3
  have hlt : w.heap.size < w3.heap.size := World.block_lt_of_cell? w3 _ hF3.1
  have H3 := hid hB3
  have HF3 := hid hF3
  have HBW3 := hid hBW3
  clear hB3 hb3 hF3 hBW3
  go_wp2_with fail
  obtain ⟨W0, hW⟩ : ∃ W0, W0 = w3.alloc (Obj.cells #[Value.bool s3, Value.slice A3 n3 c3] 31) := ⟨_, rfl⟩
  rw [← hW]
  have HS0 : Hid ((W0.cell? ⟨w3.heap.size, 0, none⟩ = some (.bool s3) ∧ W0.cell? ⟨w3.heap.size, 1, none⟩ = some (.slice A3 n3 c3) ∧ W0.cell? ⟨w3.heap.size, 0, none⟩ = some (.bool s3) ∧ W0.cell? ⟨w3.heap.size, 1, none⟩ = some (.slice A3 n3 c3)) ∧ Below w.heap.size w W0) := hid (by rw [hW]; exact ⟨⟨by simp [go_sem], by simp [go_sem], by simp [go_sem], by simp [go_sem]⟩, HBW3.out.alloc (by omega) _⟩)
  have HF0 : Hid (Fresh W0 w.heap.size) := hid (by rw [hW]; exact HF3.out.below ((Below.refl _ _).alloc (Nat.le_refl _) _))
  have HT0 : Hid (IsB W0 11 s3 A3 n3 c3 18446744073709551616) := hid (by rw [hW]; exact H3.out.alloc _)
  clear hW
  go_region_held3 (fun w' => (w'.cell? ⟨w3.heap.size, 0, none⟩ = some (.bool s3) ∧ w'.cell? ⟨w3.heap.size, 1, none⟩ = some (.slice A3 n3 c3) ∧ w'.cell? ⟨w3.heap.size, 0, none⟩ = some (.bool s3) ∧ w'.cell? ⟨w3.heap.size, 1, none⟩ = some (.slice A3 n3 c3)) ∧ Below w.heap.size w w')
    (first | exact ⟨HS0.out.1, HS0.out.2.drew⟩ | exact keepP (by assumption) hb2 (fun h => below_keep h hb2) | exact keepSt (by assumption) (by omega) (by omega) (by omega) (by omega) (by omega))
    (first
      | (go_at_call 9; refine (Ref.N a a0 a1 _).mono ?_; rintro e w4 ⟨s4, A4, n4, c4, rfl, hB, hb2⟩; have H4 := hid hB; have HT4 := hid (IsB.below (w := W0.drew) HT0.out hb2); have HF4 := hid (Fresh.below (w := W0.drew) HF0.out hb2); clear hB)
      | (go_at_call 33; refine (Ref.mul 5 11 s4 s3 A4 A3 n4 c4 n3 c3 _ _ _ H4.out HT4.out (by decide) (by decide)).mono ?_; rintro e w5 ⟨s5, A5, n5, c5, rfl, hB, hb2⟩; have H5 := hid hB; have HF5 := hid (HF4.out.below hb2); clear hB)
      | (go_at_call 14; refine (Ref.U b b0 b1 _).mono ?_; rintro e w6 ⟨s6, A6, n6, c6, rfl, hB, hb2⟩; have H6 := hid (hB.mono (show 5 ≤ 17 by decide)); have H56 := hid (H5.out.below hb2); have HF6 := hid (HF5.out.below hb2); clear hB)
      | (go_at_call 29; refine (Ref.add 17 s5 s6 A5 A6 n5 c5 n6 c6 _ _ _ H56.out H6.out (by decide)).mono ?_; rintro e w7 ⟨s', A', n', c', rfl, hB, hb2⟩; have HB := hid hB; have HF7 := hid (HF6.out.below hb2); obtain ⟨t0, t1, t2, t3, _⟩ := HF7.out; clear hB))
  obtain ⟨_, hfin⟩ : (_ ∧ _ ∧ _ ∧ _) ∧ Below w.heap.size w ((w7.setCell ⟨w.heap.size, 0, none⟩ (.bool s')).setCell ⟨w.heap.size, 1, none⟩ (.slice A' n' c')) := by assumption
  have HFIN := hid hfin
  clear hfin
  go_wp2
  exact bodyPost_ret (v := .agg #[.bool s', .slice A' n' c']) (by simp [results, Tryd.results20, go_sem, t0, t1]) rfl ⟨_, _, _, _, rfl, HB.out.store HF7.out.2.2.2.2 _ _ _ _, HFIN.out⟩

end Go.Proofs.YtjklcbbanlaicaaDoor

/- The contract of muldiv.Floor; MuldivFloors: the walk. -/
import Derived.Test.YtjklcbbanlaicaaIs2
import Derived.Test.YtjklcbbanlaicaaMuldiv
import Derived.Test.YtjklcbbanlaicaaVturns
import Derived.Test.YtjklcbbanlaicaaWideC
import Derived.Test.YtjklcbbanlaicaaPosB
import Derived.Test.YtjklcbbanlaicaaVs
namespace Go.Proofs.Ytjklcbbanlaicaa
open Go.RowKit

/-- What a whole quotient is: of a wide product, by a number above 0; or nothing. -/
def FloorR (a num den h l : Int) (ok : Bool) : Prop :=
  (ok = true ∧ num ≤ 9223372036854775807 ∧ WR (a * num) ∧ 0 < den ∧ ∃ q r, IsW h l q ∧ q * den + r = a * num ∧ 0 ≤ r ∧ r < den) ∨
  (ok = false ∧ h = 0 ∧ l = 0 ∧ (den = 0 ∨ 9223372036854775807 < num ∨ ¬ WR (a * num)))
def FloorAns (a num den : Int) (w : World) (e : Ending) (w' : World) : Prop :=
  ∃ (h l : Int) (ok : Bool), e = .returned (.tuple #[.agg #[.int .i64 h, .int .u64 l], .bool ok]) ∧ FloorR a num den h l ok ∧ Below w.heap.size w w'

set_option maxRecDepth 100000 in
set_option maxHeartbeats 4000000 in
theorem Muldiv.floor (ah al a num den : Int) (ha : IsW ah al a) (n0 : 0 ≤ num) (d0 : 0 ≤ den) (d1 : den ≤ 18446744073709551615) (w : World) :
    Calls Try.prog 36 #[.agg #[.int .i64 ah, .int .u64 al], .int .u64 num, .int .u64 den] w (FloorAns a num den w) := by
  have HA := hid ha
  clear ha
  by_cases c1 : 9223372036854775807 < num
  · go_enter Try.func36, Try.ntmps36
    go_wp2_with fail
    refine bodyPost_ret (v := .tuple #[.agg #[.int .i64 0, .int .u64 0], .bool false]) (by simp [results, Try.results36, go_sem]) rfl ⟨_, _, _, rfl, .inr ⟨rfl, rfl, rfl, .inr (.inl c1)⟩, ?_⟩
    exact ((Below.refl _ _).alloc (Nat.le_refl _) _).alloc (by simp) _
  · have e1 : wrap64 num = num := by unfold wrap64; omega
    have e2 : IntKind.i64.wrap num = num := by rw [IntKind.wrap_i64]; omega
    have N0 := hid n0
    have D0 := hid d0
    clear n0 d0
    go_enter Try.func36, Try.ntmps36
    go_wp2_with fail
    refine (Wide.mul ah al num a HA.out (by have := N0.out; omega) (by omega) _).mono ?_
    rintro e w1 ⟨h, l, ok, rfl, hr, hb1⟩
    have HT1 : Hid (Two w w.heap.size [.int .i64 ah, .int .u64 al] (w.heap.size + 1) [.int .i64 0, .int .u64 0] w1) := hid (Two.below ⟨(Cs.new2 _ _ _ _).alloc _, by have := Cs.new2 (w.alloc (Obj.cells #[.int .i64 ah, .int .u64 al] 29)) 29 (.int .i64 0) (.int .u64 0); simpa using this, ((Below.refl _ _).alloc (Nat.le_refl _) _).alloc (by simp) _⟩ hb1)
    clear hb1 e1 e2
    have hz := HT1.out.2.1.lt
    rcases hr with ⟨rfl, hwr, hw⟩ | ⟨rfl, hwr, rfl, rfl⟩
    · have HWR := hid hwr
      have HW := hid hw
      clear hwr hw
      by_cases c2 : den = 0
      · subst c2
        go_wp2_with fail
        refine (Wide.div0 h l _).mono ?_
        rintro e w2 ⟨rfl, hb2⟩
        have HT2 := hid ((HT1.out.alloc (.cells #[.int .i64 h, .int .u64 l] 29)).below hb2)
        have y0 := HT2.out.2.1.at0
        have y1 := HT2.out.2.1.at1
        have y2 := HT2.out.2.1.fr0
        have y3 := HT2.out.2.1.fr1
        have z2 := HT2.out.2.1.lt
        clear hb2 hz
        go_wp2_with fail
        refine bodyPost_ret (v := .tuple #[.agg #[.int .i64 0, .int .u64 0], .bool false]) (by simp [results, Try.results36, go_sem, y0, y1, z2]) rfl ⟨_, _, _, rfl, .inr ⟨rfl, rfl, rfl, .inl rfl⟩, ?_⟩
        have HBX := HT2.out.2.2.size
        refine Below.alloc ?_ (by simp; omega) _
        exact (HT2.out.2.2.setCell (by simp) _).setCell (by simp) _
      · have dp := hid (show 0 < den by have := D0.out; omega)
        go_wp2_with fail
        refine (Wide.div h l (a * num) den HW.out dp.out d1 _).mono ?_
        rintro e w2 ⟨hq, lq, q, r, rfl, ⟨g1, g2, g3, g4⟩, hb2⟩
        have HG := hid (And.intro g1 (And.intro g2 (And.intro g3 g4)))
        have HT2 := hid ((HT1.out.alloc (.cells #[.int .i64 h, .int .u64 l] 29)).below hb2)
        have y0 := HT2.out.2.1.at0
        have y1 := HT2.out.2.1.at1
        have y2 := HT2.out.2.1.fr0
        have y3 := HT2.out.2.1.fr1
        have z2 := HT2.out.2.1.lt
        have C1 := hid (show num ≤ 9223372036854775807 by omega)
        clear hb2 hz g1 g2 g3 g4 c2
        go_wp2_with fail
        refine bodyPost_ret (v := .tuple #[.agg #[.int .i64 hq, .int .u64 lq], .bool true]) (by simp [results, Try.results36, go_sem, y0, y1, z2]) rfl ⟨_, _, _, rfl, .inl ⟨rfl, C1.out, HWR.out, dp.out, q, r, HG.out⟩, ?_⟩
        have HBX := HT2.out.2.2.size
        refine Below.alloc ?_ (by simp; omega) _
        exact (HT2.out.2.2.setCell (by simp) _).setCell (by simp) _
    · have HWR := hid hwr
      have y0 := HT1.out.2.1.at0
      have y1 := HT1.out.2.1.at1
      have y2 := HT1.out.2.1.fr0
      have y3 := HT1.out.2.1.fr1
      clear hwr
      go_wp2_with fail
      refine bodyPost_ret (v := .tuple #[.agg #[.int .i64 0, .int .u64 0], .bool false]) (by simp [results, Try.results36, go_sem, y0, y1, hz]) rfl ⟨_, _, _, rfl, .inr ⟨rfl, rfl, rfl, .inr (.inr HWR.out)⟩, ?_⟩
      have HBX := HT1.out.2.2.size
      refine Below.alloc ?_ (by simp; omega) _
      exact (HT1.out.2.2.setCell (by simp) _).setCell (by simp) _

set_option maxRecDepth 100000 in
set_option maxHeartbeats 8000000 in
theorem Floors.walk (ah al a num den : Int) (ha : IsW ah al a) (n0 : 0 ≤ num) (n1 : num ≤ 18446744073709551615) (d0 : 0 ≤ den) (d1 : den ≤ 18446744073709551615) (w : World) :
    Calls Try.prog 7 #[.agg #[.int .i64 ah, .int .u64 al], .int .u64 num, .int .u64 den] w fun e w' => e = .returned (.bool true) ∧ Below w.heap.size w w' := by
  have HA := hid ha
  have N0 := hid (And.intro n0 n1)
  have D0 := hid (And.intro d0 d1)
  clear ha n0 n1 d0 d1
  go_enter Try.func7, Try.ntmps7
  go_wp2_with fail
  refine (Law2.awake _).mono ?_
  rintro e w1 ⟨rfl, hb1⟩
  have V1 : Hid (Vs w [(w.heap.size, [.int .i64 ah, .int .u64 al])] w1) := hid (Vs.below (Vs.more (Vs.nil ((Below.refl _ _).alloc (Nat.le_refl _) _)) (Cs.new2 _ _ _ _)) hb1)
  clear hb1
  have x0 := (V1.out.at 0 rfl).at0
  have x1 := (V1.out.at 0 rfl).at1
  have xz := (V1.out.at 0 rfl).lt
  go_wp2_with fail
  refine (Muldiv.floor ah al a num den HA.out N0.out.1 D0.out.1 D0.out.2 _).mono ?_
  rintro e w2 ⟨h, l, ok, rfl, hr, hb2⟩
  have HR := hid hr
  have V2 := hid (V1.out.below hb2)
  clear hr hb2 V1 x0 x1 xz
  have x0 := (V2.out.at 0 rfl).at0
  have x1 := (V2.out.at 0 rfl).at1
  have xz := (V2.out.at 0 rfl).lt
  go_wp2_with fail
  refine (Law.of ah al a HA.out _).mono ?_
  rintro e w3 ⟨s3, A3, n3, c3, rfl, hB, hb3⟩
  have V3 : Hid (Vs w [(w2.heap.size, [.int .i64 h, .int .u64 l]), (w.heap.size, [.int .i64 ah, .int .u64 al])] w3) := hid (Vs.below (Vs.more (V2.out.alloc _) (Cs.new2 w2 29 (.int .i64 h) (.int .u64 l))) hb3)
  have H3 := hid hB
  clear hB hb3 V2 x0 x1 xz
  go_wp2_with fail
  refine (Ref.U num N0.out.1 N0.out.2 _).mono ?_
  rintro e w4 ⟨s4, A4, n4, c4, rfl, hB, hb4⟩
  have V4 := hid (V3.out.below hb4)
  have H4 := hid hB
  have H3' := hid (H3.out.below hb4)
  clear hB hb4 V3
  go_wp2_with fail
  refine (Ref.mul 18 5 s3 s4 A3 A4 n3 c3 n4 c4 _ _ _ H3'.out H4.out (by decide) (by decide)).mono ?_
  rintro e w5 ⟨s5, A5, n5, c5, rfl, hB, hb5⟩
  have V5 := hid (V4.out.below hb5)
  have H5 := hid (hB.mono (show 18 + 5 + 1 ≤ 24 by decide))
  clear hB hb5 V4
  have q0 := (V5.out.at 0 rfl).at0
  have q1 := (V5.out.at 0 rfl).at1
  have qz := (V5.out.at 0 rfl).lt
  rcases HR.out with ⟨rfl, g1, g2, g3, q, r, g4, g5, g6, g7⟩ | ⟨rfl, rfl, rfl, g⟩
  · have hd : (den == 0) = false := by rw [beq_eq_false_iff_ne]; omega
    have hn : ¬ 9223372036854775808 ≤ num := by omega
    have G4 := hid g4
    have G5 := hid g5
    have G6 := hid (And.intro g6 g7)
    have GV := hid (show true = true ↔ (-170141183460469231731687303715884105728 ≤ a * num ∧ a * num < 170141183460469231731687303715884105728) from ⟨fun _ => by unfold WR at g2; omega, fun _ => rfl⟩)
    clear g1 g2 g3 g4 g5 g6 g7 HR
    go_wp2_with fail
    refine (Ref.is 24 (by decide) s5 A5 n5 c5 _ _ (H5.out.alloc _) true ⟨fun _ => GV.out.1 trivial, fun _ => rfl⟩).mono ?_
    rintro e w6 ⟨rfl, hb6⟩
    have HS0 : Hid ((w6.cell? ⟨w5.heap.size, 0, none⟩ = some (.bool s5) ∧ w6.cell? ⟨w5.heap.size, 1, none⟩ = some (.slice A5 n5 c5) ∧ w6.cell? ⟨w2.heap.size, 0, none⟩ = some (.int .i64 h) ∧ w6.cell? ⟨w2.heap.size, 1, none⟩ = some (.int .u64 l)) ∧ SQ w 24 s5 A5 n5 c5 (a * num) w6) := hid ⟨⟨keep1 hb6 (by simp [go_sem]), keep1 hb6 (by simp [go_sem]), keep1 hb6 (cell_alloc _ q0), keep1 hb6 (cell_alloc _ q1)⟩, below_keep (V5.out.2.alloc V5.out.2.size _) hb6, ((H5.out.alloc _).below hb6).mono (by decide)⟩
    clear hb6 q0 q1 qz V5 H5 GV
    go_wp2_with fail
    go_region_held3 (fun w' => (w'.cell? ⟨w5.heap.size, 0, none⟩ = some (.bool s5) ∧ w'.cell? ⟨w5.heap.size, 1, none⟩ = some (.slice A5 n5 c5) ∧ w'.cell? ⟨w2.heap.size, 0, none⟩ = some (.int .i64 h) ∧ w'.cell? ⟨w2.heap.size, 1, none⟩ = some (.int .u64 l)) ∧ SQ w 24 s5 A5 n5 c5 (a * num) w')
      (first | exact ⟨HS0.out.1, HS0.out.2.1.drew, HS0.out.2.2.drew⟩ | exact keepP (by assumption) hb7 (fun h => SQ.below h hb7))
      (first
        | (go_at_call 20; have HK := H7.out; refine (Law.of h l q G4.out _).mono ?_; rintro e w8 ⟨s8, A8, n8, c8, rfl, hB, hb7⟩; have H8 := hid hB; have H7' := hid (HK.below hb7); clear hB HK)
        | (go_at_call 20; refine (Law.of h l q G4.out _).mono ?_; rintro e w7 ⟨s7, A7, n7, c7, rfl, hB, hb7⟩; have H7 := hid (hB.mono (show 18 ≤ 300 by decide)); clear hB)
        | (go_at_call 34; refine (Ref.U den D0.out.1 D0.out.2 _).mono ?_; rintro e w9 ⟨s9, A9, n9, c9, rfl, hB, hb7⟩; have H9 := hid hB; have H8' := hid (H8.out.below hb7); have H7'' := hid (H7'.out.below hb7); clear hB)
        | (go_at_call 37; refine (Ref.mul 18 5 s8 s9 A8 A9 n8 c8 n9 c9 _ _ _ H8'.out H9.out (by decide) (by decide)).mono ?_; rintro e w10 ⟨s10, A10, n10, c10, rfl, hB, hb7⟩; have H10 := hid (hB.mono (show 18 + 5 + 1 ≤ 24 by decide)); have H73 := hid (H7''.out.below hb7); have HX := hid (SQ.below (And.right (by assumption : (_ ∧ _ ∧ _ ∧ _) ∧ SQ w 24 s5 A5 n5 c5 (a * num) _)) hb7).2; clear hB)
        | (go_at_call 38; refine (Ref.sub 24 s5 s10 A5 A10 n5 c5 n10 c10 _ _ _ HX.out H10.out (by decide)).mono ?_; rintro e w11 ⟨s11, A11, n11, c11, rfl, hB, hb7⟩; have H11 := hid (show IsB _ 300 s11 A11 n11 c11 r by rw [show r = a * num - q * den by have := G5.out; omega]; exact hB.mono (by decide)); have H74 := hid (H73.out.below hb7); have HX2 := hid (HX.out.below hb7); clear hB)
        | (go_at_call 33; refine (Ref2.is den (a * num) q r D0.out.1 D0.out.2 G6.out.1 G6.out.2 G5.out s5 s7 s11 A5 A7 A11 n5 c5 n7 c7 n11 c11 _ (HX2.out.mono (by decide)) H74.out H11.out).mono ?_; rintro e w12 ⟨rfl, hb7⟩))
    have HFIN := hid (And.right (by assumption : (_ ∧ _ ∧ _ ∧ _) ∧ SQ w 24 s5 A5 n5 c5 (a * num) w12)).1
    go_wp2
    go_ret
    exact ⟨rfl, HFIN.out⟩
  · by_cases c1 : den = 0
    · subst c1
      clear g HR
      go_wp2_with fail
      go_ret
      exact ⟨rfl, V5.out.2.alloc V5.out.2.size _⟩
    · have hd : (den == 0) = false := by rw [beq_eq_false_iff_ne]; exact c1
      by_cases c2 : 9223372036854775808 ≤ num
      · clear g HR
        go_wp2_with fail
        go_ret
        exact ⟨rfl, V5.out.2.alloc V5.out.2.size _⟩
      · have GV := hid (show False ↔ (-170141183460469231731687303715884105728 ≤ a * num ∧ a * num < 170141183460469231731687303715884105728) from ⟨fun h => h.elim, fun h => by unfold WR at g; omega⟩)
        clear g HR
        go_wp2_with fail
        refine (Ref.is 24 (by decide) s5 A5 n5 c5 _ _ (H5.out.alloc _) false ⟨fun h => absurd h (by decide), fun h => (GV.out.2 h).elim⟩).mono ?_
        rintro e w6 ⟨rfl, hb6⟩
        have r0 : w6.cell? ⟨w2.heap.size, 0, none⟩ = some (.int .i64 0) := keep1 hb6 (cell_alloc _ q0)
        have r1 : w6.cell? ⟨w2.heap.size, 1, none⟩ = some (.int .u64 0) := keep1 hb6 (cell_alloc _ q1)
        have HFIN := hid (below_keep (V5.out.2.alloc V5.out.2.size _) hb6)
        clear hb6 q0 q1
        go_wp2_with fail
        go_ret
        exact ⟨rfl, HFIN.out⟩

theorem Floors.law (a0 b0 a1 a2 : Int) (w : World) (w0 : IsWd a0 b0) (w1 : (Lit.int .u64 a1).wf = true) (w2 : (Lit.int .u64 a2).wf = true) :
    Calls Try.prog 7 #[.agg #[.int .i64 a0, .int .u64 b0], .int .u64 a1, .int .u64 a2] w fun e w' => e = .returned (.bool true) ∧ Below w.heap.size w w' :=
  Floors.walk a0 b0 _ a1 a2 w0 (bounds_u64 w1).1 (bounds_u64 w1).2 (bounds_u64 w2).1 (bounds_u64 w2).2 w

end Go.Proofs.Ytjklcbbanlaicaa

/- PosAt: the walk. -/
import Derived.Test.YtjklcbbanlaicaaAt4
import Derived.Test.YtjklcbbanlaicaaRef4
import Derived.Test.YtjklcbbanlaicaaPosE
import Derived.Test.YtjklcbbanlaicaaVs
namespace Go.Proofs.Ytjklcbbanlaicaa
open Go.RowKit

theorem Vs.far {w0 w : World} {L : List (Nat × List Value)} (h : Vs w0 L w) {g : Nat} (hg : ∀ x ∈ L, x.1 < g) (hw : w0.heap.size ≤ g) (o : Nat) (u : Value) : Vs w0 L (w.setCell ⟨g, o, none⟩ u) :=
  ⟨fun x hx => (h.1 x hx).far (by have := hg x hx; omega) _ _, h.2.setCell hw _⟩

/-- Where a distance leads is the same by the program and by the document's answer. -/
theorem At.same (base d v : Int) (b0 : 0 ≤ base) (b1 : base ≤ 18446744073709551615) (v0 : 0 ≤ v) (v1 : v ≤ 4294967295) : ∃ (T R V : Int) (k : Bool),
    (∀ h l, IsW h l d → ∀ w, Calls Try.prog 62 #[.int .u64 base, .agg #[.int .i64 h, .int .u64 l], .int .u32 v] w (Ans (.tuple #[.agg #[.int .u64 T, .int .u32 R, .int .u32 V], .bool k]) w)) ∧
    (∀ s A n c w, IsB w 18 s A n c d → Calls Try.prog 63 #[.int .u64 base, .agg #[.bool s, .slice A n c], .int .u32 v] w (Ans (.tuple #[.agg #[.int .u64 T, .int .u32 R, .int .u32 V], .bool k]) w)) := by
  by_cases ok : AtOk d v
  · have ok2 := ok
    obtain ⟨h1, h2, h3, h4⟩ := ok2
    exact ⟨adv base (d / v), d % v, v, true, fun h l hw w => Pos.at_yes base h l d v hw ok w, fun s A n c w hB => Ref4.at_in base d v b0 b1 s A n c h1 h2 true ⟨fun _ => ⟨h3, by omega⟩, fun _ => rfl⟩ _ _ _ (fun _ => ⟨rfl, rfl, rfl⟩) (fun h => absurd h (by decide)) w hB⟩
  · refine ⟨0, 0, 0, false, fun h l hw w => Pos.at_no base h l d v hw v0 v1 ok w, fun s A n c w hB => ?_⟩
    by_cases hv : 1 ≤ v ∧ v ≤ 1048576
    · exact Ref4.at_in base d v b0 b1 s A n c hv.1 hv.2 false ⟨fun h => absurd h (by decide), fun h => absurd (show AtOk d v from ⟨hv.1, hv.2, h.1, by omega⟩) ok⟩ _ _ _ (fun h => absurd h (by decide)) (fun _ => ⟨rfl, rfl, rfl⟩) w hB
    · exact Ref4.at_weight base v s A n c (by omega) w

set_option maxRecDepth 100000 in
set_option maxHeartbeats 8000000 in
theorem Pat.core (base dh dl d q t r v a T R V T2 R2 V2 : Int) (k k2 : Bool) (hd : IsW dh dl d) (r0 : 0 ≤ r) (r1 : r ≤ 4294967295) (a0 : 0 ≤ a) (a1 : a ≤ 18446744073709551615)
    (hA : ∀ h l, IsW h l d → ∀ w, Calls Try.prog 62 #[.int .u64 base, .agg #[.int .i64 h, .int .u64 l], .int .u32 q] w (Ans (.tuple #[.agg #[.int .u64 T, .int .u32 R, .int .u32 V], .bool k]) w))
    (hB : ∀ s A n c w, IsB w 18 s A n c d → Calls Try.prog 63 #[.int .u64 base, .agg #[.bool s, .slice A n c], .int .u32 q] w (Ans (.tuple #[.agg #[.int .u64 T, .int .u32 R, .int .u32 V], .bool k]) w))
    (hM : ∀ w, Calls Try.prog 64 #[.agg #[.int .u64 t, .int .u32 r, .int .u32 v], .int .u64 a] w (Ans (.tuple #[.agg #[.int .u64 T2, .int .u32 R2, .int .u32 V2], .bool k2]) w))
    (hC : ∀ s A n c w, IsB w 18 s A n c (a + r) → Calls Try.prog 63 #[.int .u64 t, .agg #[.bool s, .slice A n c], .int .u32 v] w (Ans (.tuple #[.agg #[.int .u64 T2, .int .u32 R2, .int .u32 V2], .bool k2]) w)) (w : World) :
    Calls Try.prog 14 #[.int .u64 base, .agg #[.int .i64 dh, .int .u64 dl], .int .u32 q, .agg #[.int .u64 t, .int .u32 r, .int .u32 v], .int .u64 a] w (Ans (.bool true) w) := by
  have e1 := up32 r0 r1
  have HD := hid hd
  have R0 := hid (And.intro r0 (show r ≤ 18446744073709551615 by omega))
  have A0 := hid (And.intro a0 a1)
  have HA := hid hA
  have HB := hid hB
  have HM := hid hM
  have HC := hid hC
  clear hd r0 r1 a0 a1 hA hB hM hC
  go_enter Try.func14, Try.ntmps14
  go_wp2_with fail
  refine (Law4.awake _).mono ?_
  rintro e w1 ⟨rfl, hb1⟩
  have V1 : Hid (Vs w [(w.heap.size + 1, [.int .u64 t, .int .u32 r, .int .u32 v]), (w.heap.size, [.int .i64 dh, .int .u64 dl])] w1) := hid (Vs.below (Vs.more (Vs.more (Vs.nil (((Below.refl _ _).alloc (Nat.le_refl _) _).alloc (by simp) _)) ((Cs.new2 _ _ _ _).alloc _)) (by have := Cs.new3 (w.alloc (.cells #[.int .i64 dh, .int .u64 dl] 29)) 75 (.int .u64 t) (.int .u32 r) (.int .u32 v); simpa using this)) hb1)
  clear hb1
  have x0 := (V1.out.at 1 rfl).at0
  have x1 := (V1.out.at 1 rfl).at1
  have xz := (V1.out.at 1 rfl).lt
  go_wp2_with fail
  refine (HA.out dh dl HD.out _).mono ?_
  rintro e w2 ⟨rfl, hb2⟩
  have V2 := hid (V1.out.below hb2)
  clear hb2 V1 x0 x1 xz
  have x0 := (V2.out.at 1 rfl).at0
  have x1 := (V2.out.at 1 rfl).at1
  have xz := (V2.out.at 1 rfl).lt
  go_wp2_with fail
  refine (Law.of dh dl d HD.out _).mono ?_
  rintro e w3 ⟨s3, A3, n3, c3, rfl, hB3, hb3⟩
  have H3 := hid hB3
  have V3 : Hid (Vs w [(w2.heap.size, [.int .u64 T, .int .u32 R, .int .u32 V]), (w.heap.size + 1, [.int .u64 t, .int .u32 r, .int .u32 v]), (w.heap.size, [.int .i64 dh, .int .u64 dl])] w3) := hid (Vs.below (Vs.more (V2.out.alloc _) (Cs.new3 w2 75 (.int .u64 T) (.int .u32 R) (.int .u32 V))) hb3)
  clear hB3 hb3 V2 x0 x1 xz
  go_wp2_with fail
  refine (HB.out s3 A3 n3 c3 _ H3.out).mono ?_
  rintro e w4 ⟨rfl, hb4⟩
  have V4 := hid (V3.out.below hb4)
  clear hb4 V3 H3
  have x0 := (V4.out.at 1 rfl).at0
  have x1 := (V4.out.at 1 rfl).at1
  have x2 := (V4.out.at 1 rfl).at2
  have xz := (V4.out.at 1 rfl).lt
  go_wp2_with fail
  refine (HM.out _).mono ?_
  rintro e w5 ⟨rfl, hb5⟩
  have V5 : Hid (Vs w [(w4.heap.size, [.int .u64 T, .int .u32 R, .int .u32 V]), (w2.heap.size, [.int .u64 T, .int .u32 R, .int .u32 V]), (w.heap.size + 1, [.int .u64 t, .int .u32 r, .int .u32 v]), (w.heap.size, [.int .i64 dh, .int .u64 dl])] w5) := hid (Vs.below (Vs.more (V4.out.alloc _) (Cs.new3 w4 78 (.int .u64 T) (.int .u32 R) (.int .u32 V))) hb5)
  clear hb5 V4 x0 x1 x2 xz
  have V6 : Hid (Vs w [(w5.heap.size, [.int .u64 T2, .int .u32 R2, .int .u32 V2]), (w4.heap.size, [.int .u64 T, .int .u32 R, .int .u32 V]), (w2.heap.size, [.int .u64 T, .int .u32 R, .int .u32 V]), (w.heap.size + 1, [.int .u64 t, .int .u32 r, .int .u32 v]), (w.heap.size, [.int .i64 dh, .int .u64 dl])] (w5.alloc (.cells #[.int .u64 T2, .int .u32 R2, .int .u32 V2] 75))) := hid (Vs.more (V5.out.alloc _) (Cs.new3 w5 75 (.int .u64 T2) (.int .u32 R2) (.int .u32 V2)))
  have z5 : w4.heap.size < w5.heap.size := (V5.out.at 0 rfl).lt
  have z2 : w2.heap.size < w5.heap.size := (V5.out.at 1 rfl).lt
  have z1 : w.heap.size + 1 < w5.heap.size := (V5.out.at 2 rfl).lt
  clear V5
  go_upto_region 6 with fail
  generalize w5.alloc (.cells #[.int .u64 T2, .int .u32 R2, .int .u32 V2] 75) = w6 at *
  have HLT := hid (show ∀ g, w5.heap.size < g → ∀ x ∈ ([(w5.heap.size, [.int .u64 T2, .int .u32 R2, .int .u32 V2]), (w4.heap.size, [.int .u64 T, .int .u32 R, .int .u32 V]), (w2.heap.size, [.int .u64 T, .int .u32 R, .int .u32 V]), (w.heap.size + 1, [.int .u64 t, .int .u32 r, .int .u32 v]), (w.heap.size, [.int .i64 dh, .int .u64 dl])] : List (Nat × List Value)), x.1 < g from fun g hg x hx => by
    simp only [List.mem_cons, List.not_mem_nil, or_false] at hx
    rcases hx with rfl | rfl | rfl | rfl | rfl <;> dsimp only <;> omega)
  go_cut [17, 18] (fun p q wc => ∃ g : Nat, p = .pointer (some ⟨g, 0, none⟩) ∧ q = .bool k2 ∧ w5.heap.size < g ∧ Cs wc g [.int .u64 T2, .int .u32 R2, .int .u32 V2] ∧ Vs w [(w5.heap.size, [.int .u64 T2, .int .u32 R2, .int .u32 V2]), (w4.heap.size, [.int .u64 T, .int .u32 R, .int .u32 V]), (w2.heap.size, [.int .u64 T, .int .u32 R, .int .u32 V]), (w.heap.size + 1, [.int .u64 t, .int .u32 r, .int .u32 v]), (w.heap.size, [.int .i64 dh, .int .u64 dl])] wc)
  case first =>
    have see : Hid (∀ W, Vs w [(w5.heap.size, [.int .u64 T2, .int .u32 R2, .int .u32 V2]), (w4.heap.size, [.int .u64 T, .int .u32 R, .int .u32 V]), (w2.heap.size, [.int .u64 T, .int .u32 R, .int .u32 V]), (w.heap.size + 1, [.int .u64 t, .int .u32 r, .int .u32 v]), (w.heap.size, [.int .i64 dh, .int .u64 dl])] W → (W.cell? ⟨w.heap.size + 1, 0, none⟩ = some (.int .u64 t) ∧ W.cell? ⟨w.heap.size + 1, 1, none⟩ = some (.int .u32 r) ∧ W.cell? ⟨w.heap.size + 1, 2, none⟩ = some (.int .u32 v)) ∧ Vs w [(w5.heap.size, [.int .u64 T2, .int .u32 R2, .int .u32 V2]), (w4.heap.size, [.int .u64 T, .int .u32 R, .int .u32 V]), (w2.heap.size, [.int .u64 T, .int .u32 R, .int .u32 V]), (w.heap.size + 1, [.int .u64 t, .int .u32 r, .int .u32 v]), (w.heap.size, [.int .i64 dh, .int .u64 dl])] W) := hid fun W h => ⟨⟨(h.at 3 rfl).at0, (h.at 3 rfl).at1, (h.at 3 rfl).at2⟩, h⟩
    have z6 : w5.heap.size < w6.heap.size := (V6.out.at 0 rfl).lt
    go_region_held3 (fun w' => (w'.cell? ⟨w.heap.size + 1, 0, none⟩ = some (.int .u64 t) ∧ w'.cell? ⟨w.heap.size + 1, 1, none⟩ = some (.int .u32 r) ∧ w'.cell? ⟨w.heap.size + 1, 2, none⟩ = some (.int .u32 v)) ∧ Vs w [(w5.heap.size, [.int .u64 T2, .int .u32 R2, .int .u32 V2]), (w4.heap.size, [.int .u64 T, .int .u32 R, .int .u32 V]), (w2.heap.size, [.int .u64 T, .int .u32 R, .int .u32 V]), (w.heap.size + 1, [.int .u64 t, .int .u32 r, .int .u32 v]), (w.heap.size, [.int .i64 dh, .int .u64 dl])] w')
      (first | with_reducible exact see.out _ V6.out.drew | ((try dsimp only); refine see.out _ ?_; repeat (first | with_reducible exact V6.out | with_reducible exact hQ10.out | with_reducible exact hQ9.out | with_reducible exact hQ8.out | with_reducible exact hQ7.out | with_reducible refine Vs.drew ?_ | with_reducible refine Vs.alloc ?_ _ | with_reducible refine Vs.far ?_ (HLT.out _ (by omega)) (by omega) _ _)))
      (first
        | (go_at_call_of 34 (Value.int .u64 a); refine (Ref.U a A0.out.1 A0.out.2 _).mono ?_; rintro e w7 ⟨s7, A7, n7, c7, rfl, hB, hb7⟩; have hQ7 := hid ((And.right (by assumption : (_ ∧ _ ∧ _) ∧ Vs w [(w5.heap.size, [.int .u64 T2, .int .u32 R2, .int .u32 V2]), (w4.heap.size, [.int .u64 T, .int .u32 R, .int .u32 V]), (w2.heap.size, [.int .u64 T, .int .u32 R, .int .u32 V]), (w.heap.size + 1, [.int .u64 t, .int .u32 r, .int .u32 v]), (w.heap.size, [.int .i64 dh, .int .u64 dl])] _)).below hb7); have H7 := hid hB; clear hB; (try (have F := hid (Cs.below (by first | with_reducible exact F.out | with_reducible exact Cs.new3 _ _ _ _ _ | with_reducible exact Cs.drew (Cs.new3 _ _ _ _ _) | with_reducible exact Cs.alloc F.out _) hb7); have F0 := F.out.at0; have F1 := F.out.at1; have F2 := F.out.at2; have F3 := F.out.fr0; have F4 := F.out.fr1; have F5 := F.out.fr2; have F6 := F.out.lt)); (have G := (hQ7.out.at 0 rfl).lt); (have G' := (hQ7.out.at 3 rfl).lt))
        | (go_at_call_of 34 (Value.int .u64 r); refine (Ref.U r R0.out.1 R0.out.2 _).mono ?_; rintro e w8 ⟨s8, A8, n8, c8, rfl, hB, hb8⟩; have hQ8 := hid ((And.right (by assumption : (_ ∧ _ ∧ _) ∧ Vs w [(w5.heap.size, [.int .u64 T2, .int .u32 R2, .int .u32 V2]), (w4.heap.size, [.int .u64 T, .int .u32 R, .int .u32 V]), (w2.heap.size, [.int .u64 T, .int .u32 R, .int .u32 V]), (w.heap.size + 1, [.int .u64 t, .int .u32 r, .int .u32 v]), (w.heap.size, [.int .i64 dh, .int .u64 dl])] _)).below hb8); have H8 := hid hB; (first | (have H7' := hid (H7.out.below hb8)) | (have H7' := hid ((H7.out.alloc _).below hb8))); clear hB; (try (have F := hid (Cs.below (by first | with_reducible exact F.out | with_reducible exact Cs.new3 _ _ _ _ _ | with_reducible exact Cs.drew (Cs.new3 _ _ _ _ _) | with_reducible exact Cs.alloc F.out _) hb8); have F0 := F.out.at0; have F1 := F.out.at1; have F2 := F.out.at2; have F3 := F.out.fr0; have F4 := F.out.fr1; have F5 := F.out.fr2; have F6 := F.out.lt)); (have G := (hQ8.out.at 0 rfl).lt); (have G' := (hQ8.out.at 3 rfl).lt))
        | (go_at_call 19; refine (Ref.add 5 s7 s8 A7 A8 n7 c7 n8 c8 _ _ _ (by first | exact H7'.out | exact H7'.out.alloc _) (by first | exact H8.out | exact H8.out.alloc _) (by decide)).mono ?_; rintro e w9 ⟨s9, A9, n9, c9, rfl, hB, hb9⟩; have hQ9 := hid ((And.right (by assumption : (_ ∧ _ ∧ _) ∧ Vs w [(w5.heap.size, [.int .u64 T2, .int .u32 R2, .int .u32 V2]), (w4.heap.size, [.int .u64 T, .int .u32 R, .int .u32 V]), (w2.heap.size, [.int .u64 T, .int .u32 R, .int .u32 V]), (w.heap.size + 1, [.int .u64 t, .int .u32 r, .int .u32 v]), (w.heap.size, [.int .i64 dh, .int .u64 dl])] _)).below hb9); have H9 := hid (hB.mono (show 5 + 1 ≤ 18 by decide)); clear hB; (try (have F := hid (Cs.below (by first | with_reducible exact F.out | with_reducible exact Cs.new3 _ _ _ _ _ | with_reducible exact Cs.drew (Cs.new3 _ _ _ _ _) | with_reducible exact Cs.alloc F.out _) hb9); have F0 := F.out.at0; have F1 := F.out.at1; have F2 := F.out.at2; have F3 := F.out.fr0; have F4 := F.out.fr1; have F5 := F.out.fr2; have F6 := F.out.lt)); (have G := (hQ9.out.at 0 rfl).lt); (have G' := (hQ9.out.at 3 rfl).lt))
        | (go_at_call 63; refine (HC.out s9 A9 n9 c9 _ (by first | exact H9.out | exact H9.out.alloc _)).mono ?_; rintro e w10 ⟨rfl, hb10⟩; have hQ10 := hid ((And.right (by assumption : (_ ∧ _ ∧ _) ∧ Vs w [(w5.heap.size, [.int .u64 T2, .int .u32 R2, .int .u32 V2]), (w4.heap.size, [.int .u64 T, .int .u32 R, .int .u32 V]), (w2.heap.size, [.int .u64 T, .int .u32 R, .int .u32 V]), (w.heap.size + 1, [.int .u64 t, .int .u32 r, .int .u32 v]), (w.heap.size, [.int .i64 dh, .int .u64 dl])] _)).below hb10); (try (have F := hid (Cs.below (by first | with_reducible exact F.out | with_reducible exact Cs.new3 _ _ _ _ _ | with_reducible exact Cs.drew (Cs.new3 _ _ _ _ _) | with_reducible exact Cs.alloc F.out _) hb10); have F0 := F.out.at0; have F1 := F.out.at1; have F2 := F.out.at2; have F3 := F.out.fr0; have F4 := F.out.fr1; have F5 := F.out.fr2; have F6 := F.out.lt)); (have G := (hQ10.out.at 0 rfl).lt); (have G' := (hQ10.out.at 3 rfl).lt)))
    all_goals
      go_wp2_with fail
      go_meet
      refine ⟨_, rfl, rfl, ?_, ?_, And.right (by assumption : (_ ∧ _ ∧ _) ∧ Vs w [(w5.heap.size, [.int .u64 T2, .int .u32 R2, .int .u32 V2]), (w4.heap.size, [.int .u64 T, .int .u32 R, .int .u32 V]), (w2.heap.size, [.int .u64 T, .int .u32 R, .int .u32 V]), (w.heap.size + 1, [.int .u64 t, .int .u32 r, .int .u32 v]), (w.heap.size, [.int .i64 dh, .int .u64 dl])] _)⟩
      all_goals first
        | omega
        | with_reducible exact Cs.new3 _ _ _ _ _
        | with_reducible exact Cs.put3 F.out _ _ _
        | with_reducible exact Cs.put3 (Cs.new3 _ _ _ _ _) _ _ _
        | with_reducible exact Cs.put3 (Cs.drew (Cs.new3 _ _ _ _ _)) _ _ _
        | with_reducible exact Cs.put3 (Cs.drew F.out) _ _ _
  case rest =>
    obtain ⟨g, rfl, rfl, hg, hcs, hV⟩ := hcut
    have V7 : Hid (Vs w [(g, [.int .u64 T2, .int .u32 R2, .int .u32 V2]), (w5.heap.size, [.int .u64 T2, .int .u32 R2, .int .u32 V2]), (w4.heap.size, [.int .u64 T, .int .u32 R, .int .u32 V]), (w2.heap.size, [.int .u64 T, .int .u32 R, .int .u32 V])] _) := hid (Vs.more (Vs.more (Vs.more (Vs.more (Vs.nil hV.2) (hV.at 2 rfl)) (hV.at 1 rfl)) (hV.at 0 rfl)) hcs)
    have see : Hid (∀ W, Vs w [(g, [.int .u64 T2, .int .u32 R2, .int .u32 V2]), (w5.heap.size, [.int .u64 T2, .int .u32 R2, .int .u32 V2]), (w4.heap.size, [.int .u64 T, .int .u32 R, .int .u32 V]), (w2.heap.size, [.int .u64 T, .int .u32 R, .int .u32 V])] W → ((W.cell? ⟨g, 0, none⟩ = some (.int .u64 T2) ∧ W.cell? ⟨g, 1, none⟩ = some (.int .u32 R2) ∧ W.cell? ⟨g, 2, none⟩ = some (.int .u32 V2)) ∧ (W.cell? ⟨w5.heap.size, 0, none⟩ = some (.int .u64 T2) ∧ W.cell? ⟨w5.heap.size, 1, none⟩ = some (.int .u32 R2) ∧ W.cell? ⟨w5.heap.size, 2, none⟩ = some (.int .u32 V2)) ∧ (W.cell? ⟨w4.heap.size, 0, none⟩ = some (.int .u64 T) ∧ W.cell? ⟨w4.heap.size, 1, none⟩ = some (.int .u32 R) ∧ W.cell? ⟨w4.heap.size, 2, none⟩ = some (.int .u32 V)) ∧ (W.cell? ⟨w2.heap.size, 0, none⟩ = some (.int .u64 T) ∧ W.cell? ⟨w2.heap.size, 1, none⟩ = some (.int .u32 R) ∧ W.cell? ⟨w2.heap.size, 2, none⟩ = some (.int .u32 V))) ∧ Vs w [(g, [.int .u64 T2, .int .u32 R2, .int .u32 V2]), (w5.heap.size, [.int .u64 T2, .int .u32 R2, .int .u32 V2]), (w4.heap.size, [.int .u64 T, .int .u32 R, .int .u32 V]), (w2.heap.size, [.int .u64 T, .int .u32 R, .int .u32 V])] W) := hid fun W h => ⟨⟨⟨(h.at 0 rfl).at0, (h.at 0 rfl).at1, (h.at 0 rfl).at2⟩, ⟨(h.at 1 rfl).at0, (h.at 1 rfl).at1, (h.at 1 rfl).at2⟩, ⟨(h.at 2 rfl).at0, (h.at 2 rfl).at1, (h.at 2 rfl).at2⟩, ⟨(h.at 3 rfl).at0, (h.at 3 rfl).at1, (h.at 3 rfl).at2⟩⟩, h⟩
    clear hcs hV V6 z1 z2 z5
    go_wp2_with fail
    go_region_held3 (fun w' => ((w'.cell? ⟨g, 0, none⟩ = some (.int .u64 T2) ∧ w'.cell? ⟨g, 1, none⟩ = some (.int .u32 R2) ∧ w'.cell? ⟨g, 2, none⟩ = some (.int .u32 V2)) ∧ (w'.cell? ⟨w5.heap.size, 0, none⟩ = some (.int .u64 T2) ∧ w'.cell? ⟨w5.heap.size, 1, none⟩ = some (.int .u32 R2) ∧ w'.cell? ⟨w5.heap.size, 2, none⟩ = some (.int .u32 V2)) ∧ (w'.cell? ⟨w4.heap.size, 0, none⟩ = some (.int .u64 T) ∧ w'.cell? ⟨w4.heap.size, 1, none⟩ = some (.int .u32 R) ∧ w'.cell? ⟨w4.heap.size, 2, none⟩ = some (.int .u32 V)) ∧ (w'.cell? ⟨w2.heap.size, 0, none⟩ = some (.int .u64 T) ∧ w'.cell? ⟨w2.heap.size, 1, none⟩ = some (.int .u32 R) ∧ w'.cell? ⟨w2.heap.size, 2, none⟩ = some (.int .u32 V))) ∧ Vs w [(g, [.int .u64 T2, .int .u32 R2, .int .u32 V2]), (w5.heap.size, [.int .u64 T2, .int .u32 R2, .int .u32 V2]), (w4.heap.size, [.int .u64 T, .int .u32 R, .int .u32 V]), (w2.heap.size, [.int .u64 T, .int .u32 R, .int .u32 V])] w')
      (first | with_reducible exact see.out _ V7.out.drew | with_reducible exact see.out _ (Vs.below (And.right (by assumption : (_ ∧ _ ∧ _ ∧ _) ∧ Vs w [(g, [.int .u64 T2, .int .u32 R2, .int .u32 V2]), (w5.heap.size, [.int .u64 T2, .int .u32 R2, .int .u32 V2]), (w4.heap.size, [.int .u64 T, .int .u32 R, .int .u32 V]), (w2.heap.size, [.int .u64 T, .int .u32 R, .int .u32 V])] _)) hb11))
      (first
        | (go_at_call_of 56 (Value.agg #[Value.int .u64 T, Value.int .u32 R, Value.int .u32 V]); refine (Law4.of T R V _).mono ?_; rintro e w11 ⟨rfl, hb11⟩)
        | (go_at_call_of 56 (Value.agg #[Value.int .u64 T2, Value.int .u32 R2, Value.int .u32 V2]); refine (Law4.of T2 R2 V2 _).mono ?_; rintro e w11 ⟨rfl, hb11⟩))
    have HFIN := hid (And.right (by assumption : (_ ∧ _ ∧ _ ∧ _) ∧ Vs w [(g, [.int .u64 T2, .int .u32 R2, .int .u32 V2]), (w5.heap.size, [.int .u64 T2, .int .u32 R2, .int .u32 V2]), (w4.heap.size, [.int .u64 T, .int .u32 R, .int .u32 V]), (w2.heap.size, [.int .u64 T, .int .u32 R, .int .u32 V])] w11)).2
    go_wp2
    go_ret
    exact ⟨by simp, HFIN.out⟩

theorem Pat.law (base dh dl q t r v a : Int) (w : World) (w0 : (Lit.int .u64 base).wf = true) (w1 : IsWd dh dl) (w2 : (Lit.int .u32 q).wf = true) (w3 : (0 ≤ t ∧ t ≤ 18446744073709551615) ∧ (0 ≤ r ∧ r ≤ 4294967295) ∧ (0 ≤ v ∧ v ≤ 4294967295)) (w4 : (Lit.int .u64 a).wf = true) :
    Calls Try.prog 14 #[.int .u64 base, .agg #[.int .i64 dh, .int .u64 dl], .int .u32 q, .agg #[.int .u64 t, .int .u32 r, .int .u32 v], .int .u64 a] w fun e w' => e = .returned (.bool true) ∧ Below w.heap.size w w' := by
  obtain ⟨⟨t0, t1⟩, ⟨r0, r1⟩, ⟨v0, v1⟩⟩ := w3
  obtain ⟨T, R, V, k, h1, h2⟩ := At.same base (dh * 18446744073709551616 + dl) q (bounds_u64 w0).1 (bounds_u64 w0).2 (bounds_u32 w2).1 (bounds_u32 w2).2
  obtain ⟨T2, R2, V2, k2, g1, g2⟩ := At.same t (a + r) v t0 t1 v0 v1
  exact Pat.core base dh dl _ q t r v a T R V T2 R2 V2 k k2 w1 r0 r1 (bounds_u64 w4).1 (bounds_u64 w4).2 h1 h2 (fun w => Pos.move_of t r v a r0 r1 (bounds_u64 w4).1 (bounds_u64 w4).2 _ _ _ _ w g1) g2 w

end Go.Proofs.Ytjklcbbanlaicaa

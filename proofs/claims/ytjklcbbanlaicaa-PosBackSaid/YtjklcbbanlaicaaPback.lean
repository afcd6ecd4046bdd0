/- PosBack: the walk. -/
import Derived.Test.YtjklcbbanlaicaaPosE
namespace Go.Proofs.Ytjklcbbanlaicaa
open Go.RowKit

theorem Tri.see9 {w0 w : World} {N M g : Nat} {a b c d e f x y z : Value} (h : Tri w0 N [a, b, c] M [d, e, f] g [x, y, z] w) :
    ((w.cell? ⟨N, 0, none⟩ = some a ∧ w.cell? ⟨N, 1, none⟩ = some b ∧ w.cell? ⟨N, 2, none⟩ = some c) ∧ (w.cell? ⟨M, 0, none⟩ = some d ∧ w.cell? ⟨M, 1, none⟩ = some e ∧ w.cell? ⟨M, 2, none⟩ = some f) ∧ (w.cell? ⟨g, 0, none⟩ = some x ∧ w.cell? ⟨g, 1, none⟩ = some y ∧ w.cell? ⟨g, 2, none⟩ = some z)) ∧ Tri w0 N [a, b, c] M [d, e, f] g [x, y, z] w :=
  ⟨⟨⟨h.1.1.at0, h.1.1.at1, h.1.1.at2⟩, ⟨h.1.2.1.at0, h.1.2.1.at1, h.1.2.1.at2⟩, ⟨h.2.at0, h.2.at1, h.2.at2⟩⟩, h⟩
/-- A slice of two positions that was just laid. -/
theorem RdP.new2 (w : World) (t : TypeId) (a b c d e f : Int) : RdP (w.alloc (.cells #[.int .u64 a, .int .u32 b, .int .u32 c, .int .u64 d, .int .u32 e, .int .u32 f] t)) (some ⟨w.heap.size, 0, none⟩) 2 [(a, b, c), (d, e, f)] :=
  ⟨rfl, fun _ _ => ⟨_, 0, rfl, by simp, fun j hj => by
    rcases j with _ | _ | j
    · simp [go_sem]
    · simp [go_sem]
    · omega⟩⟩

theorem RdP.new2b (w : World) (ob : Obj) (t : TypeId) (a b c d e f : Int) : RdP ((w.alloc ob).alloc (.cells #[.int .u64 a, .int .u32 b, .int .u32 c, .int .u64 d, .int .u32 e, .int .u32 f] t)) (some ⟨w.heap.size + 1, 0, none⟩) 2 [(a, b, c), (d, e, f)] := by
  have h := RdP.new2 (w.alloc ob) t a b c d e f
  simpa using h

set_option maxRecDepth 100000 in
set_option maxHeartbeats 8000000 in
/-- A position that may be, near the base. -/
theorem Back.core (t r v base T1 : Int) (r0 : 0 ≤ r) (r1 : r ≤ 4294967295) (v0 : 0 ≤ v) (v1 : v ≤ 4294967295) (d0 : -4611686018427387904 < dif t base) (d1 : dif t base < 4611686018427387904)
    (hR : (decide (1 ≤ v ∧ v ≤ 1048576) && decide (r < v)) = true)
    (hAt : ∀ h l, IsW h l (dif t base * v + r) → ∀ w, Calls Try.prog 62 #[.int .u64 base, .agg #[.int .i64 h, .int .u64 l], .int .u32 v] w (Ans (.tuple #[(.agg #[.int .u64 t, .int .u32 r, .int .u32 v]), .bool true]) w))
    (hMove : ∀ w, Calls Try.prog 64 #[(.agg #[.int .u64 t, .int .u32 r, .int .u32 v]), .int .u64 v] w (Ans (.tuple #[(.agg #[.int .u64 T1, .int .u32 r, .int .u32 v]), .bool true]) w))
    (hShift : ∀ w, Calls Try.prog 59 #[(.agg #[.int .u64 t, .int .u32 r, .int .u32 v]), .int .u64 1] w (Ans (.agg #[.int .u64 T1, .int .u32 r, .int .u32 v]) w))
    (hC1 : ∀ w, Calls Try.prog 60 #[(.agg #[.int .u64 t, .int .u32 r, .int .u32 v]), (.agg #[.int .u64 T1, .int .u32 r, .int .u32 v])] w (Ans (.int .i64 (-1)) w))
    (hC2 : ∀ w, Calls Try.prog 60 #[(.agg #[.int .u64 t, .int .u32 r, .int .u32 v]), (.agg #[.int .u64 t, .int .u32 r, .int .u32 v])] w (Ans (.int .i64 0) w))
    (hF : ∀ w A c, RdP w A 2 [(t, r, v), (T1, r, v)] → Calls Try.prog 65 #[.int .u64 t, .slice A 2 c] w (Ans (.tuple #[.int .i64 0, .int .i64 1]) w))
    (w : World) :
    Calls Try.prog 17 #[(.agg #[.int .u64 t, .int .u32 r, .int .u32 v]), .int .u64 base] w (Ans (.bool true) w) := by
  have e1 : IntKind.u64.wrap v = v := up32 v0 v1
  have R0 := hid r0
  have R1 := hid r1
  have V0 := hid v0
  have V1 := hid v1
  have HR := hid hR
  have HAt := hid hAt
  have HMove := hid hMove
  have HShift := hid hShift
  have HC1 := hid hC1
  have HC2 := hid hC2
  have HF := hid hF
  clear hR hAt hMove hShift hC1 hC2 hF r0 r1 v0 v1
  go_enter Try.func17, Try.ntmps17
  go_wp2_with fail
  refine (Law4.awake _).mono ?_
  rintro e w1 ⟨rfl, hb1⟩
  have HT1 : Hid (Two w w.heap.size [.int .u64 t, .int .u32 r, .int .u32 v] w.heap.size [.int .u64 t, .int .u32 r, .int .u32 v] w1) := hid (Two.below ⟨Cs.new3 _ _ _ _ _, Cs.new3 _ _ _ _ _, (Below.refl _ _).alloc (Nat.le_refl _) _⟩ hb1)
  clear hb1
  have x0 := HT1.out.1.at0
  have x1 := HT1.out.1.at1
  have x2 := HT1.out.1.at2
  go_wp2_with fail
  refine (Vtime.since t base _).mono ?_
  rintro e w2 ⟨rfl, hb2⟩
  have HT2 := hid (HT1.out.below hb2)
  clear hb2 x0 x1 x2 HT1
  have x0 := HT2.out.1.at0
  have x1 := HT2.out.1.at1
  have x2 := HT2.out.1.at2
  go_wp2_with fail
  refine (Pos.right t r v _).mono ?_
  rintro e w3 ⟨rfl, hb3⟩
  rw [HR.out]
  have HT3 := hid (HT2.out.below hb3)
  clear hb3 x0 x1 x2 HT2
  have z1 := HT3.out.1.lt
  go_wp2_with fail
  go_cut [6, 7] (fun p q wc => ∃ g : Nat, p = .pointer (some ⟨g, 0, none⟩) ∧ q = .bool true ∧ w.heap.size < g ∧ Cs wc g [.int .u64 t, .int .u32 r, .int .u32 v] ∧ Two w w.heap.size [.int .u64 t, .int .u32 r, .int .u32 v] w.heap.size [.int .u64 t, .int .u32 r, .int .u32 v] wc)
  case first =>
    go_region_held3 (fun w' => (w'.cell? ⟨w.heap.size, 0, none⟩ = some (.int .u64 t) ∧ w'.cell? ⟨w.heap.size, 1, none⟩ = some (.int .u32 r) ∧ w'.cell? ⟨w.heap.size, 2, none⟩ = some (.int .u32 v)) ∧ Two w w.heap.size [.int .u64 t, .int .u32 r, .int .u32 v] w.heap.size [.int .u64 t, .int .u32 r, .int .u32 v] w')
      (first | with_reducible exact HT3.out.drew.see | ((try dsimp only); refine Two.see ?_; repeat (first | with_reducible exact HT3.out | with_reducible exact hQ5.out | with_reducible exact hQ4.out | with_reducible refine Two.drew ?_ | with_reducible refine Two.alloc ?_ _ | with_reducible refine Two.far ?_ (by omega) (by omega) (by omega) _ _)))
      (first
        | (go_at_call 57; refine (Pos.distance t r v base R0.out R1.out V0.out V1.out _).mono ?_; rintro e w4 ⟨h4, l4, rfl, hw4, hb4⟩; have hQ4 := hid ((And.right (by assumption : (_ ∧ _ ∧ _) ∧ Two w w.heap.size [.int .u64 t, .int .u32 r, .int .u32 v] w.heap.size [.int .u64 t, .int .u32 r, .int .u32 v] _)).below hb4); have HW4 := hid hw4; clear hw4; (try (have F := hid (Cs.below (by first | with_reducible exact F.out | with_reducible exact Cs.new3 _ _ _ _ _ | with_reducible exact Cs.drew (Cs.new3 _ _ _ _ _) | with_reducible exact Cs.alloc F.out _) hb4); have F0 := F.out.at0; have F1 := F.out.at1; have F2 := F.out.at2; have F3 := F.out.fr0; have F4 := F.out.fr1; have F5 := F.out.fr2; have F6 := F.out.lt)); (have G := hQ4.out.1.lt))
        | (go_at_call 62; refine (HAt.out h4 l4 HW4.out _).mono ?_; rintro e w5 ⟨rfl, hb5⟩; have hQ5 := hid ((And.right (by assumption : (_ ∧ _ ∧ _) ∧ Two w w.heap.size [.int .u64 t, .int .u32 r, .int .u32 v] w.heap.size [.int .u64 t, .int .u32 r, .int .u32 v] _)).below hb5); (try (have F := hid (Cs.below (by first | with_reducible exact F.out | with_reducible exact Cs.new3 _ _ _ _ _ | with_reducible exact Cs.drew (Cs.new3 _ _ _ _ _) | with_reducible exact Cs.alloc F.out _) hb5); have F0 := F.out.at0; have F1 := F.out.at1; have F2 := F.out.at2; have F3 := F.out.fr0; have F4 := F.out.fr1; have F5 := F.out.fr2; have F6 := F.out.lt)); (have G := hQ5.out.1.lt)))
    all_goals
      go_wp2_with fail
      go_meet
      refine ⟨_, rfl, rfl, ?_, ?_, And.right (by assumption : (_ ∧ _ ∧ _) ∧ Two w w.heap.size [.int .u64 t, .int .u32 r, .int .u32 v] w.heap.size [.int .u64 t, .int .u32 r, .int .u32 v] _)⟩
      all_goals first
        | omega
        | with_reducible exact Cs.new3 _ _ _ _ _
        | with_reducible exact Cs.put3 F.out _ _ _
        | with_reducible exact Cs.put3 (Cs.new3 _ _ _ _ _) _ _ _
        | with_reducible exact Cs.put3 (Cs.drew (Cs.new3 _ _ _ _ _)) _ _ _
        | with_reducible exact Cs.put3 (Cs.drew F.out) _ _ _
  case rest =>
    obtain ⟨g, rfl, rfl, hg, hcs, hT⟩ := hcut
    have HT := hid hT
    have HG := hid hcs
    have x0 := hT.1.at0
    have x1 := hT.1.at1
    have x2 := hT.1.at2
    have z2 := hcs.lt
    have z3 := hT.1.lt
    clear hT hcs HT3 z1
    go_wp2_with fail
    refine (HMove.out _).mono ?_
    rintro e w6 ⟨rfl, hb6⟩
    have HT6 : Hid (Two w w.heap.size [.int .u64 t, .int .u32 r, .int .u32 v] g [.int .u64 t, .int .u32 r, .int .u32 v] w6) := hid (Two.below (show Two w w.heap.size [.int .u64 t, .int .u32 r, .int .u32 v] g [.int .u64 t, .int .u32 r, .int .u32 v] _ from ⟨HT.out.1, HG.out, HT.out.2.2⟩) hb6)
    clear hb6 x0 x1 x2 HT HG z2 z3
    have x0 := HT6.out.1.at0
    have x1 := HT6.out.1.at1
    have x2 := HT6.out.1.at2
    have z4 := HT6.out.1.lt
    have z5 := HT6.out.2.1.lt
    go_wp2_with fail
    refine (HF.out _ _ _ (RdP.new2b _ _ _ _ _ _ _ _ _)).mono ?_
    rintro e w8 ⟨rfl, hb8⟩
    have HT8 : Hid (Tri w w.heap.size [.int .u64 t, .int .u32 r, .int .u32 v] g [.int .u64 t, .int .u32 r, .int .u32 v] w6.heap.size [.int .u64 T1, .int .u32 r, .int .u32 v] w8) := hid (Tri.below (Tri.alloc (show Tri w w.heap.size [.int .u64 t, .int .u32 r, .int .u32 v] g [.int .u64 t, .int .u32 r, .int .u32 v] w6.heap.size [.int .u64 T1, .int .u32 r, .int .u32 v] _ from ⟨Two.alloc HT6.out _, Cs.new3 _ _ _ _ _⟩) _) hb8)
    clear hb8 x0 x1 x2 HT6
    go_wp2_with fail
    go_region_held3 (fun w' => ((w'.cell? ⟨w.heap.size, 0, none⟩ = some (.int .u64 t) ∧ w'.cell? ⟨w.heap.size, 1, none⟩ = some (.int .u32 r) ∧ w'.cell? ⟨w.heap.size, 2, none⟩ = some (.int .u32 v)) ∧ (w'.cell? ⟨g, 0, none⟩ = some (.int .u64 t) ∧ w'.cell? ⟨g, 1, none⟩ = some (.int .u32 r) ∧ w'.cell? ⟨g, 2, none⟩ = some (.int .u32 v)) ∧ (w'.cell? ⟨w6.heap.size, 0, none⟩ = some (.int .u64 T1) ∧ w'.cell? ⟨w6.heap.size, 1, none⟩ = some (.int .u32 r) ∧ w'.cell? ⟨w6.heap.size, 2, none⟩ = some (.int .u32 v))) ∧ Tri w w.heap.size [.int .u64 t, .int .u32 r, .int .u32 v] g [.int .u64 t, .int .u32 r, .int .u32 v] w6.heap.size [.int .u64 T1, .int .u32 r, .int .u32 v] w')
      (first | with_reducible exact HT8.out.drew.see9 | with_reducible exact Tri.see9 (Tri.below (And.right (by assumption : (_ ∧ _ ∧ _) ∧ Tri w w.heap.size [.int .u64 t, .int .u32 r, .int .u32 v] g [.int .u64 t, .int .u32 r, .int .u32 v] w6.heap.size [.int .u64 T1, .int .u32 r, .int .u32 v] _)) hb9))
      (first
        | (go_at_call 59; refine (HShift.out _).mono ?_; rintro e w9 ⟨rfl, hb9⟩)
        | (go_at_call_of 60 (Value.agg #[Value.int .u64 T1, Value.int .u32 r, Value.int .u32 v]); refine (HC1.out _).mono ?_; rintro e w9 ⟨rfl, hb9⟩)
        | (go_at_call 60; refine (HC2.out _).mono ?_; rintro e w9 ⟨rfl, hb9⟩))
    have HF9 := hid (And.right (by assumption : (_ ∧ _ ∧ _) ∧ Tri w w.heap.size [.int .u64 t, .int .u32 r, .int .u32 v] g [.int .u64 t, .int .u32 r, .int .u32 v] w6.heap.size [.int .u64 T1, .int .u32 r, .int .u32 v] _)).1.2.2
    go_wp2
    go_ret
    exact ⟨rfl, HF9.out⟩

end Go.Proofs.Ytjklcbbanlaicaa

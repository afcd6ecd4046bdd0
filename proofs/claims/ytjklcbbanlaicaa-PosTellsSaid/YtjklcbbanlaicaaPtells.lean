/- PosTells: the walk. -/
import Derived.Test.YtjklcbbanlaicaaRef4
import Derived.Test.YtjklcbbanlaicaaPosE
namespace Go.Proofs.Ytjklcbbanlaicaa
open Go.RowKit

set_option maxRecDepth 100000 in
set_option maxHeartbeats 8000000 in
theorem Ptells.both (t r v u s y base by' : Int) (t0 : 0 ≤ t) (t1 : t ≤ 18446744073709551615) (r0 : 0 ≤ r) (r1 : r ≤ 4294967295) (v0 : 0 ≤ v) (v1 : v ≤ 4294967295) (u0 : 0 ≤ u) (u1 : u ≤ 18446744073709551615) (s0 : 0 ≤ s) (s1 : s ≤ 4294967295) (y0 : 0 ≤ y) (y1 : y ≤ 4294967295) (b0 : 0 ≤ base) (b1 : base ≤ 18446744073709551615)
    (hp : (decide (1 ≤ v ∧ v ≤ 1048576) && decide (r < v)) = true) (hq : (decide (1 ≤ y ∧ y ≤ 1048576) && decide (s < y)) = true) (w : World) :
    Calls Try.prog 13 #[.agg #[.int .u64 t, .int .u32 r, .int .u32 v], .agg #[.int .u64 u, .int .u32 s, .int .u32 y], .int .u64 base, .int .u64 by'] w (Ans (.bool true) w) := by
  have T0 := hid (And.intro t0 t1)
  have R0 := hid (And.intro r0 r1)
  have V0 := hid (And.intro v0 v1)
  have U0 := hid (And.intro u0 u1)
  have S0 := hid (And.intro s0 s1)
  have Y0 := hid (And.intro y0 y1)
  have B0 := hid (And.intro b0 b1)
  have HP := hid hp
  have HQ := hid hq
  clear t0 t1 r0 r1 v0 v1 u0 u1 s0 s1 y0 y1 b0 b1 hp hq
  go_enter Try.func13, Try.ntmps13
  go_wp2_with fail
  refine (Law4.awake _).mono ?_
  rintro e w1 ⟨rfl, hb1⟩
  have HT1 : Hid (Two w w.heap.size [.int .u64 t, .int .u32 r, .int .u32 v] (w.heap.size + 1) [.int .u64 u, .int .u32 s, .int .u32 y] w1) := hid (Two.below ⟨(Cs.new3 _ _ _ _ _).alloc _, by have := Cs.new3 (w.alloc (.cells #[.int .u64 t, .int .u32 r, .int .u32 v] 75)) 75 (.int .u64 u) (.int .u32 s) (.int .u32 y); simpa using this, ((Below.refl _ _).alloc (Nat.le_refl _) _).alloc (by simp) _⟩ hb1)
  clear hb1
  go_wp2_with fail
  go_region_held3 (fun w' => ((w'.cell? ⟨w.heap.size, 0, none⟩ = some (.int .u64 t) ∧ w'.cell? ⟨w.heap.size, 1, none⟩ = some (.int .u32 r) ∧ w'.cell? ⟨w.heap.size, 2, none⟩ = some (.int .u32 v)) ∧ (w'.cell? ⟨w.heap.size + 1, 0, none⟩ = some (.int .u64 u) ∧ w'.cell? ⟨w.heap.size + 1, 1, none⟩ = some (.int .u32 s) ∧ w'.cell? ⟨w.heap.size + 1, 2, none⟩ = some (.int .u32 y))) ∧ Two w w.heap.size [.int .u64 t, .int .u32 r, .int .u32 v] (w.heap.size + 1) [.int .u64 u, .int .u32 s, .int .u32 y] w')
    (first | with_reducible exact HT1.out.drew.see6 | with_reducible exact Two.see6 ((And.right (by assumption : (_ ∧ _) ∧ Two w w.heap.size [.int .u64 t, .int .u32 r, .int .u32 v] (w.heap.size + 1) [.int .u64 u, .int .u32 s, .int .u32 y] _)).below hb2))
    (first
      | (go_at_call 54; refine (Pos.right t r v _).mono ?_; rintro e w2 ⟨rfl, hb2⟩; rw [HP.out])
      | (go_at_call 56; refine (Law4.of t r v _).mono ?_; rintro e w3 ⟨rfl, hb2⟩; (try (have HW5' := hid HW5.out)); (try (have HD := hid hb2)))
      | (go_at_call 55; refine (Ref4.right t r v _).mono ?_; rintro e w4 ⟨rfl, hb2⟩; rw [HP.out])
      | (go_at_call 57; refine (Pos.distance t r v base R0.out.1 R0.out.2 V0.out.1 V0.out.2 _).mono ?_; rintro e w5 ⟨h5, l5, rfl, hw5, hb2⟩; have HW5 := hid hw5; clear hw5)
      | (go_at_call 58; refine (Ref4.distance t r v base T0.out.1 T0.out.2 R0.out.1 R0.out.2 V0.out.1 V0.out.2 B0.out.1 B0.out.2 _).mono ?_; rintro e w6 ⟨s6, A6, n6, c6, rfl, hB, hb2⟩; have H6 := hid hB; clear hB)
      | (go_at_call 23; refine (Law.same 77 (by decide) h5 l5 _ HW5.out s6 A6 n6 c6 _ _ H6.out true ⟨fun _ => rfl, fun _ => rfl⟩).mono ?_; rintro e w7 ⟨rfl, hb2⟩))
  have HT7 := hid (And.right (by assumption : (_ ∧ _) ∧ Two w w.heap.size [.int .u64 t, .int .u32 r, .int .u32 v] (w.heap.size + 1) [.int .u64 u, .int .u32 s, .int .u32 y] w7))
  have p0 := HT7.out.1.at0
  have p1 := HT7.out.1.at1
  have p2 := HT7.out.1.at2
  go_wp2_with fail
  refine (Pos.shift t r v by' _).mono ?_
  rintro e w8 ⟨rfl, hb8⟩
  have HT8 := hid (HT7.out.below hb8)
  clear hb8 p0 p1 p2 HT7
  have p0 := HT8.out.1.at0
  have p1 := HT8.out.1.at1
  have p2 := HT8.out.1.at2
  have pz := HT8.out.1.lt
  go_wp2_with fail
  obtain ⟨W9, hW⟩ : ∃ W9, W9 = w8.alloc (.cells #[.int .u64 (IntKind.u64.wrap (t + by')), .int .u32 r, .int .u32 v] 75) := ⟨_, rfl⟩
  rw [← hW]
  have HT9 : Hid (Two w w.heap.size [.int .u64 t, .int .u32 r, .int .u32 v] (w.heap.size + 1) [.int .u64 u, .int .u32 s, .int .u32 y] W9) := hid (by rw [hW]; exact HT8.out.alloc _)
  clear hW p0 p1 p2 pz HT8
  go_region_held3 (fun w' => ((w'.cell? ⟨w.heap.size, 0, none⟩ = some (.int .u64 t) ∧ w'.cell? ⟨w.heap.size, 1, none⟩ = some (.int .u32 r) ∧ w'.cell? ⟨w.heap.size, 2, none⟩ = some (.int .u32 v)) ∧ (w'.cell? ⟨w.heap.size + 1, 0, none⟩ = some (.int .u64 u) ∧ w'.cell? ⟨w.heap.size + 1, 1, none⟩ = some (.int .u32 s) ∧ w'.cell? ⟨w.heap.size + 1, 2, none⟩ = some (.int .u32 y))) ∧ Two w w.heap.size [.int .u64 t, .int .u32 r, .int .u32 v] (w.heap.size + 1) [.int .u64 u, .int .u32 s, .int .u32 y] w')
    (first | with_reducible exact HT9.out.drew.see6 | with_reducible exact Two.see6 ((And.right (by assumption : (_ ∧ _) ∧ Two w w.heap.size [.int .u64 t, .int .u32 r, .int .u32 v] (w.heap.size + 1) [.int .u64 u, .int .u32 s, .int .u32 y] _)).below hb3))
    (first
      | (go_at_call_of 56 (Value.agg #[Value.int .u64 t, Value.int .u32 r, Value.int .u32 v]); refine (Law4.of t r v _).mono ?_; rintro e w10 ⟨rfl, hb3⟩)
      | (go_at_call_of 56 (Value.agg #[Value.int .u64 u, Value.int .u32 s, Value.int .u32 y]); refine (Law4.of u s y _).mono ?_; rintro e w10 ⟨rfl, hb3⟩)
      | (go_at_call_of 55 (Value.agg #[Value.int .u64 t, Value.int .u32 r, Value.int .u32 v]); refine (Ref4.right t r v _).mono ?_; rintro e w10 ⟨rfl, hb3⟩; rw [HP.out])
      | (go_at_call_of 55 (Value.agg #[Value.int .u64 u, Value.int .u32 s, Value.int .u32 y]); refine (Ref4.right u s y _).mono ?_; rintro e w10 ⟨rfl, hb3⟩; rw [HQ.out])
      | (go_at_call 60; refine (Pos.cmp t r v u s y R0.out.1 R0.out.2 V0.out.1 V0.out.2 S0.out.1 S0.out.2 Y0.out.1 Y0.out.2 _).mono ?_; rintro e w10 ⟨rfl, hb3⟩)
      | (go_at_call 61; refine (Ref4.cmp t r v u s y T0.out.1 T0.out.2 R0.out.1 R0.out.2 V0.out.1 V0.out.2 U0.out.1 U0.out.2 S0.out.1 S0.out.2 Y0.out.1 Y0.out.2 _).mono ?_; rintro e w10 ⟨rfl, hb3⟩))
  have HFIN := hid (And.right (by assumption : (_ ∧ _) ∧ Two w w.heap.size [.int .u64 t, .int .u32 r, .int .u32 v] (w.heap.size + 1) [.int .u64 u, .int .u32 s, .int .u32 y] _)).2.2
  go_wp2
  go_ret
  exact ⟨by simp, HFIN.out⟩

set_option maxRecDepth 100000 in
set_option maxHeartbeats 8000000 in
theorem Ptells.not (bq : Bool) (t r v u s y base by' : Int) (t0 : 0 ≤ t) (t1 : t ≤ 18446744073709551615) (r0 : 0 ≤ r) (r1 : r ≤ 4294967295) (v0 : 0 ≤ v) (v1 : v ≤ 4294967295) (u0 : 0 ≤ u) (u1 : u ≤ 18446744073709551615) (s0 : 0 ≤ s) (s1 : s ≤ 4294967295) (y0 : 0 ≤ y) (y1 : y ≤ 4294967295) (b0 : 0 ≤ base) (b1 : base ≤ 18446744073709551615)
    (hp : (decide (1 ≤ v ∧ v ≤ 1048576) && decide (r < v)) = false) (hq : (decide (1 ≤ y ∧ y ≤ 1048576) && decide (s < y)) = bq) (w : World) :
    Calls Try.prog 13 #[.agg #[.int .u64 t, .int .u32 r, .int .u32 v], .agg #[.int .u64 u, .int .u32 s, .int .u32 y], .int .u64 base, .int .u64 by'] w (Ans (.bool true) w) := by
  have T0 := hid (And.intro t0 t1)
  have R0 := hid (And.intro r0 r1)
  have V0 := hid (And.intro v0 v1)
  have U0 := hid (And.intro u0 u1)
  have S0 := hid (And.intro s0 s1)
  have Y0 := hid (And.intro y0 y1)
  have B0 := hid (And.intro b0 b1)
  have HP := hid hp
  have HQ := hid hq
  clear t0 t1 r0 r1 v0 v1 u0 u1 s0 s1 y0 y1 b0 b1 hp hq
  go_enter Try.func13, Try.ntmps13
  go_wp2_with fail
  refine (Law4.awake _).mono ?_
  rintro e w1 ⟨rfl, hb1⟩
  have HT1 : Hid (Two w w.heap.size [.int .u64 t, .int .u32 r, .int .u32 v] (w.heap.size + 1) [.int .u64 u, .int .u32 s, .int .u32 y] w1) := hid (Two.below ⟨(Cs.new3 _ _ _ _ _).alloc _, by have := Cs.new3 (w.alloc (.cells #[.int .u64 t, .int .u32 r, .int .u32 v] 75)) 75 (.int .u64 u) (.int .u32 s) (.int .u32 y); simpa using this, ((Below.refl _ _).alloc (Nat.le_refl _) _).alloc (by simp) _⟩ hb1)
  clear hb1
  go_wp2_with fail
  go_region_held3 (fun w' => ((w'.cell? ⟨w.heap.size, 0, none⟩ = some (.int .u64 t) ∧ w'.cell? ⟨w.heap.size, 1, none⟩ = some (.int .u32 r) ∧ w'.cell? ⟨w.heap.size, 2, none⟩ = some (.int .u32 v)) ∧ (w'.cell? ⟨w.heap.size + 1, 0, none⟩ = some (.int .u64 u) ∧ w'.cell? ⟨w.heap.size + 1, 1, none⟩ = some (.int .u32 s) ∧ w'.cell? ⟨w.heap.size + 1, 2, none⟩ = some (.int .u32 y))) ∧ Two w w.heap.size [.int .u64 t, .int .u32 r, .int .u32 v] (w.heap.size + 1) [.int .u64 u, .int .u32 s, .int .u32 y] w')
    (first | with_reducible exact HT1.out.drew.see6 | with_reducible exact Two.see6 ((And.right (by assumption : (_ ∧ _) ∧ Two w w.heap.size [.int .u64 t, .int .u32 r, .int .u32 v] (w.heap.size + 1) [.int .u64 u, .int .u32 s, .int .u32 y] _)).below hb2))
    (first
      | (go_at_call 54; refine (Pos.right t r v _).mono ?_; rintro e w2 ⟨rfl, hb2⟩; rw [HP.out])
      | (go_at_call 56; refine (Law4.of t r v _).mono ?_; rintro e w3 ⟨rfl, hb2⟩; (try (have HW5' := hid HW5.out)); (try (have HD := hid hb2)))
      | (go_at_call 55; refine (Ref4.right t r v _).mono ?_; rintro e w4 ⟨rfl, hb2⟩; rw [HP.out])
      | (go_at_call 57; refine (Pos.distance t r v base R0.out.1 R0.out.2 V0.out.1 V0.out.2 _).mono ?_; rintro e w5 ⟨h5, l5, rfl, hw5, hb2⟩; have HW5 := hid hw5; clear hw5)
      | (go_at_call 58; refine (Ref4.distance t r v base T0.out.1 T0.out.2 R0.out.1 R0.out.2 V0.out.1 V0.out.2 B0.out.1 B0.out.2 _).mono ?_; rintro e w6 ⟨s6, A6, n6, c6, rfl, hB, hb2⟩; have H6 := hid hB; clear hB)
      | (go_at_call 23; refine (Law.same 77 (by decide) h5 l5 _ HW5.out s6 A6 n6 c6 _ _ H6.out true ⟨fun _ => rfl, fun _ => rfl⟩).mono ?_; rintro e w7 ⟨rfl, hb2⟩))
  have HT7 := hid (And.right (by assumption : (_ ∧ _) ∧ Two w w.heap.size [.int .u64 t, .int .u32 r, .int .u32 v] (w.heap.size + 1) [.int .u64 u, .int .u32 s, .int .u32 y] w7))
  have p0 := HT7.out.1.at0
  have p1 := HT7.out.1.at1
  have p2 := HT7.out.1.at2
  go_wp2_with fail
  refine (Pos.shift t r v by' _).mono ?_
  rintro e w8 ⟨rfl, hb8⟩
  have HT8 := hid (HT7.out.below hb8)
  clear hb8 p0 p1 p2 HT7
  have p0 := HT8.out.1.at0
  have p1 := HT8.out.1.at1
  have p2 := HT8.out.1.at2
  have pz := HT8.out.1.lt
  go_wp2_with fail
  obtain ⟨W9, hW⟩ : ∃ W9, W9 = w8.alloc (.cells #[.int .u64 (IntKind.u64.wrap (t + by')), .int .u32 r, .int .u32 v] 75) := ⟨_, rfl⟩
  rw [← hW]
  have HT9 : Hid (Two w w.heap.size [.int .u64 t, .int .u32 r, .int .u32 v] (w.heap.size + 1) [.int .u64 u, .int .u32 s, .int .u32 y] W9) := hid (by rw [hW]; exact HT8.out.alloc _)
  clear hW p0 p1 p2 pz HT8
  refine wp_region_held_drew (S := (fun w' => ((w'.cell? ⟨w.heap.size, 0, none⟩ = some (.int .u64 t) ∧ w'.cell? ⟨w.heap.size, 1, none⟩ = some (.int .u32 r) ∧ w'.cell? ⟨w.heap.size, 2, none⟩ = some (.int .u32 v)) ∧ (w'.cell? ⟨w.heap.size + 1, 0, none⟩ = some (.int .u64 u) ∧ w'.cell? ⟨w.heap.size + 1, 1, none⟩ = some (.int .u32 s) ∧ w'.cell? ⟨w.heap.size + 1, 2, none⟩ = some (.int .u32 y))) ∧ Two w w.heap.size [.int .u64 t, .int .u32 r, .int .u32 v] (w.heap.size + 1) [.int .u64 u, .int .u32 s, .int .u32 y] w')) (by kernel_rfl) HT9.out.drew.see6 (fun hHeld => ?_)
  refine wpAnyH_take (i := 0) (v := ?_) rfl (by kernel_rfl) (by kernel_rfl) (by kernel_rfl) (fun _ _ _ h => h) (Or.inl ⟨by rfl, ?_⟩) (by assumption) ?_
  rotate_left
  · intro w hSw; (try dsimp only at hSw); go_simp; (try with_reducible rfl)
  try simp only [List.getElem_toArray, List.getElem_cons_zero, List.getElem_cons_succ, Act.put, List.setIfInBounds_toArray, List.set_cons_zero, List.set_cons_succ]
  refine wpAnyH_ready (rs := [1]) (by kernel_rfl) (by simp) ?_
  refine AllReadyH.cons rfl (fun K hK => ?_) AllReadyH.nil
  go_simp
  go_at_call 56
  refine (Law4.of t r v _).mono ?_
  rintro e w10 ⟨rfl, hb3⟩
  refine hK.out _ _ ?_ (fun hHeld => ?_)
  · exact Two.see6 (Two.below hHeld.2 hb3)
  clear hK K
  try simp only [List.getElem_toArray, List.getElem_cons_zero, List.getElem_cons_succ, Act.put, List.setIfInBounds_toArray, List.set_cons_zero, List.set_cons_succ]
  refine wpAnyH_ready (rs := [2]) (by kernel_rfl) (by simp) ?_
  refine AllReadyH.cons rfl (fun K hK => ?_) AllReadyH.nil
  go_simp
  go_at_call 55
  refine (Ref4.right t r v _).mono ?_
  rintro e w10 ⟨rfl, hb3⟩
  rw [HP.out]
  refine hK.out _ _ ?_ (fun hHeld => ?_)
  · exact Two.see6 (Two.below hHeld.2 hb3)
  clear hK K
  try simp only [List.getElem_toArray, List.getElem_cons_zero, List.getElem_cons_succ, Act.put, List.setIfInBounds_toArray, List.set_cons_zero, List.set_cons_succ]
  refine wpAnyH_take (i := 3) (v := ?_) rfl (by kernel_rfl) (by kernel_rfl) (by kernel_rfl) (fun _ _ _ h => h) (Or.inl ⟨by rfl, ?_⟩) (by assumption) ?_
  rotate_left
  · intro w hSw; (try dsimp only at hSw); go_simp; (try with_reducible rfl)
  try simp only [List.getElem_toArray, List.getElem_cons_zero, List.getElem_cons_succ, Act.put, List.setIfInBounds_toArray, List.set_cons_zero, List.set_cons_succ]
  refine wpAnyH_take (i := 4) (v := ?_) rfl (by kernel_rfl) (by kernel_rfl) (by kernel_rfl) (fun _ _ _ h => h) (Or.inl ⟨by rfl, ?_⟩) (by assumption) ?_
  rotate_left
  · intro w hSw; (try dsimp only at hSw); go_simp; (try with_reducible rfl)
  try simp only [List.getElem_toArray, List.getElem_cons_zero, List.getElem_cons_succ, Act.put, List.setIfInBounds_toArray, List.set_cons_zero, List.set_cons_succ]
  refine wpAnyH_take (i := 5) (v := undef) rfl (by kernel_rfl) (by kernel_rfl) (by kernel_rfl) (fun _ _ _ h => h) (Or.inr ⟨by rfl, rfl⟩) (by assumption) ?_
  try simp only [List.getElem_toArray, List.getElem_cons_zero, List.getElem_cons_succ, Act.put, List.setIfInBounds_toArray, List.set_cons_zero, List.set_cons_succ]
  refine wpAnyH_take (i := 6) (v := undef) rfl (by kernel_rfl) (by kernel_rfl) (by kernel_rfl) (fun _ _ _ h => h) (Or.inr ⟨by rfl, rfl⟩) (by assumption) ?_
  try simp only [List.getElem_toArray, List.getElem_cons_zero, List.getElem_cons_succ, Act.put, List.setIfInBounds_toArray, List.set_cons_zero, List.set_cons_succ]
  refine wpAnyH_take (i := 7) (v := undef) rfl (by kernel_rfl) (by kernel_rfl) (by kernel_rfl) (fun _ _ _ h => h) (Or.inr ⟨by rfl, rfl⟩) (by assumption) ?_
  try simp only [List.getElem_toArray, List.getElem_cons_zero, List.getElem_cons_succ, Act.put, List.setIfInBounds_toArray, List.set_cons_zero, List.set_cons_succ]
  refine wpAnyH_take (i := 8) (v := undef) rfl (by kernel_rfl) (by kernel_rfl) (by kernel_rfl) (fun _ _ _ h => h) (Or.inr ⟨by rfl, rfl⟩) (by assumption) ?_
  try simp only [List.getElem_toArray, List.getElem_cons_zero, List.getElem_cons_succ, Act.put, List.setIfInBounds_toArray, List.set_cons_zero, List.set_cons_succ]
  refine wpAnyH_take (i := 9) (v := ?_) rfl (by kernel_rfl) (by kernel_rfl) (by kernel_rfl) (fun _ _ _ h => h) (Or.inl ⟨by rfl, ?_⟩) (by assumption) ?_
  rotate_left
  · intro w hSw; (try dsimp only at hSw); go_simp; (try with_reducible rfl)
  try simp only [List.getElem_toArray, List.getElem_cons_zero, List.getElem_cons_succ, Act.put, List.setIfInBounds_toArray, List.set_cons_zero, List.set_cons_succ]
  refine wpAnyH_take (i := 10) (v := ?_) rfl (by kernel_rfl) (by kernel_rfl) (by kernel_rfl) (fun _ _ _ h => h) (Or.inl ⟨by rfl, ?_⟩) (by assumption) ?_
  rotate_left
  · intro w hSw; (try dsimp only at hSw); go_simp; (try with_reducible rfl)
  try simp only [List.getElem_toArray, List.getElem_cons_zero, List.getElem_cons_succ, Act.put, List.setIfInBounds_toArray, List.set_cons_zero, List.set_cons_succ]
  refine wpAnyH_take (i := 11) (v := undef) rfl (by kernel_rfl) (by kernel_rfl) (by kernel_rfl) (fun _ _ _ h => h) (Or.inr ⟨by rfl, rfl⟩) (by assumption) ?_
  try simp only [List.getElem_toArray, List.getElem_cons_zero, List.getElem_cons_succ, Act.put, List.setIfInBounds_toArray, List.set_cons_zero, List.set_cons_succ]
  refine wpAnyH_take (i := 12) (v := undef) rfl (by kernel_rfl) (by kernel_rfl) (by kernel_rfl) (fun _ _ _ h => h) (Or.inr ⟨by rfl, rfl⟩) (by assumption) ?_
  try simp only [List.getElem_toArray, List.getElem_cons_zero, List.getElem_cons_succ, Act.put, List.setIfInBounds_toArray, List.set_cons_zero, List.set_cons_succ]
  refine wpAnyH_take (i := 13) (v := undef) rfl (by kernel_rfl) (by kernel_rfl) (by kernel_rfl) (fun _ _ _ h => h) (Or.inr ⟨by rfl, rfl⟩) (by assumption) ?_
  try simp only [List.getElem_toArray, List.getElem_cons_zero, List.getElem_cons_succ, Act.put, List.setIfInBounds_toArray, List.set_cons_zero, List.set_cons_succ]
  refine wpAnyH_take (i := 14) (v := undef) rfl (by kernel_rfl) (by kernel_rfl) (by kernel_rfl) (fun _ _ _ h => h) (Or.inr ⟨by rfl, rfl⟩) (by assumption) ?_
  try simp only [List.getElem_toArray, List.getElem_cons_zero, List.getElem_cons_succ, Act.put, List.setIfInBounds_toArray, List.set_cons_zero, List.set_cons_succ]
  refine wpAnyH_take (i := 15) (v := undef) rfl (by kernel_rfl) (by kernel_rfl) (by kernel_rfl) (fun _ _ _ h => h) (Or.inr ⟨by rfl, rfl⟩) (by assumption) ?_
  try simp only [List.getElem_toArray, List.getElem_cons_zero, List.getElem_cons_succ, Act.put, List.setIfInBounds_toArray, List.set_cons_zero, List.set_cons_succ]
  refine wpAnyH_take (i := 16) (v := undef) rfl (by kernel_rfl) (by kernel_rfl) (by kernel_rfl) (fun _ _ _ h => h) (Or.inr ⟨by rfl, rfl⟩) (by assumption) ?_
  try simp only [List.getElem_toArray, List.getElem_cons_zero, List.getElem_cons_succ, Act.put, List.setIfInBounds_toArray, List.set_cons_zero, List.set_cons_succ]
  refine wpAnyH_take (i := 17) (v := undef) rfl (by kernel_rfl) (by kernel_rfl) (by kernel_rfl) (fun _ _ _ h => h) (Or.inr ⟨by rfl, rfl⟩) (by assumption) ?_
  try simp only [List.getElem_toArray, List.getElem_cons_zero, List.getElem_cons_succ, Act.put, List.setIfInBounds_toArray, List.set_cons_zero, List.set_cons_succ]
  refine wpAnyH_take (i := 18) (v := undef) rfl (by kernel_rfl) (by kernel_rfl) (by kernel_rfl) (fun _ _ _ h => h) (Or.inr ⟨by rfl, rfl⟩) (by assumption) ?_
  try simp only [List.getElem_toArray, List.getElem_cons_zero, List.getElem_cons_succ, Act.put, List.setIfInBounds_toArray, List.set_cons_zero, List.set_cons_succ]
  refine wpAnyH_take (i := 19) (v := undef) rfl (by kernel_rfl) (by kernel_rfl) (by kernel_rfl) (fun _ _ _ h => h) (Or.inr ⟨by rfl, rfl⟩) (by assumption) ?_
  try simp only [List.getElem_toArray, List.getElem_cons_zero, List.getElem_cons_succ, Act.put, List.setIfInBounds_toArray, List.set_cons_zero, List.set_cons_succ]
  refine wpAnyH_take (i := 20) (v := ?_) rfl (by kernel_rfl) (by kernel_rfl) (by kernel_rfl) (fun _ _ _ h => h) (Or.inl ⟨by rfl, ?_⟩) (by assumption) ?_
  rotate_left
  · intro w hSw; (try dsimp only at hSw); go_simp; (try with_reducible rfl)
  try simp only [List.getElem_toArray, List.getElem_cons_zero, List.getElem_cons_succ, Act.put, List.setIfInBounds_toArray, List.set_cons_zero, List.set_cons_succ]
  refine wpAnyH_take (i := 21) (v := ?_) rfl (by kernel_rfl) (by kernel_rfl) (by kernel_rfl) (fun _ _ _ h => h) (Or.inl ⟨by rfl, ?_⟩) (by assumption) ?_
  rotate_left
  · intro w hSw; (try dsimp only at hSw); go_simp; (try with_reducible rfl)
  try simp only [List.getElem_toArray, List.getElem_cons_zero, List.getElem_cons_succ, Act.put, List.setIfInBounds_toArray, List.set_cons_zero, List.set_cons_succ]
  refine wpAnyH_done (by kernel_rfl) ?_ _
  have HFIN := hid (And.right (by assumption : (_ ∧ _) ∧ Two w w.heap.size [.int .u64 t, .int .u32 r, .int .u32 v] (w.heap.size + 1) [.int .u64 u, .int .u32 s, .int .u32 y] _)).2.2
  go_wp2
  go_ret
  exact ⟨rfl, HFIN.out⟩

set_option maxRecDepth 100000 in
set_option maxHeartbeats 8000000 in
theorem Ptells.other (t r v u s y base by' : Int) (t0 : 0 ≤ t) (t1 : t ≤ 18446744073709551615) (r0 : 0 ≤ r) (r1 : r ≤ 4294967295) (v0 : 0 ≤ v) (v1 : v ≤ 4294967295) (u0 : 0 ≤ u) (u1 : u ≤ 18446744073709551615) (s0 : 0 ≤ s) (s1 : s ≤ 4294967295) (y0 : 0 ≤ y) (y1 : y ≤ 4294967295) (b0 : 0 ≤ base) (b1 : base ≤ 18446744073709551615)
    (hp : (decide (1 ≤ v ∧ v ≤ 1048576) && decide (r < v)) = true) (hq : (decide (1 ≤ y ∧ y ≤ 1048576) && decide (s < y)) = false) (w : World) :
    Calls Try.prog 13 #[.agg #[.int .u64 t, .int .u32 r, .int .u32 v], .agg #[.int .u64 u, .int .u32 s, .int .u32 y], .int .u64 base, .int .u64 by'] w (Ans (.bool true) w) := by
  have T0 := hid (And.intro t0 t1)
  have R0 := hid (And.intro r0 r1)
  have V0 := hid (And.intro v0 v1)
  have U0 := hid (And.intro u0 u1)
  have S0 := hid (And.intro s0 s1)
  have Y0 := hid (And.intro y0 y1)
  have B0 := hid (And.intro b0 b1)
  have HP := hid hp
  have HQ := hid hq
  clear t0 t1 r0 r1 v0 v1 u0 u1 s0 s1 y0 y1 b0 b1 hp hq
  go_enter Try.func13, Try.ntmps13
  go_wp2_with fail
  refine (Law4.awake _).mono ?_
  rintro e w1 ⟨rfl, hb1⟩
  have HT1 : Hid (Two w w.heap.size [.int .u64 t, .int .u32 r, .int .u32 v] (w.heap.size + 1) [.int .u64 u, .int .u32 s, .int .u32 y] w1) := hid (Two.below ⟨(Cs.new3 _ _ _ _ _).alloc _, by have := Cs.new3 (w.alloc (.cells #[.int .u64 t, .int .u32 r, .int .u32 v] 75)) 75 (.int .u64 u) (.int .u32 s) (.int .u32 y); simpa using this, ((Below.refl _ _).alloc (Nat.le_refl _) _).alloc (by simp) _⟩ hb1)
  clear hb1
  go_wp2_with fail
  go_region_held3 (fun w' => ((w'.cell? ⟨w.heap.size, 0, none⟩ = some (.int .u64 t) ∧ w'.cell? ⟨w.heap.size, 1, none⟩ = some (.int .u32 r) ∧ w'.cell? ⟨w.heap.size, 2, none⟩ = some (.int .u32 v)) ∧ (w'.cell? ⟨w.heap.size + 1, 0, none⟩ = some (.int .u64 u) ∧ w'.cell? ⟨w.heap.size + 1, 1, none⟩ = some (.int .u32 s) ∧ w'.cell? ⟨w.heap.size + 1, 2, none⟩ = some (.int .u32 y))) ∧ Two w w.heap.size [.int .u64 t, .int .u32 r, .int .u32 v] (w.heap.size + 1) [.int .u64 u, .int .u32 s, .int .u32 y] w')
    (first | with_reducible exact HT1.out.drew.see6 | with_reducible exact Two.see6 ((And.right (by assumption : (_ ∧ _) ∧ Two w w.heap.size [.int .u64 t, .int .u32 r, .int .u32 v] (w.heap.size + 1) [.int .u64 u, .int .u32 s, .int .u32 y] _)).below hb2))
    (first
      | (go_at_call 54; refine (Pos.right t r v _).mono ?_; rintro e w2 ⟨rfl, hb2⟩; rw [HP.out])
      | (go_at_call 56; refine (Law4.of t r v _).mono ?_; rintro e w3 ⟨rfl, hb2⟩; (try (have HW5' := hid HW5.out)); (try (have HD := hid hb2)))
      | (go_at_call 55; refine (Ref4.right t r v _).mono ?_; rintro e w4 ⟨rfl, hb2⟩; rw [HP.out])
      | (go_at_call 57; refine (Pos.distance t r v base R0.out.1 R0.out.2 V0.out.1 V0.out.2 _).mono ?_; rintro e w5 ⟨h5, l5, rfl, hw5, hb2⟩; have HW5 := hid hw5; clear hw5)
      | (go_at_call 58; refine (Ref4.distance t r v base T0.out.1 T0.out.2 R0.out.1 R0.out.2 V0.out.1 V0.out.2 B0.out.1 B0.out.2 _).mono ?_; rintro e w6 ⟨s6, A6, n6, c6, rfl, hB, hb2⟩; have H6 := hid hB; clear hB)
      | (go_at_call 23; refine (Law.same 77 (by decide) h5 l5 _ HW5.out s6 A6 n6 c6 _ _ H6.out true ⟨fun _ => rfl, fun _ => rfl⟩).mono ?_; rintro e w7 ⟨rfl, hb2⟩))
  have HT7 := hid (And.right (by assumption : (_ ∧ _) ∧ Two w w.heap.size [.int .u64 t, .int .u32 r, .int .u32 v] (w.heap.size + 1) [.int .u64 u, .int .u32 s, .int .u32 y] w7))
  have p0 := HT7.out.1.at0
  have p1 := HT7.out.1.at1
  have p2 := HT7.out.1.at2
  go_wp2_with fail
  refine (Pos.shift t r v by' _).mono ?_
  rintro e w8 ⟨rfl, hb8⟩
  have HT8 := hid (HT7.out.below hb8)
  clear hb8 p0 p1 p2 HT7
  have p0 := HT8.out.1.at0
  have p1 := HT8.out.1.at1
  have p2 := HT8.out.1.at2
  have pz := HT8.out.1.lt
  go_wp2_with fail
  obtain ⟨W9, hW⟩ : ∃ W9, W9 = w8.alloc (.cells #[.int .u64 (IntKind.u64.wrap (t + by')), .int .u32 r, .int .u32 v] 75) := ⟨_, rfl⟩
  rw [← hW]
  have HT9 : Hid (Two w w.heap.size [.int .u64 t, .int .u32 r, .int .u32 v] (w.heap.size + 1) [.int .u64 u, .int .u32 s, .int .u32 y] W9) := hid (by rw [hW]; exact HT8.out.alloc _)
  clear hW p0 p1 p2 pz HT8
  refine wp_region_held_drew (S := (fun w' => ((w'.cell? ⟨w.heap.size, 0, none⟩ = some (.int .u64 t) ∧ w'.cell? ⟨w.heap.size, 1, none⟩ = some (.int .u32 r) ∧ w'.cell? ⟨w.heap.size, 2, none⟩ = some (.int .u32 v)) ∧ (w'.cell? ⟨w.heap.size + 1, 0, none⟩ = some (.int .u64 u) ∧ w'.cell? ⟨w.heap.size + 1, 1, none⟩ = some (.int .u32 s) ∧ w'.cell? ⟨w.heap.size + 1, 2, none⟩ = some (.int .u32 y))) ∧ Two w w.heap.size [.int .u64 t, .int .u32 r, .int .u32 v] (w.heap.size + 1) [.int .u64 u, .int .u32 s, .int .u32 y] w')) (by kernel_rfl) HT9.out.drew.see6 (fun hHeld => ?_)
  refine wpAnyH_take (i := 0) (v := ?_) rfl (by kernel_rfl) (by kernel_rfl) (by kernel_rfl) (fun _ _ _ h => h) (Or.inl ⟨by rfl, ?_⟩) (by assumption) ?_
  rotate_left
  · intro w hSw; (try dsimp only at hSw); go_simp; (try with_reducible rfl)
  try simp only [List.getElem_toArray, List.getElem_cons_zero, List.getElem_cons_succ, Act.put, List.setIfInBounds_toArray, List.set_cons_zero, List.set_cons_succ]
  refine wpAnyH_ready (rs := [1]) (by kernel_rfl) (by simp) ?_
  refine AllReadyH.cons rfl (fun K hK => ?_) AllReadyH.nil
  go_simp
  go_at_call 56
  refine (Law4.of t r v _).mono ?_
  rintro e w10 ⟨rfl, hb3⟩
  refine hK.out _ _ ?_ (fun hHeld => ?_)
  · exact Two.see6 (Two.below hHeld.2 hb3)
  clear hK K
  try simp only [List.getElem_toArray, List.getElem_cons_zero, List.getElem_cons_succ, Act.put, List.setIfInBounds_toArray, List.set_cons_zero, List.set_cons_succ]
  refine wpAnyH_ready (rs := [2]) (by kernel_rfl) (by simp) ?_
  refine AllReadyH.cons rfl (fun K hK => ?_) AllReadyH.nil
  go_simp
  go_at_call 55
  refine (Ref4.right t r v _).mono ?_
  rintro e w10 ⟨rfl, hb3⟩
  rw [HP.out]
  refine hK.out _ _ ?_ (fun hHeld => ?_)
  · exact Two.see6 (Two.below hHeld.2 hb3)
  clear hK K
  try simp only [List.getElem_toArray, List.getElem_cons_zero, List.getElem_cons_succ, Act.put, List.setIfInBounds_toArray, List.set_cons_zero, List.set_cons_succ]
  refine wpAnyH_take (i := 3) (v := ?_) rfl (by kernel_rfl) (by kernel_rfl) (by kernel_rfl) (fun _ _ _ h => h) (Or.inl ⟨by rfl, ?_⟩) (by assumption) ?_
  rotate_left
  · intro w hSw; (try dsimp only at hSw); go_simp; (try with_reducible rfl)
  try simp only [List.getElem_toArray, List.getElem_cons_zero, List.getElem_cons_succ, Act.put, List.setIfInBounds_toArray, List.set_cons_zero, List.set_cons_succ]
  refine wpAnyH_take (i := 4) (v := ?_) rfl (by kernel_rfl) (by kernel_rfl) (by kernel_rfl) (fun _ _ _ h => h) (Or.inl ⟨by rfl, ?_⟩) (by assumption) ?_
  rotate_left
  · intro w hSw; (try dsimp only at hSw); go_simp; (try with_reducible rfl)
  try simp only [List.getElem_toArray, List.getElem_cons_zero, List.getElem_cons_succ, Act.put, List.setIfInBounds_toArray, List.set_cons_zero, List.set_cons_succ]
  refine wpAnyH_take (i := 5) (v := ?_) rfl (by kernel_rfl) (by kernel_rfl) (by kernel_rfl) (fun _ _ _ h => h) (Or.inl ⟨by rfl, ?_⟩) (by assumption) ?_
  rotate_left
  · intro w hSw; (try dsimp only at hSw); go_simp; (try with_reducible rfl)
  try simp only [List.getElem_toArray, List.getElem_cons_zero, List.getElem_cons_succ, Act.put, List.setIfInBounds_toArray, List.set_cons_zero, List.set_cons_succ]
  refine wpAnyH_ready (rs := [6]) (by kernel_rfl) (by simp) ?_
  refine AllReadyH.cons rfl (fun K hK => ?_) AllReadyH.nil
  go_simp
  go_at_call 56
  refine (Law4.of u s y _).mono ?_
  rintro e w10 ⟨rfl, hb3⟩
  refine hK.out _ _ ?_ (fun hHeld => ?_)
  · exact Two.see6 (Two.below hHeld.2 hb3)
  clear hK K
  try simp only [List.getElem_toArray, List.getElem_cons_zero, List.getElem_cons_succ, Act.put, List.setIfInBounds_toArray, List.set_cons_zero, List.set_cons_succ]
  refine wpAnyH_ready (rs := [7]) (by kernel_rfl) (by simp) ?_
  refine AllReadyH.cons rfl (fun K hK => ?_) AllReadyH.nil
  go_simp
  go_at_call 55
  refine (Ref4.right u s y _).mono ?_
  rintro e w10 ⟨rfl, hb3⟩
  rw [HQ.out]
  refine hK.out _ _ ?_ (fun hHeld => ?_)
  · exact Two.see6 (Two.below hHeld.2 hb3)
  clear hK K
  try simp only [List.getElem_toArray, List.getElem_cons_zero, List.getElem_cons_succ, Act.put, List.setIfInBounds_toArray, List.set_cons_zero, List.set_cons_succ]
  refine wpAnyH_take (i := 8) (v := ?_) rfl (by kernel_rfl) (by kernel_rfl) (by kernel_rfl) (fun _ _ _ h => h) (Or.inl ⟨by rfl, ?_⟩) (by assumption) ?_
  rotate_left
  · intro w hSw; (try dsimp only at hSw); go_simp; (try with_reducible rfl)
  try simp only [List.getElem_toArray, List.getElem_cons_zero, List.getElem_cons_succ, Act.put, List.setIfInBounds_toArray, List.set_cons_zero, List.set_cons_succ]
  refine wpAnyH_take (i := 9) (v := ?_) rfl (by kernel_rfl) (by kernel_rfl) (by kernel_rfl) (fun _ _ _ h => h) (Or.inl ⟨by rfl, ?_⟩) (by assumption) ?_
  rotate_left
  · intro w hSw; (try dsimp only at hSw); go_simp; (try with_reducible rfl)
  try simp only [List.getElem_toArray, List.getElem_cons_zero, List.getElem_cons_succ, Act.put, List.setIfInBounds_toArray, List.set_cons_zero, List.set_cons_succ]
  refine wpAnyH_take (i := 10) (v := ?_) rfl (by kernel_rfl) (by kernel_rfl) (by kernel_rfl) (fun _ _ _ h => h) (Or.inl ⟨by rfl, ?_⟩) (by assumption) ?_
  rotate_left
  · intro w hSw; (try dsimp only at hSw); go_simp; (try with_reducible rfl)
  try simp only [List.getElem_toArray, List.getElem_cons_zero, List.getElem_cons_succ, Act.put, List.setIfInBounds_toArray, List.set_cons_zero, List.set_cons_succ]
  refine wpAnyH_take (i := 11) (v := undef) rfl (by kernel_rfl) (by kernel_rfl) (by kernel_rfl) (fun _ _ _ h => h) (Or.inr ⟨by rfl, rfl⟩) (by assumption) ?_
  try simp only [List.getElem_toArray, List.getElem_cons_zero, List.getElem_cons_succ, Act.put, List.setIfInBounds_toArray, List.set_cons_zero, List.set_cons_succ]
  refine wpAnyH_take (i := 12) (v := undef) rfl (by kernel_rfl) (by kernel_rfl) (by kernel_rfl) (fun _ _ _ h => h) (Or.inr ⟨by rfl, rfl⟩) (by assumption) ?_
  try simp only [List.getElem_toArray, List.getElem_cons_zero, List.getElem_cons_succ, Act.put, List.setIfInBounds_toArray, List.set_cons_zero, List.set_cons_succ]
  refine wpAnyH_take (i := 13) (v := undef) rfl (by kernel_rfl) (by kernel_rfl) (by kernel_rfl) (fun _ _ _ h => h) (Or.inr ⟨by rfl, rfl⟩) (by assumption) ?_
  try simp only [List.getElem_toArray, List.getElem_cons_zero, List.getElem_cons_succ, Act.put, List.setIfInBounds_toArray, List.set_cons_zero, List.set_cons_succ]
  refine wpAnyH_take (i := 14) (v := undef) rfl (by kernel_rfl) (by kernel_rfl) (by kernel_rfl) (fun _ _ _ h => h) (Or.inr ⟨by rfl, rfl⟩) (by assumption) ?_
  try simp only [List.getElem_toArray, List.getElem_cons_zero, List.getElem_cons_succ, Act.put, List.setIfInBounds_toArray, List.set_cons_zero, List.set_cons_succ]
  refine wpAnyH_take (i := 15) (v := undef) rfl (by kernel_rfl) (by kernel_rfl) (by kernel_rfl) (fun _ _ _ h => h) (Or.inr ⟨by rfl, rfl⟩) (by assumption) ?_
  try simp only [List.getElem_toArray, List.getElem_cons_zero, List.getElem_cons_succ, Act.put, List.setIfInBounds_toArray, List.set_cons_zero, List.set_cons_succ]
  refine wpAnyH_take (i := 16) (v := undef) rfl (by kernel_rfl) (by kernel_rfl) (by kernel_rfl) (fun _ _ _ h => h) (Or.inr ⟨by rfl, rfl⟩) (by assumption) ?_
  try simp only [List.getElem_toArray, List.getElem_cons_zero, List.getElem_cons_succ, Act.put, List.setIfInBounds_toArray, List.set_cons_zero, List.set_cons_succ]
  refine wpAnyH_take (i := 17) (v := undef) rfl (by kernel_rfl) (by kernel_rfl) (by kernel_rfl) (fun _ _ _ h => h) (Or.inr ⟨by rfl, rfl⟩) (by assumption) ?_
  try simp only [List.getElem_toArray, List.getElem_cons_zero, List.getElem_cons_succ, Act.put, List.setIfInBounds_toArray, List.set_cons_zero, List.set_cons_succ]
  refine wpAnyH_take (i := 18) (v := undef) rfl (by kernel_rfl) (by kernel_rfl) (by kernel_rfl) (fun _ _ _ h => h) (Or.inr ⟨by rfl, rfl⟩) (by assumption) ?_
  try simp only [List.getElem_toArray, List.getElem_cons_zero, List.getElem_cons_succ, Act.put, List.setIfInBounds_toArray, List.set_cons_zero, List.set_cons_succ]
  refine wpAnyH_take (i := 19) (v := undef) rfl (by kernel_rfl) (by kernel_rfl) (by kernel_rfl) (fun _ _ _ h => h) (Or.inr ⟨by rfl, rfl⟩) (by assumption) ?_
  try simp only [List.getElem_toArray, List.getElem_cons_zero, List.getElem_cons_succ, Act.put, List.setIfInBounds_toArray, List.set_cons_zero, List.set_cons_succ]
  refine wpAnyH_take (i := 20) (v := ?_) rfl (by kernel_rfl) (by kernel_rfl) (by kernel_rfl) (fun _ _ _ h => h) (Or.inl ⟨by rfl, ?_⟩) (by assumption) ?_
  rotate_left
  · intro w hSw; (try dsimp only at hSw); go_simp; (try with_reducible rfl)
  try simp only [List.getElem_toArray, List.getElem_cons_zero, List.getElem_cons_succ, Act.put, List.setIfInBounds_toArray, List.set_cons_zero, List.set_cons_succ]
  refine wpAnyH_take (i := 21) (v := ?_) rfl (by kernel_rfl) (by kernel_rfl) (by kernel_rfl) (fun _ _ _ h => h) (Or.inl ⟨by rfl, ?_⟩) (by assumption) ?_
  rotate_left
  · intro w hSw; (try dsimp only at hSw); go_simp; (try with_reducible rfl)
  try simp only [List.getElem_toArray, List.getElem_cons_zero, List.getElem_cons_succ, Act.put, List.setIfInBounds_toArray, List.set_cons_zero, List.set_cons_succ]
  refine wpAnyH_done (by kernel_rfl) ?_ _
  have HFIN := hid (And.right (by assumption : (_ ∧ _) ∧ Two w w.heap.size [.int .u64 t, .int .u32 r, .int .u32 v] (w.heap.size + 1) [.int .u64 u, .int .u32 s, .int .u32 y] _)).2.2
  go_wp2
  go_ret
  exact ⟨rfl, HFIN.out⟩

theorem Ptells.law (t r v u s y base by' : Int) (w : World) (w0 : (0 ≤ t ∧ t ≤ 18446744073709551615) ∧ (0 ≤ r ∧ r ≤ 4294967295) ∧ (0 ≤ v ∧ v ≤ 4294967295)) (w1 : (0 ≤ u ∧ u ≤ 18446744073709551615) ∧ (0 ≤ s ∧ s ≤ 4294967295) ∧ (0 ≤ y ∧ y ≤ 4294967295))
    (w2 : (Lit.int .u64 base).wf = true) (_w3 : (Lit.int .u64 by').wf = true) :
    Calls Try.prog 13 #[.agg #[.int .u64 t, .int .u32 r, .int .u32 v], .agg #[.int .u64 u, .int .u32 s, .int .u32 y], .int .u64 base, .int .u64 by'] w fun e w' => e = .returned (.bool true) ∧ Below w.heap.size w w' := by
  obtain ⟨⟨t0, t1⟩, ⟨r0, r1⟩, ⟨v0, v1⟩⟩ := w0
  obtain ⟨⟨u0, u1⟩, ⟨s0, s1⟩, ⟨y0, y1⟩⟩ := w1
  obtain ⟨b0, b1⟩ := bounds_u64 w2
  rcases hp : (decide (1 ≤ v ∧ v ≤ 1048576) && decide (r < v)) with _ | _
  · exact Ptells.not _ t r v u s y base by' t0 t1 r0 r1 v0 v1 u0 u1 s0 s1 y0 y1 b0 b1 hp rfl w
  · rcases hq : (decide (1 ≤ y ∧ y ≤ 1048576) && decide (s < y)) with _ | _
    · exact Ptells.other t r v u s y base by' t0 t1 r0 r1 v0 v1 u0 u1 s0 s1 y0 y1 b0 b1 hp hq w
    · exact Ptells.both t r v u s y base by' t0 t1 r0 r1 v0 v1 u0 u1 s0 s1 y0 y1 b0 b1 hp hq w

end Go.Proofs.Ytjklcbbanlaicaa

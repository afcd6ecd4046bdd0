/- Texts of ReqMakes's proof, together. -/
import Derived.Test.YtjndmmcjobbcbaaGreatDoorReqMakesZ20
import Derived.Test.YtjndmmcjobbcbaaGreatDoorReqMakesZ10
namespace Go.Proofs.YtjndmmcjobbcbaaGreatDoor

section
open Go.RowKit
set_option maxRecDepth 100000
set_option maxHeartbeats 32000000
theorem Law4.of (t r v : Int) (w : World) : Calls Tryz.prog 29 #[.agg #[.int .u64 t, .int .u32 r, .int .u32 v]] w (Ans (.agg #[.int .u64 t, .int .u32 r, .int .u32 v]) w) := by
 go_enter Tryz.func29, Tryz.ntmps29
 go_wp2_with fail
 refine bodyPost_ret (v := .agg #[.int .u64 t, .int .u32 r, .int .u32 v]) (by simp [results, Tryz.results29, go_sem]) rfl ⟨rfl, ?_⟩
 exact ((Below.refl _ _).alloc (Nat.le_refl _) _).alloc (by simp) _
theorem Ref4.right (t r v : Int) (w : World) :
  Calls Tryz.prog 134 #[.agg #[.int .u64 t, .int .u32 r, .int .u32 v]] w fun e w' => e = .returned (.bool (decide (1 ≤ v ∧ v ≤ 1048576) && decide (r < v))) ∧ Below w.heap.size w w' := by
 by_cases h1 : 1 ≤ v
 ·by_cases h2 : v ≤ 1048576
  ·have E := hid (show decide (1 ≤ v ∧ v ≤ 1048576) = true by rw [decide_eq_true_eq]; exact ⟨h1, h2⟩)
   go_enter Tryz.func134, Tryz.ntmps134
   go_wp2
   go_ret
   exact ⟨by first | rfl | (rw [E.out]; rfl), (Below.refl _ _).alloc (Nat.le_refl _) _⟩
  ·rw [show (decide (1 ≤ v ∧ v ≤ 1048576) && decide (r < v)) = false by rw [show decide (1 ≤ v ∧ v ≤ 1048576) = false by rw [decide_eq_false_iff_not]; omega]; rfl]
   go_enter Tryz.func134, Tryz.ntmps134
   go_wp2
   go_ret
   exact ⟨by first | rfl | (rw [E.out]; rfl), (Below.refl _ _).alloc (Nat.le_refl _) _⟩
 ·rw [show (decide (1 ≤ v ∧ v ≤ 1048576) && decide (r < v)) = false by rw [show decide (1 ≤ v ∧ v ≤ 1048576) = false by rw [decide_eq_false_iff_not]; omega]; rfl]
  go_enter Tryz.func134, Tryz.ntmps134
  go_wp2
  go_ret
  exact ⟨by first | rfl | (rw [E.out]; rfl), (Below.refl _ _).alloc (Nat.le_refl _) _⟩
theorem Ref4.distance (t r v base : Int) (t0 : 0 ≤ t) (t1 : t ≤ 18446744073709551615) (r0 : 0 ≤ r) (r1 : r ≤ 4294967295) (v0 : 0 ≤ v) (v1 : v ≤ 4294967295) (b0 : 0 ≤ base) (b1 : base ≤ 18446744073709551615) (w : World) :
  Calls Tryz.prog 226 #[.agg #[.int .u64 t, .int .u32 r, .int .u32 v], .int .u64 base] w (BAns 77 (dif t base * v + r) w) := by
 have e1 := up32 r0 r1
 have e2 := up32 v0 v1
 have R0 := hid r0
 have R1 := hid (show r ≤ 18446744073709551615 by omega)
 have V0 := hid v0
 have V1 := hid (show v ≤ 18446744073709551615 by omega)
 have T0 := hid t0
 have T1 := hid t1
 have B0 := hid b0
 have B1 := hid b1
 clear r0 r1 v0 v1 t0 t1 b0 b1
 go_enter Tryz.func226, Tryz.ntmps226
 go_wp2_with fail
 obtain ⟨W0, hW⟩ : ∃ W0, W0 = (w.alloc (Obj.cells #[.int .u64 t, .int .u32 r, .int .u32 v] 57)).alloc (Obj.cells #[.bool false, .slice none 0 0] 198) := ⟨_, rfl⟩
 rw [← hW]
 have HS0 : Hid (Two w w.heap.size [.int .u64 t, .int .u32 r, .int .u32 v] w.heap.size [.int .u64 t, .int .u32 r, .int .u32 v] W0) := hid (by rw [hW]; exact ⟨(Cs.new3 _ _ _ _ _).alloc _, (Cs.new3 _ _ _ _ _).alloc _, ((Below.refl _ _).alloc (Nat.le_refl _) _).alloc (by simp) _⟩)
 have HF0 : Hid (Fresh W0 (w.heap.size + 1)) := hid (by rw [hW]; have := Fresh.new (w.alloc (Obj.cells #[.int .u64 t, .int .u32 r, .int .u32 v] 57)) 198; simpa using this)
 clear hW
 go_region_held3 (fun w' => (w'.cell? ⟨w.heap.size, 0, none⟩ = some (.int .u64 t) ∧ w'.cell? ⟨w.heap.size, 1, none⟩ = some (.int .u32 r) ∧ w'.cell? ⟨w.heap.size, 2, none⟩ = some (.int .u32 v)) ∧ Two w w.heap.size [.int .u64 t, .int .u32 r, .int .u32 v] w.heap.size [.int .u64 t, .int .u32 r, .int .u32 v] w')
  (first | with_reducible exact HS0.out.drew.see | with_reducible exact Two.see ((And.right (by assumption : (_ ∧ _ ∧ _) ∧ Two w w.heap.size [.int .u64 t, .int .u32 r, .int .u32 v] w.heap.size [.int .u64 t, .int .u32 r, .int .u32 v] _)).below hb2) | with_reducible exact Two.see (Two.far (Two.far (And.right (by assumption : (_ ∧ _ ∧ _) ∧ Two w w.heap.size [.int .u64 t, .int .u32 r, .int .u32 v] w.heap.size [.int .u64 t, .int .u32 r, .int .u32 v] _)) (by omega) (by omega) (by omega) _ _) (by omega) (by omega) (by omega) _ _))
  (first
   | (go_at_call_of 131 (Value.int .u64 v); refine (Ref.U v V0.out V1.out _).mono ?_; rintro e w2 ⟨s2, A2, n2, c2, rfl, hB, hb2⟩; have H2 := hid hB; have HF2 := hid (Fresh.below (w := W0.drew) HF0.out hb2); clear hB)
   | (go_at_call 133; refine (Ref3.since t base T0.out T1.out B0.out B1.out _).mono ?_; rintro e w3 ⟨s3, A3, n3, c3, rfl, hB, hb2⟩; have H3 := hid hB; have H2' := hid (H2.out.below hb2); have HF3 := hid (HF2.out.below hb2); clear hB)
   | (go_at_call 132; refine (Ref.mul 5 70 s2 s3 A2 A3 n2 c2 n3 c3 _ _ _ H2'.out H3.out (by decide) (by decide)).mono ?_; rintro e w4 ⟨s4, A4, n4, c4, rfl, hB, hb2⟩; have H4 := hid hB; have HF4 := hid (HF3.out.below hb2); clear hB)
   | (go_at_call_of 131 (Value.int .u64 r); refine (Ref.U r R0.out R1.out _).mono ?_; rintro e w5 ⟨s5, A5, n5, c5, rfl, hB, hb2⟩; have H5 := hid (hB.mono (show 5 ≤ 76 by decide)); have H4' := hid (H4.out.below hb2); have HF5 := hid (HF4.out.below hb2); clear hB)
   | (go_at_call 130; refine (Ref.add 76 s4 s5 A4 A5 n4 c4 n5 c5 _ _ _ H4'.out H5.out (by decide)).mono ?_; rintro e w6 ⟨s', A', n', c', rfl, hB, hb2⟩; have HB := hid (show IsB _ 77 s' A' n' c' (dif t base * v + r) by rw [Int.mul_comm (dif t base) v]; exact hB); have HF6 := hid (HF5.out.below hb2); obtain ⟨t0, t1, t2, t3, _⟩ := HF6.out; clear hB))
 obtain ⟨_, hfin⟩ : (_ ∧ _ ∧ _) ∧ Two w w.heap.size [.int .u64 t, .int .u32 r, .int .u32 v] w.heap.size [.int .u64 t, .int .u32 r, .int .u32 v] ((w6.setCell ⟨w.heap.size + 1, 0, none⟩ (.bool s')).setCell ⟨w.heap.size + 1, 1, none⟩ (.slice A' n' c')) := by assumption
 have HFIN := hid hfin.2.2
 clear hfin
 go_wp2
 exact bodyPost_ret (v := .agg #[.bool s', .slice A' n' c']) (by simp [results, Tryz.results226, go_sem, t0, t1]) rfl ⟨_, _, _, _, rfl, HB.out.store HF6.out.2.2.2.2 _ _ _ _, HFIN.out⟩
theorem Two.see6 {w0 w : World} {N M : Nat} {a b c d e f : Value} (h : Two w0 N [a, b, c] M [d, e, f] w) :
  ((w.cell? ⟨N, 0, none⟩ = some a ∧ w.cell? ⟨N, 1, none⟩ = some b ∧ w.cell? ⟨N, 2, none⟩ = some c) ∧ (w.cell? ⟨M, 0, none⟩ = some d ∧ w.cell? ⟨M, 1, none⟩ = some e ∧ w.cell? ⟨M, 2, none⟩ = some f)) ∧ Two w0 N [a, b, c] M [d, e, f] w :=
 ⟨⟨⟨h.1.at0, h.1.at1, h.1.at2⟩, ⟨h.2.1.at0, h.2.1.at1, h.2.1.at2⟩⟩, h⟩
theorem Ref4.cmp (t r v u s y : Int) (t0 : 0 ≤ t) (t1 : t ≤ 18446744073709551615) (r0 : 0 ≤ r) (r1 : r ≤ 4294967295) (v0 : 0 ≤ v) (v1 : v ≤ 4294967295) (u0 : 0 ≤ u) (u1 : u ≤ 18446744073709551615) (s0 : 0 ≤ s) (s1 : s ≤ 4294967295) (y0 : 0 ≤ y) (y1 : y ≤ 4294967295) (w : World) :
  Calls Tryz.prog 224 #[.agg #[.int .u64 t, .int .u32 r, .int .u32 v], .agg #[.int .u64 u, .int .u32 s, .int .u32 y]] w (Ans (.int .i64 (posC t r v u s y)) w) := by
 have e1 := up32 r0 r1
 have e2 := up32 v0 v1
 have e3 := up32 s0 s1
 have e4 := up32 y0 y1
 have R0 := hid (And.intro r0 (show r ≤ 18446744073709551615 by omega))
 have V0 := hid (And.intro v0 (show v ≤ 18446744073709551615 by omega))
 have S0 := hid (And.intro s0 (show s ≤ 18446744073709551615 by omega))
 have Y0 := hid (And.intro y0 (show y ≤ 18446744073709551615 by omega))
 have T0 := hid (And.intro t0 t1)
 have U0 := hid (And.intro u0 u1)
 clear r0 r1 v0 v1 s0 s1 y0 y1 t0 t1 u0 u1
 have E : Hid (posC t r v u s y = if dif u t ≠ 0 then cmpI 0 (dif u t) else cmpI (r * y) (s * v)) := rfl
 have HT0 : Hid (∀ w' : World, Below ((w.alloc (Obj.cells #[.int .u64 t, .int .u32 r, .int .u32 v] 57)).alloc (Obj.cells #[.int .u64 u, .int .u32 s, .int .u32 y] 57)).heap.size ((w.alloc (Obj.cells #[.int .u64 t, .int .u32 r, .int .u32 v] 57)).alloc (Obj.cells #[.int .u64 u, .int .u32 s, .int .u32 y] 57)) w' → Two w w.heap.size [.int .u64 t, .int .u32 r, .int .u32 v] (w.heap.size + 1) [.int .u64 u, .int .u32 s, .int .u32 y] w') :=
  hid (fun w' hb => Two.below ⟨(Cs.new3 _ _ _ _ _).alloc _, by have := Cs.new3 (w.alloc (Obj.cells #[.int .u64 t, .int .u32 r, .int .u32 v] 57)) 57 (.int .u64 u) (.int .u32 s) (.int .u32 y); simpa using this, ((Below.refl _ _).alloc (Nat.le_refl _) _).alloc (by simp) _⟩ hb)
 by_cases c : dif u t = 0
 ·have c1 : (cmpI (dif u t) 0 != 0) = false := by rw [c]; rfl
  rw [if_neg (by omega)] at E
  clear c
  go_enter Tryz.func224, Tryz.ntmps224
  go_wp2_with fail
  refine (Ref3.since u t U0.out.1 U0.out.2 T0.out.1 T0.out.2 _).mono ?_
  rintro e w1 ⟨s1, A1, n1, c1', rfl, hB1, hb1⟩
  have HT1 := hid (HT0.out _ hb1)
  have H1 := hid hB1
  clear hB1 hb1
  go_wp2_with fail
  refine (Ref.sign 70 s1 A1 n1 c1' _ _ H1.out).mono ?_
  rintro e w2 ⟨rfl, hb2⟩
  have HT2 := hid (HT1.out.below hb2)
  clear hb2 HT1
  go_wp2_with fail
  clear c1
  go_region_held3 (fun w' => ((w'.cell? ⟨w.heap.size, 0, none⟩ = some (.int .u64 t) ∧ w'.cell? ⟨w.heap.size, 1, none⟩ = some (.int .u32 r) ∧ w'.cell? ⟨w.heap.size, 2, none⟩ = some (.int .u32 v)) ∧ (w'.cell? ⟨w.heap.size + 1, 0, none⟩ = some (.int .u64 u) ∧ w'.cell? ⟨w.heap.size + 1, 1, none⟩ = some (.int .u32 s) ∧ w'.cell? ⟨w.heap.size + 1, 2, none⟩ = some (.int .u32 y))) ∧ Two w w.heap.size [.int .u64 t, .int .u32 r, .int .u32 v] (w.heap.size + 1) [.int .u64 u, .int .u32 s, .int .u32 y] w')
   (first | with_reducible exact HT2.out.drew.see6 | with_reducible exact Two.see6 ((And.right (by assumption : (_ ∧ _) ∧ Two w w.heap.size [.int .u64 t, .int .u32 r, .int .u32 v] (w.heap.size + 1) [.int .u64 u, .int .u32 s, .int .u32 y] _)).below hb3))
   (first
    | (go_at_call_of 131 (Value.int .u64 r); refine (Ref.U r R0.out.1 R0.out.2 _).mono ?_; rintro e w3 ⟨s3, A3, n3, c3, rfl, hB, hb3⟩; have H3 := hid hB; clear hB)
    | (go_at_call_of 131 (Value.int .u64 y); refine (Ref.U y Y0.out.1 Y0.out.2 _).mono ?_; rintro e w4 ⟨s4, A4, n4, c4, rfl, hB, hb3⟩; have H4 := hid hB; have H3' := hid (H3.out.below hb3); clear hB)
    | (go_at_call_of 132 (Value.agg #[Value.bool s3, Value.slice A3 n3 c3]); refine (Ref.mul 5 5 s3 s4 A3 A4 n3 c3 n4 c4 _ _ _ H3'.out H4.out (by decide) (by decide)).mono ?_; rintro e w5 ⟨s5, A5, n5, c5, rfl, hB, hb3⟩; have H5 := hid hB; clear hB)
    | (go_at_call_of 131 (Value.int .u64 s); refine (Ref.U s S0.out.1 S0.out.2 _).mono ?_; rintro e w6 ⟨s6, A6, n6, c6, rfl, hB, hb3⟩; have H6 := hid hB; have H5' := hid (H5.out.below hb3); clear hB)
    | (go_at_call_of 131 (Value.int .u64 v); refine (Ref.U v V0.out.1 V0.out.2 _).mono ?_; rintro e w7 ⟨s7, A7, n7, c7, rfl, hB, hb3⟩; have H7 := hid hB; have H6' := hid (H6.out.below hb3); have H5'' := hid (H5'.out.below hb3); clear hB)
    | (go_at_call_of 132 (Value.agg #[Value.bool s6, Value.slice A6 n6 c6]); refine (Ref.mul 5 5 s6 s7 A6 A7 n6 c6 n7 c7 _ _ _ H6'.out H7.out (by decide) (by decide)).mono ?_; rintro e w8 ⟨s8, A8, n8, c8, rfl, hB, hb3⟩; have H8 := hid hB; have H53 := hid (H5''.out.below hb3); clear hB)
    | (go_at_call 136; refine (Ref.cmp 11 s5 s8 A5 A8 n5 c5 n8 c8 _ _ _ H53.out H8.out (by decide)).mono ?_; rintro e w9 ⟨rfl, hb3⟩))
  have HFIN := hid (And.right (by assumption : (_ ∧ _) ∧ Two w w.heap.size [.int .u64 t, .int .u32 r, .int .u32 v] (w.heap.size + 1) [.int .u64 u, .int .u32 s, .int .u32 y] w9)).2.2
  go_wp2
  go_ret
  exact ⟨by rw [E.out]; rfl, HFIN.out⟩
 ·have c1 : (cmpI (dif u t) 0 != 0) = true := by rw [bne_iff_ne]; intro h; exact c ((cmpI_zero _ _).1 h)
  rw [if_pos c] at E
  have E2 := hid (show wrap64 (-cmpI (dif u t) 0) = cmpI 0 (dif u t) by rw [cmpI_anti 0 (dif u t)]; unfold wrap64; have := cmpI_bd (dif u t) 0; omega)
  clear c e1 e2 e3 e4
  go_enter Tryz.func224, Tryz.ntmps224
  go_wp2_with fail
  refine (Ref3.since u t U0.out.1 U0.out.2 T0.out.1 T0.out.2 _).mono ?_
  rintro e w1 ⟨s1, A1, n1, c1', rfl, hB1, hb1⟩
  have HT1 := hid (HT0.out _ hb1)
  have H1 := hid hB1
  clear hB1 hb1
  go_wp2_with fail
  refine (Ref.sign 70 s1 A1 n1 c1' _ _ H1.out).mono ?_
  rintro e w2 ⟨rfl, hb2⟩
  have HT2 := hid (HT1.out.below hb2)
  clear hb2 HT1
  go_wp2_with fail
  go_ret
  exact ⟨by rw [E.out, ← E2.out]; rfl, HT2.out.2.2⟩
end


section
open Go.RowKit
set_option maxRecDepth 100000
set_option maxHeartbeats 32000000
theorem Ref4.word (K : Nat) (hK : K ≤ 1000) (s : Bool) (A : Option Addr) (n c : Nat) (z : Int) (z0 : 0 ≤ z) (z1 : z ≤ 18446744073709551615) (w : World) (hz : IsB w K s A n c z) :
  Calls Tryz.prog 180 #[.agg #[.bool s, .slice A n c]] w (Ans (.int .u64 z) w) := by
 obtain ⟨zs, hX, hn, hnc, dX, nX, sX, eX⟩ := hz
 have hs : s = false := by
  cases s
  ·rfl
  ·have h1 := val_pos dX nX (sX rfl)
   simp at eX
   omega
 subst hs
 have eX2 : z = val zs := by simpa using eX
 have HX := hid hX
 have HD := hid dX
 have HE := hid eX2
 have HLZ := hid hX.1
 have Z1 := hid z1
 clear hX dX nX sX eX eX2 z0 z1
 have wN1 : IntKind.i64.wrap ((n : Int) - 1) = (n : Int) - 1 := by rw [IntKind.wrap_i64]; omega
 go_enter Tryz.func180, Tryz.ntmps180
 go_wp2_with fail
 go_loopg [3, 4] n (fun g a i wr => ∃ (r : Nat) (x y : Int), r ≤ n ∧ g = r ∧ i = .int .i64 x ∧ a = .int .u64 y ∧ Hid (x = (r : Int) - 1 ∧ y = val (zs.drop r)) ∧ Var wr w.heap.size false A n c ∧ Below w.heap.size w wr)
 case atStart =>
  refine ⟨n, _, 0, Nat.le_refl _, rfl, rfl, rfl, hid ⟨rfl, ?_⟩, Var.new _ _ _ _ _ _, (Below.refl _ _).alloc (Nat.le_refl _) _⟩
  rw [List.drop_of_length_le (by have := HLZ.out; omega)]; rfl
 case round =>
  obtain ⟨r, x, y, hr, hg, rfl, rfl, hI, hV, hB⟩ := hrel
  have HG := hid hg
  have HV := hid hV
  have HB := hid hB
  have hsz := hV.lt
  obtain ⟨v0, v1, v2, v3, _⟩ := hV
  clear hg hB
  rcases r with _ | j
  ·have hx : x = -1 := by have := hI.out.1; omega
   subst hx
   have hy := hI.out.2
   rw [List.drop_zero, ← HE.out] at hy
   have HY := hid hy
   clear hy hI
   go_wp2_with fail
   go_ret
   exact ⟨by rw [← HY.out]; rfl, HB.out⟩
  ·have hx : x = (j : Int) := by have := hI.out.1; omega
   subst hx
   obtain ⟨b2, off2, e2, hc⟩ := (HX.out.below HB.out).2 (by omega)
   subst e2
   have hcell := hc j (by omega)
   have hd := val_drop zs (i := j) (by have := HLZ.out; omega)
   have hle := val_drop_le HD.out j
   have hy0 := val_nonneg (HD.out.drop (j + 1))
   rw [← hI.out.2] at hd hy0
   rw [← HE.out] at hle
   have hdg := HD.out.getD j
   have HYN := hid (show 10000 * y + zs.getD j 0 = val (zs.drop j) by omega)
   generalize zs.getD j 0 = d at *
   have z1 := Z1.out
   have w1' : IntKind.u64.wrap (10000 * y) = 10000 * y := by rw [IntKind.wrap_u64]; omega
   have w2' : IntKind.u64.wrap d = d := by rw [IntKind.wrap_u64]; omega
   have w3' : IntKind.u64.wrap (10000 * y + d) = 10000 * y + d := by rw [IntKind.wrap_u64]; omega
   have hjn : (j : Int) < (n : Int) := by omega
   clear hc hd hle z1 hdg hy0
   go_wp2_with fail
   go_roundg j
   case measure => have := HG.out; omega
   case rel => exact ⟨j, _, _, by omega, rfl, rfl, rfl, hid ⟨rfl, HYN.out⟩, HV.out, HB.out⟩
theorem keepT {w0 w : World} {b0 o0 b1 o1 g : Nat} {v0 v1 : Value} (h : (w.cell? ⟨b0, o0, none⟩ = some v0 ∧ w.cell? ⟨b1, o1, none⟩ = some v1) ∧ Below w0.heap.size w0 w) (h0 : b0 ≠ g) (h1 : b1 ≠ g) (hg : w0.heap.size ≤ g) (x y z : Value) :
  ((((w.setCell ⟨g, 0, none⟩ x).setCell ⟨g, 1, none⟩ y).setCell ⟨g, 2, none⟩ z).cell? ⟨b0, o0, none⟩ = some v0 ∧ (((w.setCell ⟨g, 0, none⟩ x).setCell ⟨g, 1, none⟩ y).setCell ⟨g, 2, none⟩ z).cell? ⟨b1, o1, none⟩ = some v1) ∧ Below w0.heap.size w0 (((w.setCell ⟨g, 0, none⟩ x).setCell ⟨g, 1, none⟩ y).setCell ⟨g, 2, none⟩ z) := by
 have far : ∀ (w : World) (b q p : Nat) (x y : Value), b ≠ g → w.cell? ⟨b, q, none⟩ = some x → (w.setCell ⟨g, p, none⟩ y).cell? ⟨b, q, none⟩ = some x := fun w b q p x y hb hx =>
  (World.cell?_setCell_other w ⟨g, p, none⟩ ⟨b, q, none⟩ y (fun e => by injection e with e1; exact hb e1.symm)).trans hx
 exact ⟨⟨far _ _ _ _ _ _ h0 (far _ _ _ _ _ _ h0 (far _ _ _ _ _ _ h0 h.1.1)), far _ _ _ _ _ _ h1 (far _ _ _ _ _ _ h1 (far _ _ _ _ _ _ h1 h.1.2))⟩, ((h.2.setCell hg _).setCell hg _).setCell hg _⟩
theorem Ref4.at_weight (base v : Int) (s : Bool) (A : Option Addr) (n c : Nat) (hv : v < 1 ∨ (1 ≤ v ∧ 1048576 < v)) (w : World) :
  Calls Tryz.prog 129 #[.int .u64 base, .agg #[.bool s, .slice A n c], .int .u32 v] w (Ans (.tuple #[.agg #[.int .u64 0, .int .u32 0, .int .u32 0], .bool false]) w) := by
 rcases hv with h | ⟨h, h2⟩
 all_goals
  go_enter Tryz.func129, Tryz.ntmps129
  go_wp2_with fail
  refine bodyPost_ret (v := .tuple #[.agg #[.int .u64 0, .int .u32 0, .int .u32 0], .bool false]) (by simp [results, Tryz.results129, go_sem]) rfl ⟨rfl, ?_⟩
  exact ((Below.refl _ _).alloc (Nat.le_refl _) _).alloc (by simp) _
theorem Ref4.at_in (base z v : Int) (b0 : 0 ≤ base) (b1 : base ≤ 18446744073709551615) (s : Bool) (A : Option Addr) (n c : Nat) (v0 : 1 ≤ v) (v1 : v ≤ 1048576) (k : Bool) (hk : k = true ↔ (-9223372036854775808 ≤ z / v ∧ z / v < 9223372036854775808)) (T R V : Int) (hT : k = true → T = adv base (z / v) ∧ R = z % v ∧ v = V) (hF : k = false → T = 0 ∧ R = 0 ∧ V = 0) (w : World) (hz : IsB w 18 s A n c z) :
  Calls Tryz.prog 129 #[.int .u64 base, .agg #[.bool s, .slice A n c], .int .u32 v] w (Ans (.tuple #[.agg #[.int .u64 T, .int .u32 R, .int .u32 V], .bool k]) w) := by
 have HT := hid hT
 have HF := hid hF
 clear hT hF
 have HZ := hid hz
 have HK := hid hk
 have B0 := hid (And.intro b0 b1)
 have e1 : IntKind.i64.wrap v = v := by rw [IntKind.wrap_i64]; omega
 have e1' : wrap64 v = v := by unfold wrap64; omega
 have m0 := Int.emod_nonneg z (show v ≠ 0 by omega)
 have m1 := Int.emod_lt_of_pos z (show 0 < v by omega)
 have e2 : IntKind.u32.wrap (z % v) = z % v := by rw [IntKind.wrap_u32]; omega
 clear hz hk b0 b1 m0 m1
 go_enter Tryz.func129, Tryz.ntmps129
 go_wp2_with fail
 refine (Ref.div 18 (by decide) s A n c z v v0 (by omega) _ ((HZ.out.alloc _).alloc _)).mono ?_
 rintro e w3 ⟨s3, A3, n3, c3, rfl, hB, hb3⟩
 have H3 := hid (hB.alloc (.cells #[.bool s3, .slice A3 n3 c3] 198))
 have C3 := hid (Cs.alloc (Cs.below (by have := Cs.new3 (w.alloc (Obj.cells #[.bool s, .slice A n c] 198)) 57 (.int .u64 0) (.int .u32 0) (.int .u32 0); simpa using this : Cs ((w.alloc (Obj.cells #[.bool s, .slice A n c] 198)).alloc (Obj.cells #[.int .u64 0, .int .u32 0, .int .u32 0] 57)) (w.heap.size + 1) [.int .u64 0, .int .u32 0, .int .u32 0]) hb3) (.cells #[.bool s3, .slice A3 n3 c3] 198))
 have hw3 : w.heap.size + 1 < w3.heap.size := (Cs.below (by have := Cs.new3 (w.alloc (Obj.cells #[.bool s, .slice A n c] 198)) 57 (.int .u64 0) (.int .u32 0) (.int .u32 0); simpa using this : Cs ((w.alloc (Obj.cells #[.bool s, .slice A n c] 198)).alloc (Obj.cells #[.int .u64 0, .int .u32 0, .int .u32 0] 57)) (w.heap.size + 1) [.int .u64 0, .int .u32 0, .int .u32 0]) hb3).lt
 have hB3 := below_keep (((Below.refl _ w).alloc (Nat.le_refl _) (.cells #[.bool s, .slice A n c] 198)).alloc (by simp) (.cells #[.int .u64 0, .int .u32 0, .int .u32 0] 57)) hb3
 have B3 := hid (hB3.alloc hB3.size (.cells #[.bool s3, .slice A3 n3 c3] 198))
 have V3 := hid (Var.new w3 198 s3 A3 n3 c3)
 have bs := hB3.size
 clear hB hb3 hB3
 go_upto_region 4 with fail
 generalize w3.alloc (.cells #[.bool s3, .slice A3 n3 c3] 198) = w4 at *
 obtain ⟨x0, x1, _, _, _⟩ := V3.out
 go_wp2_with fail
 refine (Ref.small 24 (by decide) s3 A3 n3 c3 (z / v) _ H3.out k HK.out).mono ?_
 rintro e w5 ⟨rfl, hb5⟩
 have H5 := hid (H3.out.below hb5)
 have C5 := hid (C3.out.below hb5)
 have B5 := hid (below_keep B3.out hb5)
 have V5 := hid (V3.out.below hb5)
 clear hb5 x0 x1
 rcases k with _ | _
 ·obtain ⟨rfl, rfl, rfl⟩ := HF.out rfl
  have y0 := C5.out.at0
  have y1 := C5.out.at1
  have y2 := C5.out.at2
  have y3 := C5.out.fr0
  have y4 := C5.out.fr1
  have y5 := C5.out.fr2
  go_wp2_with fail
  refine bodyPost_ret (v := .tuple #[.agg #[.int .u64 0, .int .u32 0, .int .u32 0], .bool false]) (by simp [results, Tryz.results129, go_sem, y0, y1, y2]) rfl ⟨rfl, ?_⟩
  exact ((B5.out.setCell (by simp) _).setCell (by simp) _).setCell (by simp) _
 ·obtain ⟨rfl, rfl, rfl⟩ := HT.out rfl
  have HR := hid (HK.out.1 rfl)
  have HRG := hid (show -18446744073709551616 ≤ base + z / v ∧ base + z / v < 36893488147419103232 by have h1 := HR.out; have h2 := B0.out; omega)
  have HAD := hid (show (base + z / v) % 18446744073709551616 = adv base (z / v) from rfl)
  have HAT := hid (adv_T base (z / v))
  obtain ⟨x0, x1, _, _, _⟩ := V5.out
  have HS0 := hid (And.intro (And.intro x0 x1) B5.out)
  clear x0 x1
  go_wp2_with fail
  go_region_held3 (fun w' => (w'.cell? ⟨w3.heap.size, 0, none⟩ = some (.bool s3) ∧ w'.cell? ⟨w3.heap.size, 1, none⟩ = some (.slice A3 n3 c3)) ∧ Below w.heap.size w w')
   (first | exact ⟨HS0.out.1, HS0.out.2.drew⟩ | exact ⟨keep2 (And.left (by assumption : _ ∧ Below w.heap.size w _)) hb6, below_keep (And.right (by assumption : _ ∧ Below w.heap.size w _)) hb6⟩ | exact keepT (by assumption) (by omega) (by omega) (by omega) _ _ _)
   (first
    | (go_at_call 131; refine (Ref.U base B0.out.1 B0.out.2 _).mono ?_; rintro e w6 ⟨s6, A6, n6, c6, rfl, hB, hb6⟩; have H6 := hid (hB.mono (show 5 ≤ 24 by decide)); have H56 := hid (IsB.below (w := w5.drew) H5.out hb6); have C6 := hid (Cs.below (w := w5.drew) C5.out hb6); clear hB)
    | (go_at_call 130; refine (Ref.add 24 s6 s3 A6 A3 n6 c6 n3 c3 _ _ _ H6.out H56.out (by decide)).mono ?_; rintro e w7 ⟨s7, A7, n7, c7, rfl, hB, hb6⟩; have H7 := hid (hB.mono (show 24 + 1 ≤ 100 by decide)); have C7 := hid (C6.out.below hb6); clear hB)
    | (go_at_call 181; refine (Ref3.round 100 (by decide) (by decide) s7 A7 n7 c7 _ HRG.out.1 HRG.out.2 _ H7.out).mono ?_; rintro e w8 ⟨s8, A8, n8, c8, rfl, hB, hb6⟩; rw [HAD.out] at hB; have H8 := hid hB; have C8 := hid (C7.out.below hb6); clear hB)
    | (go_at_call 180; refine (Ref4.word 102 (by decide) s8 A8 n8 c8 _ HAT.out.1 HAT.out.2 _ H8.out).mono ?_; rintro e w9 ⟨rfl, hb6⟩; have C9 := hid (C8.out.below hb6); have y0 := C9.out.at0; have y1 := C9.out.at1; have y2 := C9.out.at2; have y3 := C9.out.fr0; have y4 := C9.out.fr1; have y5 := C9.out.fr2))
  have HFIN := hid (And.right (by assumption : (_ ∧ _) ∧ Below w.heap.size w (((w9.setCell ⟨w.heap.size + 1, 0, none⟩ (.int .u64 (adv base (z / v)))).setCell ⟨w.heap.size + 1, 1, none⟩ (.int .u32 (z % v))).setCell ⟨w.heap.size + 1, 2, none⟩ (.int .u32 v))))
  go_wp2
  exact bodyPost_ret (v := .tuple #[.agg #[.int .u64 (adv base (z / v)), .int .u32 (z % v), .int .u32 v], .bool true]) (by simp [results, Tryz.results129, go_sem, y0, y1, y2]) rfl ⟨rfl, HFIN.out⟩
end

end Go.Proofs.YtjndmmcjobbcbaaGreatDoor

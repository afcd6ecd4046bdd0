import Derived.Test.YtbcepkfdlaioaaaGreatDtreePlaysZ20
import Derived.Test.YtbcepkfdlaioaaaGreatDtreePlaysZ10
namespace Go.Proofs.YtbcepkfdlaioaaaGreat
open Go.RowKit
set_option maxHeartbeats 1000000 in
theorem Law4.of (t r v : Int) (w : World) : Calls Tryz.prog 37 #[.agg #[.int .u64 t, .int .u32 r, .int .u32 v]] w (Ans (.agg #[.int .u64 t, .int .u32 r, .int .u32 v]) w) := by
 go_enter Tryz.func37, Tryz.ntmps37
 go_wp2_with fail
 refine bodyPost_ret (v := .agg #[.int .u64 t, .int .u32 r, .int .u32 v]) (by simp [results, Tryz.results37, go_sem]) rfl ⟨rfl, ?_⟩
 exact ((Below.refl _ _).alloc (Nat.le_refl _) _).alloc (by simp) _
theorem Two.see6 {w0 w : World} {N M : Nat} {a b c d e f : Value} (h : Two w0 N [a, b, c] M [d, e, f] w) :
  ((w.cell? ⟨N, 0, none⟩ = some a ∧ w.cell? ⟨N, 1, none⟩ = some b ∧ w.cell? ⟨N, 2, none⟩ = some c) ∧ (w.cell? ⟨M, 0, none⟩ = some d ∧ w.cell? ⟨M, 1, none⟩ = some e ∧ w.cell? ⟨M, 2, none⟩ = some f)) ∧ Two w0 N [a, b, c] M [d, e, f] w :=
 ⟨⟨⟨h.1.at0, h.1.at1, h.1.at2⟩, ⟨h.2.1.at0, h.2.1.at1, h.2.1.at2⟩⟩, h⟩
set_option maxRecDepth 100000 in
set_option maxHeartbeats 4000000 in
theorem Ref4.cmp (t r v u s y : Int) (t0 : 0 ≤ t) (t1 : t ≤ 18446744073709551615) (r0 : 0 ≤ r) (r1 : r ≤ 4294967295) (v0 : 0 ≤ v) (v1 : v ≤ 4294967295) (u0 : 0 ≤ u) (u1 : u ≤ 18446744073709551615) (s0 : 0 ≤ s) (s1 : s ≤ 4294967295) (y0 : 0 ≤ y) (y1 : y ≤ 4294967295) (w : World) :
  Calls Tryz.prog 51 #[.agg #[.int .u64 t, .int .u32 r, .int .u32 v], .agg #[.int .u64 u, .int .u32 s, .int .u32 y]] w (Ans (.int .i64 (posC t r v u s y)) w) := by
 have e1 := up32 r0 r1
 have e2 := up32 v0 v1
 have e3 := up32 s0 s1
 have e4 := up32 y0 y1
 have R0 := hid (And.intro r0 (show r ≤ 18446744073709551615 by omega))
 have V0 := hid (And.intro v0 (show v ≤ 18446744073709551615 by omega))
 have S0 := hid (And.intro s0 (show s ≤ 18446744073709551615 by omega))
 have Y0 := hid (And.intro y0 (show y ≤ 18446744073709551615 by omega))
 have T0 := hid (And.intro t0 t1)
 have U0 := hid (And.intro u0 u1)
 clear r0 r1 v0 v1 s0 s1 y0 y1 t0 t1 u0 u1
 have E : Hid (posC t r v u s y = if dif u t ≠ 0 then cmpI 0 (dif u t) else cmpI (r * y) (s * v)) := rfl
 have HT0 : Hid (∀ w' : World, Below ((w.alloc (Obj.cells #[.int .u64 t, .int .u32 r, .int .u32 v] 46)).alloc (Obj.cells #[.int .u64 u, .int .u32 s, .int .u32 y] 46)).heap.size ((w.alloc (Obj.cells #[.int .u64 t, .int .u32 r, .int .u32 v] 46)).alloc (Obj.cells #[.int .u64 u, .int .u32 s, .int .u32 y] 46)) w' → Two w w.heap.size [.int .u64 t, .int .u32 r, .int .u32 v] (w.heap.size + 1) [.int .u64 u, .int .u32 s, .int .u32 y] w') :=
  hid (fun w' hb => Two.below ⟨(Cs.new3 _ _ _ _ _).alloc _, by have := Cs.new3 (w.alloc (Obj.cells #[.int .u64 t, .int .u32 r, .int .u32 v] 46)) 46 (.int .u64 u) (.int .u32 s) (.int .u32 y); simpa using this, ((Below.refl _ _).alloc (Nat.le_refl _) _).alloc (by simp) _⟩ hb)
 by_cases c : dif u t = 0
 ·have c1 : (cmpI (dif u t) 0 != 0) = false := by rw [c]; rfl
  rw [if_neg (by omega)] at E
  clear c
  go_enter Tryz.func51, Tryz.ntmps51
  go_wp2_with fail
  refine (Ref3.since u t U0.out.1 U0.out.2 T0.out.1 T0.out.2 _).mono ?_
  rintro e w1 ⟨s1, A1, n1, c1', rfl, hB1, hb1⟩
  have HT1 := hid (HT0.out _ hb1)
  have H1 := hid hB1
  clear hB1 hb1
  go_wp2_with fail
  refine (Ref.sign 70 s1 A1 n1 c1' _ _ H1.out).mono ?_
  rintro e w2 ⟨rfl, hb2⟩
  have HT2 := hid (HT1.out.below hb2)
  clear hb2 HT1
  go_wp2_with fail
  clear c1
  go_region_held3 (fun w' => ((w'.cell? ⟨w.heap.size, 0, none⟩ = some (.int .u64 t) ∧ w'.cell? ⟨w.heap.size, 1, none⟩ = some (.int .u32 r) ∧ w'.cell? ⟨w.heap.size, 2, none⟩ = some (.int .u32 v)) ∧ (w'.cell? ⟨w.heap.size + 1, 0, none⟩ = some (.int .u64 u) ∧ w'.cell? ⟨w.heap.size + 1, 1, none⟩ = some (.int .u32 s) ∧ w'.cell? ⟨w.heap.size + 1, 2, none⟩ = some (.int .u32 y))) ∧ Two w w.heap.size [.int .u64 t, .int .u32 r, .int .u32 v] (w.heap.size + 1) [.int .u64 u, .int .u32 s, .int .u32 y] w')
   (first | with_reducible exact HT2.out.drew.see6 | with_reducible exact Two.see6 ((And.right (by assumption : (_ ∧ _) ∧ Two w w.heap.size [.int .u64 t, .int .u32 r, .int .u32 v] (w.heap.size + 1) [.int .u64 u, .int .u32 s, .int .u32 y] _)).below hb3))
   (first
    | (go_at_call_of 76 (Value.int .u64 r); refine (Ref.U r R0.out.1 R0.out.2 _).mono ?_; rintro e w3 ⟨s3, A3, n3, c3, rfl, hB, hb3⟩; have H3 := hid hB; clear hB)
    | (go_at_call_of 76 (Value.int .u64 y); refine (Ref.U y Y0.out.1 Y0.out.2 _).mono ?_; rintro e w4 ⟨s4, A4, n4, c4, rfl, hB, hb3⟩; have H4 := hid hB; have H3' := hid (H3.out.below hb3); clear hB)
    | (go_at_call_of 75 (Value.agg #[Value.bool s3, Value.slice A3 n3 c3]); refine (Ref.mul 5 5 s3 s4 A3 A4 n3 c3 n4 c4 _ _ _ H3'.out H4.out (by decide) (by decide)).mono ?_; rintro e w5 ⟨s5, A5, n5, c5, rfl, hB, hb3⟩; have H5 := hid hB; clear hB)
    | (go_at_call_of 76 (Value.int .u64 s); refine (Ref.U s S0.out.1 S0.out.2 _).mono ?_; rintro e w6 ⟨s6, A6, n6, c6, rfl, hB, hb3⟩; have H6 := hid hB; have H5' := hid (H5.out.below hb3); clear hB)
    | (go_at_call_of 76 (Value.int .u64 v); refine (Ref.U v V0.out.1 V0.out.2 _).mono ?_; rintro e w7 ⟨s7, A7, n7, c7, rfl, hB, hb3⟩; have H7 := hid hB; have H6' := hid (H6.out.below hb3); have H5'' := hid (H5'.out.below hb3); clear hB)
    | (go_at_call_of 75 (Value.agg #[Value.bool s6, Value.slice A6 n6 c6]); refine (Ref.mul 5 5 s6 s7 A6 A7 n6 c6 n7 c7 _ _ _ H6'.out H7.out (by decide) (by decide)).mono ?_; rintro e w8 ⟨s8, A8, n8, c8, rfl, hB, hb3⟩; have H8 := hid hB; have H53 := hid (H5''.out.below hb3); clear hB)
    | (go_at_call 74; refine (Ref.cmp 11 s5 s8 A5 A8 n5 c5 n8 c8 _ _ _ H53.out H8.out (by decide)).mono ?_; rintro e w9 ⟨rfl, hb3⟩))
  have HFIN := hid (And.right (by assumption : (_ ∧ _) ∧ Two w w.heap.size [.int .u64 t, .int .u32 r, .int .u32 v] (w.heap.size + 1) [.int .u64 u, .int .u32 s, .int .u32 y] w9)).2.2
  go_wp2
  go_ret
  exact ⟨by rw [E.out]; rfl, HFIN.out⟩
 ·have c1 : (cmpI (dif u t) 0 != 0) = true := by rw [bne_iff_ne]; intro h; exact c ((cmpI_zero _ _).1 h)
  rw [if_pos c] at E
  have E2 := hid (show wrap64 (-cmpI (dif u t) 0) = cmpI 0 (dif u t) by rw [cmpI_anti 0 (dif u t)]; unfold wrap64; have := cmpI_bd (dif u t) 0; omega)
  clear c e1 e2 e3 e4
  go_enter Tryz.func51, Tryz.ntmps51
  go_wp2_with fail
  refine (Ref3.since u t U0.out.1 U0.out.2 T0.out.1 T0.out.2 _).mono ?_
  rintro e w1 ⟨s1, A1, n1, c1', rfl, hB1, hb1⟩
  have HT1 := hid (HT0.out _ hb1)
  have H1 := hid hB1
  clear hB1 hb1
  go_wp2_with fail
  refine (Ref.sign 70 s1 A1 n1 c1' _ _ H1.out).mono ?_
  rintro e w2 ⟨rfl, hb2⟩
  have HT2 := hid (HT1.out.below hb2)
  clear hb2 HT1
  go_wp2_with fail
  go_ret
  exact ⟨by rw [E.out, ← E2.out]; rfl, HT2.out.2.2⟩
end Go.Proofs.YtbcepkfdlaioaaaGreat

/- VtimeTells: the walk. -/
import Derived.Test.YtjklcbbanlaicaaRound
import Derived.Test.YtjklcbbanlaicaaVturns
namespace Go.Proofs.Ytjklcbbanlaicaa
open Go.RowKit

set_option maxRecDepth 100000 in
set_option maxHeartbeats 8000000 in
theorem Vtells.walk (t u d : Int) (t0 : 0 ≤ t) (t1 : t ≤ 18446744073709551615) (u0 : 0 ≤ u) (u1 : u ≤ 18446744073709551615) (d0 : -9223372036854775808 ≤ d) (d1 : d ≤ 9223372036854775807) (w : World) :
    Calls Try.prog 8 #[.int .u64 t, .int .u64 u, .int .i64 d] w fun e w' => e = .returned (.bool true) ∧ Below w.heap.size w w' := by
  have f1 : ∀ x : Int, (cmpI x x == 0) = true := fun x => by rw [cmpI_eq]; rfl
  have T0 := hid t0
  have T1 := hid t1
  have U0 := hid u0
  have U1 := hid u1
  have D0 := hid d0
  have D1 := hid d1
  have HX := hid (dif_bd t u)
  have HY := hid (adv_T t d)
  have HZ := hid (show -18446744073709551616 ≤ t + d ∧ t + d < 36893488147419103232 by omega)
  clear t0 t1 u0 u1 d0 d1
  go_enter Try.func8, Try.ntmps8
  go_wp2_with fail
  refine (Law3.awake _).mono ?_
  rintro e w1 ⟨rfl, hb1⟩
  have HB1 := hid hb1
  clear hb1
  go_wp2_with fail
  refine (Vtime.since t u _).mono ?_
  rintro e w2 ⟨rfl, hb2⟩
  have HB2 := hid (below_keep HB1.out hb2)
  clear hb2
  go_wp2_with fail
  refine (Ref.N (dif t u) HX.out.1 HX.out.2 _).mono ?_
  rintro e w3 ⟨s3, A3, n3, c3, rfl, hB, hb2⟩
  have H3 := hid (hB.mono (show 5 ≤ 70 by decide))
  clear hB
  have HB3 := hid (below_keep HB2.out hb2)
  clear hb2
  go_wp2_with fail
  refine (Ref3.since t u T0.out T1.out U0.out U1.out _).mono ?_
  rintro e w4 ⟨s4, A4, n4, c4, rfl, hB, hb2⟩
  have H4 := hid hB
  have H3' := hid (H3.out.below hb2)
  clear hB
  have HB4 := hid (below_keep HB3.out hb2)
  clear hb2
  go_wp2_with fail
  refine (Ref.cmp 70 s3 s4 A3 A4 n3 c3 n4 c4 _ _ _ H3'.out H4.out (by decide)).mono ?_
  rintro e w5 ⟨rfl, hb2⟩
  have HB5 := hid (below_keep HB4.out hb2)
  clear hb2
  go_wp2_with fail
  refine (Vtime.before t u _).mono ?_
  rintro e w6 ⟨rfl, hb2⟩
  have HB6 := hid (below_keep HB5.out hb2)
  clear hb2
  go_wp2_with fail
  refine (Ref3.before t u T0.out T1.out U0.out U1.out _).mono ?_
  rintro e w7 ⟨rfl, hb2⟩
  have HB7 := hid (below_keep HB6.out hb2)
  clear hb2
  go_wp2_with fail
  refine (Vtime.add t d _).mono ?_
  rintro e w8 ⟨rfl, hb2⟩
  have HB8 := hid (below_keep HB7.out hb2)
  clear hb2
  go_wp2_with fail
  refine (Ref.U (adv t d) HY.out.1 HY.out.2 _).mono ?_
  rintro e w9 ⟨s9, A9, n9, c9, rfl, hB, hb2⟩
  have H9 := hid (hB.mono (show 5 ≤ 71 by decide))
  clear hB
  have HB9 := hid (below_keep HB8.out hb2)
  clear hb2
  go_wp2_with fail
  refine (Ref.U t T0.out T1.out _).mono ?_
  rintro e w10 ⟨s10, A10, n10, c10, rfl, hB, hb2⟩
  have H10 := hid hB
  have H9' := hid (H9.out.below hb2)
  clear hB
  have HB10 := hid (below_keep HB9.out hb2)
  clear hb2
  go_wp2_with fail
  refine (Ref.N d D0.out D1.out _).mono ?_
  rintro e w11 ⟨s11, A11, n11, c11, rfl, hB, hb2⟩
  have H11 := hid hB
  have H9'' := hid (H9'.out.below hb2)
  have H10' := hid (H10.out.below hb2)
  clear hB
  have HB11 := hid (below_keep HB10.out hb2)
  clear hb2
  go_wp2_with fail
  refine (Ref.add 5 s10 s11 A10 A11 n10 c10 n11 c11 _ _ _ H10'.out H11.out (by decide)).mono ?_
  rintro e w12 ⟨s12, A12, n12, c12, rfl, hB, hb2⟩
  have H12 := hid (hB.mono (show 6 ≤ 69 by decide))
  have H93 := hid (H9''.out.below hb2)
  clear hB
  have HB12 := hid (below_keep HB11.out hb2)
  clear hb2
  go_wp2_with fail
  refine (Ref3.round 69 (by decide) (by decide) s12 A12 n12 c12 _ HZ.out.1 HZ.out.2 _ H12.out).mono ?_
  rintro e w13 ⟨s13, A13, n13, c13, rfl, hB, hb2⟩
  have H13 := hid (show IsB _ 71 s13 A13 n13 c13 (adv t d) from hB)
  have H94 := hid (H93.out.below hb2)
  clear hB
  have HB13 := hid (below_keep HB12.out hb2)
  clear hb2
  go_wp2_with fail
  refine (Ref.cmp 71 s9 s13 A9 A13 n9 c9 n13 c13 _ _ _ H94.out H13.out (by decide)).mono ?_
  rintro e w14 ⟨rfl, hb2⟩
  have HB14 := hid (below_keep HB13.out hb2)
  clear hb2
  go_wp2_with fail
  have HFIN := hid HB14.out
  go_wp2
  go_ret
  exact ⟨by simp, HFIN.out⟩

theorem Vtells.law (a0 a1 a2 : Int) (w : World) (w0 : (Lit.int .u64 a0).wf = true) (w1 : (Lit.int .u64 a1).wf = true) (w2 : (Lit.int .i64 a2).wf = true) :
    Calls Try.prog 8 #[.int .u64 a0, .int .u64 a1, .int .i64 a2] w fun e w' => e = .returned (.bool true) ∧ Below w.heap.size w w' :=
  Vtells.walk a0 a1 a2 (bounds_u64 w0).1 (bounds_u64 w0).2 (bounds_u64 w1).1 (bounds_u64 w1).2 (bounds_i64 w2).1 (bounds_i64 w2).2 w

end Go.Proofs.Ytjklcbbanlaicaa

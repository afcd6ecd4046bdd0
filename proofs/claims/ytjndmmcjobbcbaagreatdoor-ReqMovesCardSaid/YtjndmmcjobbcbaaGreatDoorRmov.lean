import Derived.Test.YtjndmmcjobbcbaaGreatDoorReqMovesZ47
import Derived.Test.YtjndmmcjobbcbaaGreatDoorReqMovesZ21
import Derived.BigGuard
import Derived.BigCall
namespace Go.Proofs.YtjndmmcjobbcbaaGreatDoor
open Go.RowKit
theorem Pos.moveU (p : P3) (hp : PIn p) (h : IsP p.2.1 p.2.2) (n : Int) (n0 : 0 ≤ n) (n1 : n ≤ 1099511627776) (w : World) : Calls Tryz.prog 42 #[pv p, .int .u64 (gw n)] w (Ans (.tuple #[pv (dueP p n), .bool true]) w) := by
  have := Pos.moveD p.1 p.2.1 p.2.2 n hp w
  rw [show atOk (gw n + p.2.1) p.2.2 = true by rw [gw_eq n0 n1]; exact atOk_iff.2 (move_ok h (by omega) (by omega))] at this
  exact this
section
attribute [local go_sem] Pos.eqB
set_option maxRecDepth 100000 in
set_option maxHeartbeats 8000000 in
theorem Rmov.go (p q : P3) (slice sv : Int) (w : World) (hp : PIn p) (hq : PIn q) (hs : IsT slice) (hsv : IsT sv) (htab : Tab10 w.heap.size w) : Calls Tryz.prog 9 #[pv p, pv q, .int .u64 slice, .int .u64 sv] w (Ans (.bool true) w) := by
  have HP := hid hp
  have HQ := hid hq
  have HS := hid hs
  have HSV := hid hsv
  have HTAB := hid htab
  clear hp hq hs hsv htab
  have HV0 : Hid (VS w [(w.heap.size, (pcells p)), (w.heap.size + 1, (pcells q))] ((w.alloc (.cells #[.int .u64 p.1, .int .u32 p.2.1, .int .u32 p.2.2] 27)).alloc (.cells #[.int .u64 q.1, .int .u32 q.2.1, .int .u32 q.2.2] 27))) := hid (by have h := (((VS.nil w).new 27 (pcells p)).new 27 (pcells q)); (try simp only [World.size_alloc] at h); exact h)
  go_enter Tryz.func9, Tryz.ntmps9
  go_wp2_with fail
  generalize ((w.alloc (.cells #[.int .u64 p.1, .int .u32 p.2.1, .int .u32 p.2.2] 27)).alloc (.cells #[.int .u64 q.1, .int .u32 q.2.1, .int .u32 q.2.2] 27)) = W0 at HV0 ⊢
  refine (Law15.awake _ (HTAB.out.at2 HV0.out.bel)).mono ?_
  rintro e w1 ⟨rfl, hb⟩
  have HV1 := hid (HV0.out.below hb)
  clear hb HV0 
  obtain ⟨p0, p1, p2⟩ := P3.at p (HV1.out.cs 0 rfl)
  go_wp2_with fail
  by_cases h0 : ¬ (pR p = true ∧ slI slice = true)
  · have HRN := hid (new_no HP.out (id := 5) (by decide) h0)
    clear h0
    refine (Req.new p HP.out 5 slice ⟨by decide, by decide⟩ HS.out _).mono ?_
    rw [HRN.out]
    rintro e w2 ⟨rfl, hb⟩
    have HV2 := hid (HV1.out.below hb)
    clear hb HV1 p0 p1 p2
    have HV3 : Hid (VS w [(w.heap.size, (pcells p)), (w.heap.size + 1, (pcells q)), (w2.heap.size, Rq.no.cells)] (w2.alloc (.cells #[.int .u64 0, .int .u32 0, .int .u32 0, .int .i64 0, .int .u64 0, .int .u32 0, .int .u32 0, .int .u64 0, .int .u64 0, .bool false] 53))) := hid (HV2.out.new 53 Rq.no.cells)
    clear HV2
    go_wp2_with (first | ((with_reducible refine wpList_put_vs HV3.out 2 53 [.int .u64 0, .int .u32 0, .int .u32 0, .int .i64 0, .int .u64 0, .int .u32 0, .int .u32 0, .int .u64 0, .int .u64 0, .bool false] infoReq rfl (.tmp 9) (.tmp 23) rfl (w2.heap.size) (Rq.no.cells) ?vs11001a 0 ?vs11001b ?vs11001c ?vs11001d ?vs11001e ?vs11001f ?vs11001g); (case vs11001a => rfl); (case vs11001b => rfl); (case vs11001c => exact of_decide_eq_true rfl); (case vs11001d => rfl); (case vs11001e => rfl); (case vs11001f => rfl); (intro W2 hW2); (have HV4 : Hid (VS w [(w.heap.size, (pcells p)), (w.heap.size + 1, (pcells q)), (w2.heap.size, Rq.no.cells)] W2) := hid hW2); (clear hW2 HV3)) | fail)
    go_ret
    exact ⟨rfl, HV4.out.bel⟩
  · have h0' : pR p = true ∧ slI slice = true := Classical.not_not.1 h0
    obtain ⟨r, hrn, hri, hrr, hrid, hrl, hrs⟩ := new_yes HP.out (id := 5) (sl := slice) (by decide) (by decide) h0'.1 h0'.2
    have HRN := hid hrn
    have HR1 := hid hri
    have HR2 := hid hrr
    have HR3 := hid hrid
    have HRLL := hid hrl
    clear hrn hri hrr hrid hrl hrs h0 h0'
    refine (Req.new p HP.out 5 slice ⟨by decide, by decide⟩ HS.out _).mono ?_
    rw [HRN.out]
    rintro e w2 ⟨rfl, hb⟩
    have HV2 := hid (HV1.out.below hb)
    clear hb HV1 p0 p1 p2
    have HV3 : Hid (VS w [(w.heap.size, (pcells p)), (w.heap.size + 1, (pcells q)), (w2.heap.size, Rq.no.cells)] (w2.alloc (.cells #[.int .u64 0, .int .u32 0, .int .u32 0, .int .i64 0, .int .u64 0, .int .u32 0, .int .u32 0, .int .u64 0, .int .u64 0, .bool false] 53))) := hid (HV2.out.new 53 Rq.no.cells)
    clear HV2
    by_cases g1 : slice ≤ sv
    · go_wp2_with (first | ((with_reducible refine wpList_put_vs HV3.out 2 53 [.int .u64 r.a.t, .int .u32 r.a.r, .int .u32 r.a.v, .int .i64 r.a.i, .int .u64 r.a.u, .int .u32 r.a.s, .int .u32 r.a.y, .int .u64 r.l, .int .u64 r.s, .bool r.z] infoReq rfl (.tmp 9) (.tmp 23) rfl (w2.heap.size) (Rq.no.cells) ?vs11002a 0 ?vs11002b ?vs11002c ?vs11002d ?vs11002e ?vs11002f ?vs11002g); (case vs11002a => rfl); (case vs11002b => rfl); (case vs11002c => exact of_decide_eq_true rfl); (case vs11002d => rfl); (case vs11002e => rfl); (case vs11002f => rfl); (intro W2 hW2); (have HV4 : Hid (VS w [(w.heap.size, (pcells p)), (w.heap.size + 1, (pcells q)), (w2.heap.size, r.cells)] W2) := hid hW2); (clear hW2 HV3)) | fail)
      go_ret
      exact ⟨rfl, HV4.out.bel⟩
    · by_cases g2 : 0 < sv
      · obtain ⟨he, hw⟩ := went_of HR1.out HR2.out (n := sv) (by omega) (by have := HRLL.out; omega)
        obtain ⟨x, hx⟩ : ∃ x, r.went sv = x := ⟨_, rfl⟩
        rw [hx] at he hw
        have HX1 := hid hw.In
        have HX2 := hid hw.right
        have HX3 : Hid (x.a.i = 5) := hid (hw.i.trans HR3.out)
        have HSE := hid he
        clear he hw hx
        go_wp2_with (first | ((with_reducible refine wpList_put_vs HV3.out 2 53 [.int .u64 r.a.t, .int .u32 r.a.r, .int .u32 r.a.v, .int .i64 r.a.i, .int .u64 r.a.u, .int .u32 r.a.s, .int .u32 r.a.y, .int .u64 r.l, .int .u64 r.s, .bool r.z] infoReq rfl (.tmp 9) (.tmp 23) rfl (w2.heap.size) (Rq.no.cells) ?vs11003a 0 ?vs11003b ?vs11003c ?vs11003d ?vs11003e ?vs11003f ?vs11003g); (case vs11003a => rfl); (case vs11003b => rfl); (case vs11003c => exact of_decide_eq_true rfl); (case vs11003d => rfl); (case vs11003e => rfl); (case vs11003f => rfl); (intro W2 hW2); (have HV4 : Hid (VS w [(w.heap.size, (pcells p)), (w.heap.size + 1, (pcells q)), (w2.heap.size, r.cells)] W2) := hid hW2); (clear hW2 HV3); (obtain ⟨c0, c1, c2, c3, c4, c5, c6, c7, c8, c9⟩ := Rq.at r (HV4.out.cs 2 rfl))) | fail)
        refine (Req.serve r HR1.out sv HSV.out _).mono ?_
        rw [HSE.out]
        rintro e w3 ⟨rfl, hb⟩
        have HV5 := hid (HV4.out.below hb)
        clear hb HV4 c0 c1 c2 c3 c4 c5 c6 c7 c8 c9
        clear g1 g2
        go_upto_region 8 with (first | ((with_reducible refine wpList_put_vs HV5.out 2 53 [.int .u64 x.a.t, .int .u32 x.a.r, .int .u32 x.a.v, .int .i64 x.a.i, .int .u64 x.a.u, .int .u32 x.a.s, .int .u32 x.a.y, .int .u64 x.l, .int .u64 x.s, .bool x.z] infoReq rfl (.tmp 9) (.tmp 38) rfl (w2.heap.size) (r.cells) ?vs11004a 0 ?vs11004b ?vs11004c ?vs11004d ?vs11004e ?vs11004f ?vs11004g); (case vs11004a => rfl); (case vs11004b => rfl); (case vs11004c => exact of_decide_eq_true rfl); (case vs11004d => rfl); (case vs11004e => rfl); (case vs11004f => rfl); (intro W2 hW2); (have HV6 : Hid (VS w [(w.heap.size, (pcells p)), (w.heap.size + 1, (pcells q)), (w2.heap.size, x.cells)] W2) := hid hW2); (clear hW2 HV5)) | fail)
        obtain ⟨c0, c1, c2, c3, c4, c5, c6, c7, c8, c9⟩ := Rq.at x (HV6.out.cs 2 rfl)
        obtain ⟨q0, q1, q2⟩ := P3.at q (HV6.out.cs 1 rfl)
        go_wp2_with fail
        cases hq : pR q with
        | false =>
          have HPQ := hid hq
          refine (Req.moved x HX1.out q HQ.out _).mono ?_
          rw [moved_of HX1.out HX2.out HQ.out, hq, if_neg (by decide)]
          rintro e w8 ⟨rfl, hb⟩
          have HV7 := hid (HV6.out.below hb)
          clear hb HV6 c0 c1 c2 c3 c4 c5 c6 c7 c8 c9 q0 q1 q2
          have HV8 : Hid (VS w [(w.heap.size, (pcells p)), (w.heap.size + 1, (pcells q)), (w2.heap.size, x.cells), (w8.heap.size, Rq.no.cells)] (w8.alloc (.cells #[.int .u64 0, .int .u32 0, .int .u32 0, .int .i64 0, .int .u64 0, .int .u32 0, .int .u32 0, .int .u64 0, .int .u64 0, .bool false] 53))) := hid (HV7.out.new 53 Rq.no.cells)
          clear HV7
          clear hq
          go_wp2_with (first | ((with_reducible refine wpList_put_vs HV8.out 3 53 [.int .u64 0, .int .u32 0, .int .u32 0, .int .i64 0, .int .u64 0, .int .u32 0, .int .u32 0, .int .u64 0, .int .u64 0, .bool false] infoReq rfl (.tmp 11) (.tmp 45) rfl (w8.heap.size) (Rq.no.cells) ?vs11005a 0 ?vs11005b ?vs11005c ?vs11005d ?vs11005e ?vs11005f ?vs11005g); (case vs11005a => rfl); (case vs11005b => rfl); (case vs11005c => exact of_decide_eq_true rfl); (case vs11005d => rfl); (case vs11005e => rfl); (case vs11005f => rfl); (intro W2 hW2); (have HV9 : Hid (VS w [(w.heap.size, (pcells p)), (w.heap.size + 1, (pcells q)), (w2.heap.size, x.cells), (w8.heap.size, Rq.no.cells)] W2) := hid hW2); (clear hW2 HV8); (obtain ⟨q0, q1, q2⟩ := P3.at q (HV9.out.cs 1 rfl))) | fail)
          refine (Pos.rightF q _).mono ?_
          rw [HPQ.out]
          rintro e w9 ⟨rfl, hb⟩
          have HV10 := hid (HV9.out.below hb)
          clear hb HV9 q0 q1 q2
          obtain ⟨c0, c1, c2, c3, c4, c5, c6, c7, c8, c9⟩ := Rq.at Rq.no (HV10.out.cs 3 rfl)
          go_wp2_with fail
          go_ret
          exact ⟨rfl, HV10.out.bel⟩
        | true =>
          have HPQ := hid hq
          obtain ⟨d, hd⟩ : ∃ d, dueP q x.l = d := ⟨_, rfl⟩
          have HDD := hid hd
          have HMV : Hid (Rq.from_ x q = (Rq.mk (It.mk q.1 q.2.1 q.2.2 x.a.i d.1 d.2.1 d.2.2) x.l x.s x.z)) := hid (by unfold Rq.from_; rw [hd])
          have hmr := moved_right HX1.out HX2.out HQ.out hq
          have hmb := moved_back HX1.out HX2.out HQ.out hq
          rw [HMV.out] at hmr hmb
          have HMR := hid hmr
          have HMB := hid hmb
          have HQP := hid (pR_isP HQ.out hq)
          have HRL := hid (slI_iff.1 (right_parts HX1.out HX2.out).2.2.1)
          clear hq hd hmr hmb
          refine (Req.moved x HX1.out q HQ.out _).mono ?_
          rw [moved_of HX1.out HX2.out HQ.out, HPQ.out, if_pos rfl, HMV.out]
          rintro e w8 ⟨rfl, hb⟩
          have HV7 := hid (HV6.out.below hb)
          clear hb HV6 c0 c1 c2 c3 c4 c5 c6 c7 c8 c9 q0 q1 q2
          have HV8 : Hid (VS w [(w.heap.size, (pcells p)), (w.heap.size + 1, (pcells q)), (w2.heap.size, x.cells), (w8.heap.size, Rq.no.cells)] (w8.alloc (.cells #[.int .u64 0, .int .u32 0, .int .u32 0, .int .i64 0, .int .u64 0, .int .u32 0, .int .u32 0, .int .u64 0, .int .u64 0, .bool false] 53))) := hid (HV7.out.new 53 Rq.no.cells)
          clear HV7
          go_wp2_with (first | ((with_reducible refine wpList_put_vs HV8.out 3 53 [.int .u64 q.1, .int .u32 q.2.1, .int .u32 q.2.2, .int .i64 x.a.i, .int .u64 d.1, .int .u32 d.2.1, .int .u32 d.2.2, .int .u64 x.l, .int .u64 x.s, .bool x.z] infoReq rfl (.tmp 11) (.tmp 45) rfl (w8.heap.size) (Rq.no.cells) ?vs11006a 0 ?vs11006b ?vs11006c ?vs11006d ?vs11006e ?vs11006f ?vs11006g); (case vs11006a => rfl); (case vs11006b => rfl); (case vs11006c => exact of_decide_eq_true rfl); (case vs11006d => rfl); (case vs11006e => rfl); (case vs11006f => rfl); (intro W2 hW2); (have HV9 : Hid (VS w [(w.heap.size, (pcells p)), (w.heap.size + 1, (pcells q)), (w2.heap.size, x.cells), (w8.heap.size, (Rq.mk (It.mk q.1 q.2.1 q.2.2 x.a.i d.1 d.2.1 d.2.2) x.l x.s x.z).cells)] W2) := hid hW2); (clear hW2 HV8); (obtain ⟨q0, q1, q2⟩ := P3.at q (HV9.out.cs 1 rfl))) | fail)
          refine (Pos.rightF q _).mono ?_
          rw [HPQ.out]
          rintro e w9 ⟨rfl, hb⟩
          have HV10 := hid (HV9.out.below hb)
          clear hb HV9 q0 q1 q2
          obtain ⟨c0, c1, c2, c3, c4, c5, c6, c7, c8, c9⟩ := Rq.at x (HV10.out.cs 2 rfl)
          obtain ⟨q0, q1, q2⟩ := P3.at q (HV10.out.cs 1 rfl)
          have e7 : IntKind.u64.wrap (x.l * 1048576) = gw x.l := by unfold gw; rw [Int.mul_comm]
          go_wp2_with fail
          refine (Pos.moveU q HQ.out HQP.out x.l (by have := HRL.out; omega) HRL.out.2 _).mono ?_
          rw [HDD.out]
          rintro e w10 ⟨rfl, hb⟩
          have HV11 := hid (HV10.out.below hb)
          clear hb HV10 e7 q0 q1 q2 c0 c1 c2 c3 c4 c5 c6 c7 c8 c9
          have HV12 : Hid (VS w [(w.heap.size, (pcells p)), (w.heap.size + 1, (pcells q)), (w2.heap.size, x.cells), (w8.heap.size, (Rq.mk (It.mk q.1 q.2.1 q.2.2 x.a.i d.1 d.2.1 d.2.2) x.l x.s x.z).cells), (w10.heap.size, [.int .u64 0, .int .u32 0, .int .u32 0])] (w10.alloc (.cells #[.int .u64 0, .int .u32 0, .int .u32 0] 27))) := hid (HV11.out.new 27 [.int .u64 0, .int .u32 0, .int .u32 0])
          clear HV11
          go_wp2_with (first | ((with_reducible refine wpList_put_vs HV12.out 4 27 [.int .u64 d.1, .int .u32 d.2.1, .int .u32 d.2.2] infoPos rfl (.tmp 13) (.tmp 66) rfl (w10.heap.size) ([.int .u64 0, .int .u32 0, .int .u32 0]) ?vs11007a 0 ?vs11007b ?vs11007c ?vs11007d ?vs11007e ?vs11007f ?vs11007g); (case vs11007a => rfl); (case vs11007b => rfl); (case vs11007c => exact of_decide_eq_true rfl); (case vs11007d => rfl); (case vs11007e => rfl); (case vs11007f => rfl); (intro W2 hW2); (have HV13 : Hid (VS w [(w.heap.size, (pcells p)), (w.heap.size + 1, (pcells q)), (w2.heap.size, x.cells), (w8.heap.size, (Rq.mk (It.mk q.1 q.2.1 q.2.2 x.a.i d.1 d.2.1 d.2.2) x.l x.s x.z).cells), (w10.heap.size, [.int .u64 d.1, .int .u32 d.2.1, .int .u32 d.2.2])] W2) := hid hW2); (clear hW2 HV12); (obtain ⟨c0, c1, c2, c3, c4, c5, c6, c7, c8, c9⟩ := Rq.at x (HV13.out.cs 2 rfl)); (obtain ⟨d0, d1, d2, d3, d4, d5, d6, d7, d8, d9⟩ := Rq.at (Rq.mk (It.mk q.1 q.2.1 q.2.2 x.a.i d.1 d.2.1 d.2.2) x.l x.s x.z) (HV13.out.cs 3 rfl))) | fail)
          refine (Req.moved (Rq.mk (It.mk q.1 q.2.1 q.2.2 x.a.i d.1 d.2.1 d.2.2) x.l x.s x.z) HMR.out.1 (Rq.pp x) (Rq.pp_in HX1.out) _).mono ?_
          rw [HMB.out]
          rintro e w11 ⟨rfl, hb⟩
          have HV14 := hid (HV13.out.below hb)
          clear hb HV13 c0 c1 c2 c3 c4 c5 c6 c7 c8 c9 d0 d1 d2 d3 d4 d5 d6 d7 d8 d9
          have HV15 : Hid (VS w [(w.heap.size, (pcells p)), (w.heap.size + 1, (pcells q)), (w2.heap.size, x.cells), (w8.heap.size, (Rq.mk (It.mk q.1 q.2.1 q.2.2 x.a.i d.1 d.2.1 d.2.2) x.l x.s x.z).cells), (w10.heap.size, [.int .u64 d.1, .int .u32 d.2.1, .int .u32 d.2.2]), (w11.heap.size, Rq.no.cells)] (w11.alloc (.cells #[.int .u64 0, .int .u32 0, .int .u32 0, .int .i64 0, .int .u64 0, .int .u32 0, .int .u32 0, .int .u64 0, .int .u64 0, .bool false] 53))) := hid (HV14.out.new 53 Rq.no.cells)
          clear HV14
          have hi5 := HX3.out
          go_wp2_with (first | ((with_reducible refine wpList_put_vs HV15.out 5 53 [.int .u64 x.a.t, .int .u32 x.a.r, .int .u32 x.a.v, .int .i64 x.a.i, .int .u64 x.a.u, .int .u32 x.a.s, .int .u32 x.a.y, .int .u64 x.l, .int .u64 x.s, .bool x.z] infoReq rfl (.tmp 15) (.tmp 74) rfl (w11.heap.size) (Rq.no.cells) ?vs11008a 0 ?vs11008b ?vs11008c ?vs11008d ?vs11008e ?vs11008f ?vs11008g); (case vs11008a => rfl); (case vs11008b => rfl); (case vs11008c => exact of_decide_eq_true rfl); (case vs11008d => rfl); (case vs11008e => rfl); (case vs11008f => rfl); (intro W2 hW2); (have HV16 : Hid (VS w [(w.heap.size, (pcells p)), (w.heap.size + 1, (pcells q)), (w2.heap.size, x.cells), (w8.heap.size, (Rq.mk (It.mk q.1 q.2.1 q.2.2 x.a.i d.1 d.2.1 d.2.2) x.l x.s x.z).cells), (w10.heap.size, [.int .u64 d.1, .int .u32 d.2.1, .int .u32 d.2.2]), (w11.heap.size, x.cells)] W2) := hid hW2); (clear hW2 HV15); (obtain ⟨c0, c1, c2, c3, c4, c5, c6, c7, c8, c9⟩ := Rq.at x (HV16.out.cs 2 rfl)); (obtain ⟨d0, d1, d2, d3, d4, d5, d6, d7, d8, d9⟩ := Rq.at (Rq.mk (It.mk q.1 q.2.1 q.2.2 x.a.i d.1 d.2.1 d.2.2) x.l x.s x.z) (HV16.out.cs 3 rfl)); (obtain ⟨q0, q1, q2⟩ : _ ∧ _ ∧ _ := Cs.three (HV16.out.cs 4 rfl)); (obtain ⟨f0, f1, f2, f3, f4, f5, f6, f7, f8, f9⟩ := Rq.at x (HV16.out.cs 5 rfl))) | fail)
          go_ret
          exact ⟨rfl, HV16.out.bel⟩
      · go_upto_region 8 with (first | ((with_reducible refine wpList_put_vs HV3.out 2 53 [.int .u64 r.a.t, .int .u32 r.a.r, .int .u32 r.a.v, .int .i64 r.a.i, .int .u64 r.a.u, .int .u32 r.a.s, .int .u32 r.a.y, .int .u64 r.l, .int .u64 r.s, .bool r.z] infoReq rfl (.tmp 9) (.tmp 23) rfl (w2.heap.size) (Rq.no.cells) ?vs11009a 0 ?vs11009b ?vs11009c ?vs11009d ?vs11009e ?vs11009f ?vs11009g); (case vs11009a => rfl); (case vs11009b => rfl); (case vs11009c => exact of_decide_eq_true rfl); (case vs11009d => rfl); (case vs11009e => rfl); (case vs11009f => rfl); (intro W2 hW2); (have HV4 : Hid (VS w [(w.heap.size, (pcells p)), (w.heap.size + 1, (pcells q)), (w2.heap.size, r.cells)] W2) := hid hW2); (clear hW2 HV3)) | fail)
        clear g1 g2
        obtain ⟨c0, c1, c2, c3, c4, c5, c6, c7, c8, c9⟩ := Rq.at r (HV4.out.cs 2 rfl)
        obtain ⟨q0, q1, q2⟩ := P3.at q (HV4.out.cs 1 rfl)
        go_wp2_with fail
        cases hq : pR q with
        | false =>
          have HPQ := hid hq
          refine (Req.moved r HR1.out q HQ.out _).mono ?_
          rw [moved_of HR1.out HR2.out HQ.out, hq, if_neg (by decide)]
          rintro e w8 ⟨rfl, hb⟩
          have HV5 := hid (HV4.out.below hb)
          clear hb HV4 c0 c1 c2 c3 c4 c5 c6 c7 c8 c9 q0 q1 q2
          have HV6 : Hid (VS w [(w.heap.size, (pcells p)), (w.heap.size + 1, (pcells q)), (w2.heap.size, r.cells), (w8.heap.size, Rq.no.cells)] (w8.alloc (.cells #[.int .u64 0, .int .u32 0, .int .u32 0, .int .i64 0, .int .u64 0, .int .u32 0, .int .u32 0, .int .u64 0, .int .u64 0, .bool false] 53))) := hid (HV5.out.new 53 Rq.no.cells)
          clear HV5
          clear hq
          go_wp2_with (first | ((with_reducible refine wpList_put_vs HV6.out 3 53 [.int .u64 0, .int .u32 0, .int .u32 0, .int .i64 0, .int .u64 0, .int .u32 0, .int .u32 0, .int .u64 0, .int .u64 0, .bool false] infoReq rfl (.tmp 11) (.tmp 45) rfl (w8.heap.size) (Rq.no.cells) ?vs11010a 0 ?vs11010b ?vs11010c ?vs11010d ?vs11010e ?vs11010f ?vs11010g); (case vs11010a => rfl); (case vs11010b => rfl); (case vs11010c => exact of_decide_eq_true rfl); (case vs11010d => rfl); (case vs11010e => rfl); (case vs11010f => rfl); (intro W2 hW2); (have HV7 : Hid (VS w [(w.heap.size, (pcells p)), (w.heap.size + 1, (pcells q)), (w2.heap.size, r.cells), (w8.heap.size, Rq.no.cells)] W2) := hid hW2); (clear hW2 HV6); (obtain ⟨q0, q1, q2⟩ := P3.at q (HV7.out.cs 1 rfl))) | fail)
          refine (Pos.rightF q _).mono ?_
          rw [HPQ.out]
          rintro e w9 ⟨rfl, hb⟩
          have HV8 := hid (HV7.out.below hb)
          clear hb HV7 q0 q1 q2
          obtain ⟨c0, c1, c2, c3, c4, c5, c6, c7, c8, c9⟩ := Rq.at Rq.no (HV8.out.cs 3 rfl)
          go_wp2_with fail
          go_ret
          exact ⟨rfl, HV8.out.bel⟩
        | true =>
          have HPQ := hid hq
          obtain ⟨d, hd⟩ : ∃ d, dueP q r.l = d := ⟨_, rfl⟩
          have HDD := hid hd
          have HMV : Hid (Rq.from_ r q = (Rq.mk (It.mk q.1 q.2.1 q.2.2 r.a.i d.1 d.2.1 d.2.2) r.l r.s r.z)) := hid (by unfold Rq.from_; rw [hd])
          have hmr := moved_right HR1.out HR2.out HQ.out hq
          have hmb := moved_back HR1.out HR2.out HQ.out hq
          rw [HMV.out] at hmr hmb
          have HMR := hid hmr
          have HMB := hid hmb
          have HQP := hid (pR_isP HQ.out hq)
          have HRL := hid (slI_iff.1 (right_parts HR1.out HR2.out).2.2.1)
          clear hq hd hmr hmb
          refine (Req.moved r HR1.out q HQ.out _).mono ?_
          rw [moved_of HR1.out HR2.out HQ.out, HPQ.out, if_pos rfl, HMV.out]
          rintro e w8 ⟨rfl, hb⟩
          have HV5 := hid (HV4.out.below hb)
          clear hb HV4 c0 c1 c2 c3 c4 c5 c6 c7 c8 c9 q0 q1 q2
          have HV6 : Hid (VS w [(w.heap.size, (pcells p)), (w.heap.size + 1, (pcells q)), (w2.heap.size, r.cells), (w8.heap.size, Rq.no.cells)] (w8.alloc (.cells #[.int .u64 0, .int .u32 0, .int .u32 0, .int .i64 0, .int .u64 0, .int .u32 0, .int .u32 0, .int .u64 0, .int .u64 0, .bool false] 53))) := hid (HV5.out.new 53 Rq.no.cells)
          clear HV5
          go_wp2_with (first | ((with_reducible refine wpList_put_vs HV6.out 3 53 [.int .u64 q.1, .int .u32 q.2.1, .int .u32 q.2.2, .int .i64 r.a.i, .int .u64 d.1, .int .u32 d.2.1, .int .u32 d.2.2, .int .u64 r.l, .int .u64 r.s, .bool r.z] infoReq rfl (.tmp 11) (.tmp 45) rfl (w8.heap.size) (Rq.no.cells) ?vs11011a 0 ?vs11011b ?vs11011c ?vs11011d ?vs11011e ?vs11011f ?vs11011g); (case vs11011a => rfl); (case vs11011b => rfl); (case vs11011c => exact of_decide_eq_true rfl); (case vs11011d => rfl); (case vs11011e => rfl); (case vs11011f => rfl); (intro W2 hW2); (have HV7 : Hid (VS w [(w.heap.size, (pcells p)), (w.heap.size + 1, (pcells q)), (w2.heap.size, r.cells), (w8.heap.size, (Rq.mk (It.mk q.1 q.2.1 q.2.2 r.a.i d.1 d.2.1 d.2.2) r.l r.s r.z).cells)] W2) := hid hW2); (clear hW2 HV6); (obtain ⟨q0, q1, q2⟩ := P3.at q (HV7.out.cs 1 rfl))) | fail)
          refine (Pos.rightF q _).mono ?_
          rw [HPQ.out]
          rintro e w9 ⟨rfl, hb⟩
          have HV8 := hid (HV7.out.below hb)
          clear hb HV7 q0 q1 q2
          obtain ⟨c0, c1, c2, c3, c4, c5, c6, c7, c8, c9⟩ := Rq.at r (HV8.out.cs 2 rfl)
          obtain ⟨q0, q1, q2⟩ := P3.at q (HV8.out.cs 1 rfl)
          have e7 : IntKind.u64.wrap (r.l * 1048576) = gw r.l := by unfold gw; rw [Int.mul_comm]
          go_wp2_with fail
          refine (Pos.moveU q HQ.out HQP.out r.l (by have := HRL.out; omega) HRL.out.2 _).mono ?_
          rw [HDD.out]
          rintro e w10 ⟨rfl, hb⟩
          have HV9 := hid (HV8.out.below hb)
          clear hb HV8 e7 q0 q1 q2 c0 c1 c2 c3 c4 c5 c6 c7 c8 c9
          have HV10 : Hid (VS w [(w.heap.size, (pcells p)), (w.heap.size + 1, (pcells q)), (w2.heap.size, r.cells), (w8.heap.size, (Rq.mk (It.mk q.1 q.2.1 q.2.2 r.a.i d.1 d.2.1 d.2.2) r.l r.s r.z).cells), (w10.heap.size, [.int .u64 0, .int .u32 0, .int .u32 0])] (w10.alloc (.cells #[.int .u64 0, .int .u32 0, .int .u32 0] 27))) := hid (HV9.out.new 27 [.int .u64 0, .int .u32 0, .int .u32 0])
          clear HV9
          go_wp2_with (first | ((with_reducible refine wpList_put_vs HV10.out 4 27 [.int .u64 d.1, .int .u32 d.2.1, .int .u32 d.2.2] infoPos rfl (.tmp 13) (.tmp 66) rfl (w10.heap.size) ([.int .u64 0, .int .u32 0, .int .u32 0]) ?vs11012a 0 ?vs11012b ?vs11012c ?vs11012d ?vs11012e ?vs11012f ?vs11012g); (case vs11012a => rfl); (case vs11012b => rfl); (case vs11012c => exact of_decide_eq_true rfl); (case vs11012d => rfl); (case vs11012e => rfl); (case vs11012f => rfl); (intro W2 hW2); (have HV11 : Hid (VS w [(w.heap.size, (pcells p)), (w.heap.size + 1, (pcells q)), (w2.heap.size, r.cells), (w8.heap.size, (Rq.mk (It.mk q.1 q.2.1 q.2.2 r.a.i d.1 d.2.1 d.2.2) r.l r.s r.z).cells), (w10.heap.size, [.int .u64 d.1, .int .u32 d.2.1, .int .u32 d.2.2])] W2) := hid hW2); (clear hW2 HV10); (obtain ⟨c0, c1, c2, c3, c4, c5, c6, c7, c8, c9⟩ := Rq.at r (HV11.out.cs 2 rfl)); (obtain ⟨d0, d1, d2, d3, d4, d5, d6, d7, d8, d9⟩ := Rq.at (Rq.mk (It.mk q.1 q.2.1 q.2.2 r.a.i d.1 d.2.1 d.2.2) r.l r.s r.z) (HV11.out.cs 3 rfl))) | fail)
          refine (Req.moved (Rq.mk (It.mk q.1 q.2.1 q.2.2 r.a.i d.1 d.2.1 d.2.2) r.l r.s r.z) HMR.out.1 (Rq.pp r) (Rq.pp_in HR1.out) _).mono ?_
          rw [HMB.out]
          rintro e w11 ⟨rfl, hb⟩
          have HV12 := hid (HV11.out.below hb)
          clear hb HV11 c0 c1 c2 c3 c4 c5 c6 c7 c8 c9 d0 d1 d2 d3 d4 d5 d6 d7 d8 d9
          have HV13 : Hid (VS w [(w.heap.size, (pcells p)), (w.heap.size + 1, (pcells q)), (w2.heap.size, r.cells), (w8.heap.size, (Rq.mk (It.mk q.1 q.2.1 q.2.2 r.a.i d.1 d.2.1 d.2.2) r.l r.s r.z).cells), (w10.heap.size, [.int .u64 d.1, .int .u32 d.2.1, .int .u32 d.2.2]), (w11.heap.size, Rq.no.cells)] (w11.alloc (.cells #[.int .u64 0, .int .u32 0, .int .u32 0, .int .i64 0, .int .u64 0, .int .u32 0, .int .u32 0, .int .u64 0, .int .u64 0, .bool false] 53))) := hid (HV12.out.new 53 Rq.no.cells)
          clear HV12
          have hi5 := HR3.out
          go_wp2_with (first | ((with_reducible refine wpList_put_vs HV13.out 5 53 [.int .u64 r.a.t, .int .u32 r.a.r, .int .u32 r.a.v, .int .i64 r.a.i, .int .u64 r.a.u, .int .u32 r.a.s, .int .u32 r.a.y, .int .u64 r.l, .int .u64 r.s, .bool r.z] infoReq rfl (.tmp 15) (.tmp 74) rfl (w11.heap.size) (Rq.no.cells) ?vs11013a 0 ?vs11013b ?vs11013c ?vs11013d ?vs11013e ?vs11013f ?vs11013g); (case vs11013a => rfl); (case vs11013b => rfl); (case vs11013c => exact of_decide_eq_true rfl); (case vs11013d => rfl); (case vs11013e => rfl); (case vs11013f => rfl); (intro W2 hW2); (have HV14 : Hid (VS w [(w.heap.size, (pcells p)), (w.heap.size + 1, (pcells q)), (w2.heap.size, r.cells), (w8.heap.size, (Rq.mk (It.mk q.1 q.2.1 q.2.2 r.a.i d.1 d.2.1 d.2.2) r.l r.s r.z).cells), (w10.heap.size, [.int .u64 d.1, .int .u32 d.2.1, .int .u32 d.2.2]), (w11.heap.size, r.cells)] W2) := hid hW2); (clear hW2 HV13); (obtain ⟨c0, c1, c2, c3, c4, c5, c6, c7, c8, c9⟩ := Rq.at r (HV14.out.cs 2 rfl)); (obtain ⟨d0, d1, d2, d3, d4, d5, d6, d7, d8, d9⟩ := Rq.at (Rq.mk (It.mk q.1 q.2.1 q.2.2 r.a.i d.1 d.2.1 d.2.2) r.l r.s r.z) (HV14.out.cs 3 rfl)); (obtain ⟨q0, q1, q2⟩ : _ ∧ _ ∧ _ := Cs.three (HV14.out.cs 4 rfl)); (obtain ⟨f0, f1, f2, f3, f4, f5, f6, f7, f8, f9⟩ := Rq.at r (HV14.out.cs 5 rfl))) | fail)
          go_ret
          exact ⟨rfl, HV14.out.bel⟩
end
theorem Rmov.law (t r v t2 r2 v2 slice sv : Int) (w : World) (hp : (0 ≤ t ∧ t ≤ 18446744073709551615) ∧ (0 ≤ r ∧ r ≤ 4294967295) ∧ (0 ≤ v ∧ v ≤ 4294967295)) (hq : (0 ≤ t2 ∧ t2 ≤ 18446744073709551615) ∧ (0 ≤ r2 ∧ r2 ≤ 4294967295) ∧ (0 ≤ v2 ∧ v2 ≤ 4294967295)) (hs : (Lit.int .u64 slice).wf = true) (hsv : (Lit.int .u64 sv).wf = true) (htab : Tab10 w.heap.size w) :
    Calls Tryz.prog 9 #[.agg #[.int .u64 t, .int .u32 r, .int .u32 v], .agg #[.int .u64 t2, .int .u32 r2, .int .u32 v2], .int .u64 slice, .int .u64 sv] w (Ans (.bool true) w) := Rmov.go (t, r, v) (t2, r2, v2) slice sv w hp hq (bounds_u64 hs) (bounds_u64 hsv) htab
end Go.Proofs.YtjndmmcjobbcbaaGreatDoor

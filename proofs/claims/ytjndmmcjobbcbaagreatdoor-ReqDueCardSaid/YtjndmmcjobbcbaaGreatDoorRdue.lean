import Derived.Test.YtjndmmcjobbcbaaGreatDoorReqDueZ47
import Derived.Test.YtjndmmcjobbcbaaGreatDoorReqDueZ21
import Derived.BigGuard
import Derived.BigCall
namespace Go.Proofs.YtjndmmcjobbcbaaGreatDoor
open Go.RowKit
theorem Pos.moveT (p : P3) (hp : PIn p) (h : IsP p.2.1 p.2.2) (n : Int) (n0 : 0 ≤ n) (n1 : n ≤ 1099511627776) (w : World) : Calls Tryz.prog 42 #[pv p, .int .u64 (gw n)] w (Ans (.tuple #[pv (dueP p n), .bool true]) w) := by
  have := Pos.moveD p.1 p.2.1 p.2.2 n hp w
  rw [show atOk (gw n + p.2.1) p.2.2 = true by rw [gw_eq n0 n1]; exact atOk_iff.2 (move_ok h (by omega) (by omega))] at this
  exact this
theorem dueP_zero {p : P3} (hp : PIn p) (h : IsP p.2.1 p.2.2) : dueP p 0 = p := by
  rw [dueP_of h (by omega) (by omega)]
  obtain ⟨t, r, v⟩ := p
  obtain ⟨h1, h2, h3, h4⟩ := h
  simp only at h1 h2 h3 h4 ⊢
  rw [Int.mul_zero, Int.zero_add, Int.ediv_eq_zero_of_lt h3 h4, Int.emod_eq_of_lt h3 h4]
  have : adv t 0 = t := by unfold adv; have := hp.1; simp only at this; omega
  rw [this]
def DueI (p : P3) (sl m : Int) (x : Rq) : Prop := x.In ∧ x.right = true ∧ x.a.i = 7 ∧ x.s = sl ∧ x.pp = dueP p m ∧ x.l ≤ sl
theorem due_new {p : P3} (hp : PIn p) (h : pR p = true) {sl : Int} (h0 : 1 ≤ sl) (h1 : sl ≤ 1073741824) : ∃ r, Rq.new p 7 sl = (r, true) ∧ DueI p sl 0 r := by
  have hs : slI sl = true := slI_iff.2 (by omega)
  have e := new_of hp (id := 7) (n := sl) (by decide)
  rw [if_pos ⟨h, hs⟩] at e
  have hin := new_in hp (id := 7) (n := sl) (by decide) (by unfold IsT; omega)
  rw [e] at hin
  exact ⟨_, e, hin, from_right (r := ⟨⟨0, 0, 0, 7, 0, 0, 0⟩, sl, sl, false⟩) (pR_isP hp h) (show (0 : Int) < 7 by decide) hs hs, rfl, rfl, by rw [dueP_zero hp (pR_isP hp h)]; rfl, Int.le_refl _⟩
theorem due_step {p : P3} (h : IsP p.2.1 p.2.2) {sl m q xt xr xv xi xu xs xy xl xsl : Int} {xz : Bool} (hI : DueI p sl m (Rq.mk (It.mk xt xr xv xi xu xs xy) xl xsl xz)) (m0 : 0 ≤ m) (m1 : m + q ≤ 1099511627776) (q0 : 1 ≤ q) (q1 : q ≤ xl) :
    xi = 7 ∧ xsl = sl ∧
    (xl = q → dueP p (m + q) = (xu, xs, xy) ∧ ∃ d : P3, Rq.serve (Rq.mk (It.mk xt xr xv xi xu xs xy) xl xsl xz) q = (Rq.mk (It.mk xu xs xy xi d.1 d.2.1 d.2.2) xsl xsl xz, true, true) ∧ DueI p sl (m + q) (Rq.mk (It.mk xu xs xy xi d.1 d.2.1 d.2.2) xsl xsl xz)) ∧
    (¬ xl = q → Rq.serve (Rq.mk (It.mk xt xr xv xi xu xs xy) xl xsl xz) q = (Rq.mk (It.mk (dueP p (m + q)).1 (dueP p (m + q)).2.1 (dueP p (m + q)).2.2 xi xu xs xy) (xl - q) xsl xz, false, true) ∧ DueI p sl (m + q) (Rq.mk (It.mk (dueP p (m + q)).1 (dueP p (m + q)).2.1 (dueP p (m + q)).2.2 xi xu xs xy) (xl - q) xsl xz)) := by
  obtain ⟨h1, h2, h3, h4, h5, h6⟩ := hI
  simp only at h3 h4 h6
  obtain ⟨e, wn⟩ := went_of h1 h2 q0 q1
  have dd := wn.dead h1 h2 q0 q1
  have ep : dueP (Rq.pp (Rq.mk (It.mk xt xr xv xi xu xs xy) xl xsl xz)) q = dueP p (m + q) := by rw [h5]; exact dueP_two h m0 (by omega) m1
  refine ⟨h3, h4, fun c => ?_, fun c => ?_⟩
  · have e1 := dd.1 c
    rw [wn.pp, ep] at e1
    have e2 : dueP p (m + q) = (xu, xs, xy) := e1
    have ex : Rq.went (Rq.mk (It.mk xt xr xv xi xu xs xy) xl xsl xz) q = Rq.mk (It.mk xu xs xy xi (dueP (xu, xs, xy) xsl).1 (dueP (xu, xs, xy) xsl).2.1 (dueP (xu, xs, xy) xsl).2.2) xsl xsl xz := by
      unfold Rq.went
      rw [ep, e2]
      unfold Rq.left
      rw [if_pos c]
      rfl
    rw [ex] at e wn
    refine ⟨e2, _, ?_, wn.In, wn.right, wn.i.trans h3, wn.s.trans h4, wn.pp.trans ep, by show xsl ≤ sl; omega⟩
    rw [e]
    exact Prod.ext rfl (Prod.ext (decide_eq_true c) rfl)
  · have e1 := dd.2 c
    have e2 : dueP (dueP p (m + q)) (xl - q) = (xu, xs, xy) := by
      have h7 := wn.dp
      have hl : Rq.left (Rq.mk (It.mk xt xr xv xi xu xs xy) xl xsl xz) q = xl - q := by unfold Rq.left; rw [if_neg c]
      rw [ep, hl] at h7
      exact h7.symm.trans e1
    have ex : Rq.went (Rq.mk (It.mk xt xr xv xi xu xs xy) xl xsl xz) q = Rq.mk (It.mk (dueP p (m + q)).1 (dueP p (m + q)).2.1 (dueP p (m + q)).2.2 xi xu xs xy) (xl - q) xsl xz := by
      unfold Rq.went
      rw [ep]
      unfold Rq.left
      rw [if_neg c]
      unfold Rq.from_
      simp only
      rw [e2]
    rw [ex] at e wn
    refine ⟨?_, wn.In, wn.right, wn.i.trans h3, wn.s.trans h4, wn.pp.trans ep, by show xl - q ≤ sl; omega⟩
    rw [e]
    exact Prod.ext rfl (Prod.ext (decide_eq_false c) rfl)
section
attribute [local go_sem] Pos.eqB
set_option maxRecDepth 100000 in
set_option maxHeartbeats 8000000 in
theorem Rdue.go (p : P3) (slice : Int) (A : Option Addr) (n c : Nat) (zs : List Int) (w : World) (hp : PIn p) (hs : IsT slice) (hz : RdU .u64 w A n zs ∧ InU zs ∧ n ≤ c ∧ n ≤ 9223372036854775807) (htab : Tab10 w.heap.size w) : Calls Tryz.prog 6 #[pv p, .int .u64 slice, .slice A n c] w (Ans (.bool true) w) := by
  have HP := hid hp
  have HS := hid hs
  have HZ := hid hz
  have HTAB := hid htab
  clear hp hs hz htab
  have HV0 : Hid (VS w [(w.heap.size, (pcells p))] (w.alloc (.cells #[.int .u64 p.1, .int .u32 p.2.1, .int .u32 p.2.2] 27))) := hid (by have h := ((VS.nil w).new 27 (pcells p)); (try simp only [World.size_alloc] at h); exact h)
  go_enter Tryz.func6, Tryz.ntmps6
  go_wp2_with fail
  generalize (w.alloc (.cells #[.int .u64 p.1, .int .u32 p.2.1, .int .u32 p.2.2] 27)) = W0 at HV0 ⊢
  refine (Law15.awake _ (HTAB.out.at2 HV0.out.bel)).mono ?_
  rintro e w1 ⟨rfl, hb⟩
  have HV1 := hid (HV0.out.below hb)
  clear hb HV0 
  obtain ⟨p0, p1, p2⟩ := P3.at p (HV1.out.cs 0 rfl)
  go_wp2_with fail
  refine (Pos.rightF p _).mono ?_
  rintro e w2 ⟨rfl, hb⟩
  have HV2 := hid (HV1.out.below hb)
  clear hb HV1 p0 p1 p2
  obtain ⟨p0, p1, p2⟩ := P3.at p (HV2.out.cs 0 rfl)
  cases h1 : pR p with
  | false =>
    clear p0 p1 p2
    go_wp2_with fail
    go_ret
    exact ⟨rfl, HV2.out.bel⟩
  | true =>
    by_cases h2 : slice < 1
    · clear p0 p1 p2
      go_wp2_with fail
      go_ret
      exact ⟨rfl, HV2.out.bel⟩
    · by_cases h3 : 1073741824 < slice
      · clear p0 p1 p2
        go_wp2_with fail
        go_ret
        exact ⟨rfl, HV2.out.bel⟩
      · by_cases h4 : 100 < n
        · have h4' : (100 : Int) < n := by omega
          clear p0 p1 p2
          go_wp2_with fail
          go_ret
          exact ⟨rfl, HV2.out.bel⟩
        · have h4' : ¬ (100 : Int) < n := by omega
          obtain ⟨r0, hr0, hi0⟩ := due_new HP.out h1 (sl := slice) (by omega) (by omega)
          have HI0 := hid hi0
          have HRN := hid hr0
          have HIP := hid (pR_isP HP.out h1)
          have HB := hid (show 1 ≤ slice ∧ slice ≤ 1073741824 ∧ n ≤ 100 by omega)
          clear hr0 hi0
          go_wp2_with fail
          refine (Req.new p HP.out 7 slice ⟨by decide, by decide⟩ HS.out _).mono ?_
          rw [HRN.out]
          rintro e w3 ⟨rfl, hb⟩
          have HV3 := hid (HV2.out.below hb)
          clear hb HV2 p0 p1 p2 h2 h3 h4 h4'
          have HV4 : Hid (VS w [(w.heap.size, (pcells p)), (w3.heap.size, Rq.no.cells)] (w3.alloc (.cells #[.int .u64 0, .int .u32 0, .int .u32 0, .int .i64 0, .int .u64 0, .int .u32 0, .int .u32 0, .int .u64 0, .int .u64 0, .bool false] 53))) := hid (HV3.out.new 53 Rq.no.cells)
          clear HV3
          go_wp2_with (first | ((with_reducible refine wpList_put_vs HV4.out 1 53 [.int .u64 r0.a.t, .int .u32 r0.a.r, .int .u32 r0.a.v, .int .i64 r0.a.i, .int .u64 r0.a.u, .int .u32 r0.a.s, .int .u32 r0.a.y, .int .u64 r0.l, .int .u64 r0.s, .bool r0.z] infoReq rfl (.tmp 7) (.tmp 39) rfl (w3.heap.size) (Rq.no.cells) ?vs7001a 0 ?vs7001b ?vs7001c ?vs7001d ?vs7001e ?vs7001f ?vs7001g); (case vs7001a => rfl); (case vs7001b => rfl); (case vs7001c => exact of_decide_eq_true rfl); (case vs7001d => rfl); (case vs7001e => rfl); (case vs7001f => rfl); (intro W2 hW2); (have HV5 : Hid (VS w [(w.heap.size, (pcells p)), (w3.heap.size, r0.cells)] W2) := hid hW2); (clear hW2 HV4)) | fail)
          go_loopg [9, 45] n (fun g a i wr => ∃ (k : Nat) (x : Rq) (m : Int), a = .int .u64 m ∧ i = .int .i64 k ∧ g = n - k ∧ k ≤ n ∧ DueI p slice m x ∧ (0 ≤ m ∧ m ≤ k * 1073741824) ∧ VS w [(w.heap.size, (pcells p)), (w3.heap.size, x.cells)] wr)
          case atStart => exact ⟨0, r0, 0, rfl, rfl, rfl, Nat.zero_le _, HI0.out, ⟨by decide, by decide⟩, HV5.out⟩
          case round =>
            obtain ⟨k, ⟨⟨xt, xr, xv, xi, xu, xs, xy⟩, xl, xsl, xz⟩, m, rfl, rfl, hg, hk, hI, hm, hv⟩ := hrel
            obtain rfl : xi = 7 := hI.2.2.1
            obtain rfl : xsl = slice := hI.2.2.2.1
            have HG := hid hg
            have HK := hid hk
            have HI := hid hI
            have HM := hid hm
            have HW0 := hid hv
            clear hg hk hI hm hv HV5 HI0 HRN
            by_cases hlt2 : k < n
            · have HLT := hid hlt2
              obtain ⟨b2, off2, e2, hbl, hc⟩ := (HZ.out.1.below HW0.out.bel).2 k hlt2
              subst e2
              have hcell := hc k hlt2
              have HQ := hid (HZ.out.2.1.get (k := k) (by have := HZ.out.1.1; omega))
              generalize zs.getD k 0 = z at *
              clear hc hbl
              obtain ⟨c0, c1, c2, c3, c4, c5, c6, c7, c8, c9⟩ := Rq.at (Rq.mk (It.mk xt xr xv 7 xu xs xy) xl xsl xz) (HW0.out.cs 1 rfl)
              have HXL : Hid (IsT xl) := hid HI.out.1.2.1
              by_cases hm0 : min z xl = 0
              · have e0 : (min z xl == 0) = true := by rw [hm0]; rfl
                clear hm0
                go_wp2_with fail
                go_ret
                exact ⟨rfl, HW0.out.bel⟩
              · have e0 : (min z xl == 0) = false := by simpa using hm0
                obtain ⟨q, hq⟩ : ∃ q, min z xl = q := ⟨_, rfl⟩
                have HQB : Hid (1 ≤ q ∧ q ≤ xl ∧ q ≤ 18446744073709551615) := hid (by have := HQ.out; have := HXL.out; unfold IsT at this; omega)
                have HXS : Hid (xl ≤ 1073741824) := hid (by have h : xl ≤ xsl := HI.out.2.2.2.2.2; have := HB.out; omega)
                have HST := hid (due_step HIP.out HI.out HM.out.1 (by have := HM.out.2; have := HQB.out; have := HXS.out; have := HB.out; have := HLT.out; omega) HQB.out.1 HQB.out.2.1)
                have HMQ : Hid (0 ≤ m + q ∧ m + q ≤ (k + 1) * 1073741824 ∧ m + q ≤ 1099511627776) := hid (by have := HM.out; have := HQB.out; have := HXS.out; have := HB.out; have := HLT.out; omega)
                have HQE := hid hq
                clear hm0 hq
                go_wp2_with fail
                clear hcell e0
                refine (Req.serve (Rq.mk (It.mk xt xr xv 7 xu xs xy) xl xsl xz) HI.out.1 (min z xl) (by rw [HQE.out]; exact ⟨by have := HQB.out; omega, HQB.out.2.2⟩) _).mono ?_
                rw [HQE.out]
                by_cases he : xl = q
                · have hc := HST.out.2.2.1 he
                  obtain ⟨h7, d, h8, h9⟩ := hc
                  have HD := hid h7
                  have HS2 := hid h8
                  have HY := hid h9
                  have e4 : (q == xl) = true := by rw [he]; simp
                  clear h7 h8 h9 he HST
                  have hu : ∀ b : Bool, (some undef = some (Value.bool b)) = False := fun b => by simp [undef]
                  rw [HS2.out]
                  rintro e w5 ⟨rfl, hb⟩
                  have HW1 := hid (HW0.out.below hb)
                  clear hb HW0 c0 c1 c2 c3 c4 c5 c6 c7 c8 c9
                  have HW2 : Hid (VS w [(w.heap.size, (pcells p)), (w3.heap.size, (Rq.mk (It.mk xt xr xv 7 xu xs xy) xl xsl xz).cells), (w5.heap.size, Rq.no.cells)] (w5.alloc (.cells #[.int .u64 0, .int .u32 0, .int .u32 0, .int .i64 0, .int .u64 0, .int .u32 0, .int .u32 0, .int .u64 0, .int .u64 0, .bool false] 53))) := hid (HW1.out.new 53 Rq.no.cells)
                  clear HW1
                  have e6 : IntKind.u64.wrap (m + q) = m + q := by have := HMQ.out; rw [IntKind.wrap_u64]; omega
                  have e7 : IntKind.u64.wrap ((m + q) * 1048576) = gw (m + q) := by unfold gw; rw [Int.mul_comm]
                  go_wp2_with (first | ((with_reducible refine wpList_put_vs HW2.out 2 53 [.int .u64 xu, .int .u32 xs, .int .u32 xy, .int .i64 7, .int .u64 d.1, .int .u32 d.2.1, .int .u32 d.2.2, .int .u64 xsl, .int .u64 xsl, .bool xz] infoReq rfl (.tmp 12) (.tmp 59) rfl (w5.heap.size) (Rq.no.cells) ?vs7002a 0 ?vs7002b ?vs7002c ?vs7002d ?vs7002e ?vs7002f ?vs7002g); (case vs7002a => rfl); (case vs7002b => rfl); (case vs7002c => exact of_decide_eq_true rfl); (case vs7002d => rfl); (case vs7002e => rfl); (case vs7002f => rfl); (intro W2 hW2); (have HW3 : Hid (VS w [(w.heap.size, (pcells p)), (w3.heap.size, (Rq.mk (It.mk xt xr xv 7 xu xs xy) xl xsl xz).cells), (w5.heap.size, (Rq.mk (It.mk xu xs xy 7 d.1 d.2.1 d.2.2) xsl xsl xz).cells)] W2) := hid hW2); (clear hW2 HW2); (obtain ⟨p0, p1, p2⟩ := P3.at p (HW3.out.cs 0 rfl))) | fail)
                  refine (Pos.moveT p HP.out HIP.out (m + q) HMQ.out.1 HMQ.out.2.2 _).mono ?_
                  rw [HD.out]
                  rintro e w6 ⟨rfl, hb⟩
                  have HW4 := hid (HW3.out.below hb)
                  clear hb HW3 p0 p1 p2 e7
                  have HW5 : Hid (VS w [(w.heap.size, (pcells p)), (w3.heap.size, (Rq.mk (It.mk xt xr xv 7 xu xs xy) xl xsl xz).cells), (w5.heap.size, (Rq.mk (It.mk xu xs xy 7 d.1 d.2.1 d.2.2) xsl xsl xz).cells), (w6.heap.size, [.int .u64 0, .int .u32 0, .int .u32 0])] (w6.alloc (.cells #[.int .u64 0, .int .u32 0, .int .u32 0] 27))) := hid (HW4.out.new 27 [.int .u64 0, .int .u32 0, .int .u32 0])
                  clear HW4
                  go_upto_region 18 with (first | ((with_reducible refine wpList_put_vs HW5.out 3 27 [.int .u64 xu, .int .u32 xs, .int .u32 xy] infoPos rfl (.tmp 15) (.tmp 70) rfl (w6.heap.size) ([.int .u64 0, .int .u32 0, .int .u32 0]) ?vs7003a 0 ?vs7003b ?vs7003c ?vs7003d ?vs7003e ?vs7003f ?vs7003g); (case vs7003a => rfl); (case vs7003b => rfl); (case vs7003c => exact of_decide_eq_true rfl); (case vs7003d => rfl); (case vs7003e => rfl); (case vs7003f => rfl); (intro W2 hW2); (have HW6 : Hid (VS w [(w.heap.size, (pcells p)), (w3.heap.size, (Rq.mk (It.mk xt xr xv 7 xu xs xy) xl xsl xz).cells), (w5.heap.size, (Rq.mk (It.mk xu xs xy 7 d.1 d.2.1 d.2.2) xsl xsl xz).cells), (w6.heap.size, [.int .u64 xu, .int .u32 xs, .int .u32 xy])] W2) := hid hW2); (clear hW2 HW5); (obtain ⟨c0, c1, c2, c3, c4, c5, c6, c7, c8, c9⟩ := Rq.at (Rq.mk (It.mk xt xr xv 7 xu xs xy) xl xsl xz) (HW6.out.cs 1 rfl)); (obtain ⟨d0, d1, d2, d3, d4, d5, d6, d7, d8, d9⟩ := Rq.at (Rq.mk (It.mk xu xs xy 7 d.1 d.2.1 d.2.2) xsl xsl xz) (HW6.out.cs 2 rfl)); (obtain ⟨q0, q1, q2⟩ : _ ∧ _ ∧ _ := Cs.three (HW6.out.cs 3 rfl))) | fail)
                  simp only [List.append_eq, List.cons_append, List.nil_append]
                  go_wp2_with fail
                  refine (Req.right (Rq.mk (It.mk xu xs xy 7 d.1 d.2.1 d.2.2) xsl xsl xz) HY.out.1 _).mono ?_
                  rw [HY.out.2.1]
                  rintro e w7 ⟨rfl, hb⟩
                  have HW7 := hid (HW6.out.below hb)
                  clear hb HW6 e4 q0 q1 q2 c0 c1 c2 c3 c4 c5 c6 c7 c8 c9 d0 d1 d2 d3 d4 d5 d6 d7 d8 d9
                  obtain ⟨d0, d1, d2, d3, d4, d5, d6, d7, d8, d9⟩ := Rq.at (Rq.mk (It.mk xu xs xy 7 d.1 d.2.1 d.2.2) xsl xsl xz) (HW7.out.cs 2 rfl)
                  go_wp2_with (first | ((with_reducible refine wpList_put_vs HW7.out 1 53 [.int .u64 xu, .int .u32 xs, .int .u32 xy, .int .i64 7, .int .u64 d.1, .int .u32 d.2.1, .int .u32 d.2.2, .int .u64 xsl, .int .u64 xsl, .bool xz] infoReq rfl (.tmp 7) (.tmp 144) rfl (w3.heap.size) ((Rq.mk (It.mk xt xr xv 7 xu xs xy) xl xsl xz).cells) ?vs7004a 0 ?vs7004b ?vs7004c ?vs7004d ?vs7004e ?vs7004f ?vs7004g); (case vs7004a => rfl); (case vs7004b => rfl); (case vs7004c => exact of_decide_eq_true rfl); (case vs7004d => rfl); (case vs7004e => rfl); (case vs7004f => rfl); (intro W2 hW2); (have HW8 : Hid (VS w [(w.heap.size, (pcells p)), (w3.heap.size, (Rq.mk (It.mk xu xs xy 7 d.1 d.2.1 d.2.2) xsl xsl xz).cells), (w5.heap.size, (Rq.mk (It.mk xu xs xy 7 d.1 d.2.1 d.2.2) xsl xsl xz).cells), (w6.heap.size, [.int .u64 xu, .int .u32 xs, .int .u32 xy])] W2) := hid hW2); (clear hW2 HW7); (clear d0 d1 d2 d3 d4 d5 d6 d7 d8 d9)) | fail)
                  go_roundg (n - (k + 1))
                  case measure => have := HG.out; have := HLT.out; omega
                  case rel => exact ⟨k + 1, (Rq.mk (It.mk xu xs xy 7 d.1 d.2.1 d.2.2) xsl xsl xz), m + q, rfl, by go_num, rfl, by have := HLT.out; omega, HY.out, ⟨HMQ.out.1, by have := HMQ.out.2.1; push_cast; omega⟩, VS.less [_, _] HW8.out⟩
                · have hc := HST.out.2.2.2 he
                  obtain ⟨⟨qa, qb, qc⟩, hd⟩ : ∃ d, dueP p (m + q) = d := ⟨_, rfl⟩
                  obtain ⟨xm, hxm⟩ : ∃ xm, xl - q = xm := ⟨_, rfl⟩
                  rw [hd, hxm] at hc
                  dsimp only at hc
                  have HD := hid hd
                  have HS2 := hid hc.1
                  have HY := hid hc.2
                  have e4 : (q == xl) = false := by simp; omega
                  have e4b : ¬ q = xl := by omega
                  have e4c : decide (q = xl) = false := decide_eq_false e4b
                  have e5 : IntKind.u64.wrap (xl - q) = xm := by have := HQB.out; have := HXS.out; rw [IntKind.wrap_u64]; omega
                  clear hc hd he HST hxm
                  have hu : ∀ b : Bool, (some undef = some (Value.bool b)) = False := fun b => by simp [undef]
                  rw [HS2.out]
                  rintro e w5 ⟨rfl, hb⟩
                  have HW1 := hid (HW0.out.below hb)
                  clear hb HW0 c0 c1 c2 c3 c4 c5 c6 c7 c8 c9
                  have HW2 : Hid (VS w [(w.heap.size, (pcells p)), (w3.heap.size, (Rq.mk (It.mk xt xr xv 7 xu xs xy) xl xsl xz).cells), (w5.heap.size, Rq.no.cells)] (w5.alloc (.cells #[.int .u64 0, .int .u32 0, .int .u32 0, .int .i64 0, .int .u64 0, .int .u32 0, .int .u32 0, .int .u64 0, .int .u64 0, .bool false] 53))) := hid (HW1.out.new 53 Rq.no.cells)
                  clear HW1
                  have e6 : IntKind.u64.wrap (m + q) = m + q := by have := HMQ.out; rw [IntKind.wrap_u64]; omega
                  have e7 : IntKind.u64.wrap ((m + q) * 1048576) = gw (m + q) := by unfold gw; rw [Int.mul_comm]
                  go_wp2_with (first | ((with_reducible refine wpList_put_vs HW2.out 2 53 [.int .u64 qa, .int .u32 qb, .int .u32 qc, .int .i64 7, .int .u64 xu, .int .u32 xs, .int .u32 xy, .int .u64 xm, .int .u64 xsl, .bool xz] infoReq rfl (.tmp 12) (.tmp 59) rfl (w5.heap.size) (Rq.no.cells) ?vs7005a 0 ?vs7005b ?vs7005c ?vs7005d ?vs7005e ?vs7005f ?vs7005g); (case vs7005a => rfl); (case vs7005b => rfl); (case vs7005c => exact of_decide_eq_true rfl); (case vs7005d => rfl); (case vs7005e => rfl); (case vs7005f => rfl); (intro W2 hW2); (have HW3 : Hid (VS w [(w.heap.size, (pcells p)), (w3.heap.size, (Rq.mk (It.mk xt xr xv 7 xu xs xy) xl xsl xz).cells), (w5.heap.size, (Rq.mk (It.mk qa qb qc 7 xu xs xy) xm xsl xz).cells)] W2) := hid hW2); (clear hW2 HW2); (obtain ⟨p0, p1, p2⟩ := P3.at p (HW3.out.cs 0 rfl))) | fail)
                  refine (Pos.moveT p HP.out HIP.out (m + q) HMQ.out.1 HMQ.out.2.2 _).mono ?_
                  rw [HD.out]
                  rintro e w6 ⟨rfl, hb⟩
                  have HW4 := hid (HW3.out.below hb)
                  clear hb HW3 p0 p1 p2 e7
                  have HW5 : Hid (VS w [(w.heap.size, (pcells p)), (w3.heap.size, (Rq.mk (It.mk xt xr xv 7 xu xs xy) xl xsl xz).cells), (w5.heap.size, (Rq.mk (It.mk qa qb qc 7 xu xs xy) xm xsl xz).cells), (w6.heap.size, [.int .u64 0, .int .u32 0, .int .u32 0])] (w6.alloc (.cells #[.int .u64 0, .int .u32 0, .int .u32 0] 27))) := hid (HW4.out.new 27 [.int .u64 0, .int .u32 0, .int .u32 0])
                  clear HW4
                  go_upto_region 18 with (first | ((with_reducible refine wpList_put_vs HW5.out 3 27 [.int .u64 qa, .int .u32 qb, .int .u32 qc] infoPos rfl (.tmp 15) (.tmp 70) rfl (w6.heap.size) ([.int .u64 0, .int .u32 0, .int .u32 0]) ?vs7006a 0 ?vs7006b ?vs7006c ?vs7006d ?vs7006e ?vs7006f ?vs7006g); (case vs7006a => rfl); (case vs7006b => rfl); (case vs7006c => exact of_decide_eq_true rfl); (case vs7006d => rfl); (case vs7006e => rfl); (case vs7006f => rfl); (intro W2 hW2); (have HW6 : Hid (VS w [(w.heap.size, (pcells p)), (w3.heap.size, (Rq.mk (It.mk xt xr xv 7 xu xs xy) xl xsl xz).cells), (w5.heap.size, (Rq.mk (It.mk qa qb qc 7 xu xs xy) xm xsl xz).cells), (w6.heap.size, [.int .u64 qa, .int .u32 qb, .int .u32 qc])] W2) := hid hW2); (clear hW2 HW5); (obtain ⟨c0, c1, c2, c3, c4, c5, c6, c7, c8, c9⟩ := Rq.at (Rq.mk (It.mk xt xr xv 7 xu xs xy) xl xsl xz) (HW6.out.cs 1 rfl)); (obtain ⟨d0, d1, d2, d3, d4, d5, d6, d7, d8, d9⟩ := Rq.at (Rq.mk (It.mk qa qb qc 7 xu xs xy) xm xsl xz) (HW6.out.cs 2 rfl)); (obtain ⟨q0, q1, q2⟩ : _ ∧ _ ∧ _ := Cs.three (HW6.out.cs 3 rfl))) | fail)
                  simp only [List.append_eq, List.cons_append, List.nil_append]
                  go_wp2_with fail
                  refine (Req.right (Rq.mk (It.mk qa qb qc 7 xu xs xy) xm xsl xz) HY.out.1 _).mono ?_
                  rw [HY.out.2.1]
                  rintro e w7 ⟨rfl, hb⟩
                  have HW7 := hid (HW6.out.below hb)
                  clear hb HW6 e4 e4b e4c e5 q0 q1 q2 c0 c1 c2 c3 c4 c5 c6 c7 c8 c9 d0 d1 d2 d3 d4 d5 d6 d7 d8 d9
                  obtain ⟨d0, d1, d2, d3, d4, d5, d6, d7, d8, d9⟩ := Rq.at (Rq.mk (It.mk qa qb qc 7 xu xs xy) xm xsl xz) (HW7.out.cs 2 rfl)
                  go_wp2_with (first | ((with_reducible refine wpList_put_vs HW7.out 1 53 [.int .u64 qa, .int .u32 qb, .int .u32 qc, .int .i64 7, .int .u64 xu, .int .u32 xs, .int .u32 xy, .int .u64 xm, .int .u64 xsl, .bool xz] infoReq rfl (.tmp 7) (.tmp 144) rfl (w3.heap.size) ((Rq.mk (It.mk xt xr xv 7 xu xs xy) xl xsl xz).cells) ?vs7007a 0 ?vs7007b ?vs7007c ?vs7007d ?vs7007e ?vs7007f ?vs7007g); (case vs7007a => rfl); (case vs7007b => rfl); (case vs7007c => exact of_decide_eq_true rfl); (case vs7007d => rfl); (case vs7007e => rfl); (case vs7007f => rfl); (intro W2 hW2); (have HW8 : Hid (VS w [(w.heap.size, (pcells p)), (w3.heap.size, (Rq.mk (It.mk qa qb qc 7 xu xs xy) xm xsl xz).cells), (w5.heap.size, (Rq.mk (It.mk qa qb qc 7 xu xs xy) xm xsl xz).cells), (w6.heap.size, [.int .u64 qa, .int .u32 qb, .int .u32 qc])] W2) := hid hW2); (clear hW2 HW7); (clear d0 d1 d2 d3 d4 d5 d6 d7 d8 d9)) | fail)
                  go_roundg (n - (k + 1))
                  case measure => have := HG.out; have := HLT.out; omega
                  case rel => exact ⟨k + 1, (Rq.mk (It.mk qa qb qc 7 xu xs xy) xm xsl xz), m + q, rfl, by go_num, rfl, by have := HLT.out; omega, HY.out, ⟨HMQ.out.1, by have := HMQ.out.2.1; push_cast; omega⟩, VS.less [_, _] HW8.out⟩
            · obtain rfl : k = n := by have := HK.out; omega
              have hki : ¬ (k : Int) < k := by omega
              go_wp2_with fail
              go_ret
              exact ⟨rfl, HW0.out.bel⟩
end
theorem Rdue.law (t r v slice : Int) (A : Option Addr) (n c : Nat) (zs : List Int) (w : World) (hp : (0 ≤ t ∧ t ≤ 18446744073709551615) ∧ (0 ≤ r ∧ r ≤ 4294967295) ∧ (0 ≤ v ∧ v ≤ 4294967295)) (hs : (Lit.int .u64 slice).wf = true) (hz : RdU .u64 w A n zs ∧ InU zs ∧ n ≤ c ∧ n ≤ 9223372036854775807) (htab : Tab10 w.heap.size w) :
    Calls Tryz.prog 6 #[.agg #[.int .u64 t, .int .u32 r, .int .u32 v], .int .u64 slice, .slice A n c] w (Ans (.bool true) w) := Rdue.go (t, r, v) slice A n c zs w hp (bounds_u64 hs) hz htab
end Go.Proofs.YtjndmmcjobbcbaaGreatDoor

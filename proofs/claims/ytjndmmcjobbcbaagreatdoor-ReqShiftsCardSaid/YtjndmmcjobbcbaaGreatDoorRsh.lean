import Derived.Test.YtjndmmcjobbcbaaGreatDoorReqShiftsZ47
import Derived.Test.YtjndmmcjobbcbaaGreatDoorReqShiftsZ31
import Derived.BigGuard
import Derived.BigCall
namespace Go.Proofs.YtjndmmcjobbcbaaGreatDoor
open Go.RowKit
theorem Item.shiftR (a : It) (d : Int) (w : World) : Calls Tryz.prog 44 #[a.val, .int .u64 d] w (Ans (It.val (It.shift d a)) w) := Item.shift a d w
set_option maxRecDepth 100000 in
set_option maxHeartbeats 8000000 in
theorem Rsh.go (p : P3) (slice by1 : Int) (A : Option Addr) (n c : Nat) (zs : List Int) (w : World) (hp : PIn p) (hs : IsT slice) (hz : RdU .u64 w A n zs ∧ InU zs ∧ n ≤ c ∧ n ≤ 9223372036854775807) (htab : Tab10 w.heap.size w) : Calls Tryz.prog 7 #[pv p, .int .u64 slice, .int .u64 by1, .slice A n c] w (Ans (.bool true) w) := by
  have HP := hid hp
  have HSP := hid (sh_P (d := by1) hp)
  have HS := hid hs
  have HZ := hid hz
  have HTAB := hid htab
  clear hp hs hz htab
  have HV0 : Hid (VS w [(w.heap.size, (pcells p))] (w.alloc (.cells #[.int .u64 p.1, .int .u32 p.2.1, .int .u32 p.2.2] 27))) := hid (by have h := ((VS.nil w).new 27 (pcells p)); (try simp only [World.size_alloc] at h); exact h)
  go_enter Tryz.func7, Tryz.ntmps7
  go_wp2_with fail
  generalize (w.alloc (.cells #[.int .u64 p.1, .int .u32 p.2.1, .int .u32 p.2.2] 27)) = W0 at HV0 ⊢
  refine (Law15.awake _ (HTAB.out.at2 HV0.out.bel)).mono ?_
  rintro e w1 ⟨rfl, hb⟩
  have HV1 := hid (HV0.out.below hb)
  clear hb HV0 
  by_cases h4 : 100 < n
  · have h4' : (100 : Int) < n := by omega
    go_wp2_with fail
    go_ret
    exact ⟨rfl, HV1.out.bel⟩
  · have h4' : ¬ (100 : Int) < n := by omega
    obtain ⟨p0, p1, p2⟩ := P3.at p (HV1.out.cs 0 rfl)
    go_wp2_with fail
    by_cases h0 : ¬ (pR p = true ∧ slI slice = true)
    · have HRN := hid (new_no HP.out (id := 1) (by decide) h0)
      have HRM := hid (new_no HSP.out (id := 1) (by decide) h0)
      clear h0
      refine (Req.new p HP.out 1 slice ⟨by decide, by decide⟩ HS.out _).mono ?_
      rw [HRN.out]
      rintro e w2 ⟨rfl, hb⟩
      have HV2 := hid (HV1.out.below hb)
      clear hb HV1 p0 p1 p2
      have HV3 : Hid (VS w [(w.heap.size, (pcells p)), (w2.heap.size, Rq.no.cells)] (w2.alloc (.cells #[.int .u64 0, .int .u32 0, .int .u32 0, .int .i64 0, .int .u64 0, .int .u32 0, .int .u32 0, .int .u64 0, .int .u64 0, .bool false] 53))) := hid (HV2.out.new 53 Rq.no.cells)
      clear HV2
      go_wp2_with (first | ((with_reducible refine wpList_put_vs HV3.out 1 53 [.int .u64 0, .int .u32 0, .int .u32 0, .int .i64 0, .int .u64 0, .int .u32 0, .int .u32 0, .int .u64 0, .int .u64 0, .bool false] infoReq rfl (.tmp 9) (.tmp 28) rfl (w2.heap.size) (Rq.no.cells) ?vs13001a 0 ?vs13001b ?vs13001c ?vs13001d ?vs13001e ?vs13001f ?vs13001g); (case vs13001a => rfl); (case vs13001b => rfl); (case vs13001c => exact of_decide_eq_true rfl); (case vs13001d => rfl); (case vs13001e => rfl); (case vs13001f => rfl); (intro W2 hW2); (have HV4 : Hid (VS w [(w.heap.size, (pcells p)), (w2.heap.size, Rq.no.cells)] W2) := hid hW2); (clear hW2 HV3); (obtain ⟨p0, p1, p2⟩ := P3.at p (HV4.out.cs 0 rfl))) | fail)
      refine (Pos.shiftF p by1 _).mono ?_
      rintro e w3 ⟨rfl, hb⟩
      have HV5 := hid (HV4.out.below hb)
      clear hb HV4 p0 p1 p2
      go_wp2_with fail
      refine (Req.new (shP by1 p) HSP.out 1 slice ⟨by decide, by decide⟩ HS.out _).mono ?_
      rw [HRM.out]
      rintro e w4 ⟨rfl, hb⟩
      have HV6 := hid (HV5.out.below hb)
      clear hb HV5 
      have HV7 : Hid (VS w [(w.heap.size, (pcells p)), (w2.heap.size, Rq.no.cells), (w4.heap.size, Rq.no.cells)] (w4.alloc (.cells #[.int .u64 0, .int .u32 0, .int .u32 0, .int .i64 0, .int .u64 0, .int .u32 0, .int .u32 0, .int .u64 0, .int .u64 0, .bool false] 53))) := hid (HV6.out.new 53 Rq.no.cells)
      clear HV6
      go_wp2_with (first | ((with_reducible refine wpList_put_vs HV7.out 2 53 [.int .u64 0, .int .u32 0, .int .u32 0, .int .i64 0, .int .u64 0, .int .u32 0, .int .u32 0, .int .u64 0, .int .u64 0, .bool false] infoReq rfl (.tmp 11) (.tmp 36) rfl (w4.heap.size) (Rq.no.cells) ?vs13002a 0 ?vs13002b ?vs13002c ?vs13002d ?vs13002e ?vs13002f ?vs13002g); (case vs13002a => rfl); (case vs13002b => rfl); (case vs13002c => exact of_decide_eq_true rfl); (case vs13002d => rfl); (case vs13002e => rfl); (case vs13002f => rfl); (intro W2 hW2); (have HV8 : Hid (VS w [(w.heap.size, (pcells p)), (w2.heap.size, Rq.no.cells), (w4.heap.size, Rq.no.cells)] W2) := hid hW2); (clear hW2 HV7)) | fail)
      go_ret
      exact ⟨rfl, HV8.out.bel⟩
    · have h0' : pR p = true ∧ slI slice = true := Classical.not_not.1 h0
      obtain ⟨r, hr1, hr2⟩ := new_sh by1 HP.out (id := 1) (sl := slice) (by decide) h0'.1 h0'.2
      obtain ⟨r', hr1', hri, hrr, -, -, -⟩ := new_yes HP.out (id := 1) (sl := slice) (by decide) (by decide) h0'.1 h0'.2
      obtain rfl : r = r' := by rw [hr1] at hr1'; injection hr1'
      obtain ⟨x, k, ok, hx1, hx2, hxi⟩ := served_sh by1 zs r 0 hri hrr
      obtain ⟨r2, hsr⟩ : ∃ r2, r.sh by1 = r2 := ⟨_, rfl⟩
      have HR2 : Hid r2.In := hid (by rw [← hsr]; exact sh_in hri)
      rw [hsr] at hr2 hx2
      have HRN := hid hr1
      have HRM := hid hr2
      have HRI := hid hri
      have HX1 : Hid (r.served zs = (x, k, ok)) := hid hx1
      have HX2 : Hid (r2.served zs = (if ok = true then x.sh by1 else x, k, ok)) := hid hx2
      clear hr1 hr2 hr1' hri hrr hx1 hx2 hxi h0 h0' hsr
      refine (Req.new p HP.out 1 slice ⟨by decide, by decide⟩ HS.out _).mono ?_
      rw [HRN.out]
      rintro e w2 ⟨rfl, hb⟩
      have HV2 := hid (HV1.out.below hb)
      clear hb HV1 p0 p1 p2
      have HV3 : Hid (VS w [(w.heap.size, (pcells p)), (w2.heap.size, Rq.no.cells)] (w2.alloc (.cells #[.int .u64 0, .int .u32 0, .int .u32 0, .int .i64 0, .int .u64 0, .int .u32 0, .int .u32 0, .int .u64 0, .int .u64 0, .bool false] 53))) := hid (HV2.out.new 53 Rq.no.cells)
      clear HV2
      go_wp2_with (first | ((with_reducible refine wpList_put_vs HV3.out 1 53 [.int .u64 r.a.t, .int .u32 r.a.r, .int .u32 r.a.v, .int .i64 r.a.i, .int .u64 r.a.u, .int .u32 r.a.s, .int .u32 r.a.y, .int .u64 r.l, .int .u64 r.s, .bool r.z] infoReq rfl (.tmp 9) (.tmp 28) rfl (w2.heap.size) (Rq.no.cells) ?vs13003a 0 ?vs13003b ?vs13003c ?vs13003d ?vs13003e ?vs13003f ?vs13003g); (case vs13003a => rfl); (case vs13003b => rfl); (case vs13003c => exact of_decide_eq_true rfl); (case vs13003d => rfl); (case vs13003e => rfl); (case vs13003f => rfl); (intro W2 hW2); (have HV4 : Hid (VS w [(w.heap.size, (pcells p)), (w2.heap.size, r.cells)] W2) := hid hW2); (clear hW2 HV3); (obtain ⟨p0, p1, p2⟩ := P3.at p (HV4.out.cs 0 rfl))) | fail)
      refine (Pos.shiftF p by1 _).mono ?_
      rintro e w3 ⟨rfl, hb⟩
      have HV5 := hid (HV4.out.below hb)
      clear hb HV4 p0 p1 p2
      go_wp2_with fail
      refine (Req.new (shP by1 p) HSP.out 1 slice ⟨by decide, by decide⟩ HS.out _).mono ?_
      rw [HRM.out]
      rintro e w4 ⟨rfl, hb⟩
      have HV6 := hid (HV5.out.below hb)
      clear hb HV5 
      have HV7 : Hid (VS w [(w.heap.size, (pcells p)), (w2.heap.size, r.cells), (w4.heap.size, Rq.no.cells)] (w4.alloc (.cells #[.int .u64 0, .int .u32 0, .int .u32 0, .int .i64 0, .int .u64 0, .int .u32 0, .int .u32 0, .int .u64 0, .int .u64 0, .bool false] 53))) := hid (HV6.out.new 53 Rq.no.cells)
      clear HV6
      go_wp2_with (first | ((with_reducible refine wpList_put_vs HV7.out 2 53 [.int .u64 r2.a.t, .int .u32 r2.a.r, .int .u32 r2.a.v, .int .i64 r2.a.i, .int .u64 r2.a.u, .int .u32 r2.a.s, .int .u32 r2.a.y, .int .u64 r2.l, .int .u64 r2.s, .bool r2.z] infoReq rfl (.tmp 11) (.tmp 36) rfl (w4.heap.size) (Rq.no.cells) ?vs13004a 0 ?vs13004b ?vs13004c ?vs13004d ?vs13004e ?vs13004f ?vs13004g); (case vs13004a => rfl); (case vs13004b => rfl); (case vs13004c => exact of_decide_eq_true rfl); (case vs13004d => rfl); (case vs13004e => rfl); (case vs13004f => rfl); (intro W2 hW2); (have HV8 : Hid (VS w [(w.heap.size, (pcells p)), (w2.heap.size, r.cells), (w4.heap.size, r2.cells)] W2) := hid hW2); (clear hW2 HV7); (obtain ⟨c0, c1, c2, c3, c4, c5, c6, c7, c8, c9⟩ := Rq.at r (HV8.out.cs 1 rfl))) | fail)
      refine (Req.served r HRI.out A n c zs _ (HZ.out.1.below HV8.out.bel) HZ.out.2.1 (by omega)).mono ?_
      rw [HX1.out]
      rintro e w5 ⟨rfl, hb⟩
      have HV9 := hid (HV8.out.below hb)
      clear hb HV8 c0 c1 c2 c3 c4 c5 c6 c7 c8 c9
      have HV10 : Hid (VS w [(w.heap.size, (pcells p)), (w2.heap.size, r.cells), (w4.heap.size, r2.cells), (w5.heap.size, Rq.no.cells)] (w5.alloc (.cells #[.int .u64 0, .int .u32 0, .int .u32 0, .int .i64 0, .int .u64 0, .int .u32 0, .int .u32 0, .int .u64 0, .int .u64 0, .bool false] 53))) := hid (HV9.out.new 53 Rq.no.cells)
      clear HV9
      go_wp2_with (first | ((with_reducible refine wpList_put_vs HV10.out 3 53 [.int .u64 x.a.t, .int .u32 x.a.r, .int .u32 x.a.v, .int .i64 x.a.i, .int .u64 x.a.u, .int .u32 x.a.s, .int .u32 x.a.y, .int .u64 x.l, .int .u64 x.s, .bool x.z] infoReq rfl (.tmp 13) (.tmp 51) rfl (w5.heap.size) (Rq.no.cells) ?vs13005a 0 ?vs13005b ?vs13005c ?vs13005d ?vs13005e ?vs13005f ?vs13005g); (case vs13005a => rfl); (case vs13005b => rfl); (case vs13005c => exact of_decide_eq_true rfl); (case vs13005d => rfl); (case vs13005e => rfl); (case vs13005f => rfl); (intro W2 hW2); (have HV11 : Hid (VS w [(w.heap.size, (pcells p)), (w2.heap.size, r.cells), (w4.heap.size, r2.cells), (w5.heap.size, x.cells)] W2) := hid hW2); (clear hW2 HV10); (obtain ⟨c0, c1, c2, c3, c4, c5, c6, c7, c8, c9⟩ := Rq.at r2 (HV11.out.cs 2 rfl))) | fail)
      refine (Req.served r2 HR2.out A n c zs _ (HZ.out.1.below HV11.out.bel) HZ.out.2.1 (by omega)).mono ?_
      rw [HX2.out]
      rintro e w6 ⟨rfl, hb⟩
      have HV12 := hid (HV11.out.below hb)
      clear hb HV11 c0 c1 c2 c3 c4 c5 c6 c7 c8 c9
      have HV13 : Hid (VS w [(w.heap.size, (pcells p)), (w2.heap.size, r.cells), (w4.heap.size, r2.cells), (w5.heap.size, x.cells), (w6.heap.size, Rq.no.cells)] (w6.alloc (.cells #[.int .u64 0, .int .u32 0, .int .u32 0, .int .i64 0, .int .u64 0, .int .u32 0, .int .u32 0, .int .u64 0, .int .u64 0, .bool false] 53))) := hid (HV12.out.new 53 Rq.no.cells)
      clear HV12
      cases ok with
      | false =>
        rw [if_neg (by decide)]
        go_upto_region 11 with (first | ((with_reducible refine wpList_put_vs HV13.out 4 53 [.int .u64 x.a.t, .int .u32 x.a.r, .int .u32 x.a.v, .int .i64 x.a.i, .int .u64 x.a.u, .int .u32 x.a.s, .int .u32 x.a.y, .int .u64 x.l, .int .u64 x.s, .bool x.z] infoReq rfl (.tmp 16) (.tmp 58) rfl (w6.heap.size) (Rq.no.cells) ?vs13006a 0 ?vs13006b ?vs13006c ?vs13006d ?vs13006e ?vs13006f ?vs13006g); (case vs13006a => rfl); (case vs13006b => rfl); (case vs13006c => exact of_decide_eq_true rfl); (case vs13006d => rfl); (case vs13006e => rfl); (case vs13006f => rfl); (intro W2 hW2); (have HV14 : Hid (VS w [(w.heap.size, (pcells p)), (w2.heap.size, r.cells), (w4.heap.size, r2.cells), (w5.heap.size, x.cells), (w6.heap.size, x.cells)] W2) := hid hW2); (clear hW2 HV13)) | fail)
        refine wp_region_grow (S := VS w [(w.heap.size, (pcells p)), (w2.heap.size, r.cells), (w4.heap.size, r2.cells), (w5.heap.size, x.cells), (w6.heap.size, x.cells)]) 29 (by kernel_rfl) (HV14.out.below (Below.refl _ _).drew) ?_
        refine tE 0 (v := ?_) (VS.stays w _) (fun _ h => h) rfl (by kernel_rfl) (by rfl) ?_ ?_
        rotate_left
        · intro wq hSw
          go_simp; try with_reducible rfl
        try simp only [tdy]
        refine tE 1 (v := ?_) (VS.stays w _) (fun _ h => h) rfl (by kernel_rfl) (by rfl) ?_ ?_
        rotate_left
        · intro wq hSw
          go_simp; try with_reducible rfl
        try simp only [tdy]
        refine tE 2 (v := ?_) (VS.stays w _) (fun _ h => h) rfl (by kernel_rfl) (by rfl) ?_ ?_
        rotate_left
        · intro wq hSw
          go_simp; try with_reducible rfl
        try simp only [tdy]
        refine tE 3 (v := ?_) (VS.stays w _) (fun _ h => h) rfl (by kernel_rfl) (by rfl) ?_ ?_
        rotate_left
        · intro wq hSw
          go_simp; try with_reducible rfl
        try simp only [tdy]
        refine tE 4 (v := ?_) (VS.stays w _) (fun _ h => h) rfl (by kernel_rfl) (by rfl) ?_ ?_
        rotate_left
        · intro wq hSw
          go_simp; try with_reducible rfl
        try simp only [tdy]
        refine tE 5 (v := ?_) (VS.stays w _) (fun _ h => h) rfl (by kernel_rfl) (by rfl) ?_ ?_
        rotate_left
        · intro wq hSw
          go_simp; try with_reducible rfl
        try simp only [tdy]
        refine tE 6 (v := ?_) (VS.stays w _) (fun _ h => h) rfl (by kernel_rfl) (by rfl) ?_ ?_
        rotate_left
        · intro wq hSw
          go_simp; try with_reducible rfl
        try simp only [tdy]
        refine tE 7 (v := ?_) (VS.stays w _) (fun _ h => h) rfl (by kernel_rfl) (by rfl) ?_ ?_
        rotate_left
        · intro wq hSw
          go_simp; try with_reducible rfl
        try simp only [tdy]
        refine tE 8 (v := ?_) (VS.stays w _) (fun _ h => h) rfl (by kernel_rfl) (by rfl) ?_ ?_
        rotate_left
        · intro wq hSw
          go_simp; try with_reducible rfl
        try simp only [tdy]
        refine tE 9 (v := ?_) (VS.stays w _) (fun _ h => h) rfl (by kernel_rfl) (by rfl) ?_ ?_
        rotate_left
        · intro wq hSw
          go_simp; try with_reducible rfl
        try simp only [tdy]
        refine tE 10 (v := ?_) (VS.stays w _) (fun _ h => h) rfl (by kernel_rfl) (by rfl) ?_ ?_
        rotate_left
        · intro wq hSw
          go_simp; try with_reducible rfl
        try simp only [tdy]
        refine tE 11 (v := ?_) (VS.stays w _) (fun _ h => h) rfl (by kernel_rfl) (by rfl) ?_ ?_
        rotate_left
        · intro wq hSw
          go_simp; try with_reducible rfl
        try simp only [tdy]
        refine wpAnyE_take (i := 12) (v := undef) (VS.stays w _) (fun _ h => h) rfl (by kernel_rfl) (by kernel_rfl) (by kernel_rfl) (by kernel_rfl) (fun _ _ _ h => h) (Or.inr ⟨by rfl, rfl⟩) ?_
        try simp only [tdy]
        refine wpAnyE_take (i := 13) (v := undef) (VS.stays w _) (fun _ h => h) rfl (by kernel_rfl) (by kernel_rfl) (by kernel_rfl) (by kernel_rfl) (fun _ _ _ h => h) (Or.inr ⟨by rfl, rfl⟩) ?_
        try simp only [tdy]
        refine wpAnyE_take (i := 14) (v := undef) (VS.stays w _) (fun _ h => h) rfl (by kernel_rfl) (by kernel_rfl) (by kernel_rfl) (by kernel_rfl) (fun _ _ _ h => h) (Or.inr ⟨by rfl, rfl⟩) ?_
        try simp only [tdy]
        refine wpAnyE_take (i := 16) (v := undef) (VS.stays w _) (fun _ h => h) rfl (by kernel_rfl) (by kernel_rfl) (by kernel_rfl) (by kernel_rfl) (fun _ _ _ h => h) (Or.inr ⟨by rfl, rfl⟩) ?_
        try simp only [tdy]
        refine wpAnyE_take (i := 17) (v := undef) (VS.stays w _) (fun _ h => h) rfl (by kernel_rfl) (by kernel_rfl) (by kernel_rfl) (by kernel_rfl) (fun _ _ _ h => h) (Or.inr ⟨by rfl, rfl⟩) ?_
        try simp only [tdy]
        refine wpAnyE_take (i := 15) (v := undef) (VS.stays w _) (fun _ h => h) rfl (by kernel_rfl) (by kernel_rfl) (by kernel_rfl) (by kernel_rfl) (fun _ _ _ h => h) (Or.inr ⟨by rfl, rfl⟩) ?_
        try simp only [tdy]
        refine wpAnyE_take (i := 18) (v := undef) (VS.stays w _) (fun _ h => h) rfl (by kernel_rfl) (by kernel_rfl) (by kernel_rfl) (by kernel_rfl) (fun _ _ _ h => h) (Or.inr ⟨by rfl, rfl⟩) ?_
        try simp only [tdy]
        refine wpAnyE_take (i := 19) (v := undef) (VS.stays w _) (fun _ h => h) rfl (by kernel_rfl) (by kernel_rfl) (by kernel_rfl) (by kernel_rfl) (fun _ _ _ h => h) (Or.inr ⟨by rfl, rfl⟩) ?_
        try simp only [tdy]
        refine wpAnyE_take (i := 20) (v := undef) (VS.stays w _) (fun _ h => h) rfl (by kernel_rfl) (by kernel_rfl) (by kernel_rfl) (by kernel_rfl) (fun _ _ _ h => h) (Or.inr ⟨by rfl, rfl⟩) ?_
        try simp only [tdy]
        refine wpAnyE_take (i := 21) (v := undef) (VS.stays w _) (fun _ h => h) rfl (by kernel_rfl) (by kernel_rfl) (by kernel_rfl) (by kernel_rfl) (fun _ _ _ h => h) (Or.inr ⟨by rfl, rfl⟩) ?_
        try simp only [tdy]
        refine wpAnyE_take (i := 22) (v := undef) (VS.stays w _) (fun _ h => h) rfl (by kernel_rfl) (by kernel_rfl) (by kernel_rfl) (by kernel_rfl) (fun _ _ _ h => h) (Or.inr ⟨by rfl, rfl⟩) ?_
        try simp only [tdy]
        refine wpAnyE_take (i := 23) (v := undef) (VS.stays w _) (fun _ h => h) rfl (by kernel_rfl) (by kernel_rfl) (by kernel_rfl) (by kernel_rfl) (fun _ _ _ h => h) (Or.inr ⟨by rfl, rfl⟩) ?_
        try simp only [tdy]
        refine wpAnyE_take (i := 24) (v := undef) (VS.stays w _) (fun _ h => h) rfl (by kernel_rfl) (by kernel_rfl) (by kernel_rfl) (by kernel_rfl) (fun _ _ _ h => h) (Or.inr ⟨by rfl, rfl⟩) ?_
        try simp only [tdy]
        refine wpAnyE_take (i := 25) (v := undef) (VS.stays w _) (fun _ h => h) rfl (by kernel_rfl) (by kernel_rfl) (by kernel_rfl) (by kernel_rfl) (fun _ _ _ h => h) (Or.inr ⟨by rfl, rfl⟩) ?_
        try simp only [tdy]
        refine tE 26 (v := ?_) (VS.stays w _) (fun _ h => h) rfl (by kernel_rfl) (by rfl) ?_ ?_
        rotate_left
        · intro wq hSw
          go_simp; try with_reducible rfl
        try simp only [tdy]
        refine tE 27 (v := ?_) (VS.stays w _) (fun _ h => h) rfl (by kernel_rfl) (by rfl) ?_ ?_
        rotate_left
        · intro wq hSw
          go_simp; try with_reducible rfl
        try simp only [tdy]
        refine tE 28 (v := ?_) (VS.stays w _) (fun _ h => h) rfl (by kernel_rfl) (by rfl) ?_ ?_
        rotate_left
        · intro wq hSw
          go_simp; try with_reducible rfl
        try simp only [tdy]
        refine wpAnyE_done (by kernel_rfl) (fun wz hSz => ?_) _
        go_wp2_with fail
        go_ret
        exact ⟨rfl, hSz.bel⟩
      | true =>
        rw [if_pos rfl]
        go_upto_region 11 with (first | ((with_reducible refine wpList_put_vs HV13.out 4 53 [.int .u64 (It.shift by1 x.a).t, .int .u32 (It.shift by1 x.a).r, .int .u32 (It.shift by1 x.a).v, .int .i64 (It.shift by1 x.a).i, .int .u64 (It.shift by1 x.a).u, .int .u32 (It.shift by1 x.a).s, .int .u32 (It.shift by1 x.a).y, .int .u64 x.l, .int .u64 x.s, .bool x.z] infoReq rfl (.tmp 16) (.tmp 58) rfl (w6.heap.size) (Rq.no.cells) ?vs13007a 0 ?vs13007b ?vs13007c ?vs13007d ?vs13007e ?vs13007f ?vs13007g); (case vs13007a => rfl); (case vs13007b => rfl); (case vs13007c => exact of_decide_eq_true rfl); (case vs13007d => rfl); (case vs13007e => rfl); (case vs13007f => rfl); (intro W2 hW2); (have HV14 : Hid (VS w [(w.heap.size, (pcells p)), (w2.heap.size, r.cells), (w4.heap.size, r2.cells), (w5.heap.size, x.cells), (w6.heap.size, (Rq.mk (It.shift by1 x.a) x.l x.s x.z).cells)] W2) := hid hW2); (clear hW2 HV13)) | fail)
        refine wp_region_grow (S := VS w [(w.heap.size, (pcells p)), (w2.heap.size, r.cells), (w4.heap.size, r2.cells), (w5.heap.size, x.cells), (w6.heap.size, (Rq.mk (It.shift by1 x.a) x.l x.s x.z).cells)]) 29 (by kernel_rfl) (HV14.out.below (Below.refl _ _).drew) ?_
        refine tE 0 (v := ?_) (VS.stays w _) (fun _ h => h) rfl (by kernel_rfl) (by rfl) ?_ ?_
        rotate_left
        · intro wq hSw
          go_simp; try with_reducible rfl
        try simp only [tdy]
        refine tE 1 (v := ?_) (VS.stays w _) (fun _ h => h) rfl (by kernel_rfl) (by rfl) ?_ ?_
        rotate_left
        · intro wq hSw
          go_simp; try with_reducible rfl
        try simp only [tdy]
        refine tE 2 (v := ?_) (VS.stays w _) (fun _ h => h) rfl (by kernel_rfl) (by rfl) ?_ ?_
        rotate_left
        · intro wq hSw
          go_simp; try with_reducible rfl
        try simp only [tdy]
        refine tE 3 (v := ?_) (VS.stays w _) (fun _ h => h) rfl (by kernel_rfl) (by rfl) ?_ ?_
        rotate_left
        · intro wq hSw
          go_simp; try with_reducible rfl
        try simp only [tdy]
        refine tE 4 (v := ?_) (VS.stays w _) (fun _ h => h) rfl (by kernel_rfl) (by rfl) ?_ ?_
        rotate_left
        · intro wq hSw
          go_simp; try with_reducible rfl
        try simp only [tdy]
        refine tE 5 (v := ?_) (VS.stays w _) (fun _ h => h) rfl (by kernel_rfl) (by rfl) ?_ ?_
        rotate_left
        · intro wq hSw
          go_simp; try with_reducible rfl
        try simp only [tdy]
        refine tE 6 (v := ?_) (VS.stays w _) (fun _ h => h) rfl (by kernel_rfl) (by rfl) ?_ ?_
        rotate_left
        · intro wq hSw
          go_simp; try with_reducible rfl
        try simp only [tdy]
        refine tE 7 (v := ?_) (VS.stays w _) (fun _ h => h) rfl (by kernel_rfl) (by rfl) ?_ ?_
        rotate_left
        · intro wq hSw
          go_simp; try with_reducible rfl
        try simp only [tdy]
        refine tE 8 (v := ?_) (VS.stays w _) (fun _ h => h) rfl (by kernel_rfl) (by rfl) ?_ ?_
        rotate_left
        · intro wq hSw
          go_simp; try with_reducible rfl
        try simp only [tdy]
        refine tE 9 (v := ?_) (VS.stays w _) (fun _ h => h) rfl (by kernel_rfl) (by rfl) ?_ ?_
        rotate_left
        · intro wq hSw
          go_simp; try with_reducible rfl
        try simp only [tdy]
        refine tE 10 (v := ?_) (VS.stays w _) (fun _ h => h) rfl (by kernel_rfl) (by rfl) ?_ ?_
        rotate_left
        · intro wq hSw
          go_simp; try with_reducible rfl
        try simp only [tdy]
        refine tE 11 (v := ?_) (VS.stays w _) (fun _ h => h) rfl (by kernel_rfl) (by rfl) ?_ ?_
        rotate_left
        · intro wq hSw
          go_simp; try with_reducible rfl
        try simp only [tdy]
        refine tE 12 (v := ?_) (VS.stays w _) (fun _ h => h) rfl (by kernel_rfl) (by rfl) ?_ ?_
        rotate_left
        · intro wq hSw
          go_simp; try with_reducible rfl
        try simp only [tdy]
        refine tE 13 (v := ?_) (VS.stays w _) (fun _ h => h) rfl (by kernel_rfl) (by rfl) ?_ ?_
        rotate_left
        · intro wq hSw
          obtain ⟨c0, c1, c2, c3, c4, c5, c6, c7, c8, c9⟩ := Rq.at x (hSw.cs 3 rfl)
          obtain ⟨d0, d1, d2, d3, d4, d5, d6, d7, d8, d9⟩ := Rq.at (Rq.mk (It.shift by1 x.a) x.l x.s x.z) (hSw.cs 4 rfl)
          go_simp; try with_reducible rfl
        try simp only [tdy]
        refine tE 14 (v := ?_) (VS.stays w _) (fun _ h => h) rfl (by kernel_rfl) (by rfl) ?_ ?_
        rotate_left
        · intro wq hSw
          go_simp; try with_reducible rfl
        try simp only [tdy]
        refine tE 16 (v := ?_) (VS.stays w _) (fun _ h => h) rfl (by kernel_rfl) (by rfl) ?_ ?_
        rotate_left
        · intro wq hSw
          go_simp; try with_reducible rfl
        try simp only [tdy]
        refine tE 17 (v := ?_) (VS.stays w _) (fun _ h => h) rfl (by kernel_rfl) (by rfl) ?_ ?_
        rotate_left
        · intro wq hSw
          obtain ⟨c0, c1, c2, c3, c4, c5, c6, c7, c8, c9⟩ := Rq.at x (hSw.cs 3 rfl)
          obtain ⟨d0, d1, d2, d3, d4, d5, d6, d7, d8, d9⟩ := Rq.at (Rq.mk (It.shift by1 x.a) x.l x.s x.z) (hSw.cs 4 rfl)
          go_simp; try with_reducible rfl
        try simp only [tdy]
        refine wpAnyE_take (i := 15) (v := It.val (It.shift by1 x.a)) (VS.stays w _) (fun _ h => h) rfl (by kernel_rfl) (by kernel_rfl) (by kernel_rfl) (by kernel_rfl) (fun _ _ _ h => h) (Or.inl ⟨by rfl, fun wq hSw => ?_⟩) ?_
        · refine RunB.of_calls (Item.shiftR x.a by1 wq) (by go_simp) ?_
          rintro e wr ⟨rfl, hb⟩
          exact ⟨rfl, hb⟩
        try simp only [tdy]
        refine tE 18 (v := ?_) (VS.stays w _) (fun _ h => h) rfl (by kernel_rfl) (by rfl) ?_ ?_
        rotate_left
        · intro wq hSw
          go_simp; try with_reducible rfl
        try simp only [tdy]
        refine tE 19 (v := ?_) (VS.stays w _) (fun _ h => h) rfl (by kernel_rfl) (by rfl) ?_ ?_
        rotate_left
        · intro wq hSw
          go_simp; try with_reducible rfl
        try simp only [tdy]
        refine tE 20 (v := ?_) (VS.stays w _) (fun _ h => h) rfl (by kernel_rfl) (by rfl) ?_ ?_
        rotate_left
        · intro wq hSw
          go_simp; try with_reducible rfl
        try simp only [tdy]
        refine tE 21 (v := ?_) (VS.stays w _) (fun _ h => h) rfl (by kernel_rfl) (by rfl) ?_ ?_
        rotate_left
        · intro wq hSw
          obtain ⟨c0, c1, c2, c3, c4, c5, c6, c7, c8, c9⟩ := Rq.at x (hSw.cs 3 rfl)
          obtain ⟨d0, d1, d2, d3, d4, d5, d6, d7, d8, d9⟩ := Rq.at (Rq.mk (It.shift by1 x.a) x.l x.s x.z) (hSw.cs 4 rfl)
          go_simp; try with_reducible rfl
        try simp only [tdy]
        refine tE 22 (v := ?_) (VS.stays w _) (fun _ h => h) rfl (by kernel_rfl) (by rfl) ?_ ?_
        rotate_left
        · intro wq hSw
          go_simp; try with_reducible rfl
        try simp only [tdy]
        refine tE 23 (v := ?_) (VS.stays w _) (fun _ h => h) rfl (by kernel_rfl) (by rfl) ?_ ?_
        rotate_left
        · intro wq hSw
          obtain ⟨c0, c1, c2, c3, c4, c5, c6, c7, c8, c9⟩ := Rq.at x (hSw.cs 3 rfl)
          obtain ⟨d0, d1, d2, d3, d4, d5, d6, d7, d8, d9⟩ := Rq.at (Rq.mk (It.shift by1 x.a) x.l x.s x.z) (hSw.cs 4 rfl)
          go_simp; try with_reducible rfl
        try simp only [tdy]
        refine tE 24 (v := ?_) (VS.stays w _) (fun _ h => h) rfl (by kernel_rfl) (by rfl) ?_ ?_
        rotate_left
        · intro wq hSw
          go_simp; try with_reducible rfl
        try simp only [tdy]
        refine tE 25 (v := ?_) (VS.stays w _) (fun _ h => h) rfl (by kernel_rfl) (by rfl) ?_ ?_
        rotate_left
        · intro wq hSw
          go_simp; try with_reducible rfl
        try simp only [tdy]
        refine tE 26 (v := ?_) (VS.stays w _) (fun _ h => h) rfl (by kernel_rfl) (by rfl) ?_ ?_
        rotate_left
        · intro wq hSw
          go_simp; try with_reducible rfl
        try simp only [tdy]
        refine tE 27 (v := ?_) (VS.stays w _) (fun _ h => h) rfl (by kernel_rfl) (by rfl) ?_ ?_
        rotate_left
        · intro wq hSw
          go_simp; try with_reducible rfl
        try simp only [tdy]
        refine tE 28 (v := ?_) (VS.stays w _) (fun _ h => h) rfl (by kernel_rfl) (by rfl) ?_ ?_
        rotate_left
        · intro wq hSw
          go_simp; try with_reducible rfl
        try simp only [tdy]
        refine wpAnyE_done (by kernel_rfl) (fun wz hSz => ?_) _
        go_wp2_with fail
        go_ret
        exact ⟨rfl, hSz.bel⟩
theorem Rsh.law (t r v slice by1 : Int) (A : Option Addr) (n c : Nat) (zs : List Int) (w : World) (hp : (0 ≤ t ∧ t ≤ 18446744073709551615) ∧ (0 ≤ r ∧ r ≤ 4294967295) ∧ (0 ≤ v ∧ v ≤ 4294967295)) (hs : (Lit.int .u64 slice).wf = true) (_hb : (Lit.int .u64 by1).wf = true) (hz : RdU .u64 w A n zs ∧ InU zs ∧ n ≤ c ∧ n ≤ 9223372036854775807) (htab : Tab10 w.heap.size w) :
    Calls Tryz.prog 7 #[.agg #[.int .u64 t, .int .u32 r, .int .u32 v], .int .u64 slice, .int .u64 by1, .slice A n c] w (Ans (.bool true) w) := Rsh.go (t, r, v) slice by1 A n c zs w hp (bounds_u64 hs) hz htab
end Go.Proofs.YtjndmmcjobbcbaaGreatDoor

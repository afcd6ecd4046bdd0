import Derived.Test.YtjndmmcjobbcbaaGreatDoorReqServesZ46
import Derived.Test.YtjndmmcjobbcbaaGreatDoorReqServesZ49
import Derived.BigGuard
import Derived.BigCall
namespace Go.Proofs.YtjndmmcjobbcbaaGreatDoor
open Go.RowKit
set_option maxRecDepth 100000 in
set_option maxHeartbeats 8000000 in
theorem Rsrv.law (r : Rq) (n : Int) (A : Option Addr) (l c : Nat) (zs : List Int) (w : World) (hr : r.In) (hn : (Lit.int .u64 n).wf = true) (hz : RdU .u64 w A l zs ∧ InU zs ∧ l ≤ c ∧ l ≤ 9223372036854775807) (htab : Tab10 w.heap.size w) : Calls Tryz.prog 5 #[r.val, .int .u64 n, .slice A l c] w (Ans (.bool true) w) := by
 have HR := hid hr
 have HN : Hid (IsT n) := hid (bounds_u64 hn)
 have HZ := hid hz
 have HTAB := hid htab
 obtain ⟨⟨x1, b1, k1⟩, h1⟩ : ∃ x, r.serve n = x := ⟨_, rfl⟩
 obtain ⟨⟨x2, b2, k2⟩, h2⟩ : ∃ x, r.served zs = x := ⟨_, rfl⟩
 have HX1 := hid h1
 have HX2 := hid h2
 clear hr hn hz htab h1 h2
 unfold Rq.val
 have HV0 : Hid (VS w [(w.heap.size, r.cells)] (w.alloc (.cells #[.int .u64 r.a.t, .int .u32 r.a.r, .int .u32 r.a.v, .int .i64 r.a.i, .int .u64 r.a.u, .int .u32 r.a.s, .int .u32 r.a.y, .int .u64 r.l, .int .u64 r.s, .bool r.z] 53))) := hid (by have h := ((VS.nil w).new 53 r.cells); (try simp only [World.size_alloc] at h); exact h)
 go_enter Tryz.func5, Tryz.ntmps5
 go_wp2_with fail
 generalize (w.alloc (.cells #[.int .u64 r.a.t, .int .u32 r.a.r, .int .u32 r.a.v, .int .i64 r.a.i, .int .u64 r.a.u, .int .u32 r.a.s, .int .u32 r.a.y, .int .u64 r.l, .int .u64 r.s, .bool r.z] 53)) = W0 at HV0 ⊢
 refine (Law15.awake _ (HTAB.out.at2 HV0.out.bel)).mono ?_
 rintro e w1 ⟨rfl, hb⟩
 have HV1 := hid (HV0.out.below hb)
 clear hb HV0 
 by_cases h4 : 100 < l
 ·have h4' : (100 : Int) < l := by omega
  go_wp2_with fail
  go_ret
  exact ⟨rfl, HV1.out.bel⟩
 ·have h4' : ¬ (100 : Int) < l := by omega
  obtain ⟨c0, c1, c2, c3, c4, c5, c6, c7, c8, c9⟩ := Rq.at r (HV1.out.cs 0 rfl)
  go_wp2_with fail
  refine (Req.serve r HR.out n HN.out _).mono ?_
  rw [HX1.out]
  rintro e w2 ⟨rfl, hb⟩
  have HV2 := hid (HV1.out.below hb)
  clear hb HV1 c0 c1 c2 c3 c4 c5 c6 c7 c8 c9
  have HV3 : Hid (VS w _ (w2.alloc (.cells #[.int .u64 0, .int .u32 0, .int .u32 0, .int .i64 0, .int .u64 0, .int .u32 0, .int .u32 0, .int .u64 0, .int .u64 0, .bool false] 53))) := hid (HV2.out.new 53 Rq.no.cells)
  clear HV2
  go_wp2_with (first | ((with_reducible refine pvs HV3.out 1 53 [.int .u64 x1.a.t, .int .u32 x1.a.r, .int .u32 x1.a.v, .int .i64 x1.a.i, .int .u64 x1.a.u, .int .u32 x1.a.s, .int .u32 x1.a.y, .int .u64 x1.l, .int .u64 x1.s, .bool x1.z] infoReq 7 28 (w2.heap.size) (Rq.no.cells) 0 ?vs30006); (intro W2 hW2); (have HV4 := hid hW2); (clear hW2 HV3); (obtain ⟨c0, c1, c2, c3, c4, c5, c6, c7, c8, c9⟩ := Rq.at r (HV4.out.cs 0 rfl))) | fail)
  refine (Law15.of r _).mono ?_
  rintro e w3 ⟨rfl, hb⟩
  have HV5 := hid (HV4.out.below hb)
  clear hb HV4 c0 c1 c2 c3 c4 c5 c6 c7 c8 c9
  go_wp2_with fail
  refine (Ref15.serve r HR.out n HN.out _).mono ?_
  rw [HX1.out]
  rintro e w4 ⟨rfl, hb⟩
  have HV6 := hid (HV5.out.below hb)
  clear hb HV5 
  have HV7 : Hid (VS w _ (w4.alloc (.cells #[.int .u64 0, .int .u32 0, .int .u32 0, .int .i64 0, .int .u64 0, .int .u32 0, .int .u32 0, .int .u64 0, .int .u64 0, .bool false] 61))) := hid (HV6.out.new 61 Rq.no.cells)
  clear HV6
  go_wp2_with (first | ((with_reducible refine pvs HV7.out 2 61 [.int .u64 x1.a.t, .int .u32 x1.a.r, .int .u32 x1.a.v, .int .i64 x1.a.i, .int .u64 x1.a.u, .int .u32 x1.a.s, .int .u32 x1.a.y, .int .u64 x1.l, .int .u64 x1.s, .bool x1.z] infoRefReq 10 36 (w4.heap.size) (Rq.no.cells) 0 ?vs30007); (intro W2 hW2); (have HV8 := hid hW2); (clear hW2 HV7); (obtain ⟨c0, c1, c2, c3, c4, c5, c6, c7, c8, c9⟩ := Rq.at r (HV8.out.cs 0 rfl))) | fail)
  refine (Req.served r HR.out A l c zs _ (HZ.out.1.below HV8.out.bel) HZ.out.2.1 (by omega)).mono ?_
  rw [HX2.out]
  rintro e w5 ⟨rfl, hb⟩
  have HV9 := hid (HV8.out.below hb)
  clear hb HV8 c0 c1 c2 c3 c4 c5 c6 c7 c8 c9
  have HV10 : Hid (VS w _ (w5.alloc (.cells #[.int .u64 0, .int .u32 0, .int .u32 0, .int .i64 0, .int .u64 0, .int .u32 0, .int .u32 0, .int .u64 0, .int .u64 0, .bool false] 53))) := hid (HV9.out.new 53 Rq.no.cells)
  clear HV9
  go_wp2_with (first | ((with_reducible refine pvs HV10.out 3 53 [.int .u64 x2.a.t, .int .u32 x2.a.r, .int .u32 x2.a.v, .int .i64 x2.a.i, .int .u64 x2.a.u, .int .u32 x2.a.s, .int .u32 x2.a.y, .int .u64 x2.l, .int .u64 x2.s, .bool x2.z] infoReq 13 43 (w5.heap.size) (Rq.no.cells) 0 ?vs30008); (intro W2 hW2); (have HV11 := hid hW2); (clear hW2 HV10); (obtain ⟨c0, c1, c2, c3, c4, c5, c6, c7, c8, c9⟩ := Rq.at r (HV11.out.cs 0 rfl))) | fail)
  refine (Law15.of r _).mono ?_
  rintro e w6 ⟨rfl, hb⟩
  have HV12 := hid (HV11.out.below hb)
  clear hb HV11 c0 c1 c2 c3 c4 c5 c6 c7 c8 c9
  go_wp2_with fail
  refine (Ref15.served r HR.out A l c zs _ (HZ.out.1.below HV12.out.bel) HZ.out.2.1 (by omega)).mono ?_
  rw [HX2.out]
  rintro e w7 ⟨rfl, hb⟩
  have HV13 := hid (HV12.out.below hb)
  clear hb HV12 
  have HV14 : Hid (VS w _ (w7.alloc (.cells #[.int .u64 0, .int .u32 0, .int .u32 0, .int .i64 0, .int .u64 0, .int .u32 0, .int .u32 0, .int .u64 0, .int .u64 0, .bool false] 61))) := hid (HV13.out.new 61 Rq.no.cells)
  clear HV13
  go_upto_region 9 with (first | ((with_reducible refine pvs HV14.out 4 61 [.int .u64 x2.a.t, .int .u32 x2.a.r, .int .u32 x2.a.v, .int .i64 x2.a.i, .int .u64 x2.a.u, .int .u32 x2.a.s, .int .u32 x2.a.y, .int .u64 x2.l, .int .u64 x2.s, .bool x2.z] infoRefReq 16 51 (w7.heap.size) (Rq.no.cells) 0 ?vs30009); (intro W2 hW2); (have HV15 := hid hW2); (clear hW2 HV14)) | fail)
  refine wp_region_grow (S := VS w [(w.heap.size, r.cells), (w2.heap.size, x1.cells), (w4.heap.size, x1.cells), (w5.heap.size, x2.cells), (w7.heap.size, x2.cells)]) 31 (by kernel_rfl) (HV15.out.below (Below.refl _ _).drew) ?_
  refine tG 0 (VS.stays w _) (fun _ h => h) (fun _ hSw => Rq.at x1 (hSw.cs 1 rfl)) ?_
  try simp only [tdy]
  refine tG 2 (VS.stays w _) (fun _ h => h) (fun _ hSw => Rq.at x1 (hSw.cs 2 rfl)) ?_
  try simp only [tdy]
  refine tC 1 (v := x1.val) (VS.stays w _) (fun _ h => h) (fun wq hSw => Law15.of x1 wq) ?_
  try simp only [tdy]
  refine tF 3 (VS.stays w _) (fun _ h => h) ?_
  try simp only [tdy]
  refine tF 4 (VS.stays w _) (fun _ h => h) ?_
  try simp only [tdy]
  refine tF 5 (VS.stays w _) (fun _ h => h) ?_
  try simp only [tdy]
  refine tF 6 (VS.stays w _) (fun _ h => h) ?_
  try simp only [tdy]
  refine tF 7 (VS.stays w _) (fun _ h => h) ?_
  try simp only [tdy]
  refine tF 8 (VS.stays w _) (fun _ h => h) ?_
  try simp only [tdy]
  refine tF 9 (VS.stays w _) (fun _ h => h) ?_
  try simp only [tdy]
  refine tF 10 (VS.stays w _) (fun _ h => h) ?_
  try simp only [tdy]
  refine tF 11 (VS.stays w _) (fun _ h => h) ?_
  try simp only [tdy]
  refine tF 12 (VS.stays w _) (fun _ h => h) ?_
  try simp only [tdy]
  refine tF 13 (VS.stays w _) (fun _ h => h) ?_
  try simp only [tdy]
  refine tF 14 (VS.stays w _) (fun _ h => h) ?_
  try simp only [tdy]
  refine tG 15 (VS.stays w _) (fun _ h => h) (fun _ hSw => Rq.at x2 (hSw.cs 3 rfl)) ?_
  try simp only [tdy]
  refine tG 17 (VS.stays w _) (fun _ h => h) (fun _ hSw => Rq.at x2 (hSw.cs 4 rfl)) ?_
  try simp only [tdy]
  refine tC 16 (v := x2.val) (VS.stays w _) (fun _ h => h) (fun wq hSw => Law15.of x2 wq) ?_
  try simp only [tdy]
  refine tF 18 (VS.stays w _) (fun _ h => h) ?_
  try simp only [tdy]
  refine tF 19 (VS.stays w _) (fun _ h => h) ?_
  try simp only [tdy]
  refine tF 20 (VS.stays w _) (fun _ h => h) ?_
  try simp only [tdy]
  refine tF 21 (VS.stays w _) (fun _ h => h) ?_
  try simp only [tdy]
  refine tF 22 (VS.stays w _) (fun _ h => h) ?_
  try simp only [tdy]
  refine tF 23 (VS.stays w _) (fun _ h => h) ?_
  try simp only [tdy]
  refine tF 24 (VS.stays w _) (fun _ h => h) ?_
  try simp only [tdy]
  refine tF 25 (VS.stays w _) (fun _ h => h) ?_
  try simp only [tdy]
  refine tF 26 (VS.stays w _) (fun _ h => h) ?_
  try simp only [tdy]
  refine tF 27 (VS.stays w _) (fun _ h => h) ?_
  try simp only [tdy]
  refine tF 28 (VS.stays w _) (fun _ h => h) ?_
  try simp only [tdy]
  refine tF 29 (VS.stays w _) (fun _ h => h) ?_
  try simp only [tdy]
  refine tF 30 (VS.stays w _) (fun _ h => h) ?_
  try simp only [tdy]
  refine wpAnyE_done (by kernel_rfl) (fun wz hSz => ?_) _
  go_wp2_with fail
  go_ret
  exact ⟨rfl, hSz.bel⟩
end Go.Proofs.YtjndmmcjobbcbaaGreatDoor

import Derived.Test.YtjndmmcjobbcbaaGreatDoorReqMakesZ46
import Derived.Test.YtjndmmcjobbcbaaGreatDoorReqMakesZ49
import Derived.BigGuard
import Derived.BigCall
namespace Go.Proofs.YtjndmmcjobbcbaaGreatDoor
open Go.RowKit
theorem VS.addAt {w W W2 : World} {L : List (Nat × List Value)} (h2 : VS w L W2) (h : VS w L W) {g : Nat} {v : Value} {vs : List Value} (hc : Cs W g (v :: vs)) (hg : W2.heap.size ≤ g) : VS w (L ++ [(g, v :: vs)]) W := by
 refine ⟨fun k b us e => ?_, ?_, h.2.2⟩
 ·rw [List.getElem?_append] at e
  split at e
  ·exact h.1 k b us e
  ·rcases hk : k - L.length with _ | j
   ·rw [hk] at e
    simp at e
    obtain ⟨rfl, rfl⟩ := e
    exact ⟨hc, Nat.le_trans h2.2.2.size hg, hc.lt⟩
   ·rw [hk] at e; simp at e
 ·rw [List.map_append, List.nodup_append]
  refine ⟨h.2.1, by simp, fun a ha b hb e => ?_⟩
  simp at hb
  obtain ⟨x, hx, e2⟩ := List.mem_map.1 ha
  obtain ⟨k, hk⟩ := List.getElem?_of_mem hx
  have := (h2.1 k x.1 x.2 hk).2.2
  omega
theorem VS.farAt {w W W2 : World} {L : List (Nat × List Value)} (h2 : VS w L W2) (h : VS w L W) {g : Nat} (hg : W2.heap.size ≤ g) (o : Nat) (us : List Value) : VS w L (W.setCells g o us) := by
 have hsz : ∀ (vs : List Value) (o : Nat) (W : World), (W.setCells g o vs).heap.size = W.heap.size := by
  intro vs
  induction vs with
  | nil => intro o W; rfl
  | cons v r ih => intro o W; exact (ih (o + 1) _).trans (by simp)
 refine ⟨fun k b vs e => ?_, h.2.1, below_sets (Nat.le_trans h2.2.2.size hg) _ _ h.2.2⟩
 have q := h.1 k b vs e
 have q2 := (h2.1 k b vs e).2.2
 exact ⟨q.1.fars (by omega) _ _, q.2.1, by rw [hsz]; exact q.2.2⟩
set_option maxRecDepth 100000 in
set_option maxHeartbeats 8000000 in
theorem Rmak.go (p : P3) (id n : Int) (r : Rq) (w : World) (hp : PIn p) (hi : -9223372036854775808 ≤ id ∧ id ≤ 9223372036854775807) (hn : IsT n) (hr : r.In) (htab : Tab10 w.heap.size w) : Calls Tryz.prog 4 #[pv p, .int .i64 id, .int .u64 n, r.val] w (Ans (.bool true) w) := by
 have HP := hid hp
 have HI := hid hi
 have HN := hid hn
 have HR := hid hr
 have HTAB := hid htab
 obtain ⟨⟨x1, b1⟩, h1⟩ : ∃ x, Rq.new p id n = x := ⟨_, rfl⟩
 obtain ⟨⟨x2, b2⟩, h2⟩ : ∃ x, r.moved p = x := ⟨_, rfl⟩
 obtain ⟨⟨x3, b3⟩, h3⟩ : ∃ x, r.sliced n = x := ⟨_, rfl⟩
 have HX1 := hid h1
 have HX2 := hid h2
 have HX3 := hid h3
 clear hp hi hn hr htab h1 h2 h3
 unfold Rq.val
 have HV0 : Hid (VS w [(w.heap.size, (pcells p)), (w.heap.size + 1, r.cells)] ((w.alloc (.cells #[.int .u64 p.1, .int .u32 p.2.1, .int .u32 p.2.2] 27)).alloc (.cells #[.int .u64 r.a.t, .int .u32 r.a.r, .int .u32 r.a.v, .int .i64 r.a.i, .int .u64 r.a.u, .int .u32 r.a.s, .int .u32 r.a.y, .int .u64 r.l, .int .u64 r.s, .bool r.z] 53))) := hid (by have h := (((VS.nil w).new 27 (pcells p)).new 53 r.cells); (try simp only [World.size_alloc] at h); exact h)
 go_enter Tryz.func4, Tryz.ntmps4
 go_wp2_with fail
 generalize ((w.alloc (.cells #[.int .u64 p.1, .int .u32 p.2.1, .int .u32 p.2.2] 27)).alloc (.cells #[.int .u64 r.a.t, .int .u32 r.a.r, .int .u32 r.a.v, .int .i64 r.a.i, .int .u64 r.a.u, .int .u32 r.a.s, .int .u32 r.a.y, .int .u64 r.l, .int .u64 r.s, .bool r.z] 53)) = W0 at HV0 ⊢
 refine (Law15.awake _ (HTAB.out.at2 HV0.out.bel)).mono ?_
 rintro e w1 ⟨rfl, hb⟩
 have HV1 := hid (HV0.out.below hb)
 clear hb HV0 
 obtain ⟨p0, p1, p2⟩ := P3.at p (HV1.out.cs 0 rfl)
 go_wp2_with fail
 refine (Req.new p HP.out id n HI.out HN.out _).mono ?_
 rw [HX1.out]
 rintro e w2 ⟨rfl, hb⟩
 have HV2 := hid (HV1.out.below hb)
 clear hb HV1 p0 p1 p2
 have HV3 : Hid (VS w _ (w2.alloc (.cells #[.int .u64 0, .int .u32 0, .int .u32 0, .int .i64 0, .int .u64 0, .int .u32 0, .int .u32 0, .int .u64 0, .int .u64 0, .bool false] 53))) := hid (HV2.out.new 53 Rq.no.cells)
 clear HV2
 go_wp2_with (first | ((with_reducible refine pvs HV3.out 2 53 [.int .u64 x1.a.t, .int .u32 x1.a.r, .int .u32 x1.a.v, .int .i64 x1.a.i, .int .u64 x1.a.u, .int .u32 x1.a.s, .int .u32 x1.a.y, .int .u64 x1.l, .int .u64 x1.s, .bool x1.z] infoReq 9 28 (w2.heap.size) (Rq.no.cells) 0 ?vs30001); (intro W2 hW2); (have HV4 := hid hW2); (clear hW2 HV3); (obtain ⟨p0, p1, p2⟩ := P3.at p (HV4.out.cs 0 rfl))) | fail)
 refine (Law4.of p.1 p.2.1 p.2.2 _).mono ?_
 rintro e w3 ⟨rfl, hb⟩
 have HV5 := hid (HV4.out.below hb)
 clear hb HV4 p0 p1 p2
 go_wp2_with fail
 refine (Ref15.new p HP.out id n HI.out HN.out _).mono ?_
 rw [HX1.out]
 rintro e w4 ⟨rfl, hb⟩
 have HV6 := hid (HV5.out.below hb)
 clear hb HV5 
 have HV7 : Hid (VS w _ (w4.alloc (.cells #[.int .u64 0, .int .u32 0, .int .u32 0, .int .i64 0, .int .u64 0, .int .u32 0, .int .u32 0, .int .u64 0, .int .u64 0, .bool false] 61))) := hid (HV6.out.new 61 Rq.no.cells)
 clear HV6
 go_wp2_with (first | ((with_reducible refine pvs HV7.out 3 61 [.int .u64 x1.a.t, .int .u32 x1.a.r, .int .u32 x1.a.v, .int .i64 x1.a.i, .int .u64 x1.a.u, .int .u32 x1.a.s, .int .u32 x1.a.y, .int .u64 x1.l, .int .u64 x1.s, .bool x1.z] infoRefReq 11 36 (w4.heap.size) (Rq.no.cells) 0 ?vs30002); (intro W2 hW2); (have HV8 := hid hW2); (clear hW2 HV7); (obtain ⟨p0, p1, p2⟩ := P3.at p (HV8.out.cs 0 rfl)); (obtain ⟨c0, c1, c2, c3, c4, c5, c6, c7, c8, c9⟩ := Rq.at r (HV8.out.cs 1 rfl))) | fail)
 refine (Req.moved r HR.out p HP.out _).mono ?_
 rw [HX2.out]
 rintro e w5 ⟨rfl, hb⟩
 have HV9 := hid (HV8.out.below hb)
 clear hb HV8 p0 p1 p2 c0 c1 c2 c3 c4 c5 c6 c7 c8 c9
 have HV10 : Hid (VS w _ (w5.alloc (.cells #[.int .u64 0, .int .u32 0, .int .u32 0, .int .i64 0, .int .u64 0, .int .u32 0, .int .u32 0, .int .u64 0, .int .u64 0, .bool false] 53))) := hid (HV9.out.new 53 Rq.no.cells)
 clear HV9
 go_upto_region 6 with (first | ((with_reducible refine pvs HV10.out 4 53 [.int .u64 x2.a.t, .int .u32 x2.a.r, .int .u32 x2.a.v, .int .i64 x2.a.i, .int .u64 x2.a.u, .int .u32 x2.a.s, .int .u32 x2.a.y, .int .u64 x2.l, .int .u64 x2.s, .bool x2.z] infoReq 13 42 (w5.heap.size) (Rq.no.cells) 0 ?vs30003); (intro W2 hW2); (have HV11 := hid hW2); (clear hW2 HV10)) | fail)
 refine wp_region_grow (S := fun wx => VS w [(w.heap.size, (pcells p)), (w.heap.size + 1, r.cells), (w2.heap.size, x1.cells), (w4.heap.size, x1.cells), (w5.heap.size, x2.cells)] wx ∧ Below W2.heap.size W2 wx) 11 (by kernel_rfl) (⟨HV11.out.below (Below.refl _ _).drew, (Below.refl _ _).drew⟩) ?_
 refine tG 0 ((VS.stays w _).and_ (fun _ _ h hb => below_on h hb)) (fun _ h => h) (fun _ hSw => Rq.at r (hSw.1.cs 1 rfl)) ?_
 try simp only [tdy]
 refine tG 2 ((VS.stays w _).and_ (fun _ _ h hb => below_on h hb)) (fun _ h => h) (fun _ hSw => P3.at p (hSw.1.cs 0 rfl)) ?_
 try simp only [tdy]
 refine tC 1 (v := r.val) ((VS.stays w _).and_ (fun _ _ h hb => below_on h hb)) (fun _ h => h) (fun wq hSw => Law15.of r wq) ?_
 try simp only [tdy]
 refine tC 3 (v := pv p) ((VS.stays w _).and_ (fun _ _ h hb => below_on h hb)) (fun _ h => h) (fun wq hSw => Law4.of p.1 p.2.1 p.2.2 wq) ?_
 try simp only [tdy]
 refine tC 4 (v := (.tuple #[Rq.val x2, .bool b2])) ((VS.stays w _).and_ (fun _ _ h hb => below_on h hb)) (fun _ h => h) (fun wq hSw => ((Ref15.moved r HR.out p HP.out wq).mono (fun e w' h => by rw [HX2.out] at h; exact h) : Calls _ _ _ wq (Ans (.tuple #[Rq.val x2, .bool b2]) wq))) ?_
 try simp only [tdy]
 refine tF 5 ((VS.stays w _).and_ (fun _ _ h hb => below_on h hb)) (fun _ h => h) ?_
 try simp only [tdy]
 refine tF 6 ((VS.stays w _).and_ (fun _ _ h hb => below_on h hb)) (fun _ h => h) ?_
 try simp only [tdy]
 refine tF 7 ((VS.stays w _).and_ (fun _ _ h hb => below_on h hb)) (fun _ h => h) ?_
 try simp only [tdy]
 refine wpAnyE_alloc (i := 8) (fun wx g => Cs wx g [.int .u64 0, .int .u32 0, .int .u32 0, .int .i64 0, .int .u64 0, .int .u32 0, .int .u32 0, .int .u64 0, .int .u64 0, .bool false] ∧ W2.heap.size ≤ g) rfl (by kernel_rfl) (by decide) (by rfl) ((VS.stays w _).and_ (fun _ _ h hb => below_on h hb)) (fun _ h => h) (fun g => (fun _ _ h hb => ⟨h.1.below hb, h.2⟩)) (fun wq hSw => ?_) (fun gA => ?_)
 ·exact ⟨_, by go_simp; (try with_reducible rfl), (Below.refl _ _).alloc (Nat.le_refl _) _, Cs.alloc_new6 _ _ [.int .u64 0, .int .u32 0, .int .u32 0, .int .i64 0, .int .u64 0, .int .u32 0, .int .u32 0, .int .u64 0, .int .u64 0, .bool false], hSw.2.size⟩
 try simp only [tdy]
 refine wpAnyE_store (i := 9) (fun wx => (VS w [(w.heap.size, (pcells p)), (w.heap.size + 1, r.cells), (w2.heap.size, x1.cells), (w4.heap.size, x1.cells), (w5.heap.size, x2.cells)] wx ∧ Below W2.heap.size W2 wx) ∧ (Cs wx gA [.int .u64 x2.a.t, .int .u32 x2.a.r, .int .u32 x2.a.v, .int .i64 x2.a.i, .int .u64 x2.a.u, .int .u32 x2.a.s, .int .u32 x2.a.y, .int .u64 x2.l, .int .u64 x2.s, .bool x2.z] ∧ W2.heap.size ≤ gA)) 61 [.int .u64 x2.a.t, .int .u32 x2.a.r, .int .u32 x2.a.v, .int .i64 x2.a.i, .int .u64 x2.a.u, .int .u32 x2.a.s, .int .u32 x2.a.y, .int .u64 x2.l, .int .u64 x2.s, .bool x2.z] [.int .u64 0, .int .u32 0, .int .u32 0, .int .i64 0, .int .u64 0, .int .u32 0, .int .u32 0, .int .u64 0, .int .u64 0, .bool false] gA infoRefReq (.tmp 15) (.tmp 50) rfl rfl (by kernel_rfl) (by decide) (by rfl) ?st9_1a ?st9_1b ?st9_1c ?st9_1d ?st9_1e (fun _ h => h.2.1) (fun _ h => ⟨⟨HV11.out.farAt h.1.1 h.2.2 _ _, below_sets h.2.2 _ _ h.1.2⟩, Cs.putL _ 0 h.2.1 (by simp), h.2.2⟩) (fun _ h => h.1) (((VS.stays w _).and_ (fun _ _ h hb => below_on h hb)).and_ (fun _ _ h hb => ⟨h.1.below hb, h.2⟩)) ?st9_1f
 case st9_1a => rfl
 case st9_1b => rfl
 case st9_1c => rfl
 case st9_1d => rfl
 case st9_1e => rfl
 try simp only [tdy]
 refine tF 10 (((VS.stays w _).and_ (fun _ _ h hb => below_on h hb)).and_ (fun _ _ h hb => ⟨h.1.below hb, h.2⟩)) (fun _ h => h.1) ?_
 try simp only [tdy]
 refine wpAnyE_done (by kernel_rfl) (fun wz hSz => ?_) _
 obtain ⟨hQ, hG⟩ := hSz
 have HV12 : Hid (VS w [(w.heap.size, (pcells p)), (w.heap.size + 1, r.cells), (w2.heap.size, x1.cells), (w4.heap.size, x1.cells), (w5.heap.size, x2.cells), (gA, x2.cells)] wz) := hid (HV11.out.addAt hQ.1 hG.1 hG.2)
 clear hQ hG HV11
 obtain ⟨c0, c1, c2, c3, c4, c5, c6, c7, c8, c9⟩ := Rq.at r (HV12.out.cs 1 rfl)
 go_wp2_with fail
 refine (Req.sliced r HR.out n HN.out _).mono ?_
 rw [HX3.out]
 rintro e w6 ⟨rfl, hb⟩
 have HV13 := hid (HV12.out.below hb)
 clear hb HV12 c0 c1 c2 c3 c4 c5 c6 c7 c8 c9
 have HV14 : Hid (VS w _ (w6.alloc (.cells #[.int .u64 0, .int .u32 0, .int .u32 0, .int .i64 0, .int .u64 0, .int .u32 0, .int .u32 0, .int .u64 0, .int .u64 0, .bool false] 53))) := hid (HV13.out.new 53 Rq.no.cells)
 clear HV13
 go_wp2_with (first | ((with_reducible refine pvs HV14.out 6 53 [.int .u64 x3.a.t, .int .u32 x3.a.r, .int .u32 x3.a.v, .int .i64 x3.a.i, .int .u64 x3.a.u, .int .u32 x3.a.s, .int .u32 x3.a.y, .int .u64 x3.l, .int .u64 x3.s, .bool x3.z] infoReq 17 56 (w6.heap.size) (Rq.no.cells) 0 ?vs30004); (intro W2 hW2); (have HV15 := hid hW2); (clear hW2 HV14); (obtain ⟨c0, c1, c2, c3, c4, c5, c6, c7, c8, c9⟩ := Rq.at r (HV15.out.cs 1 rfl))) | fail)
 refine (Law15.of r _).mono ?_
 rintro e w7 ⟨rfl, hb⟩
 have HV16 := hid (HV15.out.below hb)
 clear hb HV15 c0 c1 c2 c3 c4 c5 c6 c7 c8 c9
 go_wp2_with fail
 refine (Ref15.sliced r HR.out n HN.out _).mono ?_
 rw [HX3.out]
 rintro e w8 ⟨rfl, hb⟩
 have HV17 := hid (HV16.out.below hb)
 clear hb HV16 
 have HV18 : Hid (VS w _ (w8.alloc (.cells #[.int .u64 0, .int .u32 0, .int .u32 0, .int .i64 0, .int .u64 0, .int .u32 0, .int .u32 0, .int .u64 0, .int .u64 0, .bool false] 61))) := hid (HV17.out.new 61 Rq.no.cells)
 clear HV17
 go_upto_region 9 with (first | ((with_reducible refine pvs HV18.out 7 61 [.int .u64 x3.a.t, .int .u32 x3.a.r, .int .u32 x3.a.v, .int .i64 x3.a.i, .int .u64 x3.a.u, .int .u32 x3.a.s, .int .u32 x3.a.y, .int .u64 x3.l, .int .u64 x3.s, .bool x3.z] infoRefReq 19 63 (w8.heap.size) (Rq.no.cells) 0 ?vs30005); (intro W2 hW2); (have HV19 := hid hW2); (clear hW2 HV18)) | fail)
 refine wp_region_grow (S := VS w [(w.heap.size, (pcells p)), (w.heap.size + 1, r.cells), (w2.heap.size, x1.cells), (w4.heap.size, x1.cells), (w5.heap.size, x2.cells), (gA, x2.cells), (w6.heap.size, x3.cells), (w8.heap.size, x3.cells)]) 40 (by kernel_rfl) (HV19.out.below (Below.refl _ _).drew) ?_
 refine tG 0 (VS.stays w _) (fun _ h => h) (fun _ hSw => Rq.at x1 (hSw.cs 2 rfl)) ?_
 try simp only [tdy]
 refine tG 2 (VS.stays w _) (fun _ h => h) (fun _ hSw => Rq.at x1 (hSw.cs 3 rfl)) ?_
 try simp only [tdy]
 refine tC 1 (v := x1.val) (VS.stays w _) (fun _ h => h) (fun wq hSw => Law15.of x1 wq) ?_
 try simp only [tdy]
 refine tF 3 (VS.stays w _) (fun _ h => h) ?_
 try simp only [tdy]
 refine tF 4 (VS.stays w _) (fun _ h => h) ?_
 try simp only [tdy]
 refine tF 5 (VS.stays w _) (fun _ h => h) ?_
 try simp only [tdy]
 refine tF 6 (VS.stays w _) (fun _ h => h) ?_
 try simp only [tdy]
 refine tF 7 (VS.stays w _) (fun _ h => h) ?_
 try simp only [tdy]
 refine tF 8 (VS.stays w _) (fun _ h => h) ?_
 try simp only [tdy]
 refine tF 9 (VS.stays w _) (fun _ h => h) ?_
 try simp only [tdy]
 refine tG 10 (VS.stays w _) (fun _ h => h) (fun _ hSw => Rq.at x2 (hSw.cs 4 rfl)) ?_
 try simp only [tdy]
 refine tG 12 (VS.stays w _) (fun _ h => h) (fun _ hSw => Rq.at x2 (hSw.cs 5 rfl)) ?_
 try simp only [tdy]
 refine tC 11 (v := x2.val) (VS.stays w _) (fun _ h => h) (fun wq hSw => Law15.of x2 wq) ?_
 try simp only [tdy]
 refine tF 13 (VS.stays w _) (fun _ h => h) ?_
 try simp only [tdy]
 refine tF 14 (VS.stays w _) (fun _ h => h) ?_
 try simp only [tdy]
 refine tF 15 (VS.stays w _) (fun _ h => h) ?_
 try simp only [tdy]
 refine tF 16 (VS.stays w _) (fun _ h => h) ?_
 try simp only [tdy]
 refine tF 17 (VS.stays w _) (fun _ h => h) ?_
 try simp only [tdy]
 refine tF 18 (VS.stays w _) (fun _ h => h) ?_
 try simp only [tdy]
 refine tF 19 (VS.stays w _) (fun _ h => h) ?_
 try simp only [tdy]
 refine tF 20 (VS.stays w _) (fun _ h => h) ?_
 try simp only [tdy]
 refine tG 21 (VS.stays w _) (fun _ h => h) (fun _ hSw => Rq.at x3 (hSw.cs 6 rfl)) ?_
 try simp only [tdy]
 refine tG 23 (VS.stays w _) (fun _ h => h) (fun _ hSw => Rq.at x3 (hSw.cs 7 rfl)) ?_
 try simp only [tdy]
 refine tC 22 (v := x3.val) (VS.stays w _) (fun _ h => h) (fun wq hSw => Law15.of x3 wq) ?_
 try simp only [tdy]
 refine tF 24 (VS.stays w _) (fun _ h => h) ?_
 try simp only [tdy]
 refine tF 25 (VS.stays w _) (fun _ h => h) ?_
 try simp only [tdy]
 refine tF 26 (VS.stays w _) (fun _ h => h) ?_
 try simp only [tdy]
 refine tF 27 (VS.stays w _) (fun _ h => h) ?_
 try simp only [tdy]
 refine tF 28 (VS.stays w _) (fun _ h => h) ?_
 try simp only [tdy]
 refine tF 29 (VS.stays w _) (fun _ h => h) ?_
 try simp only [tdy]
 refine tF 30 (VS.stays w _) (fun _ h => h) ?_
 try simp only [tdy]
 refine tF 31 (VS.stays w _) (fun _ h => h) ?_
 try simp only [tdy]
 refine tG 32 (VS.stays w _) (fun _ h => h) (fun _ hSw => Rq.at r (hSw.cs 1 rfl)) ?_
 try simp only [tdy]
 refine tG 34 (VS.stays w _) (fun _ h => h) (fun _ hSw => Rq.at r (hSw.cs 1 rfl)) ?_
 try simp only [tdy]
 refine tC 33 (v := .bool r.right) (VS.stays w _) (fun _ h => h) (fun wq hSw => Req.right r HR.out wq) ?_
 try simp only [tdy]
 refine tC 35 (v := r.val) (VS.stays w _) (fun _ h => h) (fun wq hSw => Law15.of r wq) ?_
 try simp only [tdy]
 refine tC 36 (v := .bool r.right) (VS.stays w _) (fun _ h => h) (fun wq hSw => Ref15.right r HR.out wq) ?_
 try simp only [tdy]
 refine tF 37 (VS.stays w _) (fun _ h => h) ?_
 try simp only [tdy]
 refine tF 38 (VS.stays w _) (fun _ h => h) ?_
 try simp only [tdy]
 refine tF 39 (VS.stays w _) (fun _ h => h) ?_
 try simp only [tdy]
 refine wpAnyE_done (by kernel_rfl) (fun wz hSz => ?_) _
 go_wp2_with fail
 go_ret
 exact ⟨rfl, hSz.bel⟩
theorem Rmak.law (t r v id n : Int) (q : Rq) (w : World) (hp : (0 ≤ t ∧ t ≤ 18446744073709551615) ∧ (0 ≤ r ∧ r ≤ 4294967295) ∧ (0 ≤ v ∧ v ≤ 4294967295)) (hi : (Lit.int .i64 id).wf = true) (hn : (Lit.int .u64 n).wf = true) (hq : q.In) (htab : Tab10 w.heap.size w) :
  Calls Tryz.prog 4 #[.agg #[.int .u64 t, .int .u32 r, .int .u32 v], .int .i64 id, .int .u64 n, q.val] w (Ans (.bool true) w) := Rmak.go (t, r, v) id n q w hp (bounds_i64 hi) (bounds_u64 hn) hq htab
end Go.Proofs.YtjndmmcjobbcbaaGreatDoor

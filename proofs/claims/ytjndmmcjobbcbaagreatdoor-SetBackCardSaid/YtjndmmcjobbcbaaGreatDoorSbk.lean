import Derived.Test.YtjndmmcjobbcbaaGreatDoorSetBackZ42
import Derived.Test.YtjndmmcjobbcbaaGreatDoorSeF
import Derived.Test.YtjndmmcjobbcbaaGreatDoorSetBackZ36
import Derived.Test.YtjndmmcjobbcbaaGreatDoorSetBackZ49
import Derived.Test.YtjndmmcjobbcbaaGreatDoorTxt
namespace Go.Proofs.YtjndmmcjobbcbaaGreatDoor
open Go.RowKit
set_option maxRecDepth 100000
set_option maxHeartbeats 32000000
theorem Sback.away (c0 : Int) (A : Option Addr) (n c : Nat) (r : Rq) (hn : 40 < n) (hm : n ≤ 9223372036854775807) (w : World) : Calls Tryz.prog 14 #[.int .u64 c0, .slice A n c, r.val] w fun e w' => e = .returned (.bool true) ∧ Below w.heap.size w w' := by
  have h1 : (40 : Int) < n := by omega
  have hal := (Below.refl w.heap.size w).alloc (Nat.le_refl _) (.cells #[.int .u64 r.a.t, .int .u32 r.a.r, .int .u32 r.a.v, .int .i64 r.a.i, .int .u64 r.a.u, .int .u32 r.a.s, .int .u32 r.a.y, .int .u64 r.l, .int .u64 r.s, .bool r.z] 53)
  have HB0 := hid hal
  clear hal
  go_enter Tryz.func14, Tryz.ntmps14
  go_upto_region 1 with fail
  generalize (w.alloc (.cells #[.int .u64 r.a.t, .int .u32 r.a.r, .int .u32 r.a.v, .int .i64 r.a.i, .int .u64 r.a.u, .int .u32 r.a.s, .int .u32 r.a.y, .int .u64 r.l, .int .u64 r.s, .bool r.z] 53)) = W0 at HB0 ⊢
  go_wp2_with fail
  refine (aw16a _).mono ?_
  rintro e w1 ⟨rfl, hb⟩
  have HB1 := hid (below_on HB0.out hb)
  clear hb
  go_wp2_with fail
  go_ret
  exact ⟨rfl, HB1.out⟩
section
attribute [local go_sem] Req.eqB Rq.eqb_self
theorem Sback.law (c0 : Int) (A : Option Addr) (n c : Nat) (l : List (Int × Rq)) (x5 : Rq) (w : World) (w0 : (Lit.int .u64 c0).wf = true) (h : (RdT w A n l ∧ InT l) ∧ n ≤ 9223372036854775807) (hx5 : x5.In) (_ : Tab10 w.heap.size w) : Calls Tryz.prog 14 #[.int .u64 c0, .slice A n c, x5.val] w fun e w' => e = .returned (.bool true) ∧ Below w.heap.size w w' := by
  by_cases hn : 40 < n
  · exact Sback.away c0 A n c x5 hn h.2 w
  have hT : IsT c0 := bounds_u64 w0
  have HIN := hid h.1.2
  have HX5 := hid hx5
  have hni : (n : Int) ≤ 40 := by omega
  have hn40 : ¬ (40 : Int) < n := by omega
  have hal := (Below.refl w.heap.size w).alloc (Nat.le_refl _) (.cells #[.int .u64 x5.a.t, .int .u32 x5.a.r, .int .u32 x5.a.v, .int .i64 x5.a.i, .int .u64 x5.a.u, .int .u32 x5.a.s, .int .u32 x5.a.y, .int .u64 x5.l, .int .u64 x5.s, .bool x5.z] 53)
  have HR0 : Hid (Cs (w.alloc (.cells #[.int .u64 x5.a.t, .int .u32 x5.a.r, .int .u32 x5.a.v, .int .i64 x5.a.i, .int .u64 x5.a.u, .int .u32 x5.a.s, .int .u32 x5.a.y, .int .u64 x5.l, .int .u64 x5.s, .bool x5.z] 53)) w.heap.size x5.cells) := hid (Rq.new10 w 53 x5)
  have HB0 := hid hal
  have HR := hid (h.1.1.below hal)
  clear h w0 hx5 hal
  go_enter Tryz.func14, Tryz.ntmps14
  go_upto_region 1 with fail
  generalize (w.alloc (.cells #[.int .u64 x5.a.t, .int .u32 x5.a.r, .int .u32 x5.a.v, .int .i64 x5.a.i, .int .u64 x5.a.u, .int .u32 x5.a.s, .int .u32 x5.a.y, .int .u64 x5.l, .int .u64 x5.s, .bool x5.z] 53)) = W0 at HB0 HR0 HR ⊢
  have HGZ := hid HB0.out.size
  generalize hg5 : w.heap.size = g5 at HR0 HGZ ⊢
  go_wp2_with fail
  refine (aw16a _).mono ?_
  rintro e w1 ⟨rfl, hb⟩
  have HR1 := hid (HR.out.below hb)
  have HR5 := hid (HR0.out.below hb)
  have HB1 : Hid (Below w.heap.size w w1) := hid (below_on HB0.out hb)
  clear hb HR HR0 HGZ hg5
  go_wp2_with fail
  refine (Set.new c0 hT _).mono ?_
  rintro e w2 ⟨S, q, mb, th, rb, rfl, hq, hf, hb⟩
  have HX2 := hid (NB.made hq hf hb)
  clear hq hf hb
  go_wp2_with fail
  go_loopg [22] n (fun s i wr => ∃ k : Nat, i = .int .i64 k ∧ k ≤ n ∧ s = n - k ∧ NB w1 S q mb th rb wr)
  case atStart => exact ⟨0, rfl, Nat.zero_le _, by omega, HX2.out⟩
  case round =>
    obtain ⟨k, rfl, hk, hs, hx⟩ := hrel
    have HS := hid hs
    obtain ⟨b, t, lq, hti⟩ := hx
    have HTI := hid hti
    have HBW := hid hti.2.2
    clear hs hti
    by_cases hkn : k < n
    · obtain ⟨bb, off, hA, _, hc⟩ := (HR1.out.below HBW.out).2 0 (by omega)
      obtain ⟨d0, hrg⟩ := hc k hkn
      obtain ⟨p0, p1, p2, p3, p4, p5, p6, p7, p8, p9⟩ := Rq.of _ hrg
      have HP : Hid ((0 ≤ (l.getD k (0, Rq.no)).1 ∧ (l.getD k (0, Rq.no)).1 ≤ 255) ∧ (l.getD k (0, Rq.no)).2.In) := hid (by
        have hkl : k < l.length := by have := HR1.out.1; omega
        have e : l.getD k (0, Rq.no) = l[k] := by simp [List.getD, hkl]
        rw [e]; exact HIN.out _ (List.getElem_mem hkl))
      clear hrg hc
      generalize (l.getD k (0, Rq.no)) = pa at *
      obtain ⟨d, r⟩ := pa
      dsimp only at d0 p0 p1 p2 p3 p4 p5 p6 p7 p8 p9 HP
      subst hA
      have hki : (k : Int) < n := by omega
      have hk0 : (0 : Int) ≤ k := by omega
      simp only [Nat.add_assoc (off + k * 11), Nat.reduceAdd] at p1 p2 p3 p4 p5 p6 p7 p8 p9
      have hal := (Below.refl wr.heap.size wr).alloc (Nat.le_refl _) (.cells #[.int .u8 d, .int .u64 r.a.t, .int .u32 r.a.r, .int .u32 r.a.v, .int .i64 r.a.i, .int .u64 r.a.u, .int .u32 r.a.s, .int .u32 r.a.y, .int .u64 r.l, .int .u64 r.s, .bool r.z] 100)
      have HAC : Hid (Cs (wr.alloc (.cells #[.int .u8 d, .int .u64 r.a.t, .int .u32 r.a.r, .int .u32 r.a.v, .int .i64 r.a.i, .int .u64 r.a.u, .int .u32 r.a.s, .int .u32 r.a.y, .int .u64 r.l, .int .u64 r.s, .bool r.z] 100)) wr.heap.size (.int .u8 d :: r.cells)) := hid (Rb.new11 wr 100 d r)
      have HX3 : Hid (SAt (wr.alloc (.cells #[.int .u8 d, .int .u64 r.a.t, .int .u32 r.a.r, .int .u32 r.a.v, .int .i64 r.a.i, .int .u64 r.a.u, .int .u32 r.a.s, .int .u32 r.a.y, .int .u64 r.l, .int .u64 r.s, .bool r.z] 100)) S q mb th rb b t lq ∧ (∀ g ∈ sfoot S q mb th rb t, w1.heap.size ≤ g) ∧ Below w1.heap.size w1 (wr.alloc (.cells #[.int .u8 d, .int .u64 r.a.t, .int .u32 r.a.r, .int .u32 r.a.v, .int .i64 r.a.i, .int .u64 r.a.u, .int .u32 r.a.s, .int .u32 r.a.y, .int .u64 r.l, .int .u64 r.s, .bool r.z] 100))) := hid ⟨HTI.out.1.below hal, HTI.out.2.1, below_on HTI.out.2.2 hal⟩
      clear hal HTI
      go_upto_region 9 with fail
      generalize (wr.alloc (.cells #[.int .u8 d, .int .u64 r.a.t, .int .u32 r.a.r, .int .u32 r.a.v, .int .i64 r.a.i, .int .u64 r.a.u, .int .u32 r.a.s, .int .u32 r.a.y, .int .u64 r.l, .int .u64 r.s, .bool r.z] 100)) = W3 at HAC HX3 ⊢
      clear d0 p0 p1 p2 p3 p4 p5 p6 p7 p8 p9
      generalize wr.heap.size = ga at HAC ⊢
      obtain ⟨a0, a1, a2, a3, a4, a5, a6, a7, a8, a9, a10⟩ := Rb.at r HAC.out
      go_wp2_with fail
      · refine (Set.exit S q mb th rb b t lq r.a.i HP.out.2.1.2.2.2.1 _ HX3.out.1).mono ?_
        rintro e w7 ⟨⟨x9, rfl⟩, hs⟩
        have HX4 := hid (NB.step HX3.out hs)
        clear hs a0 a1 a2 a3 a4 a5 a6 a7 a8 a9 a10
        try unfold Rq.val
        go_wp2_with fail
        go_roundg (n - (k + 1))
        case measure => have := HS.out; omega
        case rel => exact ⟨k + 1, by go_num, by omega, rfl, HX4.out⟩
      · refine (Set.enter S q mb th rb b t lq r HP.out.2 _ HX3.out.1).mono ?_
        rintro e w7 ⟨rfl, hs⟩
        have HX4 := hid (NB.step HX3.out hs)
        clear hs a0 a1 a2 a3 a4 a5 a6 a7 a8 a9 a10
        generalize entC b t.list r = e9
        go_wp2_with fail
        go_roundg (n - (k + 1))
        case measure => have := HS.out; omega
        case rel => exact ⟨k + 1, by go_num, by omega, rfl, HX4.out⟩
    · obtain rfl : k = n := by omega
      have hki : ¬ (k : Int) < k := by omega
      clear HIN HR1
      go_wp2_with fail
      refine (Set.clone S q mb th rb b t lq _ HTI.out.1).mono ?_
      rintro e w5 ⟨S1, q1, mb1, th1, rb1, t1, rfl, hl1, hcl, hg1, hb⟩
      have HTS := hid (TS.made HTI.out.1 HTI.out.2.1 HTI.out.2.2 hcl hg1 hb)
      have HL1 := hid hl1
      have HR6 := hid (HR5.out.below HTS.out.2.2)
      have HGS := hid HR5.out.lt
      clear hcl hg1 hb hl1 HTI HR5
      obtain ⟨x0, x1, x2, x3, x4, x5_, x6, x7, x8, x9⟩ := Rq.at x5 HR6.out
      go_wp2_with fail
      refine (Set.enter S q mb th rb b t lq x5 HX5.out _ HTS.out.1.1).mono ?_
      rintro e w6 ⟨rfl, hs⟩
      have HST := hid hs
      have HNF : Hid (g5 ∉ rb :: foot q mb th t) := hid (fun hm => by have := HTS.out.2.1.2.1 g5 (List.mem_cons_of_mem _ hm); have := HGS.out; omega)
      have HR7 := hid (by obtain ⟨_, _, _, _, hc⟩ := hs; exact (HR6.out.chg hc HNF.out : Cs w6 g5 x5.cells))
      clear hs x0 x1 x2 x3 x4 x5_ x6 x7 x8 x9 HR6
      by_cases he : entC b t.list x5 = 0
      · obtain ⟨e1, e2, e3, e4⟩ := HTS.out.1.1.back HX5.out he
        have HE := hid (And.intro e1 (And.intro e2 (And.intro e3 e4)))
        clear e1 e2 e3 e4
        rw [he]
        clear he
        obtain ⟨t2, h2l, h2⟩ := HTS.out.fst HST.out
        have HT2 := hid h2
        have HL2 := hid h2l
        clear h2 h2l HST HTS HNF
        obtain ⟨x0, x1, x2, x3, x4, x5_, x6, x7, x8, x9⟩ := Rq.at x5 HR7.out
        go_wp2_with fail
        refine (Set.exit_yes S q mb th rb (entB b t.list x5) t2 (entR b t.list lq x5) x5 HE.out.2.2.1 _ HT2.out.1.1).mono ?_
        rintro e w7 ⟨rfl, hs⟩
        have hs' := hs
        rw [HL2.out, HE.out.1, HE.out.2.1] at hs
        obtain ⟨t3, h3l, h3⟩ := HT2.out.fst hs
        have HNF : Hid (g5 ∉ rb :: foot q mb th t2) := hid (fun hm => by have := HT2.out.2.1.2.1 g5 (List.mem_cons_of_mem _ hm); have := HGS.out; omega)
        have HR8 := hid (by obtain ⟨_, _, _, _, hc⟩ := hs'; exact (HR7.out.chg hc HNF.out : Cs w7 g5 x5.cells))
        have HT3 := hid h3
        have HL3 := hid h3l
        clear h3 h3l hs hs' HT2 HL2 HR7 x0 x1 x2 x3 x4 x5_ x6 x7 x8 x9 HNF
        have hal := (Below.refl w7.heap.size w7).alloc (Nat.le_refl _) (.cells #[.int .u64 x5.a.t, .int .u32 x5.a.r, .int .u32 x5.a.v, .int .i64 x5.a.i, .int .u64 x5.a.u, .int .u32 x5.a.s, .int .u32 x5.a.y, .int .u64 x5.l, .int .u64 x5.s, .bool x5.z] 53)
        have HV : Hid (Cs (w7.alloc (.cells #[.int .u64 x5.a.t, .int .u32 x5.a.r, .int .u32 x5.a.v, .int .i64 x5.a.i, .int .u64 x5.a.u, .int .u32 x5.a.s, .int .u32 x5.a.y, .int .u64 x5.l, .int .u64 x5.s, .bool x5.z] 53)) w7.heap.size x5.cells ∧ Cs (w7.alloc (.cells #[.int .u64 x5.a.t, .int .u32 x5.a.r, .int .u32 x5.a.v, .int .i64 x5.a.i, .int .u64 x5.a.u, .int .u32 x5.a.s, .int .u32 x5.a.y, .int .u64 x5.l, .int .u64 x5.s, .bool x5.z] 53)) g5 x5.cells) := hid ⟨Rq.new10 w7 53 x5, HR8.out.below hal⟩
        have HTZ := hid (HT3.out.below hal)
        clear hal HT3 HR8
        try unfold Rq.val
        go_upto_region 17 with fail
        generalize (w7.alloc (.cells #[.int .u64 x5.a.t, .int .u32 x5.a.r, .int .u32 x5.a.v, .int .i64 x5.a.i, .int .u64 x5.a.u, .int .u32 x5.a.s, .int .u32 x5.a.y, .int .u64 x5.l, .int .u64 x5.s, .bool x5.z] 53)) = w8 at HV HTZ ⊢
        generalize w7.heap.size = gv at HV ⊢
        have HLN : Hid ((srtR lq).length ≤ 1000000) := hid (by rw [srtR_len]; have := HTZ.out.1.1.few; omega)
        generalize hb3 : leaB x5.a.i (entB b t.list x5) (entL b t.list x5) = b3 at HE HTZ
        clear hb3
        by_cases h0 : 0 < t.list.length
        · have hb3 := HE.out.2.2.2 h0
          subst hb3
          clear HE
          have HQL : Hid (∀ wq, Below w8.heap.size w8 wq → Calls Tryz.prog 20 #[.pointer (some ⟨q, 0, none⟩)] wq (Ans (.int .i64 t.list.length) wq)) := hid (fun wq h => by
            have h8 := Queue.len q mb th (qM b3 t3.list) t3 wq (HTZ.out.below h).1.1.1.1
            rw [HL3.out] at h8
            exact h8)
          have HQN : Hid (∀ wq, Below w8.heap.size w8 wq → Calls Tryz.prog 21 #[.pointer (some ⟨q, 0, none⟩)] wq (Ans (.int .u64 b3) wq)) := hid (fun wq h => Queue.now q mb th (qM b3 t3.list) t3 wq (HTZ.out.below h).1.1.1.1)
          have hlz : ¬ (t.list.length : Int) = 0 := by omega
          have hlz2 : ((t.list.length : Int) == 0) = false := by rw [beq_eq_false_iff_ne]; exact hlz
          have hsT1 : Stays (fun wx => Below w8.heap.size w8 wx) := fun _ _ h hb => below_on h hb
          refine wp_region_grow (S := fun wx => Below w8.heap.size w8 wx) 43 (by kernel_rfl) (hsT1 _ _ ((Below.refl w8.heap.size w8)) (Below.refl _ _).drew) ?_
          refine tE 0 (v := ?_) (hsT1) (fun _ h => h) rfl (by kernel_rfl) (by rfl) ?_ ?_
          rotate_left
          · intro wq hSw
            go_simp; try with_reducible rfl
          try simp only [tdy]
          refine tE 1 (v := ?_) (hsT1) (fun _ h => h) rfl (by kernel_rfl) (by rfl) ?_ ?_
          rotate_left
          · intro wq hSw
            go_simp; try with_reducible rfl
          try simp only [tdy]
          refine tE 2 (v := ?_) (hsT1) (fun _ h => h) rfl (by kernel_rfl) (by rfl) ?_ ?_
          rotate_left
          · intro wq hSw
            go_simp; try with_reducible rfl
          try simp only [tdy]
          refine tE 3 (v := ?_) (hsT1) (fun _ h => h) rfl (by kernel_rfl) (by rfl) ?_ ?_
          rotate_left
          · intro wq hSw
            obtain ⟨s0, s1⟩ := (HTZ.out.below hSw).1.1.1.2.at
            obtain ⟨u0, u1⟩ := (HTZ.out.below hSw).1.2.1.2.at
            obtain ⟨x0, x1, x2, x3, x4, x5_, x6, x7, x8, x9⟩ := Rq.at x5 (HV.out.1.below hSw)
            obtain ⟨y0, y1, y2, y3, y4, y5, y6, y7, y8, y9⟩ := Rq.at x5 (HV.out.2.below hSw)
            go_simp; try with_reducible rfl
          try simp only [tdy]
          refine tE 4 (v := ?_) (hsT1) (fun _ h => h) rfl (by kernel_rfl) (by rfl) ?_ ?_
          rotate_left
          · intro wq hSw
            obtain ⟨s0, s1⟩ := (HTZ.out.below hSw).1.1.1.2.at
            obtain ⟨u0, u1⟩ := (HTZ.out.below hSw).1.2.1.2.at
            obtain ⟨x0, x1, x2, x3, x4, x5_, x6, x7, x8, x9⟩ := Rq.at x5 (HV.out.1.below hSw)
            obtain ⟨y0, y1, y2, y3, y4, y5, y6, y7, y8, y9⟩ := Rq.at x5 (HV.out.2.below hSw)
            go_simp; try with_reducible rfl
          try simp only [tdy]
          refine tE 5 (v := ?_) (hsT1) (fun _ h => h) rfl (by kernel_rfl) (by rfl) ?_ ?_
          rotate_left
          · intro wq hSw
            go_simp; try with_reducible rfl
          try simp only [tdy]
          refine tE 6 (v := ?_) (hsT1) (fun _ h => h) rfl (by kernel_rfl) (by rfl) ?_ ?_
          rotate_left
          · intro wq hSw
            go_simp; try with_reducible rfl
          try simp only [tdy]
          refine tE 7 (v := ?_) (hsT1) (fun _ h => h) rfl (by kernel_rfl) (by rfl) ?_ ?_
          rotate_left
          · intro wq hSw
            go_simp; try with_reducible rfl
          try simp only [tdy]
          refine tE 8 (v := ?_) (hsT1) (fun _ h => h) rfl (by kernel_rfl) (by rfl) ?_ ?_
          rotate_left
          · intro wq hSw
            go_simp; try with_reducible rfl
          try simp only [tdy]
          refine tE 10 (v := ?_) (hsT1) (fun _ h => h) rfl (by kernel_rfl) (by rfl) ?_ ?_
          rotate_left
          · intro wq hSw
            go_simp; try with_reducible rfl
          try simp only [tdy]
          refine wpAnyE_call (i := 9) (fun y : Option Addr × Nat => .slice y.1 (srtR lq).length y.2) (RsN lq) rfl (by kernel_rfl) (by decide) (by rfl) (hsT1) (fun _ h => h) (fun yq => RsN.st lq yq) (fun wq hSw => ?_) (fun yq => ?_)
          · exact RunI.of_calls (Set.reqsN S q rb lq (by have := ((HTZ.out.below hSw).1.1).few; omega) ((HTZ.out.below hSw).1.1).ids wq ((HTZ.out.below hSw).1.1).1.2) (by go_simp) (fun e w' h => h)
          obtain ⟨A8, c8⟩ := yq
          try dsimp only
          try simp only [tdy]
          refine wpAnyE_call (i := 11) (fun y : Option Addr × Nat => .slice y.1 (srtR lq).length y.2) (RsN lq) rfl (by kernel_rfl) (by decide) (by rfl) (Stays.and_ (hsT1) (RsN.st lq (A8, c8))) (fun _ h => h.1) (fun yq => RsN.st lq yq) (fun wq hSw => ?_) (fun yq => ?_)
          · exact RunI.of_calls (Set.reqsN S1 q1 rb1 lq (by have := ((HTZ.out.below hSw.1).1.2).few; omega) ((HTZ.out.below hSw.1).1.2).ids wq ((HTZ.out.below hSw.1).1.2).1.2) (by go_simp) (fun e w' h => h)
          obtain ⟨A9, c9⟩ := yq
          try dsimp only
          try simp only [tdy]
          refine wpAnyE_call (i := 12) (fun _ : Unit => .bool true) (fun (_ : Unit) (_ : World) => True) rfl (by kernel_rfl) (by decide) (by rfl) (Stays.and_ (Stays.and_ (hsT1) (RsN.st lq (A8, c8))) (RsN.st lq (A9, c9))) (fun _ h => h.1.1) (fun yq => stays_tt yq) (fun wq hSw => ?_) (fun yq => ?_)
          · exact RunI.of_calls (Slq.equal A8 A9 (srtR lq).length c8 c9 (srtR lq) (by have := HLN.out; omega) wq hSw.1.2 hSw.2) (by go_simp) (fun e w' h => ⟨(), h.1, trivial, h.2⟩)
          obtain ⟨⟩ := yq
          skip
          try simp only [tdy]
          refine tE 13 (v := ?_) (Stays.and_ (Stays.and_ (Stays.and_ (hsT1) (RsN.st lq (A8, c8))) (RsN.st lq (A9, c9))) (stays_tt ())) (fun _ h => h.1.1.1) rfl (by kernel_rfl) (by rfl) ?_ ?_
          rotate_left
          · intro wq hSw
            go_simp; try with_reducible rfl
          try simp only [tdy]
          refine tE 14 (v := ?_) (Stays.and_ (Stays.and_ (Stays.and_ (hsT1) (RsN.st lq (A8, c8))) (RsN.st lq (A9, c9))) (stays_tt ())) (fun _ h => h.1.1.1) rfl (by kernel_rfl) (by rfl) ?_ ?_
          rotate_left
          · intro wq hSw
            go_simp; try with_reducible rfl
          try simp only [tdy]
          refine tE 15 (v := ?_) (Stays.and_ (Stays.and_ (Stays.and_ (hsT1) (RsN.st lq (A8, c8))) (RsN.st lq (A9, c9))) (stays_tt ())) (fun _ h => h.1.1.1) rfl (by kernel_rfl) (by rfl) ?_ ?_
          rotate_left
          · intro wq hSw
            go_simp; try with_reducible rfl
          try simp only [tdy]
          refine wpAnyE_take (i := 16) (v := .int .i64 (runR lq)) (Stays.and_ (Stays.and_ (Stays.and_ (hsT1) (RsN.st lq (A8, c8))) (RsN.st lq (A9, c9))) (stays_tt ())) (fun _ h => h.1.1.1) rfl (by kernel_rfl) (by kernel_rfl) (by kernel_rfl) (by kernel_rfl) (fun _ _ _ h => h) (Or.inl ⟨by rfl, fun wq hSw => ?_⟩) ?_
          · refine RunB.of_calls (Set.runnable S q rb lq ((HTZ.out.below hSw).1.1).few ((HTZ.out.below hSw).1.1).ids wq ((HTZ.out.below hSw).1.1).1.2) (by go_simp) ?_
            rintro e wr ⟨rfl, hb⟩
            exact ⟨rfl, hb⟩
          try simp only [tdy]
          refine tE 17 (v := ?_) (Stays.and_ (Stays.and_ (Stays.and_ (hsT1) (RsN.st lq (A8, c8))) (RsN.st lq (A9, c9))) (stays_tt ())) (fun _ h => h.1.1.1) rfl (by kernel_rfl) (by rfl) ?_ ?_
          rotate_left
          · intro wq hSw
            go_simp; try with_reducible rfl
          try simp only [tdy]
          refine wpAnyE_take (i := 18) (v := .int .i64 (runR lq)) (Stays.and_ (Stays.and_ (Stays.and_ (hsT1) (RsN.st lq (A8, c8))) (RsN.st lq (A9, c9))) (stays_tt ())) (fun _ h => h.1.1.1) rfl (by kernel_rfl) (by kernel_rfl) (by kernel_rfl) (by kernel_rfl) (fun _ _ _ h => h) (Or.inl ⟨by rfl, fun wq hSw => ?_⟩) ?_
          · refine RunB.of_calls (Set.runnable S1 q1 rb1 lq ((HTZ.out.below hSw).1.2).few ((HTZ.out.below hSw).1.2).ids wq ((HTZ.out.below hSw).1.2).1.2) (by go_simp) ?_
            rintro e wr ⟨rfl, hb⟩
            exact ⟨rfl, hb⟩
          try simp only [tdy]
          refine tE 19 (v := ?_) (Stays.and_ (Stays.and_ (Stays.and_ (hsT1) (RsN.st lq (A8, c8))) (RsN.st lq (A9, c9))) (stays_tt ())) (fun _ h => h.1.1.1) rfl (by kernel_rfl) (by rfl) ?_ ?_
          rotate_left
          · intro wq hSw
            go_simp; try with_reducible rfl
          try simp only [tdy]
          refine tE 20 (v := ?_) (Stays.and_ (Stays.and_ (Stays.and_ (hsT1) (RsN.st lq (A8, c8))) (RsN.st lq (A9, c9))) (stays_tt ())) (fun _ h => h.1.1.1) rfl (by kernel_rfl) (by rfl) ?_ ?_
          rotate_left
          · intro wq hSw
            go_simp; try with_reducible rfl
          try simp only [tdy]
          refine tE 21 (v := ?_) (Stays.and_ (Stays.and_ (Stays.and_ (hsT1) (RsN.st lq (A8, c8))) (RsN.st lq (A9, c9))) (stays_tt ())) (fun _ h => h.1.1.1) rfl (by kernel_rfl) (by rfl) ?_ ?_
          rotate_left
          · intro wq hSw
            go_simp; try with_reducible rfl
          try simp only [tdy]
          refine tE 22 (v := ?_) (Stays.and_ (Stays.and_ (Stays.and_ (hsT1) (RsN.st lq (A8, c8))) (RsN.st lq (A9, c9))) (stays_tt ())) (fun _ h => h.1.1.1) rfl (by kernel_rfl) (by rfl) ?_ ?_
          rotate_left
          · intro wq hSw
            go_simp; try with_reducible rfl
          try simp only [tdy]
          refine tE 23 (v := ?_) (Stays.and_ (Stays.and_ (Stays.and_ (hsT1) (RsN.st lq (A8, c8))) (RsN.st lq (A9, c9))) (stays_tt ())) (fun _ h => h.1.1.1) rfl (by kernel_rfl) (by rfl) ?_ ?_
          rotate_left
          · intro wq hSw
            go_simp; try with_reducible rfl
          try simp only [tdy]
          refine tE 24 (v := ?_) (Stays.and_ (Stays.and_ (Stays.and_ (hsT1) (RsN.st lq (A8, c8))) (RsN.st lq (A9, c9))) (stays_tt ())) (fun _ h => h.1.1.1) rfl (by kernel_rfl) (by rfl) ?_ ?_
          rotate_left
          · intro wq hSw
            go_simp; try with_reducible rfl
          try simp only [tdy]
          refine tE 25 (v := ?_) (Stays.and_ (Stays.and_ (Stays.and_ (hsT1) (RsN.st lq (A8, c8))) (RsN.st lq (A9, c9))) (stays_tt ())) (fun _ h => h.1.1.1) rfl (by kernel_rfl) (by rfl) ?_ ?_
          rotate_left
          · intro wq hSw
            obtain ⟨s0, s1⟩ := (HTZ.out.below hSw).1.1.1.2.at
            obtain ⟨u0, u1⟩ := (HTZ.out.below hSw).1.2.1.2.at
            obtain ⟨x0, x1, x2, x3, x4, x5_, x6, x7, x8, x9⟩ := Rq.at x5 (HV.out.1.below hSw)
            obtain ⟨y0, y1, y2, y3, y4, y5, y6, y7, y8, y9⟩ := Rq.at x5 (HV.out.2.below hSw)
            go_simp; try with_reducible rfl
          try simp only [tdy]
          refine wpAnyE_take (i := 26) (v := .int .i64 t.list.length) (Stays.and_ (Stays.and_ (Stays.and_ (hsT1) (RsN.st lq (A8, c8))) (RsN.st lq (A9, c9))) (stays_tt ())) (fun _ h => h.1.1.1) rfl (by kernel_rfl) (by kernel_rfl) (by kernel_rfl) (by kernel_rfl) (fun _ _ _ h => h) (Or.inl ⟨by rfl, fun wq hSw => ?_⟩) ?_
          · refine RunB.of_calls (HQL.out wq hSw) (by go_simp) ?_
            rintro e wr ⟨rfl, hb⟩
            exact ⟨rfl, hb⟩
          try simp only [tdy]
          refine tE 27 (v := ?_) (Stays.and_ (Stays.and_ (Stays.and_ (hsT1) (RsN.st lq (A8, c8))) (RsN.st lq (A9, c9))) (stays_tt ())) (fun _ h => h.1.1.1) rfl (by kernel_rfl) (by rfl) ?_ ?_
          rotate_left
          · intro wq hSw
            go_simp; try with_reducible rfl
          try simp only [tdy]
          refine tE 28 (v := ?_) (Stays.and_ (Stays.and_ (Stays.and_ (hsT1) (RsN.st lq (A8, c8))) (RsN.st lq (A9, c9))) (stays_tt ())) (fun _ h => h.1.1.1) rfl (by kernel_rfl) (by rfl) ?_ ?_
          rotate_left
          · intro wq hSw
            go_simp; try with_reducible rfl
          try simp only [tdy]
          refine tE 29 (v := ?_) (Stays.and_ (Stays.and_ (Stays.and_ (hsT1) (RsN.st lq (A8, c8))) (RsN.st lq (A9, c9))) (stays_tt ())) (fun _ h => h.1.1.1) rfl (by kernel_rfl) (by rfl) ?_ ?_
          rotate_left
          · intro wq hSw
            go_simp; try with_reducible rfl
          try simp only [tdy]
          refine tE 30 (v := ?_) (Stays.and_ (Stays.and_ (Stays.and_ (hsT1) (RsN.st lq (A8, c8))) (RsN.st lq (A9, c9))) (stays_tt ())) (fun _ h => h.1.1.1) rfl (by kernel_rfl) (by rfl) ?_ ?_
          rotate_left
          · intro wq hSw
            go_simp; try with_reducible rfl
          try simp only [tdy]
          refine tE 31 (v := ?_) (Stays.and_ (Stays.and_ (Stays.and_ (hsT1) (RsN.st lq (A8, c8))) (RsN.st lq (A9, c9))) (stays_tt ())) (fun _ h => h.1.1.1) rfl (by kernel_rfl) (by rfl) ?_ ?_
          rotate_left
          · intro wq hSw
            go_simp; try with_reducible rfl
          try simp only [tdy]
          refine tE 32 (v := ?_) (Stays.and_ (Stays.and_ (Stays.and_ (hsT1) (RsN.st lq (A8, c8))) (RsN.st lq (A9, c9))) (stays_tt ())) (fun _ h => h.1.1.1) rfl (by kernel_rfl) (by rfl) ?_ ?_
          rotate_left
          · intro wq hSw
            obtain ⟨s0, s1⟩ := (HTZ.out.below hSw).1.1.1.2.at
            obtain ⟨u0, u1⟩ := (HTZ.out.below hSw).1.2.1.2.at
            obtain ⟨x0, x1, x2, x3, x4, x5_, x6, x7, x8, x9⟩ := Rq.at x5 (HV.out.1.below hSw)
            obtain ⟨y0, y1, y2, y3, y4, y5, y6, y7, y8, y9⟩ := Rq.at x5 (HV.out.2.below hSw)
            go_simp; try with_reducible rfl
          try simp only [tdy]
          refine wpAnyE_take (i := 33) (v := .int .u64 b3) (Stays.and_ (Stays.and_ (Stays.and_ (hsT1) (RsN.st lq (A8, c8))) (RsN.st lq (A9, c9))) (stays_tt ())) (fun _ h => h.1.1.1) rfl (by kernel_rfl) (by kernel_rfl) (by kernel_rfl) (by kernel_rfl) (fun _ _ _ h => h) (Or.inl ⟨by rfl, fun wq hSw => ?_⟩) ?_
          · refine RunB.of_calls (HQN.out wq hSw) (by go_simp) ?_
            rintro e wr ⟨rfl, hb⟩
            exact ⟨rfl, hb⟩
          try simp only [tdy]
          refine tE 34 (v := ?_) (Stays.and_ (Stays.and_ (Stays.and_ (hsT1) (RsN.st lq (A8, c8))) (RsN.st lq (A9, c9))) (stays_tt ())) (fun _ h => h.1.1.1) rfl (by kernel_rfl) (by rfl) ?_ ?_
          rotate_left
          · intro wq hSw
            go_simp; try with_reducible rfl
          try simp only [tdy]
          refine tE 35 (v := ?_) (Stays.and_ (Stays.and_ (Stays.and_ (hsT1) (RsN.st lq (A8, c8))) (RsN.st lq (A9, c9))) (stays_tt ())) (fun _ h => h.1.1.1) rfl (by kernel_rfl) (by rfl) ?_ ?_
          rotate_left
          · intro wq hSw
            go_simp; try with_reducible rfl
          try simp only [tdy]
          refine tE 36 (v := ?_) (Stays.and_ (Stays.and_ (Stays.and_ (hsT1) (RsN.st lq (A8, c8))) (RsN.st lq (A9, c9))) (stays_tt ())) (fun _ h => h.1.1.1) rfl (by kernel_rfl) (by rfl) ?_ ?_
          rotate_left
          · intro wq hSw
            go_simp; try with_reducible rfl
          try simp only [tdy]
          refine tE 37 (v := ?_) (Stays.and_ (Stays.and_ (Stays.and_ (hsT1) (RsN.st lq (A8, c8))) (RsN.st lq (A9, c9))) (stays_tt ())) (fun _ h => h.1.1.1) rfl (by kernel_rfl) (by rfl) ?_ ?_
          rotate_left
          · intro wq hSw
            obtain ⟨s0, s1⟩ := (HTZ.out.below hSw).1.1.1.2.at
            obtain ⟨u0, u1⟩ := (HTZ.out.below hSw).1.2.1.2.at
            obtain ⟨x0, x1, x2, x3, x4, x5_, x6, x7, x8, x9⟩ := Rq.at x5 (HV.out.1.below hSw)
            obtain ⟨y0, y1, y2, y3, y4, y5, y6, y7, y8, y9⟩ := Rq.at x5 (HV.out.2.below hSw)
            go_simp; try with_reducible rfl
          try simp only [tdy]
          refine wpAnyE_take (i := 38) (v := .int .u64 b3) (Stays.and_ (Stays.and_ (Stays.and_ (hsT1) (RsN.st lq (A8, c8))) (RsN.st lq (A9, c9))) (stays_tt ())) (fun _ h => h.1.1.1) rfl (by kernel_rfl) (by kernel_rfl) (by kernel_rfl) (by kernel_rfl) (fun _ _ _ h => h) (Or.inl ⟨by rfl, fun wq hSw => ?_⟩) ?_
          · refine RunB.of_calls (Queue.now q1 mb1 th1 (qM b3 t1.list) t1 wq ((HTZ.out.below hSw).1.2).1.1) (by go_simp) ?_
            rintro e wr ⟨rfl, hb⟩
            exact ⟨rfl, hb⟩
          try simp only [tdy]
          refine tE 39 (v := ?_) (Stays.and_ (Stays.and_ (Stays.and_ (hsT1) (RsN.st lq (A8, c8))) (RsN.st lq (A9, c9))) (stays_tt ())) (fun _ h => h.1.1.1) rfl (by kernel_rfl) (by rfl) ?_ ?_
          rotate_left
          · intro wq hSw
            go_simp; try with_reducible rfl
          try simp only [tdy]
          refine tE 40 (v := ?_) (Stays.and_ (Stays.and_ (Stays.and_ (hsT1) (RsN.st lq (A8, c8))) (RsN.st lq (A9, c9))) (stays_tt ())) (fun _ h => h.1.1.1) rfl (by kernel_rfl) (by rfl) ?_ ?_
          rotate_left
          · intro wq hSw
            go_simp; try with_reducible rfl
          try simp only [tdy]
          refine tE 41 (v := ?_) (Stays.and_ (Stays.and_ (Stays.and_ (hsT1) (RsN.st lq (A8, c8))) (RsN.st lq (A9, c9))) (stays_tt ())) (fun _ h => h.1.1.1) rfl (by kernel_rfl) (by rfl) ?_ ?_
          rotate_left
          · intro wq hSw
            go_simp; try with_reducible rfl
          try simp only [tdy]
          refine tE 42 (v := ?_) (Stays.and_ (Stays.and_ (Stays.and_ (hsT1) (RsN.st lq (A8, c8))) (RsN.st lq (A9, c9))) (stays_tt ())) (fun _ h => h.1.1.1) rfl (by kernel_rfl) (by rfl) ?_ ?_
          rotate_left
          · intro wq hSw
            go_simp; try with_reducible rfl
          try simp only [tdy]
          refine wpAnyE_done (by kernel_rfl) (fun wz hSz => ?_) _
          have HF := hid (below_on HB1.out (HTZ.out.below hSz.1.1.1).2.2)
          clear hSz
          go_wp2_with fail
          go_ret
          exact ⟨rfl, HF.out⟩
        · have hz : t.list.length = 0 := by omega
          clear HE
          have HQL : Hid (∀ wq, Below w8.heap.size w8 wq → Calls Tryz.prog 20 #[.pointer (some ⟨q, 0, none⟩)] wq (Ans (.int .i64 0) wq)) := hid (fun wq h => by
            have h8 := Queue.len q mb th (qM b3 t3.list) t3 wq (HTZ.out.below h).1.1.1.1
            rw [HL3.out, hz] at h8
            exact h8)
          clear hz h0
          have hsT2 : Stays (fun wx => Below w8.heap.size w8 wx) := fun _ _ h hb => below_on h hb
          refine wp_region_grow (S := fun wx => Below w8.heap.size w8 wx) 43 (by kernel_rfl) (hsT2 _ _ ((Below.refl w8.heap.size w8)) (Below.refl _ _).drew) ?_
          refine tE 0 (v := ?_) (hsT2) (fun _ h => h) rfl (by kernel_rfl) (by rfl) ?_ ?_
          rotate_left
          · intro wq hSw
            go_simp; try with_reducible rfl
          try simp only [tdy]
          refine tE 1 (v := ?_) (hsT2) (fun _ h => h) rfl (by kernel_rfl) (by rfl) ?_ ?_
          rotate_left
          · intro wq hSw
            go_simp; try with_reducible rfl
          try simp only [tdy]
          refine tE 2 (v := ?_) (hsT2) (fun _ h => h) rfl (by kernel_rfl) (by rfl) ?_ ?_
          rotate_left
          · intro wq hSw
            go_simp; try with_reducible rfl
          try simp only [tdy]
          refine tE 3 (v := ?_) (hsT2) (fun _ h => h) rfl (by kernel_rfl) (by rfl) ?_ ?_
          rotate_left
          · intro wq hSw
            obtain ⟨s0, s1⟩ := (HTZ.out.below hSw).1.1.1.2.at
            obtain ⟨u0, u1⟩ := (HTZ.out.below hSw).1.2.1.2.at
            obtain ⟨x0, x1, x2, x3, x4, x5_, x6, x7, x8, x9⟩ := Rq.at x5 (HV.out.1.below hSw)
            obtain ⟨y0, y1, y2, y3, y4, y5, y6, y7, y8, y9⟩ := Rq.at x5 (HV.out.2.below hSw)
            go_simp; try with_reducible rfl
          try simp only [tdy]
          refine tE 4 (v := ?_) (hsT2) (fun _ h => h) rfl (by kernel_rfl) (by rfl) ?_ ?_
          rotate_left
          · intro wq hSw
            obtain ⟨s0, s1⟩ := (HTZ.out.below hSw).1.1.1.2.at
            obtain ⟨u0, u1⟩ := (HTZ.out.below hSw).1.2.1.2.at
            obtain ⟨x0, x1, x2, x3, x4, x5_, x6, x7, x8, x9⟩ := Rq.at x5 (HV.out.1.below hSw)
            obtain ⟨y0, y1, y2, y3, y4, y5, y6, y7, y8, y9⟩ := Rq.at x5 (HV.out.2.below hSw)
            go_simp; try with_reducible rfl
          try simp only [tdy]
          refine tE 5 (v := ?_) (hsT2) (fun _ h => h) rfl (by kernel_rfl) (by rfl) ?_ ?_
          rotate_left
          · intro wq hSw
            go_simp; try with_reducible rfl
          try simp only [tdy]
          refine tE 6 (v := ?_) (hsT2) (fun _ h => h) rfl (by kernel_rfl) (by rfl) ?_ ?_
          rotate_left
          · intro wq hSw
            go_simp; try with_reducible rfl
          try simp only [tdy]
          refine tE 7 (v := ?_) (hsT2) (fun _ h => h) rfl (by kernel_rfl) (by rfl) ?_ ?_
          rotate_left
          · intro wq hSw
            go_simp; try with_reducible rfl
          try simp only [tdy]
          refine tE 8 (v := ?_) (hsT2) (fun _ h => h) rfl (by kernel_rfl) (by rfl) ?_ ?_
          rotate_left
          · intro wq hSw
            go_simp; try with_reducible rfl
          try simp only [tdy]
          refine tE 10 (v := ?_) (hsT2) (fun _ h => h) rfl (by kernel_rfl) (by rfl) ?_ ?_
          rotate_left
          · intro wq hSw
            go_simp; try with_reducible rfl
          try simp only [tdy]
          refine wpAnyE_call (i := 9) (fun y : Option Addr × Nat => .slice y.1 (srtR lq).length y.2) (RsN lq) rfl (by kernel_rfl) (by decide) (by rfl) (hsT2) (fun _ h => h) (fun yq => RsN.st lq yq) (fun wq hSw => ?_) (fun yq => ?_)
          · exact RunI.of_calls (Set.reqsN S q rb lq (by have := ((HTZ.out.below hSw).1.1).few; omega) ((HTZ.out.below hSw).1.1).ids wq ((HTZ.out.below hSw).1.1).1.2) (by go_simp) (fun e w' h => h)
          obtain ⟨A8, c8⟩ := yq
          try dsimp only
          try simp only [tdy]
          refine wpAnyE_call (i := 11) (fun y : Option Addr × Nat => .slice y.1 (srtR lq).length y.2) (RsN lq) rfl (by kernel_rfl) (by decide) (by rfl) (Stays.and_ (hsT2) (RsN.st lq (A8, c8))) (fun _ h => h.1) (fun yq => RsN.st lq yq) (fun wq hSw => ?_) (fun yq => ?_)
          · exact RunI.of_calls (Set.reqsN S1 q1 rb1 lq (by have := ((HTZ.out.below hSw.1).1.2).few; omega) ((HTZ.out.below hSw.1).1.2).ids wq ((HTZ.out.below hSw.1).1.2).1.2) (by go_simp) (fun e w' h => h)
          obtain ⟨A9, c9⟩ := yq
          try dsimp only
          try simp only [tdy]
          refine wpAnyE_call (i := 12) (fun _ : Unit => .bool true) (fun (_ : Unit) (_ : World) => True) rfl (by kernel_rfl) (by decide) (by rfl) (Stays.and_ (Stays.and_ (hsT2) (RsN.st lq (A8, c8))) (RsN.st lq (A9, c9))) (fun _ h => h.1.1) (fun yq => stays_tt yq) (fun wq hSw => ?_) (fun yq => ?_)
          · exact RunI.of_calls (Slq.equal A8 A9 (srtR lq).length c8 c9 (srtR lq) (by have := HLN.out; omega) wq hSw.1.2 hSw.2) (by go_simp) (fun e w' h => ⟨(), h.1, trivial, h.2⟩)
          obtain ⟨⟩ := yq
          skip
          try simp only [tdy]
          refine tE 13 (v := ?_) (Stays.and_ (Stays.and_ (Stays.and_ (hsT2) (RsN.st lq (A8, c8))) (RsN.st lq (A9, c9))) (stays_tt ())) (fun _ h => h.1.1.1) rfl (by kernel_rfl) (by rfl) ?_ ?_
          rotate_left
          · intro wq hSw
            go_simp; try with_reducible rfl
          try simp only [tdy]
          refine tE 14 (v := ?_) (Stays.and_ (Stays.and_ (Stays.and_ (hsT2) (RsN.st lq (A8, c8))) (RsN.st lq (A9, c9))) (stays_tt ())) (fun _ h => h.1.1.1) rfl (by kernel_rfl) (by rfl) ?_ ?_
          rotate_left
          · intro wq hSw
            go_simp; try with_reducible rfl
          try simp only [tdy]
          refine tE 15 (v := ?_) (Stays.and_ (Stays.and_ (Stays.and_ (hsT2) (RsN.st lq (A8, c8))) (RsN.st lq (A9, c9))) (stays_tt ())) (fun _ h => h.1.1.1) rfl (by kernel_rfl) (by rfl) ?_ ?_
          rotate_left
          · intro wq hSw
            go_simp; try with_reducible rfl
          try simp only [tdy]
          refine wpAnyE_take (i := 16) (v := .int .i64 (runR lq)) (Stays.and_ (Stays.and_ (Stays.and_ (hsT2) (RsN.st lq (A8, c8))) (RsN.st lq (A9, c9))) (stays_tt ())) (fun _ h => h.1.1.1) rfl (by kernel_rfl) (by kernel_rfl) (by kernel_rfl) (by kernel_rfl) (fun _ _ _ h => h) (Or.inl ⟨by rfl, fun wq hSw => ?_⟩) ?_
          · refine RunB.of_calls (Set.runnable S q rb lq ((HTZ.out.below hSw).1.1).few ((HTZ.out.below hSw).1.1).ids wq ((HTZ.out.below hSw).1.1).1.2) (by go_simp) ?_
            rintro e wr ⟨rfl, hb⟩
            exact ⟨rfl, hb⟩
          try simp only [tdy]
          refine tE 17 (v := ?_) (Stays.and_ (Stays.and_ (Stays.and_ (hsT2) (RsN.st lq (A8, c8))) (RsN.st lq (A9, c9))) (stays_tt ())) (fun _ h => h.1.1.1) rfl (by kernel_rfl) (by rfl) ?_ ?_
          rotate_left
          · intro wq hSw
            go_simp; try with_reducible rfl
          try simp only [tdy]
          refine wpAnyE_take (i := 18) (v := .int .i64 (runR lq)) (Stays.and_ (Stays.and_ (Stays.and_ (hsT2) (RsN.st lq (A8, c8))) (RsN.st lq (A9, c9))) (stays_tt ())) (fun _ h => h.1.1.1) rfl (by kernel_rfl) (by kernel_rfl) (by kernel_rfl) (by kernel_rfl) (fun _ _ _ h => h) (Or.inl ⟨by rfl, fun wq hSw => ?_⟩) ?_
          · refine RunB.of_calls (Set.runnable S1 q1 rb1 lq ((HTZ.out.below hSw).1.2).few ((HTZ.out.below hSw).1.2).ids wq ((HTZ.out.below hSw).1.2).1.2) (by go_simp) ?_
            rintro e wr ⟨rfl, hb⟩
            exact ⟨rfl, hb⟩
          try simp only [tdy]
          refine tE 19 (v := ?_) (Stays.and_ (Stays.and_ (Stays.and_ (hsT2) (RsN.st lq (A8, c8))) (RsN.st lq (A9, c9))) (stays_tt ())) (fun _ h => h.1.1.1) rfl (by kernel_rfl) (by rfl) ?_ ?_
          rotate_left
          · intro wq hSw
            go_simp; try with_reducible rfl
          try simp only [tdy]
          refine tE 20 (v := ?_) (Stays.and_ (Stays.and_ (Stays.and_ (hsT2) (RsN.st lq (A8, c8))) (RsN.st lq (A9, c9))) (stays_tt ())) (fun _ h => h.1.1.1) rfl (by kernel_rfl) (by rfl) ?_ ?_
          rotate_left
          · intro wq hSw
            go_simp; try with_reducible rfl
          try simp only [tdy]
          refine tE 21 (v := ?_) (Stays.and_ (Stays.and_ (Stays.and_ (hsT2) (RsN.st lq (A8, c8))) (RsN.st lq (A9, c9))) (stays_tt ())) (fun _ h => h.1.1.1) rfl (by kernel_rfl) (by rfl) ?_ ?_
          rotate_left
          · intro wq hSw
            go_simp; try with_reducible rfl
          try simp only [tdy]
          refine tE 22 (v := ?_) (Stays.and_ (Stays.and_ (Stays.and_ (hsT2) (RsN.st lq (A8, c8))) (RsN.st lq (A9, c9))) (stays_tt ())) (fun _ h => h.1.1.1) rfl (by kernel_rfl) (by rfl) ?_ ?_
          rotate_left
          · intro wq hSw
            go_simp; try with_reducible rfl
          try simp only [tdy]
          refine tE 23 (v := ?_) (Stays.and_ (Stays.and_ (Stays.and_ (hsT2) (RsN.st lq (A8, c8))) (RsN.st lq (A9, c9))) (stays_tt ())) (fun _ h => h.1.1.1) rfl (by kernel_rfl) (by rfl) ?_ ?_
          rotate_left
          · intro wq hSw
            go_simp; try with_reducible rfl
          try simp only [tdy]
          refine tE 24 (v := ?_) (Stays.and_ (Stays.and_ (Stays.and_ (hsT2) (RsN.st lq (A8, c8))) (RsN.st lq (A9, c9))) (stays_tt ())) (fun _ h => h.1.1.1) rfl (by kernel_rfl) (by rfl) ?_ ?_
          rotate_left
          · intro wq hSw
            go_simp; try with_reducible rfl
          try simp only [tdy]
          refine tE 25 (v := ?_) (Stays.and_ (Stays.and_ (Stays.and_ (hsT2) (RsN.st lq (A8, c8))) (RsN.st lq (A9, c9))) (stays_tt ())) (fun _ h => h.1.1.1) rfl (by kernel_rfl) (by rfl) ?_ ?_
          rotate_left
          · intro wq hSw
            obtain ⟨s0, s1⟩ := (HTZ.out.below hSw).1.1.1.2.at
            obtain ⟨u0, u1⟩ := (HTZ.out.below hSw).1.2.1.2.at
            obtain ⟨x0, x1, x2, x3, x4, x5_, x6, x7, x8, x9⟩ := Rq.at x5 (HV.out.1.below hSw)
            obtain ⟨y0, y1, y2, y3, y4, y5, y6, y7, y8, y9⟩ := Rq.at x5 (HV.out.2.below hSw)
            go_simp; try with_reducible rfl
          try simp only [tdy]
          refine wpAnyE_take (i := 26) (v := (.int .i64 0)) (Stays.and_ (Stays.and_ (Stays.and_ (hsT2) (RsN.st lq (A8, c8))) (RsN.st lq (A9, c9))) (stays_tt ())) (fun _ h => h.1.1.1) rfl (by kernel_rfl) (by kernel_rfl) (by kernel_rfl) (by kernel_rfl) (fun _ _ _ h => h) (Or.inl ⟨by rfl, fun wq hSw => ?_⟩) ?_
          · refine RunB.of_calls (HQL.out wq hSw) (by go_simp) ?_
            rintro e wr ⟨rfl, hb⟩
            exact ⟨rfl, hb⟩
          try simp only [tdy]
          refine tE 27 (v := ?_) (Stays.and_ (Stays.and_ (Stays.and_ (hsT2) (RsN.st lq (A8, c8))) (RsN.st lq (A9, c9))) (stays_tt ())) (fun _ h => h.1.1.1) rfl (by kernel_rfl) (by rfl) ?_ ?_
          rotate_left
          · intro wq hSw
            go_simp; try with_reducible rfl
          try simp only [tdy]
          refine tE 28 (v := ?_) (Stays.and_ (Stays.and_ (Stays.and_ (hsT2) (RsN.st lq (A8, c8))) (RsN.st lq (A9, c9))) (stays_tt ())) (fun _ h => h.1.1.1) rfl (by kernel_rfl) (by rfl) ?_ ?_
          rotate_left
          · intro wq hSw
            go_simp; try with_reducible rfl
          try simp only [tdy]
          refine wpAnyE_take (i := 29) (v := undef) (Stays.and_ (Stays.and_ (Stays.and_ (hsT2) (RsN.st lq (A8, c8))) (RsN.st lq (A9, c9))) (stays_tt ())) (fun _ h => h.1.1.1) rfl (by kernel_rfl) (by kernel_rfl) (by kernel_rfl) (by kernel_rfl) (fun _ _ _ h => h) (Or.inr ⟨by rfl, rfl⟩) ?_
          try simp only [tdy]
          refine wpAnyE_take (i := 30) (v := undef) (Stays.and_ (Stays.and_ (Stays.and_ (hsT2) (RsN.st lq (A8, c8))) (RsN.st lq (A9, c9))) (stays_tt ())) (fun _ h => h.1.1.1) rfl (by kernel_rfl) (by kernel_rfl) (by kernel_rfl) (by kernel_rfl) (fun _ _ _ h => h) (Or.inr ⟨by rfl, rfl⟩) ?_
          try simp only [tdy]
          refine wpAnyE_take (i := 31) (v := undef) (Stays.and_ (Stays.and_ (Stays.and_ (hsT2) (RsN.st lq (A8, c8))) (RsN.st lq (A9, c9))) (stays_tt ())) (fun _ h => h.1.1.1) rfl (by kernel_rfl) (by kernel_rfl) (by kernel_rfl) (by kernel_rfl) (fun _ _ _ h => h) (Or.inr ⟨by rfl, rfl⟩) ?_
          try simp only [tdy]
          refine wpAnyE_take (i := 32) (v := undef) (Stays.and_ (Stays.and_ (Stays.and_ (hsT2) (RsN.st lq (A8, c8))) (RsN.st lq (A9, c9))) (stays_tt ())) (fun _ h => h.1.1.1) rfl (by kernel_rfl) (by kernel_rfl) (by kernel_rfl) (by kernel_rfl) (fun _ _ _ h => h) (Or.inr ⟨by rfl, rfl⟩) ?_
          try simp only [tdy]
          refine wpAnyE_take (i := 33) (v := undef) (Stays.and_ (Stays.and_ (Stays.and_ (hsT2) (RsN.st lq (A8, c8))) (RsN.st lq (A9, c9))) (stays_tt ())) (fun _ h => h.1.1.1) rfl (by kernel_rfl) (by kernel_rfl) (by kernel_rfl) (by kernel_rfl) (fun _ _ _ h => h) (Or.inr ⟨by rfl, rfl⟩) ?_
          try simp only [tdy]
          refine wpAnyE_take (i := 34) (v := undef) (Stays.and_ (Stays.and_ (Stays.and_ (hsT2) (RsN.st lq (A8, c8))) (RsN.st lq (A9, c9))) (stays_tt ())) (fun _ h => h.1.1.1) rfl (by kernel_rfl) (by kernel_rfl) (by kernel_rfl) (by kernel_rfl) (fun _ _ _ h => h) (Or.inr ⟨by rfl, rfl⟩) ?_
          try simp only [tdy]
          refine wpAnyE_take (i := 35) (v := undef) (Stays.and_ (Stays.and_ (Stays.and_ (hsT2) (RsN.st lq (A8, c8))) (RsN.st lq (A9, c9))) (stays_tt ())) (fun _ h => h.1.1.1) rfl (by kernel_rfl) (by kernel_rfl) (by kernel_rfl) (by kernel_rfl) (fun _ _ _ h => h) (Or.inr ⟨by rfl, rfl⟩) ?_
          try simp only [tdy]
          refine wpAnyE_take (i := 36) (v := undef) (Stays.and_ (Stays.and_ (Stays.and_ (hsT2) (RsN.st lq (A8, c8))) (RsN.st lq (A9, c9))) (stays_tt ())) (fun _ h => h.1.1.1) rfl (by kernel_rfl) (by kernel_rfl) (by kernel_rfl) (by kernel_rfl) (fun _ _ _ h => h) (Or.inr ⟨by rfl, rfl⟩) ?_
          try simp only [tdy]
          refine wpAnyE_take (i := 37) (v := undef) (Stays.and_ (Stays.and_ (Stays.and_ (hsT2) (RsN.st lq (A8, c8))) (RsN.st lq (A9, c9))) (stays_tt ())) (fun _ h => h.1.1.1) rfl (by kernel_rfl) (by kernel_rfl) (by kernel_rfl) (by kernel_rfl) (fun _ _ _ h => h) (Or.inr ⟨by rfl, rfl⟩) ?_
          try simp only [tdy]
          refine wpAnyE_take (i := 38) (v := undef) (Stays.and_ (Stays.and_ (Stays.and_ (hsT2) (RsN.st lq (A8, c8))) (RsN.st lq (A9, c9))) (stays_tt ())) (fun _ h => h.1.1.1) rfl (by kernel_rfl) (by kernel_rfl) (by kernel_rfl) (by kernel_rfl) (fun _ _ _ h => h) (Or.inr ⟨by rfl, rfl⟩) ?_
          try simp only [tdy]
          refine wpAnyE_take (i := 39) (v := undef) (Stays.and_ (Stays.and_ (Stays.and_ (hsT2) (RsN.st lq (A8, c8))) (RsN.st lq (A9, c9))) (stays_tt ())) (fun _ h => h.1.1.1) rfl (by kernel_rfl) (by kernel_rfl) (by kernel_rfl) (by kernel_rfl) (fun _ _ _ h => h) (Or.inr ⟨by rfl, rfl⟩) ?_
          try simp only [tdy]
          refine tE 40 (v := ?_) (Stays.and_ (Stays.and_ (Stays.and_ (hsT2) (RsN.st lq (A8, c8))) (RsN.st lq (A9, c9))) (stays_tt ())) (fun _ h => h.1.1.1) rfl (by kernel_rfl) (by rfl) ?_ ?_
          rotate_left
          · intro wq hSw
            go_simp; try with_reducible rfl
          try simp only [tdy]
          refine tE 41 (v := ?_) (Stays.and_ (Stays.and_ (Stays.and_ (hsT2) (RsN.st lq (A8, c8))) (RsN.st lq (A9, c9))) (stays_tt ())) (fun _ h => h.1.1.1) rfl (by kernel_rfl) (by rfl) ?_ ?_
          rotate_left
          · intro wq hSw
            go_simp; try with_reducible rfl
          try simp only [tdy]
          refine tE 42 (v := ?_) (Stays.and_ (Stays.and_ (Stays.and_ (hsT2) (RsN.st lq (A8, c8))) (RsN.st lq (A9, c9))) (stays_tt ())) (fun _ h => h.1.1.1) rfl (by kernel_rfl) (by rfl) ?_ ?_
          rotate_left
          · intro wq hSw
            go_simp; try with_reducible rfl
          try simp only [tdy]
          refine wpAnyE_done (by kernel_rfl) (fun wz hSz => ?_) _
          have HF := hid (below_on HB1.out (HTZ.out.below hSz.1.1.1).2.2)
          clear hSz
          go_wp2_with fail
          go_ret
          exact ⟨rfl, HF.out⟩
      · have hs := HST.out
        unfold entB entL entR at hs
        rw [if_neg he, if_neg he, if_neg he] at hs
        obtain ⟨t2, h2l, h2⟩ := HTS.out.fst hs
        have HTZ := hid h2
        clear h2 h2l hs HST HTS HNF HR7
        have he0 : ¬ entC b t.list x5 = 0 := he
        clear he
        generalize entC b t.list x5 = e9 at he0 ⊢
        go_upto_region 15 with fail
        have HLN : Hid ((srtR lq).length ≤ 1000000) := hid (by rw [srtR_len]; have := HTZ.out.1.1.few; omega)
        have hsT3 : Stays (fun wx => Below w6.heap.size w6 wx) := fun _ _ h hb => below_on h hb
        refine wp_region_grow (S := fun wx => Below w6.heap.size w6 wx) 19 (by kernel_rfl) (hsT3 _ _ ((Below.refl w6.heap.size w6)) (Below.refl _ _).drew) ?_
        refine tE 0 (v := ?_) (hsT3) (fun _ h => h) rfl (by kernel_rfl) (by rfl) ?_ ?_
        rotate_left
        · intro wq hSw
          go_simp; try with_reducible rfl
        try simp only [tdy]
        refine tE 2 (v := ?_) (hsT3) (fun _ h => h) rfl (by kernel_rfl) (by rfl) ?_ ?_
        rotate_left
        · intro wq hSw
          go_simp; try with_reducible rfl
        try simp only [tdy]
        refine wpAnyE_call (i := 1) (fun y : Option Addr × Nat => .slice y.1 (srtR lq).length y.2) (RsN lq) rfl (by kernel_rfl) (by decide) (by rfl) (hsT3) (fun _ h => h) (fun yq => RsN.st lq yq) (fun wq hSw => ?_) (fun yq => ?_)
        · exact RunI.of_calls (Set.reqsN S q rb lq (by have := ((HTZ.out.below hSw).1.1).few; omega) ((HTZ.out.below hSw).1.1).ids wq ((HTZ.out.below hSw).1.1).1.2) (by go_simp) (fun e w' h => h)
        obtain ⟨A8, c8⟩ := yq
        try dsimp only
        try simp only [tdy]
        refine wpAnyE_call (i := 3) (fun y : Option Addr × Nat => .slice y.1 (srtR lq).length y.2) (RsN lq) rfl (by kernel_rfl) (by decide) (by rfl) (Stays.and_ (hsT3) (RsN.st lq (A8, c8))) (fun _ h => h.1) (fun yq => RsN.st lq yq) (fun wq hSw => ?_) (fun yq => ?_)
        · exact RunI.of_calls (Set.reqsN S1 q1 rb1 lq (by have := ((HTZ.out.below hSw.1).1.2).few; omega) ((HTZ.out.below hSw.1).1.2).ids wq ((HTZ.out.below hSw.1).1.2).1.2) (by go_simp) (fun e w' h => h)
        obtain ⟨A9, c9⟩ := yq
        try dsimp only
        try simp only [tdy]
        refine wpAnyE_call (i := 4) (fun _ : Unit => .bool true) (fun (_ : Unit) (_ : World) => True) rfl (by kernel_rfl) (by decide) (by rfl) (Stays.and_ (Stays.and_ (hsT3) (RsN.st lq (A8, c8))) (RsN.st lq (A9, c9))) (fun _ h => h.1.1) (fun yq => stays_tt yq) (fun wq hSw => ?_) (fun yq => ?_)
        · exact RunI.of_calls (Slq.equal A8 A9 (srtR lq).length c8 c9 (srtR lq) (by have := HLN.out; omega) wq hSw.1.2 hSw.2) (by go_simp) (fun e w' h => ⟨(), h.1, trivial, h.2⟩)
        obtain ⟨⟩ := yq
        skip
        try simp only [tdy]
        refine tE 5 (v := ?_) (Stays.and_ (Stays.and_ (Stays.and_ (hsT3) (RsN.st lq (A8, c8))) (RsN.st lq (A9, c9))) (stays_tt ())) (fun _ h => h.1.1.1) rfl (by kernel_rfl) (by rfl) ?_ ?_
        rotate_left
        · intro wq hSw
          go_simp; try with_reducible rfl
        try simp only [tdy]
        refine tE 6 (v := ?_) (Stays.and_ (Stays.and_ (Stays.and_ (hsT3) (RsN.st lq (A8, c8))) (RsN.st lq (A9, c9))) (stays_tt ())) (fun _ h => h.1.1.1) rfl (by kernel_rfl) (by rfl) ?_ ?_
        rotate_left
        · intro wq hSw
          go_simp; try with_reducible rfl
        try simp only [tdy]
        refine tE 7 (v := ?_) (Stays.and_ (Stays.and_ (Stays.and_ (hsT3) (RsN.st lq (A8, c8))) (RsN.st lq (A9, c9))) (stays_tt ())) (fun _ h => h.1.1.1) rfl (by kernel_rfl) (by rfl) ?_ ?_
        rotate_left
        · intro wq hSw
          go_simp; try with_reducible rfl
        try simp only [tdy]
        refine tE 8 (v := ?_) (Stays.and_ (Stays.and_ (Stays.and_ (hsT3) (RsN.st lq (A8, c8))) (RsN.st lq (A9, c9))) (stays_tt ())) (fun _ h => h.1.1.1) rfl (by kernel_rfl) (by rfl) ?_ ?_
        rotate_left
        · intro wq hSw
          go_simp; try with_reducible rfl
        try simp only [tdy]
        refine tE 9 (v := ?_) (Stays.and_ (Stays.and_ (Stays.and_ (hsT3) (RsN.st lq (A8, c8))) (RsN.st lq (A9, c9))) (stays_tt ())) (fun _ h => h.1.1.1) rfl (by kernel_rfl) (by rfl) ?_ ?_
        rotate_left
        · intro wq hSw
          obtain ⟨s0, s1⟩ := (HTZ.out.below hSw).1.1.1.2.at
          obtain ⟨u0, u1⟩ := (HTZ.out.below hSw).1.2.1.2.at
          go_simp; try with_reducible rfl
        try simp only [tdy]
        refine wpAnyE_take (i := 10) (v := .int .u64 b) (Stays.and_ (Stays.and_ (Stays.and_ (hsT3) (RsN.st lq (A8, c8))) (RsN.st lq (A9, c9))) (stays_tt ())) (fun _ h => h.1.1.1) rfl (by kernel_rfl) (by kernel_rfl) (by kernel_rfl) (by kernel_rfl) (fun _ _ _ h => h) (Or.inl ⟨by rfl, fun wq hSw => ?_⟩) ?_
        · refine RunB.of_calls (Queue.now q mb th (qM b t2.list) t2 wq ((HTZ.out.below hSw).1.1).1.1) (by go_simp) ?_
          rintro e wr ⟨rfl, hb⟩
          exact ⟨rfl, hb⟩
        try simp only [tdy]
        refine tE 11 (v := ?_) (Stays.and_ (Stays.and_ (Stays.and_ (hsT3) (RsN.st lq (A8, c8))) (RsN.st lq (A9, c9))) (stays_tt ())) (fun _ h => h.1.1.1) rfl (by kernel_rfl) (by rfl) ?_ ?_
        rotate_left
        · intro wq hSw
          go_simp; try with_reducible rfl
        try simp only [tdy]
        refine tE 12 (v := ?_) (Stays.and_ (Stays.and_ (Stays.and_ (hsT3) (RsN.st lq (A8, c8))) (RsN.st lq (A9, c9))) (stays_tt ())) (fun _ h => h.1.1.1) rfl (by kernel_rfl) (by rfl) ?_ ?_
        rotate_left
        · intro wq hSw
          go_simp; try with_reducible rfl
        try simp only [tdy]
        refine tE 13 (v := ?_) (Stays.and_ (Stays.and_ (Stays.and_ (hsT3) (RsN.st lq (A8, c8))) (RsN.st lq (A9, c9))) (stays_tt ())) (fun _ h => h.1.1.1) rfl (by kernel_rfl) (by rfl) ?_ ?_
        rotate_left
        · intro wq hSw
          go_simp; try with_reducible rfl
        try simp only [tdy]
        refine tE 14 (v := ?_) (Stays.and_ (Stays.and_ (Stays.and_ (hsT3) (RsN.st lq (A8, c8))) (RsN.st lq (A9, c9))) (stays_tt ())) (fun _ h => h.1.1.1) rfl (by kernel_rfl) (by rfl) ?_ ?_
        rotate_left
        · intro wq hSw
          obtain ⟨s0, s1⟩ := (HTZ.out.below hSw).1.1.1.2.at
          obtain ⟨u0, u1⟩ := (HTZ.out.below hSw).1.2.1.2.at
          go_simp; try with_reducible rfl
        try simp only [tdy]
        refine wpAnyE_take (i := 15) (v := .int .u64 b) (Stays.and_ (Stays.and_ (Stays.and_ (hsT3) (RsN.st lq (A8, c8))) (RsN.st lq (A9, c9))) (stays_tt ())) (fun _ h => h.1.1.1) rfl (by kernel_rfl) (by kernel_rfl) (by kernel_rfl) (by kernel_rfl) (fun _ _ _ h => h) (Or.inl ⟨by rfl, fun wq hSw => ?_⟩) ?_
        · refine RunB.of_calls (Queue.now q1 mb1 th1 (qM b t1.list) t1 wq ((HTZ.out.below hSw).1.2).1.1) (by go_simp) ?_
          rintro e wr ⟨rfl, hb⟩
          exact ⟨rfl, hb⟩
        try simp only [tdy]
        refine tE 16 (v := ?_) (Stays.and_ (Stays.and_ (Stays.and_ (hsT3) (RsN.st lq (A8, c8))) (RsN.st lq (A9, c9))) (stays_tt ())) (fun _ h => h.1.1.1) rfl (by kernel_rfl) (by rfl) ?_ ?_
        rotate_left
        · intro wq hSw
          go_simp; try with_reducible rfl
        try simp only [tdy]
        refine tE 17 (v := ?_) (Stays.and_ (Stays.and_ (Stays.and_ (hsT3) (RsN.st lq (A8, c8))) (RsN.st lq (A9, c9))) (stays_tt ())) (fun _ h => h.1.1.1) rfl (by kernel_rfl) (by rfl) ?_ ?_
        rotate_left
        · intro wq hSw
          go_simp; try with_reducible rfl
        try simp only [tdy]
        refine tE 18 (v := ?_) (Stays.and_ (Stays.and_ (Stays.and_ (hsT3) (RsN.st lq (A8, c8))) (RsN.st lq (A9, c9))) (stays_tt ())) (fun _ h => h.1.1.1) rfl (by kernel_rfl) (by rfl) ?_ ?_
        rotate_left
        · intro wq hSw
          go_simp; try with_reducible rfl
        try simp only [tdy]
        refine wpAnyE_done (by kernel_rfl) (fun wz hSz => ?_) _
        have HF := hid (below_on HB1.out (HTZ.out.below hSz.1.1.1).2.2)
        clear hSz
        go_wp2_with fail
        go_ret
        exact ⟨rfl, HF.out⟩
end
end Go.Proofs.YtjndmmcjobbcbaaGreatDoor

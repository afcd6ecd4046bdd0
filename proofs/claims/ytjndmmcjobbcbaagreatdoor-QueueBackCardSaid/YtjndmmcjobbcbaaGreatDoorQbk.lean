import Derived.Test.YtjndmmcjobbcbaaGreatDoorSeF
import Derived.Test.YtjndmmcjobbcbaaGreatDoorSeO
import Derived.Test.YtjndmmcjobbcbaaGreatDoorQueueBackZ36
import Derived.Test.YtjndmmcjobbcbaaGreatDoorSsl
import Derived.Test.YtjndmmcjobbcbaaGreatDoorCkW
import Derived.Test.YtjndmmcjobbcbaaGreatDoorTxt
import Derived.BigGuard
import Derived.BigCall
namespace Go.Proofs.YtjndmmcjobbcbaaGreatDoor
open Go Go.RowKit Ck
theorem aw14l : True' Tryz.prog 15 := holds_sound (n := 3000) mixed (knownC aw13 known0) (by kernel_rfl)
theorem qM_b (b : Int) (l : List It) : (qM b l).b = b := rfl
theorem TI.made {w0 w w' : World} {q mb th p mc tc : Nat} {b : Int} {t u : Tr It} (h : QI w0 q mb th b t w) (hs : Tr.SameI t u) (hq : QAt w' p mc tc (qM b t.list) u) (hf : ∀ g ∈ foot p mc tc u, w.heap.size ≤ g) (hb : Below w.heap.size w w') : TI w0 q mb th p mc tc b b t u w' :=
  ⟨⟨⟨h.1.1.below hb, by rw [hs.list]; exact hq⟩, h.1.2.2, hs.whole h.1.2.2⟩, ⟨fun g hg hm => absurd (h.1.1.footlt g hg) (by have := hf g hm; omega), h.2.1, fun g hg => Nat.le_trans h.2.2.size (hf g hg)⟩, below_on h.2.2 hb⟩
theorem Step.leave_yes (q mb th : Nat) (b : Int) (t : Tr It) (hq : Qok b t.list) (hw : Tr.Whole t) (x : It) (hx : x ∈ t.list) (w : World) (h : QAt w q mb th (qM b t.list) t) : Calls Tryz.prog 17 #[.pointer (some ⟨q, 0, none⟩), .int .i64 x.i] w (fun e w' => e = .returned (.tuple #[x.val, .int .i64 0]) ∧ Stp q mb th (leaB x.i b t.list) (lesI x.i t.list) t w w') := by
  have ha : anyI x.i t.list = true := by unfold anyI; rw [List.any_eq_true]; exact ⟨x, hx, by simp⟩
  refine (Queue.leave_yes q mb th b t hq hw x hx w h).mono ?_
  rintro e w' ⟨rfl, t', A, B, hl, hl', hi', hq', hk, hw', hb, hc⟩
  have hle : lesI x.i t.list = A ++ B := by rw [hl]; exact rest_eq (a := x) rfl hi'
  refine ⟨rfl, t', by rw [hle, hl'], ?_, ?_, hw', fun g hg => Or.inl (hb g hg), hc⟩
  · unfold leaB; rw [if_pos ha, hle]; exact hq'
  · unfold leaB; rw [if_pos ha, hle]; exact hk
theorem Qok.back {b : Int} {l : List It} (hq : Qok b l) {a : It} (ha : a.In) (hj : joinC b l a = 0) :
    lesI a.i (joiL b l a) = l ∧ a ∈ joiL b l a ∧ (0 < l.length → leaB a.i (joiB b l a) (joiL b l a) = b) := by
  obtain ⟨h1, h2, h3, h4⟩ := joinC_0 hj
  have eL : joiL b l a = insI a l := by unfold joiL; rw [if_pos hj]
  have eB : joiB b l a = nowI (fromI b l a) (l ++ [a]) := by unfold joiB; rw [if_pos hj]
  rw [eL, eB]
  have hm : a ∈ insI a l := (insI_perm a l).mem_iff.1 (by simp)
  refine ⟨lesI_ins h2, hm, fun h0 => ?_⟩
  have hF := (hq.fw.join hq.now ha h1 (by have := hq.fw.few; omega) h4).1
  have hf : fromI b l a = b := by unfold fromI; rw [if_neg (by omega)]
  rw [hf] at hF ⊢
  unfold leaB
  rw [lesI_ins h2, if_pos, back_now hF h0 hq.now]
  unfold anyI
  rw [List.any_eq_true]
  exact ⟨a, hm, by simp⟩
set_option maxRecDepth 100000 in
set_option maxHeartbeats 8000000 in
theorem Qback.away (c0 : Int) (A : Option Addr) (n c : Nat) (r : It) (hn : 40 < n) (hm : n ≤ 9223372036854775807) (w : World) : Calls Tryz.prog 3 #[.int .u64 c0, .slice A n c, r.val] w fun e w' => e = .returned (.bool true) ∧ Below w.heap.size w w' := by
  have h1 : (40 : Int) < n := by omega
  have hal := (Below.refl w.heap.size w).alloc (Nat.le_refl _) (.cells #[.int .u64 r.t, .int .u32 r.r, .int .u32 r.v, .int .i64 r.i, .int .u64 r.u, .int .u32 r.s, .int .u32 r.y] 29)
  have HB0 := hid hal
  clear hal
  unfold It.val
  go_enter Tryz.func3, Tryz.ntmps3
  go_upto_region 1 with fail
  generalize (w.alloc (.cells #[.int .u64 r.t, .int .u32 r.r, .int .u32 r.v, .int .i64 r.i, .int .u64 r.u, .int .u32 r.s, .int .u32 r.y] 29)) = W0 at HB0 ⊢
  go_wp2_with fail
  refine (aw14l _).mono ?_
  rintro e w1 ⟨rfl, hb⟩
  have HB1 := hid (below_on HB0.out hb)
  clear hb
  go_wp2_with fail
  go_ret
  exact ⟨rfl, HB1.out⟩
section
attribute [local go_sem] Item.eqB
set_option maxRecDepth 100000 in
set_option maxHeartbeats 64000000 in
theorem Qback.law (c0 : Int) (A : Option Addr) (n c : Nat) (l : List (Int × It)) (x5 : It) (w : World) (w0 : (Lit.int .u64 c0).wf = true) (h : (RdQ w A n l ∧ InQ l) ∧ n ≤ 9223372036854775807) (hx5 : x5.In) (_ : Tab10 w.heap.size w) : Calls Tryz.prog 3 #[.int .u64 c0, .slice A n c, x5.val] w fun e w' => e = .returned (.bool true) ∧ Below w.heap.size w w' := by
  by_cases hn : 40 < n
  · exact Qback.away c0 A n c x5 hn h.2 w
  have hT : IsT c0 := bounds_u64 w0
  have HIN := hid h.1.2
  have HX5 := hid hx5
  have hni : (n : Int) ≤ 40 := by omega
  have hn40 : ¬ (40 : Int) < n := by omega
  have hal := (Below.refl w.heap.size w).alloc (Nat.le_refl _) (.cells #[.int .u64 x5.t, .int .u32 x5.r, .int .u32 x5.v, .int .i64 x5.i, .int .u64 x5.u, .int .u32 x5.s, .int .u32 x5.y] 29)
  have HR0 : Hid (Cs (w.alloc (.cells #[.int .u64 x5.t, .int .u32 x5.r, .int .u32 x5.v, .int .i64 x5.i, .int .u64 x5.u, .int .u32 x5.s, .int .u32 x5.y] 29)) w.heap.size x5.cells) := hid (Cs.new7 w 29 x5)
  have HB0 := hid hal
  have HR := hid (h.1.1.below hal)
  clear h w0 hx5 hal
  unfold It.val
  go_enter Tryz.func3, Tryz.ntmps3
  go_upto_region 1 with fail
  generalize (w.alloc (.cells #[.int .u64 x5.t, .int .u32 x5.r, .int .u32 x5.v, .int .i64 x5.i, .int .u64 x5.u, .int .u32 x5.s, .int .u32 x5.y] 29)) = W0 at HB0 HR0 HR ⊢
  generalize hg5 : w.heap.size = g5 at HR0 ⊢
  go_wp2_with fail
  refine (aw14l _).mono ?_
  rintro e w1 ⟨rfl, hb⟩
  have HR1 := hid (HR.out.below hb)
  have HR5 := hid (HR0.out.below hb)
  have HB1 : Hid (Below w.heap.size w w1) := hid (below_on HB0.out hb)
  clear hb HR HR0 hg5
  go_wp2_with fail
  refine (Serve.new c0 hT _).mono ?_
  rintro e w2 ⟨q, mb, th, rfl, hq⟩
  have HX2 := hid hq
  clear hq
  go_wp2_with fail
  go_loopg [34] n (fun s i wr => ∃ k : Nat, i = .int .i64 k ∧ k ≤ n ∧ s = n - k ∧ QX w1 q mb th wr)
  case atStart => exact ⟨0, rfl, Nat.zero_le _, by omega, HX2.out⟩
  case round =>
    obtain ⟨k, rfl, hk, hs, b, t, hti⟩ := hrel
    have HS := hid hs
    have HTI := hid hti
    have HBW := hid hti.2.2
    clear hs hti
    by_cases hkn : k < n
    · obtain ⟨bb, off, hA, _, hc⟩ := (HR1.out.below HBW.out).2 0 (by omega)
      obtain ⟨d0, p0, p1, p2, p3, p4, p5, p6⟩ := hc k hkn
      have HP : Hid ((0 ≤ (l.getD k (0, It.zero)).1 ∧ (l.getD k (0, It.zero)).1 ≤ 255) ∧ (l.getD k (0, It.zero)).2.In) := hid (by
        have hkl : k < l.length := by have := HR1.out.1; omega
        have e : l.getD k (0, It.zero) = l[k] := by simp [List.getD, hkl]
        rw [e]; exact HIN.out _ (List.getElem_mem hkl))
      clear hc
      generalize (l.getD k (0, It.zero)) = pa at *
      obtain ⟨d, a⟩ := pa
      dsimp only at d0 p0 p1 p2 p3 p4 p5 p6 HP
      subst hA
      have hki : (k : Int) < n := by omega
      have hk0 : (0 : Int) ≤ k := by omega
      simp only [Nat.add_assoc (off + k * 8), Nat.reduceAdd] at p1 p2 p3 p4 p5 p6
      have hal := (Below.refl wr.heap.size wr).alloc (Nat.le_refl _) (.cells #[.int .u8 d, .int .u64 a.t, .int .u32 a.r, .int .u32 a.v, .int .i64 a.i, .int .u64 a.u, .int .u32 a.s, .int .u32 a.y] 34)
      have HAC : Hid (Cs (wr.alloc (.cells #[.int .u8 d, .int .u64 a.t, .int .u32 a.r, .int .u32 a.v, .int .i64 a.i, .int .u64 a.u, .int .u32 a.s, .int .u32 a.y] 34)) wr.heap.size [.int .u8 d, .int .u64 a.t, .int .u32 a.r, .int .u32 a.v, .int .i64 a.i, .int .u64 a.u, .int .u32 a.s, .int .u32 a.y]) := hid (Cs.alloc_new8 wr 34 _ _ _ _ _ _ _ _)
      have HX3 : Hid (QX w1 q mb th (wr.alloc (.cells #[.int .u8 d, .int .u64 a.t, .int .u32 a.r, .int .u32 a.v, .int .i64 a.i, .int .u64 a.u, .int .u32 a.s, .int .u32 a.y] 34))) := hid ⟨b, t, HTI.out.below hal⟩
      clear hal HTI
      go_upto_region 9 with fail
      generalize (wr.alloc (.cells #[.int .u8 d, .int .u64 a.t, .int .u32 a.r, .int .u32 a.v, .int .i64 a.i, .int .u64 a.u, .int .u32 a.s, .int .u32 a.y] 34)) = W3 at HAC HX3 ⊢
      clear d0 p0 p1 p2 p3 p4 p5 p6
      generalize wr.heap.size = ga at HAC ⊢
      have a0 := HAC.out.at0
      have a1 := (HAC.out 1 _ rfl).1
      have a2 := (HAC.out 2 _ rfl).1
      have a3 := (HAC.out 3 _ rfl).1
      have a4 := (HAC.out 4 _ rfl).1
      have a5 := (HAC.out 5 _ rfl).1
      have a6 := (HAC.out 6 _ rfl).1
      have a7 := (HAC.out 7 _ rfl).1
      go_wp2_with fail
      · refine (Serve.leave w1 q mb th a.i HP.out.2.2.2.2.1 _ HX3.out).mono ?_
        rintro e w7 ⟨⟨x9, s9, rfl⟩, hs⟩
        have HX4 := hid hs
        clear hs a0 a1 a2 a3 a4 a5 a6 a7
        try unfold It.val
        go_wp2_with fail
        go_roundg (n - (k + 1))
        case measure => have := HS.out; omega
        case rel => exact ⟨k + 1, by go_num, by omega, rfl, HX4.out⟩
      · refine (Serve.join w1 q mb th a HP.out.2 _ HX3.out).mono ?_
        rintro e w7 ⟨⟨s9, rfl⟩, hs⟩
        have HX4 := hid hs
        clear hs a0 a1 a2 a3 a4 a5 a6 a7
        go_wp2_with fail
        go_roundg (n - (k + 1))
        case measure => have := HS.out; omega
        case rel => exact ⟨k + 1, by go_num, by omega, rfl, HX4.out⟩
    · obtain rfl : k = n := by omega
      have hki : ¬ (k : Int) < k := by omega
      clear HIN HR1
      go_wp2_with fail
      refine (Queue.clone q mb th (qM b t.list) t _ HTI.out.1.1).mono ?_
      rintro e w5 ⟨⟨p, mc, tc, u⟩, rfl, ⟨hs, hq, hf⟩, hb⟩
      dsimp only at hs hq hf ⊢
      have HTS := hid (TI.made HTI.out hs hq hf hb)
      have HUL := hid hs.list
      have HR6 := hid (HR5.out.below HTS.out.2.2)
      have HGS := hid HR5.out.lt
      have HQK := hid HTI.out.1.2.1
      clear hs hq hf hb HTI HR5 HBW HS
      obtain ⟨x0, x1, x2, x3, x4, x5_, x6⟩ := It.at x5 HR6.out
      go_wp2_with fail
      refine (Step.join q mb th b t HQK.out HTS.out.1.2.1 x5 HX5.out _ HTS.out.1.1.1).mono ?_
      rintro e w6 ⟨rfl, hs⟩
      have HST := hid hs
      have HNF : Hid (g5 ∉ foot q mb th t) := hid (fun hm => by have := HTS.out.2.1.2.1 g5 hm; have := HGS.out; omega)
      have HR7 := hid (by obtain ⟨_, _, _, _, _, _, hc⟩ := hs; exact (HR6.out.chg hc HNF.out : Cs w6 g5 x5.cells))
      clear hs x0 x1 x2 x3 x4 x5_ x6 HR6
      by_cases he : joinC b t.list x5 = 0
      · obtain ⟨e1, e2, e3⟩ := HQK.out.back HX5.out he
        have HE := hid (And.intro e1 (And.intro e2 e3))
        clear e1 e2 e3
        rw [he]
        clear he
        obtain ⟨t2, h2l, h2k, h2⟩ := HTS.out.fst HST.out
        have HT2 := hid h2
        have HL2 := hid h2l
        have HK2 := hid h2k
        clear h2 h2l h2k HST HTS HNF
        obtain ⟨x0, x1, x2, x3, x4, x5_, x6⟩ := It.at x5 HR7.out
        go_wp2_with fail
        refine (Step.leave_yes q mb th (joiB b t.list x5) t2 (by rw [HL2.out]; exact HK2.out) HT2.out.1.2.1 x5 (by rw [HL2.out]; exact HE.out.2.1) _ HT2.out.1.1.1).mono ?_
        rintro e w7 ⟨rfl, hs⟩
        have hs' := hs
        rw [HL2.out, HE.out.1] at hs
        obtain ⟨t3, h3l, h3k, h3⟩ := HT2.out.fst hs
        have HNF : Hid (g5 ∉ foot q mb th t2) := hid (fun hm => by have := HT2.out.2.1.2.1 g5 hm; have := HGS.out; omega)
        have HR8 := hid (by obtain ⟨_, _, _, _, _, _, hc⟩ := hs'; exact (HR7.out.chg hc HNF.out : Cs w7 g5 x5.cells))
        have HT3 := hid h3
        have HL3 := hid h3l
        have HK3 := hid h3k
        clear h3 h3l h3k hs hs' HT2 HL2 HK2 HR7 x0 x1 x2 x3 x4 x5_ x6 HNF
        generalize hb3 : leaB x5.i (joiB b t.list x5) (joiL b t.list x5) = b3 at HE HT3 HK3
        clear hb3
        have hal := (Below.refl w7.heap.size w7).alloc (Nat.le_refl _) (.cells #[.int .u64 x5.t, .int .u32 x5.r, .int .u32 x5.v, .int .i64 x5.i, .int .u64 x5.u, .int .u32 x5.s, .int .u32 x5.y] 29)
        have HV : Hid (Cs (w7.alloc (.cells #[.int .u64 x5.t, .int .u32 x5.r, .int .u32 x5.v, .int .i64 x5.i, .int .u64 x5.u, .int .u32 x5.s, .int .u32 x5.y] 29)) w7.heap.size x5.cells ∧ Cs (w7.alloc (.cells #[.int .u64 x5.t, .int .u32 x5.r, .int .u32 x5.v, .int .i64 x5.i, .int .u64 x5.u, .int .u32 x5.s, .int .u32 x5.y] 29)) g5 x5.cells) := hid ⟨Cs.new7 w7 29 x5, HR8.out.below hal⟩
        have HTZ := hid (HT3.out.below hal)
        clear hal HT3 HR8
        try unfold It.val
        go_upto_region 17 with fail
        generalize (w7.alloc (.cells #[.int .u64 x5.t, .int .u32 x5.r, .int .u32 x5.v, .int .i64 x5.i, .int .u64 x5.u, .int .u32 x5.s, .int .u32 x5.y] 29)) = w8 at HV HTZ ⊢
        generalize w7.heap.size = gv at HV ⊢
        obtain ⟨x0, x1, x2, x3, x4, x5_, x6⟩ := It.at x5 HV.out.1
        obtain ⟨y0, y1, y2, y3, y4, y5, y6⟩ := It.at x5 HV.out.2
        go_wp2_with fail
        refine (Queue.len q mb th (qM b3 t3.list) t3 _ HTZ.out.1.1.1).mono ?_
        rintro e w9 ⟨rfl, hb⟩
        rw [HL3.out]
        have HA := hid (HTZ.out.below hb)
        clear hb HTZ x0 x1 x2 x3 x4 x5_ x6 y0 y1 y2 y3 y4 y5 y6 HV
        go_wp2_with fail
        refine (Queue.len p mc tc (qM b u.list) u _ HA.out.1.1.2).mono ?_
        rintro e w10 ⟨rfl, hb⟩
        rw [HUL.out]
        have HB := hid (HA.out.below hb)
        clear hb HA
        go_wp2_with fail
        refine (Queue.len q mb th (qM b3 t3.list) t3 _ HB.out.1.1.1).mono ?_
        rintro e w11 ⟨rfl, hb⟩
        rw [HL3.out]
        have HA := hid (HB.out.below hb)
        clear hb HB
        by_cases h0 : 0 < t.list.length
        · have hb3 := HE.out.2.2 h0
          subst hb3
          clear HE
          have h0i : (0 : Int) < t.list.length := by omega
          go_wp2_with fail
          refine (Queue.now q mb th (qM b3 t3.list) t3 _ HA.out.1.1.1).mono ?_
          rintro e w12 ⟨rfl, hb⟩
          rw [qM_b]
          have HB := hid (HA.out.below hb)
          clear hb HA
          go_wp2_with fail
          refine (Queue.now p mc tc (qM b3 u.list) u _ HB.out.1.1.2).mono ?_
          rintro e w13 ⟨rfl, hb⟩
          rw [qM_b]
          have HA := hid (HB.out.below hb)
          clear hb HB h0i
          go_wp2_with fail
          refine (Queue.items p mc tc _ u _ HA.out.1.1.2).mono ?_
          rintro e w14 ⟨A3, c3, rfl, ho, hb⟩
          have HRD := hid ho.rdi
          have HTI := hid (HA.out.below hb)
          clear ho hb HA
          rw [HUL.out] at HRD ⊢
          have HN32 : Hid (t.list.length ≤ 32) := hid HQK.out.fw.few
          obtain ⟨n3, hn3⟩ : ∃ n3, n3 = t.list.length := ⟨_, rfl⟩
          have HN3 := hid hn3
          have hni3 : (n3 : Int) ≤ 32 := by have := HN32.out; omega
          rw [← hn3] at HRD ⊢
          clear hn3
          go_wp2_with fail
          go_loopg [106] n3 (fun s i wr => ∃ j : Nat, i = .int .i64 j ∧ j ≤ n3 ∧ s = n3 - j ∧ Below w14.heap.size w14 wr)
          case atStart => exact ⟨0, rfl, Nat.zero_le _, by omega, Below.refl _ _⟩
          case round =>
            obtain ⟨j, rfl, hj, hsj, hb⟩ := hrel
            have HSJ := hid hsj
            have HBJ := hid hb
            clear hsj hb
            by_cases hjn : j < n3
            · obtain ⟨bb2, off2, hA2, _, hc2⟩ := (HRD.out.below HBJ.out).2 0 (by omega)
              obtain ⟨p0, p1, p2, p3, p4, p5, p6⟩ := hc2 j hjn
              have HM : Hid (t.list.getD j It.zero ∈ t.list) := hid (by
                have hjl : j < t.list.length := by rw [← HN3.out]; exact hjn
                have e : t.list.getD j It.zero = t.list[j] := by simp [List.getD, hjl]
                rw [e]; exact List.getElem_mem _)
              generalize t.list.getD j It.zero = y at *
              subst hA2
              have hji : (j : Int) < n3 := by omega
              have hj0 : (0 : Int) ≤ j := by omega
              clear hc2
              have hal := (Below.refl wr.heap.size wr).alloc (Nat.le_refl _) (.cells #[.int .u64 y.t, .int .u32 y.r, .int .u32 y.v, .int .i64 y.i, .int .u64 y.u, .int .u32 y.s, .int .u32 y.y] 29)
              have HYV : Hid (Cs (wr.alloc (.cells #[.int .u64 y.t, .int .u32 y.r, .int .u32 y.v, .int .i64 y.i, .int .u64 y.u, .int .u32 y.s, .int .u32 y.y] 29)) wr.heap.size y.cells) := hid (Cs.new7 wr 29 y)
              have HBA := hid (below_on HBJ.out hal)
              clear hal
              go_upto_region 22 with fail
              generalize (wr.alloc (.cells #[.int .u64 y.t, .int .u32 y.r, .int .u32 y.v, .int .i64 y.i, .int .u64 y.u, .int .u32 y.s, .int .u32 y.y] 29)) = Wy at HYV HBA ⊢
              clear p0 p1 p2 p3 p4 p5 p6
              generalize wr.heap.size = gz at HYV ⊢
              have HTW := hid (HTI.out.below HBA.out)
              obtain ⟨LG, hL⟩ : ∃ LG, ((qM b3 t.list).lag y.pp).2 = LG := ⟨_, rfl⟩
              have HLL := hid hL
              clear hL
              obtain ⟨y0, y1, y2, y3, y4, y5, y6⟩ := It.at y HYV.out
              go_wp2_with fail
              have h8 := Queue.lag_yes p mc tc (qM b3 u.list) u y (by rw [HUL.out]; exact HM.out) _ HTW.out.1.1.2
              rw [HUL.out, HLL.out] at h8
              refine h8.mono ?_
              clear h8
              rintro e w15 ⟨rfl, hb⟩
              unfold wv
              have hal := (Below.refl w15.heap.size w15).alloc (Nat.le_refl _) (.cells #[.int .i64 (hiW LG), .int .u64 (loW LG)] 45)
              have HV1 : Hid (Cs (w15.alloc (.cells #[.int .i64 (hiW LG), .int .u64 (loW LG)] 45)) w15.heap.size [.int .i64 (hiW LG), .int .u64 (loW LG)]) := hid (Cs.new2 w15 45 _ _)
              have HBB := hid (below_on HBA.out (below_on hb hal))
              have HYB := hid ((HYV.out.below hb).below hal)
              clear hal hb HBA HYV HTW y0 y1 y2 y3 y4 y5 y6
              go_upto_region 23 with fail
              generalize (w15.alloc (.cells #[.int .i64 (hiW LG), .int .u64 (loW LG)] 45)) = W16 at HV1 HBB HYB ⊢
              generalize w15.heap.size = g15 at HV1 ⊢
              have HTW := hid (HTI.out.below HBB.out)
              obtain ⟨y0, y1, y2, y3, y4, y5, y6⟩ := It.at y HYB.out
              go_wp2_with fail
              have h8 := Queue.lag_yes q mb th (qM b3 t3.list) t3 y (by rw [HL3.out]; exact HM.out) _ HTW.out.1.1.1
              rw [HL3.out, HLL.out] at h8
              refine h8.mono ?_
              clear h8
              rintro e w17 ⟨rfl, hb⟩
              unfold wv
              have hal := (Below.refl w17.heap.size w17).alloc (Nat.le_refl _) (.cells #[.int .i64 (hiW LG), .int .u64 (loW LG)] 45)
              have HV2 : Hid (Cs (w17.alloc (.cells #[.int .i64 (hiW LG), .int .u64 (loW LG)] 45)) w17.heap.size [.int .i64 (hiW LG), .int .u64 (loW LG)]) := hid (Cs.new2 w17 45 _ _)
              have HBC := hid (below_on HBB.out (below_on hb hal))
              have HYC := hid ((HYB.out.below hb).below hal)
              have HVA := hid ((HV1.out.below hb).below hal)
              clear hal hb HBB HYB HV1 HTW y0 y1 y2 y3 y4 y5 y6
              go_upto_region 24 with fail
              generalize (w17.alloc (.cells #[.int .i64 (hiW LG), .int .u64 (loW LG)] 45)) = W18 at HV2 HVA HBC HYC ⊢
              generalize w17.heap.size = g17 at HV2 ⊢
              have HTW := hid (HTI.out.below HBC.out)
              obtain ⟨y0, y1, y2, y3, y4, y5, y6⟩ := It.at y HYC.out
              go_wp2_with fail
              refine (Queue.get_yes q mb th (qM b3 t3.list) t3 y (by rw [HL3.out]; exact HM.out) _ HTW.out.1.1.1).mono ?_
              rintro e w19 ⟨rfl, hb⟩
              try unfold It.val
              have hal := (Below.refl w19.heap.size w19).alloc (Nat.le_refl _) (.cells #[.int .u64 y.t, .int .u32 y.r, .int .u32 y.v, .int .i64 y.i, .int .u64 y.u, .int .u32 y.s, .int .u32 y.y] 29)
              have HXV : Hid (Cs (w19.alloc (.cells #[.int .u64 y.t, .int .u32 y.r, .int .u32 y.v, .int .i64 y.i, .int .u64 y.u, .int .u32 y.s, .int .u32 y.y] 29)) w19.heap.size y.cells) := hid (Cs.new7 w19 29 y)
              have HBD := hid (below_on HBC.out (below_on hb hal))
              have HYD := hid ((HYC.out.below hb).below hal)
              have HVC := hid ((HVA.out.below hb).below hal)
              have HVD := hid ((HV2.out.below hb).below hal)
              clear hal hb HBC HYC HVA HV2 HTW y0 y1 y2 y3 y4 y5 y6
              go_upto_region 25 with fail
              generalize (w19.alloc (.cells #[.int .u64 y.t, .int .u32 y.r, .int .u32 y.v, .int .i64 y.i, .int .u64 y.u, .int .u32 y.s, .int .u32 y.y] 29)) = W20 at HXV HVC HVD HBD HYD ⊢
              generalize w19.heap.size = g19 at HXV ⊢
              have v0 := HVC.out.at0
              have v1 := HVC.out.at1
              have v2 := HVD.out.at0
              have v3 := HVD.out.at1
              obtain ⟨y0, y1, y2, y3, y4, y5, y6⟩ := It.at y HYD.out
              obtain ⟨x0, x1, x2, x3, x4, x5_, x6⟩ := It.at y HXV.out
              go_wp2_with fail
              go_roundg (n3 - (j + 1))
              case measure => have := HSJ.out; omega
              case rel => exact ⟨j + 1, by go_num, by omega, rfl, HBD.out⟩
            · obtain rfl : j = n3 := by omega
              have hji : ¬ (j : Int) < j := by omega
              have HTE := hid (HTI.out.below HBJ.out)
              clear HTI HBJ HRD HN32 hni3
              have hqt : Qok b3 t3.list := by rw [HL3.out]; exact HK3.out
              have hqu : Qok b3 u.list := by rw [HUL.out]; exact HQK.out
              obtain ⟨x, hf, hx0, hx1⟩ := first_elig hqt.fw hqt.srt
              have HFX := hid hf
              obtain ⟨y, hf, hy0, hy1⟩ := first_elig hqu.fw hqu.srt
              have HFY := hid hf
              have HXY : Hid (y = x ∧ decide (0 < u.list.length) = decide (0 < t3.list.length)) := hid (by
                rw [HUL.out] at hy0 hy1
                rw [HL3.out] at hx0 hx1
                rw [HUL.out, HL3.out]
                refine ⟨?_, rfl⟩
                exact first_same HQK.out (hy1 h0) (hx1 h0))
              clear hf hx0 hx1 hy0 hy1 hqu hqt
              go_wp2_with fail
              refine (Queue.soonest q mb th _ t3 _ HTE.out.1.1.1).mono ?_
              rintro e w21 ⟨rfl, hb⟩
              rw [HFX.out]
              dsimp only
              generalize hok : decide (0 < t3.list.length) = ok at HXY ⊢
              clear hok
              have hal := (Below.refl w21.heap.size w21).alloc (Nat.le_refl _) (.cells #[.int .u64 x.t, .int .u32 x.r, .int .u32 x.v, .int .i64 x.i, .int .u64 x.u, .int .u32 x.s, .int .u32 x.y] 29)
              have HXV : Hid (Cs (w21.alloc (.cells #[.int .u64 x.t, .int .u32 x.r, .int .u32 x.v, .int .i64 x.i, .int .u64 x.u, .int .u32 x.s, .int .u32 x.y] 29)) w21.heap.size x.cells) := hid (Cs.new7 w21 29 x)
              have HTF := hid ((HTE.out.below hb).below hal)
              clear hal hb HTE
              try unfold It.val
              go_upto_region 29 with fail
              generalize (w21.alloc (.cells #[.int .u64 x.t, .int .u32 x.r, .int .u32 x.v, .int .i64 x.i, .int .u64 x.u, .int .u32 x.s, .int .u32 x.y] 29)) = W11 at HXV HTF ⊢
              generalize w21.heap.size = gx at HXV ⊢
              go_wp2_with fail
              refine (Queue.soonest p mc tc _ u _ HTF.out.1.1.2).mono ?_
              rintro e w22 ⟨rfl, hb⟩
              rw [HFY.out]
              dsimp only
              rw [HXY.out.1, HXY.out.2]
              have hal := (Below.refl w22.heap.size w22).alloc (Nat.le_refl _) (.cells #[.int .u64 x.t, .int .u32 x.r, .int .u32 x.v, .int .i64 x.i, .int .u64 x.u, .int .u32 x.s, .int .u32 x.y] 29)
              have HYV : Hid (Cs (w22.alloc (.cells #[.int .u64 x.t, .int .u32 x.r, .int .u32 x.v, .int .i64 x.i, .int .u64 x.u, .int .u32 x.s, .int .u32 x.y] 29)) w22.heap.size x.cells) := hid (Cs.new7 w22 29 x)
              have HXW := hid ((HXV.out.below hb).below hal)
              have HBF : Hid (Below w.heap.size w (w22.alloc (.cells #[.int .u64 x.t, .int .u32 x.r, .int .u32 x.v, .int .i64 x.i, .int .u64 x.u, .int .u32 x.s, .int .u32 x.y] 29))) := hid (below_on HB1.out ((HTF.out.below hb).below hal).2.2)
              clear hal hb HTF HXV HFX HFY HXY
              try unfold It.val
              go_upto_region 30 with fail
              generalize (w22.alloc (.cells #[.int .u64 x.t, .int .u32 x.r, .int .u32 x.v, .int .i64 x.i, .int .u64 x.u, .int .u32 x.s, .int .u32 x.y] 29)) = W12 at HYV HXW HBF ⊢
              generalize w22.heap.size = gy at HYV ⊢
              obtain ⟨x0, x1, x2, x3, x4, x5_, x6⟩ := It.at x HXW.out
              obtain ⟨y0, y1, y2, y3, y4, y5, y6⟩ := It.at x HYV.out
              go_wp2_with fail
              go_ret
              exact ⟨by cases ok <;> rfl, HBF.out⟩
        · have HZ0 : Hid (t.list.length = 0) := hid (by omega)
          clear HE
          have h0i : ¬ (0 : Int) < t.list.length := by omega
          clear h0
          go_wp2_with fail
          refine (Queue.items p mc tc _ u _ HA.out.1.1.2).mono ?_
          rintro e w14 ⟨A3, c3, rfl, ho, hb⟩
          have HRD := hid ho.rdi
          have HTI := hid (HA.out.below hb)
          clear ho hb HA
          rw [HUL.out] at HRD ⊢
          rw [HZ0.out]
          go_wp2_with fail
          go_loopg [106] 0 (fun s i wr => i = .int .i64 0 ∧ Below w14.heap.size w14 wr)
          case atStart => exact ⟨rfl, Below.refl _ _⟩
          case round =>
            obtain ⟨rfl, hb⟩ := hrel
            have HTE := hid (HTI.out.below hb)
            clear HTI hb HRD
            have hqt : Qok b3 t3.list := by rw [HL3.out]; exact HK3.out
            have hqu : Qok b u.list := by rw [HUL.out]; exact HQK.out
            obtain ⟨x, hf, hx0, hx1⟩ := first_elig hqt.fw hqt.srt
            have HFX := hid hf
            obtain ⟨y, hf, hy0, hy1⟩ := first_elig hqu.fw hqu.srt
            have HFY := hid hf
            have HXY : Hid (y = x ∧ decide (0 < u.list.length) = decide (0 < t3.list.length)) := hid (by
              rw [HUL.out] at hy0 hy1
              rw [HL3.out] at hx0 hx1
              rw [HUL.out, HL3.out]
              refine ⟨?_, rfl⟩
              rw [hx0 HZ0.out, hy0 HZ0.out])
            clear hf hx0 hx1 hy0 hy1 hqu hqt
            go_wp2_with fail
            refine (Queue.soonest q mb th _ t3 _ HTE.out.1.1.1).mono ?_
            rintro e w21 ⟨rfl, hb⟩
            rw [HFX.out]
            dsimp only
            generalize hok : decide (0 < t3.list.length) = ok at HXY ⊢
            clear hok
            have hal := (Below.refl w21.heap.size w21).alloc (Nat.le_refl _) (.cells #[.int .u64 x.t, .int .u32 x.r, .int .u32 x.v, .int .i64 x.i, .int .u64 x.u, .int .u32 x.s, .int .u32 x.y] 29)
            have HXV : Hid (Cs (w21.alloc (.cells #[.int .u64 x.t, .int .u32 x.r, .int .u32 x.v, .int .i64 x.i, .int .u64 x.u, .int .u32 x.s, .int .u32 x.y] 29)) w21.heap.size x.cells) := hid (Cs.new7 w21 29 x)
            have HTF := hid ((HTE.out.below hb).below hal)
            clear hal hb HTE
            try unfold It.val
            go_upto_region 29 with fail
            generalize (w21.alloc (.cells #[.int .u64 x.t, .int .u32 x.r, .int .u32 x.v, .int .i64 x.i, .int .u64 x.u, .int .u32 x.s, .int .u32 x.y] 29)) = W11 at HXV HTF ⊢
            generalize w21.heap.size = gx at HXV ⊢
            go_wp2_with fail
            refine (Queue.soonest p mc tc _ u _ HTF.out.1.1.2).mono ?_
            rintro e w22 ⟨rfl, hb⟩
            rw [HFY.out]
            dsimp only
            rw [HXY.out.1, HXY.out.2]
            have hal := (Below.refl w22.heap.size w22).alloc (Nat.le_refl _) (.cells #[.int .u64 x.t, .int .u32 x.r, .int .u32 x.v, .int .i64 x.i, .int .u64 x.u, .int .u32 x.s, .int .u32 x.y] 29)
            have HYV : Hid (Cs (w22.alloc (.cells #[.int .u64 x.t, .int .u32 x.r, .int .u32 x.v, .int .i64 x.i, .int .u64 x.u, .int .u32 x.s, .int .u32 x.y] 29)) w22.heap.size x.cells) := hid (Cs.new7 w22 29 x)
            have HXW := hid ((HXV.out.below hb).below hal)
            have HBF : Hid (Below w.heap.size w (w22.alloc (.cells #[.int .u64 x.t, .int .u32 x.r, .int .u32 x.v, .int .i64 x.i, .int .u64 x.u, .int .u32 x.s, .int .u32 x.y] 29))) := hid (below_on HB1.out ((HTF.out.below hb).below hal).2.2)
            clear hal hb HTF HXV HFX HFY HXY
            try unfold It.val
            go_upto_region 30 with fail
            generalize (w22.alloc (.cells #[.int .u64 x.t, .int .u32 x.r, .int .u32 x.v, .int .i64 x.i, .int .u64 x.u, .int .u32 x.s, .int .u32 x.y] 29)) = W12 at HYV HXW HBF ⊢
            generalize w22.heap.size = gy at HYV ⊢
            obtain ⟨x0, x1, x2, x3, x4, x5_, x6⟩ := It.at x HXW.out
            obtain ⟨y0, y1, y2, y3, y4, y5, y6⟩ := It.at x HYV.out
            go_wp2_with fail
            go_ret
            exact ⟨by cases ok <;> rfl, HBF.out⟩
      · have hs := HST.out
        unfold joiB joiL at hs
        rw [if_neg he, if_neg he] at hs
        obtain ⟨t2, h2l, _, h2⟩ := HTS.out.fst hs
        have HA := hid h2
        have HL2 := hid h2l
        clear h2 h2l hs HST HTS HNF HR7
        have he0 : ¬ joinC b t.list x5 = 0 := he
        clear he
        generalize joinC b t.list x5 = e9 at he0 ⊢
        go_wp2_with fail
        refine (Queue.len q mb th (qM b t2.list) t2 _ HA.out.1.1.1).mono ?_
        rintro e w7 ⟨rfl, hb⟩
        rw [HL2.out]
        have HB := hid (HA.out.below hb)
        clear hb HA
        go_wp2_with fail
        refine (Queue.len p mc tc (qM b u.list) u _ HB.out.1.1.2).mono ?_
        rintro e w8 ⟨rfl, hb⟩
        rw [HUL.out]
        have HA := hid (HB.out.below hb)
        clear hb HB
        go_wp2_with fail
        refine (Queue.now q mb th (qM b t2.list) t2 _ HA.out.1.1.1).mono ?_
        rintro e w9 ⟨rfl, hb⟩
        rw [qM_b]
        have HB := hid (HA.out.below hb)
        clear hb HA
        go_wp2_with fail
        refine (Queue.now p mc tc (qM b u.list) u _ HB.out.1.1.2).mono ?_
        rintro e w10 ⟨rfl, hb⟩
        rw [qM_b]
        have HA := hid (HB.out.below hb)
        clear hb HB
        have HF := hid (below_on HB1.out HA.out.2.2)
        clear HA
        go_wp2_with fail
        go_ret
        exact ⟨rfl, HF.out⟩
end
end Go.Proofs.YtjndmmcjobbcbaaGreatDoor

import Derived.Test.YtjndmmcjobbcbaaGreatDoorSetSleepsZ42
import Derived.Test.YtjndmmcjobbcbaaGreatDoorSeF
import Derived.Test.YtjndmmcjobbcbaaGreatDoorSetSleepsZ38
import Derived.Test.YtjndmmcjobbcbaaGreatDoorSetSleepsZ37
import Derived.Test.YtjndmmcjobbcbaaGreatDoorSpB
import Derived.Test.YtjndmmcjobbcbaaGreatDoorSetSleepsZ33
import Derived.Test.YtjndmmcjobbcbaaGreatDoorSetSleepsZ26
import Derived.Test.YtjndmmcjobbcbaaGreatDoorBits
import Derived.Test.YtjndmmcjobbcbaaGreatDoorSetSleepsZ0
import Derived.Test.YtjndmmcjobbcbaaGreatDoorWideD
import Derived.Test.YtjndmmcjobbcbaaGreatDoorSetSleepsZ31
import Derived.Test.YtjndmmcjobbcbaaGreatDoorTxt
import Derived.Test.YtjndmmcjobbcbaaGreatDoorSetSleepsZ10
import Derived.Test.YtjndmmcjobbcbaaGreatDoorRdu
import Derived.Test.YtjndmmcjobbcbaaGreatDoorSetSleepsZ8
import Derived.Test.YtjndmmcjobbcbaaGreatDoorSetSleepsZ11
import Derived.Test.YtjndmmcjobbcbaaGreatDoorSetSleepsZ14
import Derived.Test.YtjndmmcjobbcbaaGreatDoorCs
import Derived.Test.YtjndmmcjobbcbaaGreatDoorSetSleepsZ32
import Derived.Test.YtjndmmcjobbcbaaGreatDoorSetSleepsZ41
import Derived.Test.YtjndmmcjobbcbaaGreatDoorSetSleepsZ49
import Derived.Deep.LoopGhost
import Derived.Deep.QuietTactic
import Derived.BigQuiet
import Derived.Laws.OwnMore
import Derived.Deep.AppendLies
import Derived.Deep.RegionHeld3
import Derived.Deep.RegionWith
import Derived.OwnWalk
import Derived.Deep.CutBlock
import Derived.Deep.DeepCutAuto
import Derived.Shelf.Strings.Repeat
import Derived.Lib.ItoaNum
import Derived.OpenShut
import Derived.Deep.SlicePairs
namespace Go.Proofs.YtjndmmcjobbcbaaGreatDoor
open Go.RowKit
set_option maxRecDepth 100000
set_option maxHeartbeats 32000000
theorem ids_one {l : List Rq} (hn : (l.map (·.a.i)).Nodup) {x y : Rq} (hx : x ∈ l) (hy : y ∈ l) (h : x.a.i = y.a.i) : x = y := by
 induction l with
 | nil => cases hx
 | cons z l ih =>
  rw [List.map_cons, List.nodup_cons] at hn
  rcases List.mem_cons.1 hx with e | hx1
  ·rcases List.mem_cons.1 hy with e2 | hy1
   ·rw [e, e2]
   ·exact absurd (by rw [← e, h]; exact List.mem_map_of_mem (f := fun c : Rq => c.a.i) hy1) hn.1
  ·rcases List.mem_cons.1 hy with e2 | hy1
   ·exact absurd (by rw [← e2, ← h]; exact List.mem_map_of_mem (f := fun c : Rq => c.a.i) hx1) hn.1
   ·exact ih hn.2 hx1 hy1
def Zs (lq lr : List Rq) : Prop := ∀ r ∈ lq, ∃ x ∈ lr, x.a = r.a ∧ x.l = r.l ∧ x.s = r.s
theorem Zs.rou {lq lr : List Rq} (h : Zs lq lr) {x0 : Rq} (hn : (lr.map (·.a.i)).Nodup) (h0 : x0 ∈ lr) (z : Bool) : Zs lq (Rq.mk x0.a x0.l x0.s z :: lesR x0.a.i lr) := fun r hr => by
 obtain ⟨x, hx, e⟩ := h r hr
 by_cases hi : x.a.i = x0.a.i
 ·obtain rfl := ids_one hn hx h0 hi
  exact ⟨_, List.mem_cons_self, e⟩
 ·exact ⟨x, List.mem_cons_of_mem _ (List.mem_filter.2 ⟨hx, by simpa using hi⟩), e⟩
def NR (w0 : World) (S q mb th rb S1 q1 mb1 th1 rb1 : Nat) (b : Int) (L : List It) (lq : List Rq) (w : World) : Prop := ∃ t t1 lr, ((t.list = L ∧ t1.list = L) ∧ Zs lq lr) ∧ TS w0 S q mb th rb S1 q1 mb1 th1 rb1 b b t t1 lr lq w
theorem NR.step {w0 : World} {S q mb th rb S1 q1 mb1 th1 rb1 : Nat} {b : Int} {L : List It} {lq lr lr' : List Rq} {t t1 : Tr It} {w w' : World} (h1 : t1.list = L) (h2 : t.list = L) (h : TS w0 S q mb th rb S1 q1 mb1 th1 rb1 b b t t1 lr lq w) (s : StS S q mb th rb b t.list lr' t w w') (hz : Zs lq lr') : NR w0 S q mb th rb S1 q1 mb1 th1 rb1 b L lq w' := by
 obtain ⟨t', hl, hs⟩ := h.fst s
 exact ⟨t', t1, lr', ⟨⟨hl.trans h2, h1⟩, hz⟩, hs⟩
theorem first_same {b : Int} {l : List It} (h : Qok b l) {x y : It} (hx : IsBest x (l.filter (fun y => (qM b l).elig y.pp))) (hy : IsBest y (l.filter (fun y => (qM b l).elig y.pp))) : x = y := by
 obtain ⟨T, hn⟩ := h.nar
 exact bestQ_one (T := T) (fun a ha => hn a (List.mem_filter.1 ha).1) (List.Nodup.sublist (List.filter_sublist.map _) h.ids) hx hy
theorem Ssleep.away1 (c0 : Int) (A : Option Addr) (n c : Nat) (B : Option Addr) (m d : Nat) (hn : 40 < n) (hm : n ≤ 9223372036854775807) (w : World) : Calls Tryz.prog 11 #[.int .u64 c0, .slice A n c, .slice B m d] w fun e w' => e = .returned (.bool true) ∧ Below w.heap.size w w' := by
 have h1 : (40 : Int) < n := by omega
 go_enter Tryz.func11, Tryz.ntmps11
 go_wp2_with fail
 refine (aw16a _).mono ?_
 rintro e w1 ⟨rfl, hb⟩
 go_wp2_with fail
 go_ret
 exact ⟨rfl, hb⟩
theorem Ssleep.away2 (c0 : Int) (A : Option Addr) (n c : Nat) (B : Option Addr) (m d : Nat) (hn : ¬ 40 < n) (hm : 40 < m) (w : World) : Calls Tryz.prog 11 #[.int .u64 c0, .slice A n c, .slice B m d] w fun e w' => e = .returned (.bool true) ∧ Below w.heap.size w w' := by
 have h1 : ¬ (40 : Int) < n := by omega
 have h2 : (40 : Int) < m := by omega
 go_enter Tryz.func11, Tryz.ntmps11
 go_wp2_with fail
 refine (aw16a _).mono ?_
 rintro e w1 ⟨rfl, hb⟩
 go_wp2_with fail
 go_ret
 exact ⟨rfl, hb⟩
section
attribute [local go_sem] Item.eqB
theorem Ssleep.law (c0 : Int) (A : Option Addr) (n c : Nat) (l : List (Int × Rq)) (B : Option Addr) (m d5 : Nat) (zs : List Int) (w : World) (w0 : (Lit.int .u64 c0).wf = true) (h : (RdT w A n l ∧ InT l) ∧ n ≤ 9223372036854775807) (g : (RdU .u8 w B m zs ∧ ∀ z ∈ zs, 0 ≤ z ∧ z ≤ 255) ∧ m ≤ 9223372036854775807) (_ : Tab10 w.heap.size w) : Calls Tryz.prog 11 #[.int .u64 c0, .slice A n c, .slice B m d5] w fun e w' => e = .returned (.bool true) ∧ Below w.heap.size w w' := by
 by_cases hn : 40 < n
 ·exact Ssleep.away1 c0 A n c B m d5 hn h.2 w
 by_cases hm : 40 < m
 ·exact Ssleep.away2 c0 A n c B m d5 hn hm w
 have hT : IsT c0 := bounds_u64 w0
 have HIN := hid h.1.2
 have HINZ := hid g.1.2
 have hni : (n : Int) ≤ 40 := by omega
 have hn40 : ¬ (40 : Int) < n := by omega
 have hmi : (m : Int) ≤ 40 := by omega
 have hm40 : ¬ (40 : Int) < m := by omega
 have HR := hid h.1.1
 have HRZ := hid g.1.1
 clear h g w0
 go_enter Tryz.func11, Tryz.ntmps11
 go_wp2_with fail
 refine (aw16a _).mono ?_
 rintro e w1 ⟨rfl, hb⟩
 have HR1 := hid (HR.out.below hb)
 have HRZ1 := hid (HRZ.out.below hb)
 have HB1 := hid hb
 clear hb HR HRZ
 go_wp2_with fail
 refine (Set.new c0 hT _).mono ?_
 rintro e w2 ⟨S, q, mb, th, rb, rfl, hq, hf, hb⟩
 have HX2 := hid (NB.made hq hf hb)
 clear hq hf hb
 go_wp2_with fail
 go_loopg [42] n (fun s i wr => ∃ k : Nat, i = .int .i64 k ∧ k ≤ n ∧ s = n - k ∧ NB w1 S q mb th rb wr)
 case atStart => exact ⟨0, rfl, Nat.zero_le _, by omega, HX2.out⟩
 case round =>
  obtain ⟨k, rfl, hk, hs, hx⟩ := hrel
  have HS := hid hs
  obtain ⟨b, t, lq, hti⟩ := hx
  have HTI := hid hti
  have HBW := hid hti.2.2
  clear hs hti
  by_cases hkn : k < n
  ·obtain ⟨bb, off, hA, _, hc⟩ := (HR1.out.below HBW.out).2 0 (by omega)
   obtain ⟨d0, hrg⟩ := hc k hkn
   obtain ⟨p0, p1, p2, p3, p4, p5, p6, p7, p8, p9⟩ := Rq.of _ hrg
   have HP : Hid ((0 ≤ (l.getD k (0, Rq.no)).1 ∧ (l.getD k (0, Rq.no)).1 ≤ 255) ∧ (l.getD k (0, Rq.no)).2.In) := hid (by
    have hkl : k < l.length := by have := HR1.out.1; omega
    have e : l.getD k (0, Rq.no) = l[k] := by simp [List.getD, hkl]
    rw [e]; exact HIN.out _ (List.getElem_mem hkl))
   clear hrg hc
   generalize (l.getD k (0, Rq.no)) = pa at *
   obtain ⟨d, r⟩ := pa
   dsimp only at d0 p0 p1 p2 p3 p4 p5 p6 p7 p8 p9 HP
   subst hA
   have hki : (k : Int) < n := by omega
   have hk0 : (0 : Int) ≤ k := by omega
   simp only [Nat.add_assoc (off + k * 11), Nat.reduceAdd] at p1 p2 p3 p4 p5 p6 p7 p8 p9
   have hal := (Below.refl wr.heap.size wr).alloc (Nat.le_refl _) (.cells #[.int .u8 d, .int .u64 r.a.t, .int .u32 r.a.r, .int .u32 r.a.v, .int .i64 r.a.i, .int .u64 r.a.u, .int .u32 r.a.s, .int .u32 r.a.y, .int .u64 r.l, .int .u64 r.s, .bool r.z] 100)
   have HAC : Hid (Cs (wr.alloc (.cells #[.int .u8 d, .int .u64 r.a.t, .int .u32 r.a.r, .int .u32 r.a.v, .int .i64 r.a.i, .int .u64 r.a.u, .int .u32 r.a.s, .int .u32 r.a.y, .int .u64 r.l, .int .u64 r.s, .bool r.z] 100)) wr.heap.size (.int .u8 d :: r.cells)) := hid (Rb.new11 wr 100 d r)
   have HX3 : Hid (SAt (wr.alloc (.cells #[.int .u8 d, .int .u64 r.a.t, .int .u32 r.a.r, .int .u32 r.a.v, .int .i64 r.a.i, .int .u64 r.a.u, .int .u32 r.a.s, .int .u32 r.a.y, .int .u64 r.l, .int .u64 r.s, .bool r.z] 100)) S q mb th rb b t lq ∧ (∀ g ∈ sfoot S q mb th rb t, w1.heap.size ≤ g) ∧ Below w1.heap.size w1 (wr.alloc (.cells #[.int .u8 d, .int .u64 r.a.t, .int .u32 r.a.r, .int .u32 r.a.v, .int .i64 r.a.i, .int .u64 r.a.u, .int .u32 r.a.s, .int .u32 r.a.y, .int .u64 r.l, .int .u64 r.s, .bool r.z] 100))) := hid ⟨HTI.out.1.below hal, HTI.out.2.1, below_on HTI.out.2.2 hal⟩
   clear hal HTI
   go_upto_region 9 with fail
   generalize (wr.alloc (.cells #[.int .u8 d, .int .u64 r.a.t, .int .u32 r.a.r, .int .u32 r.a.v, .int .i64 r.a.i, .int .u64 r.a.u, .int .u32 r.a.s, .int .u32 r.a.y, .int .u64 r.l, .int .u64 r.s, .bool r.z] 100)) = W3 at HAC HX3 ⊢
   clear d0 p0 p1 p2 p3 p4 p5 p6 p7 p8 p9
   generalize wr.heap.size = ga at HAC ⊢
   obtain ⟨a0, a1, a2, a3, a4, a5, a6, a7, a8, a9, a10⟩ := Rb.at r HAC.out
   go_wp2_with fail
   ·refine (Set.exit S q mb th rb b t lq r.a.i HP.out.2.1.2.2.2.1 _ HX3.out.1).mono ?_
    rintro e w7 ⟨⟨x9, rfl⟩, hs⟩
    have HX4 := hid (NB.step HX3.out hs)
    clear hs a0 a1 a2 a3 a4 a5 a6 a7 a8 a9 a10
    try unfold Rq.val
    go_wp2_with fail
    go_roundg (n - (k + 1))
    case measure => have := HS.out; omega
    case rel => exact ⟨k + 1, by go_num, by omega, rfl, HX4.out⟩
   ·refine (Set.enter S q mb th rb b t lq r HP.out.2 _ HX3.out.1).mono ?_
    rintro e w7 ⟨rfl, hs⟩
    have HX4 := hid (NB.step HX3.out hs)
    clear hs a0 a1 a2 a3 a4 a5 a6 a7 a8 a9 a10
    generalize entC b t.list r = e9
    go_wp2_with fail
    go_roundg (n - (k + 1))
    case measure => have := HS.out; omega
    case rel => exact ⟨k + 1, by go_num, by omega, rfl, HX4.out⟩
  ·obtain rfl : k = n := by omega
   have hki : ¬ (k : Int) < k := by omega
   clear HIN HR1
   go_wp2_with fail
   refine (Set.clone S q mb th rb b t lq _ HTI.out.1).mono ?_
   rintro e w5 ⟨S1, q1, mb1, th1, rb1, t1, rfl, hl1, hcl, hg1, hb⟩
   have HNR : Hid (NR w1 S q mb th rb S1 q1 mb1 th1 rb1 b t.list lq w5) := hid ⟨t, t1, lq, ⟨⟨rfl, hl1⟩, fun r hr => ⟨r, hr, rfl, rfl, rfl⟩⟩, TS.made HTI.out.1 HTI.out.2.1 HTI.out.2.2 hcl hg1 hb⟩
   clear hcl hg1 hb hl1 HTI HBW
   generalize t.list = L at HNR
   clear t t1 HS
   go_wp2_with fail
   go_loopg [65] m (fun s i wr => ∃ k : Nat, i = .int .i64 k ∧ k ≤ m ∧ s = m - k ∧ NR w1 S q mb th rb S1 q1 mb1 th1 rb1 b L lq wr)
   case atStart => exact ⟨0, rfl, Nat.zero_le _, by omega, HNR.out⟩
   case round =>
    obtain ⟨k, rfl, hk, hs, hx⟩ := hrel
    have HS := hid hs
    obtain ⟨t, t1, lr, ⟨⟨ht, ht1⟩, hz⟩, hti⟩ := hx
    have HTI := hid hti
    have HTL := hid ht
    have HT1 := hid ht1
    have HZ := hid hz
    have HBW := hid hti.2.2
    clear hs hti ht ht1 hz
    by_cases hkm : k < m
    ·obtain ⟨bb, off, hA, _, hc⟩ := (HRZ1.out.below HBW.out).2 0 (by omega)
     have p0 := hc k hkm
     have HV : Hid (0 ≤ zs.getD k 0 ∧ zs.getD k 0 ≤ 255) := hid (by
      have hkl : k < zs.length := by have := HRZ1.out.1; omega
      have e : zs.getD k 0 = zs[k] := by simp [List.getD, hkl]
      rw [e]; exact HINZ.out _ (List.getElem_mem hkl))
     clear hc
     generalize zs.getD k 0 = v at *
     subst hA
     have hki : (k : Int) < m := by omega
     have hk0 : (0 : Int) ≤ k := by omega
     obtain ⟨K, hKe⟩ : ∃ K : Int, K = v % 40 := ⟨_, rfl⟩
     have HK : Hid (0 ≤ K ∧ K < 40) := hid (by have := HV.out; omega)
     have t1_ : Int.tmod v 40 = K := by rw [hKe, Int.tmod_eq_emod_of_nonneg HV.out.1]
     have t2_ : IntKind.u8.wrap K = K := by have := HK.out; rw [IntKind.wrap_u8]; omega
     have t3_ : IntKind.i64.wrap K = K := by have := HK.out; rw [IntKind.wrap_i64]; omega
     clear hKe
     by_cases hx : ∃ x ∈ lr, x.a.i = K
     ·obtain ⟨x, hx, rfl⟩ := hx
      have HX := hid hx
      clear hx
      have HXI := hid (HTI.out.1.1.2.1.2.2 x HX.out)
      go_wp2_with fail
      refine (Set.req_yes S q rb lr x HX.out HXI.out _ HTI.out.1.1.1.2).mono ?_
      rintro e w6 ⟨rfl, hb⟩
      have HTY := hid ((HTI.out.below hb).below ((Below.refl w6.heap.size w6).alloc (Nat.le_refl _) (.cells #[.int .u64 x.a.t, .int .u32 x.a.r, .int .u32 x.a.v, .int .i64 x.a.i, .int .u64 x.a.u, .int .u32 x.a.s, .int .u32 x.a.y, .int .u64 x.l, .int .u64 x.s, .bool x.z] 53)))
      clear hb p0 HTI
      try unfold Rq.val
      go_upto_region 18 with fail
      generalize (w6.alloc (.cells #[.int .u64 x.a.t, .int .u32 x.a.r, .int .u32 x.a.v, .int .i64 x.a.i, .int .u64 x.a.u, .int .u32 x.a.s, .int .u32 x.a.y, .int .u64 x.l, .int .u64 x.s, .bool x.z] 53)) = w7 at HTY ⊢
      skip
      go_wp2_with fail
      refine (Set.rouse_yes S q mb th rb b t lr x _ HX.out _ HTY.out.1.1).mono ?_
      rintro e w8 ⟨rfl, hs⟩
      have HX4 := hid (NR.step HT1.out HTL.out HTY.out hs (HZ.out.rou HTY.out.1.1.ids HX.out _))
      clear hs
      go_wp2_with fail
      go_roundg (m - (k + 1))
      case measure => have := HS.out; omega
      case rel => exact ⟨k + 1, by go_num, by omega, rfl, HX4.out⟩
     ·have HN : Hid (∀ x ∈ lr, x.a.i ≠ K) := hid (fun x hm e => hx ⟨x, hm, e⟩)
      clear hx
      go_wp2_with fail
      refine (Set.req_no S q rb lr K (by have := HK.out; omega) HN.out _ HTI.out.1.1.1.2).mono ?_
      rintro e w6 ⟨rfl, hb⟩
      have HTY := hid ((HTI.out.below hb).below ((Below.refl w6.heap.size w6).alloc (Nat.le_refl _) (.cells #[.int .u64 0, .int .u32 0, .int .u32 0, .int .i64 0, .int .u64 0, .int .u32 0, .int .u32 0, .int .u64 0, .int .u64 0, .bool false] 53)))
      clear hb p0 HTI
      try unfold Rq.val
      go_upto_region 18 with fail
      generalize (w6.alloc (.cells #[.int .u64 0, .int .u32 0, .int .u32 0, .int .i64 0, .int .u64 0, .int .u32 0, .int .u32 0, .int .u64 0, .int .u64 0, .bool false] 53)) = w7 at HTY ⊢
      skip
      go_wp2_with fail
      refine (Set.rouse_no S q mb th rb b t lr K _ (by have := HK.out; omega) HN.out _ HTY.out.1.1).mono ?_
      rintro e w8 ⟨rfl, hb⟩
      have HX4 : Hid (NR w1 S q mb th rb S1 q1 mb1 th1 rb1 b L lq w8) := hid ⟨t, t1, lr, ⟨⟨HTL.out, HT1.out⟩, HZ.out⟩, HTY.out.below hb⟩
      clear hb
      go_wp2_with fail
      go_roundg (m - (k + 1))
      case measure => have := HS.out; omega
      case rel => exact ⟨k + 1, by go_num, by omega, rfl, HX4.out⟩
    ·obtain rfl : k = m := by omega
     have hki : ¬ (k : Int) < k := by omega
     clear HINZ HRZ1
     go_upto_region 22 with fail
     have HNL : Hid (∀ wq, Below wr.heap.size wr wq → (Calls Tryz.prog 20 #[.pointer (some ⟨q, 0, none⟩)] wq (Ans (.int .i64 L.length) wq) ∧ Calls Tryz.prog 20 #[.pointer (some ⟨q1, 0, none⟩)] wq (Ans (.int .i64 L.length) wq))) := hid (fun wq h => by
      have h7 := Queue.len q mb th (qM b t.list) t wq (HTI.out.below h).1.1.1.1
      have h8 := Queue.len q1 mb1 th1 (qM b t1.list) t1 wq (HTI.out.below h).1.2.1.1
      rw [HTL.out] at h7
      rw [HT1.out] at h8
      exact ⟨h7, h8⟩)
     have hsT1 : Stays (fun wx => Below wr.heap.size wr wx) := fun _ _ h hb => below_on h hb
     refine wp_region_grow (S := fun wx => Below wr.heap.size wr wx) 24 (by kernel_rfl) (hsT1 _ _ ((Below.refl wr.heap.size wr)) (Below.refl _ _).drew) ?_
     refine tF 0 (hsT1) (fun _ h => h) ?_
     try simp only [tdy]
     refine tF 1 (hsT1) (fun _ h => h) ?_
     try simp only [tdy]
     refine tF 2 (hsT1) (fun _ h => h) ?_
     try simp only [tdy]
     refine tE 3 (v := ?_) (hsT1) (fun _ h => h) rfl (by kernel_rfl) (by rfl) ?_ ?_
     rotate_left
     ·intro wq hSw
      obtain ⟨s0, s1⟩ := (HTI.out.below hSw).1.1.1.2.at
      obtain ⟨u0, u1⟩ := (HTI.out.below hSw).1.2.1.2.at
      go_simp; try with_reducible rfl
     try simp only [tdy]
     refine tC 4 (v := .int .u64 b) (hsT1) (fun _ h => h) (fun wq hSw => Queue.now q mb th (qM b t.list) t wq (HTI.out.below hSw).1.1.1.1) ?_
     try simp only [tdy]
     refine tF 5 (hsT1) (fun _ h => h) ?_
     try simp only [tdy]
     refine tF 6 (hsT1) (fun _ h => h) ?_
     try simp only [tdy]
     refine tF 7 (hsT1) (fun _ h => h) ?_
     try simp only [tdy]
     refine tE 8 (v := ?_) (hsT1) (fun _ h => h) rfl (by kernel_rfl) (by rfl) ?_ ?_
     rotate_left
     ·intro wq hSw
      obtain ⟨s0, s1⟩ := (HTI.out.below hSw).1.1.1.2.at
      obtain ⟨u0, u1⟩ := (HTI.out.below hSw).1.2.1.2.at
      go_simp; try with_reducible rfl
     try simp only [tdy]
     refine tC 9 (v := .int .u64 b) (hsT1) (fun _ h => h) (fun wq hSw => Queue.now q1 mb1 th1 (qM b t1.list) t1 wq (HTI.out.below hSw).1.2.1.1) ?_
     try simp only [tdy]
     refine tF 10 (hsT1) (fun _ h => h) ?_
     try simp only [tdy]
     refine tF 11 (hsT1) (fun _ h => h) ?_
     try simp only [tdy]
     refine tF 12 (hsT1) (fun _ h => h) ?_
     try simp only [tdy]
     refine tF 13 (hsT1) (fun _ h => h) ?_
     try simp only [tdy]
     refine tF 14 (hsT1) (fun _ h => h) ?_
     try simp only [tdy]
     refine tE 15 (v := ?_) (hsT1) (fun _ h => h) rfl (by kernel_rfl) (by rfl) ?_ ?_
     rotate_left
     ·intro wq hSw
      obtain ⟨s0, s1⟩ := (HTI.out.below hSw).1.1.1.2.at
      obtain ⟨u0, u1⟩ := (HTI.out.below hSw).1.2.1.2.at
      go_simp; try with_reducible rfl
     try simp only [tdy]
     refine tC 16 (v := .int .i64 L.length) (hsT1) (fun _ h => h) (fun wq hSw => (HNL.out wq hSw).1) ?_
     try simp only [tdy]
     refine tF 17 (hsT1) (fun _ h => h) ?_
     try simp only [tdy]
     refine tF 18 (hsT1) (fun _ h => h) ?_
     try simp only [tdy]
     refine tF 19 (hsT1) (fun _ h => h) ?_
     try simp only [tdy]
     refine tE 20 (v := ?_) (hsT1) (fun _ h => h) rfl (by kernel_rfl) (by rfl) ?_ ?_
     rotate_left
     ·intro wq hSw
      obtain ⟨s0, s1⟩ := (HTI.out.below hSw).1.1.1.2.at
      obtain ⟨u0, u1⟩ := (HTI.out.below hSw).1.2.1.2.at
      go_simp; try with_reducible rfl
     try simp only [tdy]
     refine tC 21 (v := .int .i64 L.length) (hsT1) (fun _ h => h) (fun wq hSw => (HNL.out wq hSw).2) ?_
     try simp only [tdy]
     refine tF 22 (hsT1) (fun _ h => h) ?_
     try simp only [tdy]
     refine tF 23 (hsT1) (fun _ h => h) ?_
     try simp only [tdy]
     refine wpAnyE_done (by kernel_rfl) (fun wz hSz => ?_) _
     have HTK := hid (HTI.out.below hSz)
     clear hSz HNL HTI HBW
     go_wp2_with fail
     refine (Set.reqsS S1 q1 rb1 lq (by have := HTK.out.1.2.few; omega) HTK.out.1.2.ids _ HTK.out.1.2.1.2).mono ?_
     rintro e w9 ⟨A3, c3, rfl, ho, hb⟩
     have HRD := hid (ho.rd Rq.clen (by omega) Rq.no)
     have HTI := hid (HTK.out.below hb)
     clear ho hb HTK
     have HLN : Hid ((srtR lq).length ≤ 32) := hid (by rw [srtR_len]; exact HTI.out.1.2.few)
     obtain ⟨n3, hn3⟩ : ∃ n3, n3 = (srtR lq).length := ⟨_, rfl⟩
     have HN3 := hid hn3
     have hni3 : (n3 : Int) ≤ 32 := by have := HLN.out; omega
     rw [← hn3] at HRD ⊢
     clear hn3
     go_wp2_with fail
     go_loopg [124] n3 (fun s i wr => ∃ j : Nat, i = .int .i64 j ∧ j ≤ n3 ∧ s = n3 - j ∧ Below w9.heap.size w9 wr)
     case atStart => exact ⟨0, rfl, Nat.zero_le _, by omega, Below.refl _ _⟩
     case round =>
      obtain ⟨j, rfl, hj, hsj, hb⟩ := hrel
      have HSJ := hid hsj
      have HBJ := hid hb
      clear hsj hb
      by_cases hjn : j < n3
      ·obtain ⟨bb2, off2, hA2, _, hc2⟩ := (HRD.out.below HBJ.out).2 (by omega)
       obtain ⟨p0, p1, p2, p3, p4, p5, p6, p7, p8, p9⟩ := Rq.of _ (hc2 j hjn)
       have HM : Hid ((srtR lq).getD j Rq.no ∈ lq) := hid (by
        have hjl : j < (srtR lq).length := by rw [← HN3.out]; exact hjn
        have e : (srtR lq).getD j Rq.no = (srtR lq)[j] := by simp [List.getD, hjl]
        rw [e]; exact srtR_mem.1 (List.getElem_mem _))
       generalize (srtR lq).getD j Rq.no = y at *
       subst hA2
       have hji : (j : Int) < n3 := by omega
       have hj0 : (0 : Int) ≤ j := by omega
       clear hc2
       have HMY : Hid (y.a ∈ L ∧ ∃ x ∈ lr, x.a = y.a ∧ x.l = y.l ∧ x.s = y.s) := hid ⟨by rw [← HT1.out]; exact HTI.out.1.2.2.1.2.1.mem_iff.1 (List.mem_map_of_mem (f := fun c : Rq => c.a) HM.out), HZ.out y HM.out⟩
       have hal := (Below.refl wr.heap.size wr).alloc (Nat.le_refl _) (.cells #[.int .u64 y.a.t, .int .u32 y.a.r, .int .u32 y.a.v, .int .i64 y.a.i, .int .u64 y.a.u, .int .u32 y.a.s, .int .u32 y.a.y, .int .u64 y.l, .int .u64 y.s, .bool y.z] 53)
       have HYV : Hid (Cs (wr.alloc (.cells #[.int .u64 y.a.t, .int .u32 y.a.r, .int .u32 y.a.v, .int .i64 y.a.i, .int .u64 y.a.u, .int .u32 y.a.s, .int .u32 y.a.y, .int .u64 y.l, .int .u64 y.s, .bool y.z] 53)) wr.heap.size y.cells) := hid (Rq.new10 wr 53 y)
       have HBA := hid (below_on HBJ.out hal)
       clear hal
       go_upto_region 27 with fail
       generalize (wr.alloc (.cells #[.int .u64 y.a.t, .int .u32 y.a.r, .int .u32 y.a.v, .int .i64 y.a.i, .int .u64 y.a.u, .int .u32 y.a.s, .int .u32 y.a.y, .int .u64 y.l, .int .u64 y.s, .bool y.z] 53)) = Wy at HYV HBA ⊢
       clear p0 p1 p2 p3 p4 p5 p6 p7 p8 p9
       generalize wr.heap.size = gz at HYV ⊢
       have HTW := hid (HTI.out.below HBA.out)
       obtain ⟨LG, hL⟩ : ∃ LG, ((qM b L).lag y.a.pp).2 = LG := ⟨_, rfl⟩
       have HLL := hid hL
       clear hL
       have HQL : Hid (∀ wq, Below Wy.heap.size Wy wq → (Calls Tryz.prog 23 #[.pointer (some ⟨q, 0, none⟩), .int .i64 y.a.i] wq (Ans (.tuple #[wv LG, .int .i64 0]) wq) ∧ Calls Tryz.prog 23 #[.pointer (some ⟨q1, 0, none⟩), .int .i64 y.a.i] wq (Ans (.tuple #[wv LG, .int .i64 0]) wq))) := hid (fun wq h => ⟨by
         have h8 := Queue.lag_yes q mb th (qM b t.list) t y.a (by rw [HTL.out]; exact HMY.out.1) wq (HTW.out.below h).1.1.1.1
         rw [HTL.out, HLL.out] at h8
         exact h8, by
         have h8 := Queue.lag_yes q1 mb1 th1 (qM b t1.list) t1 y.a (by rw [HT1.out]; exact HMY.out.1) wq (HTW.out.below h).1.2.1.1
         rw [HT1.out, HLL.out] at h8
         exact h8⟩)
       unfold wv at HQL
       have hsT2 : Stays (fun wx => Below Wy.heap.size Wy wx) := fun _ _ h hb => below_on h hb
       refine wp_region_grow (S := fun wx => Below Wy.heap.size Wy wx) 14 (by kernel_rfl) (hsT2 _ _ ((Below.refl Wy.heap.size Wy)) (Below.refl _ _).drew) ?_
       refine tF 0 (hsT2) (fun _ h => h) ?_
       try simp only [tdy]
       refine tF 1 (hsT2) (fun _ h => h) ?_
       try simp only [tdy]
       refine tF 2 (hsT2) (fun _ h => h) ?_
       try simp only [tdy]
       refine tE 3 (v := ?_) (hsT2) (fun _ h => h) rfl (by kernel_rfl) (by rfl) ?_ ?_
       rotate_left
       ·intro wq hSw
        obtain ⟨s0, s1⟩ := (HTW.out.below hSw).1.1.1.2.at
        obtain ⟨u0, u1⟩ := (HTW.out.below hSw).1.2.1.2.at
        obtain ⟨y0, y1, y2, y3, y4, y5, y6, y7, y8, y9⟩ := Rq.at y (HYV.out.below hSw)
        go_simp; try with_reducible rfl
       try simp only [tdy]
       refine tF 4 (hsT2) (fun _ h => h) ?_
       try simp only [tdy]
       refine tF 5 (hsT2) (fun _ h => h) ?_
       try simp only [tdy]
       refine tE 6 (v := ?_) (hsT2) (fun _ h => h) rfl (by kernel_rfl) (by rfl) ?_ ?_
       rotate_left
       ·intro wq hSw
        obtain ⟨s0, s1⟩ := (HTW.out.below hSw).1.1.1.2.at
        obtain ⟨u0, u1⟩ := (HTW.out.below hSw).1.2.1.2.at
        obtain ⟨y0, y1, y2, y3, y4, y5, y6, y7, y8, y9⟩ := Rq.at y (HYV.out.below hSw)
        go_simp; try with_reducible rfl
       try simp only [tdy]
       refine tC 7 (v := (.tuple #[.agg #[.int .i64 (hiW LG), .int .u64 (loW LG)], .int .i64 0])) (hsT2) (fun _ h => h) (fun wq hSw => (HQL.out wq hSw).1) ?_
       try simp only [tdy]
       refine tF 8 (hsT2) (fun _ h => h) ?_
       try simp only [tdy]
       refine tF 9 (hsT2) (fun _ h => h) ?_
       try simp only [tdy]
       refine tF 10 (hsT2) (fun _ h => h) ?_
       try simp only [tdy]
       refine wpAnyE_alloc (i := 11) (fun wx g => Cs wx g [.int .i64 0, .int .u64 0] ∧ Wy.heap.size ≤ g) rfl (by kernel_rfl) (by decide) (by rfl) (hsT2) (fun _ h => h) (fun g => fun _ _ h hb => ⟨h.1.below hb, h.2⟩) (fun wq hSw => ?_) (fun gA => ?_)
       ·exact ⟨_, by go_simp; (try with_reducible rfl), (Below.refl _ _).alloc (Nat.le_refl _) _, Cs.new2 _ _ _ _, hSw.size⟩
       try simp only [tdy]
       refine wpAnyE_store (i := 12) (fun wx => Below Wy.heap.size Wy wx ∧ (Cs wx gA [.int .i64 (hiW LG), .int .u64 (loW LG)] ∧ Wy.heap.size ≤ gA)) 45 [.int .i64 (hiW LG), .int .u64 (loW LG)] [.int .i64 0, .int .u64 0] gA infoWide (.tmp 18) (.tmp 137) rfl rfl (by kernel_rfl) (by decide) (by rfl) ?sv3a ?sv3b ?sv3c ?sv3d ?sv3e (fun _ h => h.2.1) (fun _ h => ⟨below_sets h.2.2 _ _ h.1, Cs.putL _ 0 h.2.1 (by simp), h.2.2⟩) (fun _ h => h.1) ((fun _ _ h hb => ⟨below_on h.1 hb, h.2.1.below hb, h.2.2⟩)) ?sv3f
       case sv3a => rfl
       case sv3b => rfl
       case sv3c => rfl
       case sv3d => rfl
       case sv3e => rfl
       try simp only [tdy]
       refine tF 13 ((fun _ _ h hb => ⟨below_on h.1 hb, h.2.1.below hb, h.2.2⟩)) (fun _ h => h.1) ?_
       try simp only [tdy]
       refine wpAnyE_done (by kernel_rfl) (fun wz hSz => ?_) _
       have HV1 := hid hSz.2.1
       have HB8 := hid hSz.1
       clear hSz
       generalize gA = g18 at HV1 ⊢
       generalize wz = W8 at HV1 HB8 ⊢
       go_upto_region 28 with fail
       have hsT4 : Stays (fun wx => Below W8.heap.size W8 wx) := fun _ _ h hb => below_on h hb
       refine wp_region_grow (S := fun wx => Below W8.heap.size W8 wx) 14 (by kernel_rfl) (hsT4 _ _ ((Below.refl W8.heap.size W8)) (Below.refl _ _).drew) ?_
       refine tF 0 (hsT4) (fun _ h => h) ?_
       try simp only [tdy]
       refine tF 1 (hsT4) (fun _ h => h) ?_
       try simp only [tdy]
       refine tF 2 (hsT4) (fun _ h => h) ?_
       try simp only [tdy]
       refine tE 3 (v := ?_) (hsT4) (fun _ h => h) rfl (by kernel_rfl) (by rfl) ?_ ?_
       rotate_left
       ·intro wq hSw
        obtain ⟨s0, s1⟩ := (HTW.out.below (below_on HB8.out hSw)).1.1.1.2.at
        obtain ⟨u0, u1⟩ := (HTW.out.below (below_on HB8.out hSw)).1.2.1.2.at
        obtain ⟨y0, y1, y2, y3, y4, y5, y6, y7, y8, y9⟩ := Rq.at y (HYV.out.below (below_on HB8.out hSw))
        go_simp; try with_reducible rfl
       try simp only [tdy]
       refine tF 4 (hsT4) (fun _ h => h) ?_
       try simp only [tdy]
       refine tF 5 (hsT4) (fun _ h => h) ?_
       try simp only [tdy]
       refine tE 6 (v := ?_) (hsT4) (fun _ h => h) rfl (by kernel_rfl) (by rfl) ?_ ?_
       rotate_left
       ·intro wq hSw
        obtain ⟨s0, s1⟩ := (HTW.out.below (below_on HB8.out hSw)).1.1.1.2.at
        obtain ⟨u0, u1⟩ := (HTW.out.below (below_on HB8.out hSw)).1.2.1.2.at
        obtain ⟨y0, y1, y2, y3, y4, y5, y6, y7, y8, y9⟩ := Rq.at y (HYV.out.below (below_on HB8.out hSw))
        go_simp; try with_reducible rfl
       try simp only [tdy]
       refine tC 7 (v := (.tuple #[.agg #[.int .i64 (hiW LG), .int .u64 (loW LG)], .int .i64 0])) (hsT4) (fun _ h => h) (fun wq hSw => (HQL.out wq (below_on HB8.out hSw)).2) ?_
       try simp only [tdy]
       refine tF 8 (hsT4) (fun _ h => h) ?_
       try simp only [tdy]
       refine tF 9 (hsT4) (fun _ h => h) ?_
       try simp only [tdy]
       refine tF 10 (hsT4) (fun _ h => h) ?_
       try simp only [tdy]
       refine wpAnyE_alloc (i := 11) (fun wx g => Cs wx g [.int .i64 0, .int .u64 0] ∧ W8.heap.size ≤ g) rfl (by kernel_rfl) (by decide) (by rfl) (hsT4) (fun _ h => h) (fun g => fun _ _ h hb => ⟨h.1.below hb, h.2⟩) (fun wq hSw => ?_) (fun gA => ?_)
       ·exact ⟨_, by go_simp; (try with_reducible rfl), (Below.refl _ _).alloc (Nat.le_refl _) _, Cs.new2 _ _ _ _, hSw.size⟩
       try simp only [tdy]
       refine wpAnyE_store (i := 12) (fun wx => Below W8.heap.size W8 wx ∧ (Cs wx gA [.int .i64 (hiW LG), .int .u64 (loW LG)] ∧ W8.heap.size ≤ gA)) 45 [.int .i64 (hiW LG), .int .u64 (loW LG)] [.int .i64 0, .int .u64 0] gA infoWide (.tmp 20) (.tmp 148) rfl rfl (by kernel_rfl) (by decide) (by rfl) ?sv5a ?sv5b ?sv5c ?sv5d ?sv5e (fun _ h => h.2.1) (fun _ h => ⟨below_sets h.2.2 _ _ h.1, Cs.putL _ 0 h.2.1 (by simp), h.2.2⟩) (fun _ h => h.1) ((fun _ _ h hb => ⟨below_on h.1 hb, h.2.1.below hb, h.2.2⟩)) ?sv5f
       case sv5a => rfl
       case sv5b => rfl
       case sv5c => rfl
       case sv5d => rfl
       case sv5e => rfl
       try simp only [tdy]
       refine tF 13 ((fun _ _ h hb => ⟨below_on h.1 hb, h.2.1.below hb, h.2.2⟩)) (fun _ h => h.1) ?_
       try simp only [tdy]
       refine wpAnyE_done (by kernel_rfl) (fun wz hSz => ?_) _
       have HV2 := hid hSz.2.1
       have HV1' := hid (HV1.out.below hSz.1)
       have HB9 := hid (below_on HB8.out hSz.1)
       clear hSz HV1 HB8
       generalize gA = g20 at HV2 ⊢
       generalize wz = W9 at HV2 HV1' HB9 ⊢
       obtain ⟨_, ⟨xa, xl, xs, xz⟩, hx, e1, e2, e3⟩ := HMY.out
       simp only at e1 e2 e3
       subst e1 e2 e3
       have HX := hid hx
       have HXI := hid (HTI.out.1.1.2.1.2.2 _ hx)
       clear hx
       obtain ⟨y0, y1, y2, y3, y4, y5, y6, y7, y8, y9⟩ := Rq.at y (HYV.out.below HB9.out)
       go_wp2_with fail
       refine (Set.req_yes S q rb lr (Rq.mk y.a y.l y.s xz) HX.out HXI.out _ (HTW.out.below HB9.out).1.1.1.2).mono ?_
       rintro e w10 ⟨rfl, hb⟩
       have hal := (Below.refl w10.heap.size w10).alloc (Nat.le_refl _) (.cells #[.int .u64 y.a.t, .int .u32 y.a.r, .int .u32 y.a.v, .int .i64 y.a.i, .int .u64 y.a.u, .int .u32 y.a.s, .int .u32 y.a.y, .int .u64 y.l, .int .u64 y.s, .bool xz] 53)
       have HXV : Hid (Cs (w10.alloc (.cells #[.int .u64 y.a.t, .int .u32 y.a.r, .int .u32 y.a.v, .int .i64 y.a.i, .int .u64 y.a.u, .int .u32 y.a.s, .int .u32 y.a.y, .int .u64 y.l, .int .u64 y.s, .bool xz] 53)) w10.heap.size (Rq.mk y.a y.l y.s xz).cells) := hid (Rq.new10 w10 53 (Rq.mk y.a y.l y.s xz))
       have HVA := hid ((HV1'.out.below hb).below hal)
       have HVB := hid ((HV2.out.below hb).below hal)
       have HYC := hid (((HYV.out.below HB9.out).below hb).below hal)
       have HBE := hid (below_on HBA.out (below_on HB9.out (below_on hb hal)))
       clear hb hal HV1' HV2 y0 y1 y2 y3 y4 y5 y6 y7 y8 y9 HYV HB9
       try unfold Rq.val
       try dsimp only
       go_upto_region 30 with fail
       generalize (w10.alloc (.cells #[.int .u64 y.a.t, .int .u32 y.a.r, .int .u32 y.a.v, .int .i64 y.a.i, .int .u64 y.a.u, .int .u32 y.a.s, .int .u32 y.a.y, .int .u64 y.l, .int .u64 y.s, .bool xz] 53)) = W10 at HXV HVA HVB HYC HBE ⊢
       generalize w10.heap.size = gx at HXV ⊢
       have v0 := HVA.out.at0
       have v1 := HVA.out.at1
       have v2 := HVB.out.at0
       have v3 := HVB.out.at1
       obtain ⟨y0, y1, y2, y3, y4, y5, y6, y7, y8, y9⟩ := Rq.at y HYC.out
       obtain ⟨x0, x1, x2, x3, x4, x5, x6, x7, x8, x9⟩ := Rq.at _ HXV.out
       dsimp only at x0 x1 x2 x3 x4 x5 x6 x7 x8 x9
       go_wp2_with fail
       go_roundg (n3 - (j + 1))
       case measure => have := HSJ.out; omega
       case rel => exact ⟨j + 1, by go_num, by omega, rfl, HBE.out⟩
      ·obtain rfl : j = n3 := by omega
       have hji : ¬ (j : Int) < j := by omega
       clear HRD HLN HN3
       have HTE := hid (HTI.out.below HBJ.out)
       clear HTI HBJ
       have hqt := HTE.out.1.1.2.1.1.1
       obtain ⟨x, hf, hx0, hx1⟩ := first_elig hqt.fw hqt.srt
       have HQT := hid hqt
       have HFX := hid hf
       have HX0 := hid hx0
       have HX1 := hid hx1
       have hqu := HTE.out.1.2.2.1.1.1
       obtain ⟨y, hf, hy0, hy1⟩ := first_elig hqu.fw hqu.srt
       have HFY := hid hf
       have HXY : Hid (y = x ∧ decide (0 < t1.list.length) = decide (0 < t.list.length)) := hid (by
        rw [HT1.out] at hy0 hy1
        rw [HTL.out] at hx0 hx1
        have hq := hqt
        rw [HTL.out] at hq
        rw [HTL.out, HT1.out]
        refine ⟨?_, rfl⟩
        by_cases h0 : 0 < L.length
        ·exact first_same hq (hy1 h0) (hx1 h0)
        ·rw [hx0 (by omega), hy0 (by omega)])
       clear hf hx0 hx1 hy0 hy1 hqu hqt HX0 HX1 HQT
       obtain ⟨u0, v0⟩ := HTE.out.1.1.1.2.at
       go_wp2_with fail
       refine (Queue.soonest q mb th (qM b t.list) t _ HTE.out.1.1.1.1).mono ?_
       rintro e w11 ⟨rfl, hb⟩
       rw [HFX.out]
       clear u0 v0
       dsimp only
       generalize hok : decide (0 < t.list.length) = ok at HXY ⊢
       clear hok
       have hal := (Below.refl w11.heap.size w11).alloc (Nat.le_refl _) (.cells #[.int .u64 x.t, .int .u32 x.r, .int .u32 x.v, .int .i64 x.i, .int .u64 x.u, .int .u32 x.s, .int .u32 x.y] 29)
       have HXV : Hid (Cs (w11.alloc (.cells #[.int .u64 x.t, .int .u32 x.r, .int .u32 x.v, .int .i64 x.i, .int .u64 x.u, .int .u32 x.s, .int .u32 x.y] 29)) w11.heap.size x.cells) := hid (Cs.new7 w11 29 x)
       have HTF := hid ((HTE.out.below hb).below hal)
       clear hal hb HTE
       try unfold It.val
       go_upto_region 34 with fail
       generalize (w11.alloc (.cells #[.int .u64 x.t, .int .u32 x.r, .int .u32 x.v, .int .i64 x.i, .int .u64 x.u, .int .u32 x.s, .int .u32 x.y] 29)) = W11 at HXV HTF ⊢
       generalize w11.heap.size = gx at HXV ⊢
       obtain ⟨u0, v0⟩ := HTF.out.1.2.1.2.at
       go_wp2_with fail
       refine (Queue.soonest q1 mb1 th1 (qM b t1.list) t1 _ HTF.out.1.2.1.1).mono ?_
       rintro e w12 ⟨rfl, hb⟩
       rw [HFY.out]
       clear u0 v0
       dsimp only
       rw [HXY.out.1, HXY.out.2]
       have hal := (Below.refl w12.heap.size w12).alloc (Nat.le_refl _) (.cells #[.int .u64 x.t, .int .u32 x.r, .int .u32 x.v, .int .i64 x.i, .int .u64 x.u, .int .u32 x.s, .int .u32 x.y] 29)
       have HYV : Hid (Cs (w12.alloc (.cells #[.int .u64 x.t, .int .u32 x.r, .int .u32 x.v, .int .i64 x.i, .int .u64 x.u, .int .u32 x.s, .int .u32 x.y] 29)) w12.heap.size x.cells) := hid (Cs.new7 w12 29 x)
       have HXW := hid ((HXV.out.below hb).below hal)
       have HBF : Hid (Below w.heap.size w (w12.alloc (.cells #[.int .u64 x.t, .int .u32 x.r, .int .u32 x.v, .int .i64 x.i, .int .u64 x.u, .int .u32 x.s, .int .u32 x.y] 29))) := hid (below_on HB1.out ((HTF.out.below hb).below hal).2.2)
       clear hal hb HTF HXV HFX HFY HXY
       try unfold It.val
       go_upto_region 35 with fail
       generalize (w12.alloc (.cells #[.int .u64 x.t, .int .u32 x.r, .int .u32 x.v, .int .i64 x.i, .int .u64 x.u, .int .u32 x.s, .int .u32 x.y] 29)) = W12 at HYV HXW HBF ⊢
       generalize w12.heap.size = gy at HYV ⊢
       obtain ⟨x0, x1, x2, x3, x4, x5, x6⟩ := It.at x HXW.out
       obtain ⟨y0, y1, y2, y3, y4, y5, y6⟩ := It.at x HYV.out
       go_wp2_with fail
       go_ret
       exact ⟨by cases ok <;> rfl, HBF.out⟩
end
end Go.Proofs.YtjndmmcjobbcbaaGreatDoor

import Derived.Test.YtjchnkmolhgpmaaGreatDoorSettleShiftsZ42
import Derived.Test.YtjchnkmolhgpmaaGreatDoorSettleShiftsZ41
import Derived.Test.YtjchnkmolhgpmaaGreatDoorSettleShiftsZ36
import Derived.Test.YtjchnkmolhgpmaaGreatDoorSettleShiftsZ50
import Derived.Test.YtjchnkmolhgpmaaGreatDoorTxt
namespace Go.Proofs.YtjchnkmolhgpmaaGreatDoor
open Go.RowKit
set_option maxRecDepth 100000
set_option maxHeartbeats 32000000
theorem Gn.new13 (w : World) (T : TypeId) (x : Gn) : Cs (w.alloc (.cells #[.int .i64 x.i, .int .i64 (hiW x.g), .int .u64 (loW x.g), .int .u64 x.r.a.t, .int .u32 x.r.a.r, .int .u32 x.r.a.v, .int .i64 x.r.a.i, .int .u64 x.r.a.u, .int .u32 x.r.a.s, .int .u32 x.r.a.y, .int .u64 x.r.l, .int .u64 x.r.s, .bool x.r.z] T)) w.heap.size x.cells := Cs.alloc_new w T x.cells
theorem Gn.of {w : World} {g o : Nat} (x : Gn) (h : w.rangeAt g o x.cells) : w.cell? ⟨g, o, none⟩ = some (.int .i64 x.i) ∧ w.cell? ⟨g, o + 1, none⟩ = some (.int .i64 (hiW x.g)) ∧ w.cell? ⟨g, o + 2, none⟩ = some (.int .u64 (loW x.g)) ∧ w.cell? ⟨g, o + 3, none⟩ = some (.int .u64 x.r.a.t) ∧ w.cell? ⟨g, o + 4, none⟩ = some (.int .u32 x.r.a.r) ∧ w.cell? ⟨g, o + 5, none⟩ = some (.int .u32 x.r.a.v) ∧ w.cell? ⟨g, o + 6, none⟩ = some (.int .i64 x.r.a.i) ∧ w.cell? ⟨g, o + 7, none⟩ = some (.int .u64 x.r.a.u) ∧ w.cell? ⟨g, o + 8, none⟩ = some (.int .u32 x.r.a.s) ∧ w.cell? ⟨g, o + 9, none⟩ = some (.int .u32 x.r.a.y) ∧ w.cell? ⟨g, o + 10, none⟩ = some (.int .u64 x.r.l) ∧ w.cell? ⟨g, o + 11, none⟩ = some (.int .u64 x.r.s) ∧ w.cell? ⟨g, o + 12, none⟩ = some (.bool x.r.z) :=
 ⟨h 0 _ rfl, h 1 _ rfl, h 2 _ rfl, h 3 _ rfl, h 4 _ rfl, h 5 _ rfl, h 6 _ rfl, h 7 _ rfl, h 8 _ rfl, h 9 _ rfl, h 10 _ rfl, h 11 _ rfl, h 12 _ rfl⟩
theorem Gn.at {w : World} {g : Nat} (x : Gn) (h : Cs w g x.cells) : w.cell? ⟨g, 0, none⟩ = some (.int .i64 x.i) ∧ w.cell? ⟨g, 1, none⟩ = some (.int .i64 (hiW x.g)) ∧ w.cell? ⟨g, 2, none⟩ = some (.int .u64 (loW x.g)) ∧ w.cell? ⟨g, 10, none⟩ = some (.int .u64 x.r.l) :=
 ⟨h.at0, (h 1 _ rfl).1, (h 2 _ rfl).1, (h 10 _ rfl).1⟩
theorem Sst.away (c0 by1 : Int) (A : Option Addr) (n c : Nat) (hn : 40 < n) (hm : n ≤ 9223372036854775807) (w : World) : Calls Tryz.prog 5 #[.int .u64 c0, .int .u64 by1, .slice A n c] w fun e w' => e = .returned (.bool true) ∧ Below w.heap.size w w' := by
 have h1 : (40 : Int) < n := by omega
 go_enter Tryz.func5, Tryz.ntmps5;go_wp2_with fail;refine (aw17a _).mono ?_;rintro e w1 ⟨rfl, hb⟩;go_wp2_with fail;go_ret
 exact ⟨rfl, hb⟩
theorem Sst.law (c0 by1 : Int) (A : Option Addr) (n c : Nat) (l : List (Int × Rq)) (w : World) (w0 : (Lit.int .u64 c0).wf = true) (wby : (Lit.int .u64 by1).wf = true) (h : (RdT w A n l ∧ InT l) ∧ n ≤ 9223372036854775807) (_ : Tab10 w.heap.size w) : Calls Tryz.prog 5 #[.int .u64 c0, .int .u64 by1, .slice A n c] w fun e w' => e = .returned (.bool true) ∧ Below w.heap.size w w' := by
 by_cases hn : 40 < n
 ·exact Sst.away c0 by1 A n c hn h.2 w
 have hT : IsT c0 := bounds_u64 w0;have HIN := hid h.1.2;have hni : (n : Int) ≤ 40 := by omega
 have hn40 : ¬ (40 : Int) < n := by omega
 have HR := hid h.1.1;clear h w0 wby;go_enter Tryz.func5, Tryz.ntmps5;go_wp2_with fail;refine (aw17a _).mono ?_;rintro e w1 ⟨rfl, hb⟩;have HR1 := hid (HR.out.below hb);have HB1 := hid hb;clear hb HR;go_wp2_with fail;refine (Set.new c0 hT _).mono ?_;rintro e w2 ⟨S, q, mb, th, rb, rfl, hq, hf, hb⟩;have HQ2 := hid (And.intro hq (And.intro hf hb));clear hq hf hb;go_wp2_with fail;refine (Set.new (IntKind.u64.wrap (c0 + by1)) (by unfold IsT; rw [IntKind.wrap_u64]; omega) _).mono ?_;rintro e w3 ⟨S', q', mb', th', rb', rfl, hq, hf, hb⟩;have HX2 := hid (NS.new c0 by1 _ S q mb th rb S' q' mb' th' rb' _ _ HQ2.out.1 HQ2.out.2.1 HQ2.out.2.2 hq hf hb);clear hq hf hb HQ2;go_wp2_with fail
 go_loopg [33] n (fun s i wr => ∃ k : Nat, i = .int .i64 k ∧ k ≤ n ∧ s = n - k ∧ NS w1 S q mb th rb S' q' mb' th' rb' by1 wr)
 case atStart => exact ⟨0, rfl, Nat.zero_le _, by omega, HX2.out⟩
 case round =>
  obtain ⟨k, rfl, hk, hs, hx⟩ := hrel;have HS := hid hs;obtain ⟨b, t, u, lq, hbu, hti⟩ := hx;have HBU := hid hbu;have HTI := hid hti;have HBW := hid hti.2.2;clear hs hbu hti;by_cases hkn : k < n
  ·obtain ⟨bb, off, hA, _, hc⟩ := (HR1.out.below HBW.out).2 0 (by omega);obtain ⟨d0, hrg⟩ := hc k hkn;obtain ⟨p0, p1, p2, p3, p4, p5, p6, p7, p8, p9⟩ := Rq.of _ hrg;have HP : Hid ((0 ≤ (l.getD k (0, Rq.no)).1 ∧ (l.getD k (0, Rq.no)).1 ≤ 255) ∧ (l.getD k (0, Rq.no)).2.In) := hid (by
    have hkl : k < l.length := by have := HR1.out.1; omega
    have e : l.getD k (0, Rq.no) = l[k] := by simp [List.getD, hkl]
    rw [e]; exact HIN.out _ (List.getElem_mem hkl))
   clear hrg hc;generalize (l.getD k (0, Rq.no)) = pa at *
   obtain ⟨d, r⟩ := pa;dsimp only at d0 p0 p1 p2 p3 p4 p5 p6 p7 p8 p9 HP;subst hA;have hki : (k : Int) < n := by omega
   have hk0 : (0 : Int) ≤ k := by omega
   simp only [Nat.add_assoc (off + k * 11), Nat.reduceAdd] at p1 p2 p3 p4 p5 p6 p7 p8 p9;have HSA : Hid (Rq.In (r.sh by1)) := hid (sh_in HP.out.2);have hal := (Below.refl wr.heap.size wr).alloc (Nat.le_refl _) (.cells #[.int .u8 d, .int .u64 r.a.t, .int .u32 r.a.r, .int .u32 r.a.v, .int .i64 r.a.i, .int .u64 r.a.u, .int .u32 r.a.s, .int .u32 r.a.y, .int .u64 r.l, .int .u64 r.s, .bool r.z] 71);have HAC : Hid (Cs (wr.alloc (.cells #[.int .u8 d, .int .u64 r.a.t, .int .u32 r.a.r, .int .u32 r.a.v, .int .i64 r.a.i, .int .u64 r.a.u, .int .u32 r.a.s, .int .u32 r.a.y, .int .u64 r.l, .int .u64 r.s, .bool r.z] 71)) wr.heap.size (.int .u8 d :: r.cells)) := hid (Ra.new11 wr 71 d r);have HX3 := hid (HTI.out.below hal);have HGA : Hid (∀ g, (g ∈ sfoot S q mb th rb t ∨ g ∈ sfoot S' q' mb' th' rb' u) → g < wr.heap.size) := hid (fun g hg => hg.elim (HTI.out.1.1.footlt g) (HTI.out.1.2.footlt g));have HGB := hid HBW.out.size;clear hal HTI;go_upto_region 10 with fail;generalize (wr.alloc (.cells #[.int .u8 d, .int .u64 r.a.t, .int .u32 r.a.r, .int .u32 r.a.v, .int .i64 r.a.i, .int .u64 r.a.u, .int .u32 r.a.s, .int .u32 r.a.y, .int .u64 r.l, .int .u64 r.s, .bool r.z] 71)) = W3 at HAC HX3 ⊢;clear d0 p0 p1 p2 p3 p4 p5 p6 p7 p8 p9;generalize wr.heap.size = ga at HAC HGA HGB ⊢;obtain ⟨a0, a1, a2, a3, a4, a5, a6, a7, a8, a9, a10⟩ := Ra.at r HAC.out;go_wp2_with fail;refine (Set.enter S q mb th rb b t lq r HP.out.2 _ HX3.out.1.1).mono ?_;rintro e w4 ⟨rfl, hs⟩;clear a0 a1 a2 a3 a4 a5 a6 a7 a8 a9 a10;obtain ⟨t4, h4l, h4⟩ := HX3.out.fst hs
   have HAC4 : Hid (Cs w4 ga (.int .u8 d :: r.cells)) := hid (by obtain ⟨_, _, _, _, hc⟩ := hs; exact HAC.out.chg hc (fun hm => by have := HGA.out _ (Or.inl (List.mem_cons_of_mem _ hm)); omega));have HG4 : Hid (ga < W3.heap.size ∧ W3.heap.size ≤ w4.heap.size) := hid ⟨HAC.out.lt, by obtain ⟨_, _, _, _, hc⟩ := hs; exact hc.size⟩;have H4 := hid h4;have H4L := hid h4l;clear h4 h4l hs HX3 HAC;generalize entC b t.list r = e9;obtain ⟨a0, a1, a2, a3, a4, a5, a6, a7, a8, a9, a10⟩ := Ra.at r HAC4.out;have hal := (Below.refl w4.heap.size w4).alloc (Nat.le_refl _) (.cells #[.int .u64 r.a.t, .int .u32 r.a.r, .int .u32 r.a.v, .int .i64 r.a.i, .int .u64 r.a.u, .int .u32 r.a.s, .int .u32 r.a.y, .int .u64 r.l, .int .u64 r.s, .bool r.z] 59);have HBC : Hid (Cs (w4.alloc (.cells #[.int .u64 r.a.t, .int .u32 r.a.r, .int .u32 r.a.v, .int .i64 r.a.i, .int .u64 r.a.u, .int .u32 r.a.s, .int .u32 r.a.y, .int .u64 r.l, .int .u64 r.s, .bool r.z] 59)) w4.heap.size r.cells) := hid (Rq.new10 w4 59 r);have H5 := hid (H4.out.below hal);clear hal HAC4;have HGC : Hid (∀ g, (g ∈ sfoot S q mb th rb t4 ∨ g ∈ sfoot S' q' mb' th' rb' u) → g < w4.heap.size) := hid (fun g hg => hg.elim (H4.out.1.1.footlt g) (H4.out.1.2.footlt g));have HGD := hid H4.out.2.2.size;go_upto_region 12 with fail;generalize (w4.alloc (.cells #[.int .u64 r.a.t, .int .u32 r.a.r, .int .u32 r.a.v, .int .i64 r.a.i, .int .u64 r.a.u, .int .u32 r.a.s, .int .u32 r.a.y, .int .u64 r.l, .int .u64 r.s, .bool r.z] 59)) = W5 at HBC H5 ⊢;clear a0 a1 a2 a3 a4 a5 a6 a7 a8 a9 a10 H4
   generalize w4.heap.size = gb at HBC HGC HGD ⊢;obtain ⟨a0, a1, a2, a3, a4, a5, a6, a7, a8, a9⟩ := Rq.at r HBC.out;go_wp2_with fail;refine (Item.shiftTo r.a (It.shift by1 r.a) by1 rfl _).mono ?_;rintro e w6 ⟨rfl, hb⟩;have HBC6 := hid (HBC.out.below hb);have H6 := hid (H5.out.below hb);clear hb a0 a1 a2 a3 a4 a5 a6 a7 a8 a9 HBC H5;have HT6 : Hid (w6.there gb 0 7) := hid (fun j hj => by have := HBC6.out.thereL j (by simp [Rq.cells]; omega); exact this);go_upto_region 13 with (first | ((with_reducible refine wpList_put_rowQ 57 (It.shift by1 r.a).cells infoItem rfl (.tmp 47) (.tmp 46) rfl gb 0 HT6.out ?qba ?qbb ?qbc ?qbd ?qbe); (case qba => rfl); (case qbb => rfl); (case qbc => rfl); (case qbd => rfl); (intro W7 hW7); (have HY7 := hid (show Cs W7 gb (r.sh by1).cells ∧ TS w1 S q mb th rb S' q' mb' th' rb' (entB b t.list r) (IntKind.u64.wrap (b + by1)) t4 u (entR b t.list lq r) (lq.map (Rq.sh by1)) W7 by (subst hW7; exact ⟨Cs.putL (It.shift by1 r.a).cells 0 HBC6.out (by simp [It.cells, Rq.cells]), H6.out.own (F := [gb]) (Chg.sets _ _ (Chg.refl _ _) (Or.inl (by simp))) (fun g hg f x y hcell => by simp at hg; subst hg; rw [HBC6.out.at0] at hcell; cases hcell) (fun g hg => by simp at hg; subst hg; exact ⟨fun hm => absurd (HGC.out _ (Or.inl hm)) (Nat.lt_irrefl _), fun hm => absurd (HGC.out _ (Or.inr hm)) (Nat.lt_irrefl _), HGD.out⟩)⟩))); (clear hW7)) | fail)
   clear H6 HBC6 HT6;obtain ⟨b0, b1, b2, b3, b4, b5, b6, b7, b8, b9⟩ := Rq.at (r.sh by1) HY7.out.1;go_wp2_with fail;have h7 := Set.enter S' q' mb' th' rb' (IntKind.u64.wrap (b + by1)) u (lq.map (Rq.sh by1)) (r.sh by1) HSA.out _ HY7.out.2.1.2;rw [HBU.out, (ent_sh b by1 t.list lq HP.out.2).1, (ent_sh b by1 t.list lq HP.out.2).2.1, (ent_sh b by1 t.list lq HP.out.2).2.2.1, (ent_sh b by1 t.list lq HP.out.2).2.2.2] at h7;refine h7.mono ?_;clear h7;rintro e w8 ⟨rfl, hs8⟩;obtain ⟨u1, g1, g2⟩ := HY7.out.2.snd hs8;have HX4 : Hid (NS w1 S q mb th rb S' q' mb' th' rb' by1 w8) := hid (NS.of ⟨⟨H4L.out, g1⟩, g2⟩);clear g1 g2 hs8 HY7 b0 b1 b2 b3 b4 b5 b6 b7 b8 b9;generalize entC b t.list r = e8;go_wp2_with fail;go_roundg (n - (k + 1))
   case measure => have := HS.out; omega
   case rel => exact ⟨k + 1, by go_num, by omega, rfl, HX4.out⟩
  ·obtain rfl : k = n := by omega
   have hki : ¬ (k : Int) < k := by omega
   clear HIN HR1;go_wp2_with fail;refine (Set.settle S q mb th rb b t lq _ HTI.out.1.1).mono ?_;rintro e w5 ⟨A1, c1, gs, b1, t1, l1, ts, rfl, hf, hp, hr, hg⟩;have HF := hid (And.intro hf.1.1 (And.intro hp (And.intro hr hg)));obtain ⟨t5, h5l, h5⟩ := HTI.out.fst (⟨t1, rfl, hf.2.1.1, hf.2.2.1, hf.2.2.2⟩ : StS S q mb th rb b1 t1.list l1 t wr w5);have HO1 := hid hf.2.1.2.1;have HT1 := hid (Sok.of HTI.out.1.1);have HT2 := hid (Sok.of HTI.out.1.2);have HK1 := hid hf.2.1.1.2.1.1.1;have H5 := hid h5;have H5L := hid h5l;have HGA : Hid (∀ g ∈ sfoot S' q' mb' th' rb' u, g < wr.heap.size) := hid HTI.out.1.2.footlt;clear hf hp hr hg h5 h5l HTI HBW HS;go_wp2_with fail;refine (Set.settle S' q' mb' th' rb' (IntKind.u64.wrap (b + by1)) u (lq.map (Rq.sh by1)) _ H5.out.1.2).mono ?_;rintro e w6 ⟨A2, c2, gs2, b2, u2, l2, ts2, rfl, hf, hp, hr, hg⟩;obtain ⟨u6, h6l, h6⟩ := H5.out.snd (⟨u2, rfl, hf.2.1.1, hf.2.2.1, hf.2.2.2⟩ : StS S' q' mb' th' rb' b2 u2.list l2 u w5 w6);have hfl := hf.1.1;rw [HBU.out] at hfl;have hs2 := HT2.out;rw [HBU.out] at hs2;obtain ⟨e1, e2, e3, e4⟩ := HF.out.1.both HT1.out HF.out.2.1 HF.out.2.2.1 HF.out.2.2.2 hfl hs2 hp hr hg;have HDU : Hid (dueI b2 u2 = dueI b1 t1) := hid (by rw [e2]; exact due_sh HK1.out e3);have HR1 := hid ((HO1.out.chg hf.2.2.2 (fun j hj hm => by have h1 := (HO1.out.rowGe j hj).1; have h2 := HGA.out j (List.mem_cons_of_mem _ hm); omega)).rd Gn.len (by decide) ⟨0, 0, Rq.no⟩);have HR2 := hid (hf.2.1.2.1.rd Gn.len (by decide) ⟨0, 0, Rq.no⟩);have H6 := hid h6;have HLN : Hid (gs.length ≤ 32) := hid (by have := hf.1.2.2; rw [e1, List.length_map] at this; omega)
   clear hf hp hr hg hfl hs2 h6 h6l HF HT1 HT2 HO1 HGA H5 H5L HK1;subst e1 e2;clear e3 e4;rw [HDU.out];rw [List.length_map] at HR2 ⊢;clear HDU;generalize dueI b1 t1 = who;go_upto_region 17 with fail;have hsT1 : Stays (fun wx => Below w6.heap.size w6 wx) := fun _ _ h hb => below_on h hb
   refine wp_region_grow (S := fun wx => Below w6.heap.size w6 wx) 25 (by kernel_rfl) (hsT1 _ _ ((Below.refl w6.heap.size w6)) (Below.refl _ _).drew) ?_;refine tF 0 (hsT1) (fun _ h => h) ?_;try simp only [tdy]
   refine tF 1 (hsT1) (fun _ h => h) ?_;try simp only [tdy]
   refine tF 2 (hsT1) (fun _ h => h) ?_;try simp only [tdy]
   refine tF 3 (hsT1) (fun _ h => h) ?_;try simp only [tdy]
   refine tF 4 (hsT1) (fun _ h => h) ?_;try simp only [tdy]
   refine tF 5 (hsT1) (fun _ h => h) ?_;try simp only [tdy]
   refine tF 6 (hsT1) (fun _ h => h) ?_;try simp only [tdy]
   refine tF 7 (hsT1) (fun _ h => h) ?_;try simp only [tdy]
   refine tF 8 (hsT1) (fun _ h => h) ?_;try simp only [tdy]
   refine tF 9 (hsT1) (fun _ h => h) ?_;try simp only [tdy]
   refine tF 10 (hsT1) (fun _ h => h) ?_;try simp only [tdy]
   refine tF 11 (hsT1) (fun _ h => h) ?_;try simp only [tdy]
   refine tF 12 (hsT1) (fun _ h => h) ?_;try simp only [tdy]
   refine tF 13 (hsT1) (fun _ h => h) ?_;try simp only [tdy]
   refine tE 14 (v := ?_) (hsT1) (fun _ h => h) rfl (by kernel_rfl) (by rfl) ?_ ?_;rotate_left
   ·intro wq hSw;obtain ⟨s0, s1⟩ := (H6.out.below hSw).1.1.1.2.at;obtain ⟨u0, u1⟩ := (H6.out.below hSw).1.2.1.2.at;go_simp; try with_reducible rfl
   try simp only [tdy]
   refine tC 15 (v := .int .u64 (IntKind.u64.wrap (b1 + by1))) (hsT1) (fun _ h => h) (fun wq hSw => Queue.now q' mb' th' (qM (IntKind.u64.wrap (b1 + by1)) u6.list) u6 wq (H6.out.below hSw).1.2.1.1) ?_;try simp only [tdy]
   refine tF 16 (hsT1) (fun _ h => h) ?_;try simp only [tdy]
   refine tF 17 (hsT1) (fun _ h => h) ?_;try simp only [tdy]
   refine tF 18 (hsT1) (fun _ h => h) ?_;try simp only [tdy]
   refine tE 19 (v := ?_) (hsT1) (fun _ h => h) rfl (by kernel_rfl) (by rfl) ?_ ?_;rotate_left
   ·intro wq hSw;obtain ⟨s0, s1⟩ := (H6.out.below hSw).1.1.1.2.at;obtain ⟨u0, u1⟩ := (H6.out.below hSw).1.2.1.2.at;go_simp; try with_reducible rfl
   try simp only [tdy]
   refine tC 20 (v := .int .u64 b1) (hsT1) (fun _ h => h) (fun wq hSw => Queue.now q mb th (qM b1 t5.list) t5 wq (H6.out.below hSw).1.1.1.1) ?_;try simp only [tdy]
   refine tF 21 (hsT1) (fun _ h => h) ?_;try simp only [tdy]
   refine tF 22 (hsT1) (fun _ h => h) ?_;try simp only [tdy]
   refine tF 23 (hsT1) (fun _ h => h) ?_;try simp only [tdy]
   refine tF 24 (hsT1) (fun _ h => h) ?_;try simp only [tdy]
   refine wpAnyE_done (by kernel_rfl) (fun wz hSz => ?_) _;have HX1 := hid (HR1.out.below hSz);have HX2 := hid (HR2.out.below hSz);have HBZ := hid (below_on HB1.out (H6.out.below hSz).2.2);clear hSz HR1 HR2 H6;obtain ⟨n3, hn3⟩ : ∃ n3, n3 = gs.length := ⟨_, rfl⟩
   have HN3 := hid hn3;have hni3 : (n3 : Int) ≤ 32 := by have := HLN.out; omega
   rw [← hn3] at HX1 HX2 ⊢;clear hn3;go_wp2_with fail
   go_loopg [89] n3 (fun s i wr => ∃ j : Nat, i = .int .i64 j ∧ j ≤ n3 ∧ s = n3 - j ∧ Below wz.heap.size wz wr)
   case atStart => exact ⟨0, rfl, Nat.zero_le _, by omega, Below.refl _ _⟩
   case round =>
    obtain ⟨j, rfl, hj, hsj, hb⟩ := hrel;have HSJ := hid hsj;have HBJ := hid hb;clear hsj hb;by_cases hjn : j < n3
    ·obtain ⟨bb2, off2, hA2, _, hc2⟩ := (HX1.out.below HBJ.out).2 (by omega);obtain ⟨p0, p1, p2, p3, p4, p5, p6, p7, p8, p9, p10, p11, p12⟩ := Gn.of _ (hc2 j hjn);obtain ⟨bb3, off3, hA3, _, hc3⟩ := (HX2.out.below HBJ.out).2 (by omega);have hq := hc3 j hjn;have e : (gs.map (Gn.sh by1)).getD j ⟨0, 0, Rq.no⟩ = (gs.getD j ⟨0, 0, Rq.no⟩).sh by1 := by
      have hjl : j < gs.length := by rw [← HN3.out]; exact hjn
      simp [List.getD, hjl]
     rw [e] at hq;clear e hc2 hc3;generalize gs.getD j ⟨0, 0, Rq.no⟩ = y at *
     subst hA2 hA3;have HQ := hid hq;clear hq;have hji : (j : Int) < n3 := by omega
     have hj0 : (0 : Int) ≤ j := by omega
     have hal := (Below.refl wr.heap.size wr).alloc (Nat.le_refl _) (.cells #[.int .i64 y.i, .int .i64 (hiW y.g), .int .u64 (loW y.g), .int .u64 y.r.a.t, .int .u32 y.r.a.r, .int .u32 y.r.a.v, .int .i64 y.r.a.i, .int .u64 y.r.a.u, .int .u32 y.r.a.s, .int .u32 y.r.a.y, .int .u64 y.r.l, .int .u64 y.r.s, .bool y.r.z] 61);have HYV : Hid (Cs (wr.alloc (.cells #[.int .i64 y.i, .int .i64 (hiW y.g), .int .u64 (loW y.g), .int .u64 y.r.a.t, .int .u32 y.r.a.r, .int .u32 y.r.a.v, .int .i64 y.r.a.i, .int .u64 y.r.a.u, .int .u32 y.r.a.s, .int .u32 y.r.a.y, .int .u64 y.r.l, .int .u64 y.r.s, .bool y.r.z] 61)) wr.heap.size y.cells) := hid (Gn.new13 wr 61 y);have HQW := hid (rangeB HQ.out hal);have HBA := hid (below_on HBJ.out hal);clear hal HQ;go_upto_region 22 with fail;generalize (wr.alloc (.cells #[.int .i64 y.i, .int .i64 (hiW y.g), .int .u64 (loW y.g), .int .u64 y.r.a.t, .int .u32 y.r.a.r, .int .u32 y.r.a.v, .int .i64 y.r.a.i, .int .u64 y.r.a.u, .int .u32 y.r.a.s, .int .u32 y.r.a.y, .int .u64 y.r.l, .int .u64 y.r.s, .bool y.r.z] 61)) = Wy at HYV HBA HQW ⊢;clear p0 p1 p2 p3 p4 p5 p6 p7 p8 p9 p10 p11 p12;generalize wr.heap.size = gz at HYV ⊢;have hsT2 : Stays (fun wx => Below Wy.heap.size Wy wx) := fun _ _ h hb => below_on h hb
     refine wp_region_grow (S := fun wx => Below Wy.heap.size Wy wx) 30 (by kernel_rfl) (hsT2 _ _ ((Below.refl Wy.heap.size Wy)) (Below.refl _ _).drew) ?_;refine tF 0 (hsT2) (fun _ h => h) ?_;try simp only [tdy]
     refine tE 1 (v := ?_) (hsT2) (fun _ h => h) rfl (by kernel_rfl) (by rfl) ?_ ?_;rotate_left
     ·intro wq hSw;obtain ⟨y0, y1, y2, y3⟩ := Gn.at y (HYV.out.below hSw);obtain ⟨x0, x1, x2, _, _, _, _, _, _, _, x3, _, _⟩ := Gn.of (y.sh by1) (rangeB HQW.out hSw);dsimp only [Gn.sh, Rq.sh] at x0 x1 x2 x3;go_simp; try with_reducible rfl
     try simp only [tdy]
     refine tF 2 (hsT2) (fun _ h => h) ?_;try simp only [tdy]
     refine tF 3 (hsT2) (fun _ h => h) ?_;try simp only [tdy]
     refine tF 4 (hsT2) (fun _ h => h) ?_;try simp only [tdy]
     refine tF 5 (hsT2) (fun _ h => h) ?_;try simp only [tdy]
     refine tE 6 (v := ?_) (hsT2) (fun _ h => h) rfl (by kernel_rfl) (by rfl) ?_ ?_;rotate_left
     ·intro wq hSw;obtain ⟨y0, y1, y2, y3⟩ := Gn.at y (HYV.out.below hSw);obtain ⟨x0, x1, x2, _, _, _, _, _, _, _, x3, _, _⟩ := Gn.of (y.sh by1) (rangeB HQW.out hSw);dsimp only [Gn.sh, Rq.sh] at x0 x1 x2 x3;go_simp; try with_reducible rfl
     try simp only [tdy]
     refine tF 7 (hsT2) (fun _ h => h) ?_;try simp only [tdy]
     refine tF 8 (hsT2) (fun _ h => h) ?_;try simp only [tdy]
     refine tF 9 (hsT2) (fun _ h => h) ?_;try simp only [tdy]
     refine tE 10 (v := ?_) (hsT2) (fun _ h => h) rfl (by kernel_rfl) (by rfl) ?_ ?_;rotate_left
     ·intro wq hSw;obtain ⟨y0, y1, y2, y3⟩ := Gn.at y (HYV.out.below hSw);obtain ⟨x0, x1, x2, _, _, _, _, _, _, _, x3, _, _⟩ := Gn.of (y.sh by1) (rangeB HQW.out hSw);dsimp only [Gn.sh, Rq.sh] at x0 x1 x2 x3;go_simp; try with_reducible rfl
     try simp only [tdy]
     refine tF 11 (hsT2) (fun _ h => h) ?_;try simp only [tdy]
     refine tF 12 (hsT2) (fun _ h => h) ?_;try simp only [tdy]
     refine tF 13 (hsT2) (fun _ h => h) ?_;try simp only [tdy]
     refine tF 14 (hsT2) (fun _ h => h) ?_;try simp only [tdy]
     refine tE 15 (v := ?_) (hsT2) (fun _ h => h) rfl (by kernel_rfl) (by rfl) ?_ ?_;rotate_left
     ·intro wq hSw;obtain ⟨y0, y1, y2, y3⟩ := Gn.at y (HYV.out.below hSw);obtain ⟨x0, x1, x2, _, _, _, _, _, _, _, x3, _, _⟩ := Gn.of (y.sh by1) (rangeB HQW.out hSw);dsimp only [Gn.sh, Rq.sh] at x0 x1 x2 x3;go_simp; try with_reducible rfl
     try simp only [tdy]
     refine tF 16 (hsT2) (fun _ h => h) ?_;try simp only [tdy]
     refine tF 17 (hsT2) (fun _ h => h) ?_;try simp only [tdy]
     refine tF 18 (hsT2) (fun _ h => h) ?_;try simp only [tdy]
     refine tF 19 (hsT2) (fun _ h => h) ?_;try simp only [tdy]
     refine tF 20 (hsT2) (fun _ h => h) ?_;try simp only [tdy]
     refine tE 21 (v := ?_) (hsT2) (fun _ h => h) rfl (by kernel_rfl) (by rfl) ?_ ?_;rotate_left
     ·intro wq hSw;obtain ⟨y0, y1, y2, y3⟩ := Gn.at y (HYV.out.below hSw);obtain ⟨x0, x1, x2, _, _, _, _, _, _, _, x3, _, _⟩ := Gn.of (y.sh by1) (rangeB HQW.out hSw);dsimp only [Gn.sh, Rq.sh] at x0 x1 x2 x3;go_simp; try with_reducible rfl
     try simp only [tdy]
     refine tF 22 (hsT2) (fun _ h => h) ?_;try simp only [tdy]
     refine tF 23 (hsT2) (fun _ h => h) ?_;try simp only [tdy]
     refine tF 24 (hsT2) (fun _ h => h) ?_;try simp only [tdy]
     refine tF 25 (hsT2) (fun _ h => h) ?_;try simp only [tdy]
     refine tF 26 (hsT2) (fun _ h => h) ?_;try simp only [tdy]
     refine tE 27 (v := ?_) (hsT2) (fun _ h => h) rfl (by kernel_rfl) (by rfl) ?_ ?_;rotate_left
     ·intro wq hSw;obtain ⟨y0, y1, y2, y3⟩ := Gn.at y (HYV.out.below hSw);obtain ⟨x0, x1, x2, _, _, _, _, _, _, _, x3, _, _⟩ := Gn.of (y.sh by1) (rangeB HQW.out hSw);dsimp only [Gn.sh, Rq.sh] at x0 x1 x2 x3;go_simp; try with_reducible rfl
     try simp only [tdy]
     refine tF 28 (hsT2) (fun _ h => h) ?_;try simp only [tdy]
     refine tF 29 (hsT2) (fun _ h => h) ?_;try simp only [tdy]
     refine wpAnyE_done (by kernel_rfl) (fun wz hSz => ?_) _;have HBE := hid (below_on HBA.out hSz);clear hSz HQW HYV;go_wp2_with fail;go_roundg (n3 - (j + 1))
     case measure => have := HSJ.out; omega
     case rel => exact ⟨j + 1, by go_num, by omega, rfl, HBE.out⟩
    ·obtain rfl : j = n3 := by omega
     have hji : ¬ (j : Int) < j := by omega
     go_wp2_with fail;go_ret
     exact ⟨rfl, below_on HBZ.out HBJ.out⟩
end Go.Proofs.YtjchnkmolhgpmaaGreatDoor

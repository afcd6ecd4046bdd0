import Derived.Test.YtjndmmcjobbcbaaGreatDoorSetShiftsZ40
import Derived.Test.YtjndmmcjobbcbaaGreatDoorSetShiftsZ42
import Derived.Test.YtjndmmcjobbcbaaGreatDoorSetShiftsZ38
import Derived.Test.YtjndmmcjobbcbaaGreatDoorSetShiftsZ29
import Derived.Test.YtjndmmcjobbcbaaGreatDoorSetShiftsZ36
import Derived.Test.YtjndmmcjobbcbaaGreatDoorSpB
import Derived.Test.YtjndmmcjobbcbaaGreatDoorSetShiftsZ32
import Derived.Test.YtjndmmcjobbcbaaGreatDoorSetShiftsZ25
import Derived.Test.YtjndmmcjobbcbaaGreatDoorBits
import Derived.Test.YtjndmmcjobbcbaaGreatDoorSetShiftsZ0
import Derived.Test.YtjndmmcjobbcbaaGreatDoorWideD
import Derived.Test.YtjndmmcjobbcbaaGreatDoorTxt
import Derived.Test.YtjndmmcjobbcbaaGreatDoorSetShiftsZ9
import Derived.Test.YtjndmmcjobbcbaaGreatDoorSetShiftsZ7
import Derived.Test.YtjndmmcjobbcbaaGreatDoorOpen
import Derived.Test.YtjndmmcjobbcbaaGreatDoorSetShiftsZ13
import Derived.Test.YtjndmmcjobbcbaaGreatDoorOpenN
import Derived.Test.YtjndmmcjobbcbaaGreatDoorCs
import Derived.Test.YtjndmmcjobbcbaaGreatDoorSetShiftsZ30
import Derived.Test.YtjndmmcjobbcbaaGreatDoorCkX
import Derived.Deep.DeepCutAuto
import Derived.Deep.LoopGhost
import Derived.Deep.QuietTactic
import Derived.BigQuiet
import Derived.Laws.OwnMore
import Derived.Deep.AppendLies
import Derived.Deep.RegionHeld3
import Derived.Deep.RegionWith
import Derived.OwnWalk
import Derived.Deep.CutBlock
import Derived.Shelf.Strings.Repeat
import Derived.Lib.ItoaNum
import Derived.OpenShut
import Derived.Deep.SlicePairs
namespace Go.Proofs.YtjndmmcjobbcbaaGreatDoor
open Go.RowKit
set_option maxRecDepth 100000
set_option maxHeartbeats 32000000
theorem Ra.new11 (w : World) (T : TypeId) (d : Int) (r : Rq) : Cs (w.alloc (.cells #[.int .u8 d, .int .u64 r.a.t, .int .u32 r.a.r, .int .u32 r.a.v, .int .i64 r.a.i, .int .u64 r.a.u, .int .u32 r.a.s, .int .u32 r.a.y, .int .u64 r.l, .int .u64 r.s, .bool r.z] T)) w.heap.size (.int .u8 d :: r.cells) := Cs.alloc_new w T (.int .u8 d :: r.cells)
theorem Ra.at {w : World} {g : Nat} {d : Int} (r : Rq) (h : Cs w g (.int .u8 d :: r.cells)) : w.cell? ⟨g, 0, none⟩ = some (.int .u8 d) ∧ w.cell? ⟨g, 1, none⟩ = some (.int .u64 r.a.t) ∧ w.cell? ⟨g, 2, none⟩ = some (.int .u32 r.a.r) ∧ w.cell? ⟨g, 3, none⟩ = some (.int .u32 r.a.v) ∧ w.cell? ⟨g, 4, none⟩ = some (.int .i64 r.a.i) ∧ w.cell? ⟨g, 5, none⟩ = some (.int .u64 r.a.u) ∧ w.cell? ⟨g, 6, none⟩ = some (.int .u32 r.a.s) ∧ w.cell? ⟨g, 7, none⟩ = some (.int .u32 r.a.y) ∧ w.cell? ⟨g, 8, none⟩ = some (.int .u64 r.l) ∧ w.cell? ⟨g, 9, none⟩ = some (.int .u64 r.s) ∧ w.cell? ⟨g, 10, none⟩ = some (.bool r.z) :=
 ⟨h.at0, (h 1 _ rfl).1, (h 2 _ rfl).1, (h 3 _ rfl).1, (h 4 _ rfl).1, (h 5 _ rfl).1, (h 6 _ rfl).1, (h 7 _ rfl).1, (h 8 _ rfl).1, (h 9 _ rfl).1, (h 10 _ rfl).1⟩
theorem TS.own {F : List Nat} {w0 : World} {S q mb th rb S' q' mb' th' rb' : Nat} {b c : Int} {t u : Tr It} {l k : List Rq} {w w' : World} (h : TS w0 S q mb th rb S' q' mb' th' rb' b c t u l k w) (hc : Chg F w w') (hF : ∀ g ∈ F, ∀ f a c, w.cell? ⟨g, 0, none⟩ ≠ some (.func f a c)) (hd : ∀ g ∈ F, g ∉ sfoot S q mb th rb t ∧ g ∉ sfoot S' q' mb' th' rb' u ∧ w0.heap.size ≤ g) : TS w0 S q mb th rb S' q' mb' th' rb' b c t u l k w' :=
 ⟨⟨h.1.1.away hc hF (fun g hg hm => (hd g hm).1 hg), h.1.2.away hc hF (fun g hg hm => (hd g hm).2.1 hg)⟩, h.2.1, Below.chg h.2.2 hc (fun g hg => (hd g hg).2.2)⟩
def U1 (w0 : World) (S q mb th rb S' q' mb' th' rb' : Nat) (b c : Int) (L : List It) (l k : List Rq) (u t : Tr It) (w : World) : Prop := t.list = L ∧ TS w0 S q mb th rb S' q' mb' th' rb' b c t u l k w
theorem U1.st (w0 : World) (S q mb th rb S' q' mb' th' rb' : Nat) (b c : Int) (L : List It) (l k : List Rq) (u t : Tr It) : Stays (U1 w0 S q mb th rb S' q' mb' th' rb' b c L l k u t) := fun _ _ h hb => ⟨h.1, TS.below h.2 hb⟩
def U2 (w0 : World) (S q mb th rb S' q' mb' th' rb' : Nat) (b d : Int) (L : List It) (l : List Rq) (t u : Tr It) (w : World) : Prop := (t.list = L ∧ u.list = L.map (It.shift d)) ∧ TS w0 S q mb th rb S' q' mb' th' rb' b (IntKind.u64.wrap (b + d)) t u l (l.map (Rq.sh d)) w
theorem U2.st (w0 : World) (S q mb th rb S' q' mb' th' rb' : Nat) (b d : Int) (L : List It) (l : List Rq) (t u : Tr It) : Stays (U2 w0 S q mb th rb S' q' mb' th' rb' b d L l t u) := fun _ _ h hb => ⟨h.1, TS.below h.2 hb⟩
def NS (w0 : World) (S q mb th rb S' q' mb' th' rb' : Nat) (d : Int) (w : World) : Prop := ∃ b t u l, u.list = t.list.map (It.shift d) ∧ TS w0 S q mb th rb S' q' mb' th' rb' b (IntKind.u64.wrap (b + d)) t u l (l.map (Rq.sh d)) w
theorem NS.of {w0 : World} {S q mb th rb S' q' mb' th' rb' : Nat} {b d : Int} {L : List It} {l : List Rq} {t u : Tr It} {w : World} (h : U2 w0 S q mb th rb S' q' mb' th' rb' b d L l t u w) : NS w0 S q mb th rb S' q' mb' th' rb' d w := ⟨b, t, u, l, by rw [h.1.1]; exact h.1.2, h.2⟩
theorem NS.new (c d : Int) (w : World) (S q mb th rb S' q' mb' th' rb' : Nat) (w1 w2 : World) (h : SAt w1 S q mb th rb c .nil []) (h0 : ∀ g ∈ S :: rb :: foot q mb th .nil, w.heap.size ≤ g) (hb : Below w.heap.size w w1) (h' : SAt w2 S' q' mb' th' rb' (IntKind.u64.wrap (c + d)) .nil []) (h1 : ∀ g ∈ S' :: rb' :: foot q' mb' th' .nil, w1.heap.size ≤ g) (hb' : Below w1.heap.size w1 w2) : NS w S q mb th rb S' q' mb' th' rb' d w2 :=
 ⟨c, .nil, .nil, [], rfl, TS.made h h0 hb h' h1 hb'⟩
theorem Sshift.away (c0 by1 : Int) (A : Option Addr) (n c : Nat) (hn : 40 < n) (hm : n ≤ 9223372036854775807) (w : World) : Calls Tryz.prog 13 #[.int .u64 c0, .int .u64 by1, .slice A n c] w fun e w' => e = .returned (.bool true) ∧ Below w.heap.size w w' := by
 have h1 : (40 : Int) < n := by omega
 go_enter Tryz.func13, Tryz.ntmps13;go_wp2_with fail;refine (aw16a _).mono ?_;rintro e w1 ⟨rfl, hb⟩;go_wp2_with fail;go_ret
 exact ⟨rfl, hb⟩
section
attribute [local go_sem] Item.eqB
theorem Sshift.law (c0 by1 : Int) (A : Option Addr) (n c : Nat) (l : List (Int × Rq)) (w : World) (w0 : (Lit.int .u64 c0).wf = true) (wby : (Lit.int .u64 by1).wf = true) (h : (RdT w A n l ∧ InT l) ∧ n ≤ 9223372036854775807) (_ : Tab10 w.heap.size w) : Calls Tryz.prog 13 #[.int .u64 c0, .int .u64 by1, .slice A n c] w fun e w' => e = .returned (.bool true) ∧ Below w.heap.size w w' := by
 by_cases hn : 40 < n
 ·exact Sshift.away c0 by1 A n c hn h.2 w
 have hT : IsT c0 := bounds_u64 w0;have HIN := hid h.1.2;have hni : (n : Int) ≤ 40 := by omega
 have hn40 : ¬ (40 : Int) < n := by omega
 have HR := hid h.1.1;clear h w0 wby;go_enter Tryz.func13, Tryz.ntmps13;go_wp2_with fail;refine (aw16a _).mono ?_;rintro e w1 ⟨rfl, hb⟩;have HR1 := hid (HR.out.below hb);have HB1 := hid hb;clear hb HR;go_wp2_with fail;refine (Set.new c0 hT _).mono ?_;rintro e w2 ⟨S, q, mb, th, rb, rfl, hq, hf, hb⟩;have HQ2 := hid (And.intro hq (And.intro hf hb));clear hq hf hb;go_wp2_with fail;refine (Set.new (IntKind.u64.wrap (c0 + by1)) (by unfold IsT; rw [IntKind.wrap_u64]; omega) _).mono ?_;rintro e w3 ⟨S', q', mb', th', rb', rfl, hq, hf, hb⟩;have HX2 := hid (NS.new c0 by1 _ S q mb th rb S' q' mb' th' rb' _ _ HQ2.out.1 HQ2.out.2.1 HQ2.out.2.2 hq hf hb);clear hq hf hb HQ2;go_wp2_with fail
 go_loopg [33] n (fun s i wr => ∃ k : Nat, i = .int .i64 k ∧ k ≤ n ∧ s = n - k ∧ NS w1 S q mb th rb S' q' mb' th' rb' by1 wr)
 case atStart => exact ⟨0, rfl, Nat.zero_le _, by omega, HX2.out⟩
 case round =>
  obtain ⟨k, rfl, hk, hs, hx⟩ := hrel;have HS := hid hs;obtain ⟨b, t, u, lq, hbu, hti⟩ := hx;have HBU := hid hbu;have HTI := hid hti;have HBW := hid hti.2.2;clear hs hbu hti;by_cases hkn : k < n
  ·obtain ⟨bb, off, hA, _, hc⟩ := (HR1.out.below HBW.out).2 0 (by omega);obtain ⟨d0, hrg⟩ := hc k hkn;obtain ⟨p0, p1, p2, p3, p4, p5, p6, p7, p8, p9⟩ := Rq.of _ hrg;have HP : Hid ((0 ≤ (l.getD k (0, Rq.no)).1 ∧ (l.getD k (0, Rq.no)).1 ≤ 255) ∧ (l.getD k (0, Rq.no)).2.In) := hid (by
    have hkl : k < l.length := by have := HR1.out.1; omega
    have e : l.getD k (0, Rq.no) = l[k] := by simp [List.getD, hkl]
    rw [e]; exact HIN.out _ (List.getElem_mem hkl))
   clear hrg hc;generalize (l.getD k (0, Rq.no)) = pa at *
   obtain ⟨d, r⟩ := pa;dsimp only at d0 p0 p1 p2 p3 p4 p5 p6 p7 p8 p9 HP;subst hA;have hki : (k : Int) < n := by omega
   have hk0 : (0 : Int) ≤ k := by omega
   simp only [Nat.add_assoc (off + k * 11), Nat.reduceAdd] at p1 p2 p3 p4 p5 p6 p7 p8 p9;have HSA : Hid (Rq.In (r.sh by1)) := hid (sh_in HP.out.2);have hal := (Below.refl wr.heap.size wr).alloc (Nat.le_refl _) (.cells #[.int .u8 d, .int .u64 r.a.t, .int .u32 r.a.r, .int .u32 r.a.v, .int .i64 r.a.i, .int .u64 r.a.u, .int .u32 r.a.s, .int .u32 r.a.y, .int .u64 r.l, .int .u64 r.s, .bool r.z] 100);have HAC : Hid (Cs (wr.alloc (.cells #[.int .u8 d, .int .u64 r.a.t, .int .u32 r.a.r, .int .u32 r.a.v, .int .i64 r.a.i, .int .u64 r.a.u, .int .u32 r.a.s, .int .u32 r.a.y, .int .u64 r.l, .int .u64 r.s, .bool r.z] 100)) wr.heap.size (.int .u8 d :: r.cells)) := hid (Ra.new11 wr 100 d r);have HX3 := hid (HTI.out.below hal);have HGA : Hid (∀ g, (g ∈ sfoot S q mb th rb t ∨ g ∈ sfoot S' q' mb' th' rb' u) → g < wr.heap.size) := hid (fun g hg => hg.elim (HTI.out.1.1.footlt g) (HTI.out.1.2.footlt g));have HGB := hid HBW.out.size;clear hal HTI;go_upto_region 10 with fail;generalize hW3 : (wr.alloc (.cells #[.int .u8 d, .int .u64 r.a.t, .int .u32 r.a.r, .int .u32 r.a.v, .int .i64 r.a.i, .int .u64 r.a.u, .int .u32 r.a.s, .int .u32 r.a.y, .int .u64 r.l, .int .u64 r.s, .bool r.z] 100)) = W3 at HAC HX3 ⊢;have HSZ3 : Hid (wr.heap.size < W3.heap.size) := hid HAC.out.lt;clear d0 p0 p1 p2 p3 p4 p5 p6 p7 p8 p9 hW3;generalize wr.heap.size = ga at HAC HGA HSZ3 HGB ⊢;obtain ⟨a0, a1, a2, a3, a4, a5, a6, a7, a8, a9, a10⟩ := Ra.at r HAC.out;have hal := (Below.refl W3.heap.size W3).alloc (Nat.le_refl _) (.cells #[.int .u64 r.a.t, .int .u32 r.a.r, .int .u32 r.a.v, .int .i64 r.a.i, .int .u64 r.a.u, .int .u32 r.a.s, .int .u32 r.a.y, .int .u64 r.l, .int .u64 r.s, .bool r.z] 53)
   have HBC : Hid (Cs (W3.alloc (.cells #[.int .u64 r.a.t, .int .u32 r.a.r, .int .u32 r.a.v, .int .i64 r.a.i, .int .u64 r.a.u, .int .u32 r.a.s, .int .u32 r.a.y, .int .u64 r.l, .int .u64 r.s, .bool r.z] 53)) W3.heap.size r.cells) := hid (Rq.new10 W3 53 r);have HAC4 := hid (HAC.out.below hal);have HX4 := hid (HX3.out.below hal);clear hal HAC HX3;go_upto_region 11 with fail;generalize hW4 : (W3.alloc (.cells #[.int .u64 r.a.t, .int .u32 r.a.r, .int .u32 r.a.v, .int .i64 r.a.i, .int .u64 r.a.u, .int .u32 r.a.s, .int .u32 r.a.y, .int .u64 r.l, .int .u64 r.s, .bool r.z] 53)) = W4 at HBC HAC4 HX4 ⊢;clear a0 a1 a2 a3 a4 a5 a6 a7 a8 a9 a10 hW4;generalize W3.heap.size = gb at HBC HSZ3 ⊢;obtain ⟨a0, a1, a2, a3, a4, a5, a6, a7, a8, a9⟩ := Rq.at r HBC.out;go_wp2_with fail;refine (Item.shiftTo r.a (It.shift by1 r.a) by1 rfl _).mono ?_;rintro e w5 ⟨rfl, hb⟩;have HBC5 := hid (HBC.out.below hb);have HAC5 := hid (HAC4.out.below hb);have HX5 := hid (HX4.out.below hb);clear hb a0 a1 a2 a3 a4 a5 a6 a7 a8 a9 HBC HAC4 HX4;have HT5 : Hid (w5.there gb 0 7) := hid (fun j hj => by have := HBC5.out.thereL j (by simp [Rq.cells]; omega); exact this);go_upto_region 12 with (first | ((with_reducible refine wpList_put_rowQ 29 (It.shift by1 r.a).cells infoItem rfl (.tmp 43) (.tmp 42) rfl gb 0 HT5.out ?qba ?qbb ?qbc ?qbd ?qbe); (case qba => rfl); (case qbb => rfl); (case qbc => rfl); (case qbd => rfl); (intro W6 hW6); (have HY6 := hid (show (Cs W6 ga (.int .u8 d :: r.cells) ∧ Cs W6 gb (r.sh by1).cells) ∧ TS w1 S q mb th rb S' q' mb' th' rb' b (IntKind.u64.wrap (b + by1)) t u lq (lq.map (Rq.sh by1)) W6 by (subst hW6; exact ⟨⟨HAC5.out.fars (by have := HSZ3.out; omega) _ 0, Cs.putL (It.shift by1 r.a).cells 0 HBC5.out (by simp [It.cells, Rq.cells])⟩, HX5.out.own (F := [gb]) (Chg.sets _ _ (Chg.refl _ _) (Or.inl (by simp))) (fun g hg f x y hcell => by simp at hg; subst hg; rw [HBC5.out.at0] at hcell; cases hcell) (fun g hg => by simp at hg; subst hg; exact ⟨fun hm => by have := HGA.out _ (Or.inl hm); have := HSZ3.out; omega, fun hm => by have := HGA.out _ (Or.inr hm); have := HSZ3.out; omega, by have := HGB.out; have := HSZ3.out; omega⟩)⟩))); (clear hW6)) | fail)
   clear HX5 HAC5 HBC5 HT5;obtain ⟨a0, a1, a2, a3, a4, a5, a6, a7, a8, a9, a10⟩ := Ra.at r HY6.out.1.1
   go_upto_block 2 with fail
   go_cut [13, 14] (fun s13 s14 wx => ∃ e9 : Int, s13 = .int .i64 e9 ∧ s14 = .int .i64 e9 ∧ NS w1 S q mb th rb S' q' mb' th' rb' by1 wx)
   case first =>
    have HNF : Hid ((ga ∉ rb :: foot q mb th t ∧ gb ∉ rb :: foot q mb th t) ∧ ga ∉ rb' :: foot q' mb' th' u ∧ gb ∉ rb' :: foot q' mb' th' u) := hid (by
     have h1 := HSZ3.out;refine ⟨⟨fun hm => ?_, fun hm => ?_⟩, fun hm => ?_, fun hm => ?_⟩
     ·have := HGA.out _ (Or.inl (List.mem_cons_of_mem _ hm)); omega
     ·have := HGA.out _ (Or.inl (List.mem_cons_of_mem _ hm)); omega
     ·have := HGA.out _ (Or.inr (List.mem_cons_of_mem _ hm)); omega
     ·have := HGA.out _ (Or.inr (List.mem_cons_of_mem _ hm)); omega)
    go_wp2_with fail
    ·refine (Set.exit S q mb th rb b t lq r.a.i HP.out.2.1.2.2.2.1 _ HY6.out.2.1.1).mono ?_;rintro e w7 ⟨⟨x9, rfl⟩, hs⟩;obtain ⟨t1, h1, h2⟩ := HY6.out.2.fst hs;have HC7 : Hid (Cs w7 gb (r.sh by1).cells) := hid (by obtain ⟨_, _, _, _, hc⟩ := hs; exact HY6.out.1.2.chg hc HNF.out.1.2);have HH := hid h1;have HT1 := hid h2;clear h1 h2 hs HY6 a0 a1 a2 a3 a4 a5 a6 a7 a8 a9 a10;obtain ⟨b0, b1, b2, b3, b4, b5, b6, b7, b8, b9⟩ := Rq.at (r.sh by1) HC7.out;try unfold Rq.val
     go_wp2_with fail;have h7 := Set.exit S' q' mb' th' rb' (IntKind.u64.wrap (b + by1)) u (lq.map (Rq.sh by1)) r.a.i HP.out.2.1.2.2.2.1 w7 HT1.out.1.2;rw [HBU.out, (lea_sh r.a.i b by1 t.list).1, (lea_sh r.a.i b by1 t.list).2, lesI_sh, lesR_sh] at h7;refine h7.mono ?_;clear h7;rintro e w8 ⟨⟨x10, rfl⟩, hs8⟩;obtain ⟨u1, g1, g2⟩ := HT1.out.snd hs8;have hx4 : NS w1 S q mb th rb S' q' mb' th' rb' by1 w8 := NS.of ⟨⟨HH.out, g1⟩, g2⟩;clear g1 g2 hs8 HT1 HC7 b0 b1 b2 b3 b4 b5 b6 b7 b8 b9;generalize leaC r.a.i t.list = e9;go_wp2_with fail;go_meet
     exact ⟨e9, rfl, rfl, hx4⟩
    ·clear a0 a1 a2 a3 a4 a5 a6 a7 a8 a9 a10;have hsT1 : Stays (fun wx => Cs wx ga (.int .u8 d :: r.cells) ∧ Cs wx gb (r.sh by1).cells) := fun _ _ h hb => ⟨h.1.below hb, h.2.below hb⟩
     have hsU1 : Stays (fun wx => (fun wx => Cs wx ga (.int .u8 d :: r.cells) ∧ Cs wx gb (r.sh by1).cells) wx ∧ TS w1 S q mb th rb S' q' mb' th' rb' b (IntKind.u64.wrap (b + by1)) t u lq (lq.map (Rq.sh by1)) wx) := Stays.and_ hsT1 (fun _ _ h hb => TS.below h hb);refine wp_region_any (by kernel_rfl) (wpAny_of_E (S0 := fun wx => Cs wx ga (.int .u8 d :: r.cells) ∧ Cs wx gb (r.sh by1).cells) (n := 9) _ (fun wx => (fun wx => Cs wx ga (.int .u8 d :: r.cells) ∧ Cs wx gb (r.sh by1).cells) wx ∧ TS w1 S q mb th rb S' q' mb' th' rb' b (IntKind.u64.wrap (b + by1)) t u lq (lq.map (Rq.sh by1)) wx) _ _ _ (hsU1 _ _ (HY6.out) (Below.refl _ _).drew) ?_);refine tF 0 (hsU1) (fun _ h => h.1) ?_;try simp only [tdy]
     refine tF 1 (hsU1) (fun _ h => h.1) ?_;try simp only [tdy]
     refine tE 2 (v := ?_) (hsU1) (fun _ h => h.1) rfl (by kernel_rfl) (by rfl) ?_ ?_;rotate_left
     ·intro wq hSw;obtain ⟨a0, a1, a2, a3, a4, a5, a6, a7, a8, a9, a10⟩ := Ra.at r hSw.1;obtain ⟨b0, b1, b2, b3, b4, b5, b6, b7, b8, b9⟩ := Rq.at (r.sh by1) hSw.2;go_simp; try with_reducible rfl
     try simp only [tdy]
     refine tF 4 (hsU1) (fun _ h => h.1) ?_;try simp only [tdy]
     refine tE 5 (v := ?_) (hsU1) (fun _ h => h.1) rfl (by kernel_rfl) (by rfl) ?_ ?_;rotate_left
     ·intro wq hSw;obtain ⟨a0, a1, a2, a3, a4, a5, a6, a7, a8, a9, a10⟩ := Ra.at r hSw.1;obtain ⟨b0, b1, b2, b3, b4, b5, b6, b7, b8, b9⟩ := Rq.at (r.sh by1) hSw.2;go_simp; try with_reducible rfl
     try simp only [tdy]
     refine wpAnyE_callC (i := 3) (rb :: foot q mb th t) (fun wx => Cs wx ga (.int .u8 d :: r.cells) ∧ Cs wx gb (r.sh by1).cells) (fun _ : Tr It => .int .i64 (putC b t.list r)) (U1 w1 S q mb th rb S' q' mb' th' rb' (putB b t.list r) (IntKind.u64.wrap (b + by1)) (putL b t.list r) (putR b t.list lq r) (lq.map (Rq.sh by1)) u) rfl (by kernel_rfl) (by decide) (by rfl) (fun _ _ h hb => ⟨h.1.below hb, h.2.below hb⟩) (fun _ h => h) (fun yq => U1.st w1 S q mb th rb S' q' mb' th' rb' (putB b t.list r) (IntKind.u64.wrap (b + by1)) (putL b t.list r) (putR b t.list lq r) (lq.map (Rq.sh by1)) u yq) (fun _ _ h hc => ⟨h.1.1.chg hc HNF.out.1.1, h.1.2.chg hc HNF.out.1.2⟩) (fun wq hSw => ?_) (fun yq => ?_)
     ·exact RunC.of_calls (Set.put S q mb th rb b t lq r HP.out.2 wq hSw.2.1.1) (by go_simp) (fun e w' h => by
       obtain ⟨he, hs⟩ := h;obtain ⟨t', h1, h2⟩ := hSw.2.fst hs;obtain ⟨_, _, _, _, hc⟩ := hs;exact ⟨t', he, ⟨h1, h2⟩, hc⟩)
     revert yq; intro t1
     try dsimp only
     try simp only [tdy]
     refine wpAnyE_callC (i := 6) (rb' :: foot q' mb' th' u) (fun wx => Cs wx ga (.int .u8 d :: r.cells) ∧ Cs wx gb (r.sh by1).cells) (fun _ : Tr It => .int .i64 (putC b t.list r)) (U2 w1 S q mb th rb S' q' mb' th' rb' (putB b t.list r) by1 (putL b t.list r) (putR b t.list lq r) t1) rfl (by kernel_rfl) (by decide) (by rfl) (fun _ _ h hb => ⟨h.1.below hb, h.2.below hb⟩) (fun _ h => h) (fun yq => U2.st w1 S q mb th rb S' q' mb' th' rb' (putB b t.list r) by1 (putL b t.list r) (putR b t.list lq r) t1 yq) (fun _ _ h hc => ⟨h.1.1.chg hc HNF.out.2.1, h.1.2.chg hc HNF.out.2.2⟩) (fun wq hSw => ?_) (fun yq => ?_)
     ·have h7 := Set.put S' q' mb' th' rb' (IntKind.u64.wrap (b + by1)) u (lq.map (Rq.sh by1)) (r.sh by1) HSA.out wq hSw.2.2.1.2;rw [HBU.out, (put_sh b by1 t.list lq HP.out.2).1, (put_sh b by1 t.list lq HP.out.2).2.1, (put_sh b by1 t.list lq HP.out.2).2.2.1, (put_sh b by1 t.list lq HP.out.2).2.2.2] at h7;exact RunC.of_calls h7 (by go_simp) (fun e w' h => by
       obtain ⟨he, hs⟩ := h;obtain ⟨u', h1, h2⟩ := hSw.2.2.snd hs;obtain ⟨_, _, _, _, hc⟩ := hs;exact ⟨u', he, ⟨⟨hSw.2.1, h1⟩, h2⟩, hc⟩)
     revert yq; intro u1
     try dsimp only
     try simp only [tdy]
     refine tF 7 (Stays.and_ (fun _ _ h hb => ⟨h.1.below hb, h.2.below hb⟩) (U2.st w1 S q mb th rb S' q' mb' th' rb' (putB b t.list r) by1 (putL b t.list r) (putR b t.list lq r) t1 u1)) (fun _ h => h.1) ?_;try simp only [tdy]
     refine tF 8 (Stays.and_ (fun _ _ h hb => ⟨h.1.below hb, h.2.below hb⟩) (U2.st w1 S q mb th rb S' q' mb' th' rb' (putB b t.list r) by1 (putL b t.list r) (putR b t.list lq r) t1 u1)) (fun _ h => h.1) ?_;try simp only [tdy]
     refine wpAnyE_done (by kernel_rfl) (fun wz hSz => ?_) _;have hx4 := NS.of hSz.2;clear hSz HY6;generalize (putC b t.list r) = e9;go_wp2_with fail;go_meet
     exact ⟨e9, rfl, rfl, hx4⟩
    ·clear a0 a1 a2 a3 a4 a5 a6 a7 a8 a9 a10;have hsT2 : Stays (fun wx => Cs wx ga (.int .u8 d :: r.cells) ∧ Cs wx gb (r.sh by1).cells) := fun _ _ h hb => ⟨h.1.below hb, h.2.below hb⟩
     have hsU2 : Stays (fun wx => (fun wx => Cs wx ga (.int .u8 d :: r.cells) ∧ Cs wx gb (r.sh by1).cells) wx ∧ TS w1 S q mb th rb S' q' mb' th' rb' b (IntKind.u64.wrap (b + by1)) t u lq (lq.map (Rq.sh by1)) wx) := Stays.and_ hsT2 (fun _ _ h hb => TS.below h hb);refine wp_region_any (by kernel_rfl) (wpAny_of_E (S0 := fun wx => Cs wx ga (.int .u8 d :: r.cells) ∧ Cs wx gb (r.sh by1).cells) (n := 16) _ (fun wx => (fun wx => Cs wx ga (.int .u8 d :: r.cells) ∧ Cs wx gb (r.sh by1).cells) wx ∧ TS w1 S q mb th rb S' q' mb' th' rb' b (IntKind.u64.wrap (b + by1)) t u lq (lq.map (Rq.sh by1)) wx) _ _ _ (hsU2 _ _ (HY6.out) (Below.refl _ _).drew) ?_);refine tF 0 (hsU2) (fun _ h => h.1) ?_;try simp only [tdy]
     refine tF 1 (hsU2) (fun _ h => h.1) ?_;try simp only [tdy]
     refine tF 2 (hsU2) (fun _ h => h.1) ?_;try simp only [tdy]
     refine tE 3 (v := ?_) (hsU2) (fun _ h => h.1) rfl (by kernel_rfl) (by rfl) ?_ ?_;rotate_left
     ·intro wq hSw;obtain ⟨a0, a1, a2, a3, a4, a5, a6, a7, a8, a9, a10⟩ := Ra.at r hSw.1;obtain ⟨b0, b1, b2, b3, b4, b5, b6, b7, b8, b9⟩ := Rq.at (r.sh by1) hSw.2;go_simp; try with_reducible rfl
     try simp only [tdy]
     refine tF 4 (hsU2) (fun _ h => h.1) ?_;try simp only [tdy]
     refine tE 5 (v := ?_) (hsU2) (fun _ h => h.1) rfl (by kernel_rfl) (by rfl) ?_ ?_;rotate_left
     ·intro wq hSw;obtain ⟨a0, a1, a2, a3, a4, a5, a6, a7, a8, a9, a10⟩ := Ra.at r hSw.1;obtain ⟨b0, b1, b2, b3, b4, b5, b6, b7, b8, b9⟩ := Rq.at (r.sh by1) hSw.2;go_simp; try with_reducible rfl
     try simp only [tdy]
     refine tF 7 (hsU2) (fun _ h => h.1) ?_;try simp only [tdy]
     refine tF 8 (hsU2) (fun _ h => h.1) ?_;try simp only [tdy]
     refine tF 9 (hsU2) (fun _ h => h.1) ?_;try simp only [tdy]
     refine tE 10 (v := ?_) (hsU2) (fun _ h => h.1) rfl (by kernel_rfl) (by rfl) ?_ ?_;rotate_left
     ·intro wq hSw;obtain ⟨a0, a1, a2, a3, a4, a5, a6, a7, a8, a9, a10⟩ := Ra.at r hSw.1;obtain ⟨b0, b1, b2, b3, b4, b5, b6, b7, b8, b9⟩ := Rq.at (r.sh by1) hSw.2;go_simp; try with_reducible rfl
     try simp only [tdy]
     refine tF 11 (hsU2) (fun _ h => h.1) ?_;try simp only [tdy]
     refine tE 12 (v := ?_) (hsU2) (fun _ h => h.1) rfl (by kernel_rfl) (by rfl) ?_ ?_;rotate_left
     ·intro wq hSw;obtain ⟨a0, a1, a2, a3, a4, a5, a6, a7, a8, a9, a10⟩ := Ra.at r hSw.1;obtain ⟨b0, b1, b2, b3, b4, b5, b6, b7, b8, b9⟩ := Rq.at (r.sh by1) hSw.2;go_simp; try with_reducible rfl
     try simp only [tdy]
     refine wpAnyE_callC (i := 6) (rb :: foot q mb th t) (fun wx => Cs wx ga (.int .u8 d :: r.cells) ∧ Cs wx gb (r.sh by1).cells) (fun _ : Tr It => .int .i64 (leaC r.a.i t.list)) (U1 w1 S q mb th rb S' q' mb' th' rb' b (IntKind.u64.wrap (b + by1)) t.list (rouR r.a.i r.z lq) (lq.map (Rq.sh by1)) u) rfl (by kernel_rfl) (by decide) (by rfl) (fun _ _ h hb => ⟨h.1.below hb, h.2.below hb⟩) (fun _ h => h) (fun yq => U1.st w1 S q mb th rb S' q' mb' th' rb' b (IntKind.u64.wrap (b + by1)) t.list (rouR r.a.i r.z lq) (lq.map (Rq.sh by1)) u yq) (fun _ _ h hc => ⟨h.1.1.chg hc HNF.out.1.1, h.1.2.chg hc HNF.out.1.2⟩) (fun wq hSw => ?_) (fun yq => ?_)
     ·exact RunC.of_calls (Set.rouse S q mb th rb b t lq r.a.i r.z HP.out.2.1.2.2.2.1 wq hSw.2.1.1) (by go_simp; exact ⟨rfl, rfl⟩) (fun e w' h => by
       obtain ⟨he, hs⟩ := h;obtain ⟨t', h1, h2⟩ := hSw.2.fst hs;obtain ⟨_, _, _, _, hc⟩ := hs;exact ⟨t', he, ⟨h1, h2⟩, hc⟩)
     revert yq; intro t1
     try dsimp only
     try simp only [tdy]
     refine wpAnyE_callC (i := 13) (rb' :: foot q' mb' th' u) (fun wx => Cs wx ga (.int .u8 d :: r.cells) ∧ Cs wx gb (r.sh by1).cells) (fun _ : Tr It => .int .i64 (leaC r.a.i t.list)) (U2 w1 S q mb th rb S' q' mb' th' rb' b by1 t.list (rouR r.a.i r.z lq) t1) rfl (by kernel_rfl) (by decide) (by rfl) (fun _ _ h hb => ⟨h.1.below hb, h.2.below hb⟩) (fun _ h => h) (fun yq => U2.st w1 S q mb th rb S' q' mb' th' rb' b by1 t.list (rouR r.a.i r.z lq) t1 yq) (fun _ _ h hc => ⟨h.1.1.chg hc HNF.out.2.1, h.1.2.chg hc HNF.out.2.2⟩) (fun wq hSw => ?_) (fun yq => ?_)
     ·have h7 := Set.rouse S' q' mb' th' rb' (IntKind.u64.wrap (b + by1)) u (lq.map (Rq.sh by1)) r.a.i r.z HP.out.2.1.2.2.2.1 wq hSw.2.2.1.2;rw [HBU.out, (lea_sh r.a.i b by1 t.list).1, rouR_sh] at h7;exact RunC.of_calls h7 (by go_simp; exact ⟨rfl, rfl⟩) (fun e w' h => by
       obtain ⟨he, hs⟩ := h;obtain ⟨u', h1, h2⟩ := hSw.2.2.snd hs;obtain ⟨_, _, _, _, hc⟩ := hs;exact ⟨u', he, ⟨⟨hSw.2.1, h1⟩, h2⟩, hc⟩)
     revert yq; intro u1
     try dsimp only
     try simp only [tdy]
     refine tF 14 (Stays.and_ (fun _ _ h hb => ⟨h.1.below hb, h.2.below hb⟩) (U2.st w1 S q mb th rb S' q' mb' th' rb' b by1 t.list (rouR r.a.i r.z lq) t1 u1)) (fun _ h => h.1) ?_;try simp only [tdy]
     refine tF 15 (Stays.and_ (fun _ _ h hb => ⟨h.1.below hb, h.2.below hb⟩) (U2.st w1 S q mb th rb S' q' mb' th' rb' b by1 t.list (rouR r.a.i r.z lq) t1 u1)) (fun _ h => h.1) ?_;try simp only [tdy]
     refine wpAnyE_done (by kernel_rfl) (fun wz hSz => ?_) _;have hx4 := NS.of hSz.2;clear hSz HY6;generalize (leaC r.a.i t.list) = e9;go_wp2_with fail;go_meet
     exact ⟨e9, rfl, rfl, hx4⟩
    ·clear a0 a1 a2 a3 a4 a5 a6 a7 a8 a9 a10;have hsT3 : Stays (fun wx => Cs wx ga (.int .u8 d :: r.cells) ∧ Cs wx gb (r.sh by1).cells) := fun _ _ h hb => ⟨h.1.below hb, h.2.below hb⟩
     have hsU3 : Stays (fun wx => (fun wx => Cs wx ga (.int .u8 d :: r.cells) ∧ Cs wx gb (r.sh by1).cells) wx ∧ TS w1 S q mb th rb S' q' mb' th' rb' b (IntKind.u64.wrap (b + by1)) t u lq (lq.map (Rq.sh by1)) wx) := Stays.and_ hsT3 (fun _ _ h hb => TS.below h hb);refine wp_region_any (by kernel_rfl) (wpAny_of_E (S0 := fun wx => Cs wx ga (.int .u8 d :: r.cells) ∧ Cs wx gb (r.sh by1).cells) (n := 9) _ (fun wx => (fun wx => Cs wx ga (.int .u8 d :: r.cells) ∧ Cs wx gb (r.sh by1).cells) wx ∧ TS w1 S q mb th rb S' q' mb' th' rb' b (IntKind.u64.wrap (b + by1)) t u lq (lq.map (Rq.sh by1)) wx) _ _ _ (hsU3 _ _ (HY6.out) (Below.refl _ _).drew) ?_);refine tF 0 (hsU3) (fun _ h => h.1) ?_;try simp only [tdy]
     refine tF 1 (hsU3) (fun _ h => h.1) ?_;try simp only [tdy]
     refine tE 2 (v := ?_) (hsU3) (fun _ h => h.1) rfl (by kernel_rfl) (by rfl) ?_ ?_;rotate_left
     ·intro wq hSw;obtain ⟨a0, a1, a2, a3, a4, a5, a6, a7, a8, a9, a10⟩ := Ra.at r hSw.1;obtain ⟨b0, b1, b2, b3, b4, b5, b6, b7, b8, b9⟩ := Rq.at (r.sh by1) hSw.2;go_simp; try with_reducible rfl
     try simp only [tdy]
     refine tF 4 (hsU3) (fun _ h => h.1) ?_;try simp only [tdy]
     refine tE 5 (v := ?_) (hsU3) (fun _ h => h.1) rfl (by kernel_rfl) (by rfl) ?_ ?_;rotate_left
     ·intro wq hSw;obtain ⟨a0, a1, a2, a3, a4, a5, a6, a7, a8, a9, a10⟩ := Ra.at r hSw.1;obtain ⟨b0, b1, b2, b3, b4, b5, b6, b7, b8, b9⟩ := Rq.at (r.sh by1) hSw.2;go_simp; try with_reducible rfl
     try simp only [tdy]
     refine wpAnyE_callC (i := 3) (rb :: foot q mb th t) (fun wx => Cs wx ga (.int .u8 d :: r.cells) ∧ Cs wx gb (r.sh by1).cells) (fun _ : Tr It => .int .i64 (entC b t.list r)) (U1 w1 S q mb th rb S' q' mb' th' rb' (entB b t.list r) (IntKind.u64.wrap (b + by1)) (entL b t.list r) (entR b t.list lq r) (lq.map (Rq.sh by1)) u) rfl (by kernel_rfl) (by decide) (by rfl) (fun _ _ h hb => ⟨h.1.below hb, h.2.below hb⟩) (fun _ h => h) (fun yq => U1.st w1 S q mb th rb S' q' mb' th' rb' (entB b t.list r) (IntKind.u64.wrap (b + by1)) (entL b t.list r) (entR b t.list lq r) (lq.map (Rq.sh by1)) u yq) (fun _ _ h hc => ⟨h.1.1.chg hc HNF.out.1.1, h.1.2.chg hc HNF.out.1.2⟩) (fun wq hSw => ?_) (fun yq => ?_)
     ·exact RunC.of_calls (Set.enter S q mb th rb b t lq r HP.out.2 wq hSw.2.1.1) (by go_simp) (fun e w' h => by
       obtain ⟨he, hs⟩ := h;obtain ⟨t', h1, h2⟩ := hSw.2.fst hs;obtain ⟨_, _, _, _, hc⟩ := hs;exact ⟨t', he, ⟨h1, h2⟩, hc⟩)
     revert yq; intro t1
     try dsimp only
     try simp only [tdy]
     refine wpAnyE_callC (i := 6) (rb' :: foot q' mb' th' u) (fun wx => Cs wx ga (.int .u8 d :: r.cells) ∧ Cs wx gb (r.sh by1).cells) (fun _ : Tr It => .int .i64 (entC b t.list r)) (U2 w1 S q mb th rb S' q' mb' th' rb' (entB b t.list r) by1 (entL b t.list r) (entR b t.list lq r) t1) rfl (by kernel_rfl) (by decide) (by rfl) (fun _ _ h hb => ⟨h.1.below hb, h.2.below hb⟩) (fun _ h => h) (fun yq => U2.st w1 S q mb th rb S' q' mb' th' rb' (entB b t.list r) by1 (entL b t.list r) (entR b t.list lq r) t1 yq) (fun _ _ h hc => ⟨h.1.1.chg hc HNF.out.2.1, h.1.2.chg hc HNF.out.2.2⟩) (fun wq hSw => ?_) (fun yq => ?_)
     ·have h7 := Set.enter S' q' mb' th' rb' (IntKind.u64.wrap (b + by1)) u (lq.map (Rq.sh by1)) (r.sh by1) HSA.out wq hSw.2.2.1.2;rw [HBU.out, (ent_sh b by1 t.list lq HP.out.2).1, (ent_sh b by1 t.list lq HP.out.2).2.1, (ent_sh b by1 t.list lq HP.out.2).2.2.1, (ent_sh b by1 t.list lq HP.out.2).2.2.2] at h7;exact RunC.of_calls h7 (by go_simp) (fun e w' h => by
       obtain ⟨he, hs⟩ := h;obtain ⟨u', h1, h2⟩ := hSw.2.2.snd hs;obtain ⟨_, _, _, _, hc⟩ := hs;exact ⟨u', he, ⟨⟨hSw.2.1, h1⟩, h2⟩, hc⟩)
     revert yq; intro u1
     try dsimp only
     try simp only [tdy]
     refine tF 7 (Stays.and_ (fun _ _ h hb => ⟨h.1.below hb, h.2.below hb⟩) (U2.st w1 S q mb th rb S' q' mb' th' rb' (entB b t.list r) by1 (entL b t.list r) (entR b t.list lq r) t1 u1)) (fun _ h => h.1) ?_;try simp only [tdy]
     refine tF 8 (Stays.and_ (fun _ _ h hb => ⟨h.1.below hb, h.2.below hb⟩) (U2.st w1 S q mb th rb S' q' mb' th' rb' (entB b t.list r) by1 (entL b t.list r) (entR b t.list lq r) t1 u1)) (fun _ h => h.1) ?_;try simp only [tdy]
     refine wpAnyE_done (by kernel_rfl) (fun wz hSz => ?_) _;have hx4 := NS.of hSz.2;clear hSz HY6;generalize (entC b t.list r) = e9;go_wp2_with fail;go_meet
     exact ⟨e9, rfl, rfl, hx4⟩
   case rest =>
    obtain ⟨e9, rfl, rfl, hx4⟩ := hcut;clear HY6 a0 a1 a2 a3 a4 a5 a6 a7 a8 a9 a10;obtain ⟨b2, t2, u2, l2, hb2, ht2⟩ := hx4;have HT2 := hid ht2;have HB2 := hid hb2;have hqt := ht2.1.1.2.1.1.1;have HQT := hid hqt;obtain ⟨x, hf, hx0, hx1⟩ := first_elig hqt.fw hqt.srt;have HFX := hid hf;have HX0 := hid hx0;have HX1 := hid hx1;have hqu : Qok (IntKind.u64.wrap (b2 + by1)) u2.list := ht2.1.2.2.1.1.1;obtain ⟨y, hf, hy0, hy1⟩ := first_elig hqu.fw hqu.srt;have HFY := hid hf;have HY0 := hid hy0;have HY1 := hid hy1;have HULN : Hid (u2.list.length = t2.list.length) := hid (by rw [hb2, List.length_map]);clear hb2 ht2 hf hx0 hx1 hy0 hy1 hqu hqt;try unfold It.val
    obtain ⟨u0, v0⟩ := HT2.out.1.1.1.2.at;go_wp2_with fail;refine (Queue.soonest q mb th (qM b2 t2.list) t2 _ HT2.out.1.1.1.1).mono ?_;rintro e w9 ⟨rfl, hb⟩;clear u0 v0;rw [HFX.out];have HT9 := hid (HT2.out.below hb);clear hb HT2;dsimp only;by_cases h0 : 0 < t2.list.length
    ·have HYS : Hid (y = It.shift by1 x) := hid (first_sh HQT.out HB2.out (HX1.out h0) (HY1.out (by rw [HULN.out]; exact h0)));have HDU : Hid (decide (0 < u2.list.length) = true) := hid (decide_eq_true (by rw [HULN.out]; exact h0));rw [decide_eq_true h0];clear h0;have hal := (Below.refl w9.heap.size w9).alloc (Nat.le_refl _) (.cells #[.int .u64 x.t, .int .u32 x.r, .int .u32 x.v, .int .i64 x.i, .int .u64 x.u, .int .u32 x.s, .int .u32 x.y] 29);have HT10 := hid (HT9.out.below hal);have HXV : Hid (Cs (w9.alloc (.cells #[.int .u64 x.t, .int .u32 x.r, .int .u32 x.v, .int .i64 x.i, .int .u64 x.u, .int .u32 x.s, .int .u32 x.y] 29)) w9.heap.size x.cells) := hid (Cs.new7 w9 29 x);clear hal HT9;try unfold It.val
     go_upto_region 23 with fail;generalize w9.alloc (.cells #[.int .u64 x.t, .int .u32 x.r, .int .u32 x.v, .int .i64 x.i, .int .u64 x.u, .int .u32 x.s, .int .u32 x.y] 29) = W10 at HT10 HXV ⊢;generalize w9.heap.size = gx at HXV ⊢;obtain ⟨u0, v0⟩ := HT10.out.1.2.1.2.at;go_wp2_with fail;refine (Queue.soonest q' mb' th' (qM (IntKind.u64.wrap (b2 + by1)) u2.list) u2 _ HT10.out.1.2.1.1).mono ?_;rintro e w11 ⟨rfl, hb⟩;clear u0 v0;rw [HFY.out];dsimp only;rw [HDU.out];rw [HYS.out];have HT11 := hid (HT10.out.below hb);have HXV11 := hid (HXV.out.below hb);clear hb HT10 HXV;have hal := (Below.refl w11.heap.size w11).alloc (Nat.le_refl _) (.cells #[.int .u64 (It.shift by1 x).t, .int .u32 (It.shift by1 x).r, .int .u32 (It.shift by1 x).v, .int .i64 (It.shift by1 x).i, .int .u64 (It.shift by1 x).u, .int .u32 (It.shift by1 x).s, .int .u32 (It.shift by1 x).y] 29);have HT12 := hid (HT11.out.below hal);have HXV12 := hid (HXV11.out.below hal);have HYV : Hid (Cs (w11.alloc (.cells #[.int .u64 (It.shift by1 x).t, .int .u32 (It.shift by1 x).r, .int .u32 (It.shift by1 x).v, .int .i64 (It.shift by1 x).i, .int .u64 (It.shift by1 x).u, .int .u32 (It.shift by1 x).s, .int .u32 (It.shift by1 x).y] 29)) w11.heap.size (It.shift by1 x).cells) := hid (Cs.new7 w11 29 (It.shift by1 x));clear hal HT11 HXV11;try unfold It.val
     go_upto_region 24 with fail;generalize w11.alloc (.cells #[.int .u64 (It.shift by1 x).t, .int .u32 (It.shift by1 x).r, .int .u32 (It.shift by1 x).v, .int .i64 (It.shift by1 x).i, .int .u64 (It.shift by1 x).u, .int .u32 (It.shift by1 x).s, .int .u32 (It.shift by1 x).y] 29) = W12 at HT12 HXV12 HYV ⊢;generalize w11.heap.size = gy at HYV ⊢;have HNQ : Hid (∀ wq, Below W12.heap.size W12 wq → Calls Tryz.prog 21 #[.pointer (some ⟨q, 0, none⟩)] wq (Ans (.int .u64 b2) wq)) := hid (fun wq h => Queue.now q mb th (qM b2 t2.list) t2 wq (HT12.out.below h).1.1.1.1);have HNP : Hid (∀ wq, Below W12.heap.size W12 wq → Calls Tryz.prog 21 #[.pointer (some ⟨q', 0, none⟩)] wq (Ans (.int .u64 (IntKind.u64.wrap (b2 + by1))) wq)) := hid (fun wq h => Queue.now q' mb' th' (qM (IntKind.u64.wrap (b2 + by1)) u2.list) u2 wq (HT12.out.below h).1.2.1.1);have HRQ : Hid (∀ wq, Below W12.heap.size W12 wq → Calls Tryz.prog 59 #[.pointer (some ⟨S, 0, none⟩)] wq (Ans (.int .i64 (runR l2)) wq)) := hid (fun wq h => Set.runnable S q rb l2 (HT12.out.below h).1.1.few (HT12.out.below h).1.1.ids wq (HT12.out.below h).1.1.1.2);have HRP : Hid (∀ wq, Below W12.heap.size W12 wq → Calls Tryz.prog 59 #[.pointer (some ⟨S', 0, none⟩)] wq (Ans (.int .i64 (runR l2)) wq)) := hid (fun wq h => by
       have h8 := Set.runnable S' q' rb' (l2.map (Rq.sh by1)) (HT12.out.below h).1.2.few (HT12.out.below h).1.2.ids wq (HT12.out.below h).1.2.1.2;rw [runR_sh] at h8;exact h8)
     have hsT4 : Stays (fun wx => Below W12.heap.size W12 wx) := fun _ _ h hb => below_on h hb
     refine wp_region_grow (S := fun wx => Below W12.heap.size W12 wx) 40 (by kernel_rfl) (hsT4 _ _ ((Below.refl W12.heap.size W12)) (Below.refl _ _).drew) ?_;refine tF 0 (hsT4) (fun _ h => h) ?_;try simp only [tdy]
     refine tF 1 (hsT4) (fun _ h => h) ?_;try simp only [tdy]
     refine tF 2 (hsT4) (fun _ h => h) ?_;try simp only [tdy]
     refine tF 3 (hsT4) (fun _ h => h) ?_;try simp only [tdy]
     refine tF 4 (hsT4) (fun _ h => h) ?_;try simp only [tdy]
     refine tF 5 (hsT4) (fun _ h => h) ?_;try simp only [tdy]
     refine tF 6 (hsT4) (fun _ h => h) ?_;try simp only [tdy]
     refine tF 7 (hsT4) (fun _ h => h) ?_;try simp only [tdy]
     refine tF 8 (hsT4) (fun _ h => h) ?_;try simp only [tdy]
     refine tF 9 (hsT4) (fun _ h => h) ?_;try simp only [tdy]
     refine tF 10 (hsT4) (fun _ h => h) ?_;try simp only [tdy]
     refine tE 11 (v := ?_) (hsT4) (fun _ h => h) rfl (by kernel_rfl) (by rfl) ?_ ?_;rotate_left
     ·intro wq hSw;obtain ⟨x0, x1, x2, x3, x4, x5, x6⟩ := It.at x (HXV12.out.below hSw);obtain ⟨y0, y1, y2, y3, y4, y5, y6⟩ := It.at (It.shift by1 x) (HYV.out.below hSw);obtain ⟨s0, s1⟩ := (HT12.out.below hSw).1.1.1.2.at;obtain ⟨u0, u1⟩ := (HT12.out.below hSw).1.2.1.2.at;go_simp; try with_reducible rfl
     try simp only [tdy]
     refine tF 12 (hsT4) (fun _ h => h) ?_;try simp only [tdy]
     refine tC 13 (v := (It.shift by1 x).val) (hsT4) (fun _ h => h) (fun wq hSw => Item.shiftTo x (It.shift by1 x) by1 rfl wq) ?_;try simp only [tdy]
     refine tE 14 (v := ?_) (hsT4) (fun _ h => h) rfl (by kernel_rfl) (by rfl) ?_ ?_;rotate_left
     ·intro wq hSw;obtain ⟨x0, x1, x2, x3, x4, x5, x6⟩ := It.at x (HXV12.out.below hSw);obtain ⟨y0, y1, y2, y3, y4, y5, y6⟩ := It.at (It.shift by1 x) (HYV.out.below hSw);obtain ⟨s0, s1⟩ := (HT12.out.below hSw).1.1.1.2.at;obtain ⟨u0, u1⟩ := (HT12.out.below hSw).1.2.1.2.at;go_simp; try with_reducible rfl
     try simp only [tdy]
     refine tF 15 (hsT4) (fun _ h => h) ?_;try simp only [tdy]
     refine tF 16 (hsT4) (fun _ h => h) ?_;try simp only [tdy]
     refine tF 17 (hsT4) (fun _ h => h) ?_;try simp only [tdy]
     refine tF 18 (hsT4) (fun _ h => h) ?_;try simp only [tdy]
     refine tF 19 (hsT4) (fun _ h => h) ?_;try simp only [tdy]
     refine tC 20 (v := .int .i64 (runR l2)) (hsT4) (fun _ h => h) (fun wq hSw => HRQ.out wq hSw) ?_;try simp only [tdy]
     refine tF 21 (hsT4) (fun _ h => h) ?_;try simp only [tdy]
     refine tC 22 (v := .int .i64 (runR l2)) (hsT4) (fun _ h => h) (fun wq hSw => HRP.out wq hSw) ?_;try simp only [tdy]
     refine tF 23 (hsT4) (fun _ h => h) ?_;try simp only [tdy]
     refine tF 24 (hsT4) (fun _ h => h) ?_;try simp only [tdy]
     refine tF 25 (hsT4) (fun _ h => h) ?_;try simp only [tdy]
     refine tF 26 (hsT4) (fun _ h => h) ?_;try simp only [tdy]
     refine tF 27 (hsT4) (fun _ h => h) ?_;try simp only [tdy]
     refine tF 28 (hsT4) (fun _ h => h) ?_;try simp only [tdy]
     refine tE 29 (v := ?_) (hsT4) (fun _ h => h) rfl (by kernel_rfl) (by rfl) ?_ ?_;rotate_left
     ·intro wq hSw;obtain ⟨x0, x1, x2, x3, x4, x5, x6⟩ := It.at x (HXV12.out.below hSw);obtain ⟨y0, y1, y2, y3, y4, y5, y6⟩ := It.at (It.shift by1 x) (HYV.out.below hSw);obtain ⟨s0, s1⟩ := (HT12.out.below hSw).1.1.1.2.at;obtain ⟨u0, u1⟩ := (HT12.out.below hSw).1.2.1.2.at;go_simp; try with_reducible rfl
     try simp only [tdy]
     refine tC 30 (v := .int .u64 (IntKind.u64.wrap (b2 + by1))) (hsT4) (fun _ h => h) (fun wq hSw => HNP.out wq hSw) ?_;try simp only [tdy]
     refine tF 31 (hsT4) (fun _ h => h) ?_;try simp only [tdy]
     refine tF 32 (hsT4) (fun _ h => h) ?_;try simp only [tdy]
     refine tF 33 (hsT4) (fun _ h => h) ?_;try simp only [tdy]
     refine tE 34 (v := ?_) (hsT4) (fun _ h => h) rfl (by kernel_rfl) (by rfl) ?_ ?_;rotate_left
     ·intro wq hSw;obtain ⟨x0, x1, x2, x3, x4, x5, x6⟩ := It.at x (HXV12.out.below hSw);obtain ⟨y0, y1, y2, y3, y4, y5, y6⟩ := It.at (It.shift by1 x) (HYV.out.below hSw);obtain ⟨s0, s1⟩ := (HT12.out.below hSw).1.1.1.2.at;obtain ⟨u0, u1⟩ := (HT12.out.below hSw).1.2.1.2.at;go_simp; try with_reducible rfl
     try simp only [tdy]
     refine tC 35 (v := .int .u64 b2) (hsT4) (fun _ h => h) (fun wq hSw => HNQ.out wq hSw) ?_;try simp only [tdy]
     refine tF 36 (hsT4) (fun _ h => h) ?_;try simp only [tdy]
     refine tF 37 (hsT4) (fun _ h => h) ?_;try simp only [tdy]
     refine tF 38 (hsT4) (fun _ h => h) ?_;try simp only [tdy]
     refine tF 39 (hsT4) (fun _ h => h) ?_;try simp only [tdy]
     refine wpAnyE_done (by kernel_rfl) (fun wz hSz => ?_) _;have HT13 := hid (HT12.out.below hSz);clear hSz HT12 HXV12 HYV HNQ HNP HRQ HRP;have HXE : Hid (NS w1 S q mb th rb S' q' mb' th' rb' by1 wz) := hid ⟨b2, t2, u2, l2, HB2.out, HT13.out⟩;clear HT13;go_wp2_with fail;go_roundg (n - (k + 1))
     case measure => have := HS.out; omega
     case rel => exact ⟨k + 1, by go_num, by omega, rfl, HXE.out⟩
    ·have HLN : Hid (t2.list.length = 0) := hid (by omega);obtain rfl : x = It.zero := HX0.out HLN.out;have HYZ : Hid (y = It.zero) := hid (HY0.out (by rw [HULN.out]; exact HLN.out));have HDU : Hid (decide (0 < u2.list.length) = false) := hid (decide_eq_false (by rw [HULN.out]; exact h0));rw [decide_eq_false h0];clear h0;have hal := (Below.refl w9.heap.size w9).alloc (Nat.le_refl _) (.cells #[.int .u64 0, .int .u32 0, .int .u32 0, .int .i64 0, .int .u64 0, .int .u32 0, .int .u32 0] 29);have HT10 := hid (HT9.out.below hal);have HXV : Hid (Cs (w9.alloc (.cells #[.int .u64 0, .int .u32 0, .int .u32 0, .int .i64 0, .int .u64 0, .int .u32 0, .int .u32 0] 29)) w9.heap.size It.zero.cells) := hid (Cs.new7 w9 29 It.zero);clear hal HT9;try unfold It.val
     go_upto_region 23 with fail;generalize w9.alloc (.cells #[.int .u64 0, .int .u32 0, .int .u32 0, .int .i64 0, .int .u64 0, .int .u32 0, .int .u32 0] 29) = W10 at HT10 HXV ⊢;generalize w9.heap.size = gx at HXV ⊢;obtain ⟨u0, v0⟩ := HT10.out.1.2.1.2.at;go_wp2_with fail;refine (Queue.soonest q' mb' th' (qM (IntKind.u64.wrap (b2 + by1)) u2.list) u2 _ HT10.out.1.2.1.1).mono ?_;rintro e w11 ⟨rfl, hb⟩;clear u0 v0;rw [HFY.out];dsimp only;rw [HDU.out];rw [HYZ.out];have HT11 := hid (HT10.out.below hb);have HXV11 := hid (HXV.out.below hb);clear hb HT10 HXV;have hal := (Below.refl w11.heap.size w11).alloc (Nat.le_refl _) (.cells #[.int .u64 0, .int .u32 0, .int .u32 0, .int .i64 0, .int .u64 0, .int .u32 0, .int .u32 0] 29);have HT12 := hid (HT11.out.below hal);have HXV12 := hid (HXV11.out.below hal);have HYV : Hid (Cs (w11.alloc (.cells #[.int .u64 0, .int .u32 0, .int .u32 0, .int .i64 0, .int .u64 0, .int .u32 0, .int .u32 0] 29)) w11.heap.size It.zero.cells) := hid (Cs.new7 w11 29 It.zero);clear hal HT11 HXV11;try unfold It.val
     go_upto_region 24 with fail;generalize w11.alloc (.cells #[.int .u64 0, .int .u32 0, .int .u32 0, .int .i64 0, .int .u64 0, .int .u32 0, .int .u32 0] 29) = W12 at HT12 HXV12 HYV ⊢;generalize w11.heap.size = gy at HYV ⊢;have HNQ : Hid (∀ wq, Below W12.heap.size W12 wq → Calls Tryz.prog 21 #[.pointer (some ⟨q, 0, none⟩)] wq (Ans (.int .u64 b2) wq)) := hid (fun wq h => Queue.now q mb th (qM b2 t2.list) t2 wq (HT12.out.below h).1.1.1.1);have HNP : Hid (∀ wq, Below W12.heap.size W12 wq → Calls Tryz.prog 21 #[.pointer (some ⟨q', 0, none⟩)] wq (Ans (.int .u64 (IntKind.u64.wrap (b2 + by1))) wq)) := hid (fun wq h => Queue.now q' mb' th' (qM (IntKind.u64.wrap (b2 + by1)) u2.list) u2 wq (HT12.out.below h).1.2.1.1);have HRQ : Hid (∀ wq, Below W12.heap.size W12 wq → Calls Tryz.prog 59 #[.pointer (some ⟨S, 0, none⟩)] wq (Ans (.int .i64 (runR l2)) wq)) := hid (fun wq h => Set.runnable S q rb l2 (HT12.out.below h).1.1.few (HT12.out.below h).1.1.ids wq (HT12.out.below h).1.1.1.2);have HRP : Hid (∀ wq, Below W12.heap.size W12 wq → Calls Tryz.prog 59 #[.pointer (some ⟨S', 0, none⟩)] wq (Ans (.int .i64 (runR l2)) wq)) := hid (fun wq h => by
       have h8 := Set.runnable S' q' rb' (l2.map (Rq.sh by1)) (HT12.out.below h).1.2.few (HT12.out.below h).1.2.ids wq (HT12.out.below h).1.2.1.2;rw [runR_sh] at h8;exact h8)
     have hsT5 : Stays (fun wx => Below W12.heap.size W12 wx) := fun _ _ h hb => below_on h hb
     refine wp_region_grow (S := fun wx => Below W12.heap.size W12 wx) 40 (by kernel_rfl) (hsT5 _ _ ((Below.refl W12.heap.size W12)) (Below.refl _ _).drew) ?_;refine tF 0 (hsT5) (fun _ h => h) ?_;try simp only [tdy]
     refine tF 1 (hsT5) (fun _ h => h) ?_;try simp only [tdy]
     refine tF 2 (hsT5) (fun _ h => h) ?_;try simp only [tdy]
     refine tF 3 (hsT5) (fun _ h => h) ?_;try simp only [tdy]
     refine tF 4 (hsT5) (fun _ h => h) ?_;try simp only [tdy]
     refine tF 5 (hsT5) (fun _ h => h) ?_;try simp only [tdy]
     refine tF 6 (hsT5) (fun _ h => h) ?_;try simp only [tdy]
     refine tF 7 (hsT5) (fun _ h => h) ?_;try simp only [tdy]
     refine tF 8 (hsT5) (fun _ h => h) ?_;try simp only [tdy]
     refine tF 9 (hsT5) (fun _ h => h) ?_;try simp only [tdy]
     refine tF 10 (hsT5) (fun _ h => h) ?_;try simp only [tdy]
     refine wpAnyE_take (i := 11) (v := undef) (hsT5) (fun _ h => h) rfl (by kernel_rfl) (by kernel_rfl) (by kernel_rfl) (by kernel_rfl) (fun _ _ _ h => h) (Or.inr ⟨by rfl, rfl⟩) ?_;try simp only [tdy]
     refine wpAnyE_take (i := 12) (v := undef) (hsT5) (fun _ h => h) rfl (by kernel_rfl) (by kernel_rfl) (by kernel_rfl) (by kernel_rfl) (fun _ _ _ h => h) (Or.inr ⟨by rfl, rfl⟩) ?_;try simp only [tdy]
     refine wpAnyE_take (i := 13) (v := undef) (hsT5) (fun _ h => h) rfl (by kernel_rfl) (by kernel_rfl) (by kernel_rfl) (by kernel_rfl) (fun _ _ _ h => h) (Or.inr ⟨by rfl, rfl⟩) ?_;try simp only [tdy]
     refine wpAnyE_take (i := 14) (v := undef) (hsT5) (fun _ h => h) rfl (by kernel_rfl) (by kernel_rfl) (by kernel_rfl) (by kernel_rfl) (fun _ _ _ h => h) (Or.inr ⟨by rfl, rfl⟩) ?_;try simp only [tdy]
     refine wpAnyE_take (i := 15) (v := undef) (hsT5) (fun _ h => h) rfl (by kernel_rfl) (by kernel_rfl) (by kernel_rfl) (by kernel_rfl) (fun _ _ _ h => h) (Or.inr ⟨by rfl, rfl⟩) ?_;try simp only [tdy]
     refine tF 16 (hsT5) (fun _ h => h) ?_;try simp only [tdy]
     refine tF 17 (hsT5) (fun _ h => h) ?_;try simp only [tdy]
     refine tF 18 (hsT5) (fun _ h => h) ?_;try simp only [tdy]
     refine tF 19 (hsT5) (fun _ h => h) ?_;try simp only [tdy]
     refine tC 20 (v := .int .i64 (runR l2)) (hsT5) (fun _ h => h) (fun wq hSw => HRQ.out wq hSw) ?_;try simp only [tdy]
     refine tF 21 (hsT5) (fun _ h => h) ?_;try simp only [tdy]
     refine tC 22 (v := .int .i64 (runR l2)) (hsT5) (fun _ h => h) (fun wq hSw => HRP.out wq hSw) ?_;try simp only [tdy]
     refine tF 23 (hsT5) (fun _ h => h) ?_;try simp only [tdy]
     refine tF 24 (hsT5) (fun _ h => h) ?_;try simp only [tdy]
     refine tF 25 (hsT5) (fun _ h => h) ?_;try simp only [tdy]
     refine tF 26 (hsT5) (fun _ h => h) ?_;try simp only [tdy]
     refine tF 27 (hsT5) (fun _ h => h) ?_;try simp only [tdy]
     refine tF 28 (hsT5) (fun _ h => h) ?_;try simp only [tdy]
     refine tE 29 (v := ?_) (hsT5) (fun _ h => h) rfl (by kernel_rfl) (by rfl) ?_ ?_;rotate_left
     ·intro wq hSw;obtain ⟨x0, x1, x2, x3, x4, x5, x6⟩ := It.at It.zero (HXV12.out.below hSw);obtain ⟨y0, y1, y2, y3, y4, y5, y6⟩ := It.at It.zero (HYV.out.below hSw);obtain ⟨s0, s1⟩ := (HT12.out.below hSw).1.1.1.2.at;obtain ⟨u0, u1⟩ := (HT12.out.below hSw).1.2.1.2.at;go_simp; try with_reducible rfl
     try simp only [tdy]
     refine tC 30 (v := .int .u64 (IntKind.u64.wrap (b2 + by1))) (hsT5) (fun _ h => h) (fun wq hSw => HNP.out wq hSw) ?_;try simp only [tdy]
     refine tF 31 (hsT5) (fun _ h => h) ?_;try simp only [tdy]
     refine tF 32 (hsT5) (fun _ h => h) ?_;try simp only [tdy]
     refine tF 33 (hsT5) (fun _ h => h) ?_;try simp only [tdy]
     refine tE 34 (v := ?_) (hsT5) (fun _ h => h) rfl (by kernel_rfl) (by rfl) ?_ ?_;rotate_left
     ·intro wq hSw;obtain ⟨x0, x1, x2, x3, x4, x5, x6⟩ := It.at It.zero (HXV12.out.below hSw);obtain ⟨y0, y1, y2, y3, y4, y5, y6⟩ := It.at It.zero (HYV.out.below hSw);obtain ⟨s0, s1⟩ := (HT12.out.below hSw).1.1.1.2.at;obtain ⟨u0, u1⟩ := (HT12.out.below hSw).1.2.1.2.at;go_simp; try with_reducible rfl
     try simp only [tdy]
     refine tC 35 (v := .int .u64 b2) (hsT5) (fun _ h => h) (fun wq hSw => HNQ.out wq hSw) ?_;try simp only [tdy]
     refine tF 36 (hsT5) (fun _ h => h) ?_;try simp only [tdy]
     refine tF 37 (hsT5) (fun _ h => h) ?_;try simp only [tdy]
     refine tF 38 (hsT5) (fun _ h => h) ?_;try simp only [tdy]
     refine tF 39 (hsT5) (fun _ h => h) ?_;try simp only [tdy]
     refine wpAnyE_done (by kernel_rfl) (fun wz hSz => ?_) _;have HT13 := hid (HT12.out.below hSz);clear hSz HT12 HXV12 HYV HNQ HNP HRQ HRP;have HXE : Hid (NS w1 S q mb th rb S' q' mb' th' rb' by1 wz) := hid ⟨b2, t2, u2, l2, HB2.out, HT13.out⟩;clear HT13;go_wp2_with fail;go_roundg (n - (k + 1))
     case measure => have := HS.out; omega
     case rel => exact ⟨k + 1, by go_num, by omega, rfl, HXE.out⟩
  ·obtain rfl : k = n := by omega
   have hki : ¬ (k : Int) < k := by omega
   go_wp2_with fail;go_ret
   exact ⟨rfl, below_on HB1.out HBW.out⟩
end
end Go.Proofs.YtjndmmcjobbcbaaGreatDoor

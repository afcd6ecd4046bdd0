/- Texts of SettleShifts's proof, together. -/
import Derived.Test.YtjchnkmolhgpmaaGreatDoorSettleShiftsZ36
import Derived.Test.YtjchnkmolhgpmaaGreatDoorMpA
import Derived.Test.YtjchnkmolhgpmaaGreatDoorSettleShiftsZ29
import Derived.Test.YtjchnkmolhgpmaaGreatDoorOrdH
import Derived.Test.YtjchnkmolhgpmaaGreatDoorSettleShiftsZ28
import Derived.Test.YtjchnkmolhgpmaaGreatDoorRbM
import Derived.Test.YtjchnkmolhgpmaaGreatDoorSettleShiftsZ32
import Derived.Test.YtjchnkmolhgpmaaGreatDoorSpB
import Derived.Test.YtjchnkmolhgpmaaGreatDoorSettleShiftsZ25
import Derived.Test.YtjchnkmolhgpmaaGreatDoorBits
import Derived.Test.YtjchnkmolhgpmaaGreatDoorSettleShiftsZ0
import Derived.Test.YtjchnkmolhgpmaaGreatDoorWideD
import Derived.Test.YtjchnkmolhgpmaaGreatDoorTxt
import Derived.Test.YtjchnkmolhgpmaaGreatDoorSettleShiftsZ9
import Derived.Test.YtjchnkmolhgpmaaGreatDoorSettleShiftsZ7
import Derived.Test.YtjchnkmolhgpmaaGreatDoorOpen
import Derived.Test.YtjchnkmolhgpmaaGreatDoorSettleShiftsZ13
import Derived.Test.YtjchnkmolhgpmaaGreatDoorOpenN
import Derived.Test.YtjchnkmolhgpmaaGreatDoorCs
import Derived.Deep.LoopGhost
import Derived.Deep.QuietTactic
import Derived.BigQuiet
import Derived.Laws.OwnMore
import Derived.Deep.AppendLies
import Derived.Deep.RegionHeld3
import Derived.Deep.RegionWith
import Derived.OwnWalk
import Derived.Deep.CutBlock
import Derived.Deep.DeepCutAuto
import Derived.Shelf.Strings.Repeat
import Derived.Lib.ItoaNum
import Derived.OpenShut
import Derived.Deep.SlicePairs
import Derived.Laws.StructEq
namespace Go.Proofs.YtjchnkmolhgpmaaGreatDoor

section
open Go.RowKit
set_option maxRecDepth 100000
set_option maxHeartbeats 32000000
theorem DIn.chgF {F : List Nat} {w w' : World} {t : Tr It} : DIn w t → Chg F w w' → (∀ g ∈ t.blocks, g ∉ F) → DIn w' t := by
 induction t with
 | nil => intro _ _ _; trivial
 | node g c l x r ihl ihr =>
  intro h hc hd;obtain ⟨⟨v, hv, hcs⟩, hl, hr⟩ := h;exact ⟨⟨v, hv, hcs.chg hc (hd g (by simp [Tr.blocks]))⟩, ihl hl hc (fun k hk => hd k (by simp [Tr.blocks, hk])), ihr hr hc (fun k hk => hd k (by simp [Tr.blocks, hk]))⟩
theorem DEnv.chgF {F : List Nat} {w w' : World} {th : Nat} {root : Value} {n : Int} (h : DEnv w th root n) (hc : Chg F w w') (hF : ∀ g ∈ F, ∀ f a c, w.cell? ⟨g, 0, none⟩ ≠ some (.func f a c)) : DEnv w' th root n := by
 obtain ⟨b1, b2, h0, h1, h2, n0, n1, n2, n3, n4⟩ := h;have f0 : th ∉ F := fun hf => hF _ hf _ _ _ h0.at0
 have f1 : b1 ∉ F := fun hf => hF _ hf _ _ _ h1.at0
 have f2 : b2 ∉ F := fun hf => hF _ hf _ _ _ h2.at0
 exact ⟨b1, b2, h0.chg hc f0, h1.chg hc f1, h2.chg hc f2, (hc.cell (p := ⟨th, 14, none⟩) h0.lt f0).trans n0, (hc.cell (p := ⟨b1, 14, none⟩) h1.lt f1).trans n1, (hc.cell (p := ⟨b2, 14, none⟩) h2.lt f2).trans n2, n3, n4⟩
theorem DTreeAt.far {F : List Nat} {w w' : World} {th : Nat} {t : Tr It} (h : DTreeAt w th t) (hc : Chg F w w') (hF : ∀ g ∈ F, ∀ f a c, w.cell? ⟨g, 0, none⟩ ≠ some (.func f a c)) (hd : ∀ g ∈ t.blocks, g ∉ F) : DTreeAt w' th t :=
 ⟨h.1.chgF hc hF, h.2.1.chgF hc hd, h.2.2⟩
theorem DTreeAt.func {w : World} {th : Nat} {t : Tr It} (h : DTreeAt w th t) : ∃ f a c, w.cell? ⟨th, 0, none⟩ = some (.func f a c) := by
 obtain ⟨⟨b1, b2, h0, _⟩, _⟩ := h;exact ⟨_, _, _, h0.at0⟩
def qcells (m : Mu) (mb th : Nat) : List Value := [.int .u64 m.b, .int .i64 (hiW m.a), .int .u64 (loW m.a), .int .u64 m.w, .int .i64 m.n, .map (some mb), .pointer (some ⟨th, 0, none⟩)]
def QAt (w : World) (q mb th : Nat) (m : Mu) (t : Tr It) : Prop :=
 (Cs w q (qcells m mb th) ∧ MpI w mb t.list ∧ DTreeAt w th t) ∧ (q ≠ mb ∧ q ∉ t.blocks ∧ mb ∉ t.blocks) ∧ m.In ∧ InI t.list ∧ t.list.length ≤ 32
theorem QAt.below {w w' : World} {q mb th : Nat} {m : Mu} {t : Tr It} (h : QAt w q mb th m t) (hb : Below w.heap.size w w') : QAt w' q mb th m t :=
 ⟨⟨h.1.1.below hb, h.1.2.1.below hb, h.1.2.2.below hb⟩, h.2⟩
theorem QAt.at {w : World} {q mb th : Nat} {m : Mu} {t : Tr It} (h : QAt w q mb th m t) : w.cell? ⟨q, 0, none⟩ = some (.int .u64 m.b) ∧ w.cell? ⟨q, 1, none⟩ = some (.int .i64 (hiW m.a)) ∧ w.cell? ⟨q, 2, none⟩ = some (.int .u64 (loW m.a)) ∧ w.cell? ⟨q, 3, none⟩ = some (.int .u64 m.w) ∧ w.cell? ⟨q, 4, none⟩ = some (.int .i64 m.n) ∧ w.cell? ⟨q, 5, none⟩ = some (.map (some mb)) ∧ w.cell? ⟨q, 6, none⟩ = some (.pointer (some ⟨th, 0, none⟩)) :=
 ⟨(h.1.1 0 _ rfl).1, (h.1.1 1 _ rfl).1, (h.1.1 2 _ rfl).1, (h.1.1 3 _ rfl).1, (h.1.1 4 _ rfl).1, (h.1.1 5 _ rfl).1, (h.1.1 6 _ rfl).1⟩
theorem QAt.lt {w : World} {q mb th : Nat} {m : Mu} {t : Tr It} (h : QAt w q mb th m t) : q < w.heap.size ∧ mb < w.heap.size ∧ th < w.heap.size :=
 ⟨h.1.1.lt, h.1.2.1.lt, by obtain ⟨⟨_, _, t0, _⟩, _⟩ := h.1.2.2; exact t0.lt⟩
def foot (q mb th : Nat) (t : Tr It) : List Nat := q :: mb :: th :: t.blocks
def QNew (c : Int) (w : World) (e : Ending) (w' : World) : Prop := ∃ q mb th, e = .returned (.pointer (some ⟨q, 0, none⟩)) ∧ QAt w' q mb th ⟨c, 0, 0, 0⟩ .nil ∧ (∀ g ∈ foot q mb th .nil, w.heap.size ≤ g) ∧ Below w.heap.size w w'
theorem Built.of_nil {t : Tr It} (h : Built [] t) : t = .nil := h.nil_inv rfl
theorem Queue.new (c : Int) (hc : IsT c) (w : World) : Calls Tryz.prog 50 #[.int .u64 c] w (QNew c w) := by
 have hmm := @run_makeMap Tryz.prog;have HC := hid hc;have HM0 := hid (MpI.made w);have HB0 := hid ((Below.refl w.heap.size w).alloc (Nat.le_refl _) (.map #[] 0));clear hc;go_enter Tryz.func50, Tryz.ntmps50;go_wp2_with fail;refine (Dtree.new none 0 0 [] _ ⟨rfl, fun i hi => absurd hi (by omega)⟩ (by intro x hx; cases hx) (by omega)).mono ?_;rintro e w1 ⟨th, t, rfl, hbt, hg⟩;obtain rfl := hbt.of_nil;have HF : Hid (QAt (w1.alloc (.cells #[.int .u64 c, .int .i64 0, .int .u64 0, .int .u64 0, .int .i64 0, .map (some w.heap.size), .pointer (some ⟨th, 0, none⟩)] 117)) w1.heap.size w.heap.size th ⟨c, 0, 0, 0⟩ .nil ∧ (∀ g ∈ foot w1.heap.size w.heap.size th .nil, w.heap.size ≤ g) ∧ Below w.heap.size w (w1.alloc (.cells #[.int .u64 c, .int .i64 0, .int .u64 0, .int .u64 0, .int .i64 0, .map (some w.heap.size), .pointer (some ⟨th, 0, none⟩)] 117))) := hid (by
  have ha := (Below.refl w1.heap.size w1).alloc (Nat.le_refl _) (.cells #[.int .u64 c, .int .i64 0, .int .u64 0, .int .u64 0, .int .i64 0, .map (some w.heap.size), .pointer (some ⟨th, 0, none⟩)] 117);have hq := Cs.alloc_new w1 117 [.int .u64 c, .int .i64 0, .int .u64 0, .int .u64 0, .int .i64 0, .map (some w.heap.size), .pointer (some ⟨th, 0, none⟩)];have hm := HM0.out.below hg.2.2.2;have hsz := hg.2.2.2.size;simp only [World.size_alloc] at hsz;have hth := hg.2.1;simp only [World.size_alloc] at hth;refine ⟨⟨⟨?_, hm.below ha, hg.1.below ha⟩, ⟨by omega, by simp [Tr.blocks], by simp [Tr.blocks]⟩, ?_, (by intro x hx; cases hx), by simp [Tr.list]⟩, ?_, below_on (below_on HB0.out hg.2.2.2) ha⟩
  ·unfold qcells; rw [show hiW 0 = 0 by decide, show loW 0 = 0 by decide]; exact hq
  ·unfold Mu.In WR; exact ⟨HC.out, ⟨by simp, by simp⟩, ⟨by simp, by simp⟩, ⟨by simp, by simp⟩⟩
  ·intro g hg';simp [foot, Tr.blocks] at hg';rcases hg' with rfl | rfl | rfl <;> omega)
 clear hbt hg HM0 HB0;go_wp2_with fail;go_ret
 exact ⟨_, _, _, rfl, HF.out⟩
theorem Queue.find_yes (q mb th : Nat) (m : Mu) (t : Tr It) (x : It) (hx : x ∈ t.list) (w : World) (h : QAt w q mb th m t) : Calls Tryz.prog 48 #[(.pointer (some ⟨q, 0, none⟩)), .int .i64 x.i] w (Ans (.tuple #[x.val, .int .i64 0]) w) := by
 have ha := (Below.refl w.heap.size w).alloc (Nat.le_refl _) (.cells #[.int .u64 0, .int .u32 0, .int .u32 0, .int .i64 0, .int .u64 0, .int .u32 0, .int .u32 0] 57);have HB0 := hid ha;have HQ0 := hid (h.below ha);have HZ : Hid (Cs (w.alloc (.cells #[.int .u64 0, .int .u32 0, .int .u32 0, .int .i64 0, .int .u64 0, .int .u32 0, .int .u32 0] 57)) w.heap.size It.zero.cells) := hid (Cs.new7 w 57 It.zero);have hlk := HQ0.out.1.2.1.yes hx (h.2.2.2.1 x hx);clear ha h hx;unfold It.val at hlk;go_enter Tryz.func48, Tryz.ntmps48;go_upto_region 1 with fail;generalize (w.alloc (.cells #[.int .u64 0, .int .u32 0, .int .u32 0, .int .i64 0, .int .u64 0, .int .u32 0, .int .u32 0] 57)) = W0 at HQ0 HB0 HZ hlk ⊢;obtain ⟨_, _, _, _, _, k5, _⟩ := HQ0.out.at;have HX : Hid (Cs (W0.alloc (.cells #[.int .u64 x.t, .int .u32 x.r, .int .u32 x.v, .int .i64 x.i, .int .u64 x.u, .int .u32 x.s, .int .u32 x.y] 57)) W0.heap.size x.cells) := hid (Cs.new7 W0 57 x);have HZ1 := hid (HZ.out.alloc (.cells #[.int .u64 x.t, .int .u32 x.r, .int .u32 x.v, .int .i64 x.i, .int .u64 x.u, .int .u32 x.s, .int .u32 x.y] 57));have HB1 := hid (HB0.out.alloc HB0.out.size (.cells #[.int .u64 x.t, .int .u32 x.r, .int .u32 x.v, .int .i64 x.i, .int .u64 x.u, .int .u32 x.s, .int .u32 x.y] 57));go_upto_region 4 with fail;clear hlk k5 HQ0 HB0 HZ;generalize W0.alloc (.cells #[.int .u64 x.t, .int .u32 x.r, .int .u32 x.v, .int .i64 x.i, .int .u64 x.u, .int .u32 x.s, .int .u32 x.y] 57) = W1 at HX HZ1 HB1 ⊢;generalize W0.heap.size = gx at HX ⊢
 obtain ⟨x0, x1, x2, x3, x4, x5, x6⟩ := It.at x HX.out;go_wp2_with (first | ((with_reducible refine pc 57 x.cells infoItem 4 23 w.heap.size _ HZ1.out ?qb1f); (intro W2 hW2); (have HY := hid (show Cs W2 w.heap.size x.cells ∧ Below w.heap.size w W2 by subst hW2; exact ⟨Cs.putL x.cells 0 HZ1.out (by simp [It.cells]), below_sets (Nat.le_refl _) _ _ HB1.out⟩)); (clear hW2 x0 x1 x2 x3 x4 x5 x6); (obtain ⟨z0, z1, z2, z3, z4, z5, z6⟩ := It.at x HY.out.1)) | fail);refine bodyPost_ret (v := .tuple #[x.val, .int .i64 0]) (by simp [results, Tryz.results48, go_sem, z0, z1, z2, z3, z4, z5, z6, It.val]) rfl ⟨rfl, HY.out.2⟩
theorem Queue.find_no (q mb th : Nat) (m : Mu) (t : Tr It) (i : Int) (hi : -9223372036854775808 ≤ i ∧ i ≤ 9223372036854775807) (hn : ∀ x ∈ t.list, x.i ≠ i) (w : World) (h : QAt w q mb th m t) : Calls Tryz.prog 48 #[(.pointer (some ⟨q, 0, none⟩)), .int .i64 i] w (Ans (.tuple #[It.zero.val, .int .i64 14]) w) := by
 have ha := (Below.refl w.heap.size w).alloc (Nat.le_refl _) (.cells #[.int .u64 0, .int .u32 0, .int .u32 0, .int .i64 0, .int .u64 0, .int .u32 0, .int .u32 0] 57);have HB0 := hid ha;have HQ0 := hid (h.below ha);have HZ : Hid (Cs (w.alloc (.cells #[.int .u64 0, .int .u32 0, .int .u32 0, .int .i64 0, .int .u64 0, .int .u32 0, .int .u32 0] 57)) w.heap.size It.zero.cells) := hid (Cs.new7 w 57 It.zero);have hlk := HQ0.out.1.2.1.no hi hn;clear ha h hn hi;unfold It.val at hlk;go_enter Tryz.func48, Tryz.ntmps48;go_upto_region 1 with fail;generalize (w.alloc (.cells #[.int .u64 0, .int .u32 0, .int .u32 0, .int .i64 0, .int .u64 0, .int .u32 0, .int .u32 0] 57)) = W0 at HQ0 HB0 HZ hlk ⊢;obtain ⟨_, _, _, _, _, k5, _⟩ := HQ0.out.at;have HZ1 := hid (HZ.out.alloc (.cells #[.int .u64 0, .int .u32 0, .int .u32 0, .int .i64 0, .int .u64 0, .int .u32 0, .int .u32 0] 57));have HB1 := hid (HB0.out.alloc HB0.out.size (.cells #[.int .u64 0, .int .u32 0, .int .u32 0, .int .i64 0, .int .u64 0, .int .u32 0, .int .u32 0] 57));go_upto_region 4 with fail;clear hlk k5 HQ0 HB0 HZ;generalize W0.alloc (.cells #[.int .u64 0, .int .u32 0, .int .u32 0, .int .i64 0, .int .u64 0, .int .u32 0, .int .u32 0] 57) = W1 at HZ1 HB1 ⊢;go_wp2_with (first | ((with_reducible refine pc 57 It.zero.cells infoItem 4 22 w.heap.size _ HZ1.out ?qb2f); (intro W2 hW2); (have HY := hid (show Cs W2 w.heap.size It.zero.cells ∧ Below w.heap.size w W2 by subst hW2; exact ⟨Cs.putL It.zero.cells 0 HZ1.out (by simp [It.cells]), below_sets (Nat.le_refl _) _ _ HB1.out⟩)); (clear hW2); (obtain ⟨z0, z1, z2, z3, z4, z5, z6⟩ := It.at It.zero HY.out.1)) | fail)
 refine bodyPost_ret (v := .tuple #[It.zero.val, .int .i64 14]) (by simp [results, Tryz.results48, go_sem, z0, z1, z2, z3, z4, z5, z6, It.val]) rfl ⟨rfl, HY.out.2⟩
def ItsA (l : List It) (w : World) (e : Ending) (w' : World) : Prop := ∃ A c, e = .returned (.slice A l.length c) ∧ OwnI w' w.heap.size A l.length c l ∧ Below w.heap.size w w'
theorem Queue.items (q mb th : Nat) (m : Mu) (t : Tr It) (w : World) (h : QAt w q mb th m t) : Calls Tryz.prog 80 #[(.pointer (some ⟨q, 0, none⟩))] w (ItsA t.list w) := by
 have HQ := hid h;obtain ⟨_, _, _, _, _, _, k6⟩ := h.at;clear h;go_enter Tryz.func80, Tryz.ntmps80;go_wp2_with fail;refine (Dt.all th t _ HQ.out.1.2.2 (by have := HQ.out.2.2.2.2; omega)).mono ?_;rintro e w1 ⟨A, n, c, rfl, ho, hb, _⟩;obtain rfl := ho.len;have HO := hid ho;have HB := hid hb;clear ho hb;go_wp2_with fail;go_ret
 exact ⟨A, c, rfl, HO.out, HB.out⟩
theorem Queue.now (q mb th : Nat) (m : Mu) (t : Tr It) (w : World) (h : QAt w q mb th m t) : Calls Tryz.prog 23 #[(.pointer (some ⟨q, 0, none⟩))] w (Ans (.int .u64 m.b) w) := by
 obtain ⟨k0, _, _, _, _, _, _⟩ := h.at;clear h;go_enter Tryz.func23, Tryz.ntmps23;go_wp2_with fail;go_ret
 exact ⟨rfl, Below.refl _ _⟩
end


section
open Go.RowKit
theorem Tr.list_perm_put {lt : It → It → Bool} {k : Nat} {x : It} {t : Tr It} {l : List It} (h : (Tr.put lt k x t).list = insI x l) (e : t.list = l) : ((Tr.put lt k x t).paint false).list.Perm (x :: t.list) := by
 rw [Tr.list_paint, h, e];exact ((insI_perm x l).symm.trans (by rw [List.perm_comm]; exact (List.perm_append_singleton x l).symm))
theorem QAt.funcs {w : World} {q mb th : Nat} {m : Mu} {t : Tr It} (h : QAt w q mb th m t) : (∀ f a c, w.cell? ⟨q, 0, none⟩ ≠ some (.func f a c)) ∧ (∀ f a c, w.cell? ⟨mb, 0, none⟩ ≠ some (.func f a c)) ∧ q ≠ th ∧ mb ≠ th := by
 have h0 := h.at.1;have h1 := h.1.2.1.cell 0;obtain ⟨f, a, c, hf⟩ := h.1.2.2.func;exact ⟨fun f a c e => (by rw [h0] at e; cases e), fun f a c e => (by rw [h1] at e; cases e), fun e => (by rw [← e, h0] at hf; cases hf), fun e => (by rw [← e, h1] at hf; cases hf)⟩
theorem QAt.mean {w : World} {q mb th : Nat} {m : Mu} {t : Tr It} (h : QAt w q mb th m t) {k : Mu} (hk : k.In) {W : World} (hW : W = w.setCells q 0 k.cells) : QAt W q mb th k t ∧ Chg [q] w W := by
 have hc : Chg [q] w W := by rw [hW]; exact Chg.sets _ _ (Chg.refl _ _) (Or.inl (by simp))
 refine ⟨⟨⟨?_, h.1.2.1.chg hc (by simpa using fun e => h.2.1.1 e.symm), h.1.2.2.far hc (fun g hg => by simp at hg; subst hg; exact h.funcs.1) (fun g hg => by simp; rintro rfl; exact h.2.1.2.1 hg)⟩, h.2.1, hk, h.2.2.2⟩, hc⟩;rw [hW];exact Cs.putL k.cells 0 h.1.1 (by simp [Mu.cells, qcells])
def QPut (q mb th : Nat) (m : Mu) (t : Tr It) (x : It) (w w' : World) : Prop := ∃ k, w.heap.size ≤ k ∧ QAt w' q mb th m ((Tr.put It.ahead k x t).paint false) ∧ Chg (foot q mb th t) w w'
theorem put_in {x : It} {l k : List It} (hx : x.In) (h : InI l) (p : k.Perm (x :: l)) : InI k := fun y hy => by
 rcases List.mem_cons.1 (p.mem_iff.1 hy) with rfl | g
 ·exact hx
 ·exact h y g
set_option maxRecDepth 100000 in
set_option maxHeartbeats 8000000 in
theorem Queue.put (q mb th : Nat) (m : Mu) (t : Tr It) (x : It) (hx : x.In) (hi : ∀ y ∈ t.list, y.i ≠ x.i) (hh : Tr.has It.ahead x t = false) (hp : ∀ k, (Tr.put It.ahead k x t).list = insI x t.list) (hl : t.list.length < 32) (w : World) (h : QAt w q mb th m t) :
  Calls Tryz.prog 92 #[(.pointer (some ⟨q, 0, none⟩)), x.val] w (fun e w' => e = .returned (.tuple #[]) ∧ QPut q mb th m t x w w') := by
 have ha := (Below.refl w.heap.size w).alloc (Nat.le_refl _) (.cells #[.int .u64 x.t, .int .u32 x.r, .int .u32 x.v, .int .i64 x.i, .int .u64 x.u, .int .u32 x.s, .int .u32 x.y] 57);have HB0 := hid ha;have HQ0 : Hid ((QAt (w.alloc (.cells #[.int .u64 x.t, .int .u32 x.r, .int .u32 x.v, .int .i64 x.i, .int .u64 x.u, .int .u32 x.s, .int .u32 x.y] 57)) q mb th m t ∧ Cs (w.alloc (.cells #[.int .u64 x.t, .int .u32 x.r, .int .u32 x.v, .int .i64 x.i, .int .u64 x.u, .int .u32 x.s, .int .u32 x.y] 57)) w.heap.size x.cells) ∧ Below w.heap.size w (w.alloc (.cells #[.int .u64 x.t, .int .u32 x.r, .int .u32 x.v, .int .i64 x.i, .int .u64 x.u, .int .u32 x.s, .int .u32 x.y] 57))) := hid ⟨⟨h.below ha, Cs.new7 w 57 x⟩, ha⟩;have HX := hid hx;have HI := hid hi;have HH := hid hh;have HP := hid hp;have HL := hid hl;have HLT := hid h.lt;clear ha h hx hi hh hp hl HB0;unfold It.val;go_enter Tryz.func92, Tryz.ntmps92;go_upto_region 1 with fail;generalize (w.alloc (.cells #[.int .u64 x.t, .int .u32 x.r, .int .u32 x.v, .int .i64 x.i, .int .u64 x.u, .int .u32 x.s, .int .u32 x.y] 57)) = W0 at HQ0 ⊢;have hsT1 : Stays (fun wx => (QAt wx q mb th m t ∧ Cs wx w.heap.size x.cells) ∧ Below w.heap.size w wx) := fun _ _ h hb => ⟨⟨h.1.1.below hb, h.1.2.below hb⟩, below_on h.2 hb⟩
 refine wp_region_grow (S := fun wx => (QAt wx q mb th m t ∧ Cs wx w.heap.size x.cells) ∧ Below w.heap.size w wx) 7 (by kernel_rfl) (hsT1 _ _ (HQ0.out) (Below.refl _ _).drew) ?_;refine tF 0 (hsT1) (fun _ h => h) ?_;try simp only [tdy]
 refine tF 1 (hsT1) (fun _ h => h) ?_;try simp only [tdy]
 refine tF 2 (hsT1) (fun _ h => h) ?_;try simp only [tdy]
 refine tE 3 (v := ?_) (hsT1) (fun _ h => h) rfl (by kernel_rfl) (by rfl) ?_ ?_;rotate_left
 ·intro wq hSw;obtain ⟨_, _, _, _, _, k5, k6⟩ := hSw.1.1.at;obtain ⟨q0, q1, q2, q3, q4, q5, q6⟩ := It.at x hSw.1.2;go_simp; try with_reducible rfl
 try simp only [tdy]
 refine tF 4 (hsT1) (fun _ h => h) ?_;try simp only [tdy]
 refine tE 5 (v := ?_) (hsT1) (fun _ h => h) rfl (by kernel_rfl) (by rfl) ?_ ?_;rotate_left
 ·intro wq hSw;obtain ⟨_, _, _, _, _, k5, k6⟩ := hSw.1.1.at;obtain ⟨q0, q1, q2, q3, q4, q5, q6⟩ := It.at x hSw.1.2;go_simp; try with_reducible rfl
 try simp only [tdy]
 refine tE 6 (v := ?_) (hsT1) (fun _ h => h) rfl (by kernel_rfl) (by rfl) ?_ ?_;rotate_left
 ·intro wq hSw;obtain ⟨_, _, _, _, _, k5, k6⟩ := hSw.1.1.at;obtain ⟨q0, q1, q2, q3, q4, q5, q6⟩ := It.at x hSw.1.2;go_simp; try with_reducible rfl
 try simp only [tdy]
 refine wpAnyE_rest (n := 7) rfl rfl (by kernel_rfl) (fun wz hSz => ?_);simp only [List.toList_toArray, List.drop_succ_cons, List.drop_zero];have HQ1 := hid hSz;clear hSz HQ0;obtain ⟨w2, hrun, hm2, hc2⟩ := HQ1.out.1.1.1.2.1.put HX.out HI.out (by have := HL.out; omega);have HM2 := hid hm2;have HC2 := hid hc2;have HC1 : Hid (Chg (foot q mb th t) w w2) := hid ((Chg.below (F := foot q mb th t) HQ1.out.2).trans hc2 (fun g hg => Or.inl (by simp at hg; subst hg; simp [foot])));have HBZ := hid HQ1.out.2;unfold It.val at hrun;have HX2 : Hid (Cs w2 w.heap.size x.cells) := hid (HQ1.out.1.2.chg hc2 (by simp; have := HLT.out; omega));have HN : Hid (mb ∉ t.blocks ∧ q ≠ mb ∧ q ∉ t.blocks ∧ q ≠ th ∧ mb ≠ th) := hid ⟨HQ1.out.1.1.2.1.2.2, HQ1.out.1.1.2.1.1, HQ1.out.1.1.2.1.2.1, HQ1.out.1.1.funcs.2.2.1, HQ1.out.1.1.funcs.2.2.2⟩;have HT2 : Hid (DTreeAt w2 th t) := hid (HQ1.out.1.1.1.2.2.far hc2 (fun g hg => by simp at hg; subst hg; exact HQ1.out.1.1.funcs.2.1) (fun g hg => by simp; rintro rfl; exact HN.out.1 hg));have HQC : Hid (Cs w2 q (qcells m mb th)) := hid (HQ1.out.1.1.1.1.chg hc2 (by simp; exact HN.out.2.1));have HMI := hid HQ1.out.1.1.2.2;have hk6 : w2.cell? ⟨q, 6, none⟩ = some (.pointer (some ⟨th, 0, none⟩)) := (HQC.out 6 _ rfl).1;have HK6 := hid hk6;clear hm2 hc2 HQ1 hk6;go_wp2_with fail;clear hrun;have hsT2 : Stays (fun wx => (Cs wx q (qcells m mb th) ∧ Cs wx w.heap.size x.cells) ∧ Below w2.heap.size w2 wx) := fun _ _ h hb => ⟨⟨h.1.1.below hb, h.1.2.below hb⟩, below_on h.2 hb⟩
 refine wp_region_grow (S := fun wx => (Cs wx q (qcells m mb th) ∧ Cs wx w.heap.size x.cells) ∧ Below w2.heap.size w2 wx) 6 (by kernel_rfl) (hsT2 _ _ (⟨⟨HQC.out, HX2.out⟩, Below.refl _ _⟩) (Below.refl _ _).drew) ?_;refine tF 0 (hsT2) (fun _ h => h) ?_;try simp only [tdy]
 refine tF 1 (hsT2) (fun _ h => h) ?_;try simp only [tdy]
 refine tF 2 (hsT2) (fun _ h => h) ?_;try simp only [tdy]
 refine tF 3 (hsT2) (fun _ h => h) ?_;try simp only [tdy]
 refine tE 4 (v := ?_) (hsT2) (fun _ h => h) rfl (by kernel_rfl) (by rfl) ?_ ?_;rotate_left
 ·intro wq hSw;have k6 : wq.cell? ⟨q, 6, none⟩ = some (.pointer (some ⟨th, 0, none⟩)) := (hSw.1.1 6 _ rfl).1;obtain ⟨q0, q1, q2, q3, q4, q5, q6⟩ := It.at x hSw.1.2;go_simp; try with_reducible rfl
 try simp only [tdy]
 refine tE 5 (v := ?_) (hsT2) (fun _ h => h) rfl (by kernel_rfl) (by rfl) ?_ ?_;rotate_left
 ·intro wq hSw;have k6 : wq.cell? ⟨q, 6, none⟩ = some (.pointer (some ⟨th, 0, none⟩)) := (hSw.1.1 6 _ rfl).1;obtain ⟨q0, q1, q2, q3, q4, q5, q6⟩ := It.at x hSw.1.2;go_simp; try with_reducible rfl
 try simp only [tdy]
 refine wpAnyE_rest (n := 6) rfl rfl (by kernel_rfl) (fun wz hSz => ?_);simp only [List.toList_toArray, List.drop_succ_cons, List.drop_zero];have HQ3 := hid hSz;clear hSz;go_wp2_with fail;refine (Dt.insert th t x HX.out _ (HT2.out.below HQ3.out.2) (by have := HL.out; omega) HH.out).mono ?_;rintro e w4 ⟨k, hk, rfl, ht4, hc4⟩;have hkz := HQ3.out.2.size;have hbz := HBZ.out.size;have hc2 := HC2.out;have hsz := hc2.size;have hpl : ((Tr.put It.ahead k x t).paint false).list.Perm (x :: t.list) := Tr.list_perm_put (HP.out k) rfl;have hbl : ∀ g ∈ ((Tr.put It.ahead k x t).paint false).blocks, g = k ∨ g ∈ t.blocks := fun g hg => by
  rw [Tr.blocks_paint] at hg;simpa using (Tr.perm_put It.ahead k x t).mem_iff.1 hg
 have hlt := HLT.out;have HFIN : Hid (QPut q mb th m t x w w4) := hid (by
  refine ⟨k, by omega, ⟨⟨(HQ3.out.1.1).chg hc4 (by simp; exact ⟨HN.out.2.2.2.1, HN.out.2.2.1⟩), ((HM2.out.below HQ3.out.2).chg hc4 (by simp; exact ⟨HN.out.2.2.2.2, HN.out.1⟩)).perm hpl.symm, ht4⟩, ⟨HN.out.2.1, fun hg => by rcases hbl _ hg with rfl | hg; omega; exact HN.out.2.2.1 hg, fun hg => by rcases hbl _ hg with rfl | hg; omega; exact HN.out.1 hg⟩, HMI.out.1, put_in HX.out HMI.out.2.1 hpl, by rw [hpl.length_eq]; simp; have := HL.out; omega⟩, ?_⟩;exact (HC1.out.on HQ3.out.2).trans hc4 (fun g hg => Or.inl (by unfold foot; exact List.mem_cons_of_mem _ (List.mem_cons_of_mem _ hg))))
 clear ht4 hc4 hpl hbl hkz hbz hc2 hsz hlt;go_wp2_with fail;refine bodyPost_end (v := .tuple #[]) (by simp [results, Tryz.results92, go_sem]) rfl ⟨rfl, HFIN.out⟩
end


section
open Go.RowKit
set_option maxRecDepth 100000 in
set_option maxHeartbeats 8000000 in
theorem Queue.drop (q mb th : Nat) (m : Mu) (t : Tr It) (x : It) (hx : x.In) (A B : List It) (hl : t.list = A ++ x :: B) (hi : ∀ y ∈ A ++ B, y.i ≠ x.i) (hh : Tr.has It.ahead x t = true) (hp : Tr.Pre It.ahead x t) (hs : Tr.Has It.ahead x A x B) (he : (Tr.rem It.ahead t.size x t).list = A ++ B) (w : World) (h : QAt w q mb th m t) :
  Calls Tryz.prog 98 #[(.pointer (some ⟨q, 0, none⟩)), x.val] w (fun e w' => e = .returned (.tuple #[]) ∧ QAt w' q mb th m ((Tr.rem It.ahead t.size x t).paint false) ∧ Chg (foot q mb th t) w w') := by
 have ha := (Below.refl w.heap.size w).alloc (Nat.le_refl _) (.cells #[.int .u64 x.t, .int .u32 x.r, .int .u32 x.v, .int .i64 x.i, .int .u64 x.u, .int .u32 x.s, .int .u32 x.y] 57);have HB0 := hid ha;have HQ0 : Hid ((QAt (w.alloc (.cells #[.int .u64 x.t, .int .u32 x.r, .int .u32 x.v, .int .i64 x.i, .int .u64 x.u, .int .u32 x.s, .int .u32 x.y] 57)) q mb th m t ∧ Cs (w.alloc (.cells #[.int .u64 x.t, .int .u32 x.r, .int .u32 x.v, .int .i64 x.i, .int .u64 x.u, .int .u32 x.s, .int .u32 x.y] 57)) w.heap.size x.cells) ∧ Below w.heap.size w (w.alloc (.cells #[.int .u64 x.t, .int .u32 x.r, .int .u32 x.v, .int .i64 x.i, .int .u64 x.u, .int .u32 x.s, .int .u32 x.y] 57))) := hid ⟨⟨h.below ha, Cs.new7 w 57 x⟩, ha⟩;have HX := hid hx;have HI := hid hi;have HH := hid hh;have HP := hid hp;have HS := hid hs;have HE := hid he;have HL := hid hl;have HLT := hid h.lt;clear ha h hx hi hh hp hl hs he HB0;unfold It.val;go_enter Tryz.func98, Tryz.ntmps98;go_upto_region 1 with fail;generalize (w.alloc (.cells #[.int .u64 x.t, .int .u32 x.r, .int .u32 x.v, .int .i64 x.i, .int .u64 x.u, .int .u32 x.s, .int .u32 x.y] 57)) = W0 at HQ0 ⊢;have hsT1 : Stays (fun wx => (QAt wx q mb th m t ∧ Cs wx w.heap.size x.cells) ∧ Below w.heap.size w wx) := fun _ _ h hb => ⟨⟨h.1.1.below hb, h.1.2.below hb⟩, below_on h.2 hb⟩
 refine wp_region_grow (S := fun wx => (QAt wx q mb th m t ∧ Cs wx w.heap.size x.cells) ∧ Below w.heap.size w wx) 6 (by kernel_rfl) (hsT1 _ _ (HQ0.out) (Below.refl _ _).drew) ?_;refine tF 0 (hsT1) (fun _ h => h) ?_;try simp only [tdy]
 refine tF 1 (hsT1) (fun _ h => h) ?_;try simp only [tdy]
 refine tF 2 (hsT1) (fun _ h => h) ?_;try simp only [tdy]
 refine tE 3 (v := ?_) (hsT1) (fun _ h => h) rfl (by kernel_rfl) (by rfl) ?_ ?_;rotate_left
 ·intro wq hSw;obtain ⟨_, _, _, _, _, k5, k6⟩ := hSw.1.1.at;obtain ⟨q0, q1, q2, q3, q4, q5, q6⟩ := It.at x hSw.1.2;go_simp; try with_reducible rfl
 try simp only [tdy]
 refine tF 4 (hsT1) (fun _ h => h) ?_;try simp only [tdy]
 refine tE 5 (v := ?_) (hsT1) (fun _ h => h) rfl (by kernel_rfl) (by rfl) ?_ ?_;rotate_left
 ·intro wq hSw;obtain ⟨_, _, _, _, _, k5, k6⟩ := hSw.1.1.at;obtain ⟨q0, q1, q2, q3, q4, q5, q6⟩ := It.at x hSw.1.2;go_simp; try with_reducible rfl
 try simp only [tdy]
 refine wpAnyE_rest (n := 6) rfl rfl (by kernel_rfl) (fun wz hSz => ?_);simp only [List.toList_toArray, List.drop_succ_cons, List.drop_zero];have HQ1 := hid hSz;clear hSz HQ0;obtain ⟨w2, hrun, hm2, hc2⟩ := HQ1.out.1.1.1.2.1.del (k := A ++ B) HX.out (by rw [HL.out]; exact List.perm_middle) HI.out 0;have HM2 := hid hm2;have HC2 := hid hc2;have HC1 : Hid (Chg (foot q mb th t) w w2) := hid ((Chg.below (F := foot q mb th t) HQ1.out.2).trans hc2 (fun g hg => Or.inl (by simp at hg; subst hg; simp [foot])));have HBZ := hid HQ1.out.2;have HX2 : Hid (Cs w2 w.heap.size x.cells) := hid (HQ1.out.1.2.chg hc2 (by simp; have := HLT.out; omega));have HN : Hid (mb ∉ t.blocks ∧ q ≠ mb ∧ q ∉ t.blocks ∧ q ≠ th ∧ mb ≠ th) := hid ⟨HQ1.out.1.1.2.1.2.2, HQ1.out.1.1.2.1.1, HQ1.out.1.1.2.1.2.1, HQ1.out.1.1.funcs.2.2.1, HQ1.out.1.1.funcs.2.2.2⟩;have HT2 : Hid (DTreeAt w2 th t) := hid (HQ1.out.1.1.1.2.2.far hc2 (fun g hg => by simp at hg; subst hg; exact HQ1.out.1.1.funcs.2.1) (fun g hg => by simp; rintro rfl; exact HN.out.1 hg));have HQC : Hid (Cs w2 q (qcells m mb th)) := hid (HQ1.out.1.1.1.1.chg hc2 (by simp; exact HN.out.2.1));have HMI := hid HQ1.out.1.1.2.2;have hk6 : w2.cell? ⟨q, 6, none⟩ = some (.pointer (some ⟨th, 0, none⟩)) := (HQC.out 6 _ rfl).1;have HK6 := hid hk6;clear hm2 hc2 HQ1 hk6;go_wp2_with fail;clear hrun;have hsT2 : Stays (fun wx => (Cs wx q (qcells m mb th) ∧ Cs wx w.heap.size x.cells) ∧ Below w2.heap.size w2 wx) := fun _ _ h hb => ⟨⟨h.1.1.below hb, h.1.2.below hb⟩, below_on h.2 hb⟩
 refine wp_region_grow (S := fun wx => (Cs wx q (qcells m mb th) ∧ Cs wx w.heap.size x.cells) ∧ Below w2.heap.size w2 wx) 6 (by kernel_rfl) (hsT2 _ _ (⟨⟨HQC.out, HX2.out⟩, Below.refl _ _⟩) (Below.refl _ _).drew) ?_;refine tF 0 (hsT2) (fun _ h => h) ?_;try simp only [tdy]
 refine tF 1 (hsT2) (fun _ h => h) ?_;try simp only [tdy]
 refine tF 2 (hsT2) (fun _ h => h) ?_;try simp only [tdy]
 refine tF 3 (hsT2) (fun _ h => h) ?_;try simp only [tdy]
 refine tE 4 (v := ?_) (hsT2) (fun _ h => h) rfl (by kernel_rfl) (by rfl) ?_ ?_;rotate_left
 ·intro wq hSw;have k6 : wq.cell? ⟨q, 6, none⟩ = some (.pointer (some ⟨th, 0, none⟩)) := (hSw.1.1 6 _ rfl).1;obtain ⟨q0, q1, q2, q3, q4, q5, q6⟩ := It.at x hSw.1.2;go_simp; try with_reducible rfl
 try simp only [tdy]
 refine tE 5 (v := ?_) (hsT2) (fun _ h => h) rfl (by kernel_rfl) (by rfl) ?_ ?_;rotate_left
 ·intro wq hSw;have k6 : wq.cell? ⟨q, 6, none⟩ = some (.pointer (some ⟨th, 0, none⟩)) := (hSw.1.1 6 _ rfl).1;obtain ⟨q0, q1, q2, q3, q4, q5, q6⟩ := It.at x hSw.1.2;go_simp; try with_reducible rfl
 try simp only [tdy]
 refine wpAnyE_rest (n := 6) rfl rfl (by kernel_rfl) (fun wz hSz => ?_);simp only [List.toList_toArray, List.drop_succ_cons, List.drop_zero];have HQ3 := hid hSz;clear hSz;go_wp2_with fail;refine (Dt.delete th t x HX.out _ A x B (HT2.out.below HQ3.out.2) (by have := HMI.out.2.2; omega) HH.out HP.out HS.out HL.out).mono ?_;rintro e w4 ⟨rfl, ht4, hc4⟩;have hpl : ((Tr.rem It.ahead t.size x t).paint false).list = A ++ B := by rw [Tr.list_paint]; exact HE.out
 have hbl : ∀ g ∈ ((Tr.rem It.ahead t.size x t).paint false).blocks, g ∈ t.blocks := fun g hg => by
  rw [Tr.blocks_paint] at hg;exact (Tr.Of.rem It.ahead x t.size t).2 g hg
 have hsub : ∀ y ∈ A ++ B, y ∈ t.list := fun y hy => by
  rw [HL.out];rcases List.mem_append.1 hy with h | h
  ·exact List.mem_append_left _ h
  ·exact List.mem_append_right _ (List.mem_cons_of_mem _ h)
 have HFIN : Hid (QAt w4 q mb th m ((Tr.rem It.ahead t.size x t).paint false) ∧ Chg (foot q mb th t) w w4) := hid (by
  refine ⟨⟨⟨(HQ3.out.1.1).chg hc4 (by simp; exact ⟨HN.out.2.2.2.1, HN.out.2.2.1⟩), ?_, ht4⟩, ⟨HN.out.2.1, fun hg => HN.out.2.2.1 (hbl _ hg), fun hg => HN.out.1 (hbl _ hg)⟩, HMI.out.1, ?_, ?_⟩, ?_⟩
  ·rw [hpl]; exact (HM2.out.below HQ3.out.2).chg hc4 (by simp; exact ⟨HN.out.2.2.2.2, HN.out.1⟩)
  ·rw [hpl]; exact fun y hy => HMI.out.2.1 y (hsub y hy)
  ·rw [hpl]; have h1 := HMI.out.2.2; rw [HL.out] at h1; simp only [List.length_append, List.length_cons] at h1 ⊢; omega
  ·exact (HC1.out.onD HQ3.out.2).trans hc4 (fun g hg => Or.inl (by unfold foot; exact List.mem_cons_of_mem _ (List.mem_cons_of_mem _ hg))))
 clear ht4 hc4 hpl hbl hsub;go_wp2_with fail;refine bodyPost_end (v := .tuple #[]) (by simp [results, Tryz.results98, go_sem]) rfl ⟨rfl, HFIN.out⟩
end


section
open Go.RowKit
set_option maxRecDepth 100000
set_option maxHeartbeats 32000000
theorem wpList_put_pre {ops : Array Oper} {rest : List Oper} {op : Oper} {a : Act} {w : World} {Q : Exit → Act → World → Prop} (T : TypeId) (vs : List Value) {n : Nat} (hT : (Tryz.prog.info? T).map (·.size) = some n) (hgd : op.guard = none) (x y : Operand) (ho : op.op = .store T x y)
  (b : Nat) (us : List Value) (hc : Cs w b us) (hn : vs.length = n) (hl : n ≤ us.length) (h1 : vs.all (·.oneCell') = true) (hx : a.eval x = .pointer (some ⟨b, 0, none⟩)) (hy : a.eval y = .agg vs.toArray)
  (h : ∀ W, W = w.setCells b 0 vs → wpList Tryz.prog ops Q rest (a.put op.dst undef) W) : wpList Tryz.prog ops Q (op :: rest) a w :=
 wpList_store_mid hgd T x y ho b 0 vs.toArray hx hy (fun j hj => by have := hc.thereL; exact this j (by simp at hj; omega)) (by rw [hT, ← hn]; simp) (by simpa using h1) (h _ rfl)
theorem OwnI.weaken {w : World} {b b' : Nat} {A : Option Addr} {n c : Nat} {l : List It} (h : OwnI w b A n c l) (hb : b' ≤ b) : OwnI w b' A n c l := by
 obtain ⟨h1, h2⟩ := h;refine ⟨h1, ?_⟩;rcases h2 with h2 | ⟨g, cap, cur, hv, hg, r⟩
 ·exact .inl h2
 ·exact .inr ⟨g, cap, cur, hv, Nat.le_trans hb hg, r⟩
def ItsR (b : Nat) (l : List It) (y : Option Addr × Nat) (w : World) : Prop := OwnI w b y.1 l.length y.2 l
theorem ItsR.stays (b : Nat) (l : List It) (y : Option Addr × Nat) : Stays (ItsR b l y) := fun _ _ h hb => OwnI.below h hb
def MV (w : World) (g : Nat) (vs : List Value) : Prop := Cs w g vs ∧ ∃ cs fr, w.heap[g]? = some (.cells cs 111 fr)
theorem MV.new (w : World) : MV (w.alloc (.cells #[.int .u64 0, .int .i64 0, .int .u64 0, .int .u64 0, .int .i64 0] 111)) w.heap.size [.int .u64 0, .int .i64 0, .int .u64 0, .int .u64 0, .int .i64 0] := ⟨Cs.alloc_new6 w 111 [.int .u64 0, .int .i64 0, .int .u64 0, .int .u64 0, .int .i64 0], _, _, (MapKept.heap_alloc w _).1⟩
theorem MV.below {w w' : World} {g : Nat} {vs : List Value} (h : MV w g vs) (hb : Below w.heap.size w w') : MV w' g vs := by
 obtain ⟨cs, fr, hh⟩ := h.2;exact ⟨h.1.below hb, cs, fr, (hb.block g (Array.getElem?_eq_some_iff.1 hh).1).trans hh⟩
theorem MV.chg {w w' : World} {g : Nat} {vs : List Value} {b : Nat} {A : Option Addr} {n c : Nat} {l : List It} (h : MV w g vs) (ho : OwnI w b A n c l) (hc : Chg (rowOf A) w w') : MV w' g vs := by
 obtain ⟨cs, fr, hh⟩ := h.2;have hn : g ∉ rowOf A := fun hg => by
  rcases ho.2 with ⟨hv, _⟩ | ⟨g', cap, cur, hv, _, hg', _⟩
  ·injection hv with e1; subst e1; simp [rowOf] at hg
  ·injection hv with e1; subst e1;have e : g = g' := by simpa [rowOf, eq_comm] using hg
   subst e;rw [hh] at hg';injection hg' with hg';injection hg' with _ e2 _;exact absurd e2 (by decide)
 exact ⟨h.1.chg hc hn, cs, fr, (hc.block g (Array.getElem?_eq_some_iff.1 hh).1 hn).trans hh⟩
def QJoin (q mb th : Nat) (b : Int) (t : Tr It) (a : It) (w : World) (e : Ending) (w' : World) : Prop :=
 e = .returned (.int .i64 (joinC b t.list a)) ∧ ((joinC b t.list a ≠ 0 ∧ Below w.heap.size w w') ∨ (joinC b t.list a = 0 ∧ ∃ k, w.heap.size ≤ k ∧ QAt w' q mb th (qM (nowI (fromI b t.list a) (t.list ++ [a])) (insI a t.list)) ((Tr.put It.ahead k a t).paint false) ∧ Chg (foot q mb th t) w w'))
theorem QAt.footlt {w : World} {q mb th : Nat} {m : Mu} {t : Tr It} (h : QAt w q mb th m t) : ∀ g ∈ foot q mb th t, g < w.heap.size := fun g hg => by
 have hl := h.lt;simp only [foot, List.mem_cons] at hg;rcases hg with rfl | rfl | rfl | hg
 ·exact hl.1
 ·exact hl.2.1
 ·exact hl.2.2
 ·exact (h.1.2.2.2.1.nl g hg).lt
theorem Queue.join_2 (q mb th : Nat) (b : Int) (t : Tr It) (a : It) (hq : Qok b t.list) (ha : a.In) (hr : a.right = false) (w : World) (h : QAt w q mb th (qM b t.list) t) : Calls Tryz.prog 53 #[(.pointer (some ⟨q, 0, none⟩)), a.val] w (QJoin q mb th b t a w) := by
 have HR := hid hr;have HJ : Hid (joinC b t.list a = 2) := hid (by unfold joinC; rw [if_pos hr]);clear hr;have hal := (Below.refl w.heap.size w).alloc (Nat.le_refl _) (.cells #[.int .u64 a.t, .int .u32 a.r, .int .u32 a.v, .int .i64 a.i, .int .u64 a.u, .int .u32 a.s, .int .u32 a.y] 57);have HQ0 : Hid ((QAt (w.alloc (.cells #[.int .u64 a.t, .int .u32 a.r, .int .u32 a.v, .int .i64 a.i, .int .u64 a.u, .int .u32 a.s, .int .u32 a.y] 57)) q mb th (qM b t.list) t ∧ Cs (w.alloc (.cells #[.int .u64 a.t, .int .u32 a.r, .int .u32 a.v, .int .i64 a.i, .int .u64 a.u, .int .u32 a.s, .int .u32 a.y] 57)) w.heap.size a.cells) ∧ Below w.heap.size w (w.alloc (.cells #[.int .u64 a.t, .int .u32 a.r, .int .u32 a.v, .int .i64 a.i, .int .u64 a.u, .int .u32 a.s, .int .u32 a.y] 57))) := hid ⟨⟨h.below hal, Cs.new7 w 57 a⟩, hal⟩;have HA := hid ha;have HLT := hid h.lt;have HMI := hid h.2.2.1;have HFT : Hid (∀ g ∈ foot q mb th t, g < w.heap.size) := hid h.footlt;generalize qM b t.list = m at *
 clear hal h ha hq;unfold It.val;go_enter Tryz.func53, Tryz.ntmps53;go_upto_region 1 with fail;generalize (w.alloc (.cells #[.int .u64 a.t, .int .u32 a.r, .int .u32 a.v, .int .i64 a.i, .int .u64 a.u, .int .u32 a.s, .int .u32 a.y] 57)) = W0 at HQ0 ⊢;obtain ⟨q0, q1, q2, q3, q4, q5, q6⟩ := It.at a HQ0.out.1.2;go_wp2_with fail;clear q0 q1 q2 q3 q4 q5 q6;refine (Item.right a _).mono ?_;rw [HR.out];rintro e w1 ⟨rfl, hb⟩;have HQ1 := hid (And.intro (And.intro (HQ0.out.1.1.below hb) (HQ0.out.1.2.below hb)) (below_on HQ0.out.2 hb));clear hb HQ0;go_wp2_with fail;go_ret
 exact ⟨by rw [HJ.out] <;> rfl, Or.inl ⟨by rw [HJ.out]; decide, HQ1.out.2⟩⟩
theorem Queue.join_13 (q mb th : Nat) (b : Int) (t : Tr It) (a : It) (hq : Qok b t.list) (ha : a.In) (hr : a.right = true) (x : It) (hx : x ∈ t.list) (hi : x.i = a.i) (w : World) (h : QAt w q mb th (qM b t.list) t) : Calls Tryz.prog 53 #[(.pointer (some ⟨q, 0, none⟩)), a.val] w (QJoin q mb th b t a w) := by
 have HR := hid hr;have HXI := hid (hq.fw.inI x hx);have HX := hid hx;have HI := hid hi;have HJ : Hid (joinC b t.list a = 13) := hid (by unfold joinC; rw [if_neg (by rw [hr]; simp), if_pos (by simp; exact ⟨x, hx, hi⟩)]);clear hr hx hi;have hal := (Below.refl w.heap.size w).alloc (Nat.le_refl _) (.cells #[.int .u64 a.t, .int .u32 a.r, .int .u32 a.v, .int .i64 a.i, .int .u64 a.u, .int .u32 a.s, .int .u32 a.y] 57);have HQ0 : Hid ((QAt (w.alloc (.cells #[.int .u64 a.t, .int .u32 a.r, .int .u32 a.v, .int .i64 a.i, .int .u64 a.u, .int .u32 a.s, .int .u32 a.y] 57)) q mb th (qM b t.list) t ∧ Cs (w.alloc (.cells #[.int .u64 a.t, .int .u32 a.r, .int .u32 a.v, .int .i64 a.i, .int .u64 a.u, .int .u32 a.s, .int .u32 a.y] 57)) w.heap.size a.cells) ∧ Below w.heap.size w (w.alloc (.cells #[.int .u64 a.t, .int .u32 a.r, .int .u32 a.v, .int .i64 a.i, .int .u64 a.u, .int .u32 a.s, .int .u32 a.y] 57))) := hid ⟨⟨h.below hal, Cs.new7 w 57 a⟩, hal⟩;have HA := hid ha;have HLT := hid h.lt;have HMI := hid h.2.2.1;have HFT : Hid (∀ g ∈ foot q mb th t, g < w.heap.size) := hid h.footlt;generalize qM b t.list = m at *
 clear hal h ha hq;unfold It.val;go_enter Tryz.func53, Tryz.ntmps53;go_upto_region 1 with fail;generalize (w.alloc (.cells #[.int .u64 a.t, .int .u32 a.r, .int .u32 a.v, .int .i64 a.i, .int .u64 a.u, .int .u32 a.s, .int .u32 a.y] 57)) = W0 at HQ0 ⊢;obtain ⟨q0, q1, q2, q3, q4, q5, q6⟩ := It.at a HQ0.out.1.2;go_wp2_with fail;clear q0 q1 q2 q3 q4 q5 q6;refine (Item.right a _).mono ?_;rw [HR.out];rintro e w1 ⟨rfl, hb⟩;have HQ1 := hid (And.intro (And.intro (HQ0.out.1.1.below hb) (HQ0.out.1.2.below hb)) (below_on HQ0.out.2 hb));clear hb HQ0;go_wp2_with fail;have hsT1 : Stays (fun wx => Below w1.heap.size w1 wx) := fun _ _ h hb => below_on h hb
 refine wp_region_grow (S := fun wx => Below w1.heap.size w1 wx) 13 (by kernel_rfl) (hsT1 _ _ ((Below.refl w1.heap.size w1)) (Below.refl _ _).drew) ?_;refine tF 0 (hsT1) (fun _ h => h) ?_;try simp only [tdy]
 refine tF 1 (hsT1) (fun _ h => h) ?_;try simp only [tdy]
 refine tF 2 (hsT1) (fun _ h => h) ?_;try simp only [tdy]
 refine tE 3 (v := ?_) (hsT1) (fun _ h => h) rfl (by kernel_rfl) (by rfl) ?_ ?_;rotate_left
 ·intro wq hSw;obtain ⟨_, _, _, _, _, k5, _⟩ := (HQ1.out.1.1.below hSw).at;obtain ⟨q0, q1, q2, q3, q4, q5, q6⟩ := It.at a (HQ1.out.1.2.below hSw);have hlk := (HQ1.out.1.1.below hSw).1.2.1.yes HX.out HXI.out; rw [HI.out] at hlk;unfold It.val at hlk;go_simp; try with_reducible rfl
 try simp only [tdy]
 refine tF 4 (hsT1) (fun _ h => h) ?_;try simp only [tdy]
 refine tE 5 (v := ?_) (hsT1) (fun _ h => h) rfl (by kernel_rfl) (by rfl) ?_ ?_;rotate_left
 ·intro wq hSw;obtain ⟨_, _, _, _, _, k5, _⟩ := (HQ1.out.1.1.below hSw).at;obtain ⟨q0, q1, q2, q3, q4, q5, q6⟩ := It.at a (HQ1.out.1.2.below hSw);have hlk := (HQ1.out.1.1.below hSw).1.2.1.yes HX.out HXI.out; rw [HI.out] at hlk;unfold It.val at hlk;go_simp; try with_reducible rfl
 try simp only [tdy]
 refine tE 6 (v := ?_) (hsT1) (fun _ h => h) rfl (by kernel_rfl) (by rfl) ?_ ?_;rotate_left
 ·intro wq hSw;obtain ⟨_, _, _, _, _, k5, _⟩ := (HQ1.out.1.1.below hSw).at;obtain ⟨q0, q1, q2, q3, q4, q5, q6⟩ := It.at a (HQ1.out.1.2.below hSw);have hlk := (HQ1.out.1.1.below hSw).1.2.1.yes HX.out HXI.out; rw [HI.out] at hlk;unfold It.val at hlk;go_simp; try with_reducible rfl
 try simp only [tdy]
 refine tF 7 (hsT1) (fun _ h => h) ?_;try simp only [tdy]
 refine tF 8 (hsT1) (fun _ h => h) ?_;try simp only [tdy]
 refine tF 9 (hsT1) (fun _ h => h) ?_;try simp only [tdy]
 refine wpAnyE_alloc (i := 10) (fun wx g => Cs wx g It.zero.cells ∧ w1.heap.size ≤ g) rfl (by kernel_rfl) (by decide) (by rfl) (hsT1) (fun _ h => h) (fun g => fun _ _ h hb => ⟨h.1.below hb, h.2⟩) (fun wq hSw => ?_) (fun gB => ?_)
 ·exact ⟨_, by go_simp; (try with_reducible rfl), (Below.refl _ _).alloc (Nat.le_refl _) _, Cs.new7 _ _ It.zero, hSw.size⟩
 try simp only [tdy]
 refine wpAnyE_store (i := 11) (fun wx => Below w1.heap.size w1 wx) 57 x.cells It.zero.cells gB infoItem (.tmp 5) (.tmp 22) rfl rfl (by kernel_rfl) (by decide) (by rfl) ?sv2a ?sv2b ?sv2c ?sv2d ?sv2e (fun _ h => h.2.1) (fun _ h => below_sets h.2.2 _ _ h.1) (fun _ h => h) ((fun _ _ h hb => below_on h hb)) ?sv2f
 case sv2a => rfl
 case sv2b => rfl
 case sv2c => rfl
 case sv2d => rfl
 case sv2e => rfl
 try simp only [tdy]
 refine tF 12 ((fun _ _ h hb => below_on h hb)) (fun _ h => h) ?_;try simp only [tdy]
 refine wpAnyE_done (by kernel_rfl) (fun wz5 hSz5 => ?_) _;have HQ2 := hid (below_on HQ1.out.2 hSz5);clear hSz5 HQ1;go_wp2_with fail;go_ret
 exact ⟨by rw [HJ.out] <;> rfl, Or.inl ⟨by rw [HJ.out]; decide, HQ2.out⟩⟩
theorem Queue.join_7 (q mb th : Nat) (b : Int) (t : Tr It) (a : It) (hq : Qok b t.list) (ha : a.In) (hr : a.right = true) (hn : ∀ x ∈ t.list, x.i ≠ a.i) (h32 : t.list.length = 32) (w : World) (h : QAt w q mb th (qM b t.list) t) : Calls Tryz.prog 53 #[(.pointer (some ⟨q, 0, none⟩)), a.val] w (QJoin q mb th b t a w) := by
 have HR := hid hr;have HN := hid hn;have hany : ¬ (t.list.any fun y => decide (y.i = a.i)) = true := by simpa using hn
 have HJ : Hid (joinC b t.list a = 7) := hid (by unfold joinC; rw [if_neg (by rw [hr]; simp), if_neg hany, if_pos h32]);have H32 := hid h32;clear hr hn h32 hany;have hal := (Below.refl w.heap.size w).alloc (Nat.le_refl _) (.cells #[.int .u64 a.t, .int .u32 a.r, .int .u32 a.v, .int .i64 a.i, .int .u64 a.u, .int .u32 a.s, .int .u32 a.y] 57);have HQ0 : Hid ((QAt (w.alloc (.cells #[.int .u64 a.t, .int .u32 a.r, .int .u32 a.v, .int .i64 a.i, .int .u64 a.u, .int .u32 a.s, .int .u32 a.y] 57)) q mb th (qM b t.list) t ∧ Cs (w.alloc (.cells #[.int .u64 a.t, .int .u32 a.r, .int .u32 a.v, .int .i64 a.i, .int .u64 a.u, .int .u32 a.s, .int .u32 a.y] 57)) w.heap.size a.cells) ∧ Below w.heap.size w (w.alloc (.cells #[.int .u64 a.t, .int .u32 a.r, .int .u32 a.v, .int .i64 a.i, .int .u64 a.u, .int .u32 a.s, .int .u32 a.y] 57))) := hid ⟨⟨h.below hal, Cs.new7 w 57 a⟩, hal⟩;have HA := hid ha;have HLT := hid h.lt;have HMI := hid h.2.2.1;have HFT : Hid (∀ g ∈ foot q mb th t, g < w.heap.size) := hid h.footlt;generalize qM b t.list = m at *
 clear hal h ha hq;unfold It.val;go_enter Tryz.func53, Tryz.ntmps53;go_upto_region 1 with fail;generalize (w.alloc (.cells #[.int .u64 a.t, .int .u32 a.r, .int .u32 a.v, .int .i64 a.i, .int .u64 a.u, .int .u32 a.s, .int .u32 a.y] 57)) = W0 at HQ0 ⊢;obtain ⟨q0, q1, q2, q3, q4, q5, q6⟩ := It.at a HQ0.out.1.2;go_wp2_with fail;clear q0 q1 q2 q3 q4 q5 q6;refine (Item.right a _).mono ?_;rw [HR.out];rintro e w1 ⟨rfl, hb⟩;have HQ1 := hid (And.intro (And.intro (HQ0.out.1.1.below hb) (HQ0.out.1.2.below hb)) (below_on HQ0.out.2 hb));clear hb HQ0;go_wp2_with fail;have hsT3 : Stays (fun wx => Below w1.heap.size w1 wx) := fun _ _ h hb => below_on h hb
 refine wp_region_grow (S := fun wx => Below w1.heap.size w1 wx) 13 (by kernel_rfl) (hsT3 _ _ ((Below.refl w1.heap.size w1)) (Below.refl _ _).drew) ?_;refine tF 0 (hsT3) (fun _ h => h) ?_;try simp only [tdy]
 refine tF 1 (hsT3) (fun _ h => h) ?_;try simp only [tdy]
 refine tF 2 (hsT3) (fun _ h => h) ?_;try simp only [tdy]
 refine tE 3 (v := ?_) (hsT3) (fun _ h => h) rfl (by kernel_rfl) (by rfl) ?_ ?_;rotate_left
 ·intro wq hSw;obtain ⟨_, _, _, _, _, k5, _⟩ := (HQ1.out.1.1.below hSw).at;obtain ⟨q0, q1, q2, q3, q4, q5, q6⟩ := It.at a (HQ1.out.1.2.below hSw);have hlk := (HQ1.out.1.1.below hSw).1.2.1.no HA.out.2.2.2.1 HN.out;unfold It.val at hlk;go_simp; try with_reducible rfl
 try simp only [tdy]
 refine tF 4 (hsT3) (fun _ h => h) ?_;try simp only [tdy]
 refine tE 5 (v := ?_) (hsT3) (fun _ h => h) rfl (by kernel_rfl) (by rfl) ?_ ?_;rotate_left
 ·intro wq hSw;obtain ⟨_, _, _, _, _, k5, _⟩ := (HQ1.out.1.1.below hSw).at;obtain ⟨q0, q1, q2, q3, q4, q5, q6⟩ := It.at a (HQ1.out.1.2.below hSw);have hlk := (HQ1.out.1.1.below hSw).1.2.1.no HA.out.2.2.2.1 HN.out;unfold It.val at hlk;go_simp; try with_reducible rfl
 try simp only [tdy]
 refine tE 6 (v := ?_) (hsT3) (fun _ h => h) rfl (by kernel_rfl) (by rfl) ?_ ?_;rotate_left
 ·intro wq hSw;obtain ⟨_, _, _, _, _, k5, _⟩ := (HQ1.out.1.1.below hSw).at;obtain ⟨q0, q1, q2, q3, q4, q5, q6⟩ := It.at a (HQ1.out.1.2.below hSw);have hlk := (HQ1.out.1.1.below hSw).1.2.1.no HA.out.2.2.2.1 HN.out;unfold It.val at hlk;go_simp; try with_reducible rfl
 try simp only [tdy]
 refine tF 7 (hsT3) (fun _ h => h) ?_;try simp only [tdy]
 refine tF 8 (hsT3) (fun _ h => h) ?_;try simp only [tdy]
 refine tF 9 (hsT3) (fun _ h => h) ?_;try simp only [tdy]
 refine wpAnyE_alloc (i := 10) (fun wx g => Cs wx g It.zero.cells ∧ w1.heap.size ≤ g) rfl (by kernel_rfl) (by decide) (by rfl) (hsT3) (fun _ h => h) (fun g => fun _ _ h hb => ⟨h.1.below hb, h.2⟩) (fun wq hSw => ?_) (fun gB => ?_)
 ·exact ⟨_, by go_simp; (try with_reducible rfl), (Below.refl _ _).alloc (Nat.le_refl _) _, Cs.new7 _ _ It.zero, hSw.size⟩
 try simp only [tdy]
 refine wpAnyE_store (i := 11) (fun wx => Below w1.heap.size w1 wx) 57 It.zero.cells It.zero.cells gB infoItem (.tmp 5) (.tmp 22) rfl rfl (by kernel_rfl) (by decide) (by rfl) ?sv4a ?sv4b ?sv4c ?sv4d ?sv4e (fun _ h => h.2.1) (fun _ h => below_sets h.2.2 _ _ h.1) (fun _ h => h) ((fun _ _ h hb => below_on h hb)) ?sv4f
 case sv4a => rfl
 case sv4b => rfl
 case sv4c => rfl
 case sv4d => rfl
 case sv4e => rfl
 try simp only [tdy]
 refine tF 12 ((fun _ _ h hb => below_on h hb)) (fun _ h => h) ?_;try simp only [tdy]
 refine wpAnyE_done (by kernel_rfl) (fun wz5 hSz5 => ?_) _;have HQ2 := hid (And.intro (And.intro (HQ1.out.1.1.below hSz5) (HQ1.out.1.2.below hSz5)) (below_on HQ1.out.2 hSz5));clear hSz5 HQ1;have hl := HQ2.out.1.1.1.2.1.len 3;obtain ⟨_, _, _, _, _, k5, _⟩ := HQ2.out.1.1.at;have c32 : ((t.list.length : Int) == 32) = true := by rw [H32.out]; rfl
 go_wp2_with fail;go_ret
 exact ⟨by rw [HJ.out] <;> rfl, Or.inl ⟨by rw [HJ.out]; decide, HQ2.out.2⟩⟩
theorem Queue.join_8 (q mb th : Nat) (b : Int) (t : Tr It) (a : It) (hq : Qok b t.list) (ha : a.In) (hr : a.right = true) (hn : ∀ x ∈ t.list, x.i ≠ a.i) (h32 : t.list.length ≠ 32) (hwi : withinI (fromI b t.list a) (t.list ++ [a]) = false) (w : World) (h : QAt w q mb th (qM b t.list) t) : Calls Tryz.prog 53 #[(.pointer (some ⟨q, 0, none⟩)), a.val] w (QJoin q mb th b t a w) := by
 have HR := hid hr;have HN := hid hn;have hany : ¬ (t.list.any fun y => decide (y.i = a.i)) = true := by simpa using hn
 have HJ : Hid (joinC b t.list a = 8) := hid (by unfold joinC; rw [if_neg (by rw [hr]; simp), if_neg hany, if_neg h32, if_pos hwi]);have H32 := hid h32;obtain ⟨k, hk⟩ : ∃ k, k = Mu.no := ⟨_, rfl⟩
 have HW : Hid (withM (qM b t.list) t.list a = (false, k)) := hid (by rw [hk]; exact Qok.join_no hwi);clear hr hn h32 hany hwi hk;have hal := (Below.refl w.heap.size w).alloc (Nat.le_refl _) (.cells #[.int .u64 a.t, .int .u32 a.r, .int .u32 a.v, .int .i64 a.i, .int .u64 a.u, .int .u32 a.s, .int .u32 a.y] 57);have HQ0 : Hid ((QAt (w.alloc (.cells #[.int .u64 a.t, .int .u32 a.r, .int .u32 a.v, .int .i64 a.i, .int .u64 a.u, .int .u32 a.s, .int .u32 a.y] 57)) q mb th (qM b t.list) t ∧ Cs (w.alloc (.cells #[.int .u64 a.t, .int .u32 a.r, .int .u32 a.v, .int .i64 a.i, .int .u64 a.u, .int .u32 a.s, .int .u32 a.y] 57)) w.heap.size a.cells) ∧ Below w.heap.size w (w.alloc (.cells #[.int .u64 a.t, .int .u32 a.r, .int .u32 a.v, .int .i64 a.i, .int .u64 a.u, .int .u32 a.s, .int .u32 a.y] 57))) := hid ⟨⟨h.below hal, Cs.new7 w 57 a⟩, hal⟩;have HA := hid ha;have HLT := hid h.lt;have HMI := hid h.2.2.1;have HFT : Hid (∀ g ∈ foot q mb th t, g < w.heap.size) := hid h.footlt;generalize qM b t.list = m at *
 clear hal h ha hq;unfold It.val;go_enter Tryz.func53, Tryz.ntmps53;go_upto_region 1 with fail;generalize (w.alloc (.cells #[.int .u64 a.t, .int .u32 a.r, .int .u32 a.v, .int .i64 a.i, .int .u64 a.u, .int .u32 a.s, .int .u32 a.y] 57)) = W0 at HQ0 ⊢;obtain ⟨q0, q1, q2, q3, q4, q5, q6⟩ := It.at a HQ0.out.1.2;go_wp2_with fail;clear q0 q1 q2 q3 q4 q5 q6;refine (Item.right a _).mono ?_;rw [HR.out];rintro e w1 ⟨rfl, hb⟩;have HQ1 := hid (And.intro (And.intro (HQ0.out.1.1.below hb) (HQ0.out.1.2.below hb)) (below_on HQ0.out.2 hb));clear hb HQ0;go_wp2_with fail;have hsT5 : Stays (fun wx => Below w1.heap.size w1 wx) := fun _ _ h hb => below_on h hb
 refine wp_region_grow (S := fun wx => Below w1.heap.size w1 wx) 13 (by kernel_rfl) (hsT5 _ _ ((Below.refl w1.heap.size w1)) (Below.refl _ _).drew) ?_;refine tF 0 (hsT5) (fun _ h => h) ?_;try simp only [tdy]
 refine tF 1 (hsT5) (fun _ h => h) ?_;try simp only [tdy]
 refine tF 2 (hsT5) (fun _ h => h) ?_;try simp only [tdy]
 refine tE 3 (v := ?_) (hsT5) (fun _ h => h) rfl (by kernel_rfl) (by rfl) ?_ ?_;rotate_left
 ·intro wq hSw;obtain ⟨_, _, _, _, _, k5, _⟩ := (HQ1.out.1.1.below hSw).at;obtain ⟨q0, q1, q2, q3, q4, q5, q6⟩ := It.at a (HQ1.out.1.2.below hSw);have hlk := (HQ1.out.1.1.below hSw).1.2.1.no HA.out.2.2.2.1 HN.out;unfold It.val at hlk;go_simp; try with_reducible rfl
 try simp only [tdy]
 refine tF 4 (hsT5) (fun _ h => h) ?_;try simp only [tdy]
 refine tE 5 (v := ?_) (hsT5) (fun _ h => h) rfl (by kernel_rfl) (by rfl) ?_ ?_;rotate_left
 ·intro wq hSw;obtain ⟨_, _, _, _, _, k5, _⟩ := (HQ1.out.1.1.below hSw).at;obtain ⟨q0, q1, q2, q3, q4, q5, q6⟩ := It.at a (HQ1.out.1.2.below hSw);have hlk := (HQ1.out.1.1.below hSw).1.2.1.no HA.out.2.2.2.1 HN.out;unfold It.val at hlk;go_simp; try with_reducible rfl
 try simp only [tdy]
 refine tE 6 (v := ?_) (hsT5) (fun _ h => h) rfl (by kernel_rfl) (by rfl) ?_ ?_;rotate_left
 ·intro wq hSw;obtain ⟨_, _, _, _, _, k5, _⟩ := (HQ1.out.1.1.below hSw).at;obtain ⟨q0, q1, q2, q3, q4, q5, q6⟩ := It.at a (HQ1.out.1.2.below hSw);have hlk := (HQ1.out.1.1.below hSw).1.2.1.no HA.out.2.2.2.1 HN.out;unfold It.val at hlk;go_simp; try with_reducible rfl
 try simp only [tdy]
 refine tF 7 (hsT5) (fun _ h => h) ?_;try simp only [tdy]
 refine tF 8 (hsT5) (fun _ h => h) ?_;try simp only [tdy]
 refine tF 9 (hsT5) (fun _ h => h) ?_;try simp only [tdy]
 refine wpAnyE_alloc (i := 10) (fun wx g => Cs wx g It.zero.cells ∧ w1.heap.size ≤ g) rfl (by kernel_rfl) (by decide) (by rfl) (hsT5) (fun _ h => h) (fun g => fun _ _ h hb => ⟨h.1.below hb, h.2⟩) (fun wq hSw => ?_) (fun gB => ?_)
 ·exact ⟨_, by go_simp; (try with_reducible rfl), (Below.refl _ _).alloc (Nat.le_refl _) _, Cs.new7 _ _ It.zero, hSw.size⟩
 try simp only [tdy]
 refine wpAnyE_store (i := 11) (fun wx => Below w1.heap.size w1 wx) 57 It.zero.cells It.zero.cells gB infoItem (.tmp 5) (.tmp 22) rfl rfl (by kernel_rfl) (by decide) (by rfl) ?sv6a ?sv6b ?sv6c ?sv6d ?sv6e (fun _ h => h.2.1) (fun _ h => below_sets h.2.2 _ _ h.1) (fun _ h => h) ((fun _ _ h hb => below_on h hb)) ?sv6f
 case sv6a => rfl
 case sv6b => rfl
 case sv6c => rfl
 case sv6d => rfl
 case sv6e => rfl
 try simp only [tdy]
 refine tF 12 ((fun _ _ h hb => below_on h hb)) (fun _ h => h) ?_;try simp only [tdy]
 refine wpAnyE_done (by kernel_rfl) (fun wz5 hSz5 => ?_) _;have HQ2 := hid (And.intro (And.intro (HQ1.out.1.1.below hSz5) (HQ1.out.1.2.below hSz5)) (below_on HQ1.out.2 hSz5));clear hSz5 HQ1;have hl := HQ2.out.1.1.1.2.1.len 3;obtain ⟨_, _, _, _, _, k5, _⟩ := HQ2.out.1.1.at;have c32 : ((t.list.length : Int) == 32) = false := by rw [beq_eq_false_iff_ne]; have := H32.out; omega
 go_wp2_with fail;clear hl k5 c32;have hsT7 : Stays (fun wx => Below wz5.heap.size wz5 wx) := fun _ _ h hb => below_on h hb
 refine wp_region_grow (S := fun wx => Below wz5.heap.size wz5 wx) 14 (by kernel_rfl) (hsT7 _ _ ((Below.refl wz5.heap.size wz5)) (Below.refl _ _).drew) ?_;refine tF 0 (hsT7) (fun _ h => h) ?_;try simp only [tdy]
 refine tF 1 (hsT7) (fun _ h => h) ?_;try simp only [tdy]
 refine tF 2 (hsT7) (fun _ h => h) ?_;try simp only [tdy]
 refine tE 3 (v := ?_) (hsT7) (fun _ h => h) rfl (by kernel_rfl) (by rfl) ?_ ?_;rotate_left
 ·intro wq hSw;obtain ⟨k0, k1, k2, k3, k4, _, _⟩ := (HQ2.out.1.1.below hSw).at;obtain ⟨q0, q1, q2, q3, q4, q5, q6⟩ := It.at a (HQ2.out.1.2.below hSw);go_simp; try with_reducible rfl
 try simp only [tdy]
 refine tF 4 (hsT7) (fun _ h => h) ?_;try simp only [tdy]
 refine tE 6 (v := ?_) (hsT7) (fun _ h => h) rfl (by kernel_rfl) (by rfl) ?_ ?_;rotate_left
 ·intro wq hSw;obtain ⟨k0, k1, k2, k3, k4, _, _⟩ := (HQ2.out.1.1.below hSw).at;obtain ⟨q0, q1, q2, q3, q4, q5, q6⟩ := It.at a (HQ2.out.1.2.below hSw);go_simp; try with_reducible rfl
 try simp only [tdy]
 refine wpF.fst (j := 11) (dst := some 7) (T := fun wx g => MV wx g [.int .u64 0, .int .i64 0, .int .u64 0, .int .u64 0, .int .i64 0] ∧ wz5.heap.size ≤ g) ?_;refine wpF_call (k := 5) _ (fun y : Option Addr × Nat => .slice y.1 t.list.length y.2) (ItsR wz5.heap.size t.list) rfl rfl rfl (Or.inl (by kernel_rfl)) (by kernel_rfl) (by decide) (by decide) (by decide) (by kernel_rfl) (by intro cs b h; cases h) (by rfl) (fun _ => rfl) (hsT7) (fun _ h => h) (fun g => fun _ _ h hb => ⟨h.1.below hb, h.2⟩) (fun yq => ItsR.stays wz5.heap.size t.list yq) (fun aq wq hSw => ?_) (fun wq hSw => ?_) (fun yq => ?_)
 ·(first | exact ⟨_, by go_simp; (try with_reducible rfl), (Below.refl _ _).alloc (Nat.le_refl _) _, MV.new _, hSw.size⟩ | exact ⟨_, by go_simp; (try with_reducible rfl), (Below.refl _ _).alloc (Nat.le_refl _) _, MV.new _, hSw.1.size⟩ | exact ⟨_, by go_simp; (try with_reducible rfl), (Below.refl _ _).alloc (Nat.le_refl _) _, MV.new _, hSw.1.1.size⟩)
 ·exact RunI.of_calls (Queue.items q mb th m t wq (HQ2.out.1.1.below hSw)) (by go_simp) (fun e w' h => by obtain ⟨A, c, he, ho, hb⟩ := h; exact ⟨(A, c), he, ho.weaken hSw.size, hb⟩)
 obtain ⟨A5, c5⟩ := yq;dsimp only;try simp only [tdy]
 refine wpF_callC (k := 7) (rowOf A5) (fun wx => Below wz5.heap.size wz5 wx) _ (fun _ : Unit => .tuple #[Mu.val k, .bool false]) (fun (_ : Unit) (_ : World) => True) rfl rfl rfl (Or.inl (by kernel_rfl)) (by kernel_rfl) (by decide) (by decide) (by decide) (by kernel_rfl) (by intro cs b h; cases h) (by rfl) (fun _ => rfl) (Stays.and_ (hsT7) (ItsR.stays wz5.heap.size t.list (A5, c5))) (fun _ h => h.1) (fun _ _ h hb => below_on h hb) (fun _ h => h) (fun g => fun _ _ h hb => ⟨h.1.below hb, h.2⟩) (fun yq => stays_tt yq) (fun _ _ h hc => Below.chg h.1 hc (fun q hq => (h.2.rowGe q hq).1)) (fun g _ _ h hT hc => ⟨hT.1.chg h.2 hc, hT.2⟩) (fun aq wq hSw => ?_) (fun wq hSw => ?_) (fun yq => ?_)
 ·(first | exact ⟨_, by go_simp; (try with_reducible rfl), (Below.refl _ _).alloc (Nat.le_refl _) _, MV.new _, hSw.size⟩ | exact ⟨_, by go_simp; (try with_reducible rfl), (Below.refl _ _).alloc (Nat.le_refl _) _, MV.new _, hSw.1.size⟩ | exact ⟨_, by go_simp; (try with_reducible rfl), (Below.refl _ _).alloc (Nat.le_refl _) _, MV.new _, hSw.1.1.size⟩)
 ·exact RunC.of_calls (Queue.with m HMI.out a HA.out A5 t.list.length c5 t.list wq wz5.heap.size hSw.1.size hSw.2 (by have := HQ2.out.1.1.2.2.2.2; omega)) (by go_simp) (fun e w' h => by rw [HW.out] at h; exact ⟨(), h.1, trivial, h.2⟩)
 obtain ⟨⟩ := yq
 skip
 try simp only [tdy]
 refine wpF_take (k := 8) (v := ?_) _ rfl rfl rfl (by decide) (Stays.and_ (fun _ _ h hb => below_on h hb) (stays_tt ())) (fun _ h => h.1) (fun g => fun _ _ h hb => ⟨h.1.below hb, h.2⟩) (by kernel_rfl) (by kernel_rfl) (by kernel_rfl) (by kernel_rfl) (by kernel_rfl) (by kernel_rfl) (by kernel_rfl) (by kernel_rfl) (by intro cs b h; cases h) (fun _ _ _ h => h) (SteadyB.of_yields (Or.inl ⟨by rfl, ?_⟩)) ?_;rotate_left
 ·intro wq hSw;go_simp; try with_reducible rfl
 try simp only [tdy]
 refine wpF_take (k := 9) (v := ?_) _ rfl rfl rfl (by decide) (Stays.and_ (fun _ _ h hb => below_on h hb) (stays_tt ())) (fun _ h => h.1) (fun g => fun _ _ h hb => ⟨h.1.below hb, h.2⟩) (by kernel_rfl) (by kernel_rfl) (by kernel_rfl) (by kernel_rfl) (by kernel_rfl) (by kernel_rfl) (by kernel_rfl) (by kernel_rfl) (by intro cs b h; cases h) (fun _ _ _ h => h) (SteadyB.of_yields (Or.inl ⟨by rfl, ?_⟩)) ?_;rotate_left
 ·intro wq hSw;go_simp; try with_reducible rfl
 try simp only [tdy]
 refine wpF_take (k := 10) (v := ?_) _ rfl rfl rfl (by decide) (Stays.and_ (fun _ _ h hb => below_on h hb) (stays_tt ())) (fun _ h => h.1) (fun g => fun _ _ h hb => ⟨h.1.below hb, h.2⟩) (by kernel_rfl) (by kernel_rfl) (by kernel_rfl) (by kernel_rfl) (by kernel_rfl) (by kernel_rfl) (by kernel_rfl) (by kernel_rfl) (by intro cs b h; cases h) (fun _ _ _ h => h) (SteadyB.of_yields (Or.inl ⟨by rfl, ?_⟩)) ?_;rotate_left
 ·intro wq hSw;go_simp; try with_reducible rfl
 try simp only [tdy]
 refine wpF_done _ rfl rfl (by kernel_rfl) (by decide) (by rfl) (Stays.and_ (fun _ _ h hb => below_on h hb) (stays_tt ())) (fun _ h => h.1) (fun g => fun _ _ h hb => ⟨h.1.below hb, h.2⟩) (fun wq hSw => ?_) (fun gA => ?_)
 ·(first | exact ⟨_, by go_simp; (try with_reducible rfl), (Below.refl _ _).alloc (Nat.le_refl _) _, MV.new _, hSw.size⟩ | exact ⟨_, by go_simp; (try with_reducible rfl), (Below.refl _ _).alloc (Nat.le_refl _) _, MV.new _, hSw.1.size⟩ | exact ⟨_, by go_simp; (try with_reducible rfl), (Below.refl _ _).alloc (Nat.le_refl _) _, MV.new _, hSw.1.1.size⟩)
 try simp only [tdy]
 refine wpAnyE_store (i := 12) (fun wx => Below wz5.heap.size wz5 wx ∧ (Cs wx gA k.cells ∧ wz5.heap.size ≤ gA)) 111 k.cells [.int .u64 0, .int .i64 0, .int .u64 0, .int .u64 0, .int .i64 0] gA infoMean (.tmp 7) (.tmp 40) rfl rfl (by kernel_rfl) (by decide) (by rfl) ?sv8a ?sv8b ?sv8c ?sv8d ?sv8e (fun _ h => h.2.1.1) (fun _ h => ⟨below_sets h.2.2 _ _ h.1.1, Cs.putL k.cells 0 h.2.1.1 (by simp [Mu.cells]), h.2.2⟩) (fun _ h => h.1) ((fun _ _ h hb => ⟨below_on h.1 hb, h.2.1.below hb, h.2.2⟩)) ?sv8f
 case sv8a => rfl
 case sv8b => rfl
 case sv8c => rfl
 case sv8d => rfl
 case sv8e => rfl
 try simp only [tdy]
 refine tF 13 ((fun _ _ h hb => ⟨below_on h.1 hb, h.2.1.below hb, h.2.2⟩)) (fun _ h => h.1) ?_;try simp only [tdy]
 refine wpAnyE_done (by kernel_rfl) (fun wz hSz => ?_) _;have HQ3 := hid (below_on HQ2.out.2 hSz.1);clear hSz HQ2;go_wp2_with fail;go_ret
 exact ⟨by rw [HJ.out] <;> rfl, Or.inl ⟨by rw [HJ.out]; decide, HQ3.out⟩⟩
theorem Queue.join_0 (q mb th : Nat) (b : Int) (t : Tr It) (a : It) (hq : Qok b t.list) (ha : a.In) (hj : joinC b t.list a = 0) (w : World) (h : QAt w q mb th (qM b t.list) t) : Calls Tryz.prog 53 #[(.pointer (some ⟨q, 0, none⟩)), a.val] w (QJoin q mb th b t a w) := by
 obtain ⟨hr, hn, h32, hwi⟩ := joinC_0 hj;have HR := hid hr;have HN := hid hn;have HJ := hid hj;have H32 := hid h32;obtain ⟨hw, hqk, htr⟩ := hq.join ha hj;have HQK := hid hqk;have HTR := hid (htr t rfl);obtain ⟨k, hk⟩ : ∃ k, k = qM (nowI (fromI b t.list a) (t.list ++ [a])) (insI a t.list) := ⟨_, rfl⟩
 rw [← hk] at hw;have HKI : Hid k.In := hid (by have := withM_in (l := t.list) h.2.2.1 ha; rwa [hw] at this);have HW := hid hw;have HKE := hid hk;have HL32 : Hid (t.list.length < 32) := hid (by have := h.2.2.2.2; omega);clear hr hn h32 hwi hk hj hw hqk htr;have hal := (Below.refl w.heap.size w).alloc (Nat.le_refl _) (.cells #[.int .u64 a.t, .int .u32 a.r, .int .u32 a.v, .int .i64 a.i, .int .u64 a.u, .int .u32 a.s, .int .u32 a.y] 57);have HQ0 : Hid ((QAt (w.alloc (.cells #[.int .u64 a.t, .int .u32 a.r, .int .u32 a.v, .int .i64 a.i, .int .u64 a.u, .int .u32 a.s, .int .u32 a.y] 57)) q mb th (qM b t.list) t ∧ Cs (w.alloc (.cells #[.int .u64 a.t, .int .u32 a.r, .int .u32 a.v, .int .i64 a.i, .int .u64 a.u, .int .u32 a.s, .int .u32 a.y] 57)) w.heap.size a.cells) ∧ Below w.heap.size w (w.alloc (.cells #[.int .u64 a.t, .int .u32 a.r, .int .u32 a.v, .int .i64 a.i, .int .u64 a.u, .int .u32 a.s, .int .u32 a.y] 57))) := hid ⟨⟨h.below hal, Cs.new7 w 57 a⟩, hal⟩;have HA := hid ha;have HLT := hid h.lt;have HMI := hid h.2.2.1;have HFT : Hid (∀ g ∈ foot q mb th t, g < w.heap.size) := hid h.footlt;generalize qM b t.list = m at *
 clear hal h ha hq;unfold It.val;go_enter Tryz.func53, Tryz.ntmps53;go_upto_region 1 with fail;generalize (w.alloc (.cells #[.int .u64 a.t, .int .u32 a.r, .int .u32 a.v, .int .i64 a.i, .int .u64 a.u, .int .u32 a.s, .int .u32 a.y] 57)) = W0 at HQ0 ⊢;obtain ⟨q0, q1, q2, q3, q4, q5, q6⟩ := It.at a HQ0.out.1.2;go_wp2_with fail;clear q0 q1 q2 q3 q4 q5 q6;refine (Item.right a _).mono ?_;rw [HR.out];rintro e w1 ⟨rfl, hb⟩;have HQ1 := hid (And.intro (And.intro (HQ0.out.1.1.below hb) (HQ0.out.1.2.below hb)) (below_on HQ0.out.2 hb));clear hb HQ0;go_wp2_with fail;have hsT9 : Stays (fun wx => Below w1.heap.size w1 wx) := fun _ _ h hb => below_on h hb
 refine wp_region_grow (S := fun wx => Below w1.heap.size w1 wx) 13 (by kernel_rfl) (hsT9 _ _ ((Below.refl w1.heap.size w1)) (Below.refl _ _).drew) ?_;refine tF 0 (hsT9) (fun _ h => h) ?_;try simp only [tdy]
 refine tF 1 (hsT9) (fun _ h => h) ?_;try simp only [tdy]
 refine tF 2 (hsT9) (fun _ h => h) ?_;try simp only [tdy]
 refine tE 3 (v := ?_) (hsT9) (fun _ h => h) rfl (by kernel_rfl) (by rfl) ?_ ?_;rotate_left
 ·intro wq hSw;obtain ⟨_, _, _, _, _, k5, _⟩ := (HQ1.out.1.1.below hSw).at;obtain ⟨q0, q1, q2, q3, q4, q5, q6⟩ := It.at a (HQ1.out.1.2.below hSw);have hlk := (HQ1.out.1.1.below hSw).1.2.1.no HA.out.2.2.2.1 HN.out;unfold It.val at hlk;go_simp; try with_reducible rfl
 try simp only [tdy]
 refine tF 4 (hsT9) (fun _ h => h) ?_;try simp only [tdy]
 refine tE 5 (v := ?_) (hsT9) (fun _ h => h) rfl (by kernel_rfl) (by rfl) ?_ ?_;rotate_left
 ·intro wq hSw;obtain ⟨_, _, _, _, _, k5, _⟩ := (HQ1.out.1.1.below hSw).at;obtain ⟨q0, q1, q2, q3, q4, q5, q6⟩ := It.at a (HQ1.out.1.2.below hSw);have hlk := (HQ1.out.1.1.below hSw).1.2.1.no HA.out.2.2.2.1 HN.out;unfold It.val at hlk;go_simp; try with_reducible rfl
 try simp only [tdy]
 refine tE 6 (v := ?_) (hsT9) (fun _ h => h) rfl (by kernel_rfl) (by rfl) ?_ ?_;rotate_left
 ·intro wq hSw;obtain ⟨_, _, _, _, _, k5, _⟩ := (HQ1.out.1.1.below hSw).at;obtain ⟨q0, q1, q2, q3, q4, q5, q6⟩ := It.at a (HQ1.out.1.2.below hSw);have hlk := (HQ1.out.1.1.below hSw).1.2.1.no HA.out.2.2.2.1 HN.out;unfold It.val at hlk;go_simp; try with_reducible rfl
 try simp only [tdy]
 refine tF 7 (hsT9) (fun _ h => h) ?_;try simp only [tdy]
 refine tF 8 (hsT9) (fun _ h => h) ?_;try simp only [tdy]
 refine tF 9 (hsT9) (fun _ h => h) ?_;try simp only [tdy]
 refine wpAnyE_alloc (i := 10) (fun wx g => Cs wx g It.zero.cells ∧ w1.heap.size ≤ g) rfl (by kernel_rfl) (by decide) (by rfl) (hsT9) (fun _ h => h) (fun g => fun _ _ h hb => ⟨h.1.below hb, h.2⟩) (fun wq hSw => ?_) (fun gB => ?_)
 ·exact ⟨_, by go_simp; (try with_reducible rfl), (Below.refl _ _).alloc (Nat.le_refl _) _, Cs.new7 _ _ It.zero, hSw.size⟩
 try simp only [tdy]
 refine wpAnyE_store (i := 11) (fun wx => Below w1.heap.size w1 wx) 57 It.zero.cells It.zero.cells gB infoItem (.tmp 5) (.tmp 22) rfl rfl (by kernel_rfl) (by decide) (by rfl) ?sv10a ?sv10b ?sv10c ?sv10d ?sv10e (fun _ h => h.2.1) (fun _ h => below_sets h.2.2 _ _ h.1) (fun _ h => h) ((fun _ _ h hb => below_on h hb)) ?sv10f
 case sv10a => rfl
 case sv10b => rfl
 case sv10c => rfl
 case sv10d => rfl
 case sv10e => rfl
 try simp only [tdy]
 refine tF 12 ((fun _ _ h hb => below_on h hb)) (fun _ h => h) ?_;try simp only [tdy]
 refine wpAnyE_done (by kernel_rfl) (fun wz5 hSz5 => ?_) _;have HQ2 := hid (And.intro (And.intro (HQ1.out.1.1.below hSz5) (HQ1.out.1.2.below hSz5)) (below_on HQ1.out.2 hSz5));clear hSz5 HQ1;have hl := HQ2.out.1.1.1.2.1.len 3;obtain ⟨_, _, _, _, _, k5, _⟩ := HQ2.out.1.1.at;have c32 : ((t.list.length : Int) == 32) = false := by rw [beq_eq_false_iff_ne]; have := H32.out; omega
 go_wp2_with fail;clear hl k5 c32;have hsT11 : Stays (fun wx => Below wz5.heap.size wz5 wx) := fun _ _ h hb => below_on h hb
 refine wp_region_grow (S := fun wx => Below wz5.heap.size wz5 wx) 14 (by kernel_rfl) (hsT11 _ _ ((Below.refl wz5.heap.size wz5)) (Below.refl _ _).drew) ?_;refine tF 0 (hsT11) (fun _ h => h) ?_;try simp only [tdy]
 refine tF 1 (hsT11) (fun _ h => h) ?_;try simp only [tdy]
 refine tF 2 (hsT11) (fun _ h => h) ?_;try simp only [tdy]
 refine tE 3 (v := ?_) (hsT11) (fun _ h => h) rfl (by kernel_rfl) (by rfl) ?_ ?_;rotate_left
 ·intro wq hSw;obtain ⟨k0, k1, k2, k3, k4, _, _⟩ := (HQ2.out.1.1.below hSw).at;obtain ⟨q0, q1, q2, q3, q4, q5, q6⟩ := It.at a (HQ2.out.1.2.below hSw);go_simp; try with_reducible rfl
 try simp only [tdy]
 refine tF 4 (hsT11) (fun _ h => h) ?_;try simp only [tdy]
 refine tE 6 (v := ?_) (hsT11) (fun _ h => h) rfl (by kernel_rfl) (by rfl) ?_ ?_;rotate_left
 ·intro wq hSw;obtain ⟨k0, k1, k2, k3, k4, _, _⟩ := (HQ2.out.1.1.below hSw).at;obtain ⟨q0, q1, q2, q3, q4, q5, q6⟩ := It.at a (HQ2.out.1.2.below hSw);go_simp; try with_reducible rfl
 try simp only [tdy]
 refine wpF.fst (j := 11) (dst := some 7) (T := fun wx g => MV wx g [.int .u64 0, .int .i64 0, .int .u64 0, .int .u64 0, .int .i64 0] ∧ wz5.heap.size ≤ g) ?_;refine wpF_call (k := 5) _ (fun y : Option Addr × Nat => .slice y.1 t.list.length y.2) (ItsR wz5.heap.size t.list) rfl rfl rfl (Or.inl (by kernel_rfl)) (by kernel_rfl) (by decide) (by decide) (by decide) (by kernel_rfl) (by intro cs b h; cases h) (by rfl) (fun _ => rfl) (hsT11) (fun _ h => h) (fun g => fun _ _ h hb => ⟨h.1.below hb, h.2⟩) (fun yq => ItsR.stays wz5.heap.size t.list yq) (fun aq wq hSw => ?_) (fun wq hSw => ?_) (fun yq => ?_)
 ·(first | exact ⟨_, by go_simp; (try with_reducible rfl), (Below.refl _ _).alloc (Nat.le_refl _) _, MV.new _, hSw.size⟩ | exact ⟨_, by go_simp; (try with_reducible rfl), (Below.refl _ _).alloc (Nat.le_refl _) _, MV.new _, hSw.1.size⟩ | exact ⟨_, by go_simp; (try with_reducible rfl), (Below.refl _ _).alloc (Nat.le_refl _) _, MV.new _, hSw.1.1.size⟩)
 ·exact RunI.of_calls (Queue.items q mb th m t wq (HQ2.out.1.1.below hSw)) (by go_simp) (fun e w' h => by obtain ⟨A, c, he, ho, hb⟩ := h; exact ⟨(A, c), he, ho.weaken hSw.size, hb⟩)
 obtain ⟨A5, c5⟩ := yq;dsimp only;try simp only [tdy]
 refine wpF_callC (k := 7) (rowOf A5) (fun wx => Below wz5.heap.size wz5 wx) _ (fun _ : Unit => .tuple #[Mu.val k, .bool true]) (fun (_ : Unit) (_ : World) => True) rfl rfl rfl (Or.inl (by kernel_rfl)) (by kernel_rfl) (by decide) (by decide) (by decide) (by kernel_rfl) (by intro cs b h; cases h) (by rfl) (fun _ => rfl) (Stays.and_ (hsT11) (ItsR.stays wz5.heap.size t.list (A5, c5))) (fun _ h => h.1) (fun _ _ h hb => below_on h hb) (fun _ h => h) (fun g => fun _ _ h hb => ⟨h.1.below hb, h.2⟩) (fun yq => stays_tt yq) (fun _ _ h hc => Below.chg h.1 hc (fun q hq => (h.2.rowGe q hq).1)) (fun g _ _ h hT hc => ⟨hT.1.chg h.2 hc, hT.2⟩) (fun aq wq hSw => ?_) (fun wq hSw => ?_) (fun yq => ?_)
 ·(first | exact ⟨_, by go_simp; (try with_reducible rfl), (Below.refl _ _).alloc (Nat.le_refl _) _, MV.new _, hSw.size⟩ | exact ⟨_, by go_simp; (try with_reducible rfl), (Below.refl _ _).alloc (Nat.le_refl _) _, MV.new _, hSw.1.size⟩ | exact ⟨_, by go_simp; (try with_reducible rfl), (Below.refl _ _).alloc (Nat.le_refl _) _, MV.new _, hSw.1.1.size⟩)
 ·exact RunC.of_calls (Queue.with m HMI.out a HA.out A5 t.list.length c5 t.list wq wz5.heap.size hSw.1.size hSw.2 (by have := HQ2.out.1.1.2.2.2.2; omega)) (by go_simp) (fun e w' h => by rw [HW.out] at h; exact ⟨(), h.1, trivial, h.2⟩)
 obtain ⟨⟩ := yq
 skip
 try simp only [tdy]
 refine wpF_take (k := 8) (v := ?_) _ rfl rfl rfl (by decide) (Stays.and_ (fun _ _ h hb => below_on h hb) (stays_tt ())) (fun _ h => h.1) (fun g => fun _ _ h hb => ⟨h.1.below hb, h.2⟩) (by kernel_rfl) (by kernel_rfl) (by kernel_rfl) (by kernel_rfl) (by kernel_rfl) (by kernel_rfl) (by kernel_rfl) (by kernel_rfl) (by intro cs b h; cases h) (fun _ _ _ h => h) (SteadyB.of_yields (Or.inl ⟨by rfl, ?_⟩)) ?_;rotate_left
 ·intro wq hSw;go_simp; try with_reducible rfl
 try simp only [tdy]
 refine wpF_take (k := 9) (v := ?_) _ rfl rfl rfl (by decide) (Stays.and_ (fun _ _ h hb => below_on h hb) (stays_tt ())) (fun _ h => h.1) (fun g => fun _ _ h hb => ⟨h.1.below hb, h.2⟩) (by kernel_rfl) (by kernel_rfl) (by kernel_rfl) (by kernel_rfl) (by kernel_rfl) (by kernel_rfl) (by kernel_rfl) (by kernel_rfl) (by intro cs b h; cases h) (fun _ _ _ h => h) (SteadyB.of_yields (Or.inl ⟨by rfl, ?_⟩)) ?_;rotate_left
 ·intro wq hSw;go_simp; try with_reducible rfl
 try simp only [tdy]
 refine wpF_take (k := 10) (v := ?_) _ rfl rfl rfl (by decide) (Stays.and_ (fun _ _ h hb => below_on h hb) (stays_tt ())) (fun _ h => h.1) (fun g => fun _ _ h hb => ⟨h.1.below hb, h.2⟩) (by kernel_rfl) (by kernel_rfl) (by kernel_rfl) (by kernel_rfl) (by kernel_rfl) (by kernel_rfl) (by kernel_rfl) (by kernel_rfl) (by intro cs b h; cases h) (fun _ _ _ h => h) (SteadyB.of_yields (Or.inl ⟨by rfl, ?_⟩)) ?_;rotate_left
 ·intro wq hSw;go_simp; try with_reducible rfl
 try simp only [tdy]
 refine wpF_done _ rfl rfl (by kernel_rfl) (by decide) (by rfl) (Stays.and_ (fun _ _ h hb => below_on h hb) (stays_tt ())) (fun _ h => h.1) (fun g => fun _ _ h hb => ⟨h.1.below hb, h.2⟩) (fun wq hSw => ?_) (fun gA => ?_)
 ·(first | exact ⟨_, by go_simp; (try with_reducible rfl), (Below.refl _ _).alloc (Nat.le_refl _) _, MV.new _, hSw.size⟩ | exact ⟨_, by go_simp; (try with_reducible rfl), (Below.refl _ _).alloc (Nat.le_refl _) _, MV.new _, hSw.1.size⟩ | exact ⟨_, by go_simp; (try with_reducible rfl), (Below.refl _ _).alloc (Nat.le_refl _) _, MV.new _, hSw.1.1.size⟩)
 try simp only [tdy]
 refine wpAnyE_store (i := 12) (fun wx => Below wz5.heap.size wz5 wx ∧ (Cs wx gA k.cells ∧ wz5.heap.size ≤ gA)) 111 k.cells [.int .u64 0, .int .i64 0, .int .u64 0, .int .u64 0, .int .i64 0] gA infoMean (.tmp 7) (.tmp 40) rfl rfl (by kernel_rfl) (by decide) (by rfl) ?sv12a ?sv12b ?sv12c ?sv12d ?sv12e (fun _ h => h.2.1.1) (fun _ h => ⟨below_sets h.2.2 _ _ h.1.1, Cs.putL k.cells 0 h.2.1.1 (by simp [Mu.cells]), h.2.2⟩) (fun _ h => h.1) ((fun _ _ h hb => ⟨below_on h.1 hb, h.2.1.below hb, h.2.2⟩)) ?sv12f
 case sv12a => rfl
 case sv12b => rfl
 case sv12c => rfl
 case sv12d => rfl
 case sv12e => rfl
 try simp only [tdy]
 refine tF 13 ((fun _ _ h hb => ⟨below_on h.1 hb, h.2.1.below hb, h.2.2⟩)) (fun _ h => h.1) ?_;try simp only [tdy]
 refine wpAnyE_done (by kernel_rfl) (fun wz hSz => ?_) _;have HQ3 := hid (And.intro (And.intro (HQ2.out.1.1.below hSz.1) (HQ2.out.1.2.below hSz.1)) (below_on HQ2.out.2 hSz.1));have HK3 := hid hSz.2.1;have HSZ := hid HQ2.out.2.size;have HGA := hid hSz.2.2;clear hSz HQ2;obtain ⟨m0, m1, m2, m3, m4⟩ := Mu.at k HK3.out;have HCQ := hid HQ3.out.1.1.1.1;have hb3 := HQ3.out.2;go_wp2_with (first | ((with_reducible refine wpList_put_pre 111 k.cells infoMean rfl (.tmp 47) (.tmp 45) rfl q _ HCQ.out ?qd1a ?qd1b ?qd1c ?qd1d ?qd1e ?qd1f); (case qd1a => rfl); (case qd1b => exact (show 5 ≤ 7 by decide)); (case qd1c => rfl); (case qd1d => rfl); (case qd1e => rfl); (intro W2 hW2); (have HQ4 := hid (HQ3.out.1.1.mean HKI.out hW2)); (clear hW2 m0 m1 m2 m3 m4); (have HA4 := hid (HQ3.out.1.2.chg HQ4.out.2 (by simp; have := HLT.out; omega))); (obtain ⟨q0, q1, q2, q3, q4, q5, q6⟩ := It.at a HA4.out)) | fail);clear q0 q1 q2 q3 q4 q5 q6;refine (Queue.put q mb th k t a HA.out HN.out HTR.out.1 HTR.out.2 HL32.out _ HQ4.out.1).mono ?_;rintro e w9 ⟨rfl, kk, hkk, hqa, hcc⟩;have HFIN : Hid (∃ k', w.heap.size ≤ k' ∧ QAt w9 q mb th (qM (nowI (fromI b t.list a) (t.list ++ [a])) (insI a t.list)) ((Tr.put It.ahead k' a t).paint false) ∧ Chg (foot q mb th t) w w9) := hid (by
  have hc4 := HQ4.out.2;refine ⟨kk, ?_, by rw [← HKE.out]; exact hqa, ?_⟩
  ·have h1 := hc4.size; have h2 := HQ3.out.2.size; omega
  ·have g1 : Chg (foot q mb th t) w wz := Chg.below HQ3.out.2;exact (g1.trans hc4 (fun g hg => Or.inl (by simp at hg; subst hg; simp [foot]))).trans hcc (fun g hg => Or.inl hg))
 clear hkk hqa hcc hb3;go_wp2_with fail;go_ret
 exact ⟨by rw [HJ.out] <;> rfl, Or.inr ⟨HJ.out, HFIN.out⟩⟩
theorem Queue.join (q mb th : Nat) (b : Int) (t : Tr It) (a : It) (hq : Qok b t.list) (ha : a.In) (w : World) (h : QAt w q mb th (qM b t.list) t) : Calls Tryz.prog 53 #[(.pointer (some ⟨q, 0, none⟩)), a.val] w (QJoin q mb th b t a w) := by
 by_cases hj : joinC b t.list a = 0
 ·exact Queue.join_0 q mb th b t a hq ha hj w h
 ·cases hr : a.right with
  | false => exact Queue.join_2 q mb th b t a hq ha hr w h
  | true =>
   by_cases hn : ∃ x ∈ t.list, x.i = a.i
   ·obtain ⟨x, hx, hi⟩ := hn;exact Queue.join_13 q mb th b t a hq ha hr x hx hi w h
   ·have hn : ∀ x ∈ t.list, x.i ≠ a.i := fun x hx e => hn ⟨x, hx, e⟩
    by_cases h32 : t.list.length = 32
    ·exact Queue.join_7 q mb th b t a hq ha hr hn h32 w h
    ·cases hwi : withinI (fromI b t.list a) (t.list ++ [a]) with
     | false => exact Queue.join_8 q mb th b t a hq ha hr hn h32 hwi w h
     | true =>
      refine absurd ?_ hj;unfold joinC;rw [if_neg (by rw [hr]; simp), if_neg (by simpa using hn), if_neg h32, if_neg (by rw [hwi]; simp)]
end


section
open Go.RowKit
set_option maxRecDepth 100000
set_option maxHeartbeats 32000000
theorem QAt.away {F : List Nat} {w w' : World} {q mb th : Nat} {m : Mu} {t : Tr It} (h : QAt w q mb th m t) (hc : Chg F w w') (hF : ∀ g ∈ F, ∀ f a c, w.cell? ⟨g, 0, none⟩ ≠ some (.func f a c)) (hd : ∀ g ∈ foot q mb th t, g ∉ F) : QAt w' q mb th m t :=
 ⟨⟨h.1.1.chg hc (hd q (by simp [foot])), h.1.2.1.chg hc (hd mb (by simp [foot])), h.1.2.2.far hc hF (fun g hg => hd g (by simp [foot, hg]))⟩, h.2⟩
theorem Queue.without (q mb th : Nat) (m : Mu) (t : Tr It) (x : It) (hx : x.In) (k : Mu) (hk : k.In) (htk : m.take x.pp = (true, k)) (w : World) (h : QAt w q mb th m t) : Calls Tryz.prog 97 #[(.pointer (some ⟨q, 0, none⟩)), x.val] w (Ans (nowM k).val w) := by
 have hal := ((Below.refl w.heap.size w).alloc (Nat.le_refl _) (.cells #[.int .u64 x.t, .int .u32 x.r, .int .u32 x.v, .int .i64 x.i, .int .u64 x.u, .int .u32 x.s, .int .u32 x.y] 57)).alloc (by simp) (.cells #[.int .u64 0, .int .i64 0, .int .u64 0, .int .u64 0, .int .i64 0] 111);have HQ1 : Hid ((QAt ((w.alloc (.cells #[.int .u64 x.t, .int .u32 x.r, .int .u32 x.v, .int .i64 x.i, .int .u64 x.u, .int .u32 x.s, .int .u32 x.y] 57)).alloc (.cells #[.int .u64 0, .int .i64 0, .int .u64 0, .int .u64 0, .int .i64 0] 111)) q mb th m t ∧ Cs ((w.alloc (.cells #[.int .u64 x.t, .int .u32 x.r, .int .u32 x.v, .int .i64 x.i, .int .u64 x.u, .int .u32 x.s, .int .u32 x.y] 57)).alloc (.cells #[.int .u64 0, .int .i64 0, .int .u64 0, .int .u64 0, .int .i64 0] 111)) w.heap.size x.cells) ∧ (Cs ((w.alloc (.cells #[.int .u64 x.t, .int .u32 x.r, .int .u32 x.v, .int .i64 x.i, .int .u64 x.u, .int .u32 x.s, .int .u32 x.y] 57)).alloc (.cells #[.int .u64 0, .int .i64 0, .int .u64 0, .int .u64 0, .int .i64 0] 111)) (w.heap.size + 1) [.int .u64 0, .int .i64 0, .int .u64 0, .int .u64 0, .int .i64 0] ∧ Below w.heap.size w ((w.alloc (.cells #[.int .u64 x.t, .int .u32 x.r, .int .u32 x.v, .int .i64 x.i, .int .u64 x.u, .int .u32 x.s, .int .u32 x.y] 57)).alloc (.cells #[.int .u64 0, .int .i64 0, .int .u64 0, .int .u64 0, .int .i64 0] 111)))) := hid (by
  have h1 := Cs.new7 w 57 x;have h2 := Cs.alloc_new6 (w.alloc (.cells #[.int .u64 x.t, .int .u32 x.r, .int .u32 x.v, .int .i64 x.i, .int .u64 x.u, .int .u32 x.s, .int .u32 x.y] 57)) 111 [.int .u64 0, .int .i64 0, .int .u64 0, .int .u64 0, .int .i64 0];simp only [World.size_alloc] at h2;exact ⟨⟨h.below hal, h1.alloc _⟩, h2, hal⟩)
 have HMI := hid h.2.2.1;have HX := hid hx;have HKI := hid hk;have HTK := hid htk;clear h hal hx hk htk;unfold It.val;go_enter Tryz.func97, Tryz.ntmps97;go_upto_region 1 with fail;generalize ((w.alloc (.cells #[.int .u64 x.t, .int .u32 x.r, .int .u32 x.v, .int .i64 x.i, .int .u64 x.u, .int .u32 x.s, .int .u32 x.y] 57)).alloc (.cells #[.int .u64 0, .int .i64 0, .int .u64 0, .int .u64 0, .int .i64 0] 111)) = W1 at HQ1 ⊢;have hsT1 : Stays (fun wx => Below W1.heap.size W1 wx) := fun _ _ h hb => below_on h hb
 refine wp_region_grow (S := fun wx => Below W1.heap.size W1 wx) 13 (by kernel_rfl) (hsT1 _ _ ((Below.refl W1.heap.size W1)) (Below.refl _ _).drew) ?_;refine tF 0 (hsT1) (fun _ h => h) ?_;try simp only [tdy]
 refine tF 1 (hsT1) (fun _ h => h) ?_;try simp only [tdy]
 refine tF 2 (hsT1) (fun _ h => h) ?_;try simp only [tdy]
 refine tE 3 (v := ?_) (hsT1) (fun _ h => h) rfl (by kernel_rfl) (by rfl) ?_ ?_;rotate_left
 ·intro wq hSw;obtain ⟨k0, k1, k2, k3, k4, _, _⟩ := (HQ1.out.1.1.below hSw).at;obtain ⟨q0, q1, q2, q3, q4, q5, q6⟩ := It.at x (HQ1.out.1.2.below hSw);go_simp; try with_reducible rfl
 try simp only [tdy]
 refine tF 4 (hsT1) (fun _ h => h) ?_;try simp only [tdy]
 refine tE 5 (v := ?_) (hsT1) (fun _ h => h) rfl (by kernel_rfl) (by rfl) ?_ ?_;rotate_left
 ·intro wq hSw;obtain ⟨k0, k1, k2, k3, k4, _, _⟩ := (HQ1.out.1.1.below hSw).at;obtain ⟨q0, q1, q2, q3, q4, q5, q6⟩ := It.at x (HQ1.out.1.2.below hSw);go_simp; try with_reducible rfl
 try simp only [tdy]
 refine tC 6 (v := .tuple #[Mu.val k, .bool true]) (hsT1) (fun _ h => h) (fun wq hSw => (by have := Mean.take m x.pp HMI.out ⟨HX.out.1, HX.out.2.1, HX.out.2.2.1⟩ wq; rw [HTK.out] at this; exact this : Calls Tryz.prog 142 #[m.val, pv x.pp] wq (Ans (.tuple #[Mu.val k, .bool true]) wq))) ?_;try simp only [tdy]
 refine tF 7 (hsT1) (fun _ h => h) ?_;try simp only [tdy]
 refine tF 8 (hsT1) (fun _ h => h) ?_;try simp only [tdy]
 refine tF 9 (hsT1) (fun _ h => h) ?_;try simp only [tdy]
 refine wpAnyE_alloc (i := 10) (fun wx g => Cs wx g [.int .u64 0, .int .i64 0, .int .u64 0, .int .u64 0, .int .i64 0] ∧ W1.heap.size ≤ g) rfl (by kernel_rfl) (by decide) (by rfl) (hsT1) (fun _ h => h) (fun g => fun _ _ h hb => ⟨h.1.below hb, h.2⟩) (fun wq hSw => ?_) (fun gA => ?_)
 ·exact ⟨_, by go_simp; (try with_reducible rfl), (Below.refl _ _).alloc (Nat.le_refl _) _, Cs.alloc_new6 _ _ _, hSw.size⟩
 try simp only [tdy]
 refine wpAnyE_store (i := 11) (fun wx => Below W1.heap.size W1 wx ∧ (Cs wx gA k.cells ∧ W1.heap.size ≤ gA)) 111 k.cells [.int .u64 0, .int .i64 0, .int .u64 0, .int .u64 0, .int .i64 0] gA infoMean (.tmp 5) (.tmp 15) rfl rfl (by kernel_rfl) (by decide) (by rfl) ?sv2a ?sv2b ?sv2c ?sv2d ?sv2e (fun _ h => h.2.1) (fun _ h => ⟨below_sets h.2.2 _ _ h.1, Cs.putL _ 0 h.2.1 (by simp [Mu.cells]), h.2.2⟩) (fun _ h => h.1) ((fun _ _ h hb => ⟨below_on h.1 hb, h.2.1.below hb, h.2.2⟩)) ?sv2f
 case sv2a => rfl
 case sv2b => rfl
 case sv2c => rfl
 case sv2d => rfl
 case sv2e => rfl
 try simp only [tdy]
 refine tF 12 ((fun _ _ h hb => ⟨below_on h.1 hb, h.2.1.below hb, h.2.2⟩)) (fun _ h => h.1) ?_;try simp only [tdy]
 refine wpAnyE_done (by kernel_rfl) (fun wz hSz => ?_) _;have HZ2 := hid (HQ1.out.2.1.below hSz.1);have HB2 := hid (below_on HQ1.out.2.2 hSz.1);have HA := hid hSz.2.1;clear hSz HQ1 HTK;obtain ⟨m0, m1, m2, m3, m4⟩ := Mu.at k HA.out;go_wp2_with fail;refine (Queue.fromNow k HKI.out _).mono ?_;rintro e w2 ⟨rfl, hb⟩;have HZ3 := hid (HZ2.out.below hb);have HB3 := hid (below_on HB2.out hb);clear hb HZ2 HB2 m0 m1 m2 m3 m4;obtain ⟨j, hj⟩ : ∃ j, nowM k = j := ⟨_, rfl⟩
 rw [hj];have HJ := hid hj;clear hj;go_wp2_with (first | ((with_reducible refine pc 111 j.cells infoMean 4 18 (w.heap.size + 1) _ HZ3.out ?qh1f); (intro W2 hW2); (have HY := hid (show Cs W2 (w.heap.size + 1) j.cells ∧ Below w.heap.size w W2 by subst hW2; exact ⟨Cs.putL _ 0 HZ3.out (by simp [Mu.cells]), below_sets (by omega) _ _ HB3.out⟩)); (clear hW2); (obtain ⟨z0, z1, z2, z3, z4⟩ := Mu.at j HY.out.1)) | fail);refine bodyPost_ret (v := j.val) (by simp [results, Tryz.results97, go_sem, z0, z1, z2, z3, z4, Mu.val]) rfl ⟨by rw [HJ.out], HY.out.2⟩
def QLeft (q mb th : Nat) (b : Int) (t : Tr It) (x : It) (w w' : World) : Prop := ∃ t' A B, t.list = A ++ x :: B ∧ t'.list = A ++ B ∧ (∀ y ∈ A ++ B, y.i ≠ x.i) ∧ QAt w' q mb th (qM (nowI b (A ++ B)) (A ++ B)) t' ∧ Qok (nowI b (A ++ B)) (A ++ B) ∧ Tr.Whole t' ∧ (∀ g ∈ t'.blocks, g ∈ t.blocks) ∧ Chg (foot q mb th t) w w'
theorem Queue.leave_no (q mb th : Nat) (m : Mu) (t : Tr It) (i : Int) (hi : -9223372036854775808 ≤ i ∧ i ≤ 9223372036854775807) (hn : ∀ x ∈ t.list, x.i ≠ i) (w : World) (h : QAt w q mb th m t) : Calls Tryz.prog 57 #[(.pointer (some ⟨q, 0, none⟩)), .int .i64 i] w (Ans (.tuple #[It.zero.val, .int .i64 14]) w) := by
 have HI := hid hi;have HN := hid hn;have hal := (Below.refl w.heap.size w).alloc (Nat.le_refl _) (.cells #[.int .u64 0, .int .u32 0, .int .u32 0, .int .i64 0, .int .u64 0, .int .u32 0, .int .u32 0] 57);have HB0 := hid hal;have HQ0 := hid (h.below hal);have HZ : Hid (Cs (w.alloc (.cells #[.int .u64 0, .int .u32 0, .int .u32 0, .int .i64 0, .int .u64 0, .int .u32 0, .int .u32 0] 57)) w.heap.size It.zero.cells) := hid (Cs.new7 w 57 It.zero);clear h hal hi hn;go_enter Tryz.func57, Tryz.ntmps57;go_upto_region 1 with fail;generalize (w.alloc (.cells #[.int .u64 0, .int .u32 0, .int .u32 0, .int .i64 0, .int .u64 0, .int .u32 0, .int .u32 0] 57)) = W0 at HQ0 HB0 HZ ⊢;go_wp2_with fail;refine (Queue.find_no q mb th m t i HI.out HN.out _ HQ0.out).mono ?_;rintro e w1 ⟨rfl, hb⟩;have ha := (Below.refl w1.heap.size w1).alloc (Nat.le_refl _) (.cells #[.int .u64 0, .int .u32 0, .int .u32 0, .int .i64 0, .int .u64 0, .int .u32 0, .int .u32 0] 57);have HX1 : Hid (Cs (w1.alloc (.cells #[.int .u64 0, .int .u32 0, .int .u32 0, .int .i64 0, .int .u64 0, .int .u32 0, .int .u32 0] 57)) w1.heap.size It.zero.cells) := hid (Cs.new7 w1 57 It.zero);have HZ1 := hid ((HZ.out.below hb).below ha);have HB1 := hid (below_on (below_on HB0.out hb) ha);have HQ1 := hid ((HQ0.out.below hb).below ha);have HGX : Hid (w.heap.size < w1.heap.size) := hid (HZ.out.below hb).lt;clear hb ha HQ0 HB0 HZ;unfold It.val;go_upto_region 2 with fail;generalize w1.alloc (.cells #[.int .u64 0, .int .u32 0, .int .u32 0, .int .i64 0, .int .u64 0, .int .u32 0, .int .u32 0] 57) = W1 at HX1 HZ1 HB1 HQ1 ⊢
 generalize w1.heap.size = gx at HX1 HGX ⊢;obtain ⟨x0, x1, x2, x3, x4, x5, x6⟩ := It.at It.zero HX1.out;go_wp2_with (first | ((with_reducible refine pc 57 It.zero.cells infoItem 4 16 w.heap.size _ HZ1.out ?qh2f); (intro W2 hW2); (have HY := hid (show Cs W2 w.heap.size It.zero.cells ∧ Below w.heap.size w W2 by subst hW2; exact ⟨Cs.putL It.zero.cells 0 HZ1.out (by simp [It.cells]), below_sets (Nat.le_refl _) _ _ HB1.out⟩)); (clear hW2 x0 x1 x2 x3 x4 x5 x6); (obtain ⟨z0, z1, z2, z3, z4, z5, z6⟩ := It.at It.zero HY.out.1)) | fail);refine bodyPost_ret (v := .tuple #[It.zero.val, .int .i64 14]) (by simp [results, Tryz.results57, go_sem, z0, z1, z2, z3, z4, z5, z6, It.val]) rfl ⟨rfl, HY.out.2⟩
theorem Queue.leave_yes (q mb th : Nat) (b : Int) (t : Tr It) (hq : Qok b t.list) (hwh : Tr.Whole t) (x : It) (hx : x ∈ t.list) (w : World) (h : QAt w q mb th (qM b t.list) t) : Calls Tryz.prog 57 #[(.pointer (some ⟨q, 0, none⟩)), .int .i64 x.i] w (fun e w' => e = .returned (.tuple #[x.val, .int .i64 0]) ∧ QLeft q mb th b t x w w') := by
 have HX := hid hx;have HXI := hid (h.2.2.2.1 x hx);obtain ⟨A, B, hl, hi, hs⟩ := hq.parts hx;have HQL := hid (Qok.leave (by rw [hl] at hq; exact hq : Qok b (A ++ x :: B)));have HL := hid hl;have HI := hid hi;have HS := hid hs;have HH := hid (hq.has hx (t := t) rfl);have HR := hid (hwh.rem hs hl (Nat.le_refl _));have HP := hid (hwh.pre (lt := It.ahead) (x := x) (by intro e; rw [e] at hx; simp [Tr.list] at hx));have HLT : Hid (∀ g ∈ foot q mb th t, g < w.heap.size) := hid h.footlt;obtain ⟨m, hm⟩ : ∃ m, m = qM b t.list := ⟨_, rfl⟩
 have HM := hid hm;rw [← hm] at h;have HTK : Hid (m.take x.pp = (true, qM b (A ++ B))) := hid (by rw [hm, hl]; exact HQL.out.1);have hal := (Below.refl w.heap.size w).alloc (Nat.le_refl _) (.cells #[.int .u64 0, .int .u32 0, .int .u32 0, .int .i64 0, .int .u64 0, .int .u32 0, .int .u32 0] 57);have HB0 := hid hal;have HQ0 := hid (h.below hal);have HZ : Hid (Cs (w.alloc (.cells #[.int .u64 0, .int .u32 0, .int .u32 0, .int .i64 0, .int .u64 0, .int .u32 0, .int .u32 0] 57)) w.heap.size It.zero.cells) := hid (Cs.new7 w 57 It.zero);clear h hal hx hl hi hs hq hwh hm;go_enter Tryz.func57, Tryz.ntmps57;go_upto_region 1 with fail;generalize (w.alloc (.cells #[.int .u64 0, .int .u32 0, .int .u32 0, .int .i64 0, .int .u64 0, .int .u32 0, .int .u32 0] 57)) = W0 at HQ0 HB0 HZ ⊢;go_wp2_with fail;refine (Queue.find_yes q mb th m t x HX.out _ HQ0.out).mono ?_;rintro e w1 ⟨rfl, hb⟩;have ha := (Below.refl w1.heap.size w1).alloc (Nat.le_refl _) (.cells #[.int .u64 x.t, .int .u32 x.r, .int .u32 x.v, .int .i64 x.i, .int .u64 x.u, .int .u32 x.s, .int .u32 x.y] 57);have HX1 : Hid (Cs (w1.alloc (.cells #[.int .u64 x.t, .int .u32 x.r, .int .u32 x.v, .int .i64 x.i, .int .u64 x.u, .int .u32 x.s, .int .u32 x.y] 57)) w1.heap.size x.cells) := hid (Cs.new7 w1 57 x);have HZ1 := hid ((HZ.out.below hb).below ha);have HB1 := hid (below_on (below_on HB0.out hb) ha);have HQ1 := hid ((HQ0.out.below hb).below ha);have HGX : Hid (w.heap.size < w1.heap.size) := hid (HZ.out.below hb).lt;clear hb ha HQ0 HB0 HZ;unfold It.val
 go_upto_region 2 with fail;generalize w1.alloc (.cells #[.int .u64 x.t, .int .u32 x.r, .int .u32 x.v, .int .i64 x.i, .int .u64 x.u, .int .u32 x.s, .int .u32 x.y] 57) = W1 at HX1 HZ1 HB1 HQ1 ⊢;generalize w1.heap.size = gx at HX1 HGX ⊢;obtain ⟨x0, x1, x2, x3, x4, x5, x6⟩ := It.at x HX1.out;go_wp2_with fail;refine (Queue.without q mb th m t x HXI.out (qM b (A ++ B)) HQL.out.2.1 HTK.out _ HQ1.out).mono ?_;rintro e w2 ⟨rfl, hb⟩;have HQ2 := hid (HQ1.out.below hb);have HX2 := hid (HX1.out.below hb);have HZ2 := hid (HZ1.out.below hb);have HB2 := hid (below_on HB1.out hb);clear hb HQ1 HX1 HZ1 HB1 x0 x1 x2 x3 x4 x5 x6;rw [HQL.out.2.2.1];obtain ⟨j, hj⟩ : ∃ j, j = qM (nowI b (A ++ B)) (A ++ B) := ⟨_, rfl⟩
 rw [← hj];have HJ := hid hj;have HJI : Hid j.In := hid (by have := HQL.out.2.2.2; rw [hj]; exact sums_in this.base this.fw.pps this.fw.n32);clear hj;have HCQ := hid HQ2.out.1.1;have HTS : Hid (∀ j', j' ∈ foot q mb th t → j' ≠ w.heap.size ∧ j' ≠ gx) := hid (fun j' hj' => by have h1 := HLT.out j' hj'; have h2 := HGX.out; exact ⟨by omega, by omega⟩);go_wp2_with (first | ((with_reducible refine wpList_put_pre 111 j.cells infoMean rfl (.tmp 23) (.tmp 21) rfl q _ HCQ.out ?qh3a ?qh3b ?qh3c ?qh3d ?qh3e ?qh3f); (case qh3a => rfl); (case qh3b => exact (show 5 ≤ 7 by decide)); (case qh3c => rfl); (case qh3d => rfl); (case qh3e => rfl); (intro W2 hW2); (have HQ4 := hid (HQ2.out.mean HJI.out hW2)); (clear hW2); (have HX4 := hid (HX2.out.chg HQ4.out.2 (by simp; exact Ne.symm (HTS.out q (by simp [foot])).2))); (have HZ4 := hid (HZ2.out.chg HQ4.out.2 (by simp; exact Ne.symm (HTS.out q (by simp [foot])).1))); (obtain ⟨x0, x1, x2, x3, x4, x5, x6⟩ := It.at x HX4.out)) | fail);refine (Queue.drop q mb th j t x HXI.out A B HL.out HI.out HH.out HP.out HS.out (by have := HR.out.2; rwa [Tr.list_paint] at this) _ HQ4.out.1).mono ?_;rintro e w5 ⟨rfl, hq5, hc5⟩;have HX5 := hid (HX4.out.chg hc5 (fun hg => (HTS.out _ hg).2 rfl));have HZ1 := hid (HZ4.out.chg hc5 (fun hg => (HTS.out _ hg).1 rfl));have HQ5 := hid hq5;have HC5 : Hid (Chg (foot q mb th t) w w5) := hid (((Chg.below (F := foot q mb th t) HB2.out).trans HQ4.out.2 (fun g hg => Or.inl (by simp at hg; subst hg; simp [foot]))).trans hc5 (fun g hg => Or.inl hg))
 clear hq5 hc5 x0 x1 x2 x3 x4 x5 x6 HX4 HZ4;obtain ⟨x0, x1, x2, x3, x4, x5, x6⟩ := It.at x HX5.out;go_wp2_with (first | ((with_reducible refine pc 57 x.cells infoItem 4 27 w.heap.size _ HZ1.out ?qh4f); (intro W2 hW2); (have HY := hid (show Cs W2 w.heap.size x.cells ∧ Chg [w.heap.size] w5 W2 by subst hW2; exact ⟨Cs.putL x.cells 0 HZ1.out (by simp [It.cells]), Chg.sets _ _ (Chg.refl _ _) (Or.inl (by simp))⟩)); (clear hW2 x0 x1 x2 x3 x4 x5 x6); (obtain ⟨z0, z1, z2, z3, z4, z5, z6⟩ := It.at x HY.out.1)) | fail);have HFIN : Hid (QLeft q mb th b t x w W2) := hid (by
  refine ⟨(Tr.rem It.ahead t.size x t).paint false, A, B, HL.out, HR.out.2, HI.out, ?_, HQL.out.2.2.2, HR.out.1, fun g hg => by
   rw [Tr.blocks_paint] at hg;exact (Tr.Of.rem It.ahead x t.size t).2 g hg, HC5.out.trans HY.out.2 (fun g hg => Or.inr (by simp at hg; omega))⟩
  rw [← HJ.out];exact HQ5.out.away HY.out.2 (fun g hg f a c hcell => by simp at hg; subst hg; rw [HZ1.out.at0] at hcell; cases hcell) (fun g hg hm => by
   simp at hm;subst hm;have hg' : w.heap.size ∈ foot q mb th t := by
    simp only [foot, List.mem_cons] at hg ⊢;rcases hg with h1 | h1 | h1 | h1
    ·exact Or.inl h1
    ·exact Or.inr (Or.inl h1)
    ·exact Or.inr (Or.inr (Or.inl h1))
    ·rw [Tr.blocks_paint] at h1;exact Or.inr (Or.inr (Or.inr ((Tr.Of.rem It.ahead x t.size t).2 _ h1)))
   exact (HTS.out _ hg').1 rfl))
 refine bodyPost_ret (v := .tuple #[x.val, .int .i64 0]) (by simp [results, Tryz.results57, go_sem, z0, z1, z2, z3, z4, z5, z6, It.val]) rfl ⟨rfl, HFIN.out⟩
end


section
open Go.RowKit
theorem wpList_put_rowQ {ops : Array Oper} {rest : List Oper} {op : Oper} {a : Act} {w : World} {Q : Exit → Act → World → Prop} (T : TypeId) (vs : List Value) {m : Nat} (hT : (Tryz.prog.info? T).map (·.size) = some m) (hgd : op.guard = none) (x y : Operand) (ho : op.op = .store T x y)
  (b o : Nat) (ht : w.there b o m) (hn : vs.length = m) (h1 : vs.all (·.oneCell') = true) (hx : a.eval x = .pointer (some ⟨b, o, none⟩)) (hy : a.eval y = .agg vs.toArray)
  (h : ∀ W, W = w.setCells b o vs → wpList Tryz.prog ops Q rest (a.put op.dst undef) W) : wpList Tryz.prog ops Q (op :: rest) a w :=
 wpList_store_mid hgd T x y ho b o vs.toArray hx hy (by rw [← hn] at ht; simpa using ht) (by rw [hT, ← hn]; simp) (by simpa using h1) (h _ rfl)
end


section
open Go.RowKit
def restI (l : List It) (a : It) : List It := l.filter fun y => !(y.i == a.i)
theorem rest_eq {L M : List It} {x a : It} (hx : x.i = a.i) (h : ∀ y ∈ L ++ M, y.i ≠ x.i) : restI (L ++ x :: M) a = L ++ M := by
 unfold restI;rw [List.filter_append, List.filter_cons];have h1 : L.filter (fun y => !(y.i == a.i)) = L := List.filter_eq_self.2 (fun y hy => by have := h y (List.mem_append_left _ hy); simp; rw [← hx]; exact this);have h2 : M.filter (fun y => !(y.i == a.i)) = M := List.filter_eq_self.2 (fun y hy => by have := h y (List.mem_append_right _ hy); simp; rw [← hx]; exact this);rw [h1, h2, if_neg (by simp [hx])]
end


section
open Go.RowKit
set_option maxRecDepth 100000
set_option maxHeartbeats 32000000
section
attribute [local go_sem] eqDin
theorem Dt.foldQ (th : Nat) (k0 : Nat) (t : Tr It) (p : It → Bool) (w : World) (h : DTreeAt w th t)
  (hin : ∀ (y : It) (w' : World), y ∈ t.list → y.In → Below w.heap.size w w' → Calls Tryz.prog 71 #[y.val, .pointer (some ⟨k0, 0, none⟩)] w' (Ans (.bool (p y)) w')) :
  Calls Tryz.prog 112 #[.pointer (some ⟨th, 0, none⟩), (.func (.func 71) #[] #[.pointer (some ⟨k0, 0, none⟩)])] w (Ans (.tuple #[It.val (foldD p t (false, It.zero)).2, .bool (foldD p t (false, It.zero)).1]) w) := by
 have HT := hid h;have HIN := hid hin;have HFV0 : Hid (Fv w It.zero ((w.alloc (.cells #[.int .u64 0, .int .u32 0, .int .u32 0, .int .i64 0, .int .u64 0, .int .u32 0, .int .u32 0] 57)).alloc (.cells #[.int .u64 0, .int .u32 0, .int .u32 0, .int .i64 0, .int .u64 0, .int .u32 0, .int .u32 0] 57))) := hid ⟨⟨It.zero, (Cs.new7 w 57 It.zero).alloc _⟩, by have := Cs.new7 (w.alloc (.cells #[.int .u64 0, .int .u32 0, .int .u32 0, .int .i64 0, .int .u64 0, .int .u32 0, .int .u32 0] 57)) 57 It.zero; simp only [World.size_alloc] at this; exact this, ((Below.refl w.heap.size w).alloc (Nat.le_refl _) (.cells #[.int .u64 0, .int .u32 0, .int .u32 0, .int .i64 0, .int .u64 0, .int .u32 0, .int .u32 0] 57)).alloc (by simp) (.cells #[.int .u64 0, .int .u32 0, .int .u32 0, .int .i64 0, .int .u64 0, .int .u32 0, .int .u32 0] 57)⟩;obtain ⟨b1, b2, t0, t1, t2, _⟩ := HT.out.1;have HE := hid (And.intro t0 (And.intro t1 t2));have e3 := keep1 HFV0.out.2.2 t0.at3;clear t0 t1 t2 h hin;go_enter Tryz.func112, Tryz.ntmps112;go_wp2_with fail;generalize ((w.alloc (.cells #[.int .u64 0, .int .u32 0, .int .u32 0, .int .i64 0, .int .u64 0, .int .u32 0, .int .u32 0] 57)).alloc (.cells #[.int .u64 0, .int .u32 0, .int .u32 0, .int .i64 0, .int .u64 0, .int .u32 0, .int .u32 0] 57)) = W0 at e3 HFV0 ⊢
 go_loopg [7, 8] t.size (fun s b u wr => ∃ (sm : Bool) (acc : It) (v : Tr It), b = .bool sm ∧ u = ptr v ∧ s = v.size ∧ foldD p v (sm, acc) = foldD p t (false, It.zero) ∧ acc.In ∧ DIn w v ∧ (∀ y ∈ v.list, y ∈ t.list) ∧ Fv w acc wr)
 case atStart => exact ⟨false, It.zero, t, rfl, rfl, rfl, rfl, It.zero_in, HT.out.2.1, fun y hy => hy, HFV0.out⟩
 case round =>
  obtain ⟨sm, acc, v, rfl, rfl, hs, hf, ha, hi, hm, hv⟩ := hrel;have HS := hid hs;have HF := hid hf;have HI := hid hi;have HM := hid hm;have HFV := hid hv;have HAI := hid ha;have HC := hid (And.intro (HE.out.1.below hv.2.2) (And.intro (HE.out.2.1.below hv.2.2) (HE.out.2.2.below hv.2.2)));have e1 := HC.out.1.at1;have e2 := HC.out.1.at2;clear hs hf hi hm hv ha HFV0;cases v with
  | nil =>
   simp only [ptr_nil];clear e1 e2;have HF' : Hid (foldD p t (false, It.zero) = (sm, acc)) := hid (by rw [← HF.out]; rfl);obtain ⟨p0, p1, p2, p3, p4, p5, p6⟩ := It.at _ HFV.out.2.1;have hth := there_it HFV.out.1;have HAN := hid (answer_it (Nat.le_refl _) HFV.out.1 HFV.out.2.2 acc);go_wp2_with ((with_reducible refine wpList_put_it 57 infoItem rfl (.tmp 4) (.tmp 53) rfl w.heap.size 0 acc hth ?a1 ?a2 ?a3); (case a1 => rfl); (case a2 => rfl); (intro W2 hW2); (have HW := hid (HAN.out W2 hW2)); (clear hW2 hth p0 p1 p2 p3 p4 p5 p6); (obtain ⟨z0, z1, z2, z3, z4, z5, z6⟩ := HW.out.1));refine bodyPost_ret (v := .tuple #[It.val acc, .bool sm]) (by simp [results, Tryz.results112, go_sem, z0, z1, z2, z3, z4, z5, z6]) rfl ⟨by rw [HF'.out], HW.out.2⟩
  | node g cc l x r =>
   have HI2 := hid (HI.out.below HFV.out.2.2);obtain ⟨⟨v', hv', hc⟩, hl, _⟩ := HI2.out;have HXI := hid hv'.2.2;have HBI := hid (bestL_in hl hv'.2.2);obtain ⟨⟨vw, hvw, hcw⟩, _⟩ := HI.out;have HC3w := hid hcw.nd3;obtain ⟨p0, p1, p2, p3, p4, p5, p6⟩ := hc.th;have c2 := hc.nd2;clear hc hv' hl hvw hcw;simp only [ptr_node];go_wp2_with fail;refine (HIN.out x _ (HM.out x (by simp [Tr.list])) HXI.out HFV.out.2.2).mono ?_;rintro e w1 ⟨rfl, hb1⟩;have HB1 := hid hb1;have e2 := keep1 hb1 e2;have c2 := keep1 hb1 c2;clear hb1 p0 p1 p2 p3 p4 p5 p6 e1;cases hx : p x with
   | false =>
    have HX := hid hx;clear hx e2;go_wp2_with fail;go_roundg l.size
    case measure => have := HS.out; simp only [Tr.size] at this; omega
    case rel => exact ⟨sm, acc, l, rfl, rfl, rfl, by rw [← HF.out, foldD, if_neg (by rw [HX.out]; simp)], HAI.out, HI.out.2.1, fun y hy => HM.out y (by simp [Tr.list, hy]), HFV.out.below HB1.out⟩
   | true =>
    have HX := hid hx;clear hx c2;go_wp2_with fail;refine (Dt.upTo g b1 b2 cc l r x _ (HI2.out.st.below HB1.out) (HC.out.2.1.below HB1.out) (HC.out.2.2.below HB1.out)).mono ?_;rintro e w2' ⟨rfl, hb2⟩;have hb3 := (below_on HB1.out hb2).alloc (below_on HB1.out hb2).size (.cells #[.int .u64 (bestL l x).t, .int .u32 (bestL l x).r, .int .u32 (bestL l x).v, .int .i64 (bestL l x).i, .int .u64 (bestL l x).u, .int .u32 (bestL l x).s, .int .u32 (bestL l x).y] 57);have HB3 := hid hb3;have HPT0 : Hid (Cs (w2'.alloc (.cells #[.int .u64 (bestL l x).t, .int .u32 (bestL l x).r, .int .u32 (bestL l x).v, .int .i64 (bestL l x).i, .int .u64 (bestL l x).u, .int .u32 (bestL l x).s, .int .u32 (bestL l x).y] 57)) w2'.heap.size (bestL l x).cells) := hid (Cs.new7 _ _ _);have HBP : Hid (w.heap.size + 1 < w2'.heap.size) := hid (Nat.lt_of_lt_of_le HFV.out.2.1.lt7 (below_on HB1.out hb2).size);clear hb2 hb3 e2;have HNEW : Hid (∀ k, k = (if sm then sooner acc (bestL l x) else bestL l x) → foldD p r (true, k) = foldD p t (false, It.zero)) := hid (fun k hk => by rw [← HF.out, foldD, if_pos HX.out, hk]);cases sm with
    | false =>
     have hth := (HFV.out.below HB3.out).2.1.there7;have HST := hid ((HFV.out.below HB3.out).store (bestL l x));go_wp2_with ((with_reducible refine wpList_put_it 57 infoItem rfl (.tmp 6) (.tmp 48) rfl (w.heap.size + 1) 0 (bestL l x) hth ?b1 ?b2 ?b3); (case b1 => rfl); (case b2 => rfl); (intro W2 hW2); (have HW := hid (HST.out W2 hW2)); (clear hW2 hth); (have q3 := keep1 HW.out.2.2 HC3w.out));go_roundg r.size
     case measure => have := HS.out; simp only [Tr.size] at this; omega
     case rel => exact ⟨true, bestL l x, r, rfl, rfl, rfl, HNEW.out _ rfl, HBI.out, HI.out.2.2, fun y hy => HM.out y (by simp [Tr.list, hy]), HW.out⟩
    | true =>
     go_wp2_with fail;generalize hbp : w2'.heap.size = bp at HPT0 HBP ⊢;generalize (w2'.alloc (.cells #[.int .u64 (bestL l x).t, .int .u32 (bestL l x).r, .int .u32 (bestL l x).v, .int .i64 (bestL l x).i, .int .u64 (bestL l x).u, .int .u32 (bestL l x).s, .int .u32 (bestL l x).y] 57)) = w2 at HB3 HPT0 ⊢;clear hbp;have HQJ := hid (keep1 HB3.out HC.out.1.at1);have HFV2 := hid (HFV.out.below HB3.out);have HPT := hid HPT0.out.th7;refine wp_region_steady (S := Bl w2) 7 (by kernel_rfl) (Bl.drew w2) ?_;refine tV 0 ?_;try simp only [tdy]
     refine tV 1 ?_;try simp only [tdy]
     refine tV 2 ?_;try simp only [tdy]
     refine tU 3 (v := ?_) rfl (by kernel_rfl) (fun _ _ _ h => h) (by rfl) ?_ ?_;rotate_left
     ·intro wq hSw;have hSB : Below _ _ _ := hSw;have q1 := keep1 hSB HQJ.out;obtain ⟨p0, p1, p2, p3, p4, p5, p6⟩ := It.at _ (HFV2.out.2.1.below hSB);obtain ⟨m0, m1, m2, m3, m4, m5, m6⟩ := HPT.out.below hSB;go_simp; try with_reducible rfl
     try simp only [tdy]
     refine tU 4 (v := ?_) rfl (by kernel_rfl) (fun _ _ _ h => h) (by rfl) ?_ ?_;rotate_left
     ·intro wq hSw;have hSB : Below _ _ _ := hSw;have q1 := keep1 hSB HQJ.out;obtain ⟨p0, p1, p2, p3, p4, p5, p6⟩ := It.at _ (HFV2.out.2.1.below hSB);obtain ⟨m0, m1, m2, m3, m4, m5, m6⟩ := HPT.out.below hSB;go_simp; try with_reducible rfl
     try simp only [tdy]
     refine tU 5 (v := ?_) rfl (by kernel_rfl) (fun _ _ _ h => h) (by rfl) ?_ ?_;rotate_left
     ·intro wq hSw;have hSB : Below _ _ _ := hSw;have q1 := keep1 hSB HQJ.out;obtain ⟨p0, p1, p2, p3, p4, p5, p6⟩ := It.at _ (HFV2.out.2.1.below hSB);obtain ⟨m0, m1, m2, m3, m4, m5, m6⟩ := HPT.out.below hSB;go_simp; try with_reducible rfl
     try simp only [tdy]
     refine wpAnyU_take (i := 6) (v := It.val (sooner acc (bestL l x))) rfl (by kernel_rfl) (by kernel_rfl) (by kernel_rfl) (by kernel_rfl) (fun _ _ _ h => h) (Or.inl ⟨by rfl, fun wq hSw => ?_⟩) ?_
     ·refine SteadyRun.of_calls (Dtree.join acc (bestL l x) HAI.out HBI.out wq) (by go_simp) ?_;rintro e wr ⟨rfl, hb⟩;exact ⟨rfl, hSw.on hb⟩
     try simp only [tdy]
     refine wpAnyU_last rfl rfl (by kernel_rfl) (fun wz hSz => ?_);have hth9 := (HPT0.out.below hSz).there7;have HAN9 : Hid (∀ W, W = wz.setCells bp 0 (sooner acc (bestL l x)).cells → Cs W bp (sooner acc (bestL l x)).cells ∧ Fv w acc W) := hid (fun W e => by rw [e]; exact ⟨(HPT0.out.below hSz).stored _, (HFV2.out.below hSz).other HBP.out _⟩);clear hSz;go_wp2_with (first | ((with_reducible refine wpList_put_it 57 infoItem rfl (.tmp 9) (.tmp 47) rfl bp 0 (sooner acc (bestL l x)) hth9 ?c1 ?c2 ?c3); (case c1 => rfl); (case c2 => rfl); (intro W2 hW2); (have HW := hid (HAN9.out W2 hW2)); (clear hW2 hth9); (obtain ⟨p0, p1, p2, p3, p4, p5, p6⟩ := It.at _ HW.out.1); (have hth := HW.out.2.2.1.there7); (have HST := hid (HW.out.2.store (sooner acc (bestL l x))))) | (with_reducible refine wpList_put_it 57 infoItem rfl (.tmp 6) (.tmp 48) rfl (w.heap.size + 1) 0 (sooner acc (bestL l x)) hth ?d1 ?d2 ?d3); (case d1 => rfl); (case d2 => rfl); (intro W3 hW3); (have HY := hid (HST.out W3 hW3)); (clear hW3 hth p0 p1 p2 p3 p4 p5 p6); (have q3 := keep1 HY.out.2.2 HC3w.out));go_roundg r.size
     case measure => have := HS.out; simp only [Tr.size] at this; omega
     case rel => exact ⟨true, sooner acc (bestL l x), r, rfl, rfl, rfl, HNEW.out _ rfl, sooner_in HAI.out HBI.out, HI.out.2.2, fun y hy => HM.out y (by simp [Tr.list, hy]), HY.out⟩
end
theorem Dtree.soonestQ (th : Nat) (k0 : Nat) (t : Tr It) (p : It → Bool) (w : World) (h : DTreeAt w th t)
  (hin : ∀ (y : It) (w' : World), y ∈ t.list → y.In → Below w.heap.size w w' → Calls Tryz.prog 71 #[y.val, .pointer (some ⟨k0, 0, none⟩)] w' (Ans (.bool (p y)) w')) :
  Calls Tryz.prog 70 #[.agg #[.pointer (some ⟨th, 0, none⟩)], (.func (.func 71) #[] #[.pointer (some ⟨k0, 0, none⟩)])] w (Ans (.tuple #[It.val (foldD p t (false, It.zero)).2, .bool (foldD p t (false, It.zero)).1]) w) := by
 have hb0 := ((Below.refl w.heap.size w).alloc (Nat.le_refl _) (.cells #[.pointer (some ⟨th, 0, none⟩)] 115)).alloc (by simp) (.cells #[.int .u64 0, .int .u32 0, .int .u32 0, .int .i64 0, .int .u64 0, .int .u32 0, .int .u32 0] 57);have HT := hid (h.below hb0);have HB0 := hid hb0;have HIN := hid hin;have HZ : Hid (Cs ((w.alloc (.cells #[.pointer (some ⟨th, 0, none⟩)] 115)).alloc (.cells #[.int .u64 0, .int .u32 0, .int .u32 0, .int .i64 0, .int .u64 0, .int .u32 0, .int .u32 0] 57)) (w.heap.size + 1) It.zero.cells) := hid (by have := Cs.new7 (w.alloc (.cells #[.pointer (some ⟨th, 0, none⟩)] 115)) 57 It.zero; simp only [World.size_alloc] at this; exact this);clear h hin hb0;go_enter Tryz.func70, Tryz.ntmps70;go_wp2_with fail;refine (Dt.foldQ th k0 t p _ HT.out (fun y w' hy hyi hb => HIN.out y w' hy hyi (below_on HB0.out hb))).mono ?_;rintro e w1 ⟨rfl, hb⟩;have HZ2 : Hid (∃ z : It, Cs w1 (w.heap.size + 1) z.cells) := hid ⟨It.zero, HZ.out.below hb⟩;obtain ⟨sm, acc, hq⟩ : ∃ sm acc, foldD p t (false, It.zero) = (sm, acc) := ⟨_, _, rfl⟩
 have HQ := hid hq;rw [hq];have HAN := hid (answer_it (b := w.heap.size + 1) (by omega) HZ2.out (below_on HB0.out hb) acc);have hth := there_it HZ2.out;clear hb hq;go_wp2_with ((with_reducible refine wpList_put_it 57 infoItem rfl (.tmp 4) (.tmp 10) rfl (w.heap.size + 1) 0 acc hth ?s1 ?s2 ?s3); (case s1 => rfl); (case s2 => rfl); (intro W2 hW2); (have HW := hid (HAN.out W2 hW2)); (clear hW2 hth); (obtain ⟨z0, z1, z2, z3, z4, z5, z6⟩ := HW.out.1));refine bodyPost_ret (v := .tuple #[It.val acc, .bool sm]) (by simp [results, Tryz.results70, go_sem, z0, z1, z2, z3, z4, z5, z6]) rfl ⟨by rw [HQ.out], HW.out.2⟩
theorem Queue.owed_yes (q mb th : Nat) (m : Mu) (t : Tr It) (x : It) (hx : x ∈ t.list) (w : World) (h : QAt w q mb th m t) : Calls Tryz.prog 18 #[(.pointer (some ⟨q, 0, none⟩)), .int .i64 x.i] w (Ans (.tuple #[.int .i64 (m.sign x.pp).2, .int .i64 0]) w) := by
 have HX := hid hx;have HXI := hid (h.2.2.2.1 x hx);have HMI := hid h.2.2.1;have HQ0 := hid h;clear h hx;go_enter Tryz.func18, Tryz.ntmps18;go_wp2_with fail;refine (Queue.find_yes q mb th m t x HX.out _ HQ0.out).mono ?_;rintro e w1 ⟨rfl, hb⟩;have ha := (Below.refl w1.heap.size w1).alloc (Nat.le_refl _) (.cells #[.int .u64 x.t, .int .u32 x.r, .int .u32 x.v, .int .i64 x.i, .int .u64 x.u, .int .u32 x.s, .int .u32 x.y] 57);have HQ1 : Hid ((QAt (w1.alloc (.cells #[.int .u64 x.t, .int .u32 x.r, .int .u32 x.v, .int .i64 x.i, .int .u64 x.u, .int .u32 x.s, .int .u32 x.y] 57)) q mb th m t ∧ Cs (w1.alloc (.cells #[.int .u64 x.t, .int .u32 x.r, .int .u32 x.v, .int .i64 x.i, .int .u64 x.u, .int .u32 x.s, .int .u32 x.y] 57)) w1.heap.size x.cells) ∧ Below w.heap.size w (w1.alloc (.cells #[.int .u64 x.t, .int .u32 x.r, .int .u32 x.v, .int .i64 x.i, .int .u64 x.u, .int .u32 x.s, .int .u32 x.y] 57))) := hid ⟨⟨(HQ0.out.below hb).below ha, Cs.new7 w1 57 x⟩, below_on hb ha⟩;clear hb ha HQ0;unfold It.val;go_wp2_with fail;generalize w1.alloc (.cells #[.int .u64 x.t, .int .u32 x.r, .int .u32 x.v, .int .i64 x.i, .int .u64 x.u, .int .u32 x.s, .int .u32 x.y] 57) = W1 at HQ1 ⊢;generalize w1.heap.size = gx at HQ1 ⊢;have hsT1 : Stays (fun wx => (QAt wx q mb th m t ∧ Cs wx gx x.cells) ∧ Below w.heap.size w wx) := fun _ _ h hb => ⟨⟨h.1.1.below hb, h.1.2.below hb⟩, below_on h.2 hb⟩
 refine wp_region_grow (S := fun wx => (QAt wx q mb th m t ∧ Cs wx gx x.cells) ∧ Below w.heap.size w wx) 12 (by kernel_rfl) (hsT1 _ _ (HQ1.out) (Below.refl _ _).drew) ?_;refine tF 0 (hsT1) (fun _ h => h) ?_;try simp only [tdy]
 refine tF 1 (hsT1) (fun _ h => h) ?_;try simp only [tdy]
 refine tF 2 (hsT1) (fun _ h => h) ?_;try simp only [tdy]
 refine tE 3 (v := ?_) (hsT1) (fun _ h => h) rfl (by kernel_rfl) (by rfl) ?_ ?_;rotate_left
 ·intro wq hSw;obtain ⟨k0, k1, k2, k3, k4, _, _⟩ := hSw.1.1.at;obtain ⟨q0, q1, q2, q3, q4, q5, q6⟩ := It.at x hSw.1.2;go_simp; try with_reducible rfl
 try simp only [tdy]
 refine tF 4 (hsT1) (fun _ h => h) ?_;try simp only [tdy]
 refine tE 5 (v := ?_) (hsT1) (fun _ h => h) rfl (by kernel_rfl) (by rfl) ?_ ?_;rotate_left
 ·intro wq hSw;obtain ⟨k0, k1, k2, k3, k4, _, _⟩ := hSw.1.1.at;obtain ⟨q0, q1, q2, q3, q4, q5, q6⟩ := It.at x hSw.1.2;go_simp; try with_reducible rfl
 try simp only [tdy]
 refine tC 6 (v := .tuple #[.int .i64 (m.sign x.pp).2, .bool (m.sign x.pp).1]) (hsT1) (fun _ h => h) (fun wq hSw => Lag.sign m x.pp HMI.out ⟨HXI.out.1, HXI.out.2.1, HXI.out.2.2.1⟩ wq) ?_;try simp only [tdy]
 refine tF 7 (hsT1) (fun _ h => h) ?_;try simp only [tdy]
 refine tF 8 (hsT1) (fun _ h => h) ?_;try simp only [tdy]
 refine tF 9 (hsT1) (fun _ h => h) ?_;try simp only [tdy]
 refine tF 10 (hsT1) (fun _ h => h) ?_;try simp only [tdy]
 refine tF 11 (hsT1) (fun _ h => h) ?_;try simp only [tdy]
 refine wpAnyE_done (by kernel_rfl) (fun wz hSz => ?_) _;have HB := hid hSz.2;clear hSz HQ1;go_wp2_with fail
 go_ret2
 exact ⟨rfl, HB.out⟩
theorem Queue.lag_yes (q mb th : Nat) (m : Mu) (t : Tr It) (x : It) (hx : x ∈ t.list) (w : World) (h : QAt w q mb th m t) : Calls Tryz.prog 38 #[(.pointer (some ⟨q, 0, none⟩)), .int .i64 x.i] w (Ans (.tuple #[wv (m.lag x.pp).2, .int .i64 0]) w) := by
 have HX := hid hx;have HXI := hid (h.2.2.2.1 x hx);have HMI := hid h.2.2.1;have hal := (Below.refl w.heap.size w).alloc (Nat.le_refl _) (.cells #[.int .i64 0, .int .u64 0] 51);have HB0 := hid hal;have HQ0 := hid (h.below hal);have HZ : Hid (Cs (w.alloc (.cells #[.int .i64 0, .int .u64 0] 51)) w.heap.size [.int .i64 0, .int .u64 0]) := hid (Cs.new2 w 51 _ _);clear h hx hal;go_enter Tryz.func38, Tryz.ntmps38;go_upto_region 1 with fail;generalize (w.alloc (.cells #[.int .i64 0, .int .u64 0] 51)) = W0 at HQ0 HB0 HZ ⊢;go_wp2_with fail;refine (Queue.find_yes q mb th m t x HX.out _ HQ0.out).mono ?_;rintro e w1 ⟨rfl, hb⟩;have ha := (Below.refl w1.heap.size w1).alloc (Nat.le_refl _) (.cells #[.int .u64 x.t, .int .u32 x.r, .int .u32 x.v, .int .i64 x.i, .int .u64 x.u, .int .u32 x.s, .int .u32 x.y] 57);have HQ1 : Hid ((QAt (w1.alloc (.cells #[.int .u64 x.t, .int .u32 x.r, .int .u32 x.v, .int .i64 x.i, .int .u64 x.u, .int .u32 x.s, .int .u32 x.y] 57)) q mb th m t ∧ Cs (w1.alloc (.cells #[.int .u64 x.t, .int .u32 x.r, .int .u32 x.v, .int .i64 x.i, .int .u64 x.u, .int .u32 x.s, .int .u32 x.y] 57)) w1.heap.size x.cells) ∧ (Cs (w1.alloc (.cells #[.int .u64 x.t, .int .u32 x.r, .int .u32 x.v, .int .i64 x.i, .int .u64 x.u, .int .u32 x.s, .int .u32 x.y] 57)) w.heap.size [.int .i64 0, .int .u64 0] ∧ Below w.heap.size w (w1.alloc (.cells #[.int .u64 x.t, .int .u32 x.r, .int .u32 x.v, .int .i64 x.i, .int .u64 x.u, .int .u32 x.s, .int .u32 x.y] 57)))) := hid ⟨⟨(HQ0.out.below hb).below ha, Cs.new7 w1 57 x⟩, (HZ.out.below hb).below ha, below_on (below_on HB0.out hb) ha⟩
 clear hb ha HQ0 HB0 HZ;unfold It.val;go_wp2_with fail;generalize w1.alloc (.cells #[.int .u64 x.t, .int .u32 x.r, .int .u32 x.v, .int .i64 x.i, .int .u64 x.u, .int .u32 x.s, .int .u32 x.y] 57) = W1 at HQ1 ⊢;generalize w1.heap.size = gx at HQ1 ⊢;have hsT4 : Stays (fun wx => (Below W1.heap.size W1 wx)) := fun _ _ h hb => below_on h hb
 refine wp_region_grow (S := fun wx => (Below W1.heap.size W1 wx)) 13 (by kernel_rfl) (hsT4 _ _ ((Below.refl W1.heap.size W1)) (Below.refl _ _).drew) ?_;refine tF 0 (hsT4) (fun _ h => h) ?_;try simp only [tdy]
 refine tF 1 (hsT4) (fun _ h => h) ?_;try simp only [tdy]
 refine tF 2 (hsT4) (fun _ h => h) ?_;try simp only [tdy]
 refine tE 3 (v := ?_) (hsT4) (fun _ h => h) rfl (by kernel_rfl) (by rfl) ?_ ?_;rotate_left
 ·intro wq hSw;obtain ⟨k0, k1, k2, k3, k4, _, _⟩ := (HQ1.out.1.1.below hSw).at;obtain ⟨q0, q1, q2, q3, q4, q5, q6⟩ := It.at x (HQ1.out.1.2.below hSw);go_simp; try with_reducible rfl
 try simp only [tdy]
 refine tF 4 (hsT4) (fun _ h => h) ?_;try simp only [tdy]
 refine tE 5 (v := ?_) (hsT4) (fun _ h => h) rfl (by kernel_rfl) (by rfl) ?_ ?_;rotate_left
 ·intro wq hSw;obtain ⟨k0, k1, k2, k3, k4, _, _⟩ := (HQ1.out.1.1.below hSw).at;obtain ⟨q0, q1, q2, q3, q4, q5, q6⟩ := It.at x (HQ1.out.1.2.below hSw);go_simp; try with_reducible rfl
 try simp only [tdy]
 refine tC 6 (v := .tuple #[wv (m.lag x.pp).2, .bool (m.lag x.pp).1]) (hsT4) (fun _ h => h) (fun wq hSw => Lag.read m x.pp HMI.out ⟨HXI.out.1, HXI.out.2.1, HXI.out.2.2.1⟩ wq) ?_;try simp only [tdy]
 refine tF 7 (hsT4) (fun _ h => h) ?_;try simp only [tdy]
 refine tF 8 (hsT4) (fun _ h => h) ?_;try simp only [tdy]
 refine tF 9 (hsT4) (fun _ h => h) ?_;try simp only [tdy]
 refine wpAnyE_alloc (i := 10) (fun wx g => Cs wx g [.int .i64 0, .int .u64 0] ∧ W1.heap.size ≤ g) rfl (by kernel_rfl) (by decide) (by rfl) (hsT4) (fun _ h => h) (fun g => fun _ _ h hb => ⟨h.1.below hb, h.2⟩) (fun wq hSw => ?_) (fun gA => ?_)
 ·exact ⟨_, by go_simp; (try with_reducible rfl), (Below.refl _ _).alloc (Nat.le_refl _) _, Cs.new2 _ _ _ _, hSw.size⟩
 try simp only [tdy]
 refine wpAnyE_store (i := 11) (fun wx => Below W1.heap.size W1 wx ∧ (Cs wx gA [.int .i64 (hiW (m.lag x.pp).2), .int .u64 (loW (m.lag x.pp).2)] ∧ W1.heap.size ≤ gA)) 51 [.int .i64 (hiW (m.lag x.pp).2), .int .u64 (loW (m.lag x.pp).2)] [.int .i64 0, .int .u64 0] gA infoWide (.tmp 8) (.tmp 28) rfl rfl (by kernel_rfl) (by decide) (by rfl) ?sv5a ?sv5b ?sv5c ?sv5d ?sv5e (fun _ h => h.2.1) (fun _ h => ⟨below_sets h.2.2 _ _ h.1, Cs.putL _ 0 h.2.1 (by simp), h.2.2⟩) (fun _ h => h.1) ((fun _ _ h hb => ⟨below_on h.1 hb, h.2.1.below hb, h.2.2⟩)) ?sv5f
 case sv5a => rfl
 case sv5b => rfl
 case sv5c => rfl
 case sv5d => rfl
 case sv5e => rfl
 try simp only [tdy]
 refine tF 12 ((fun _ _ h hb => ⟨below_on h.1 hb, h.2.1.below hb, h.2.2⟩)) (fun _ h => h.1) ?_;try simp only [tdy]
 refine wpAnyE_done (by kernel_rfl) (fun wz hSz => ?_) _;have HZ2 := hid (HQ1.out.2.1.below hSz.1);have HB2 := hid (below_on HQ1.out.2.2 hSz.1);have HA := hid hSz.2.1;clear hSz HQ1;have v0 := HA.out.at0;have v1 := HA.out.at1;go_wp2_with (first | ((with_reducible refine pc 51 [.int .i64 (hiW (m.lag x.pp).2), .int .u64 (loW (m.lag x.pp).2)] infoWide 4 30 w.heap.size _ HZ2.out ?qe3f); (intro W2 hW2); (have HY := hid (show Cs W2 w.heap.size [.int .i64 (hiW (m.lag x.pp).2), .int .u64 (loW (m.lag x.pp).2)] ∧ Below w.heap.size w W2 by subst hW2; exact ⟨Cs.putL _ 0 HZ2.out (by simp), below_sets (Nat.le_refl _) _ _ HB2.out⟩)); (clear hW2 v0 v1); (have z0 := HY.out.1.at0); (have z1 := HY.out.1.at1)) | fail);refine bodyPost_ret (v := .tuple #[wv (m.lag x.pp).2, .int .i64 0]) (by simp [results, Tryz.results38, go_sem, z0, z1, wv]) rfl ⟨rfl, HY.out.2⟩
theorem Queue.elig (q mb th : Nat) (m : Mu) (t : Tr It) (k : Nat) (y : It) (hy : y.In) (w : World) (h : QAt w q mb th m t) (hk : Cs w k [(.pointer (some ⟨q, 0, none⟩))]) : Calls Tryz.prog 71 #[y.val, .pointer (some ⟨k, 0, none⟩)] w (Ans (.bool (m.elig y.pp)) w) := by
 have hal := (Below.refl w.heap.size w).alloc (Nat.le_refl _) (.cells #[.int .u64 y.t, .int .u32 y.r, .int .u32 y.v, .int .i64 y.i, .int .u64 y.u, .int .u32 y.s, .int .u32 y.y] 57);have HB0 := hid hal;have HQ0 := hid (h.below hal);have HK0 := hid (hk.below hal);have HY : Hid (Cs (w.alloc (.cells #[.int .u64 y.t, .int .u32 y.r, .int .u32 y.v, .int .i64 y.i, .int .u64 y.u, .int .u32 y.s, .int .u32 y.y] 57)) w.heap.size y.cells) := hid (Cs.new7 w 57 y);have HYI := hid hy;have HMI := hid h.2.2.1;clear h hk hal hy;unfold It.val;go_enter Tryz.func71, Tryz.ntmps71;go_upto_region 1 with fail;generalize (w.alloc (.cells #[.int .u64 y.t, .int .u32 y.r, .int .u32 y.v, .int .i64 y.i, .int .u64 y.u, .int .u32 y.s, .int .u32 y.y] 57)) = W0 at HB0 HQ0 HK0 HY ⊢;obtain ⟨k0, k1, k2, k3, k4, _, _⟩ := HQ0.out.at;obtain ⟨q0, q1, q2, q3, q4, q5, q6⟩ := It.at y HY.out;have hk0 := HK0.out.at0;clear k0 k1 k2 k3 k4 q0 q1 q2 q3 q4 q5 q6 hk0;go_wp2_with fail;have hsT6 : Stays (fun wx => Below W0.heap.size W0 wx) := fun _ _ h hb => below_on h hb
 refine wp_region_grow (S := fun wx => Below W0.heap.size W0 wx) 8 (by kernel_rfl) (hsT6 _ _ ((Below.refl W0.heap.size W0)) (Below.refl _ _).drew) ?_;refine tE 0 (v := ?_) (hsT6) (fun _ h => h) rfl (by kernel_rfl) (by rfl) ?_ ?_;rotate_left
 ·intro wq hSw;obtain ⟨k0, k1, k2, k3, k4, _, _⟩ := (HQ0.out.below hSw).at;obtain ⟨q0, q1, q2, q3, q4, q5, q6⟩ := It.at y (HY.out.below hSw);have hk0 := (HK0.out.below hSw).at0;go_simp; try with_reducible rfl
 try simp only [tdy]
 refine tF 1 (hsT6) (fun _ h => h) ?_;try simp only [tdy]
 refine tF 2 (hsT6) (fun _ h => h) ?_;try simp only [tdy]
 refine tE 3 (v := ?_) (hsT6) (fun _ h => h) rfl (by kernel_rfl) (by rfl) ?_ ?_;rotate_left
 ·intro wq hSw;obtain ⟨k0, k1, k2, k3, k4, _, _⟩ := (HQ0.out.below hSw).at;obtain ⟨q0, q1, q2, q3, q4, q5, q6⟩ := It.at y (HY.out.below hSw);have hk0 := (HK0.out.below hSw).at0;go_simp; try with_reducible rfl
 try simp only [tdy]
 refine tF 4 (hsT6) (fun _ h => h) ?_;try simp only [tdy]
 refine tE 5 (v := ?_) (hsT6) (fun _ h => h) rfl (by kernel_rfl) (by rfl) ?_ ?_;rotate_left
 ·intro wq hSw;obtain ⟨k0, k1, k2, k3, k4, _, _⟩ := (HQ0.out.below hSw).at;obtain ⟨q0, q1, q2, q3, q4, q5, q6⟩ := It.at y (HY.out.below hSw);have hk0 := (HK0.out.below hSw).at0;go_simp; try with_reducible rfl
 try simp only [tdy]
 refine tC 6 (v := .bool (m.elig y.pp)) (hsT6) (fun _ h => h) (fun wq hSw => Lag.eligible m y.pp HMI.out ⟨HYI.out.1, HYI.out.2.1, HYI.out.2.2.1⟩ wq) ?_;try simp only [tdy]
 refine tF 7 (hsT6) (fun _ h => h) ?_;try simp only [tdy]
 refine wpAnyE_done (by kernel_rfl) (fun wz hSz => ?_) _;have HB := hid (below_on HB0.out hSz);clear hSz;go_wp2_with fail;go_ret
 exact ⟨rfl, HB.out⟩
theorem Queue.soonest (q mb th : Nat) (m : Mu) (t : Tr It) (w : World) (h : QAt w q mb th m t) : Calls Tryz.prog 34 #[(.pointer (some ⟨q, 0, none⟩))] w (Ans (.tuple #[It.val (foldD (fun y => m.elig y.pp) t (false, It.zero)).2, .bool (foldD (fun y => m.elig y.pp) t (false, It.zero)).1]) w) := by
 have hal := ((Below.refl w.heap.size w).alloc (Nat.le_refl _) (.cells #[(.pointer (some ⟨q, 0, none⟩))] 46)).alloc (by simp) (.cells #[.int .u64 0, .int .u32 0, .int .u32 0, .int .i64 0, .int .u64 0, .int .u32 0, .int .u32 0] 57);have HB0 := hid hal;have HQ0 := hid (h.below hal);have HK0 : Hid (Cs ((w.alloc (.cells #[(.pointer (some ⟨q, 0, none⟩))] 46)).alloc (.cells #[.int .u64 0, .int .u32 0, .int .u32 0, .int .i64 0, .int .u64 0, .int .u32 0, .int .u32 0] 57)) w.heap.size [(.pointer (some ⟨q, 0, none⟩))]) := hid ((Cs.alloc_new w 46 [(.pointer (some ⟨q, 0, none⟩))]).alloc _);have HZ : Hid (Cs ((w.alloc (.cells #[(.pointer (some ⟨q, 0, none⟩))] 46)).alloc (.cells #[.int .u64 0, .int .u32 0, .int .u32 0, .int .i64 0, .int .u64 0, .int .u32 0, .int .u32 0] 57)) (w.heap.size + 1) It.zero.cells) := hid (by have := Cs.new7 (w.alloc (.cells #[(.pointer (some ⟨q, 0, none⟩))] 46)) 57 It.zero; simp only [World.size_alloc] at this; exact this);clear h hal;go_enter Tryz.func34, Tryz.ntmps34;go_upto_region 1 with fail;generalize ((w.alloc (.cells #[(.pointer (some ⟨q, 0, none⟩))] 46)).alloc (.cells #[.int .u64 0, .int .u32 0, .int .u32 0, .int .i64 0, .int .u64 0, .int .u32 0, .int .u32 0] 57)) = W0 at HB0 HQ0 HK0 HZ ⊢;obtain ⟨_, _, _, _, _, _, k6⟩ := HQ0.out.at;have hk0 := HK0.out.at0;go_wp2_with fail;clear k6 hk0;refine (Dtree.soonestQ th w.heap.size t (fun y => m.elig y.pp) _ HQ0.out.1.2.2 (fun y w' _ hyi hb => Queue.elig q mb th m t w.heap.size y hyi w' (HQ0.out.below hb) (HK0.out.below hb))).mono ?_
 rintro e w1 ⟨rfl, hb⟩;have HZ1 := hid (HZ.out.below hb);have HB1 := hid (below_on HB0.out hb);clear hb HQ0 HK0 HZ HB0;obtain ⟨sm, x, hf⟩ : ∃ sm x, foldD (fun y => m.elig y.pp) t (false, It.zero) = (sm, x) := ⟨_, _, rfl⟩
 have HF := hid hf;rw [hf];clear hf;dsimp only;go_wp2_with (first | ((with_reducible refine pc 57 x.cells infoItem 2 13 (w.heap.size + 1) _ HZ1.out ?qe5f); (intro W2 hW2); (have HY := hid (show Cs W2 (w.heap.size + 1) x.cells ∧ Below w.heap.size w W2 by subst hW2; exact ⟨Cs.putL x.cells 0 HZ1.out (by simp [It.cells]), below_sets (by omega) _ _ HB1.out⟩)); (clear hW2); (obtain ⟨z0, z1, z2, z3, z4, z5, z6⟩ := It.at x HY.out.1)) | fail);refine bodyPost_ret (v := .tuple #[x.val, .bool sm]) (by simp [results, Tryz.results34, go_sem, z0, z1, z2, z3, z4, z5, z6, It.val]) rfl ⟨by rw [HF.out], HY.out.2⟩
end


section
open Go.RowKit
theorem DIn.cell0 {w : World} : ∀ {t : Tr It}, DIn w t → ∀ g ∈ t.blocks, ∃ u, w.cell? ⟨g, 0, none⟩ = some (.int .u64 u) := by
 intro t
 induction t with
 | nil => intro _ g hg; simp [Tr.blocks] at hg
 | node g c l y r ihl ihr =>
  intro h k hk;rcases List.mem_cons.1 (show k ∈ g :: (l.blocks ++ r.blocks) by simpa [Tr.blocks] using hk) with rfl | hk
  ·obtain ⟨A, hc⟩ := h.node;exact ⟨_, hc.th.1⟩
  ·rcases List.mem_append.1 hk with hk | hk
   ·exact ihl h.2.1 k hk
   ·exact ihr h.2.2 k hk
theorem QAt.footcell {w : World} {q mb th : Nat} {m : Mu} {t : Tr It} (h : QAt w q mb th m t) : ∀ g ∈ foot q mb th t, ∀ f a c, w.cell? ⟨g, 0, none⟩ = some (.func f a c) → f = .func 133 := by
 intro g hg f a c hc;simp only [foot, List.mem_cons] at hg;rcases hg with rfl | rfl | rfl | hg
 ·rw [h.at.1] at hc; cases hc
 ·rw [h.1.2.1.cell 0] at hc; cases hc
 ·obtain ⟨_, _, t0, _⟩ := h.1.2.2.1;rw [t0.at0] at hc;injection hc with hc;injection hc with e _ _;exact e.symm
 ·obtain ⟨u, hu⟩ := h.1.2.2.2.1.cell0 g hg;rw [hu] at hc; cases hc
theorem DEnv.apart {F : List Nat} {w w' : World} {th : Nat} {root : Value} {n : Int} (h : DEnv w th root n) (hc : Chg F w w') (ht : th ∉ F) (hF : ∀ g ∈ F, ∀ f a c, w.cell? ⟨g, 0, none⟩ = some (.func f a c) → f = .func 133) : DEnv w' th root n := by
 obtain ⟨b1, b2, h0, h1, h2, n0, n1, n2, n3, n4⟩ := h;have f1 : b1 ∉ F := fun hf => by have := hF _ hf _ _ _ h1.at0; injection this with e; exact absurd e (by decide)
 have f2 : b2 ∉ F := fun hf => by have := hF _ hf _ _ _ h2.at0; injection this with e; exact absurd e (by decide)
 exact ⟨b1, b2, h0.chg hc ht, h1.chg hc f1, h2.chg hc f2, (hc.cell (p := ⟨th, 14, none⟩) h0.lt ht).trans n0, (hc.cell (p := ⟨b1, 14, none⟩) h1.lt f1).trans n1, (hc.cell (p := ⟨b2, 14, none⟩) h2.lt f2).trans n2, n3, n4⟩
def Stp (q mb th : Nat) (b' : Int) (l' : List It) (t : Tr It) (w w' : World) : Prop := ∃ t', t'.list = l' ∧ QAt w' q mb th (qM b' l') t' ∧ Qok b' l' ∧ Tr.Whole t' ∧ (∀ g ∈ t'.blocks, g ∈ t.blocks ∨ w.heap.size ≤ g) ∧ Chg (foot q mb th t) w w'
theorem Stp.same {q mb th : Nat} {b : Int} {t : Tr It} {w w' : World} (h : QAt w q mb th (qM b t.list) t) (hq : Qok b t.list) (hw : Tr.Whole t) (hb : Below w.heap.size w w') : Stp q mb th b t.list t w w' := ⟨t, rfl, h.below hb, hq, hw, fun g hg => Or.inl hg, Chg.below hb⟩
def leaC (i : Int) (l : List It) : Int := if anyI i l = true then 0 else 14
def leaB (i b : Int) (l : List It) : Int := if anyI i l = true then nowI b (lesI i l) else b
theorem Step.leave (q mb th : Nat) (b : Int) (t : Tr It) (hq : Qok b t.list) (hw : Tr.Whole t) (i : Int) (hi : -9223372036854775808 ≤ i ∧ i ≤ 9223372036854775807) (w : World) (h : QAt w q mb th (qM b t.list) t) : Calls Tryz.prog 57 #[.pointer (some ⟨q, 0, none⟩), .int .i64 i] w (fun e w' => (∃ x : It, e = .returned (.tuple #[x.val, .int .i64 (leaC i t.list)])) ∧ Stp q mb th (leaB i b t.list) (lesI i t.list) t w w') := by
 by_cases hx : ∃ x ∈ t.list, x.i = i
 ·obtain ⟨x, hx, rfl⟩ := hx;have ha : anyI x.i t.list = true := by unfold anyI; rw [List.any_eq_true]; exact ⟨x, hx, by simp⟩
  refine (Queue.leave_yes q mb th b t hq hw x hx w h).mono ?_;rintro e w' ⟨rfl, t', A, B, hl, hl', hi', hq', hk, hw', hb, hc⟩;have hle : lesI x.i t.list = A ++ B := by rw [hl]; exact rest_eq (a := x) rfl hi'
  refine ⟨⟨x, by unfold leaC; rw [if_pos ha]⟩, t', by rw [hle, hl'], ?_, ?_, hw', fun g hg => Or.inl (hb g hg), hc⟩
  ·unfold leaB; rw [if_pos ha, hle]; exact hq'
  ·unfold leaB; rw [if_pos ha, hle]; exact hk
 ·have ha : anyI i t.list = false := by unfold anyI; rw [List.any_eq_false]; intro y hy; simpa using fun e => hx ⟨y, hy, e⟩
  refine (Queue.leave_no q mb th (qM b t.list) t i hi (fun x hm e => hx ⟨x, hm, e⟩) w h).mono ?_;rintro e w' ⟨rfl, hb⟩;refine ⟨⟨It.zero, by unfold leaC; rw [if_neg (by rw [ha]; simp)]⟩, ?_⟩;unfold leaB;rw [if_neg (by rw [ha]; simp), lesI_no ha];exact Stp.same h hq hw hb
def joiB (b : Int) (l : List It) (a : It) : Int := if joinC b l a = 0 then nowI (fromI b l a) (l ++ [a]) else b
def joiL (b : Int) (l : List It) (a : It) : List It := if joinC b l a = 0 then insI a l else l
theorem Step.join (q mb th : Nat) (b : Int) (t : Tr It) (hq : Qok b t.list) (hw : Tr.Whole t) (a : It) (ha : a.In) (w : World) (h : QAt w q mb th (qM b t.list) t) : Calls Tryz.prog 53 #[.pointer (some ⟨q, 0, none⟩), a.val] w (fun e w' => e = .returned (.int .i64 (joinC b t.list a)) ∧ Stp q mb th (joiB b t.list a) (joiL b t.list a) t w w') := by
 refine (Queue.join q mb th b t a hq ha w h).mono ?_;rintro e w' ⟨rfl, ⟨hj, hb⟩ | ⟨hj, k, hk, hq', hc⟩⟩
 ·refine ⟨rfl, ?_⟩;unfold joiB joiL;rw [if_neg hj, if_neg hj];exact Stp.same h hq hw hb
 ·obtain ⟨_, hok, ht⟩ := hq.join ha hj;have hl : ((Tr.put It.ahead k a t).paint false).list = insI a t.list := by rw [Tr.list_paint]; exact (ht t rfl).2 k
  refine ⟨rfl, _, ?_, ?_, ?_, hw.put It.ahead k a, fun g hg => ?_, hc⟩
  ·unfold joiL; rw [if_pos hj]; exact hl
  ·unfold joiB joiL; rw [if_pos hj, if_pos hj]; exact hq'
  ·unfold joiB joiL; rw [if_pos hj, if_pos hj]; exact hok
  ·rw [Tr.blocks_paint] at hg;rcases List.mem_cons.1 ((Tr.perm_put It.ahead k a t).mem_iff.1 hg) with rfl | h1
   ·exact Or.inr hk
   ·exact Or.inl h1
theorem lea_sh (i b d : Int) (l : List It) : leaC i (l.map (It.shift d)) = leaC i l ∧ leaB i (IntKind.u64.wrap (b + d)) (l.map (It.shift d)) = IntKind.u64.wrap (leaB i b l + d) := by
 unfold leaC leaB;rw [anyI_sh, lesI_sh, nowI_sh];exact ⟨rfl, by split <;> rfl⟩
theorem joi_sh (b d : Int) (l : List It) (a : It) : joiB (IntKind.u64.wrap (b + d)) (l.map (It.shift d)) (It.shift d a) = IntKind.u64.wrap (joiB b l a + d) ∧ joiL (IntKind.u64.wrap (b + d)) (l.map (It.shift d)) (It.shift d a) = (joiL b l a).map (It.shift d) := by
 unfold joiB joiL;rw [joinC_sh, now1_sh, insI_sh];exact ⟨by split <;> rfl, by split <;> rfl⟩
theorem foot_old {q mb th n : Nat} {t t' : Tr It} (hb : ∀ g ∈ t'.blocks, g ∈ t.blocks ∨ n ≤ g) : ∀ g ∈ foot q mb th t', g ∈ foot q mb th t ∨ n ≤ g := fun g hg => by
 simp only [foot, List.mem_cons] at hg ⊢;rcases hg with rfl | rfl | rfl | hg
 ·exact Or.inl (Or.inl rfl)
 ·exact Or.inl (Or.inr (Or.inl rfl))
 ·exact Or.inl (Or.inr (Or.inr (Or.inl rfl)))
 ·exact (hb g hg).imp (fun h => Or.inr (Or.inr (Or.inr h))) id
end


section
open Go.RowKit
theorem lag_sh {b d : Int} {l : List It} (h : Qok b l) {x : It} (hx : x ∈ l) : (qM (IntKind.u64.wrap (b + d)) (l.map (It.shift d))).lag (It.shift d x).pp = (qM b l).lag x.pp := by
 rw [(sums_ovI h.fw hx).2, (sums_ovI (h.sh d).fw (List.mem_map_of_mem hx)).2, ov_sh, qM_sh]
end

end Go.Proofs.YtjchnkmolhgpmaaGreatDoor

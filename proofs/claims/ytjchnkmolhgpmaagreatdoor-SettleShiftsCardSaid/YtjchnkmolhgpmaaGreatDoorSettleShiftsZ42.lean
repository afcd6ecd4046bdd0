/- Texts of SettleShifts's proof, together. -/
import Derived.Test.YtjchnkmolhgpmaaGreatDoorSeA
import Derived.Test.YtjchnkmolhgpmaaGreatDoorSettleShiftsZ38
import Derived.Test.YtjchnkmolhgpmaaGreatDoorSettleShiftsZ14
import Derived.Test.YtjchnkmolhgpmaaGreatDoorSettleShiftsZ18
import Derived.Test.YtjchnkmolhgpmaaGreatDoorGr
import Derived.Test.YtjchnkmolhgpmaaGreatDoorSettleShiftsZ30
import Derived.Test.YtjchnkmolhgpmaaGreatDoorSettleShiftsZ29
import Derived.Laws.StructEq
import Derived.Test.YtjchnkmolhgpmaaGreatDoorSettleShiftsZ41
namespace Go.Proofs.YtjchnkmolhgpmaaGreatDoor

section
open Go.RowKit
def SMp (w : World) (S q rb : Nat) (l : List Rq) : Prop := Cs w S [.pointer (some ⟨q, 0, none⟩), .map (some rb)] ∧ MpR w rb l
theorem SMp.below {w w' : World} {S q rb : Nat} {l : List Rq} (h : SMp w S q rb l) (hb : Below w.heap.size w w') : SMp w' S q rb l := ⟨h.1.below hb, h.2.below hb⟩
theorem SMp.at {w : World} {S q rb : Nat} {l : List Rq} (h : SMp w S q rb l) : w.cell? ⟨S, 0, none⟩ = some (.pointer (some ⟨q, 0, none⟩)) ∧ w.cell? ⟨S, 1, none⟩ = some (.map (some rb)) := ⟨(h.1 0 _ rfl).1, (h.1 1 _ rfl).1⟩
theorem SMp.chg {F : List Nat} {w w' : World} {S q rb : Nat} {l : List Rq} (h : SMp w S q rb l) (hc : Chg F w w') (hS : S ∉ F) (hb : rb ∉ F) : SMp w' S q rb l := ⟨h.1.chg hc hS, h.2.chg hc hb⟩
theorem Rq.new10 (w : World) (T : TypeId) (x : Rq) : Cs (w.alloc (.cells #[.int .u64 x.a.t, .int .u32 x.a.r, .int .u32 x.a.v, .int .i64 x.a.i, .int .u64 x.a.u, .int .u32 x.a.s, .int .u32 x.a.y, .int .u64 x.l, .int .u64 x.s, .bool x.z] T)) w.heap.size x.cells := Cs.alloc_new w T x.cells
set_option maxRecDepth 100000 in
set_option maxHeartbeats 8000000 in
theorem Set.find_yes (S q rb : Nat) (l : List Rq) (x : Rq) (hx : x ∈ l) (hi : x.In) (w : World) (h : SMp w S q rb l) : Calls Tryz.prog 42 #[(.pointer (some ⟨S, 0, none⟩)), .int .i64 x.a.i] w (Ans (.tuple #[x.val, .int .i64 0]) w) := by
 have ha := (Below.refl w.heap.size w).alloc (Nat.le_refl _) (.cells #[.int .u64 0, .int .u32 0, .int .u32 0, .int .i64 0, .int .u64 0, .int .u32 0, .int .u32 0, .int .u64 0, .int .u64 0, .bool false] 59);have HB0 := hid ha;have HQ0 := hid (h.below ha);have HZ : Hid (Cs (w.alloc (.cells #[.int .u64 0, .int .u32 0, .int .u32 0, .int .i64 0, .int .u64 0, .int .u32 0, .int .u32 0, .int .u64 0, .int .u64 0, .bool false] 59)) w.heap.size Rq.no.cells) := hid (Rq.new10 w 59 Rq.no);have hlk := HQ0.out.2.yes hx hi.1;clear ha h hx hi;unfold Rq.val at hlk;go_enter Tryz.func42, Tryz.ntmps42;go_upto_region 1 with fail;generalize (w.alloc (.cells #[.int .u64 0, .int .u32 0, .int .u32 0, .int .i64 0, .int .u64 0, .int .u32 0, .int .u32 0, .int .u64 0, .int .u64 0, .bool false] 59)) = W0 at HQ0 HB0 HZ hlk ⊢;obtain ⟨_, k5⟩ := HQ0.out.at;have HX : Hid (Cs (W0.alloc (.cells #[.int .u64 x.a.t, .int .u32 x.a.r, .int .u32 x.a.v, .int .i64 x.a.i, .int .u64 x.a.u, .int .u32 x.a.s, .int .u32 x.a.y, .int .u64 x.l, .int .u64 x.s, .bool x.z] 59)) W0.heap.size x.cells) := hid (Rq.new10 W0 59 x);have HZ1 := hid (HZ.out.alloc (.cells #[.int .u64 x.a.t, .int .u32 x.a.r, .int .u32 x.a.v, .int .i64 x.a.i, .int .u64 x.a.u, .int .u32 x.a.s, .int .u32 x.a.y, .int .u64 x.l, .int .u64 x.s, .bool x.z] 59));have HB1 := hid (HB0.out.alloc HB0.out.size (.cells #[.int .u64 x.a.t, .int .u32 x.a.r, .int .u32 x.a.v, .int .i64 x.a.i, .int .u64 x.a.u, .int .u32 x.a.s, .int .u32 x.a.y, .int .u64 x.l, .int .u64 x.s, .bool x.z] 59))
 go_upto_region 4 with fail;clear hlk k5 HQ0 HB0 HZ;generalize (W0.alloc (.cells #[.int .u64 x.a.t, .int .u32 x.a.r, .int .u32 x.a.v, .int .i64 x.a.i, .int .u64 x.a.u, .int .u32 x.a.s, .int .u32 x.a.y, .int .u64 x.l, .int .u64 x.s, .bool x.z] 59)) = W1 at HX HZ1 HB1 ⊢;generalize W0.heap.size = gx at HX ⊢;obtain ⟨x0, x1, x2, x3, x4, x5, x6, x7, x8, x9⟩ := Rq.at x HX.out;go_wp2_with (first | ((with_reducible refine pc 59 x.cells infoReq 4 23 w.heap.size _ HZ1.out ?qb1f); (intro W2 hW2); (have HY := hid (show Cs W2 w.heap.size x.cells ∧ Below w.heap.size w W2 by subst hW2; exact ⟨Cs.putL x.cells 0 HZ1.out (by simp [Rq.cells]), below_sets (Nat.le_refl _) _ _ HB1.out⟩)); (clear hW2); (clear x0 x1 x2 x3 x4 x5 x6 x7 x8 x9); (obtain ⟨z0, z1, z2, z3, z4, z5, z6, z7, z8, z9⟩ := Rq.at x HY.out.1)) | fail);refine bodyPost_ret (v := .tuple #[x.val, .int .i64 0]) (by simp [results, Tryz.results42, go_sem, z0, z1, z2, z3, z4, z5, z6, z7, z8, z9, Rq.val]) rfl ⟨rfl, HY.out.2⟩
end


section
open Go.RowKit
set_option maxRecDepth 100000
set_option maxHeartbeats 32000000
def SAt (w : World) (S q mb th rb : Nat) (b : Int) (t : Tr It) (l : List Rq) : Prop :=
 (QAt w q mb th (qM b t.list) t ∧ SMp w S q rb l) ∧ ((Qok b t.list ∧ Tr.Whole t) ∧ ((l.map (·.a)).Perm t.list ∧ ∀ x ∈ l, x.In)) ∧ (S ∉ rb :: foot q mb th t ∧ rb ∉ foot q mb th t)
theorem SAt.below {w w' : World} {S q mb th rb : Nat} {b : Int} {t : Tr It} {l : List Rq} (h : SAt w S q mb th rb b t l) (hb : Below w.heap.size w w') : SAt w' S q mb th rb b t l := ⟨⟨h.1.1.below hb, h.1.2.below hb⟩, h.2⟩
theorem SAt.lt {w : World} {S q mb th rb : Nat} {b : Int} {t : Tr It} {l : List Rq} (h : SAt w S q mb th rb b t l) : S < w.heap.size ∧ rb < w.heap.size ∧ ∀ g ∈ foot q mb th t, g < w.heap.size := ⟨h.1.2.1.lt, h.1.2.2.lt, h.1.1.footlt⟩
theorem SAt.few {w : World} {S q mb th rb : Nat} {b : Int} {t : Tr It} {l : List Rq} (h : SAt w S q mb th rb b t l) : l.length ≤ 32 := by
 have := h.2.1.2.1.length_eq;simp only [List.length_map] at this;have := h.1.1.2.2.2.2;omega
theorem SAt.ids {w : World} {S q mb th rb : Nat} {b : Int} {t : Tr It} {l : List Rq} (h : SAt w S q mb th rb b t l) : (l.map (·.a.i)).Nodup := by
 have h1 := (h.2.1.2.1.map (·.i)).nodup_iff.2 h.2.1.1.1.ids
 rwa [List.map_map] at h1
def StS (S q mb th rb : Nat) (b' : Int) (L' : List It) (l' : List Rq) (t : Tr It) (w w' : World) : Prop := ∃ t', t'.list = L' ∧ SAt w' S q mb th rb b' t' l' ∧ (∀ g ∈ t'.blocks, g ∈ t.blocks ∨ w.heap.size ≤ g) ∧ Chg (rb :: foot q mb th t) w w'
theorem StS.same {w w' : World} {S q mb th rb : Nat} {b : Int} {t : Tr It} {l : List Rq} (h : SAt w S q mb th rb b t l) (hb : Below w.heap.size w w') : StS S q mb th rb b t.list l t w w' := ⟨t, rfl, h.below hb, fun g hg => Or.inl hg, Chg.below hb⟩
theorem SAt.step {w W w1 w2 : World} {S q mb th rb : Nat} {b b' : Int} {t : Tr It} {l l' : List Rq} {L' : List It} (h : SAt w S q mb th rb b t l) (hb : Below w.heap.size w W) (s : Stp q mb th b' L' t W w1) (hm : MpR w2 rb l') (hc : Chg [rb] w1 w2) (hp : (l'.map (·.a)).Perm L') (hi : ∀ x ∈ l', x.In) : StS S q mb th rb b' L' l' t w w2 := by
 obtain ⟨t', hl, hq, hk, hw, hbl, hch⟩ := s;have hS := h.lt.1;have hrb := h.lt.2.1;have hsz := hb.size;have nS : S ∉ foot q mb th t := fun e => h.2.2.1 (List.mem_cons_of_mem _ e)
 have nSr : S ≠ rb := fun e => h.2.2.1 (by simp [e])
 have f1 : ∀ g, g < w.heap.size → g ∉ foot q mb th t → g ∉ foot q mb th t' := fun g h1 h2 h3 => by
  rcases foot_old hbl g h3 with h4 | h4
  ·exact h2 h4
  ·omega
 have hm1 : SMp w1 S q rb l := (h.1.2.below hb).chg hch nS h.2.2.2;subst hl;refine ⟨t', rfl, ⟨⟨hq.away hc (fun g hg f a c e => ?_) (fun g hg e => ?_), hm1.1.chg hc (by simpa using nSr), hm⟩, ⟨⟨hk, hw⟩, hp, hi⟩, ?_, f1 _ hrb h.2.2.2⟩, fun g hg => ?_, ?_⟩
 ·simp only [List.mem_singleton] at hg;subst hg;rw [hm1.2.cell 0] at e;cases e
 ·simp only [List.mem_singleton] at e;subst e;exact f1 _ hrb h.2.2.2 hg
 ·intro e;rcases List.mem_cons.1 e with e | e
  ·exact nSr e
  ·exact f1 _ hS nS e
 ·rcases hbl g hg with h1 | h1
  ·exact Or.inl h1
  ·exact Or.inr (by omega)
 ·exact ((Chg.below (F := rb :: foot q mb th t) hb).trans hch (fun g hg => Or.inl (List.mem_cons_of_mem _ hg))).trans hc (fun g hg => Or.inl (by simp at hg; simp [hg]))
def lesR (i : Int) (l : List Rq) : List Rq := l.filter fun y => !(y.a.i == i)
theorem lesR_map (i : Int) (l : List Rq) : (lesR i l).map (·.a) = lesI i (l.map (·.a)) := by
 unfold lesR lesI;rw [List.filter_map];rfl
theorem lesR_sub {i : Int} {l : List Rq} : ∀ x ∈ lesR i l, x ∈ l ∧ x.a.i ≠ i := fun x hx => by
 have := List.mem_filter.1 hx;exact ⟨this.1, by simpa using this.2⟩
theorem lesR_no {i : Int} {l : List Rq} (h : ∀ x ∈ l, x.a.i ≠ i) : lesR i l = l := List.filter_eq_self.2 (fun y hy => by simpa using h y hy)
theorem lesR_perm {l : List Rq} (hn : (l.map (·.a.i)).Nodup) {x : Rq} (hx : x ∈ l) : l.Perm (x :: lesR x.a.i l) := by
 obtain ⟨A, B, rfl⟩ := List.append_of_mem hx;rw [List.map_append, List.map_cons] at hn;have h1 : ∀ y ∈ A, y.a.i ≠ x.a.i := fun y hy e => (List.nodup_append.1 hn).2.2 _ (List.mem_map_of_mem hy) _ (by simp) e
 have h2 : ∀ y ∈ B, y.a.i ≠ x.a.i := fun y hy e => (List.nodup_cons.1 (List.nodup_append.1 hn).2.1).1 (by rw [← e]; exact List.mem_map_of_mem (f := fun c : Rq => c.a.i) hy)
 have e : lesR x.a.i (A ++ x :: B) = A ++ B := by
  unfold lesR;have e1 := lesR_no h1;have e2 := lesR_no h2;unfold lesR at e1 e2;rw [List.filter_append, List.filter_cons_of_neg (by simp), e1, e2]
 rw [e];exact List.perm_middle
theorem SAt.mem {w : World} {S q mb th rb : Nat} {b : Int} {t : Tr It} {l : List Rq} (h : SAt w S q mb th rb b t l) (i : Int) : (∃ x ∈ l, x.a.i = i) ↔ ∃ x ∈ t.list, x.i = i := by
 constructor
 ·rintro ⟨x, hx, e⟩;exact ⟨x.a, h.2.1.2.1.mem_iff.1 (List.mem_map_of_mem (f := fun c : Rq => c.a) hx), e⟩
 ·rintro ⟨y, hy, e⟩;obtain ⟨x, hx, rfl⟩ := List.mem_map.1 (h.2.1.2.1.mem_iff.2 hy);exact ⟨x, hx, e⟩
def entC (b : Int) (L : List It) (r : Rq) : Int := if r.right = true then joinC b L r.a else 2
def entB (b : Int) (L : List It) (r : Rq) : Int := if entC b L r = 0 then joiB b L r.a else b
def entL (b : Int) (L : List It) (r : Rq) : List It := if entC b L r = 0 then joiL b L r.a else L
def entR (b : Int) (L : List It) (l : List Rq) (r : Rq) : List Rq := if entC b L r = 0 then r :: l else l
theorem StS.on {S q mb th rb : Nat} {b' : Int} {L' : List It} {l' : List Rq} {t : Tr It} {w W w' : World} (h : StS S q mb th rb b' L' l' t W w') (hb : Below w.heap.size w W) : StS S q mb th rb b' L' l' t w w' := by
 obtain ⟨t', h1, h2, h3, h4⟩ := h;exact ⟨t', h1, h2, fun g hg => (h3 g hg).imp id (fun h => by have := hb.size; omega), (Chg.below (F := rb :: foot q mb th t) hb).trans h4 (fun g hg => Or.inl hg)⟩
theorem Stp.on {q mb th : Nat} {b' : Int} {l' : List It} {t : Tr It} {w W w' : World} (h : Stp q mb th b' l' t W w') (hb : Below w.heap.size w W) : Stp q mb th b' l' t w w' := by
 obtain ⟨t', h1, h2, h3, h4, h5, h6⟩ := h;exact ⟨t', h1, h2, h3, h4, fun g hg => (h5 g hg).imp id (fun h => by have := hb.size; omega), (Chg.below (F := foot q mb th t) hb).trans h6 (fun g hg => Or.inl hg)⟩
theorem Stp.off {q mb th : Nat} {b' : Int} {l' : List It} {t : Tr It} {w W w' : World} (h : Stp q mb th b' l' t w W) (hb : Below W.heap.size W w') : Stp q mb th b' l' t w w' := by
 obtain ⟨t', h1, h2, h3, h4, h5, h6⟩ := h;exact ⟨t', h1, h2.below hb, h3, h4, h5, h6.on hb⟩
theorem insI_perm' (x : It) (l : List It) : (insI x l).Perm (x :: l) := (insI_perm x l).symm.trans (List.perm_append_singleton x l)
theorem Set.takeEnter (S q mb th rb : Nat) (b : Int) (t : Tr It) (l : List Rq) (r : Rq) (hr : r.In) (gs gr : Nat) (w : World) (h : SAt w S q mb th rb b t l) (hgs : Cs w gs [.pointer (some ⟨S, 0, none⟩)]) (hgr : Cs w gr r.cells) : Calls Tryz.prog 52 #[.pointer (some ⟨gs, 0, none⟩), .pointer (some ⟨gr, 0, none⟩)] w (fun e w' => e = .returned (.int .i64 (joinC b t.list r.a)) ∧ Stp q mb th (joiB b t.list r.a) (joiL b t.list r.a) t w w') := by
 have HS0 : Hid ((SAt w S q mb th rb b t l ∧ Cs w gs [.pointer (some ⟨S, 0, none⟩)] ∧ Cs w gr r.cells) ∧ Below w.heap.size w w) := hid ⟨⟨h, hgs, hgr⟩, Below.refl _ _⟩;have HR := hid hr;clear h hr hgr hgs;go_enter Tryz.func52, Tryz.ntmps52;go_upto_region 1 with fail;have hsT1 : Stays (fun wx => (SAt wx S q mb th rb b t l ∧ Cs wx gs [.pointer (some ⟨S, 0, none⟩)] ∧ Cs wx gr r.cells) ∧ Below w.heap.size w wx) := fun _ _ h hb => ⟨⟨h.1.1.below hb, h.1.2.1.below hb, h.1.2.2.below hb⟩, below_on h.2 hb⟩
 refine wp_region_grow (S := fun wx => (SAt wx S q mb th rb b t l ∧ Cs wx gs [.pointer (some ⟨S, 0, none⟩)] ∧ Cs wx gr r.cells) ∧ Below w.heap.size w wx) 6 (by kernel_rfl) (hsT1 _ _ (HS0.out) (Below.refl _ _).drew) ?_;refine tE 0 (v := ?_) (hsT1) (fun _ h => h) rfl (by kernel_rfl) (by rfl) ?_ ?_;rotate_left
 ·intro wq hSw;have g0 := hSw.1.2.1.at0;obtain ⟨s0, s1⟩ := hSw.1.1.1.2.at;obtain ⟨r0, r1, r2, r3, r4, r5, r6, r7, r8, r9⟩ := Rq.at r hSw.1.2.2;go_simp; try with_reducible rfl
 try simp only [tdy]
 refine tF 1 (hsT1) (fun _ h => h) ?_;try simp only [tdy]
 refine tF 2 (hsT1) (fun _ h => h) ?_;try simp only [tdy]
 refine tE 3 (v := ?_) (hsT1) (fun _ h => h) rfl (by kernel_rfl) (by rfl) ?_ ?_;rotate_left
 ·intro wq hSw;have g0 := hSw.1.2.1.at0;obtain ⟨s0, s1⟩ := hSw.1.1.1.2.at;obtain ⟨r0, r1, r2, r3, r4, r5, r6, r7, r8, r9⟩ := Rq.at r hSw.1.2.2;go_simp; try with_reducible rfl
 try simp only [tdy]
 refine tF 4 (hsT1) (fun _ h => h) ?_;try simp only [tdy]
 refine tE 5 (v := ?_) (hsT1) (fun _ h => h) rfl (by kernel_rfl) (by rfl) ?_ ?_;rotate_left
 ·intro wq hSw;have g0 := hSw.1.2.1.at0;obtain ⟨s0, s1⟩ := hSw.1.1.1.2.at;obtain ⟨r0, r1, r2, r3, r4, r5, r6, r7, r8, r9⟩ := Rq.at r hSw.1.2.2;go_simp; try with_reducible rfl
 try simp only [tdy]
 refine wpAnyE_rest (n := 6) rfl rfl (by kernel_rfl) (fun wz hSz => ?_);simp only [List.toList_toArray, List.drop_succ_cons, List.drop_zero];have HZ := hid hSz;clear hSz HS0;go_wp2_with fail;refine (Step.join q mb th b t HZ.out.1.1.2.1.1.1 HZ.out.1.1.2.1.1.2 r.a HR.out.1 _ HZ.out.1.1.1.1).mono ?_;rintro e w1 ⟨rfl, hs⟩;have HS := hid (hs.on HZ.out.2);clear hs;go_wp2_with fail;go_ret
 exact ⟨rfl, HS.out⟩
theorem Set.layEnter (S q mb th rb : Nat) (b : Int) (t : Tr It) (l : List Rq) (r : Rq) (hr : r.In) (gs gr : Nat) (w : World) (h : SAt w S q mb th rb b t l) (hgs : Cs w gs [.pointer (some ⟨S, 0, none⟩)]) (hgr : Cs w gr r.cells) : Calls Tryz.prog 51 #[.pointer (some ⟨S, 0, none⟩), r.val, .func (.func 52) #[] #[.pointer (some ⟨gs, 0, none⟩), .pointer (some ⟨gr, 0, none⟩)]] w (fun e w' => e = .returned (.int .i64 (entC b t.list r)) ∧ StS S q mb th rb (entB b t.list r) (entL b t.list r) (entR b t.list l r) t w w') := by
 have ha := (Below.refl w.heap.size w).alloc (Nat.le_refl _) (.cells #[.int .u64 r.a.t, .int .u32 r.a.r, .int .u32 r.a.v, .int .i64 r.a.i, .int .u64 r.a.u, .int .u32 r.a.s, .int .u32 r.a.y, .int .u64 r.l, .int .u64 r.s, .bool r.z] 59);have HB0 := hid ha;have HX : Hid (Cs (w.alloc (.cells #[.int .u64 r.a.t, .int .u32 r.a.r, .int .u32 r.a.v, .int .i64 r.a.i, .int .u64 r.a.u, .int .u32 r.a.s, .int .u32 r.a.y, .int .u64 r.l, .int .u64 r.s, .bool r.z] 59)) w.heap.size r.cells) := hid (Rq.new10 w 59 r);have HH := hid h;have HGS := hid hgs;have HGR := hid hgr;have HR := hid hr;have HF : Hid (w.heap.size ∉ foot q mb th t) := hid (fun e => absurd (h.lt.2.2 _ e) (by omega));clear ha h hr hgr hgs;unfold Rq.val;go_enter Tryz.func51, Tryz.ntmps51;go_upto_region 1 with fail;generalize (w.alloc (.cells #[.int .u64 r.a.t, .int .u32 r.a.r, .int .u32 r.a.v, .int .i64 r.a.i, .int .u64 r.a.u, .int .u32 r.a.s, .int .u32 r.a.y, .int .u64 r.l, .int .u64 r.s, .bool r.z] 59)) = W0 at HB0 HX ⊢;obtain ⟨r0, r1, r2, r3, r4, r5, r6, r7, r8, r9⟩ := Rq.at r HX.out;go_wp2_with fail;refine (Req.right r HR.out _).mono ?_;rintro e w1 ⟨rfl, hb⟩;have HB1 := hid (below_on HB0.out hb);have HX1 := hid (HX.out.below hb);clear hb HB0 HX r0 r1 r2 r3 r4 r5 r6 r7 r8 r9;cases hri : r.right with
 | false =>
  have hc : entC b t.list r = 2 := by unfold entC; rw [hri]; rfl
  have HC := hid hc;clear hc hri;go_wp2_with fail;go_ret
  refine ⟨by rw [HC.out] <;> rfl, ?_⟩;unfold entB entL entR;rw [HC.out];exact StS.same HH.out HB1.out
 | true =>
  have hc : entC b t.list r = joinC b t.list r.a := by unfold entC; rw [hri]; rfl
  have HC := hid hc;clear hc hri;go_wp2_with fail;refine (Set.takeEnter S q mb th rb b t l r HR.out gs gr _ (HH.out.below HB1.out) (HGS.out.below HB1.out) (HGR.out.below HB1.out)).mono ?_;rintro e w2 ⟨rfl, hs⟩;have HS := hid hs;clear hs;by_cases h0 : joinC b t.list r.a = 0
  ·have HC0 := hid (HC.out.trans h0);have HX2 := hid (HX1.out.chg (F := foot q mb th t) (by obtain ⟨_, _, _, _, _, _, h⟩ := HS.out; exact h) HF.out);have HM2 := hid ((HH.out.1.2.below HB1.out).chg (F := foot q mb th t) (by obtain ⟨_, _, _, _, _, _, h⟩ := HS.out; exact h) (fun e => HH.out.2.2.1 (List.mem_cons_of_mem _ e)) HH.out.2.2.2);rw [h0];go_upto_region 8 with fail;have hsT1 : Stays (fun wx => (SMp wx S q rb l ∧ Cs wx w.heap.size r.cells) ∧ Below w2.heap.size w2 wx) := fun _ _ h hb => ⟨⟨h.1.1.below hb, h.1.2.below hb⟩, below_on h.2 hb⟩
   refine wp_region_grow (S := fun wx => (SMp wx S q rb l ∧ Cs wx w.heap.size r.cells) ∧ Below w2.heap.size w2 wx) 8 (by kernel_rfl) (hsT1 _ _ (⟨⟨HM2.out, HX2.out⟩, Below.refl _ _⟩) (Below.refl _ _).drew) ?_;refine tF 0 (hsT1) (fun _ h => h) ?_;try simp only [tdy]
   refine tF 1 (hsT1) (fun _ h => h) ?_;try simp only [tdy]
   refine tF 2 (hsT1) (fun _ h => h) ?_;try simp only [tdy]
   refine tE 3 (v := ?_) (hsT1) (fun _ h => h) rfl (by kernel_rfl) (by rfl) ?_ ?_;rotate_left
   ·intro wq hSw;obtain ⟨s0, s1⟩ := hSw.1.1.at;obtain ⟨r0, r1, r2, r3, r4, r5, r6, r7, r8, r9⟩ := Rq.at r hSw.1.2;go_simp; try with_reducible rfl
   try simp only [tdy]
   refine tF 4 (hsT1) (fun _ h => h) ?_;try simp only [tdy]
   refine tF 5 (hsT1) (fun _ h => h) ?_;try simp only [tdy]
   refine tE 6 (v := ?_) (hsT1) (fun _ h => h) rfl (by kernel_rfl) (by rfl) ?_ ?_;rotate_left
   ·intro wq hSw;obtain ⟨s0, s1⟩ := hSw.1.1.at;obtain ⟨r0, r1, r2, r3, r4, r5, r6, r7, r8, r9⟩ := Rq.at r hSw.1.2;go_simp; try with_reducible rfl
   try simp only [tdy]
   refine tE 7 (v := ?_) (hsT1) (fun _ h => h) rfl (by kernel_rfl) (by rfl) ?_ ?_;rotate_left
   ·intro wq hSw;obtain ⟨s0, s1⟩ := hSw.1.1.at;obtain ⟨r0, r1, r2, r3, r4, r5, r6, r7, r8, r9⟩ := Rq.at r hSw.1.2;go_simp; try with_reducible rfl
   try simp only [tdy]
   refine wpAnyE_last rfl rfl (by kernel_rfl) (fun wz hSz => ?_);have HZ := hid hSz;clear hSz;have hm3 := HZ.out.1.1.2;have hjc := joinC_0 h0;have hx : ∀ y ∈ l, y.a.i ≠ r.a.i := fun y hy e => by
    obtain ⟨z, hz, e2⟩ := (HH.out.mem r.a.i).1 ⟨y, hy, e⟩;exact hjc.2.1 z hz e2
   obtain ⟨w4, hrun, hm4, hc4⟩ := hm3.put HR.out.1 hx (by have := HH.out.few; omega);have HM4 := hid (HH.out.step HB1.out (HS.out.off HZ.out.2) hm4 hc4 (by
    rw [show joiL b t.list r.a = insI r.a t.list by unfold joiL; rw [if_pos h0]];exact ((HH.out.2.1.2.1.cons r.a).trans (insI_perm' r.a t.list).symm)) (fun x hx => by
    rcases List.mem_cons.1 hx with rfl | hx
    ·exact HR.out
    ·exact HH.out.2.1.2.2 x hx))
   clear hm3 hm4 hc4 hjc hx h0;unfold Rq.val at hrun;go_wp2_with fail;go_ret
   refine ⟨by rw [HC0.out] <;> rfl, ?_⟩;unfold entB entL entR;rw [if_pos HC0.out, if_pos HC0.out, if_pos HC0.out];exact HM4.out
  ·have HN := hid h0;have HC0 := hid (show ¬ entC b t.list r = 0 by rw [HC.out]; exact h0);have hS := HS.out;unfold joiB joiL at hS;rw [if_neg h0, if_neg h0] at hS;have HS2 := hid hS;clear hS HS;go_wp2_with fail;go_ret
   refine ⟨by rw [HC.out] <;> rfl, ?_⟩;unfold entB entL entR;rw [if_neg HC0.out, if_neg HC0.out, if_neg HC0.out];exact HH.out.step HB1.out HS2.out ((HH.out.1.2.below HB1.out).chg (F := foot q mb th t) (by obtain ⟨_, _, _, _, _, _, h⟩ := HS2.out; exact h) (fun e => HH.out.2.2.1 (List.mem_cons_of_mem _ e)) HH.out.2.2.2).2 (Chg.refl _ _) HH.out.2.1.2.1 HH.out.2.1.2.2
theorem Set.enter (S q mb th rb : Nat) (b : Int) (t : Tr It) (l : List Rq) (r : Rq) (hr : r.In) (w : World) (h : SAt w S q mb th rb b t l) : Calls Tryz.prog 21 #[.pointer (some ⟨S, 0, none⟩), r.val] w (fun e w' => e = .returned (.int .i64 (entC b t.list r)) ∧ StS S q mb th rb (entB b t.list r) (entL b t.list r) (entR b t.list l r) t w w') := by
 have hb0 := (Below.refl w.heap.size w).alloc (Nat.le_refl _) (.cells #[.pointer (some ⟨S, 0, none⟩)] 25);have hb1 := hb0.alloc (by simp) (.cells #[.int .u64 r.a.t, .int .u32 r.a.r, .int .u32 r.a.v, .int .i64 r.a.i, .int .u64 r.a.u, .int .u32 r.a.s, .int .u32 r.a.y, .int .u64 r.l, .int .u64 r.s, .bool r.z] 59);have hx := Rq.new10 (w.alloc (.cells #[.pointer (some ⟨S, 0, none⟩)] 25)) 59 r;have HV : Hid ((Cs ((w.alloc (.cells #[.pointer (some ⟨S, 0, none⟩)] 25)).alloc (.cells #[.int .u64 r.a.t, .int .u32 r.a.r, .int .u32 r.a.v, .int .i64 r.a.i, .int .u64 r.a.u, .int .u32 r.a.s, .int .u32 r.a.y, .int .u64 r.l, .int .u64 r.s, .bool r.z] 59)) w.heap.size [.pointer (some ⟨S, 0, none⟩)] ∧ Cs ((w.alloc (.cells #[.pointer (some ⟨S, 0, none⟩)] 25)).alloc (.cells #[.int .u64 r.a.t, .int .u32 r.a.r, .int .u32 r.a.v, .int .i64 r.a.i, .int .u64 r.a.u, .int .u32 r.a.s, .int .u32 r.a.y, .int .u64 r.l, .int .u64 r.s, .bool r.z] 59)) (w.heap.size + 1) r.cells) ∧ Below w.heap.size w ((w.alloc (.cells #[.pointer (some ⟨S, 0, none⟩)] 25)).alloc (.cells #[.int .u64 r.a.t, .int .u32 r.a.r, .int .u32 r.a.v, .int .i64 r.a.i, .int .u64 r.a.u, .int .u32 r.a.s, .int .u32 r.a.y, .int .u64 r.l, .int .u64 r.s, .bool r.z] 59))) := hid ⟨⟨(Cs.alloc_new w 25 [.pointer (some ⟨S, 0, none⟩)]).alloc _, by simpa using hx⟩, hb1⟩;have HH := hid h;have HR := hid hr;clear hb0 hb1 hx h hr;unfold Rq.val;go_enter Tryz.func21, Tryz.ntmps21;go_upto_region 1 with fail;generalize ((w.alloc (.cells #[.pointer (some ⟨S, 0, none⟩)] 25)).alloc (.cells #[.int .u64 r.a.t, .int .u32 r.a.r, .int .u32 r.a.v, .int .i64 r.a.i, .int .u64 r.a.u, .int .u32 r.a.s, .int .u32 r.a.y, .int .u64 r.l, .int .u64 r.s, .bool r.z] 59)) = W0 at HV ⊢
 have s0 := HV.out.1.1.at0;obtain ⟨r0, r1, r2, r3, r4, r5, r6, r7, r8, r9⟩ := Rq.at r HV.out.1.2;go_wp2_with fail;refine (Set.layEnter S q mb th rb b t l r HR.out _ _ _ (HH.out.below HV.out.2) HV.out.1.1 HV.out.1.2).mono ?_;rintro e w1 ⟨rfl, hs⟩;have HS := hid (hs.on HV.out.2);clear hs s0 r0 r1 r2 r3 r4 r5 r6 r7 r8 r9;go_wp2_with fail;go_ret
 exact ⟨rfl, HS.out⟩
end


section
open Go.RowKit
set_option maxRecDepth 100000
set_option maxHeartbeats 32000000
theorem SAt.away {F : List Nat} {w w' : World} {S q mb th rb : Nat} {b : Int} {t : Tr It} {l : List Rq} (h : SAt w S q mb th rb b t l) (hc : Chg F w w') (hF : ∀ g ∈ F, ∀ f a c, w.cell? ⟨g, 0, none⟩ ≠ some (.func f a c)) (hd : ∀ g ∈ S :: rb :: foot q mb th t, g ∉ F) : SAt w' S q mb th rb b t l :=
 ⟨⟨h.1.1.away hc hF (fun g hg => hd g (by simp [hg])), h.1.2.chg hc (hd S (by simp)) (hd rb (by simp))⟩, h.2⟩
theorem StS.away {z : Nat} {w W W4 W5 : World} {S q mb th rb : Nat} {b b' : Int} {t : Tr It} {l l' : List Rq} {L' : List It} (h0 : SAt w S q mb th rb b t l) (h : StS S q mb th rb b' L' l' t W W4) (hb : Below w.heap.size w W) (hc : Chg [z] W4 W5) (hz1 : w.heap.size ≤ z) (hz2 : z < W.heap.size) (hcell : ∀ f a c, W4.cell? ⟨z, 0, none⟩ ≠ some (.func f a c)) : StS S q mb th rb b' L' l' t w W5 := by
 obtain ⟨t', h1, h2, h3, h4⟩ := h;have hlt := h0.lt;refine ⟨t', h1, h2.away hc (fun g hg => by simp at hg; subst hg; exact hcell) (fun g hg e => ?_), fun g hg => (h3 g hg).imp id (fun h => by have := hb.size; omega), ((Chg.below (F := rb :: foot q mb th t) hb).trans h4 (fun g hg => Or.inl hg)).trans hc (fun g hg => by simp at hg; subst hg; exact Or.inr hz1)⟩;simp only [List.mem_singleton] at e;subst e;rcases List.mem_cons.1 hg with rfl | hg
 ·omega
 ·rcases List.mem_cons.1 hg with rfl | hg
  ·omega
  ·rcases foot_old h3 g hg with h5 | h5
   ·have := hlt.2.2 _ h5; omega
   ·omega
theorem Set.new (c : Int) (hc : IsT c) (w : World) : Calls Tryz.prog 20 #[.int .u64 c] w (fun e w' => ∃ S q mb th rb, e = .returned (.pointer (some ⟨S, 0, none⟩)) ∧ SAt w' S q mb th rb c .nil [] ∧ (∀ g ∈ S :: rb :: foot q mb th .nil, w.heap.size ≤ g) ∧ Below w.heap.size w w') := by
 have hmm := @run_makeMap Tryz.prog;have HC := hid hc;clear hc;go_enter Tryz.func20, Tryz.ntmps20;go_wp2_with fail;refine (Queue.new c HC.out _).mono ?_;rintro e w1 ⟨q, mb, th, rfl, hq, hf, hb⟩;have HF : Hid (SAt ((w1.alloc (.map #[] 0)).alloc (.cells #[.pointer (some ⟨q, 0, none⟩), .map (some w1.heap.size)] 49)) (w1.heap.size + 1) q mb th w1.heap.size c .nil [] ∧ (∀ g ∈ (w1.heap.size + 1) :: w1.heap.size :: foot q mb th .nil, w.heap.size ≤ g) ∧ Below w.heap.size w ((w1.alloc (.map #[] 0)).alloc (.cells #[.pointer (some ⟨q, 0, none⟩), .map (some w1.heap.size)] 49))) := hid (by
  have h0 := (Below.refl w1.heap.size w1).alloc (Nat.le_refl _) (.map #[] 0);have h1 := (Below.refl (w1.alloc (.map #[] 0)).heap.size (w1.alloc (.map #[] 0))).alloc (Nat.le_refl _) (.cells #[.pointer (some ⟨q, 0, none⟩), .map (some w1.heap.size)] 49);have hs := Cs.alloc_new (w1.alloc (.map #[] 0)) 49 [.pointer (some ⟨q, 0, none⟩), .map (some w1.heap.size)];simp only [World.size_alloc] at hs;have e : (⟨c, 0, 0, 0⟩ : Mu) = qM c (Tr.nil : Tr It).list := by simp [qM, Mu.sums, sumD, sumW, Tr.list]
  rw [e] at hq;have hlt := hq.footlt;have hsz := hb.size;refine ⟨⟨⟨(hq.below h0).below h1, hs, (MpR.made w1).below h1⟩, ⟨⟨Qok.nil HC.out, Tr.Whole.nil⟩, by simp [Tr.list], by simp⟩, ?_, fun h => absurd (hlt _ h) (by omega)⟩, ?_, below_on (below_on hb h0) h1⟩
  ·intro h;rcases List.mem_cons.1 h with h | h
   ·omega
   ·exact absurd (hlt _ h) (by omega)
  ·intro g hg;rcases List.mem_cons.1 hg with rfl | hg
   ·omega
   ·rcases List.mem_cons.1 hg with rfl | hg
    ·omega
    ·exact hf g hg)
 clear hq hf hb;go_wp2_with fail;go_ret
 exact ⟨_, _, _, _, _, rfl, HF.out⟩
theorem Set.exit_yes (S q mb th rb : Nat) (b : Int) (t : Tr It) (l : List Rq) (x : Rq) (hx : x ∈ l) (w : World) (h : SAt w S q mb th rb b t l) : Calls Tryz.prog 26 #[.pointer (some ⟨S, 0, none⟩), .int .i64 x.a.i] w (fun e w' => e = .returned (.tuple #[x.val, .int .i64 0]) ∧ StS S q mb th rb (leaB x.a.i b t.list) (lesI x.a.i t.list) (lesR x.a.i l) t w w') := by
 have HH := hid h;have HX := hid hx;have HXI := hid (h.2.1.2.2 x hx);have hal := (Below.refl w.heap.size w).alloc (Nat.le_refl _) (.cells #[.int .u64 0, .int .u32 0, .int .u32 0, .int .i64 0, .int .u64 0, .int .u32 0, .int .u32 0, .int .u64 0, .int .u64 0, .bool false] 59);have HB0 := hid hal;have HZ : Hid (Cs (w.alloc (.cells #[.int .u64 0, .int .u32 0, .int .u32 0, .int .i64 0, .int .u64 0, .int .u32 0, .int .u32 0, .int .u64 0, .int .u64 0, .bool false] 59)) w.heap.size Rq.no.cells) := hid (Rq.new10 w 59 Rq.no);clear h hal hx;go_enter Tryz.func26, Tryz.ntmps26;go_upto_region 1 with fail;generalize (w.alloc (.cells #[.int .u64 0, .int .u32 0, .int .u32 0, .int .i64 0, .int .u64 0, .int .u32 0, .int .u32 0, .int .u64 0, .int .u64 0, .bool false] 59)) = W0 at HB0 HZ ⊢;go_wp2_with fail;refine (Set.find_yes S q rb l x HX.out HXI.out _ (HH.out.1.2.below HB0.out)).mono ?_;rintro e w1 ⟨rfl, hb⟩;have ha := (Below.refl w1.heap.size w1).alloc (Nat.le_refl _) (.cells #[.int .u64 x.a.t, .int .u32 x.a.r, .int .u32 x.a.v, .int .i64 x.a.i, .int .u64 x.a.u, .int .u32 x.a.s, .int .u32 x.a.y, .int .u64 x.l, .int .u64 x.s, .bool x.z] 59);have HX1 : Hid (Cs (w1.alloc (.cells #[.int .u64 x.a.t, .int .u32 x.a.r, .int .u32 x.a.v, .int .i64 x.a.i, .int .u64 x.a.u, .int .u32 x.a.s, .int .u32 x.a.y, .int .u64 x.l, .int .u64 x.s, .bool x.z] 59)) w1.heap.size x.cells) := hid (Rq.new10 w1 59 x);have HZ1 := hid ((HZ.out.below hb).below ha);have HB1 := hid (below_on (below_on HB0.out hb) ha);have HGX : Hid (w.heap.size < w1.heap.size) := hid (HZ.out.below hb).lt
 have HLT : Hid (w.heap.size < (w1.alloc (.cells #[.int .u64 x.a.t, .int .u32 x.a.r, .int .u32 x.a.v, .int .i64 x.a.i, .int .u64 x.a.u, .int .u32 x.a.s, .int .u32 x.a.y, .int .u64 x.l, .int .u64 x.s, .bool x.z] 59)).heap.size) := hid HZ1.out.lt;clear hb ha HB0 HZ;unfold Rq.val;go_upto_region 2 with fail;generalize (w1.alloc (.cells #[.int .u64 x.a.t, .int .u32 x.a.r, .int .u32 x.a.v, .int .i64 x.a.i, .int .u64 x.a.u, .int .u32 x.a.s, .int .u32 x.a.y, .int .u64 x.l, .int .u64 x.s, .bool x.z] 59)) = W1 at HX1 HZ1 HB1 HLT ⊢;generalize w1.heap.size = gx at HX1 HGX ⊢;obtain ⟨s0, s1⟩ := (HH.out.1.2.below HB1.out).at;go_wp2_with fail;refine (Step.leave q mb th b t HH.out.2.1.1.1 HH.out.2.1.1.2 x.a.i HXI.out.1.2.2.2.1 _ (HH.out.1.1.below HB1.out)).mono ?_;rintro e w2 ⟨⟨y, rfl⟩, hs⟩;have HS := hid hs;clear hs s0 s1;have HCH : Hid (Chg (foot q mb th t) W1 w2) := hid (by obtain ⟨_, _, _, _, _, _, h⟩ := HS.out; exact h);have HX2 := hid (HX1.out.chg HCH.out (fun e => absurd (HH.out.lt.2.2 _ e) (by have := HGX.out; omega)));have HZ2 := hid (HZ1.out.chg HCH.out (fun e => absurd (HH.out.lt.2.2 _ e) (by omega)));have HM2 := hid ((HH.out.1.2.below HB1.out).chg HCH.out (fun e => HH.out.2.2.1 (List.mem_cons_of_mem _ e)) HH.out.2.2.2);obtain ⟨s0, s1⟩ := HM2.out.at;obtain ⟨w4, hrun, hm4, hc4⟩ := HM2.out.2.del HXI.out.1 (lesR_perm HH.out.ids HX.out) (fun z hz => (lesR_sub z hz).2) 0;have HM4 := hid ((HH.out.below HB1.out).step (Below.refl _ _) HS.out hm4 hc4 (by
  rw [lesR_map];exact HH.out.2.1.2.1.filter _) (fun z hz => HH.out.2.1.2.2 z (lesR_sub z hz).1))
 have HX4 := hid (HX2.out.chg hc4 (by have := HH.out.lt.2.1; have := HGX.out; simp; omega));have HZ4 := hid (HZ2.out.chg hc4 (by have := HH.out.lt.2.1; simp; omega));clear hm4 hc4;go_upto_region 6 with fail;clear hrun s0 s1 HX1 HZ1 HX2 HZ2 HM2 HS HCH;obtain ⟨x0, x1, x2, x3, x4, x5, x6, x7, x8, x9⟩ := Rq.at x HX4.out;go_wp2_with (first | ((with_reducible refine pc 59 x.cells infoReq 4 29 w.heap.size _ HZ4.out ?qd1f); (intro W5 hW5); (have HY := hid (show Cs W5 w.heap.size x.cells ∧ Chg [w.heap.size] w4 W5 by subst hW5; exact ⟨Cs.putL x.cells 0 HZ4.out (by simp [Rq.cells]), Chg.sets _ _ (Chg.refl _ _) (Or.inl (by simp))⟩)); (clear hW5 x0 x1 x2 x3 x4 x5 x6 x7 x8 x9); (obtain ⟨z0, z1, z2, z3, z4, z5, z6, z7, z8, z9⟩ := Rq.at x HY.out.1)) | fail);refine bodyPost_ret (v := .tuple #[x.val, .int .i64 0]) (by simp [results, Tryz.results26, go_sem, z0, z1, z2, z3, z4, z5, z6, z7, z8, z9, Rq.val]) rfl ⟨rfl, StS.away HH.out HM4.out HB1.out HY.out.2 (Nat.le_refl _) HLT.out (fun f a c e => ?_)⟩;have := HZ4.out.at0;rw [this] at e;cases e
end


section
open Go.RowKit Go.Lib
theorem mem_keys {D : DataW Rq} {i : Int} (h : Maps.has D (keyI i) = true) : i ∈ intKeys D := by
 cases D with
 | map es =>
  rw [Maps.has_eq, List.any_eq_true] at h;obtain ⟨p, hp, hk⟩ := h;refine List.mem_map.2 ⟨p, hp, ?_⟩;cases hl : p.1 with
  | int q a =>
   rw [hl] at hk;have e : q = .i64 ∧ a = i := of_decide_eq_true hk;exact e.2
  | _ => rw [hl] at hk; simp [keyI, Lit.sameKey] at hk
 | _ => simp [Maps.has] at h
theorem gives_perm {D : DataW Rq} {l ss : List Rq} (hsz : Maps.size D = l.length) (h3 : ∀ x ∈ l, Maps.has D (keyI x.a.i) = true ∧ ∀ z, D.atKey (keyI x.a.i) z = .held x) (hn : (l.map (·.a.i)).Nodup) (hg : GivesQ RqR D ss) : l.Perm ss := by
 refine perm_of_sub hn (fun x hx => ?_) (by have := hg.le; omega);have hi := mem_keys (h3 x hx).1;obtain ⟨ps, hp, hr, rfl⟩ := hg;obtain ⟨p, hpm, hpi⟩ := List.mem_map.1 (hp.mem_iff.2 hi);obtain ⟨y, hy, hz⟩ := hr p hpm;rw [RqR_val] at hy;injection hy with hy;subst hy;have h4 := (hz (.held x)).symm;rw [hpi] at h4;have h5 := h4.trans ((h3 x hx).2 (.held x));simp only [DataW.held.injEq] at h5;exact List.mem_map.2 ⟨p, hpm, h5⟩
set_option maxHeartbeats 2000000 in
theorem Set.reqs (S q rb : Nat) (l : List Rq) (hl : l.length ≤ 1000000) (hn : (l.map (·.a.i)).Nodup) (w : World) (h : SMp w S q rb l) : Calls Tryz.prog 17 #[.pointer (some ⟨S, 0, none⟩)] w (fun e w' => ∃ A c ts, e = .returned (.slice A ts.length c) ∧ (ts.Perm l ∧ ts.Pairwise fun x y => x.a.i ≤ y.a.i) ∧ OwnG Rq.cells 10 59 w' w.heap.size A ts.length c ts ∧ Below w.heap.size w w') := by
 obtain ⟨_, s1⟩ := h.at;obtain ⟨D, h1, h2, h3, _⟩ := h.2;refine (Reqs.all S rb l.length D (R := RqR) (fun v y hv => by obtain ⟨c, e, _⟩ := RqR_eq hv; exact ⟨c, e⟩) (by omega) w s1 h1).mono ?_;rintro e w' ⟨v, ss, ts, rfl, hg, _, hp, hr, hrow, hb⟩;have hpl := hp.trans (gives_perm h2 h3 hn hg).symm;obtain ⟨A, c, rfl⟩ : ∃ A c, v = .slice A ts.length c := by
  obtain ⟨_, ⟨rfl, e⟩ | ⟨g, cap, _, rfl, _⟩⟩ := hrow
  ·exact ⟨none, 0, by rw [e]⟩
  ·exact ⟨_, cap, rfl⟩
 exact ⟨A, c, ts, rfl, ⟨hpl, hr⟩, hrow, hb⟩
theorem Rq.of {w : World} {g o : Nat} (x : Rq) (h : w.rangeAt g o x.cells) : w.cell? ⟨g, o, none⟩ = some (.int .u64 x.a.t) ∧ w.cell? ⟨g, o + 1, none⟩ = some (.int .u32 x.a.r) ∧ w.cell? ⟨g, o + 2, none⟩ = some (.int .u32 x.a.v) ∧ w.cell? ⟨g, o + 3, none⟩ = some (.int .i64 x.a.i) ∧ w.cell? ⟨g, o + 4, none⟩ = some (.int .u64 x.a.u) ∧ w.cell? ⟨g, o + 5, none⟩ = some (.int .u32 x.a.s) ∧ w.cell? ⟨g, o + 6, none⟩ = some (.int .u32 x.a.y) ∧ w.cell? ⟨g, o + 7, none⟩ = some (.int .u64 x.l) ∧ w.cell? ⟨g, o + 8, none⟩ = some (.int .u64 x.s) ∧ w.cell? ⟨g, o + 9, none⟩ = some (.bool x.z) :=
 ⟨h 0 _ rfl, h 1 _ rfl, h 2 _ rfl, h 3 _ rfl, h 4 _ rfl, h 5 _ rfl, h 6 _ rfl, h 7 _ rfl, h 8 _ rfl, h 9 _ rfl⟩
theorem Rq.clen (x : Rq) : x.cells.length = 10 := rfl
end


section
open Go.RowKit
def mayP (m : Mu) (x : Rq) : Bool := x.z && decide (0 ≤ (m.sign x.a.pp).2)
def goR (m : Mu) (ts : List Rq) : Option Rq := ts.find? (mayP m)
def goI (o : Option Rq) : Int := match o with
 | some x => x.a.i
 | none => 0
theorem find_at {p : Rq → Bool} : ∀ (ts : List Rq) (k : Nat), k < ts.length → (∀ j, j < k → p (ts.getD j Rq.no) = false) → p (ts.getD k Rq.no) = true → ts.find? p = some (ts.getD k Rq.no)
 | [], k, h, _, _ => by simp at h
 | x :: ts, 0, _, _, h => by
  have h' : p x = true := h;rw [List.find?_cons_of_pos h']; rfl
 | x :: ts, k + 1, hk, hj, h => by
  have h0 : p x = false := hj 0 (by omega);rw [List.find?_cons_of_neg (by simp [h0])];exact find_at ts k (by simpa using hk) (fun j h1 => hj (j + 1) (by omega)) h
theorem findNo {p : Rq → Bool} {ts : List Rq} (h : ∀ j, j < ts.length → p (ts.getD j Rq.no) = false) : ts.find? p = none := by
 rw [List.find?_eq_none];intro x hx;obtain ⟨j, hj, rfl⟩ := List.getElem_of_mem hx;have := h j hj;simp only [List.getD, List.getElem?_eq_getElem hj, Option.getD_some] at this;simp [this]
set_option maxRecDepth 100000 in
set_option maxHeartbeats 8000000 in
theorem Set.mayGo (S q mb th rb : Nat) (b : Int) (t : Tr It) (l : List Rq) (w : World) (h : SAt w S q mb th rb b t l) : Calls Tryz.prog 37 #[.pointer (some ⟨S, 0, none⟩)] w (fun e w' => ∃ ts, (ts.Perm l ∧ ts.Pairwise fun x y => x.a.i ≤ y.a.i) ∧ e = .returned (.tuple #[.int .i64 (goI (goR (qM b t.list) ts)), .bool (goR (qM b t.list) ts).isSome]) ∧ Below w.heap.size w w') := by
 have HH := hid h;clear h;go_enter Tryz.func37, Tryz.ntmps37;go_wp2_with fail;refine (Set.reqs S q rb l (by have := HH.out.few; omega) HH.out.ids _ HH.out.1.2).mono ?_;rintro e w1 ⟨A, c, ts, rfl, hpp, ho, hb⟩;have HPP := hid hpp;have HR := hid (ho.rd Rq.clen (by omega) Rq.no);have HB := hid hb;have HA1 := hid (HH.out.below hb);have hni : (ts.length : Int) ≤ 32 := by have := hpp.1.length_eq; have := HH.out.few; omega
 have HMM : Hid (∀ j, j < ts.length → (ts.getD j Rq.no) ∈ l) := hid (fun j hj => by
  have e : ts.getD j Rq.no = ts[j] := by simp [List.getD, hj]
  rw [e]; exact hpp.1.mem_iff.1 (List.getElem_mem hj))
 obtain ⟨n, hnn⟩ : ∃ n, n = ts.length := ⟨_, rfl⟩
 have HNN := hid hnn;rw [← hnn] at hni HR HMM ⊢;clear hpp ho hb hnn;go_wp2_with fail
 go_loopg [11] n (fun s i wr => ∃ k : Nat, i = .int .i64 k ∧ k ≤ n ∧ s = n - k ∧ (∀ j, j < k → mayP (qM b t.list) (ts.getD j Rq.no) = false) ∧ Below w1.heap.size w1 wr)
 case atStart => exact ⟨0, rfl, Nat.zero_le _, by omega, fun j hj => absurd hj (by omega), Below.refl _ _⟩
 case round =>
  obtain ⟨k, rfl, hk, hs, hno, hbr⟩ := hrel;have HS := hid hs;have HNO := hid hno;have HBR := hid hbr;clear hs hbr hno;by_cases hkn : k < n
  ·obtain ⟨bb, off, hA, _, hc⟩ := (HR.out.below HBR.out).2 (by omega);obtain ⟨p0, p1, p2, p3, p4, p5, p6, p7, p8, p9⟩ := Rq.of _ (hc k hkn);have HFA : Hid (mayP (qM b t.list) (ts.getD k Rq.no) = true → goR (qM b t.list) ts = some (ts.getD k Rq.no)) := hid (find_at ts k (by rw [← HNN.out]; exact hkn) HNO.out);have HFN : Hid (mayP (qM b t.list) (ts.getD k Rq.no) = false → ∀ j, j < k + 1 → mayP (qM b t.list) (ts.getD j Rq.no) = false) := hid (fun h j hj => by
    rcases Nat.lt_or_ge j k with h1 | h1
    ·exact HNO.out j h1
    ·have e : j = k := by omega
     rw [e]; exact h)
   have HYM := hid (HMM.out k hkn);generalize ts.getD k Rq.no = y at p0 p1 p2 p3 p4 p5 p6 p7 p8 p9 HFA HFN HYM;subst hA;have hki : (k : Int) < n := by omega
   have hk0 : (0 : Int) ≤ k := by omega
   clear hc;have HY : Hid (Cs (wr.alloc (.cells #[.int .u64 y.a.t, .int .u32 y.a.r, .int .u32 y.a.v, .int .i64 y.a.i, .int .u64 y.a.u, .int .u32 y.a.s, .int .u32 y.a.y, .int .u64 y.l, .int .u64 y.s, .bool y.z] 59)) wr.heap.size y.cells ∧ Below w1.heap.size w1 (wr.alloc (.cells #[.int .u64 y.a.t, .int .u32 y.a.r, .int .u32 y.a.v, .int .i64 y.a.i, .int .u64 y.a.u, .int .u32 y.a.s, .int .u32 y.a.y, .int .u64 y.l, .int .u64 y.s, .bool y.z] 59))) := hid ⟨Rq.new10 wr 59 y, below_on HBR.out ((Below.refl _ _).alloc (Nat.le_refl _) _)⟩;go_upto_region 4 with fail;generalize (wr.alloc (.cells #[.int .u64 y.a.t, .int .u32 y.a.r, .int .u32 y.a.v, .int .i64 y.a.i, .int .u64 y.a.u, .int .u32 y.a.s, .int .u32 y.a.y, .int .u64 y.l, .int .u64 y.s, .bool y.z] 59)) = Wy at HY ⊢;clear p0 p1 p2 p3 p4 p5 p6 p7 p8 p9;generalize wr.heap.size = gy at HY ⊢;obtain ⟨x0, x1, x2, x3, x4, x5, x6, x7, x8, x9⟩ := Rq.at y HY.out.1;have HA := HA1;cases hz : y.z with
   | false =>
    have HP := hid (HFN.out (by unfold mayP; rw [hz]; rfl));rw [hz] at x9;clear hz;go_wp2_with fail;go_roundg (n - (k + 1))
    case measure => have := HS.out; omega
    case rel => exact ⟨k + 1, by go_num, by omega, rfl, HP.out, HY.out.2⟩
   | true =>
    rw [hz] at x9;have HZT := hid hz;clear hz;go_upto_region 5 with fail;clear x0 x1 x2 x3 x4 x5 x6 x7 x8 x9;have hsT1 : Stays (fun wx => (SAt wx S q mb th rb b t l ∧ Cs wx gy y.cells) ∧ Below w1.heap.size w1 wx) := fun _ _ h hb => ⟨⟨h.1.1.below hb, h.1.2.below hb⟩, below_on h.2 hb⟩
    have HYT := hid (HH.out.2.1.2.1.mem_iff.1 (List.mem_map_of_mem (f := fun c : Rq => c.a) HYM.out));refine wp_region_grow (S := fun wx => (SAt wx S q mb th rb b t l ∧ Cs wx gy y.cells) ∧ Below w1.heap.size w1 wx) 13 (by kernel_rfl) (hsT1 _ _ (⟨⟨HA.out.below HY.out.2, HY.out.1⟩, HY.out.2⟩) (Below.refl _ _).drew) ?_;refine tF 0 (hsT1) (fun _ h => h) ?_;try simp only [tdy]
    refine tF 1 (hsT1) (fun _ h => h) ?_;try simp only [tdy]
    refine tF 2 (hsT1) (fun _ h => h) ?_;try simp only [tdy]
    refine tE 3 (v := ?_) (hsT1) (fun _ h => h) rfl (by kernel_rfl) (by rfl) ?_ ?_;rotate_left
    ·intro wq hSw;obtain ⟨s0, s1⟩ := hSw.1.1.1.2.at;obtain ⟨x0, x1, x2, x3, x4, x5, x6, x7, x8, x9⟩ := Rq.at y hSw.1.2;go_simp; try with_reducible rfl
    try simp only [tdy]
    refine tF 4 (hsT1) (fun _ h => h) ?_;try simp only [tdy]
    refine tF 5 (hsT1) (fun _ h => h) ?_;try simp only [tdy]
    refine tE 6 (v := ?_) (hsT1) (fun _ h => h) rfl (by kernel_rfl) (by rfl) ?_ ?_;rotate_left
    ·intro wq hSw;obtain ⟨s0, s1⟩ := hSw.1.1.1.2.at;obtain ⟨x0, x1, x2, x3, x4, x5, x6, x7, x8, x9⟩ := Rq.at y hSw.1.2;go_simp; try with_reducible rfl
    try simp only [tdy]
    refine tC 7 (v := .tuple #[.int .i64 ((qM b t.list).sign y.a.pp).2, .int .i64 0]) (hsT1) (fun _ h => h) (fun wq hSw => Queue.owed_yes q mb th (qM b t.list) t y.a HYT.out wq hSw.1.1.1.1) ?_;try simp only [tdy]
    refine tF 8 (hsT1) (fun _ h => h) ?_;try simp only [tdy]
    refine tF 9 (hsT1) (fun _ h => h) ?_;try simp only [tdy]
    refine tF 10 (hsT1) (fun _ h => h) ?_;try simp only [tdy]
    refine tF 11 (hsT1) (fun _ h => h) ?_;try simp only [tdy]
    refine tF 12 (hsT1) (fun _ h => h) ?_;try simp only [tdy]
    refine wpAnyE_done (by kernel_rfl) (fun wz hSz => ?_) _;have HB5 := hid hSz.2;have HY5 := hid hSz.1.2;clear hSz;obtain ⟨x0, x1, x2, x3, x4, x5, x6, x7, x8, x9⟩ := Rq.at y HY5.out;by_cases hsg : (0 : Int) ≤ ((qM b t.list).sign y.a.pp).2
    ·have HP := hid (HFA.out (by unfold mayP; rw [HZT.out, decide_eq_true hsg]; rfl));go_wp2_with fail
     go_ret2
     exact ⟨ts, HPP.out, by rw [HP.out]; rfl, below_on HB.out HB5.out⟩
    ·have HP := hid (HFN.out (by unfold mayP; rw [HZT.out, decide_eq_false hsg]; rfl));go_wp2_with fail;go_roundg (n - (k + 1))
     case measure => have := HS.out; omega
     case rel => exact ⟨k + 1, by go_num, by omega, rfl, HP.out, HB5.out⟩
  ·obtain rfl : k = n := by omega
   have hki : ¬ (k : Int) < k := by omega
   have HP : Hid (goR (qM b t.list) ts = none) := hid (show ts.find? (mayP (qM b t.list)) = none from findNo (ts := ts) (fun j hj => HNO.out j (by rw [HNN.out]; exact hj)));go_wp2_with fail
   go_ret2
   exact ⟨ts, HPP.out, by rw [HP.out]; rfl, below_on HB.out HBR.out⟩
end


section
open Go.RowKit
def sfoot (S q mb th rb : Nat) (t : Tr It) : List Nat := S :: rb :: foot q mb th t
theorem SAt.footlt {w : World} {S q mb th rb : Nat} {b : Int} {t : Tr It} {l : List Rq} (h : SAt w S q mb th rb b t l) : ∀ g ∈ sfoot S q mb th rb t, g < w.heap.size := fun g hg => by
 rcases List.mem_cons.1 hg with rfl | hg
 ·exact h.lt.1
 ·rcases List.mem_cons.1 hg with rfl | hg
  ·exact h.lt.2.1
  ·exact h.lt.2.2 g hg
theorem SAt.apart {w w' : World} {S q mb th rb S' q' mb' th' rb' : Nat} {b b' : Int} {t t' : Tr It} {l l' : List Rq} (h : SAt w S q mb th rb b t l) (h' : SAt w S' q' mb' th' rb' b' t' l') (hd : ∀ g ∈ sfoot S q mb th rb t, g ∉ sfoot S' q' mb' th' rb' t') (hc : Chg (rb' :: foot q' mb' th' t') w w') : SAt w' S q mb th rb b t l := by
 have hd2 : ∀ g ∈ sfoot S q mb th rb t, g ∉ rb' :: foot q' mb' th' t' := fun g hg hm => hd g hg (List.mem_cons_of_mem _ hm)
 have hF : ∀ g ∈ rb' :: foot q' mb' th' t', ∀ f a c, w.cell? ⟨g, 0, none⟩ = some (.func f a c) → f = .func 133 := fun g hg f a c e => by
  rcases List.mem_cons.1 hg with rfl | hg
  ·rw [h'.1.2.2.cell 0] at e; cases e
  ·exact h'.1.1.footcell g hg f a c e
 exact ⟨⟨⟨⟨h.1.1.1.1.chg hc (hd2 q (by simp [sfoot, foot])), h.1.1.1.2.1.chg hc (hd2 mb (by simp [sfoot, foot])), ⟨h.1.1.1.2.2.1.apart hc (hd2 th (by simp [sfoot, foot])) hF, h.1.1.1.2.2.2.1.chgF hc (fun g hg => hd2 g (by simp [sfoot, foot, hg])), h.1.1.1.2.2.2.2⟩⟩, h.1.1.2⟩, h.1.2.chg hc (hd2 S (by simp [sfoot])) (hd2 rb (by simp [sfoot]))⟩, h.2⟩
def TS (w0 : World) (S q mb th rb S' q' mb' th' rb' : Nat) (b c : Int) (t u : Tr It) (l k : List Rq) (w : World) : Prop :=
 (SAt w S q mb th rb b t l ∧ SAt w S' q' mb' th' rb' c u k) ∧ ((∀ g ∈ sfoot S q mb th rb t, g ∉ sfoot S' q' mb' th' rb' u) ∧ (∀ g ∈ sfoot S q mb th rb t, w0.heap.size ≤ g) ∧ (∀ g ∈ sfoot S' q' mb' th' rb' u, w0.heap.size ≤ g)) ∧ Below w0.heap.size w0 w
theorem TS.below {w0 : World} {S q mb th rb S' q' mb' th' rb' : Nat} {b c : Int} {t u : Tr It} {l k : List Rq} {w w' : World} (h : TS w0 S q mb th rb S' q' mb' th' rb' b c t u l k w) (hb : Below w.heap.size w w') : TS w0 S q mb th rb S' q' mb' th' rb' b c t u l k w' := ⟨⟨h.1.1.below hb, h.1.2.below hb⟩, h.2.1, below_on h.2.2 hb⟩
theorem TS.swap {w0 : World} {S q mb th rb S' q' mb' th' rb' : Nat} {b c : Int} {t u : Tr It} {l k : List Rq} {w : World} (h : TS w0 S q mb th rb S' q' mb' th' rb' b c t u l k w) : TS w0 S' q' mb' th' rb' S q mb th rb c b u t k l w := ⟨⟨h.1.2, h.1.1⟩, ⟨fun g hg hm => h.2.1.1 g hm hg, h.2.1.2.2, h.2.1.2.1⟩, h.2.2⟩
theorem sfoot_old {S q mb th rb n : Nat} {t t' : Tr It} (hb : ∀ g ∈ t'.blocks, g ∈ t.blocks ∨ n ≤ g) : ∀ g ∈ sfoot S q mb th rb t', g ∈ sfoot S q mb th rb t ∨ n ≤ g := fun g hg => by
 rcases List.mem_cons.1 hg with rfl | hg
 ·exact Or.inl (by simp [sfoot])
 ·rcases List.mem_cons.1 hg with rfl | hg
  ·exact Or.inl (by simp [sfoot])
  ·exact (foot_old hb g hg).imp (fun h => by simp [sfoot, h]) id
theorem TS.fst {w0 : World} {S q mb th rb S' q' mb' th' rb' : Nat} {b c b' : Int} {t u : Tr It} {l k l' : List Rq} {L' : List It} {w w' : World} (h : TS w0 S q mb th rb S' q' mb' th' rb' b c t u l k w) (s : StS S q mb th rb b' L' l' t w w') : ∃ t', t'.list = L' ∧ TS w0 S q mb th rb S' q' mb' th' rb' b' c t' u l' k w' := by
 obtain ⟨t', hl, hs, hbl, hc⟩ := s;have hsz := h.2.2.size;refine ⟨t', hl, ⟨hs, h.1.2.apart h.1.1 (fun g hg hm => h.2.1.1 g hm hg) hc⟩, ⟨fun g hg hm => ?_, fun g hg => ?_, h.2.1.2.2⟩, Below.chg h.2.2 hc (fun g hg => h.2.1.2.1 g (List.mem_cons_of_mem _ hg))⟩
 ·rcases sfoot_old (S := S) (q := q) (mb := mb) (th := th) (rb := rb) hbl g hg with h1 | h1
  ·exact h.2.1.1 g h1 hm
  ·exact absurd (h.1.2.footlt g hm) (by omega)
 ·rcases sfoot_old (S := S) (q := q) (mb := mb) (th := th) (rb := rb) hbl g hg with h1 | h1
  ·exact h.2.1.2.1 g h1
  ·omega
theorem TS.snd {w0 : World} {S q mb th rb S' q' mb' th' rb' : Nat} {b c c' : Int} {t u : Tr It} {l k k' : List Rq} {L' : List It} {w w' : World} (h : TS w0 S q mb th rb S' q' mb' th' rb' b c t u l k w) (s : StS S' q' mb' th' rb' c' L' k' u w w') : ∃ u', u'.list = L' ∧ TS w0 S q mb th rb S' q' mb' th' rb' b c' t u' l k' w' := by
 obtain ⟨u', hu, h1⟩ := h.swap.fst s;exact ⟨u', hu, h1.swap⟩
theorem TS.made {w0 w w' : World} {S q mb th rb S' q' mb' th' rb' : Nat} {b c : Int} {t u : Tr It} {l k : List Rq} (h : SAt w S q mb th rb b t l) (h0 : ∀ g ∈ sfoot S q mb th rb t, w0.heap.size ≤ g) (hb : Below w0.heap.size w0 w) (h' : SAt w' S' q' mb' th' rb' c u k) (h1 : ∀ g ∈ sfoot S' q' mb' th' rb' u, w.heap.size ≤ g) (hb' : Below w.heap.size w w') : TS w0 S q mb th rb S' q' mb' th' rb' b c t u l k w' :=
 ⟨⟨h.below hb', h'⟩, ⟨fun g hg hm => absurd (h.footlt g hg) (by have := h1 g hm; omega), h0, fun g hg => Nat.le_trans hb.size (h1 g hg)⟩, below_on hb hb'⟩
-- shifted
theorem It.back (d : Int) {a : It} (h : a.In) : It.shift (-d) (It.shift d a) = a := by
 unfold It.shift;obtain ⟨t, r, v, i, u, s, y⟩ := a;obtain ⟨h1, _, _, _, h5, _⟩ := h;simp only at h1 h5;simp only [It.mk.injEq, true_and, and_true];rw [IntKind.wrap_u64, IntKind.wrap_u64, IntKind.wrap_u64, IntKind.wrap_u64];omega
theorem sh_back (d : Int) {r : Rq} (h : r.In) : (r.sh d).sh (-d) = r := by
 unfold Rq.sh;rw [It.back d h.1]
theorem sh_right_eq (d : Int) {r : Rq} (h : r.In) : (r.sh d).right = r.right := by
 cases hr : r.right with
 | true => exact sh_right h hr
 | false =>
  cases hs : (r.sh d).right with
  | false => rfl
  | true =>
   have := sh_right (d := -d) (sh_in (d := d) h) hs;rw [sh_back d h, hr] at this;exact this.symm
theorem lesR_sh (d i : Int) (l : List Rq) : lesR i (l.map (Rq.sh d)) = (lesR i l).map (Rq.sh d) := by
 unfold lesR;rw [List.filter_map];rfl
theorem ent_sh (b d : Int) (L : List It) (l : List Rq) {r : Rq} (h : r.In) : entC (IntKind.u64.wrap (b + d)) (L.map (It.shift d)) (r.sh d) = entC b L r ∧ entB (IntKind.u64.wrap (b + d)) (L.map (It.shift d)) (r.sh d) = IntKind.u64.wrap (entB b L r + d) ∧ entL (IntKind.u64.wrap (b + d)) (L.map (It.shift d)) (r.sh d) = (entL b L r).map (It.shift d) ∧ entR (IntKind.u64.wrap (b + d)) (L.map (It.shift d)) (l.map (Rq.sh d)) (r.sh d) = (entR b L l r).map (Rq.sh d) := by
 have e : entC (IntKind.u64.wrap (b + d)) (L.map (It.shift d)) (r.sh d) = entC b L r := by
  unfold entC;rw [sh_right_eq d h]
  show (if r.right = true then joinC (IntKind.u64.wrap (b + d)) (L.map (It.shift d)) (It.shift d r.a) else 2) = _
  rw [joinC_sh]
 have j := joi_sh b d L r.a;refine ⟨e, ?_, ?_, ?_⟩
 ·unfold entB;rw [e]
  show (if entC b L r = 0 then joiB (IntKind.u64.wrap (b + d)) (L.map (It.shift d)) (It.shift d r.a) else _) = _
  rw [j.1];split <;> rfl
 ·unfold entL;rw [e]
  show (if entC b L r = 0 then joiL (IntKind.u64.wrap (b + d)) (L.map (It.shift d)) (It.shift d r.a) else _) = _
  rw [j.2];split <;> rfl
 ·unfold entR;rw [e];split <;> rfl
end


section
open Go.RowKit
structure Gn where
 i : Int
 g : Int
 r : Rq
def Gn.cells (x : Gn) : List Value := [.int .i64 x.i, .int .i64 (hiW x.g), .int .u64 (loW x.g), .int .u64 x.r.a.t, .int .u32 x.r.a.r, .int .u32 x.r.a.v, .int .i64 x.r.a.i, .int .u64 x.r.a.u, .int .u32 x.r.a.s, .int .u32 x.r.a.y, .int .u64 x.r.l, .int .u64 x.r.s, .bool x.r.z]
theorem Gn.len (x : Gn) : x.cells.length = 13 := rfl
theorem Gn.one (x : Gn) : ∀ v ∈ x.cells, v.oneCell' = true := by simp [Gn.cells, Value.oneCell']
theorem Gn.info : (Tryz.prog.info? 61).map (fun i => (i.zero.map (·.cells.size), i.size, i.bytes)) = some (some 13, 13, 88) := by kernel_rfl
inductive FluS (b : Int) (L : List It) (l : List Rq) : List Gn → Int → List It → List Rq → Prop
 | nil : FluS b L l [] b L l
 | snoc {gs : List Gn} {b1 : Int} {L1 : List It} {l1 ts : List Rq} {x : Rq} : FluS b L l gs b1 L1 l1 → ts.Perm l1 → (ts.Pairwise fun x y => x.a.i ≤ y.a.i) → goR (qM b1 L1) ts = some x → FluS b L l (gs ++ [⟨x.a.i, ((qM b1 L1).lag x.a.pp).2, x⟩]) (leaB x.a.i b1 L1) (lesI x.a.i L1) (lesR x.a.i l1)
def FluI (S q mb th rb : Nat) (b : Int) (t : Tr It) (l : List Rq) (w : World) (A : Option Addr) (c : Nat) (gs : List Gn) (b1 : Int) (t1 : Tr It) (l1 : List Rq) (wr : World) : Prop :=
 (FluS b t.list l gs b1 t1.list l1 ∧ (A = none ∨ 0 < gs.length) ∧ gs.length + l1.length ≤ 32) ∧ (SAt wr S q mb th rb b1 t1 l1 ∧ OwnG Gn.cells 13 61 wr w.heap.size A gs.length c gs ∧ ∀ j ∈ rowOf A, j ∉ sfoot S q mb th rb t1) ∧ (∀ g ∈ t1.blocks, g ∈ t.blocks ∨ w.heap.size ≤ g) ∧ Chg (rb :: foot q mb th t) w wr
theorem FluI.below {S q mb th rb : Nat} {b : Int} {t : Tr It} {l : List Rq} {w : World} {A : Option Addr} {c : Nat} {gs : List Gn} {b1 : Int} {t1 : Tr It} {l1 : List Rq} {wr w' : World} (h : FluI S q mb th rb b t l w A c gs b1 t1 l1 wr) (hb : Below wr.heap.size wr w') : FluI S q mb th rb b t l w A c gs b1 t1 l1 w' := ⟨h.1, ⟨h.2.1.1.below hb, h.2.1.2.1.below hb, h.2.1.2.2⟩, h.2.2.1, h.2.2.2.on hb⟩
theorem FluI.step {S q mb th rb : Nat} {b : Int} {t : Tr It} {l : List Rq} {w : World} {A : Option Addr} {c : Nat} {gs : List Gn} {b1 : Int} {t1 : Tr It} {l1 ts : List Rq} {x : Rq} {W W2 W3 : World} (h : FluI S q mb th rb b t l w A c gs b1 t1 l1 W) (hx : x ∈ l1) (hp : ts.Perm l1) (hr : ts.Pairwise fun x y => x.a.i ≤ y.a.i) (hg : goR (qM b1 t1.list) ts = some x)
  (hs : StS S q mb th rb (leaB x.a.i b1 t1.list) (lesI x.a.i t1.list) (lesR x.a.i l1) t1 W W2) (hb : Below W2.heap.size W2 W3) :
  ∃ t2, t2.list = lesI x.a.i t1.list ∧ SAt W3 S q mb th rb (leaB x.a.i b1 t1.list) t2 (lesR x.a.i l1) ∧ (∀ g ∈ t2.blocks, g ∈ t.blocks ∨ w.heap.size ≤ g) ∧ Chg (rb :: foot q mb th t) w W3 ∧ OwnG Gn.cells 13 61 W3 w.heap.size A gs.length c gs ∧ (∀ j ∈ rowOf A, j ∉ sfoot S q mb th rb t2) ∧ (lesR x.a.i l1).length + 1 = l1.length := by
 obtain ⟨t2, hl, h2, hbl, hc⟩ := hs;have hsz := h.2.2.2.size;have hge := h.2.1.2.1.rowGe;refine ⟨t2, hl, h2.below hb, fun g hg => ?_, ?_, ((h.2.1.2.1.chg hc (fun j hj hm => h.2.1.2.2 j hj (List.mem_cons_of_mem _ hm)))).below hb, fun j hj hm => ?_, ?_⟩
 ·rcases hbl g hg with h1 | h1
  ·exact h.2.2.1 g h1
  ·exact Or.inr (by omega)
 ·refine (h.2.2.2.trans hc (fun g hg => ?_)).on hb;rcases List.mem_cons.1 hg with rfl | hg
  ·exact Or.inl (by simp)
  ·rcases foot_old h.2.2.1 g hg with h1 | h1
   ·exact Or.inl (List.mem_cons_of_mem _ h1)
   ·exact Or.inr h1
 ·rcases sfoot_old (S := S) (q := q) (mb := mb) (th := th) (rb := rb) hbl j hm with h1 | h1
  ·exact h.2.1.2.2 j hj h1
  ·have := (hge j hj).2; omega
 ·have := (lesR_perm h.2.1.1.ids hx).length_eq;simpa using this.symm
theorem FluI.more {S q mb th rb : Nat} {b : Int} {t : Tr It} {l : List Rq} {w : World} {A A' : Option Addr} {c c' : Nat} {gs : List Gn} {d : Gn} {b2 : Int} {t2 : Tr It} {l2 : List Rq} {W W5 : World} (hA : A = none ∨ 0 < gs.length) (hf : FluS b t.list l (gs ++ [d]) b2 t2.list l2) (hn : gs.length + l2.length + 1 ≤ 32) (h2 : SAt W S q mb th rb b2 t2 l2) (h3 : ∀ g ∈ t2.blocks, g ∈ t.blocks ∨ w.heap.size ≤ g) (h4 : Chg (rb :: foot q mb th t) w W) (h5 : OwnG Gn.cells 13 61 W w.heap.size A gs.length c gs) (h6 : ∀ j ∈ rowOf A, j ∉ sfoot S q mb th rb t2)
  (ho : OwnG Gn.cells 13 61 W5 w.heap.size A' (gs.length + 1) c' (gs ++ [d])) (hc : Chg (rowOf A) W W5) (hr : ∀ j ∈ rowOf A', j ∈ rowOf A ∨ W.heap.size ≤ j) : FluI S q mb th rb b t l w A' c' (gs ++ [d]) b2 t2 l2 W5 := by
 refine ⟨⟨hf, Or.inr (by simp), by simp; omega⟩, ⟨h2.away hc (fun g hg f a cc e => ?_) (fun g hg hm => h6 g hm hg), by simpa using ho, fun j hj hm => ?_⟩, h3, h4.trans hc (fun g hg => Or.inr (h5.rowGe g hg).1)⟩
 ·rcases hA with rfl | hA
  ·simp [rowOf] at hg
  ·obtain ⟨g', rfl, _, _⟩ := h5.head hA;have hg' : g = g' := by simpa [rowOf] using hg
   subst hg';have h7 := (h5.range Gn.len (by decide) (⟨0, 0, Rq.no⟩ : Gn) hA) 0 _ rfl;rw [Nat.zero_mul, Nat.zero_add] at h7;rw [h7] at e;cases e
 ·rcases hr j hj with h8 | h8
  ·exact h6 j h8 hm
  ·have := h2.footlt j hm; omega
theorem Go_mem {m : Mu} {ts : List Rq} {x : Rq} (h : goR m ts = some x) : x ∈ ts := List.mem_of_find?_eq_some h
set_option maxRecDepth 100000 in
set_option maxHeartbeats 8000000 in
theorem Set.flush (S q mb th rb : Nat) (b : Int) (t : Tr It) (l : List Rq) (w : World) (h : SAt w S q mb th rb b t l) : Calls Tryz.prog 11 #[.pointer (some ⟨S, 0, none⟩)] w (fun e w' => ∃ A c gs b1 t1 l1 ts, e = .returned (.slice A gs.length c) ∧ FluI S q mb th rb b t l w A c gs b1 t1 l1 w' ∧ ts.Perm l1 ∧ (ts.Pairwise fun x y => x.a.i ≤ y.a.i) ∧ goR (qM b1 t1.list) ts = none) := by
 have HF0 : Hid (FluI S q mb th rb b t l w none 0 [] b t l w) := hid ⟨⟨.nil, Or.inl rfl, by have := h.few; simpa using this⟩, ⟨h, OwnG.nil _ _, by simp [rowOf]⟩, fun g hg => Or.inl hg, Chg.refl _ _⟩;clear h;go_enter Tryz.func11, Tryz.ntmps11;go_wp2_with fail
 go_loopg [3] l.length (fun s v wr => ∃ A c gs b1 t1 l1, v = .slice A gs.length c ∧ s = l1.length ∧ FluI S q mb th rb b t l w A c gs b1 t1 l1 wr)
 case atStart => exact ⟨none, 0, [], b, t, l, rfl, rfl, HF0.out⟩
 case round =>
  obtain ⟨A, c, gs, b1, t1, l1, rfl, hs, hi⟩ := hrel;have HS := hid hs;have HI := hid hi;clear hs hi;go_wp2_with fail;refine (Set.mayGo S q mb th rb b1 t1 l1 _ HI.out.2.1.1).mono ?_;rintro e w2 ⟨ts, ⟨hp, hr⟩, rfl, hb⟩;have HI2 := hid (HI.out.below hb);have HP := hid hp;have HR := hid hr;clear hb hp hr;cases hg : goR (qM b1 t1.list) ts with
  | none =>
   have HG := hid hg;clear hg;unfold goI;dsimp only [Option.isSome];go_wp2_with fail;go_ret
   exact ⟨A, c, gs, b1, t1, l1, ts, rfl, HI2.out, HP.out, HR.out, HG.out⟩
  | some x =>
   have HG := hid hg;have HX := hid (HP.out.mem_iff.1 (Go_mem hg));clear hg;unfold goI;dsimp only [Option.isSome];obtain ⟨s0, s1⟩ := HI2.out.2.1.1.1.2.at;go_wp2_with fail;refine (Queue.lag_yes q mb th (qM b1 t1.list) t1 x.a (HI2.out.2.1.1.2.1.2.1.mem_iff.1 (List.mem_map_of_mem (f := fun c : Rq => c.a) HX.out)) _ HI2.out.2.1.1.1.1).mono ?_;rintro e w3 ⟨rfl, hb⟩;obtain ⟨L, hL⟩ : ∃ L, L = ((qM b1 t1.list).lag x.a.pp).2 := ⟨_, rfl⟩
   have HL := hid hL;rw [← hL];clear hL;unfold wv;have HI3 := hid ((HI2.out.below hb).below ((Below.refl w3.heap.size w3).alloc (Nat.le_refl _) (.cells #[.int .i64 (hiW L), .int .u64 (loW L)] 51)));have HV3 : Hid (Cs (w3.alloc (.cells #[.int .i64 (hiW L), .int .u64 (loW L)] 51)) w3.heap.size [.int .i64 (hiW L), .int .u64 (loW L)]) := hid (Cs.alloc_new w3 51 [.int .i64 (hiW L), .int .u64 (loW L)]);have HSZ3 := hid ((HI2.out.2.2.2.on hb).size);have HLT3 : Hid (∀ g ∈ rb :: foot q mb th t1, g < w3.heap.size) := hid (fun g hg => (HI2.out.below hb).2.1.1.footlt g (List.mem_cons_of_mem _ hg));clear hb s0 s1;go_upto_region 6 with fail;generalize (w3.alloc (.cells #[.int .i64 (hiW L), .int .u64 (loW L)] 51)) = W3 at HI3 HV3 ⊢;generalize w3.heap.size = gl at HV3 HSZ3 HLT3 ⊢;go_wp2_with fail;refine (Set.exit_yes S q mb th rb b1 t1 l1 x HX.out _ HI3.out.2.1.1).mono ?_;rintro e w4 ⟨rfl, hs⟩;have hb4 := (Below.refl w4.heap.size w4).alloc (Nat.le_refl _) (.cells #[.int .u64 x.a.t, .int .u32 x.a.r, .int .u32 x.a.v, .int .i64 x.a.i, .int .u64 x.a.u, .int .u32 x.a.s, .int .u32 x.a.y, .int .u64 x.l, .int .u64 x.s, .bool x.z] 59);have HV4 := hid (((HV3.out.chg (F := rb :: foot q mb th t1) (by obtain ⟨_, _, _, _, h⟩ := hs; exact h) (fun hm => absurd (HLT3.out _ hm) (by omega))).below hb4));have HX4 : Hid (Cs (w4.alloc (.cells #[.int .u64 x.a.t, .int .u32 x.a.r, .int .u32 x.a.v, .int .i64 x.a.i, .int .u64 x.a.u, .int .u32 x.a.s, .int .u32 x.a.y, .int .u64 x.l, .int .u64 x.s, .bool x.z] 59)) w4.heap.size x.cells) := hid (Rq.new10 w4 59 x)
   obtain ⟨t2, k1, k2, k3, k4, k5, k6, k7⟩ := HI3.out.step HX.out HP.out HR.out HG.out hs hb4;have HK1 := hid k1;have HK2 := hid k2;have HK3 := hid k3;have HK4 := hid k4;have HK5 := hid k5;have HK6 := hid k6;have HK7 := hid k7;clear hs hb4 k1 k2 k3 k4 k5 k6 k7;unfold Rq.val;go_upto_region 7 with fail;generalize (w4.alloc (.cells #[.int .u64 x.a.t, .int .u32 x.a.r, .int .u32 x.a.v, .int .i64 x.a.i, .int .u64 x.a.u, .int .u32 x.a.s, .int .u32 x.a.y, .int .u64 x.l, .int .u64 x.s, .bool x.z] 59)) = W4 at HV4 HX4 HK2 HK4 HK5 ⊢;generalize w4.heap.size = gr at HX4 ⊢;have v0 := HV4.out.at0;have v1 := HV4.out.at1;obtain ⟨x0, x1, x2, x3, x4, x5, x6, x7, x8, x9⟩ := Rq.at x HX4.out;have ho5 := HK5.out.alloc (.cells #[.int .i64 x.a.i, .int .i64 (hiW L), .int .u64 (loW L), .int .u64 x.a.t, .int .u32 x.a.r, .int .u32 x.a.v, .int .i64 x.a.i, .int .u64 x.a.u, .int .u32 x.a.s, .int .u32 x.a.y, .int .u64 x.l, .int .u64 x.s, .bool x.z] 61);have hc5 : (W4.alloc (.cells #[.int .i64 x.a.i, .int .i64 (hiW L), .int .u64 (loW L), .int .u64 x.a.t, .int .u32 x.a.r, .int .u32 x.a.v, .int .i64 x.a.i, .int .u64 x.a.u, .int .u32 x.a.s, .int .u32 x.a.y, .int .u64 x.l, .int .u64 x.s, .bool x.z] 61)).rangeAt W4.heap.size 0 (Gn.cells ⟨x.a.i, L, x⟩) := by
    have h9 := Cs.alloc_new W4 61 (Gn.cells ⟨x.a.i, L, x⟩);intro i v hv;have h8 := (h9 i v hv).1;rw [Nat.zero_add];exact h8
   have hn5 : gs.length ≤ 1000000 := by have := HI.out.1.2.2; omega
   have hs5 : w.heap.size ≤ (W4.alloc (.cells #[.int .i64 x.a.i, .int .i64 (hiW L), .int .u64 (loW L), .int .u64 x.a.t, .int .u32 x.a.r, .int .u32 x.a.v, .int .i64 x.a.i, .int .u64 x.a.u, .int .u32 x.a.s, .int .u32 x.a.y, .int .u64 x.l, .int .u64 x.s, .bool x.z] 61)).heap.size := by have := HK4.out.size; simp; omega
   go_wp2_with (first | (refine wpList_append_g _ rfl (.tmp 33) (.tmp 38) 35 rfl Gn.len (by decide) Gn.one 88 Tryz.underlying35 Gn.info (by decide) w.heap.size A _ c gs ?qj1 ho5 _ (⟨x.a.i, L, x⟩ : Gn) ?qj2 hc5 hn5 hs5 ?_; (case qj1 => rfl); (case qj2 => rfl); intro A' c' w5 ho6 hch hrow) | fail);go_roundg (lesR x.a.i l1).length
   case measure => have := HK7.out; have := HS.out; omega
   case rel =>
    have hal := (Below.refl W4.heap.size W4).alloc (Nat.le_refl _) (.cells #[.int .i64 x.a.i, .int .i64 (hiW L), .int .u64 (loW L), .int .u64 x.a.t, .int .u32 x.a.r, .int .u32 x.a.v, .int .i64 x.a.i, .int .u64 x.a.u, .int .u32 x.a.s, .int .u32 x.a.y, .int .u64 x.l, .int .u64 x.s, .bool x.z] 61);refine ⟨A', c', gs ++ [⟨x.a.i, L, x⟩], _, t2, lesR x.a.i l1, by simp, rfl, FluI.more HI.out.1.2.1 ?_ (by have := HI.out.1.2.2; have := HK7.out; omega) (HK2.out.below hal) HK3.out (HK4.out.on hal) ho5 HK6.out ho6 hch hrow⟩;rw [HL.out, HK1.out];exact .snoc HI.out.1.1 HP.out HR.out HG.out
end


section
open Go.RowKit
def dueI (b : Int) (t : Tr It) : Int := (foldD (fun y => (qM b t.list).elig y.pp) t (false, It.zero)).2.i
set_option maxRecDepth 100000 in
set_option maxHeartbeats 8000000 in
theorem Set.settle (S q mb th rb : Nat) (b : Int) (t : Tr It) (l : List Rq) (w : World) (h : SAt w S q mb th rb b t l) : Calls Tryz.prog 9 #[.pointer (some ⟨S, 0, none⟩)] w (fun e w' => ∃ A c gs b1 t1 l1 ts, e = .returned (.tuple #[.slice A gs.length c, .int .i64 (dueI b1 t1)]) ∧ FluI S q mb th rb b t l w A c gs b1 t1 l1 w' ∧ ts.Perm l1 ∧ (ts.Pairwise fun x y => x.a.i ≤ y.a.i) ∧ goR (qM b1 t1.list) ts = none) := by
 have HH := hid h;clear h;go_enter Tryz.func9, Tryz.ntmps9;go_wp2_with fail;refine (Set.flush S q mb th rb b t l _ HH.out).mono ?_;rintro e w1 ⟨A, c, gs, b1, t1, l1, ts, rfl, hi, hp, hr, hg⟩;have HI := hid hi;have HP := hid hp;have HR := hid hr;have HG := hid hg;clear hi hp hr hg;obtain ⟨s0, s1⟩ := HI.out.2.1.1.1.2.at;go_wp2_with fail;refine (Queue.soonest q mb th (qM b1 t1.list) t1 _ HI.out.2.1.1.1.1).mono ?_;rintro e w2 ⟨rfl, hb⟩;obtain ⟨y, hy⟩ : ∃ y, y = foldD (fun y => (qM b1 t1.list).elig y.pp) t1 (false, It.zero) := ⟨_, rfl⟩
 have HY : Hid (dueI b1 t1 = y.2.i) := hid (by rw [hy]; rfl);rw [← hy];clear hy;obtain ⟨y1, y2⟩ := y;dsimp only at HY ⊢;have hal := (Below.refl w2.heap.size w2).alloc (Nat.le_refl _) (.cells #[.int .u64 y2.t, .int .u32 y2.r, .int .u32 y2.v, .int .i64 y2.i, .int .u64 y2.u, .int .u32 y2.s, .int .u32 y2.y] 57);have HI2 := hid ((HI.out.below hb).below hal);have HX : Hid (Cs (w2.alloc (.cells #[.int .u64 y2.t, .int .u32 y2.r, .int .u32 y2.v, .int .i64 y2.i, .int .u64 y2.u, .int .u32 y2.s, .int .u32 y2.y] 57)) w2.heap.size y2.cells) := hid (Cs.new7 w2 57 y2);clear hal hb s0 s1;unfold It.val;go_upto_region 5 with fail;generalize (w2.alloc (.cells #[.int .u64 y2.t, .int .u32 y2.r, .int .u32 y2.v, .int .i64 y2.i, .int .u64 y2.u, .int .u32 y2.s, .int .u32 y2.y] 57)) = W3 at HI2 HX ⊢;generalize w2.heap.size = gx at HX ⊢;have hsT1 : Stays (fun wx => Cs wx gx y2.cells ∧ Below W3.heap.size W3 wx) := fun _ _ h hb => ⟨h.1.below hb, below_on h.2 hb⟩
 refine wp_region_grow (S := fun wx => Cs wx gx y2.cells ∧ Below W3.heap.size W3 wx) 5 (by kernel_rfl) (hsT1 _ _ (⟨HX.out, Below.refl _ _⟩) (Below.refl _ _).drew) ?_;refine tF 0 (hsT1) (fun _ h => h) ?_;try simp only [tdy]
 refine tF 1 (hsT1) (fun _ h => h) ?_;try simp only [tdy]
 refine tG 2 (hsT1) (fun _ h => h) (fun _ hSw => It.at y2 hSw.1) ?_;try simp only [tdy]
 refine tF 3 (hsT1) (fun _ h => h) ?_;try simp only [tdy]
 refine tF 4 (hsT1) (fun _ h => h) ?_;try simp only [tdy]
 refine wpAnyE_done (by kernel_rfl) (fun wz hSz => ?_) _;have HI3 := hid (HI2.out.below hSz.2);clear hSz;go_wp2_with fail
 go_ret2
 exact ⟨A, c, gs, b1, t1, l1, ts, by rw [HY.out] <;> rfl, HI3.out, HP.out, HR.out, HG.out⟩
end


section
open Go.RowKit
def srtR (l : List Rq) : List Rq := l.mergeSort fun x y => decide (x.a.i ≤ y.a.i)
theorem srtR_perm (l : List Rq) : (srtR l).Perm l := List.mergeSort_perm _ _
theorem srtR_srt (l : List Rq) : (srtR l).Pairwise fun x y => x.a.i ≤ y.a.i := by
 have h := List.pairwise_mergeSort (le := fun x y : Rq => decide (x.a.i ≤ y.a.i)) (fun a b c h1 h2 => by simp only [decide_eq_true_eq] at *; omega) (fun a b => by simp only [Bool.or_eq_true, decide_eq_true_eq]; omega) l;exact h.imp (fun h => by simpa using h)
theorem srt_lt {l ts : List Rq} (hn : (l.map (·.a.i)).Nodup) (hp : ts.Perm l) (hs : ts.Pairwise fun x y => x.a.i ≤ y.a.i) : ts.Pairwise fun x y => x.a.i < y.a.i := by
 have hn1 : (ts.map (·.a.i)).Nodup := (hp.map (·.a.i)).nodup_iff.2 hn;have hne : ts.Pairwise fun x y => x.a.i ≠ y.a.i := List.pairwise_map.1 hn1
 exact List.Pairwise.imp₂ (fun _ _ h1 h2 => by omega) hs hne
theorem srtR_lt {l : List Rq} (hn : (l.map (·.a.i)).Nodup) : (srtR l).Pairwise fun x y => x.a.i < y.a.i := srt_lt hn (srtR_perm l) (srtR_srt l)
theorem srtR_one {l ts : List Rq} (hn : (l.map (·.a.i)).Nodup) (hp : ts.Perm l) (hs : ts.Pairwise fun x y => x.a.i ≤ y.a.i) : ts = srtR l :=
 List.Perm.eq_of_pairwise (le := fun x y : Rq => x.a.i < y.a.i) (fun a b _ _ h1 h2 => by omega) (srt_lt hn hp hs) (srtR_lt hn) (hp.trans (srtR_perm l).symm)
theorem rangeB {w w' : World} {b o : Nat} {l : List Value} (h : w.rangeAt b o l) (hb : Below w.heap.size w w') : w'.rangeAt b o l := fun i v hv => keep1 hb (h i v hv)
end


section
open Go.RowKit
def Gn.sh (d : Int) (x : Gn) : Gn := ⟨x.i, x.g, x.r.sh d⟩
def Sok (b : Int) (L : List It) (l : List Rq) : Prop := (Qok b L ∧ (l.map (·.a)).Perm L) ∧ (l.map (·.a.i)).Nodup
theorem Sok.of {w : World} {S q mb th rb : Nat} {b : Int} {t : Tr It} {l : List Rq} (h : SAt w S q mb th rb b t l) : Sok b t.list l := ⟨⟨h.2.1.1.1, h.2.1.2.1⟩, h.ids⟩
theorem Sok.les {b : Int} {L : List It} {l : List Rq} (h : Sok b L l) {x : Rq} (hx : x ∈ l) : Sok (leaB x.a.i b L) (lesI x.a.i L) (lesR x.a.i l) := by
 have hxL : x.a ∈ L := h.1.2.mem_iff.1 (List.mem_map_of_mem (f := fun c : Rq => c.a) hx);obtain ⟨A, B, hL, hi, _⟩ := h.1.1.parts hxL;have hle : lesI x.a.i L = A ++ B := by rw [hL]; exact rest_eq (a := x.a) rfl hi
 have ha : anyI x.a.i L = true := by unfold anyI; rw [List.any_eq_true]; exact ⟨x.a, hxL, by simp⟩
 refine ⟨⟨?_, ?_⟩, ?_⟩
 ·have hk := h.1.1;rw [hL] at hk;have h4 := hk.leave.2.2.2;unfold leaB;rw [if_pos ha, hle];exact h4
 ·rw [lesR_map];exact h.1.2.filter _
 ·exact List.Nodup.sublist (List.filter_sublist.map _) h.2
theorem over_sh {b d : Int} {l : List It} (h : Qok b l) {x : It} (hx : x ∈ l) : (qM (IntKind.u64.wrap (b + d)) (l.map (It.shift d))).over (It.shift d x).pp = (qM b l).over x.pp := by
 rw [(sums_ovI h.fw hx).1, (sums_ovI (h.sh d).fw (List.mem_map_of_mem hx)).1, ov_sh]
theorem mayP_sh {b d : Int} {L : List It} (h : Qok b L) {x : Rq} (hx : x.a ∈ L) : mayP (qM (IntKind.u64.wrap (b + d)) (L.map (It.shift d))) (x.sh d) = mayP (qM b L) x := by
 unfold mayP Mu.sign;rw [show (x.sh d).a.pp = (It.shift d x.a).pp from rfl, over_sh h hx];rfl
theorem find_sh {p q : Rq → Bool} {d : Int} : ∀ {ts : List Rq}, (∀ x ∈ ts, p (x.sh d) = q x) → (ts.map (Rq.sh d)).find? p = (ts.find? q).map (Rq.sh d)
 | [], _ => rfl
 | x :: ts, h => by
  rw [List.map_cons, List.find?_cons, List.find?_cons, h x (by simp)];cases q x with
  | true => rfl
  | false => exact find_sh (fun y hy => h y (List.mem_cons_of_mem _ hy))
theorem goR_sh {b d : Int} {L : List It} (h : Qok b L) {ts : List Rq} (ht : ∀ x ∈ ts, x.a ∈ L) : goR (qM (IntKind.u64.wrap (b + d)) (L.map (It.shift d))) (ts.map (Rq.sh d)) = (goR (qM b L) ts).map (Rq.sh d) :=
 find_sh (fun x hx => mayP_sh h (ht x hx))
theorem Sok.mem {b : Int} {L : List It} {l ts : List Rq} (h : Sok b L l) (hp : ts.Perm l) : ∀ x ∈ ts, x.a ∈ L := fun x hx => h.1.2.mem_iff.1 (List.mem_map_of_mem (f := fun c : Rq => c.a) (hp.mem_iff.1 hx))
theorem srt_sh {d : Int} {ts : List Rq} (h : ts.Pairwise fun x y => x.a.i ≤ y.a.i) : (ts.map (Rq.sh d)).Pairwise fun x y => x.a.i ≤ y.a.i := by
 rw [List.pairwise_map];exact h
theorem FluS.ok {b b1 : Int} {L L1 : List It} {l l1 : List Rq} {gs : List Gn} (h : FluS b L l gs b1 L1 l1) (h0 : Sok b L l) : Sok b1 L1 l1 := by
 induction h with
 | nil => exact h0
 | snoc _ hp _ hg ih => exact ih.les (hp.mem_iff.1 (Go_mem hg))
theorem FluS.sh {b b1 : Int} {L L1 : List It} {l l1 : List Rq} {gs : List Gn} (h : FluS b L l gs b1 L1 l1) (h0 : Sok b L l) (d : Int) : FluS (IntKind.u64.wrap (b + d)) (L.map (It.shift d)) (l.map (Rq.sh d)) (gs.map (Gn.sh d)) (IntKind.u64.wrap (b1 + d)) (L1.map (It.shift d)) (l1.map (Rq.sh d)) := by
 induction h with
 | nil => exact .nil
 | snoc hf hp hs hg ih =>
  rename_i gs b1 L1 l1 ts x
  have hok := FluS.ok hf h0;have hxl : x ∈ l1 := hp.mem_iff.1 (Go_mem hg);have hxL : x.a ∈ L1 := hok.1.2.mem_iff.1 (List.mem_map_of_mem (f := fun c : Rq => c.a) hxl);have h1 := FluS.snoc (ts := ts.map (Rq.sh d)) (x := x.sh d) ih (hp.map _) (srt_sh hs) (by rw [goR_sh hok.1.1 (hok.mem hp), hg]; rfl);have e1 : leaB (x.sh d).a.i (IntKind.u64.wrap (b1 + d)) (L1.map (It.shift d)) = IntKind.u64.wrap (leaB x.a.i b1 L1 + d) := (lea_sh x.a.i b1 d L1).2;have e2 : lesI (x.sh d).a.i (L1.map (It.shift d)) = (lesI x.a.i L1).map (It.shift d) := lesI_sh d x.a.i L1;have e3 : lesR (x.sh d).a.i (l1.map (Rq.sh d)) = (lesR x.a.i l1).map (Rq.sh d) := lesR_sh d x.a.i l1;have e4 : (qM (IntKind.u64.wrap (b1 + d)) (L1.map (It.shift d))).lag (x.sh d).a.pp = (qM b1 L1).lag x.a.pp := lag_sh hok.1.1 hxL;rw [e1, e2, e3, e4] at h1;rw [List.map_append];exact h1
theorem FluS.pre {b b1 : Int} {L L1 : List It} {l l1 : List Rq} {gs : List Gn} (h : FluS b L l gs b1 L1 l1) (k : Nat) (hk : k < gs.length) : ∃ b2 L2 l2 ts x, FluS b L l (gs.take k) b2 L2 l2 ∧ ts.Perm l2 ∧ (ts.Pairwise fun x y => x.a.i ≤ y.a.i) ∧ goR (qM b2 L2) ts = some x := by
 induction h with
 | nil => simp at hk
 | snoc hf hp hs hg ih =>
  rename_i gs b1 L1 l1 ts x
  rw [List.length_append, List.length_singleton] at hk;by_cases hkg : k < gs.length
  ·rw [List.take_append_of_le_length (by omega)];exact ih hkg
  ·obtain rfl : k = gs.length := by omega
   rw [List.take_left];exact ⟨_, _, _, _, _, hf, hp, hs, hg⟩
theorem FluS.uniq {b b1 : Int} {L L1 : List It} {l l1 : List Rq} {gs : List Gn} (h : FluS b L l gs b1 L1 l1) (h0 : Sok b L l) : ∀ {gs' : List Gn} {b2 : Int} {L2 : List It} {l2 : List Rq}, FluS b L l gs' b2 L2 l2 → gs.length = gs'.length → gs = gs' ∧ b1 = b2 ∧ L1 = L2 ∧ l1 = l2 := by
 induction h with
 | nil =>
  intro gs' b2 L2 l2 h' hl;cases h' with
  | nil => exact ⟨rfl, rfl, rfl, rfl⟩
  | snoc => simp at hl
 | snoc hf hp hs hg ih =>
  rename_i gs b1 L1 l1 ts x
  intro gs' b2 L2 l2 h' hl;cases h' with
  | nil => simp at hl
  | snoc hf' hp' hs' hg' =>
   rename_i gs1 b3 L3 l3 ts1 x1
   obtain ⟨rfl, rfl, rfl, rfl⟩ := ih hf' (by simpa using hl);have hn := (FluS.ok hf h0).2;have e : ts = ts1 := (srtR_one hn hp hs).trans (srtR_one hn hp' hs').symm;subst e;rw [hg] at hg';injection hg' with hg';subst hg';exact ⟨rfl, rfl, rfl, rfl⟩
theorem goR_perm {b : Int} {L : List It} {l ts rs : List Rq} (hn : (l.map (·.a.i)).Nodup) (hp : ts.Perm l) (hs : ts.Pairwise fun x y => x.a.i ≤ y.a.i) (hp' : rs.Perm l) (hs' : rs.Pairwise fun x y => x.a.i ≤ y.a.i) (hg : goR (qM b L) ts = none) : goR (qM b L) rs = none := by
 rw [(srtR_one hn hp' hs').trans (srtR_one hn hp hs).symm];exact hg
theorem FluS.len {b b1 b2 : Int} {L L1 L2 : List It} {l l1 l2 ts : List Rq} {gs gs' : List Gn} (h : FluS b L l gs b1 L1 l1) (h' : FluS b L l gs' b2 L2 l2) (h0 : Sok b L l) (hp : ts.Perm l1) (hs : ts.Pairwise fun x y => x.a.i ≤ y.a.i) (hg : goR (qM b1 L1) ts = none) : gs'.length ≤ gs.length := by
 by_cases hl : gs'.length ≤ gs.length
 ·exact hl
 ·obtain ⟨b3, L3, l3, rs, x, hf, hp', hs', hg'⟩ := h'.pre gs.length (by omega);obtain ⟨_, rfl, rfl, rfl⟩ := h.uniq h0 hf (by rw [List.length_take]; omega);rw [goR_perm (FluS.ok h h0).2 hp hs hp' hs' hg] at hg';cases hg'
theorem FluS.det {b b1 b2 : Int} {L L1 L2 : List It} {l l1 l2 ts rs : List Rq} {gs gs' : List Gn} (h : FluS b L l gs b1 L1 l1) (h' : FluS b L l gs' b2 L2 l2) (h0 : Sok b L l) (hp : ts.Perm l1) (hs : ts.Pairwise fun x y => x.a.i ≤ y.a.i) (hg : goR (qM b1 L1) ts = none) (hp' : rs.Perm l2) (hs' : rs.Pairwise fun x y => x.a.i ≤ y.a.i) (hg' : goR (qM b2 L2) rs = none) : gs = gs' ∧ b1 = b2 ∧ L1 = L2 ∧ l1 = l2 :=
 h.uniq h0 h' (Nat.le_antisymm (h'.len h h0 hp' hs' hg') (h.len h' h0 hp hs hg))
theorem FluS.both {b b1 b2 d : Int} {L L1 L2 : List It} {l l1 l2 ts rs : List Rq} {gs gs' : List Gn} (h : FluS b L l gs b1 L1 l1) (h0 : Sok b L l) (hp : ts.Perm l1) (hs : ts.Pairwise fun x y => x.a.i ≤ y.a.i) (hg : goR (qM b1 L1) ts = none)
  (h' : FluS (IntKind.u64.wrap (b + d)) (L.map (It.shift d)) (l.map (Rq.sh d)) gs' b2 L2 l2) (h0' : Sok (IntKind.u64.wrap (b + d)) (L.map (It.shift d)) (l.map (Rq.sh d))) (hp' : rs.Perm l2) (hs' : rs.Pairwise fun x y => x.a.i ≤ y.a.i) (hg' : goR (qM b2 L2) rs = none) : gs' = gs.map (Gn.sh d) ∧ b2 = IntKind.u64.wrap (b1 + d) ∧ L2 = L1.map (It.shift d) ∧ l2 = l1.map (Rq.sh d) := by
 obtain ⟨e1, e2, e3, e4⟩ := (h.sh h0 d).det h' h0' (hp.map (Rq.sh d)) (srt_sh hs) (by rw [goR_sh (FluS.ok h h0).1.1 ((FluS.ok h h0).mem hp), hg]; rfl) hp' hs' hg';exact ⟨e1.symm, e2.symm, e3.symm, e4.symm⟩
theorem due_sh {b d : Int} {t u : Tr It} (hq : Qok b t.list) (hu : u.list = t.list.map (It.shift d)) : dueI (IntKind.u64.wrap (b + d)) u = dueI b t := by
 have hk : Qok (IntKind.u64.wrap (b + d)) u.list := by rw [hu]; exact hq.sh d
 obtain ⟨x, hx, hx0, hx1⟩ := first_elig hq.fw hq.srt;obtain ⟨y, hy, hy0, hy1⟩ := first_elig hk.fw hk.srt;unfold dueI;rw [hx, hy]
 show y.i = x.i
 have hl : u.list.length = t.list.length := by rw [hu, List.length_map]
 by_cases h0 : 0 < t.list.length
 ·rw [first_sh hq hu (hx1 h0) (hy1 (by omega))];rfl
 ·rw [hx0 (by omega), hy0 (by omega)]
end


section
open Go.RowKit
theorem Ra.new11 (w : World) (T : TypeId) (d : Int) (r : Rq) : Cs (w.alloc (.cells #[.int .u8 d, .int .u64 r.a.t, .int .u32 r.a.r, .int .u32 r.a.v, .int .i64 r.a.i, .int .u64 r.a.u, .int .u32 r.a.s, .int .u32 r.a.y, .int .u64 r.l, .int .u64 r.s, .bool r.z] T)) w.heap.size (.int .u8 d :: r.cells) := Cs.alloc_new w T (.int .u8 d :: r.cells)
theorem Ra.at {w : World} {g : Nat} {d : Int} (r : Rq) (h : Cs w g (.int .u8 d :: r.cells)) : w.cell? ⟨g, 0, none⟩ = some (.int .u8 d) ∧ w.cell? ⟨g, 1, none⟩ = some (.int .u64 r.a.t) ∧ w.cell? ⟨g, 2, none⟩ = some (.int .u32 r.a.r) ∧ w.cell? ⟨g, 3, none⟩ = some (.int .u32 r.a.v) ∧ w.cell? ⟨g, 4, none⟩ = some (.int .i64 r.a.i) ∧ w.cell? ⟨g, 5, none⟩ = some (.int .u64 r.a.u) ∧ w.cell? ⟨g, 6, none⟩ = some (.int .u32 r.a.s) ∧ w.cell? ⟨g, 7, none⟩ = some (.int .u32 r.a.y) ∧ w.cell? ⟨g, 8, none⟩ = some (.int .u64 r.l) ∧ w.cell? ⟨g, 9, none⟩ = some (.int .u64 r.s) ∧ w.cell? ⟨g, 10, none⟩ = some (.bool r.z) :=
 ⟨h.at0, (h 1 _ rfl).1, (h 2 _ rfl).1, (h 3 _ rfl).1, (h 4 _ rfl).1, (h 5 _ rfl).1, (h 6 _ rfl).1, (h 7 _ rfl).1, (h 8 _ rfl).1, (h 9 _ rfl).1, (h 10 _ rfl).1⟩
theorem TS.own {F : List Nat} {w0 : World} {S q mb th rb S' q' mb' th' rb' : Nat} {b c : Int} {t u : Tr It} {l k : List Rq} {w w' : World} (h : TS w0 S q mb th rb S' q' mb' th' rb' b c t u l k w) (hc : Chg F w w') (hF : ∀ g ∈ F, ∀ f a c, w.cell? ⟨g, 0, none⟩ ≠ some (.func f a c)) (hd : ∀ g ∈ F, g ∉ sfoot S q mb th rb t ∧ g ∉ sfoot S' q' mb' th' rb' u ∧ w0.heap.size ≤ g) : TS w0 S q mb th rb S' q' mb' th' rb' b c t u l k w' :=
 ⟨⟨h.1.1.away hc hF (fun g hg hm => (hd g hm).1 hg), h.1.2.away hc hF (fun g hg hm => (hd g hm).2.1 hg)⟩, h.2.1, Below.chg h.2.2 hc (fun g hg => (hd g hg).2.2)⟩
def U2 (w0 : World) (S q mb th rb S' q' mb' th' rb' : Nat) (b d : Int) (L : List It) (l : List Rq) (t u : Tr It) (w : World) : Prop := (t.list = L ∧ u.list = L.map (It.shift d)) ∧ TS w0 S q mb th rb S' q' mb' th' rb' b (IntKind.u64.wrap (b + d)) t u l (l.map (Rq.sh d)) w
def NS (w0 : World) (S q mb th rb S' q' mb' th' rb' : Nat) (d : Int) (w : World) : Prop := ∃ b t u l, u.list = t.list.map (It.shift d) ∧ TS w0 S q mb th rb S' q' mb' th' rb' b (IntKind.u64.wrap (b + d)) t u l (l.map (Rq.sh d)) w
theorem NS.of {w0 : World} {S q mb th rb S' q' mb' th' rb' : Nat} {b d : Int} {L : List It} {l : List Rq} {t u : Tr It} {w : World} (h : U2 w0 S q mb th rb S' q' mb' th' rb' b d L l t u w) : NS w0 S q mb th rb S' q' mb' th' rb' d w := ⟨b, t, u, l, by rw [h.1.1]; exact h.1.2, h.2⟩
theorem NS.new (c d : Int) (w : World) (S q mb th rb S' q' mb' th' rb' : Nat) (w1 w2 : World) (h : SAt w1 S q mb th rb c .nil []) (h0 : ∀ g ∈ S :: rb :: foot q mb th .nil, w.heap.size ≤ g) (hb : Below w.heap.size w w1) (h' : SAt w2 S' q' mb' th' rb' (IntKind.u64.wrap (c + d)) .nil []) (h1 : ∀ g ∈ S' :: rb' :: foot q' mb' th' .nil, w1.heap.size ≤ g) (hb' : Below w1.heap.size w1 w2) : NS w S q mb th rb S' q' mb' th' rb' d w2 :=
 ⟨c, .nil, .nil, [], rfl, TS.made h h0 hb h' h1 hb'⟩
end

end Go.Proofs.YtjchnkmolhgpmaaGreatDoor

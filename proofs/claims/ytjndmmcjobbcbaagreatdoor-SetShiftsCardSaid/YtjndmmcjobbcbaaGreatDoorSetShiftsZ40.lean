/- Texts of SetShifts's proof, together. -/
import Derived.Test.YtjndmmcjobbcbaaGreatDoorSeA
import Derived.Test.YtjndmmcjobbcbaaGreatDoorSetShiftsZ38
import Derived.Test.YtjndmmcjobbcbaaGreatDoorSetShiftsZ14
import Derived.Test.YtjndmmcjobbcbaaGreatDoorSetShiftsZ18
import Derived.Test.YtjndmmcjobbcbaaGreatDoorGr
import Derived.Test.YtjndmmcjobbcbaaGreatDoorSetShiftsZ30
namespace Go.Proofs.YtjndmmcjobbcbaaGreatDoor

section
open Go.RowKit
set_option maxRecDepth 100000
set_option maxHeartbeats 32000000
def SMp (w : World) (S q rb : Nat) (l : List Rq) : Prop := Cs w S [.pointer (some ⟨q, 0, none⟩), .map (some rb)] ∧ MpR w rb l
theorem SMp.below {w w' : World} {S q rb : Nat} {l : List Rq} (h : SMp w S q rb l) (hb : Below w.heap.size w w') : SMp w' S q rb l := ⟨h.1.below hb, h.2.below hb⟩
theorem SMp.at {w : World} {S q rb : Nat} {l : List Rq} (h : SMp w S q rb l) : w.cell? ⟨S, 0, none⟩ = some (.pointer (some ⟨q, 0, none⟩)) ∧ w.cell? ⟨S, 1, none⟩ = some (.map (some rb)) := ⟨(h.1 0 _ rfl).1, (h.1 1 _ rfl).1⟩
theorem SMp.chg {F : List Nat} {w w' : World} {S q rb : Nat} {l : List Rq} (h : SMp w S q rb l) (hc : Chg F w w') (hS : S ∉ F) (hb : rb ∉ F) : SMp w' S q rb l := ⟨h.1.chg hc hS, h.2.chg hc hb⟩
theorem Rq.new10 (w : World) (T : TypeId) (x : Rq) : Cs (w.alloc (.cells #[.int .u64 x.a.t, .int .u32 x.a.r, .int .u32 x.a.v, .int .i64 x.a.i, .int .u64 x.a.u, .int .u32 x.a.s, .int .u32 x.a.y, .int .u64 x.l, .int .u64 x.s, .bool x.z] T)) w.heap.size x.cells := Cs.alloc_new w T x.cells
theorem Set.find_yes (S q rb : Nat) (l : List Rq) (x : Rq) (hx : x ∈ l) (hi : x.In) (w : World) (h : SMp w S q rb l) : Calls Tryz.prog 92 #[(.pointer (some ⟨S, 0, none⟩)), .int .i64 x.a.i] w (Ans (.tuple #[x.val, .int .i64 0]) w) := by
 have ha := (Below.refl w.heap.size w).alloc (Nat.le_refl _) (.cells #[.int .u64 0, .int .u32 0, .int .u32 0, .int .i64 0, .int .u64 0, .int .u32 0, .int .u32 0, .int .u64 0, .int .u64 0, .bool false] 53);have HB0 := hid ha;have HQ0 := hid (h.below ha);have HZ : Hid (Cs (w.alloc (.cells #[.int .u64 0, .int .u32 0, .int .u32 0, .int .i64 0, .int .u64 0, .int .u32 0, .int .u32 0, .int .u64 0, .int .u64 0, .bool false] 53)) w.heap.size Rq.no.cells) := hid (Rq.new10 w 53 Rq.no);have hlk := HQ0.out.2.yes hx hi.1;clear ha h hx hi;unfold Rq.val at hlk;go_enter Tryz.func92, Tryz.ntmps92;go_upto_region 1 with fail;generalize (w.alloc (.cells #[.int .u64 0, .int .u32 0, .int .u32 0, .int .i64 0, .int .u64 0, .int .u32 0, .int .u32 0, .int .u64 0, .int .u64 0, .bool false] 53)) = W0 at HQ0 HB0 HZ hlk ⊢;obtain ⟨_, k5⟩ := HQ0.out.at;have HX : Hid (Cs (W0.alloc (.cells #[.int .u64 x.a.t, .int .u32 x.a.r, .int .u32 x.a.v, .int .i64 x.a.i, .int .u64 x.a.u, .int .u32 x.a.s, .int .u32 x.a.y, .int .u64 x.l, .int .u64 x.s, .bool x.z] 53)) W0.heap.size x.cells) := hid (Rq.new10 W0 53 x);have HZ1 := hid (HZ.out.alloc (.cells #[.int .u64 x.a.t, .int .u32 x.a.r, .int .u32 x.a.v, .int .i64 x.a.i, .int .u64 x.a.u, .int .u32 x.a.s, .int .u32 x.a.y, .int .u64 x.l, .int .u64 x.s, .bool x.z] 53));have HB1 := hid (HB0.out.alloc HB0.out.size (.cells #[.int .u64 x.a.t, .int .u32 x.a.r, .int .u32 x.a.v, .int .i64 x.a.i, .int .u64 x.a.u, .int .u32 x.a.s, .int .u32 x.a.y, .int .u64 x.l, .int .u64 x.s, .bool x.z] 53))
 go_upto_region 4 with fail;clear hlk k5 HQ0 HB0 HZ;generalize (W0.alloc (.cells #[.int .u64 x.a.t, .int .u32 x.a.r, .int .u32 x.a.v, .int .i64 x.a.i, .int .u64 x.a.u, .int .u32 x.a.s, .int .u32 x.a.y, .int .u64 x.l, .int .u64 x.s, .bool x.z] 53)) = W1 at HX HZ1 HB1 ⊢;generalize W0.heap.size = gx at HX ⊢;obtain ⟨x0, x1, x2, x3, x4, x5, x6, x7, x8, x9⟩ := Rq.at x HX.out;go_wp2_with (first | ((with_reducible refine pc 53 x.cells infoReq 4 23 w.heap.size _ HZ1.out ?qb1f); (intro W2 hW2); (have HY := hid (show Cs W2 w.heap.size x.cells ∧ Below w.heap.size w W2 by subst hW2; exact ⟨Cs.putL x.cells 0 HZ1.out (by simp [Rq.cells]), below_sets (Nat.le_refl _) _ _ HB1.out⟩)); (clear hW2); (clear x0 x1 x2 x3 x4 x5 x6 x7 x8 x9); (obtain ⟨z0, z1, z2, z3, z4, z5, z6, z7, z8, z9⟩ := Rq.at x HY.out.1)) | fail);refine bodyPost_ret (v := .tuple #[x.val, .int .i64 0]) (by simp [results, Tryz.results92, go_sem, z0, z1, z2, z3, z4, z5, z6, z7, z8, z9, Rq.val]) rfl ⟨rfl, HY.out.2⟩
theorem Set.find_no (S q rb : Nat) (l : List Rq) (i : Int) (hi : -9223372036854775808 ≤ i ∧ i ≤ 9223372036854775807) (hn : ∀ x ∈ l, x.a.i ≠ i) (w : World) (h : SMp w S q rb l) : Calls Tryz.prog 92 #[(.pointer (some ⟨S, 0, none⟩)), .int .i64 i] w (Ans (.tuple #[Rq.no.val, .int .i64 14]) w) := by
 have ha := (Below.refl w.heap.size w).alloc (Nat.le_refl _) (.cells #[.int .u64 0, .int .u32 0, .int .u32 0, .int .i64 0, .int .u64 0, .int .u32 0, .int .u32 0, .int .u64 0, .int .u64 0, .bool false] 53);have HB0 := hid ha;have HQ0 := hid (h.below ha);have HZ : Hid (Cs (w.alloc (.cells #[.int .u64 0, .int .u32 0, .int .u32 0, .int .i64 0, .int .u64 0, .int .u32 0, .int .u32 0, .int .u64 0, .int .u64 0, .bool false] 53)) w.heap.size Rq.no.cells) := hid (Rq.new10 w 53 Rq.no);have hlk := HQ0.out.2.no hi hn;clear ha h hn hi;unfold Rq.val at hlk;go_enter Tryz.func92, Tryz.ntmps92;go_upto_region 1 with fail;generalize (w.alloc (.cells #[.int .u64 0, .int .u32 0, .int .u32 0, .int .i64 0, .int .u64 0, .int .u32 0, .int .u32 0, .int .u64 0, .int .u64 0, .bool false] 53)) = W0 at HQ0 HB0 HZ hlk ⊢;obtain ⟨_, k5⟩ := HQ0.out.at;have HZ1 := hid (HZ.out.alloc (.cells #[.int .u64 0, .int .u32 0, .int .u32 0, .int .i64 0, .int .u64 0, .int .u32 0, .int .u32 0, .int .u64 0, .int .u64 0, .bool false] 53));have HB1 := hid (HB0.out.alloc HB0.out.size (.cells #[.int .u64 0, .int .u32 0, .int .u32 0, .int .i64 0, .int .u64 0, .int .u32 0, .int .u32 0, .int .u64 0, .int .u64 0, .bool false] 53));go_upto_region 4 with fail;clear hlk k5 HQ0 HB0 HZ;generalize (W0.alloc (.cells #[.int .u64 0, .int .u32 0, .int .u32 0, .int .i64 0, .int .u64 0, .int .u32 0, .int .u32 0, .int .u64 0, .int .u64 0, .bool false] 53)) = W1 at HZ1 HB1 ⊢;go_wp2_with (first | ((with_reducible refine pc 53 Rq.no.cells infoReq 4 22 w.heap.size _ HZ1.out ?qb2f); (intro W2 hW2); (have HY := hid (show Cs W2 w.heap.size Rq.no.cells ∧ Below w.heap.size w W2 by subst hW2; exact ⟨Cs.putL Rq.no.cells 0 HZ1.out (by simp [Rq.cells]), below_sets (Nat.le_refl _) _ _ HB1.out⟩)); (clear hW2); (clear HZ1); (obtain ⟨z0, z1, z2, z3, z4, z5, z6, z7, z8, z9⟩ := Rq.at Rq.no HY.out.1)) | fail)
 refine bodyPost_ret (v := .tuple #[Rq.no.val, .int .i64 14]) (by simp [results, Tryz.results92, go_sem, z0, z1, z2, z3, z4, z5, z6, z7, z8, z9, Rq.val]) rfl ⟨rfl, HY.out.2⟩
end


section
open Go.RowKit
set_option maxRecDepth 100000
set_option maxHeartbeats 32000000
def SAt (w : World) (S q mb th rb : Nat) (b : Int) (t : Tr It) (l : List Rq) : Prop :=
 (QAt w q mb th (qM b t.list) t ∧ SMp w S q rb l) ∧ ((Qok b t.list ∧ Tr.Whole t) ∧ ((l.map (·.a)).Perm t.list ∧ ∀ x ∈ l, x.In)) ∧ (S ∉ rb :: foot q mb th t ∧ rb ∉ foot q mb th t)
theorem SAt.below {w w' : World} {S q mb th rb : Nat} {b : Int} {t : Tr It} {l : List Rq} (h : SAt w S q mb th rb b t l) (hb : Below w.heap.size w w') : SAt w' S q mb th rb b t l := ⟨⟨h.1.1.below hb, h.1.2.below hb⟩, h.2⟩
theorem SAt.lt {w : World} {S q mb th rb : Nat} {b : Int} {t : Tr It} {l : List Rq} (h : SAt w S q mb th rb b t l) : S < w.heap.size ∧ rb < w.heap.size ∧ ∀ g ∈ foot q mb th t, g < w.heap.size := ⟨h.1.2.1.lt, h.1.2.2.lt, h.1.1.footlt⟩
theorem SAt.few {w : World} {S q mb th rb : Nat} {b : Int} {t : Tr It} {l : List Rq} (h : SAt w S q mb th rb b t l) : l.length ≤ 32 := by
 have := h.2.1.2.1.length_eq;simp only [List.length_map] at this;have := h.1.1.2.2.2.2;omega
theorem SAt.ids {w : World} {S q mb th rb : Nat} {b : Int} {t : Tr It} {l : List Rq} (h : SAt w S q mb th rb b t l) : (l.map (·.a.i)).Nodup := by
 have h1 := (h.2.1.2.1.map (·.i)).nodup_iff.2 h.2.1.1.1.ids
 rwa [List.map_map] at h1
def StS (S q mb th rb : Nat) (b' : Int) (L' : List It) (l' : List Rq) (t : Tr It) (w w' : World) : Prop := ∃ t', t'.list = L' ∧ SAt w' S q mb th rb b' t' l' ∧ (∀ g ∈ t'.blocks, g ∈ t.blocks ∨ w.heap.size ≤ g) ∧ Chg (rb :: foot q mb th t) w w'
theorem StS.same {w w' : World} {S q mb th rb : Nat} {b : Int} {t : Tr It} {l : List Rq} (h : SAt w S q mb th rb b t l) (hb : Below w.heap.size w w') : StS S q mb th rb b t.list l t w w' := ⟨t, rfl, h.below hb, fun g hg => Or.inl hg, Chg.below hb⟩
theorem SAt.step {w W w1 w2 : World} {S q mb th rb : Nat} {b b' : Int} {t : Tr It} {l l' : List Rq} {L' : List It} (h : SAt w S q mb th rb b t l) (hb : Below w.heap.size w W) (s : Stp q mb th b' L' t W w1) (hm : MpR w2 rb l') (hc : Chg [rb] w1 w2) (hp : (l'.map (·.a)).Perm L') (hi : ∀ x ∈ l', x.In) : StS S q mb th rb b' L' l' t w w2 := by
 obtain ⟨t', hl, hq, hk, hw, hbl, hch⟩ := s;have hS := h.lt.1;have hrb := h.lt.2.1;have hsz := hb.size;have nS : S ∉ foot q mb th t := fun e => h.2.2.1 (List.mem_cons_of_mem _ e)
 have nSr : S ≠ rb := fun e => h.2.2.1 (by simp [e])
 have f1 : ∀ g, g < w.heap.size → g ∉ foot q mb th t → g ∉ foot q mb th t' := fun g h1 h2 h3 => by
  rcases foot_old hbl g h3 with h4 | h4
  ·exact h2 h4
  ·omega
 have hm1 : SMp w1 S q rb l := (h.1.2.below hb).chg hch nS h.2.2.2;subst hl;refine ⟨t', rfl, ⟨⟨hq.away hc (fun g hg f a c e => ?_) (fun g hg e => ?_), hm1.1.chg hc (by simpa using nSr), hm⟩, ⟨⟨hk, hw⟩, hp, hi⟩, ?_, f1 _ hrb h.2.2.2⟩, fun g hg => ?_, ?_⟩
 ·simp only [List.mem_singleton] at hg;subst hg;rw [hm1.2.cell 0] at e;cases e
 ·simp only [List.mem_singleton] at e;subst e;exact f1 _ hrb h.2.2.2 hg
 ·intro e;rcases List.mem_cons.1 e with e | e
  ·exact nSr e
  ·exact f1 _ hS nS e
 ·rcases hbl g hg with h1 | h1
  ·exact Or.inl h1
  ·exact Or.inr (by omega)
 ·exact ((Chg.below (F := rb :: foot q mb th t) hb).trans hch (fun g hg => Or.inl (List.mem_cons_of_mem _ hg))).trans hc (fun g hg => Or.inl (by simp at hg; simp [hg]))
def lesR (i : Int) (l : List Rq) : List Rq := l.filter fun y => !(y.a.i == i)
theorem lesR_map (i : Int) (l : List Rq) : (lesR i l).map (·.a) = lesI i (l.map (·.a)) := by
 unfold lesR lesI;rw [List.filter_map];rfl
theorem lesR_sub {i : Int} {l : List Rq} : ∀ x ∈ lesR i l, x ∈ l ∧ x.a.i ≠ i := fun x hx => by
 have := List.mem_filter.1 hx;exact ⟨this.1, by simpa using this.2⟩
theorem lesR_no {i : Int} {l : List Rq} (h : ∀ x ∈ l, x.a.i ≠ i) : lesR i l = l := List.filter_eq_self.2 (fun y hy => by simpa using h y hy)
theorem lesR_perm {l : List Rq} (hn : (l.map (·.a.i)).Nodup) {x : Rq} (hx : x ∈ l) : l.Perm (x :: lesR x.a.i l) := by
 obtain ⟨A, B, rfl⟩ := List.append_of_mem hx;rw [List.map_append, List.map_cons] at hn;have h1 : ∀ y ∈ A, y.a.i ≠ x.a.i := fun y hy e => (List.nodup_append.1 hn).2.2 _ (List.mem_map_of_mem hy) _ (by simp) e
 have h2 : ∀ y ∈ B, y.a.i ≠ x.a.i := fun y hy e => (List.nodup_cons.1 (List.nodup_append.1 hn).2.1).1 (by rw [← e]; exact List.mem_map_of_mem (f := fun c : Rq => c.a.i) hy)
 have e : lesR x.a.i (A ++ x :: B) = A ++ B := by
  unfold lesR;have e1 := lesR_no h1;have e2 := lesR_no h2;unfold lesR at e1 e2;rw [List.filter_append, List.filter_cons_of_neg (by simp), e1, e2]
 rw [e];exact List.perm_middle
theorem SAt.mem {w : World} {S q mb th rb : Nat} {b : Int} {t : Tr It} {l : List Rq} (h : SAt w S q mb th rb b t l) (i : Int) : (∃ x ∈ l, x.a.i = i) ↔ ∃ x ∈ t.list, x.i = i := by
 constructor
 ·rintro ⟨x, hx, e⟩;exact ⟨x.a, h.2.1.2.1.mem_iff.1 (List.mem_map_of_mem (f := fun c : Rq => c.a) hx), e⟩
 ·rintro ⟨y, hy, e⟩;obtain ⟨x, hx, rfl⟩ := List.mem_map.1 (h.2.1.2.1.mem_iff.2 hy);exact ⟨x, hx, e⟩
def entC (b : Int) (L : List It) (r : Rq) : Int := if r.right = true then joinC b L r.a else 2
def entB (b : Int) (L : List It) (r : Rq) : Int := if entC b L r = 0 then joiB b L r.a else b
def entL (b : Int) (L : List It) (r : Rq) : List It := if entC b L r = 0 then joiL b L r.a else L
def entR (b : Int) (L : List It) (l : List Rq) (r : Rq) : List Rq := if entC b L r = 0 then r :: l else l
def putC (b : Int) (L : List It) (r : Rq) : Int := if r.right = true then chgC b L r.a else 2
def putB (b : Int) (L : List It) (r : Rq) : Int := if putC b L r = 0 then cngB b L r.a else b
def putL (b : Int) (L : List It) (r : Rq) : List It := if putC b L r = 0 then cngL b L r.a else L
def putR (b : Int) (L : List It) (l : List Rq) (r : Rq) : List Rq := if putC b L r = 0 then r :: lesR r.a.i l else l
theorem StS.on {S q mb th rb : Nat} {b' : Int} {L' : List It} {l' : List Rq} {t : Tr It} {w W w' : World} (h : StS S q mb th rb b' L' l' t W w') (hb : Below w.heap.size w W) : StS S q mb th rb b' L' l' t w w' := by
 obtain ⟨t', h1, h2, h3, h4⟩ := h;exact ⟨t', h1, h2, fun g hg => (h3 g hg).imp id (fun h => by have := hb.size; omega), (Chg.below (F := rb :: foot q mb th t) hb).trans h4 (fun g hg => Or.inl hg)⟩
theorem Stp.on {q mb th : Nat} {b' : Int} {l' : List It} {t : Tr It} {w W w' : World} (h : Stp q mb th b' l' t W w') (hb : Below w.heap.size w W) : Stp q mb th b' l' t w w' := by
 obtain ⟨t', h1, h2, h3, h4, h5, h6⟩ := h;exact ⟨t', h1, h2, h3, h4, fun g hg => (h5 g hg).imp id (fun h => by have := hb.size; omega), (Chg.below (F := foot q mb th t) hb).trans h6 (fun g hg => Or.inl hg)⟩
theorem Stp.off {q mb th : Nat} {b' : Int} {l' : List It} {t : Tr It} {w W w' : World} (h : Stp q mb th b' l' t w W) (hb : Below W.heap.size W w') : Stp q mb th b' l' t w w' := by
 obtain ⟨t', h1, h2, h3, h4, h5, h6⟩ := h;exact ⟨t', h1, h2.below hb, h3, h4, h5, h6.on hb⟩
theorem insI_perm' (x : It) (l : List It) : (insI x l).Perm (x :: l) := (insI_perm x l).symm.trans (List.perm_append_singleton x l)
theorem chgC_0 {b : Int} {l : List It} {a : It} (h : chgC b l a = 0) : ∃ x ∈ l, x.i = a.i := by
 unfold chgC at h;split at h
 ·cases h
 ·split at h
  ·cases h
  ·rename_i h2
   by_cases h3 : (l.any fun y => y.i == a.i) = true
   ·obtain ⟨x, hx, e⟩ := List.any_eq_true.1 h3;exact ⟨x, hx, by simpa using e⟩
   ·exact absurd (by simpa using h3) h2
theorem Set.takeEnter (S q mb th rb : Nat) (b : Int) (t : Tr It) (l : List Rq) (r : Rq) (hr : r.In) (gs gr : Nat) (w : World) (h : SAt w S q mb th rb b t l) (hgs : Cs w gs [.pointer (some ⟨S, 0, none⟩)]) (hgr : Cs w gr r.cells) : Calls Tryz.prog 101 #[.pointer (some ⟨gs, 0, none⟩), .pointer (some ⟨gr, 0, none⟩)] w (fun e w' => e = .returned (.int .i64 (joinC b t.list r.a)) ∧ Stp q mb th (joiB b t.list r.a) (joiL b t.list r.a) t w w') := by
 have HS0 : Hid ((SAt w S q mb th rb b t l ∧ Cs w gs [.pointer (some ⟨S, 0, none⟩)] ∧ Cs w gr r.cells) ∧ Below w.heap.size w w) := hid ⟨⟨h, hgs, hgr⟩, Below.refl _ _⟩;have HR := hid hr;clear h hr hgr hgs;go_enter Tryz.func101, Tryz.ntmps101;go_upto_region 1 with fail;have hsT1 : Stays (fun wx => (SAt wx S q mb th rb b t l ∧ Cs wx gs [.pointer (some ⟨S, 0, none⟩)] ∧ Cs wx gr r.cells) ∧ Below w.heap.size w wx) := fun _ _ h hb => ⟨⟨h.1.1.below hb, h.1.2.1.below hb, h.1.2.2.below hb⟩, below_on h.2 hb⟩
 refine wp_region_grow (S := fun wx => (SAt wx S q mb th rb b t l ∧ Cs wx gs [.pointer (some ⟨S, 0, none⟩)] ∧ Cs wx gr r.cells) ∧ Below w.heap.size w wx) 6 (by kernel_rfl) (hsT1 _ _ (HS0.out) (Below.refl _ _).drew) ?_;refine tE 0 (v := ?_) (hsT1) (fun _ h => h) rfl (by kernel_rfl) (by rfl) ?_ ?_;rotate_left
 ·intro wq hSw;have g0 := hSw.1.2.1.at0;obtain ⟨s0, s1⟩ := hSw.1.1.1.2.at;obtain ⟨r0, r1, r2, r3, r4, r5, r6, r7, r8, r9⟩ := Rq.at r hSw.1.2.2;go_simp; try with_reducible rfl
 try simp only [tdy]
 refine tF 1 (hsT1) (fun _ h => h) ?_;try simp only [tdy]
 refine tF 2 (hsT1) (fun _ h => h) ?_;try simp only [tdy]
 refine tE 3 (v := ?_) (hsT1) (fun _ h => h) rfl (by kernel_rfl) (by rfl) ?_ ?_;rotate_left
 ·intro wq hSw;have g0 := hSw.1.2.1.at0;obtain ⟨s0, s1⟩ := hSw.1.1.1.2.at;obtain ⟨r0, r1, r2, r3, r4, r5, r6, r7, r8, r9⟩ := Rq.at r hSw.1.2.2;go_simp; try with_reducible rfl
 try simp only [tdy]
 refine tF 4 (hsT1) (fun _ h => h) ?_;try simp only [tdy]
 refine tE 5 (v := ?_) (hsT1) (fun _ h => h) rfl (by kernel_rfl) (by rfl) ?_ ?_;rotate_left
 ·intro wq hSw;have g0 := hSw.1.2.1.at0;obtain ⟨s0, s1⟩ := hSw.1.1.1.2.at;obtain ⟨r0, r1, r2, r3, r4, r5, r6, r7, r8, r9⟩ := Rq.at r hSw.1.2.2;go_simp; try with_reducible rfl
 try simp only [tdy]
 refine wpAnyE_rest (n := 6) rfl rfl (by kernel_rfl) (fun wz hSz => ?_);simp only [List.toList_toArray, List.drop_succ_cons, List.drop_zero];have HZ := hid hSz;clear hSz HS0;go_wp2_with fail;refine (Step.join q mb th b t HZ.out.1.1.2.1.1.1 HZ.out.1.1.2.1.1.2 r.a HR.out.1 _ HZ.out.1.1.1.1).mono ?_;rintro e w1 ⟨rfl, hs⟩;have HS := hid (hs.on HZ.out.2);clear hs;go_wp2_with fail;go_ret
 exact ⟨rfl, HS.out⟩
theorem Set.takePut (S q mb th rb : Nat) (b : Int) (t : Tr It) (l : List Rq) (r : Rq) (hr : r.In) (gs gr : Nat) (w : World) (h : SAt w S q mb th rb b t l) (hgs : Cs w gs [.pointer (some ⟨S, 0, none⟩)]) (hgr : Cs w gr r.cells) : Calls Tryz.prog 96 #[.pointer (some ⟨gs, 0, none⟩), .pointer (some ⟨gr, 0, none⟩)] w (fun e w' => e = .returned (.int .i64 (chgC b t.list r.a)) ∧ Stp q mb th (cngB b t.list r.a) (cngL b t.list r.a) t w w') := by
 have HS0 : Hid ((SAt w S q mb th rb b t l ∧ Cs w gs [.pointer (some ⟨S, 0, none⟩)] ∧ Cs w gr r.cells) ∧ Below w.heap.size w w) := hid ⟨⟨h, hgs, hgr⟩, Below.refl _ _⟩;have HR := hid hr;clear h hr hgr hgs;go_enter Tryz.func96, Tryz.ntmps96;go_upto_region 1 with fail;have hsT1 : Stays (fun wx => (SAt wx S q mb th rb b t l ∧ Cs wx gs [.pointer (some ⟨S, 0, none⟩)] ∧ Cs wx gr r.cells) ∧ Below w.heap.size w wx) := fun _ _ h hb => ⟨⟨h.1.1.below hb, h.1.2.1.below hb, h.1.2.2.below hb⟩, below_on h.2 hb⟩
 refine wp_region_grow (S := fun wx => (SAt wx S q mb th rb b t l ∧ Cs wx gs [.pointer (some ⟨S, 0, none⟩)] ∧ Cs wx gr r.cells) ∧ Below w.heap.size w wx) 6 (by kernel_rfl) (hsT1 _ _ (HS0.out) (Below.refl _ _).drew) ?_;refine tE 0 (v := ?_) (hsT1) (fun _ h => h) rfl (by kernel_rfl) (by rfl) ?_ ?_;rotate_left
 ·intro wq hSw;have g0 := hSw.1.2.1.at0;obtain ⟨s0, s1⟩ := hSw.1.1.1.2.at;obtain ⟨r0, r1, r2, r3, r4, r5, r6, r7, r8, r9⟩ := Rq.at r hSw.1.2.2;go_simp; try with_reducible rfl
 try simp only [tdy]
 refine tF 1 (hsT1) (fun _ h => h) ?_;try simp only [tdy]
 refine tF 2 (hsT1) (fun _ h => h) ?_;try simp only [tdy]
 refine tE 3 (v := ?_) (hsT1) (fun _ h => h) rfl (by kernel_rfl) (by rfl) ?_ ?_;rotate_left
 ·intro wq hSw;have g0 := hSw.1.2.1.at0;obtain ⟨s0, s1⟩ := hSw.1.1.1.2.at;obtain ⟨r0, r1, r2, r3, r4, r5, r6, r7, r8, r9⟩ := Rq.at r hSw.1.2.2;go_simp; try with_reducible rfl
 try simp only [tdy]
 refine tF 4 (hsT1) (fun _ h => h) ?_;try simp only [tdy]
 refine tE 5 (v := ?_) (hsT1) (fun _ h => h) rfl (by kernel_rfl) (by rfl) ?_ ?_;rotate_left
 ·intro wq hSw;have g0 := hSw.1.2.1.at0;obtain ⟨s0, s1⟩ := hSw.1.1.1.2.at;obtain ⟨r0, r1, r2, r3, r4, r5, r6, r7, r8, r9⟩ := Rq.at r hSw.1.2.2;go_simp; try with_reducible rfl
 try simp only [tdy]
 refine wpAnyE_rest (n := 6) rfl rfl (by kernel_rfl) (fun wz hSz => ?_);simp only [List.toList_toArray, List.drop_succ_cons, List.drop_zero];have HZ := hid hSz;clear hSz HS0;go_wp2_with fail;refine (Step.change q mb th b t HZ.out.1.1.2.1.1.1 HZ.out.1.1.2.1.1.2 r.a HR.out.1 _ HZ.out.1.1.1.1).mono ?_;rintro e w1 ⟨rfl, hs⟩;have HS := hid (hs.on HZ.out.2);clear hs;go_wp2_with fail;go_ret
 exact ⟨rfl, HS.out⟩
theorem Set.layEnter (S q mb th rb : Nat) (b : Int) (t : Tr It) (l : List Rq) (r : Rq) (hr : r.In) (gs gr : Nat) (w : World) (h : SAt w S q mb th rb b t l) (hgs : Cs w gs [.pointer (some ⟨S, 0, none⟩)]) (hgr : Cs w gr r.cells) : Calls Tryz.prog 95 #[.pointer (some ⟨S, 0, none⟩), r.val, .func (.func 101) #[] #[.pointer (some ⟨gs, 0, none⟩), .pointer (some ⟨gr, 0, none⟩)]] w (fun e w' => e = .returned (.int .i64 (entC b t.list r)) ∧ StS S q mb th rb (entB b t.list r) (entL b t.list r) (entR b t.list l r) t w w') := by
 have ha := (Below.refl w.heap.size w).alloc (Nat.le_refl _) (.cells #[.int .u64 r.a.t, .int .u32 r.a.r, .int .u32 r.a.v, .int .i64 r.a.i, .int .u64 r.a.u, .int .u32 r.a.s, .int .u32 r.a.y, .int .u64 r.l, .int .u64 r.s, .bool r.z] 53);have HB0 := hid ha;have HX : Hid (Cs (w.alloc (.cells #[.int .u64 r.a.t, .int .u32 r.a.r, .int .u32 r.a.v, .int .i64 r.a.i, .int .u64 r.a.u, .int .u32 r.a.s, .int .u32 r.a.y, .int .u64 r.l, .int .u64 r.s, .bool r.z] 53)) w.heap.size r.cells) := hid (Rq.new10 w 53 r);have HH := hid h;have HGS := hid hgs;have HGR := hid hgr;have HR := hid hr;have HF : Hid (w.heap.size ∉ foot q mb th t) := hid (fun e => absurd (h.lt.2.2 _ e) (by omega));clear ha h hr hgr hgs;unfold Rq.val;go_enter Tryz.func95, Tryz.ntmps95;go_upto_region 1 with fail;generalize (w.alloc (.cells #[.int .u64 r.a.t, .int .u32 r.a.r, .int .u32 r.a.v, .int .i64 r.a.i, .int .u64 r.a.u, .int .u32 r.a.s, .int .u32 r.a.y, .int .u64 r.l, .int .u64 r.s, .bool r.z] 53)) = W0 at HB0 HX ⊢;obtain ⟨r0, r1, r2, r3, r4, r5, r6, r7, r8, r9⟩ := Rq.at r HX.out;go_wp2_with fail;refine (Req.right r HR.out _).mono ?_;rintro e w1 ⟨rfl, hb⟩;have HB1 := hid (below_on HB0.out hb);have HX1 := hid (HX.out.below hb);clear hb HB0 HX r0 r1 r2 r3 r4 r5 r6 r7 r8 r9;cases hri : r.right with
 | false =>
  have hc : entC b t.list r = 2 := by unfold entC; rw [hri]; rfl
  have HC := hid hc;clear hc hri;go_wp2_with fail;go_ret
  refine ⟨by rw [HC.out] <;> rfl, ?_⟩;unfold entB entL entR;rw [HC.out];exact StS.same HH.out HB1.out
 | true =>
  have hc : entC b t.list r = joinC b t.list r.a := by unfold entC; rw [hri]; rfl
  have HC := hid hc;clear hc hri;go_wp2_with fail;refine (Set.takeEnter S q mb th rb b t l r HR.out gs gr _ (HH.out.below HB1.out) (HGS.out.below HB1.out) (HGR.out.below HB1.out)).mono ?_;rintro e w2 ⟨rfl, hs⟩;have HS := hid hs;clear hs;by_cases h0 : joinC b t.list r.a = 0
  ·have HC0 := hid (HC.out.trans h0);have HX2 := hid (HX1.out.chg (F := foot q mb th t) (by obtain ⟨_, _, _, _, _, _, h⟩ := HS.out; exact h) HF.out);have HM2 := hid ((HH.out.1.2.below HB1.out).chg (F := foot q mb th t) (by obtain ⟨_, _, _, _, _, _, h⟩ := HS.out; exact h) (fun e => HH.out.2.2.1 (List.mem_cons_of_mem _ e)) HH.out.2.2.2);rw [h0];go_upto_region 8 with fail;have hsT1 : Stays (fun wx => (SMp wx S q rb l ∧ Cs wx w.heap.size r.cells) ∧ Below w2.heap.size w2 wx) := fun _ _ h hb => ⟨⟨h.1.1.below hb, h.1.2.below hb⟩, below_on h.2 hb⟩
   refine wp_region_grow (S := fun wx => (SMp wx S q rb l ∧ Cs wx w.heap.size r.cells) ∧ Below w2.heap.size w2 wx) 8 (by kernel_rfl) (hsT1 _ _ (⟨⟨HM2.out, HX2.out⟩, Below.refl _ _⟩) (Below.refl _ _).drew) ?_;refine tF 0 (hsT1) (fun _ h => h) ?_;try simp only [tdy]
   refine tF 1 (hsT1) (fun _ h => h) ?_;try simp only [tdy]
   refine tF 2 (hsT1) (fun _ h => h) ?_;try simp only [tdy]
   refine tE 3 (v := ?_) (hsT1) (fun _ h => h) rfl (by kernel_rfl) (by rfl) ?_ ?_;rotate_left
   ·intro wq hSw;obtain ⟨s0, s1⟩ := hSw.1.1.at;obtain ⟨r0, r1, r2, r3, r4, r5, r6, r7, r8, r9⟩ := Rq.at r hSw.1.2;go_simp; try with_reducible rfl
   try simp only [tdy]
   refine tF 4 (hsT1) (fun _ h => h) ?_;try simp only [tdy]
   refine tF 5 (hsT1) (fun _ h => h) ?_;try simp only [tdy]
   refine tE 6 (v := ?_) (hsT1) (fun _ h => h) rfl (by kernel_rfl) (by rfl) ?_ ?_;rotate_left
   ·intro wq hSw;obtain ⟨s0, s1⟩ := hSw.1.1.at;obtain ⟨r0, r1, r2, r3, r4, r5, r6, r7, r8, r9⟩ := Rq.at r hSw.1.2;go_simp; try with_reducible rfl
   try simp only [tdy]
   refine tE 7 (v := ?_) (hsT1) (fun _ h => h) rfl (by kernel_rfl) (by rfl) ?_ ?_;rotate_left
   ·intro wq hSw;obtain ⟨s0, s1⟩ := hSw.1.1.at;obtain ⟨r0, r1, r2, r3, r4, r5, r6, r7, r8, r9⟩ := Rq.at r hSw.1.2;go_simp; try with_reducible rfl
   try simp only [tdy]
   refine wpAnyE_last rfl rfl (by kernel_rfl) (fun wz hSz => ?_);have HZ := hid hSz;clear hSz;have hm3 := HZ.out.1.1.2;have hjc := joinC_0 h0;have hx : ∀ y ∈ l, y.a.i ≠ r.a.i := fun y hy e => by
    obtain ⟨z, hz, e2⟩ := (HH.out.mem r.a.i).1 ⟨y, hy, e⟩;exact hjc.2.1 z hz e2
   obtain ⟨w4, hrun, hm4, hc4⟩ := hm3.put HR.out.1 hx (by have := HH.out.few; omega);have HM4 := hid (HH.out.step HB1.out (HS.out.off HZ.out.2) hm4 hc4 (by
    rw [show joiL b t.list r.a = insI r.a t.list by unfold joiL; rw [if_pos h0]];exact ((HH.out.2.1.2.1.cons r.a).trans (insI_perm' r.a t.list).symm)) (fun x hx => by
    rcases List.mem_cons.1 hx with rfl | hx
    ·exact HR.out
    ·exact HH.out.2.1.2.2 x hx))
   clear hm3 hm4 hc4 hjc hx h0;unfold Rq.val at hrun;go_wp2_with fail;go_ret
   refine ⟨by rw [HC0.out] <;> rfl, ?_⟩;unfold entB entL entR;rw [if_pos HC0.out, if_pos HC0.out, if_pos HC0.out];exact HM4.out
  ·have HN := hid h0;have HC0 := hid (show ¬ entC b t.list r = 0 by rw [HC.out]; exact h0);have hS := HS.out;unfold joiB joiL at hS;rw [if_neg h0, if_neg h0] at hS;have HS2 := hid hS;clear hS HS;go_wp2_with fail;go_ret
   refine ⟨by rw [HC.out] <;> rfl, ?_⟩;unfold entB entL entR;rw [if_neg HC0.out, if_neg HC0.out, if_neg HC0.out];exact HH.out.step HB1.out HS2.out ((HH.out.1.2.below HB1.out).chg (F := foot q mb th t) (by obtain ⟨_, _, _, _, _, _, h⟩ := HS2.out; exact h) (fun e => HH.out.2.2.1 (List.mem_cons_of_mem _ e)) HH.out.2.2.2).2 (Chg.refl _ _) HH.out.2.1.2.1 HH.out.2.1.2.2
theorem Set.layPut (S q mb th rb : Nat) (b : Int) (t : Tr It) (l : List Rq) (r : Rq) (hr : r.In) (gs gr : Nat) (w : World) (h : SAt w S q mb th rb b t l) (hgs : Cs w gs [.pointer (some ⟨S, 0, none⟩)]) (hgr : Cs w gr r.cells) : Calls Tryz.prog 95 #[.pointer (some ⟨S, 0, none⟩), r.val, .func (.func 96) #[] #[.pointer (some ⟨gs, 0, none⟩), .pointer (some ⟨gr, 0, none⟩)]] w (fun e w' => e = .returned (.int .i64 (putC b t.list r)) ∧ StS S q mb th rb (putB b t.list r) (putL b t.list r) (putR b t.list l r) t w w') := by
 have ha := (Below.refl w.heap.size w).alloc (Nat.le_refl _) (.cells #[.int .u64 r.a.t, .int .u32 r.a.r, .int .u32 r.a.v, .int .i64 r.a.i, .int .u64 r.a.u, .int .u32 r.a.s, .int .u32 r.a.y, .int .u64 r.l, .int .u64 r.s, .bool r.z] 53);have HB0 := hid ha;have HX : Hid (Cs (w.alloc (.cells #[.int .u64 r.a.t, .int .u32 r.a.r, .int .u32 r.a.v, .int .i64 r.a.i, .int .u64 r.a.u, .int .u32 r.a.s, .int .u32 r.a.y, .int .u64 r.l, .int .u64 r.s, .bool r.z] 53)) w.heap.size r.cells) := hid (Rq.new10 w 53 r);have HH := hid h;have HGS := hid hgs;have HGR := hid hgr;have HR := hid hr;have HF : Hid (w.heap.size ∉ foot q mb th t) := hid (fun e => absurd (h.lt.2.2 _ e) (by omega));clear ha h hr hgr hgs;unfold Rq.val;go_enter Tryz.func95, Tryz.ntmps95;go_upto_region 1 with fail;generalize (w.alloc (.cells #[.int .u64 r.a.t, .int .u32 r.a.r, .int .u32 r.a.v, .int .i64 r.a.i, .int .u64 r.a.u, .int .u32 r.a.s, .int .u32 r.a.y, .int .u64 r.l, .int .u64 r.s, .bool r.z] 53)) = W0 at HB0 HX ⊢;obtain ⟨r0, r1, r2, r3, r4, r5, r6, r7, r8, r9⟩ := Rq.at r HX.out;go_wp2_with fail;refine (Req.right r HR.out _).mono ?_;rintro e w1 ⟨rfl, hb⟩;have HB1 := hid (below_on HB0.out hb);have HX1 := hid (HX.out.below hb);clear hb HB0 HX r0 r1 r2 r3 r4 r5 r6 r7 r8 r9;cases hri : r.right with
 | false =>
  have hc : putC b t.list r = 2 := by unfold putC; rw [hri]; rfl
  have HC := hid hc;clear hc hri;go_wp2_with fail;go_ret
  refine ⟨by rw [HC.out] <;> rfl, ?_⟩;unfold putB putL putR;rw [HC.out];exact StS.same HH.out HB1.out
 | true =>
  have hc : putC b t.list r = chgC b t.list r.a := by unfold putC; rw [hri]; rfl
  have HC := hid hc;clear hc hri;go_wp2_with fail;refine (Set.takePut S q mb th rb b t l r HR.out gs gr _ (HH.out.below HB1.out) (HGS.out.below HB1.out) (HGR.out.below HB1.out)).mono ?_;rintro e w2 ⟨rfl, hs⟩;have HS := hid hs;clear hs;by_cases h0 : chgC b t.list r.a = 0
  ·have HC0 := hid (HC.out.trans h0);have HX2 := hid (HX1.out.chg (F := foot q mb th t) (by obtain ⟨_, _, _, _, _, _, h⟩ := HS.out; exact h) HF.out);have HM2 := hid ((HH.out.1.2.below HB1.out).chg (F := foot q mb th t) (by obtain ⟨_, _, _, _, _, _, h⟩ := HS.out; exact h) (fun e => HH.out.2.2.1 (List.mem_cons_of_mem _ e)) HH.out.2.2.2);rw [h0];go_upto_region 8 with fail;have hsT1 : Stays (fun wx => (SMp wx S q rb l ∧ Cs wx w.heap.size r.cells) ∧ Below w2.heap.size w2 wx) := fun _ _ h hb => ⟨⟨h.1.1.below hb, h.1.2.below hb⟩, below_on h.2 hb⟩
   refine wp_region_grow (S := fun wx => (SMp wx S q rb l ∧ Cs wx w.heap.size r.cells) ∧ Below w2.heap.size w2 wx) 8 (by kernel_rfl) (hsT1 _ _ (⟨⟨HM2.out, HX2.out⟩, Below.refl _ _⟩) (Below.refl _ _).drew) ?_;refine tF 0 (hsT1) (fun _ h => h) ?_;try simp only [tdy]
   refine tF 1 (hsT1) (fun _ h => h) ?_;try simp only [tdy]
   refine tF 2 (hsT1) (fun _ h => h) ?_;try simp only [tdy]
   refine tE 3 (v := ?_) (hsT1) (fun _ h => h) rfl (by kernel_rfl) (by rfl) ?_ ?_;rotate_left
   ·intro wq hSw;obtain ⟨s0, s1⟩ := hSw.1.1.at;obtain ⟨r0, r1, r2, r3, r4, r5, r6, r7, r8, r9⟩ := Rq.at r hSw.1.2;go_simp; try with_reducible rfl
   try simp only [tdy]
   refine tF 4 (hsT1) (fun _ h => h) ?_;try simp only [tdy]
   refine tF 5 (hsT1) (fun _ h => h) ?_;try simp only [tdy]
   refine tE 6 (v := ?_) (hsT1) (fun _ h => h) rfl (by kernel_rfl) (by rfl) ?_ ?_;rotate_left
   ·intro wq hSw;obtain ⟨s0, s1⟩ := hSw.1.1.at;obtain ⟨r0, r1, r2, r3, r4, r5, r6, r7, r8, r9⟩ := Rq.at r hSw.1.2;go_simp; try with_reducible rfl
   try simp only [tdy]
   refine tE 7 (v := ?_) (hsT1) (fun _ h => h) rfl (by kernel_rfl) (by rfl) ?_ ?_;rotate_left
   ·intro wq hSw;obtain ⟨s0, s1⟩ := hSw.1.1.at;obtain ⟨r0, r1, r2, r3, r4, r5, r6, r7, r8, r9⟩ := Rq.at r hSw.1.2;go_simp; try with_reducible rfl
   try simp only [tdy]
   refine wpAnyE_last rfl rfl (by kernel_rfl) (fun wz hSz => ?_);have HZ := hid hSz;clear hSz;have hm3 := HZ.out.1.1.2;obtain ⟨y, hy, hyi⟩ := (HH.out.mem r.a.i).2 (chgC_0 h0);have hpp := lesR_perm HH.out.ids hy;rw [hyi] at hpp;obtain ⟨w4, hrun, hm4, hc4⟩ := hm3.set HR.out.1 hpp hyi (fun z hz => (lesR_sub z hz).2) (by have := HH.out.few; omega);have HM4 := hid (HH.out.step HB1.out (HS.out.off HZ.out.2) hm4 hc4 (by
    rw [show cngL b t.list r.a = insI r.a (restI t.list r.a) by unfold cngL; rw [if_pos h0]];refine List.Perm.trans ?_ (insI_perm' r.a _).symm;rw [List.map_cons, lesR_map];exact (HH.out.2.1.2.1.filter _).cons r.a) (fun x hx => by
    rcases List.mem_cons.1 hx with rfl | hx
    ·exact HR.out
    ·exact HH.out.2.1.2.2 x (lesR_sub x hx).1))
   clear hm3 hm4 hc4 hpp hyi hy y h0;unfold Rq.val at hrun;go_wp2_with fail;go_ret
   refine ⟨by rw [HC0.out] <;> rfl, ?_⟩;unfold putB putL putR;rw [if_pos HC0.out, if_pos HC0.out, if_pos HC0.out];exact HM4.out
  ·have HN := hid h0;have HC0 := hid (show ¬ putC b t.list r = 0 by rw [HC.out]; exact h0);have hS := HS.out;unfold cngB cngL at hS;rw [if_neg h0, if_neg h0] at hS;have HS2 := hid hS;clear hS HS;go_wp2_with fail;go_ret
   refine ⟨by rw [HC.out] <;> rfl, ?_⟩;unfold putB putL putR;rw [if_neg HC0.out, if_neg HC0.out, if_neg HC0.out];exact HH.out.step HB1.out HS2.out ((HH.out.1.2.below HB1.out).chg (F := foot q mb th t) (by obtain ⟨_, _, _, _, _, _, h⟩ := HS2.out; exact h) (fun e => HH.out.2.2.1 (List.mem_cons_of_mem _ e)) HH.out.2.2.2).2 (Chg.refl _ _) HH.out.2.1.2.1 HH.out.2.1.2.2
theorem Set.enter (S q mb th rb : Nat) (b : Int) (t : Tr It) (l : List Rq) (r : Rq) (hr : r.In) (w : World) (h : SAt w S q mb th rb b t l) : Calls Tryz.prog 54 #[.pointer (some ⟨S, 0, none⟩), r.val] w (fun e w' => e = .returned (.int .i64 (entC b t.list r)) ∧ StS S q mb th rb (entB b t.list r) (entL b t.list r) (entR b t.list l r) t w w') := by
 have hb0 := (Below.refl w.heap.size w).alloc (Nat.le_refl _) (.cells #[.pointer (some ⟨S, 0, none⟩)] 91);have hb1 := hb0.alloc (by simp) (.cells #[.int .u64 r.a.t, .int .u32 r.a.r, .int .u32 r.a.v, .int .i64 r.a.i, .int .u64 r.a.u, .int .u32 r.a.s, .int .u32 r.a.y, .int .u64 r.l, .int .u64 r.s, .bool r.z] 53);have hx := Rq.new10 (w.alloc (.cells #[.pointer (some ⟨S, 0, none⟩)] 91)) 53 r;have HV : Hid ((Cs ((w.alloc (.cells #[.pointer (some ⟨S, 0, none⟩)] 91)).alloc (.cells #[.int .u64 r.a.t, .int .u32 r.a.r, .int .u32 r.a.v, .int .i64 r.a.i, .int .u64 r.a.u, .int .u32 r.a.s, .int .u32 r.a.y, .int .u64 r.l, .int .u64 r.s, .bool r.z] 53)) w.heap.size [.pointer (some ⟨S, 0, none⟩)] ∧ Cs ((w.alloc (.cells #[.pointer (some ⟨S, 0, none⟩)] 91)).alloc (.cells #[.int .u64 r.a.t, .int .u32 r.a.r, .int .u32 r.a.v, .int .i64 r.a.i, .int .u64 r.a.u, .int .u32 r.a.s, .int .u32 r.a.y, .int .u64 r.l, .int .u64 r.s, .bool r.z] 53)) (w.heap.size + 1) r.cells) ∧ Below w.heap.size w ((w.alloc (.cells #[.pointer (some ⟨S, 0, none⟩)] 91)).alloc (.cells #[.int .u64 r.a.t, .int .u32 r.a.r, .int .u32 r.a.v, .int .i64 r.a.i, .int .u64 r.a.u, .int .u32 r.a.s, .int .u32 r.a.y, .int .u64 r.l, .int .u64 r.s, .bool r.z] 53))) := hid ⟨⟨(Cs.alloc_new w 91 [.pointer (some ⟨S, 0, none⟩)]).alloc _, by simpa using hx⟩, hb1⟩;have HH := hid h;have HR := hid hr;clear hb0 hb1 hx h hr;unfold Rq.val;go_enter Tryz.func54, Tryz.ntmps54;go_upto_region 1 with fail;generalize ((w.alloc (.cells #[.pointer (some ⟨S, 0, none⟩)] 91)).alloc (.cells #[.int .u64 r.a.t, .int .u32 r.a.r, .int .u32 r.a.v, .int .i64 r.a.i, .int .u64 r.a.u, .int .u32 r.a.s, .int .u32 r.a.y, .int .u64 r.l, .int .u64 r.s, .bool r.z] 53)) = W0 at HV ⊢
 have s0 := HV.out.1.1.at0;obtain ⟨r0, r1, r2, r3, r4, r5, r6, r7, r8, r9⟩ := Rq.at r HV.out.1.2;go_wp2_with fail;refine (Set.layEnter S q mb th rb b t l r HR.out _ _ _ (HH.out.below HV.out.2) HV.out.1.1 HV.out.1.2).mono ?_;rintro e w1 ⟨rfl, hs⟩;have HS := hid (hs.on HV.out.2);clear hs s0 r0 r1 r2 r3 r4 r5 r6 r7 r8 r9;go_wp2_with fail;go_ret
 exact ⟨rfl, HS.out⟩
theorem Set.put (S q mb th rb : Nat) (b : Int) (t : Tr It) (l : List Rq) (r : Rq) (hr : r.In) (w : World) (h : SAt w S q mb th rb b t l) : Calls Tryz.prog 49 #[.pointer (some ⟨S, 0, none⟩), r.val] w (fun e w' => e = .returned (.int .i64 (putC b t.list r)) ∧ StS S q mb th rb (putB b t.list r) (putL b t.list r) (putR b t.list l r) t w w') := by
 have hb0 := (Below.refl w.heap.size w).alloc (Nat.le_refl _) (.cells #[.pointer (some ⟨S, 0, none⟩)] 91);have hb1 := hb0.alloc (by simp) (.cells #[.int .u64 r.a.t, .int .u32 r.a.r, .int .u32 r.a.v, .int .i64 r.a.i, .int .u64 r.a.u, .int .u32 r.a.s, .int .u32 r.a.y, .int .u64 r.l, .int .u64 r.s, .bool r.z] 53);have hx := Rq.new10 (w.alloc (.cells #[.pointer (some ⟨S, 0, none⟩)] 91)) 53 r;have HV : Hid ((Cs ((w.alloc (.cells #[.pointer (some ⟨S, 0, none⟩)] 91)).alloc (.cells #[.int .u64 r.a.t, .int .u32 r.a.r, .int .u32 r.a.v, .int .i64 r.a.i, .int .u64 r.a.u, .int .u32 r.a.s, .int .u32 r.a.y, .int .u64 r.l, .int .u64 r.s, .bool r.z] 53)) w.heap.size [.pointer (some ⟨S, 0, none⟩)] ∧ Cs ((w.alloc (.cells #[.pointer (some ⟨S, 0, none⟩)] 91)).alloc (.cells #[.int .u64 r.a.t, .int .u32 r.a.r, .int .u32 r.a.v, .int .i64 r.a.i, .int .u64 r.a.u, .int .u32 r.a.s, .int .u32 r.a.y, .int .u64 r.l, .int .u64 r.s, .bool r.z] 53)) (w.heap.size + 1) r.cells) ∧ Below w.heap.size w ((w.alloc (.cells #[.pointer (some ⟨S, 0, none⟩)] 91)).alloc (.cells #[.int .u64 r.a.t, .int .u32 r.a.r, .int .u32 r.a.v, .int .i64 r.a.i, .int .u64 r.a.u, .int .u32 r.a.s, .int .u32 r.a.y, .int .u64 r.l, .int .u64 r.s, .bool r.z] 53))) := hid ⟨⟨(Cs.alloc_new w 91 [.pointer (some ⟨S, 0, none⟩)]).alloc _, by simpa using hx⟩, hb1⟩;have HH := hid h;have HR := hid hr;clear hb0 hb1 hx h hr;unfold Rq.val;go_enter Tryz.func49, Tryz.ntmps49;go_upto_region 1 with fail;generalize ((w.alloc (.cells #[.pointer (some ⟨S, 0, none⟩)] 91)).alloc (.cells #[.int .u64 r.a.t, .int .u32 r.a.r, .int .u32 r.a.v, .int .i64 r.a.i, .int .u64 r.a.u, .int .u32 r.a.s, .int .u32 r.a.y, .int .u64 r.l, .int .u64 r.s, .bool r.z] 53)) = W0 at HV ⊢
 have s0 := HV.out.1.1.at0;obtain ⟨r0, r1, r2, r3, r4, r5, r6, r7, r8, r9⟩ := Rq.at r HV.out.1.2;go_wp2_with fail;refine (Set.layPut S q mb th rb b t l r HR.out _ _ _ (HH.out.below HV.out.2) HV.out.1.1 HV.out.1.2).mono ?_;rintro e w1 ⟨rfl, hs⟩;have HS := hid (hs.on HV.out.2);clear hs s0 r0 r1 r2 r3 r4 r5 r6 r7 r8 r9;go_wp2_with fail;go_ret
 exact ⟨rfl, HS.out⟩
end


section
open Go.RowKit
set_option maxRecDepth 100000
set_option maxHeartbeats 32000000
theorem SAt.away {F : List Nat} {w w' : World} {S q mb th rb : Nat} {b : Int} {t : Tr It} {l : List Rq} (h : SAt w S q mb th rb b t l) (hc : Chg F w w') (hF : ∀ g ∈ F, ∀ f a c, w.cell? ⟨g, 0, none⟩ ≠ some (.func f a c)) (hd : ∀ g ∈ S :: rb :: foot q mb th t, g ∉ F) : SAt w' S q mb th rb b t l :=
 ⟨⟨h.1.1.away hc hF (fun g hg => hd g (by simp [hg])), h.1.2.chg hc (hd S (by simp)) (hd rb (by simp))⟩, h.2⟩
theorem StS.away {z : Nat} {w W W4 W5 : World} {S q mb th rb : Nat} {b b' : Int} {t : Tr It} {l l' : List Rq} {L' : List It} (h0 : SAt w S q mb th rb b t l) (h : StS S q mb th rb b' L' l' t W W4) (hb : Below w.heap.size w W) (hc : Chg [z] W4 W5) (hz1 : w.heap.size ≤ z) (hz2 : z < W.heap.size) (hcell : ∀ f a c, W4.cell? ⟨z, 0, none⟩ ≠ some (.func f a c)) : StS S q mb th rb b' L' l' t w W5 := by
 obtain ⟨t', h1, h2, h3, h4⟩ := h;have hlt := h0.lt;refine ⟨t', h1, h2.away hc (fun g hg => by simp at hg; subst hg; exact hcell) (fun g hg e => ?_), fun g hg => (h3 g hg).imp id (fun h => by have := hb.size; omega), ((Chg.below (F := rb :: foot q mb th t) hb).trans h4 (fun g hg => Or.inl hg)).trans hc (fun g hg => by simp at hg; subst hg; exact Or.inr hz1)⟩;simp only [List.mem_singleton] at e;subst e;rcases List.mem_cons.1 hg with rfl | hg
 ·omega
 ·rcases List.mem_cons.1 hg with rfl | hg
  ·omega
  ·rcases foot_old h3 g hg with h5 | h5
   ·have := hlt.2.2 _ h5; omega
   ·omega
theorem Set.new (c : Int) (hc : IsT c) (w : World) : Calls Tryz.prog 46 #[.int .u64 c] w (fun e w' => ∃ S q mb th rb, e = .returned (.pointer (some ⟨S, 0, none⟩)) ∧ SAt w' S q mb th rb c .nil [] ∧ (∀ g ∈ S :: rb :: foot q mb th .nil, w.heap.size ≤ g) ∧ Below w.heap.size w w') := by
 have hmm := @run_makeMap Tryz.prog;have HC := hid hc;clear hc;go_enter Tryz.func46, Tryz.ntmps46;go_wp2_with fail;refine (Queue.new c HC.out _).mono ?_;rintro e w1 ⟨q, mb, th, rfl, hq, hf, hb⟩;have HF : Hid (SAt ((w1.alloc (.map #[] 0)).alloc (.cells #[.pointer (some ⟨q, 0, none⟩), .map (some w1.heap.size)] 117)) (w1.heap.size + 1) q mb th w1.heap.size c .nil [] ∧ (∀ g ∈ (w1.heap.size + 1) :: w1.heap.size :: foot q mb th .nil, w.heap.size ≤ g) ∧ Below w.heap.size w ((w1.alloc (.map #[] 0)).alloc (.cells #[.pointer (some ⟨q, 0, none⟩), .map (some w1.heap.size)] 117))) := hid (by
  have h0 := (Below.refl w1.heap.size w1).alloc (Nat.le_refl _) (.map #[] 0);have h1 := (Below.refl (w1.alloc (.map #[] 0)).heap.size (w1.alloc (.map #[] 0))).alloc (Nat.le_refl _) (.cells #[.pointer (some ⟨q, 0, none⟩), .map (some w1.heap.size)] 117);have hs := Cs.alloc_new (w1.alloc (.map #[] 0)) 117 [.pointer (some ⟨q, 0, none⟩), .map (some w1.heap.size)];simp only [World.size_alloc] at hs;have e : (⟨c, 0, 0, 0⟩ : Mu) = qM c (Tr.nil : Tr It).list := by simp [qM, Mu.sums, sumD, sumW, Tr.list]
  rw [e] at hq;have hlt := hq.footlt;have hsz := hb.size;refine ⟨⟨⟨(hq.below h0).below h1, hs, (MpR.made w1).below h1⟩, ⟨⟨Qok.nil HC.out, Tr.Whole.nil⟩, by simp [Tr.list], by simp⟩, ?_, fun h => absurd (hlt _ h) (by omega)⟩, ?_, below_on (below_on hb h0) h1⟩
  ·intro h;rcases List.mem_cons.1 h with h | h
   ·omega
   ·exact absurd (hlt _ h) (by omega)
  ·intro g hg;rcases List.mem_cons.1 hg with rfl | hg
   ·omega
   ·rcases List.mem_cons.1 hg with rfl | hg
    ·omega
    ·exact hf g hg)
 clear hq hf hb;go_wp2_with fail;go_ret
 exact ⟨_, _, _, _, _, rfl, HF.out⟩
theorem Set.exit_yes (S q mb th rb : Nat) (b : Int) (t : Tr It) (l : List Rq) (x : Rq) (hx : x ∈ l) (w : World) (h : SAt w S q mb th rb b t l) : Calls Tryz.prog 47 #[.pointer (some ⟨S, 0, none⟩), .int .i64 x.a.i] w (fun e w' => e = .returned (.tuple #[x.val, .int .i64 0]) ∧ StS S q mb th rb (leaB x.a.i b t.list) (lesI x.a.i t.list) (lesR x.a.i l) t w w') := by
 have HH := hid h;have HX := hid hx;have HXI := hid (h.2.1.2.2 x hx);have hal := (Below.refl w.heap.size w).alloc (Nat.le_refl _) (.cells #[.int .u64 0, .int .u32 0, .int .u32 0, .int .i64 0, .int .u64 0, .int .u32 0, .int .u32 0, .int .u64 0, .int .u64 0, .bool false] 53);have HB0 := hid hal;have HZ : Hid (Cs (w.alloc (.cells #[.int .u64 0, .int .u32 0, .int .u32 0, .int .i64 0, .int .u64 0, .int .u32 0, .int .u32 0, .int .u64 0, .int .u64 0, .bool false] 53)) w.heap.size Rq.no.cells) := hid (Rq.new10 w 53 Rq.no);clear h hal hx;go_enter Tryz.func47, Tryz.ntmps47;go_upto_region 1 with fail;generalize (w.alloc (.cells #[.int .u64 0, .int .u32 0, .int .u32 0, .int .i64 0, .int .u64 0, .int .u32 0, .int .u32 0, .int .u64 0, .int .u64 0, .bool false] 53)) = W0 at HB0 HZ ⊢;go_wp2_with fail;refine (Set.find_yes S q rb l x HX.out HXI.out _ (HH.out.1.2.below HB0.out)).mono ?_;rintro e w1 ⟨rfl, hb⟩;have ha := (Below.refl w1.heap.size w1).alloc (Nat.le_refl _) (.cells #[.int .u64 x.a.t, .int .u32 x.a.r, .int .u32 x.a.v, .int .i64 x.a.i, .int .u64 x.a.u, .int .u32 x.a.s, .int .u32 x.a.y, .int .u64 x.l, .int .u64 x.s, .bool x.z] 53);have HX1 : Hid (Cs (w1.alloc (.cells #[.int .u64 x.a.t, .int .u32 x.a.r, .int .u32 x.a.v, .int .i64 x.a.i, .int .u64 x.a.u, .int .u32 x.a.s, .int .u32 x.a.y, .int .u64 x.l, .int .u64 x.s, .bool x.z] 53)) w1.heap.size x.cells) := hid (Rq.new10 w1 53 x);have HZ1 := hid ((HZ.out.below hb).below ha);have HB1 := hid (below_on (below_on HB0.out hb) ha);have HGX : Hid (w.heap.size < w1.heap.size) := hid (HZ.out.below hb).lt
 have HLT : Hid (w.heap.size < (w1.alloc (.cells #[.int .u64 x.a.t, .int .u32 x.a.r, .int .u32 x.a.v, .int .i64 x.a.i, .int .u64 x.a.u, .int .u32 x.a.s, .int .u32 x.a.y, .int .u64 x.l, .int .u64 x.s, .bool x.z] 53)).heap.size) := hid HZ1.out.lt;clear hb ha HB0 HZ;unfold Rq.val;go_upto_region 2 with fail;generalize (w1.alloc (.cells #[.int .u64 x.a.t, .int .u32 x.a.r, .int .u32 x.a.v, .int .i64 x.a.i, .int .u64 x.a.u, .int .u32 x.a.s, .int .u32 x.a.y, .int .u64 x.l, .int .u64 x.s, .bool x.z] 53)) = W1 at HX1 HZ1 HB1 HLT ⊢;generalize w1.heap.size = gx at HX1 HGX ⊢;obtain ⟨s0, s1⟩ := (HH.out.1.2.below HB1.out).at;go_wp2_with fail;refine (Step.leave q mb th b t HH.out.2.1.1.1 HH.out.2.1.1.2 x.a.i HXI.out.1.2.2.2.1 _ (HH.out.1.1.below HB1.out)).mono ?_;rintro e w2 ⟨⟨y, rfl⟩, hs⟩;have HS := hid hs;clear hs s0 s1;have HCH : Hid (Chg (foot q mb th t) W1 w2) := hid (by obtain ⟨_, _, _, _, _, _, h⟩ := HS.out; exact h);have HX2 := hid (HX1.out.chg HCH.out (fun e => absurd (HH.out.lt.2.2 _ e) (by have := HGX.out; omega)));have HZ2 := hid (HZ1.out.chg HCH.out (fun e => absurd (HH.out.lt.2.2 _ e) (by omega)));have HM2 := hid ((HH.out.1.2.below HB1.out).chg HCH.out (fun e => HH.out.2.2.1 (List.mem_cons_of_mem _ e)) HH.out.2.2.2);obtain ⟨s0, s1⟩ := HM2.out.at;obtain ⟨w4, hrun, hm4, hc4⟩ := HM2.out.2.del HXI.out.1 (lesR_perm HH.out.ids HX.out) (fun z hz => (lesR_sub z hz).2) 0;have HM4 := hid ((HH.out.below HB1.out).step (Below.refl _ _) HS.out hm4 hc4 (by
  rw [lesR_map];exact HH.out.2.1.2.1.filter _) (fun z hz => HH.out.2.1.2.2 z (lesR_sub z hz).1))
 have HX4 := hid (HX2.out.chg hc4 (by have := HH.out.lt.2.1; have := HGX.out; simp; omega));have HZ4 := hid (HZ2.out.chg hc4 (by have := HH.out.lt.2.1; simp; omega));clear hm4 hc4;go_upto_region 6 with fail;clear hrun s0 s1 HX1 HZ1 HX2 HZ2 HM2 HS HCH;obtain ⟨x0, x1, x2, x3, x4, x5, x6, x7, x8, x9⟩ := Rq.at x HX4.out;go_wp2_with (first | ((with_reducible refine pc 53 x.cells infoReq 4 29 w.heap.size _ HZ4.out ?qd1f); (intro W5 hW5); (have HY := hid (show Cs W5 w.heap.size x.cells ∧ Chg [w.heap.size] w4 W5 by subst hW5; exact ⟨Cs.putL x.cells 0 HZ4.out (by simp [Rq.cells]), Chg.sets _ _ (Chg.refl _ _) (Or.inl (by simp))⟩)); (clear hW5 x0 x1 x2 x3 x4 x5 x6 x7 x8 x9); (obtain ⟨z0, z1, z2, z3, z4, z5, z6, z7, z8, z9⟩ := Rq.at x HY.out.1)) | fail);refine bodyPost_ret (v := .tuple #[x.val, .int .i64 0]) (by simp [results, Tryz.results47, go_sem, z0, z1, z2, z3, z4, z5, z6, z7, z8, z9, Rq.val]) rfl ⟨rfl, StS.away HH.out HM4.out HB1.out HY.out.2 (Nat.le_refl _) HLT.out (fun f a c e => ?_)⟩;have := HZ4.out.at0;rw [this] at e;cases e
theorem Set.exit_no (S q mb th rb : Nat) (b : Int) (t : Tr It) (l : List Rq) (i : Int) (hi : -9223372036854775808 ≤ i ∧ i ≤ 9223372036854775807) (hn : ∀ x ∈ l, x.a.i ≠ i) (w : World) (h : SAt w S q mb th rb b t l) : Calls Tryz.prog 47 #[.pointer (some ⟨S, 0, none⟩), .int .i64 i] w (Ans (.tuple #[Rq.no.val, .int .i64 14]) w) := by
 have HH := hid h;have HI := hid hi;have HN := hid hn;have hal := (Below.refl w.heap.size w).alloc (Nat.le_refl _) (.cells #[.int .u64 0, .int .u32 0, .int .u32 0, .int .i64 0, .int .u64 0, .int .u32 0, .int .u32 0, .int .u64 0, .int .u64 0, .bool false] 53);have HB0 := hid hal;have HZ : Hid (Cs (w.alloc (.cells #[.int .u64 0, .int .u32 0, .int .u32 0, .int .i64 0, .int .u64 0, .int .u32 0, .int .u32 0, .int .u64 0, .int .u64 0, .bool false] 53)) w.heap.size Rq.no.cells) := hid (Rq.new10 w 53 Rq.no);clear h hal hi hn;go_enter Tryz.func47, Tryz.ntmps47;go_upto_region 1 with fail;generalize (w.alloc (.cells #[.int .u64 0, .int .u32 0, .int .u32 0, .int .i64 0, .int .u64 0, .int .u32 0, .int .u32 0, .int .u64 0, .int .u64 0, .bool false] 53)) = W0 at HB0 HZ ⊢;go_wp2_with fail;refine (Set.find_no S q rb l i HI.out HN.out _ (HH.out.1.2.below HB0.out)).mono ?_;rintro e w1 ⟨rfl, hb⟩;have ha := (Below.refl w1.heap.size w1).alloc (Nat.le_refl _) (.cells #[.int .u64 0, .int .u32 0, .int .u32 0, .int .i64 0, .int .u64 0, .int .u32 0, .int .u32 0, .int .u64 0, .int .u64 0, .bool false] 53);have HZ1 := hid ((HZ.out.below hb).below ha);have HB1 := hid (below_on (below_on HB0.out hb) ha);clear hb ha HB0 HZ;unfold Rq.val;go_upto_region 2 with fail;generalize (w1.alloc (.cells #[.int .u64 0, .int .u32 0, .int .u32 0, .int .i64 0, .int .u64 0, .int .u32 0, .int .u32 0, .int .u64 0, .int .u64 0, .bool false] 53)) = W1 at HZ1 HB1 ⊢;go_wp2_with (first | ((with_reducible refine pc 53 Rq.no.cells infoReq 4 16 w.heap.size _ HZ1.out ?qd2f); (intro W2 hW2); (have HY := hid (show Cs W2 w.heap.size Rq.no.cells ∧ Below w.heap.size w W2 by subst hW2; exact ⟨Cs.putL Rq.no.cells 0 HZ1.out (by simp [Rq.cells]), below_sets (Nat.le_refl _) _ _ HB1.out⟩)); (clear hW2); (obtain ⟨z0, z1, z2, z3, z4, z5, z6, z7, z8, z9⟩ := Rq.at Rq.no HY.out.1)) | fail)
 refine bodyPost_ret (v := .tuple #[Rq.no.val, .int .i64 14]) (by simp [results, Tryz.results47, go_sem, z0, z1, z2, z3, z4, z5, z6, z7, z8, z9, Rq.val]) rfl ⟨rfl, HY.out.2⟩
theorem Set.exit (S q mb th rb : Nat) (b : Int) (t : Tr It) (l : List Rq) (i : Int) (hi : -9223372036854775808 ≤ i ∧ i ≤ 9223372036854775807) (w : World) (h : SAt w S q mb th rb b t l) : Calls Tryz.prog 47 #[.pointer (some ⟨S, 0, none⟩), .int .i64 i] w (fun e w' => (∃ x : Rq, e = .returned (.tuple #[x.val, .int .i64 (leaC i t.list)])) ∧ StS S q mb th rb (leaB i b t.list) (lesI i t.list) (lesR i l) t w w') := by
 by_cases hx : ∃ x ∈ l, x.a.i = i
 ·have hxt := (h.mem i).1 hx;obtain ⟨x, hx, rfl⟩ := hx;have ha : anyI x.a.i t.list = true := by unfold anyI; rw [List.any_eq_true]; obtain ⟨y, hy, e⟩ := hxt; exact ⟨y, hy, by simpa using e⟩
  refine (Set.exit_yes S q mb th rb b t l x hx w h).mono ?_;rintro e w' ⟨rfl, hs⟩;exact ⟨⟨x, by unfold leaC; rw [if_pos ha]⟩, hs⟩
 ·have hn : ∀ x ∈ l, x.a.i ≠ i := fun x hm e => hx ⟨x, hm, e⟩
  have hnt : ∀ y ∈ t.list, y.i ≠ i := fun y hy e => hx ((h.mem i).2 ⟨y, hy, e⟩)
  have ha : anyI i t.list = false := by unfold anyI; rw [List.any_eq_false]; intro y hy; simpa using hnt y hy
  refine (Set.exit_no S q mb th rb b t l i hi hn w h).mono ?_;rintro e w' ⟨rfl, hb⟩;refine ⟨⟨Rq.no, by unfold leaC; rw [if_neg (by rw [ha]; simp)]⟩, ?_⟩;unfold leaB;rw [if_neg (by rw [ha]; simp), lesI_no ha, lesR_no hn];exact StS.same h hb
end


section
open Go.RowKit Go.Lib
set_option maxRecDepth 100000
set_option maxHeartbeats 32000000
theorem mem_keys {D : DataW Rq} {i : Int} (h : Maps.has D (keyI i) = true) : i ∈ intKeys D := by
 cases D with
 | map es =>
  rw [Maps.has_eq, List.any_eq_true] at h;obtain ⟨p, hp, hk⟩ := h;refine List.mem_map.2 ⟨p, hp, ?_⟩;cases hl : p.1 with
  | int q a =>
   rw [hl] at hk;have e : q = .i64 ∧ a = i := of_decide_eq_true hk;exact e.2
  | _ => rw [hl] at hk; simp [keyI, Lit.sameKey] at hk
 | _ => simp [Maps.has] at h
theorem gives_perm {D : DataW Rq} {l ss : List Rq} (hsz : Maps.size D = l.length) (h3 : ∀ x ∈ l, Maps.has D (keyI x.a.i) = true ∧ ∀ z, D.atKey (keyI x.a.i) z = .held x) (hn : (l.map (·.a.i)).Nodup) (hg : GivesQ RqR D ss) : l.Perm ss := by
 refine perm_of_sub hn (fun x hx => ?_) (by have := hg.le; omega);have hi := mem_keys (h3 x hx).1;obtain ⟨ps, hp, hr, rfl⟩ := hg;obtain ⟨p, hpm, hpi⟩ := List.mem_map.1 (hp.mem_iff.2 hi);obtain ⟨y, hy, hz⟩ := hr p hpm;rw [RqR_val] at hy;injection hy with hy;subst hy;have h4 := (hz (.held x)).symm;rw [hpi] at h4;have h5 := h4.trans ((h3 x hx).2 (.held x));simp only [DataW.held.injEq] at h5;exact List.mem_map.2 ⟨p, hpm, h5⟩
theorem Set.reqs (S q rb : Nat) (l : List Rq) (hl : l.length ≤ 1000000) (hn : (l.map (·.a.i)).Nodup) (w : World) (h : SMp w S q rb l) : Calls Tryz.prog 58 #[.pointer (some ⟨S, 0, none⟩)] w (fun e w' => ∃ A c ts, e = .returned (.slice A ts.length c) ∧ (ts.Perm l ∧ ts.Pairwise fun x y => x.a.i ≤ y.a.i) ∧ OwnG Rq.cells 10 53 w' w.heap.size A ts.length c ts ∧ Below w.heap.size w w') := by
 obtain ⟨_, s1⟩ := h.at;obtain ⟨D, h1, h2, h3, _⟩ := h.2;refine (Reqs.all S rb l.length D (R := RqR) (fun v y hv => by obtain ⟨c, e, _⟩ := RqR_eq hv; exact ⟨c, e⟩) (by omega) w s1 h1).mono ?_;rintro e w' ⟨v, ss, ts, rfl, hg, _, hp, hr, hrow, hb⟩;have hpl := hp.trans (gives_perm h2 h3 hn hg).symm;obtain ⟨A, c, rfl⟩ : ∃ A c, v = .slice A ts.length c := by
  obtain ⟨_, ⟨rfl, e⟩ | ⟨g, cap, _, rfl, _⟩⟩ := hrow
  ·exact ⟨none, 0, by rw [e]⟩
  ·exact ⟨_, cap, rfl⟩
 exact ⟨A, c, ts, rfl, ⟨hpl, hr⟩, hrow, hb⟩
def runR (l : List Rq) : Nat := (l.filter fun x => !x.z).length
theorem runR_perm {l k : List Rq} (h : l.Perm k) : runR l = runR k := (h.filter _).length_eq
theorem runR_succ {l : List Rq} {k : Nat} (hk : k < l.length) : runR (l.take (k + 1)) = runR (l.take k) + if (l.getD k Rq.no).z = true then 0 else 1 := by
 have e : l.getD k Rq.no = l[k] := by simp [List.getD, hk]
 unfold runR;rw [List.take_add_one, List.filter_append, List.length_append, List.getElem?_eq_getElem hk, e];cases hz : l[k].z <;> simp [hz]
theorem runR_le (l : List Rq) (k : Nat) : runR (l.take k) ≤ k := by
 unfold runR;have h1 := List.length_filter_le (fun x : Rq => !x.z) (l.take k);have h2 := List.length_take_le k l;omega
theorem Rq.of {w : World} {g o : Nat} (x : Rq) (h : w.rangeAt g o x.cells) : w.cell? ⟨g, o, none⟩ = some (.int .u64 x.a.t) ∧ w.cell? ⟨g, o + 1, none⟩ = some (.int .u32 x.a.r) ∧ w.cell? ⟨g, o + 2, none⟩ = some (.int .u32 x.a.v) ∧ w.cell? ⟨g, o + 3, none⟩ = some (.int .i64 x.a.i) ∧ w.cell? ⟨g, o + 4, none⟩ = some (.int .u64 x.a.u) ∧ w.cell? ⟨g, o + 5, none⟩ = some (.int .u32 x.a.s) ∧ w.cell? ⟨g, o + 6, none⟩ = some (.int .u32 x.a.y) ∧ w.cell? ⟨g, o + 7, none⟩ = some (.int .u64 x.l) ∧ w.cell? ⟨g, o + 8, none⟩ = some (.int .u64 x.s) ∧ w.cell? ⟨g, o + 9, none⟩ = some (.bool x.z) :=
 ⟨h 0 _ rfl, h 1 _ rfl, h 2 _ rfl, h 3 _ rfl, h 4 _ rfl, h 5 _ rfl, h 6 _ rfl, h 7 _ rfl, h 8 _ rfl, h 9 _ rfl⟩
theorem Rq.clen (x : Rq) : x.cells.length = 10 := rfl
theorem Set.runnable (S q rb : Nat) (l : List Rq) (hl : l.length ≤ 32) (hn : (l.map (·.a.i)).Nodup) (w : World) (h : SMp w S q rb l) : Calls Tryz.prog 59 #[.pointer (some ⟨S, 0, none⟩)] w (Ans (.int .i64 (runR l)) w) := by
 have HH := hid h;have HN := hid hn;have HL := hid hl;clear h hn hl;go_enter Tryz.func59, Tryz.ntmps59;go_wp2_with fail;refine (Set.reqs S q rb l (by have := HL.out; omega) HN.out _ HH.out).mono ?_;rintro e w1 ⟨A, c, ts, rfl, ⟨hp, _⟩, ho, hb⟩;have HR := hid (ho.rd Rq.clen (by omega) Rq.no);have HB := hid hb;have HE := hid (runR_perm hp);have hni : (ts.length : Int) ≤ 32 := by have := hp.length_eq; have := HL.out; omega
 obtain ⟨n, hnn⟩ : ∃ n, n = ts.length := ⟨_, rfl⟩
 have HNN := hid hnn;rw [← hnn] at hni HR ⊢;clear hp ho hb hnn;go_wp2_with fail
 go_loopg [3, 9] n (fun s c i wr => ∃ k : Nat, i = .int .i64 k ∧ c = .int .i64 (runR (ts.take k)) ∧ k ≤ n ∧ s = n - k ∧ Below w1.heap.size w1 wr)
 case atStart => exact ⟨0, rfl, rfl, Nat.zero_le _, by omega, Below.refl _ _⟩
 case round =>
  obtain ⟨k, rfl, rfl, hk, hs, hbr⟩ := hrel;have HS := hid hs;have HBR := hid hbr;clear hs hbr;by_cases hkn : k < n
  ·obtain ⟨bb, off, hA, _, hc⟩ := (HR.out.below HBR.out).2 (by omega);obtain ⟨p0, p1, p2, p3, p4, p5, p6, p7, p8, p9⟩ := Rq.of _ (hc k hkn);have HSU := hid (runR_succ (l := ts) (k := k) (by rw [← HNN.out]; exact hkn));have hrl := runR_le ts k;generalize runR (ts.take k) = u at *
   generalize ts.getD k Rq.no = y at *
   subst hA;have hki : (k : Int) < n := by omega
   have hk0 : (0 : Int) ≤ k := by omega
   clear hc;have HY : Hid (Cs (wr.alloc (.cells #[.int .u64 y.a.t, .int .u32 y.a.r, .int .u32 y.a.v, .int .i64 y.a.i, .int .u64 y.a.u, .int .u32 y.a.s, .int .u32 y.a.y, .int .u64 y.l, .int .u64 y.s, .bool y.z] 53)) wr.heap.size y.cells ∧ Below w1.heap.size w1 (wr.alloc (.cells #[.int .u64 y.a.t, .int .u32 y.a.r, .int .u32 y.a.v, .int .i64 y.a.i, .int .u64 y.a.u, .int .u32 y.a.s, .int .u32 y.a.y, .int .u64 y.l, .int .u64 y.s, .bool y.z] 53))) := hid ⟨Rq.new10 wr 53 y, below_on HBR.out ((Below.refl _ _).alloc (Nat.le_refl _) _)⟩;go_upto_region 5 with fail;generalize (wr.alloc (.cells #[.int .u64 y.a.t, .int .u32 y.a.r, .int .u32 y.a.v, .int .i64 y.a.i, .int .u64 y.a.u, .int .u32 y.a.s, .int .u32 y.a.y, .int .u64 y.l, .int .u64 y.s, .bool y.z] 53)) = Wy at HY ⊢;clear p0 p1 p2 p3 p4 p5 p6 p7 p8 p9;generalize wr.heap.size = gy at HY ⊢;obtain ⟨x0, x1, x2, x3, x4, x5, x6, x7, x8, x9⟩ := Rq.at y HY.out.1;cases hz : y.z with
   | true =>
    rw [hz] at x9;have HZ := hid hz;clear hz;go_wp2_with fail;go_roundg (n - (k + 1))
    case measure => have := HS.out; omega
    case rel => exact ⟨k + 1, by go_num, by rw [HSU.out, if_pos HZ.out]; rfl, by omega, rfl, HY.out.2⟩
   | false =>
    rw [hz] at x9;have HZ := hid hz;clear hz;go_wp2_with fail;go_roundg (n - (k + 1))
    case measure => have := HS.out; omega
    case rel => exact ⟨k + 1, by go_num, by rw [HSU.out, if_neg (by rw [HZ.out]; simp)]; go_num, by omega, rfl, HY.out.2⟩
  ·obtain rfl : k = n := by omega
   have hki : ¬ (k : Int) < k := by omega
   have HT := hid (show runR (ts.take k) = runR l by rw [HNN.out, List.take_length]; exact HE.out);go_wp2_with fail;go_ret
   exact ⟨by rw [HT.out] <;> rfl, below_on HB.out HBR.out⟩
theorem Set.rouse_no (S q mb th rb : Nat) (b : Int) (t : Tr It) (l : List Rq) (i : Int) (z : Bool) (hi : -9223372036854775808 ≤ i ∧ i ≤ 9223372036854775807) (hn : ∀ x ∈ l, x.a.i ≠ i) (w : World) (h : SAt w S q mb th rb b t l) : Calls Tryz.prog 51 #[.pointer (some ⟨S, 0, none⟩), .int .i64 i, .bool z] w (Ans (.int .i64 14) w) := by
 have HH := hid h;have HI := hid hi;have HN := hid hn;clear h hi hn;go_enter Tryz.func51, Tryz.ntmps51;go_wp2_with fail;refine (Set.find_no S q rb l i HI.out HN.out _ HH.out.1.2).mono ?_;rintro e w1 ⟨rfl, hb⟩;have HB1 := hid (below_on hb ((Below.refl w1.heap.size w1).alloc (Nat.le_refl _) (.cells #[.int .u64 0, .int .u32 0, .int .u32 0, .int .i64 0, .int .u64 0, .int .u32 0, .int .u32 0, .int .u64 0, .int .u64 0, .bool false] 53)));clear hb;unfold Rq.val;go_wp2_with fail;go_ret
 exact ⟨rfl, HB1.out⟩
theorem Set.rouse_yes (S q mb th rb : Nat) (b : Int) (t : Tr It) (l : List Rq) (x : Rq) (z : Bool) (hx : x ∈ l) (w : World) (h : SAt w S q mb th rb b t l) : Calls Tryz.prog 51 #[.pointer (some ⟨S, 0, none⟩), .int .i64 x.a.i, .bool z] w (fun e w' => e = .returned (.int .i64 0) ∧ StS S q mb th rb b t.list (Rq.mk x.a x.l x.s z :: lesR x.a.i l) t w w') := by
 have HH := hid h;have HX := hid hx;have HXI := hid (h.2.1.2.2 x hx);clear h hx;go_enter Tryz.func51, Tryz.ntmps51;go_wp2_with fail;refine (Set.find_yes S q rb l x HX.out HXI.out _ HH.out.1.2).mono ?_;rintro e w1 ⟨rfl, hb⟩;have ha := (Below.refl w1.heap.size w1).alloc (Nat.le_refl _) (.cells #[.int .u64 x.a.t, .int .u32 x.a.r, .int .u32 x.a.v, .int .i64 x.a.i, .int .u64 x.a.u, .int .u32 x.a.s, .int .u32 x.a.y, .int .u64 x.l, .int .u64 x.s, .bool x.z] 53);have HX1 : Hid (Cs (w1.alloc (.cells #[.int .u64 x.a.t, .int .u32 x.a.r, .int .u32 x.a.v, .int .i64 x.a.i, .int .u64 x.a.u, .int .u32 x.a.s, .int .u32 x.a.y, .int .u64 x.l, .int .u64 x.s, .bool x.z] 53)) w1.heap.size x.cells) := hid (Rq.new10 w1 53 x);have HB1 := hid (below_on hb ha);have HGX : Hid (w.heap.size ≤ w1.heap.size) := hid hb.size;clear hb ha;unfold Rq.val;go_upto_region 2 with fail;generalize (w1.alloc (.cells #[.int .u64 x.a.t, .int .u32 x.a.r, .int .u32 x.a.v, .int .i64 x.a.i, .int .u64 x.a.u, .int .u32 x.a.s, .int .u32 x.a.y, .int .u64 x.l, .int .u64 x.s, .bool x.z] 53)) = W1 at HX1 HB1 ⊢;generalize w1.heap.size = gx at HX1 HGX ⊢;obtain ⟨x0, x1, x2, x3, x4, x5, x6, x7, x8, x9⟩ := Rq.at x HX1.out;have f9 := (HX1.out 9 _ rfl).2;go_upto_region 5 with fail;obtain ⟨W2, hW2⟩ : ∃ W2, W2 = W1.setCell ⟨gx, 9, none⟩ (.bool z) := ⟨_, rfl⟩
 have HX2 : Hid (Cs W2 gx (Rq.mk x.a x.l x.s z).cells) := hid (by rw [hW2]; exact HX1.out.set 9 (by simp [Rq.cells]) (.bool z));have HB2 : Hid (Below w.heap.size w W2) := hid (by rw [hW2]; exact below_sets HGX.out [.bool z] 9 HB1.out);rw [← hW2];clear hW2 f9 x0 x1 x2 x3 x4 x5 x6 x7 x8 x9 HX1 HB1;have hsT1 : Stays (fun wx => (SMp wx S q rb l ∧ Cs wx gx (Rq.mk x.a x.l x.s z).cells) ∧ Below W2.heap.size W2 wx) := fun _ _ h hb => ⟨⟨h.1.1.below hb, h.1.2.below hb⟩, below_on h.2 hb⟩
 refine wp_region_grow (S := fun wx => (SMp wx S q rb l ∧ Cs wx gx (Rq.mk x.a x.l x.s z).cells) ∧ Below W2.heap.size W2 wx) 6 (by kernel_rfl) (hsT1 _ _ (⟨⟨HH.out.1.2.below HB2.out, HX2.out⟩, Below.refl _ _⟩) (Below.refl _ _).drew) ?_;refine tF 0 (hsT1) (fun _ h => h) ?_;try simp only [tdy]
 refine tF 1 (hsT1) (fun _ h => h) ?_;try simp only [tdy]
 refine tF 2 (hsT1) (fun _ h => h) ?_;try simp only [tdy]
 refine tE 3 (v := ?_) (hsT1) (fun _ h => h) rfl (by kernel_rfl) (by rfl) ?_ ?_;rotate_left
 ·intro wq hSw;obtain ⟨s0, s1⟩ := hSw.1.1.at;obtain ⟨x0, x1, x2, x3, x4, x5, x6, x7, x8, x9⟩ := Rq.at (Rq.mk x.a x.l x.s z) hSw.1.2;go_simp; try with_reducible rfl
 try simp only [tdy]
 refine tF 4 (hsT1) (fun _ h => h) ?_;try simp only [tdy]
 refine tE 5 (v := ?_) (hsT1) (fun _ h => h) rfl (by kernel_rfl) (by rfl) ?_ ?_;rotate_left
 ·intro wq hSw;obtain ⟨s0, s1⟩ := hSw.1.1.at;obtain ⟨x0, x1, x2, x3, x4, x5, x6, x7, x8, x9⟩ := Rq.at (Rq.mk x.a x.l x.s z) hSw.1.2;go_simp; try with_reducible rfl
 try simp only [tdy]
 refine wpAnyE_last rfl rfl (by kernel_rfl) (fun wz hSz => ?_);have HZ := hid hSz;clear hSz;obtain ⟨w4, hrun, hm4, hc4⟩ := HZ.out.1.1.2.set (x := Rq.mk x.a x.l x.s z) HXI.out.1 (lesR_perm HH.out.ids HX.out) rfl (fun y hy => (lesR_sub y hy).2) (by have := HH.out.few; omega);have HM4 := hid (HH.out.step (below_on HB2.out HZ.out.2) (Stp.same ((HH.out.1.1.below HB2.out).below HZ.out.2) HH.out.2.1.1.1 HH.out.2.1.1.2 (Below.refl _ _)) hm4 hc4 (by
  refine List.Perm.trans ?_ HH.out.2.1.2.1;exact ((lesR_perm HH.out.ids HX.out).map (·.a)).symm) (fun y hy => by
   rcases List.mem_cons.1 hy with rfl | hy
   ·exact HXI.out
   ·exact HH.out.2.1.2.2 y (lesR_sub y hy).1))
 clear hm4 hc4;unfold Rq.val at hrun;go_wp2_with fail;go_ret
 exact ⟨rfl, HM4.out⟩
def rouR (i : Int) (z : Bool) (l : List Rq) : List Rq := match l.find? (fun x => x.a.i == i) with
 | some x => Rq.mk x.a x.l x.s z :: lesR i l
 | none => l
theorem Set.rouse (S q mb th rb : Nat) (b : Int) (t : Tr It) (l : List Rq) (i : Int) (z : Bool) (hi : -9223372036854775808 ≤ i ∧ i ≤ 9223372036854775807) (w : World) (h : SAt w S q mb th rb b t l) : Calls Tryz.prog 51 #[.pointer (some ⟨S, 0, none⟩), .int .i64 i, .bool z] w (fun e w' => e = .returned (.int .i64 (leaC i t.list)) ∧ StS S q mb th rb b t.list (rouR i z l) t w w') := by
 unfold rouR;cases hf : l.find? (fun x => x.a.i == i) with
 | some x =>
  have hx := List.mem_of_find?_eq_some hf;have hxi : x.a.i = i := by simpa using List.find?_some hf
  subst hxi;have hxt := (h.mem x.a.i).1 ⟨x, hx, rfl⟩;have ha : anyI x.a.i t.list = true := by unfold anyI; rw [List.any_eq_true]; obtain ⟨y, hy, e⟩ := hxt; exact ⟨y, hy, by simpa using e⟩
  refine (Set.rouse_yes S q mb th rb b t l x z hx w h).mono ?_;rintro e w' ⟨rfl, hs⟩;exact ⟨by unfold leaC; rw [if_pos ha], hs⟩
 | none =>
  have hn : ∀ x ∈ l, x.a.i ≠ i := fun x hm e => by have := List.find?_eq_none.1 hf x hm; simp [e] at this
  have hnt : ∀ y ∈ t.list, y.i ≠ i := fun y hy e => by obtain ⟨x, hx, e2⟩ := (h.mem i).2 ⟨y, hy, e⟩; exact hn x hx e2
  have ha : anyI i t.list = false := by unfold anyI; rw [List.any_eq_false]; intro y hy; simpa using hnt y hy
  refine (Set.rouse_no S q mb th rb b t l i z hi hn w h).mono ?_;rintro e w' ⟨rfl, hb⟩;exact ⟨by unfold leaC; rw [if_neg (by rw [ha]; simp)], StS.same h hb⟩
end


section
open Go.RowKit
def sfoot (S q mb th rb : Nat) (t : Tr It) : List Nat := S :: rb :: foot q mb th t
theorem SAt.footlt {w : World} {S q mb th rb : Nat} {b : Int} {t : Tr It} {l : List Rq} (h : SAt w S q mb th rb b t l) : ∀ g ∈ sfoot S q mb th rb t, g < w.heap.size := fun g hg => by
 rcases List.mem_cons.1 hg with rfl | hg
 ·exact h.lt.1
 ·rcases List.mem_cons.1 hg with rfl | hg
  ·exact h.lt.2.1
  ·exact h.lt.2.2 g hg
theorem SAt.apart {w w' : World} {S q mb th rb S' q' mb' th' rb' : Nat} {b b' : Int} {t t' : Tr It} {l l' : List Rq} (h : SAt w S q mb th rb b t l) (h' : SAt w S' q' mb' th' rb' b' t' l') (hd : ∀ g ∈ sfoot S q mb th rb t, g ∉ sfoot S' q' mb' th' rb' t') (hc : Chg (rb' :: foot q' mb' th' t') w w') : SAt w' S q mb th rb b t l := by
 have hd2 : ∀ g ∈ sfoot S q mb th rb t, g ∉ rb' :: foot q' mb' th' t' := fun g hg hm => hd g hg (List.mem_cons_of_mem _ hm)
 have hF : ∀ g ∈ rb' :: foot q' mb' th' t', ∀ f a c, w.cell? ⟨g, 0, none⟩ = some (.func f a c) → f = .func 115 := fun g hg f a c e => by
  rcases List.mem_cons.1 hg with rfl | hg
  ·rw [h'.1.2.2.cell 0] at e; cases e
  ·exact h'.1.1.footcell g hg f a c e
 exact ⟨⟨⟨⟨h.1.1.1.1.chg hc (hd2 q (by simp [sfoot, foot])), h.1.1.1.2.1.chg hc (hd2 mb (by simp [sfoot, foot])), ⟨h.1.1.1.2.2.1.apart hc (hd2 th (by simp [sfoot, foot])) hF, h.1.1.1.2.2.2.1.chgF hc (fun g hg => hd2 g (by simp [sfoot, foot, hg])), h.1.1.1.2.2.2.2⟩⟩, h.1.1.2⟩, h.1.2.chg hc (hd2 S (by simp [sfoot])) (hd2 rb (by simp [sfoot]))⟩, h.2⟩
def TS (w0 : World) (S q mb th rb S' q' mb' th' rb' : Nat) (b c : Int) (t u : Tr It) (l k : List Rq) (w : World) : Prop :=
 (SAt w S q mb th rb b t l ∧ SAt w S' q' mb' th' rb' c u k) ∧ ((∀ g ∈ sfoot S q mb th rb t, g ∉ sfoot S' q' mb' th' rb' u) ∧ (∀ g ∈ sfoot S q mb th rb t, w0.heap.size ≤ g) ∧ (∀ g ∈ sfoot S' q' mb' th' rb' u, w0.heap.size ≤ g)) ∧ Below w0.heap.size w0 w
theorem TS.below {w0 : World} {S q mb th rb S' q' mb' th' rb' : Nat} {b c : Int} {t u : Tr It} {l k : List Rq} {w w' : World} (h : TS w0 S q mb th rb S' q' mb' th' rb' b c t u l k w) (hb : Below w.heap.size w w') : TS w0 S q mb th rb S' q' mb' th' rb' b c t u l k w' := ⟨⟨h.1.1.below hb, h.1.2.below hb⟩, h.2.1, below_on h.2.2 hb⟩
theorem TS.swap {w0 : World} {S q mb th rb S' q' mb' th' rb' : Nat} {b c : Int} {t u : Tr It} {l k : List Rq} {w : World} (h : TS w0 S q mb th rb S' q' mb' th' rb' b c t u l k w) : TS w0 S' q' mb' th' rb' S q mb th rb c b u t k l w := ⟨⟨h.1.2, h.1.1⟩, ⟨fun g hg hm => h.2.1.1 g hm hg, h.2.1.2.2, h.2.1.2.1⟩, h.2.2⟩
theorem sfoot_old {S q mb th rb n : Nat} {t t' : Tr It} (hb : ∀ g ∈ t'.blocks, g ∈ t.blocks ∨ n ≤ g) : ∀ g ∈ sfoot S q mb th rb t', g ∈ sfoot S q mb th rb t ∨ n ≤ g := fun g hg => by
 rcases List.mem_cons.1 hg with rfl | hg
 ·exact Or.inl (by simp [sfoot])
 ·rcases List.mem_cons.1 hg with rfl | hg
  ·exact Or.inl (by simp [sfoot])
  ·exact (foot_old hb g hg).imp (fun h => by simp [sfoot, h]) id
theorem TS.fst {w0 : World} {S q mb th rb S' q' mb' th' rb' : Nat} {b c b' : Int} {t u : Tr It} {l k l' : List Rq} {L' : List It} {w w' : World} (h : TS w0 S q mb th rb S' q' mb' th' rb' b c t u l k w) (s : StS S q mb th rb b' L' l' t w w') : ∃ t', t'.list = L' ∧ TS w0 S q mb th rb S' q' mb' th' rb' b' c t' u l' k w' := by
 obtain ⟨t', hl, hs, hbl, hc⟩ := s;have hsz := h.2.2.size;refine ⟨t', hl, ⟨hs, h.1.2.apart h.1.1 (fun g hg hm => h.2.1.1 g hm hg) hc⟩, ⟨fun g hg hm => ?_, fun g hg => ?_, h.2.1.2.2⟩, Below.chg h.2.2 hc (fun g hg => h.2.1.2.1 g (List.mem_cons_of_mem _ hg))⟩
 ·rcases sfoot_old (S := S) (q := q) (mb := mb) (th := th) (rb := rb) hbl g hg with h1 | h1
  ·exact h.2.1.1 g h1 hm
  ·exact absurd (h.1.2.footlt g hm) (by omega)
 ·rcases sfoot_old (S := S) (q := q) (mb := mb) (th := th) (rb := rb) hbl g hg with h1 | h1
  ·exact h.2.1.2.1 g h1
  ·omega
theorem TS.snd {w0 : World} {S q mb th rb S' q' mb' th' rb' : Nat} {b c c' : Int} {t u : Tr It} {l k k' : List Rq} {L' : List It} {w w' : World} (h : TS w0 S q mb th rb S' q' mb' th' rb' b c t u l k w) (s : StS S' q' mb' th' rb' c' L' k' u w w') : ∃ u', u'.list = L' ∧ TS w0 S q mb th rb S' q' mb' th' rb' b c' t u' l k' w' := by
 obtain ⟨u', hu, h1⟩ := h.swap.fst s;exact ⟨u', hu, h1.swap⟩
theorem TS.made {w0 w w' : World} {S q mb th rb S' q' mb' th' rb' : Nat} {b c : Int} {t u : Tr It} {l k : List Rq} (h : SAt w S q mb th rb b t l) (h0 : ∀ g ∈ sfoot S q mb th rb t, w0.heap.size ≤ g) (hb : Below w0.heap.size w0 w) (h' : SAt w' S' q' mb' th' rb' c u k) (h1 : ∀ g ∈ sfoot S' q' mb' th' rb' u, w.heap.size ≤ g) (hb' : Below w.heap.size w w') : TS w0 S q mb th rb S' q' mb' th' rb' b c t u l k w' :=
 ⟨⟨h.below hb', h'⟩, ⟨fun g hg hm => absurd (h.footlt g hg) (by have := h1 g hm; omega), h0, fun g hg => Nat.le_trans hb.size (h1 g hg)⟩, below_on hb hb'⟩
-- shifted
theorem It.back (d : Int) {a : It} (h : a.In) : It.shift (-d) (It.shift d a) = a := by
 unfold It.shift;obtain ⟨t, r, v, i, u, s, y⟩ := a;obtain ⟨h1, _, _, _, h5, _⟩ := h;simp only at h1 h5;simp only [It.mk.injEq, true_and, and_true];rw [IntKind.wrap_u64, IntKind.wrap_u64, IntKind.wrap_u64, IntKind.wrap_u64];omega
theorem sh_back (d : Int) {r : Rq} (h : r.In) : (r.sh d).sh (-d) = r := by
 unfold Rq.sh;rw [It.back d h.1]
theorem sh_right_eq (d : Int) {r : Rq} (h : r.In) : (r.sh d).right = r.right := by
 cases hr : r.right with
 | true => exact sh_right h hr
 | false =>
  cases hs : (r.sh d).right with
  | false => rfl
  | true =>
   have := sh_right (d := -d) (sh_in (d := d) h) hs;rw [sh_back d h, hr] at this;exact this.symm
theorem lesR_sh (d i : Int) (l : List Rq) : lesR i (l.map (Rq.sh d)) = (lesR i l).map (Rq.sh d) := by
 unfold lesR;rw [List.filter_map];rfl
theorem runR_sh (d : Int) (l : List Rq) : runR (l.map (Rq.sh d)) = runR l := by
 unfold runR;rw [List.filter_map, List.length_map];rfl
theorem rouR_sh (d i : Int) (z : Bool) (l : List Rq) : rouR i z (l.map (Rq.sh d)) = (rouR i z l).map (Rq.sh d) := by
 unfold rouR;rw [List.find?_map]
 show (match Option.map (Rq.sh d) (l.find? fun x => x.a.i == i) with
  | some x => Rq.mk x.a x.l x.s z :: lesR i (l.map (Rq.sh d))
  | none => l.map (Rq.sh d)) = _
 cases l.find? (fun x => x.a.i == i) with
 | some x => simp only [Option.map_some, List.map_cons, lesR_sh]; rfl
 | none => rfl
theorem ent_sh (b d : Int) (L : List It) (l : List Rq) {r : Rq} (h : r.In) : entC (IntKind.u64.wrap (b + d)) (L.map (It.shift d)) (r.sh d) = entC b L r ∧ entB (IntKind.u64.wrap (b + d)) (L.map (It.shift d)) (r.sh d) = IntKind.u64.wrap (entB b L r + d) ∧ entL (IntKind.u64.wrap (b + d)) (L.map (It.shift d)) (r.sh d) = (entL b L r).map (It.shift d) ∧ entR (IntKind.u64.wrap (b + d)) (L.map (It.shift d)) (l.map (Rq.sh d)) (r.sh d) = (entR b L l r).map (Rq.sh d) := by
 have e : entC (IntKind.u64.wrap (b + d)) (L.map (It.shift d)) (r.sh d) = entC b L r := by
  unfold entC;rw [sh_right_eq d h]
  show (if r.right = true then joinC (IntKind.u64.wrap (b + d)) (L.map (It.shift d)) (It.shift d r.a) else 2) = _
  rw [joinC_sh]
 have j := joi_sh b d L r.a;refine ⟨e, ?_, ?_, ?_⟩
 ·unfold entB;rw [e]
  show (if entC b L r = 0 then joiB (IntKind.u64.wrap (b + d)) (L.map (It.shift d)) (It.shift d r.a) else _) = _
  rw [j.1];split <;> rfl
 ·unfold entL;rw [e]
  show (if entC b L r = 0 then joiL (IntKind.u64.wrap (b + d)) (L.map (It.shift d)) (It.shift d r.a) else _) = _
  rw [j.2];split <;> rfl
 ·unfold entR;rw [e];split <;> rfl
theorem put_sh (b d : Int) (L : List It) (l : List Rq) {r : Rq} (h : r.In) : putC (IntKind.u64.wrap (b + d)) (L.map (It.shift d)) (r.sh d) = putC b L r ∧ putB (IntKind.u64.wrap (b + d)) (L.map (It.shift d)) (r.sh d) = IntKind.u64.wrap (putB b L r + d) ∧ putL (IntKind.u64.wrap (b + d)) (L.map (It.shift d)) (r.sh d) = (putL b L r).map (It.shift d) ∧ putR (IntKind.u64.wrap (b + d)) (L.map (It.shift d)) (l.map (Rq.sh d)) (r.sh d) = (putR b L l r).map (Rq.sh d) := by
 have e : putC (IntKind.u64.wrap (b + d)) (L.map (It.shift d)) (r.sh d) = putC b L r := by
  unfold putC;rw [sh_right_eq d h]
  show (if r.right = true then chgC (IntKind.u64.wrap (b + d)) (L.map (It.shift d)) (It.shift d r.a) else 2) = _
  rw [chgC_sh]
 have j := cng_sh b d L r.a;refine ⟨e, ?_, ?_, ?_⟩
 ·unfold putB;rw [e]
  show (if putC b L r = 0 then cngB (IntKind.u64.wrap (b + d)) (L.map (It.shift d)) (It.shift d r.a) else _) = _
  rw [j.1];split <;> rfl
 ·unfold putL;rw [e]
  show (if putC b L r = 0 then cngL (IntKind.u64.wrap (b + d)) (L.map (It.shift d)) (It.shift d r.a) else _) = _
  rw [j.2];split <;> rfl
 ·unfold putR;rw [e]
  show (if putC b L r = 0 then r.sh d :: lesR r.a.i (l.map (Rq.sh d)) else _) = _
  rw [lesR_sh];split <;> rfl
end

end Go.Proofs.YtjndmmcjobbcbaaGreatDoor

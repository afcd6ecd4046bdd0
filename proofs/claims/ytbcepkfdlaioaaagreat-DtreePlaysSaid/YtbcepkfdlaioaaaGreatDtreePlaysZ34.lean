/- Texts of DtreePlays's proof, together. -/
import Derived.Test.YtbcepkfdlaioaaaGreatDtreePlaysZ32
import Derived.Laws.StructEq
import Derived.Test.YtbcepkfdlaioaaaGreatDtreePlaysZ31
import Derived.Test.YtbcepkfdlaioaaaGreatItP
namespace Go.Proofs.YtbcepkfdlaioaaaGreat

section
open Go.RowKit
def nearOk7 (d : Int) : Bool := decide (-576460752303423488 < d) && decide (d < 576460752303423488)
def It.near7 (t : Int) (a : It) : Bool := nearOk7 (dif a.t t) && nearOk7 (dif a.u t) && It.right a
theorem near_of7 {t : Int} {a : It} (h : It.near7 t a = true) : It.near t a = true := by
 unfold It.near7 nearOk7 at h
 unfold It.near nearOk
 simp only [Bool.and_eq_true, decide_eq_true_eq] at h ⊢
 exact ⟨⟨⟨by omega, by omega⟩, by omega, by omega⟩, h.2⟩
set_option maxRecDepth 100000 in
set_option maxHeartbeats 4000000 in
theorem Law7.near (t : Int) (a : It) (w : World) : Calls Tryz.prog 6 #[.int .u64 t, a.val] w (Ans (.bool (It.near7 t a)) w) := by
 have HN0 : Hid (Nr w a ((w.alloc (.cells #[.int .u64 a.t, .int .u32 a.r, .int .u32 a.v, .int .i64 a.i, .int .u64 a.u, .int .u32 a.s, .int .u32 a.y] 35)).alloc (.cells #[.int .u64 a.t, .int .u32 a.r, .int .u32 a.v, .int .u64 a.u, .int .u32 a.s, .int .u32 a.y] 33))) := hid
  ⟨(Cs.new7 _ _ _).alloc _, by have := Cs.alloc_new6 (w.alloc (.cells #[.int .u64 a.t, .int .u32 a.r, .int .u32 a.v, .int .i64 a.i, .int .u64 a.u, .int .u32 a.s, .int .u32 a.y] 35)) 33 [.int .u64 a.t, .int .u32 a.r, .int .u32 a.v, .int .u64 a.u, .int .u32 a.s, .int .u32 a.y]; simpa using this, ((Below.refl _ _).alloc (Nat.le_refl _) _).alloc (by simp) _⟩
 unfold It.val
 go_enter Tryz.func6, Tryz.ntmps6
 go_wp2_with fail
 go_loopg [14] 2 (fun s b wr => ∃ k : Nat, b = .int .i64 k ∧ k ≤ 2 ∧ s = 2 - k ∧ (1 ≤ k → nearOk7 (dif a.t t) = true) ∧ (2 ≤ k → nearOk7 (dif a.u t) = true) ∧ Nr w a wr)
 case atStart => exact ⟨0, rfl, by omega, rfl, by omega, by omega, HN0.out⟩
 case round =>
  obtain ⟨k, rfl, hk, hs, h1, h2, hn⟩ := hrel
  have HS := hid hs
  have HN := hid hn
  have q0 := (hn.2.1 0 _ rfl).1
  have q1 := (hn.2.1 1 _ rfl).1
  have q2 := (hn.2.1 2 _ rfl).1
  have q3 := (hn.2.1 3 _ rfl).1
  have q4 := (hn.2.1 4 _ rfl).1
  have q5 := (hn.2.1 5 _ rfl).1
  obtain ⟨p0, p1, p2, p3, p4, p5, p6⟩ := It.at a hn.1
  have H1 := hid h1
  have H2 := hid h2
  clear hs hn h1 h2
  match k, hk with
  | 0, _ =>
   clear p0 p1 p2 p3 p4 p5 p6
   have HF : Hid (nearOk7 (dif a.t t) = false → It.near7 t a = false) := hid (fun h => by unfold It.near7; rw [h]; simp)
   go_wp2_with fail
   refine (Vtime.since a.t t _).mono ?_
   rintro e w1 ⟨rfl, hb1⟩
   have HN1 := hid ((HN.out.below ((Below.refl _ _).alloc (Nat.le_refl _) _)).below hb1)
   clear hb1 q0 q1 q2 q3 q4 q5
   by_cases c1 : dif a.t t ≤ -576460752303423488
   ·have HX : Hid (nearOk7 (dif a.t t) = false) := hid (by unfold nearOk7; rw [decide_eq_false (by omega)]; rfl)
    go_wp2_with fail
    go_ret
    exact ⟨by rw [HF.out HX.out]; rfl, HN1.out.2.2⟩
   ·by_cases c2 : 576460752303423488 ≤ dif a.t t
    ·have HX : Hid (nearOk7 (dif a.t t) = false) := hid (by unfold nearOk7; rw [decide_eq_false (show ¬ dif a.t t < 576460752303423488 by omega)]; simp)
     go_wp2_with fail
     go_ret
     exact ⟨by rw [HF.out HX.out]; rfl, HN1.out.2.2⟩
    ·have HX : Hid (nearOk7 (dif a.t t) = true) := hid (by unfold nearOk7; rw [decide_eq_true (by omega), decide_eq_true (by omega)]; rfl)
     go_wp2_with fail
     go_roundg (1)
     case measure => have := HS.out; omega
     case rel => exact ⟨1, rfl, by omega, rfl, fun _ => HX.out, fun h => absurd h (by omega), HN1.out⟩
  | 1, _ =>
   clear p0 p1 p2 p3 p4 p5 p6
   have HF : Hid (nearOk7 (dif a.u t) = false → It.near7 t a = false) := hid (fun h => by unfold It.near7; rw [h]; simp)
   go_wp2_with fail
   refine (Vtime.since a.u t _).mono ?_
   rintro e w1 ⟨rfl, hb1⟩
   have HN1 := hid ((HN.out.below ((Below.refl _ _).alloc (Nat.le_refl _) _)).below hb1)
   clear hb1 q0 q1 q2 q3 q4 q5
   by_cases c1 : dif a.u t ≤ -576460752303423488
   ·have HX : Hid (nearOk7 (dif a.u t) = false) := hid (by unfold nearOk7; rw [decide_eq_false (by omega)]; rfl)
    go_wp2_with fail
    go_ret
    exact ⟨by rw [HF.out HX.out]; rfl, HN1.out.2.2⟩
   ·by_cases c2 : 576460752303423488 ≤ dif a.u t
    ·have HX : Hid (nearOk7 (dif a.u t) = false) := hid (by unfold nearOk7; rw [decide_eq_false (show ¬ dif a.u t < 576460752303423488 by omega)]; simp)
     go_wp2_with fail
     go_ret
     exact ⟨by rw [HF.out HX.out]; rfl, HN1.out.2.2⟩
    ·have HX : Hid (nearOk7 (dif a.u t) = true) := hid (by unfold nearOk7; rw [decide_eq_true (by omega), decide_eq_true (by omega)]; rfl)
     go_wp2_with fail
     go_roundg (0)
     case measure => have := HS.out; omega
     case rel => exact ⟨2, rfl, by omega, rfl, fun _ => H1.out (by omega), fun _ => HX.out, HN1.out⟩
  | 2, _ =>
   have HE : Hid (It.near7 t a = It.right a) := hid (by unfold It.near7; rw [H1.out (by omega), H2.out (by omega)]; rfl)
   clear q0 q1 q2 q3 q4 q5
   go_wp2_with fail
   refine (Item.right a _).mono ?_
   rintro e w1 ⟨rfl, hb1⟩
   have HB := hid (below_on HN.out.2.2 hb1)
   clear hb1
   go_wp2_with fail
   go_ret
   exact ⟨by rw [HE.out]; rfl, HB.out⟩
end


section
open Go.RowKit
theorem irr7 {t0 : Int} {x : It} (h : It.near t0 x = true) : It.ahead x x = false := by
 cases e : It.ahead x x with
 | false => rfl
 | true => have := ahead_asym h h e; rw [e] at this; exact this
def Nr7 (t0 : Int) (L : List It) : Prop := SrtI L ∧ ∀ x ∈ L, It.near7 t0 x = true
theorem Nr7.nr {t0 : Int} {L : List It} (h : Nr7 t0 L) : NrL t0 L := fun x hx => near_of7 (h.2 x hx)
theorem insR_nr {t0 : Int} {x : It} {L : List It} (h : Nr7 t0 L) (hx : It.near7 t0 x = true) : Nr7 t0 (insR x L) := by
 unfold insR
 cases hh : hasI x L with
 | true => simpa using h
 | false =>
  rw [if_neg (by simp)]
  refine ⟨SrtI.ins (near_of7 hx) h.nr h.1 (fun y hy hs => ?_), fun y hy => ?_⟩
  ·have := hasI_iff.2 ⟨y, hy, hs⟩
   rw [hh] at this
   cases this
  ·rcases mem_insI.1 hy with rfl | h1
   ·exact hx
   ·exact h.2 y h1
theorem srt_parts {L : List It} (hs : SrtI L) {x : It} (hx : x ∈ L) : ∃ A B, L = A ++ x :: B ∧ (∀ a ∈ A, It.ahead a x = true) ∧ ∀ b ∈ B, It.ahead x b = true := by
 obtain ⟨A, B, rfl⟩ := List.append_of_mem hx
 unfold SrtI at hs
 rw [List.pairwise_append, List.pairwise_cons] at hs
 exact ⟨A, B, rfl, fun a ha => hs.2.2 a ha x (by simp), hs.2.1.1⟩
theorem delI_parts {t0 : Int} {x : It} {A B : List It} (hx : It.near t0 x = true) (ha : ∀ a ∈ A, It.ahead a x = true) (hb : ∀ b ∈ B, It.ahead x b = true) : delI x (A ++ x :: B) = A ++ B := by
 unfold delI
 rw [List.filter_append, List.filter_cons, irr7 hx]
 rw [List.filter_eq_self.2 (fun a h => by rw [ha a h]; simp), List.filter_eq_self.2 (fun b h => by rw [hb b h]; simp)]
 simp
theorem delI_nr {t0 : Int} {x : It} {L : List It} (h : Nr7 t0 L) : Nr7 t0 (delI x L) := ⟨List.Pairwise.filter _ h.1, fun y hy => h.2 y (List.mem_filter.1 hy).1⟩
theorem delI_less {t0 : Int} {x : It} {L : List It} (h : Nr7 t0 L) (hx : x ∈ L) : decide ((delI x L).length < L.length) = true := by
 obtain ⟨A, B, rfl, ha, hb⟩ := srt_parts h.1 hx
 rw [delI_parts (h.nr x hx) ha hb]
 simp
theorem delI_len {x : It} {L : List It} : (delI x L).length ≤ L.length := List.length_filter_le _ _
theorem insR_len {x : It} {L : List It} : (insR x L).length ≤ L.length + 1 := by
 unfold insR
 split
 ·omega
 ·unfold insI
  have := congrArg List.length (List.takeWhile_append_dropWhile (p := fun y => !It.ahead x y) (l := L))
  rw [List.length_append] at this
  rw [List.length_append, List.length_cons]
  omega
def repO (a x : It) (L : List It) : Bool := !hasI x (delI a L)
def repR (a x : It) (L : List It) : List It := if repO a x L = true then insI x (delI a L) else L
theorem hasI_del {t0 : Int} {a x : It} {L : List It} (h : Nr7 t0 L) (ha : a ∈ L) (hx : It.near7 t0 x = true) : hasI x (delI a L) = ((It.ahead a x || It.ahead x a) && hasI x L) := by
 have hxn := near_of7 hx
 have han := h.nr a ha
 cases hs : (It.ahead a x || It.ahead x a) with
 | false =>
  rw [Bool.false_and]
  rw [Bool.or_eq_false_iff] at hs
  refine Bool.eq_false_iff.2 (fun h1 => ?_)
  obtain ⟨y, hy, h2⟩ := hasI_iff.1 h1
  unfold delI at hy
  rw [List.mem_filter] at hy
  have hyn := h.nr y hy.1
  have e1 := ahead_ntr han hxn hyn hs.1 h2.1
  have e2 := ahead_ntr hyn hxn han h2.2 hs.2
  rw [e1, e2] at hy
  exact absurd hy.2 (by simp)
 | true =>
  rw [Bool.true_and]
  apply Bool.eq_iff_iff.2
  rw [hasI_iff, hasI_iff]
  constructor
  ·rintro ⟨y, hy, h2⟩
   exact ⟨y, (List.mem_filter.1 hy).1, h2⟩
  ·rintro ⟨y, hy, h2⟩
   refine ⟨y, ?_, h2⟩
   unfold delI
   rw [List.mem_filter]
   refine ⟨hy, ?_⟩
   have hyn := h.nr y hy
   cases e1 : It.ahead a y with
   | true => rfl
   | false =>
    cases e2 : It.ahead y a with
    | true => rfl
    | false =>
     have e3 := ahead_ntr han hyn hxn e1 h2.2
     have e4 := ahead_ntr hxn hyn han h2.1 e2
     rw [e3, e4] at hs
     exact absurd hs (by simp)
def GW (t0 : Int) (w : World) (th : Nat) (t : Tr It) (wr : World) : Prop := Gd w th t wr ∧ t.Whole ∧ Nr7 t0 t.list
theorem GW.below {t0 : Int} {w w1 w2 : World} {th : Nat} {t : Tr It} (h : GW t0 w th t w1) (hb : Below w1.heap.size w1 w2) : GW t0 w th t w2 := ⟨h.1.below hb, h.2⟩
theorem GW.lt {t0 : Int} {w w1 : World} {th : Nat} {t : Tr It} (h : GW t0 w th t w1) : ∀ g ∈ th :: t.blocks, g < w1.heap.size := fun g hg => by
 rcases List.mem_cons.1 hg with rfl | h1
 ·obtain ⟨_, _, t0, _⟩ := h.1.1.1; exact t0.lt
 ·exact (h.1.1.2.1.nl g h1).lt
theorem DIn.items {w : World} : ∀ {t : Tr It}, DIn w t → InI t.list
 | .nil, _ => fun x hx => by simp [Tr.list] at hx
 | .node g c l y r, h => by
  obtain ⟨⟨v, hv, _⟩, h1, h2⟩ := h
  intro x hx
  simp only [Tr.list, List.mem_append, List.mem_cons] at hx
  rcases hx with h3 | rfl | h3
  ·exact DIn.items h1 x h3
  ·exact hv.2.2
  ·exact DIn.items h2 x h3
theorem GW.ins {t0 : Int} {w w1 : World} {th : Nat} {t : Tr It} (h : GW t0 w th t w1) : InI t.list := h.1.1.2.1.items
def Nx (t0 : Int) (w : World) (th : Nat) (t : Tr It) (L : List It) (w1 w2 : World) : Prop := ∃ t', t'.list = L ∧ GW t0 w th t' w2 ∧ Chg (th :: t.blocks) w1 w2 ∧ ∀ g ∈ t'.blocks, g ∈ t.blocks ∨ w1.heap.size ≤ g
theorem Nx.same {t0 : Int} {w w1 w2 : World} {th : Nat} {t : Tr It} (h : GW t0 w th t w1) (hb : Below w1.heap.size w1 w2) : Nx t0 w th t t.list w1 w2 := ⟨t, rfl, h.below hb, Chg.below hb, fun g hg => Or.inl hg⟩
theorem Gd.on {w w1 w2 : World} {th : Nat} {t t' : Tr It} (h : Gd w th t w1) (ht : DTreeAt w2 th t') (hc : Chg (th :: t.blocks) w1 w2) (hn : ∀ g ∈ t'.blocks, g ∈ t.blocks ∨ w1.heap.size ≤ g) : Gd w th t' w2 :=
 ⟨ht, h.2.1, fun g hg => (hn g hg).elim (h.2.2.1 g) (fun h1 => Nat.le_trans h.2.2.2.size h1), h.2.2.2.trans (hc.toBelow h.2.2.2.size (fun g hg => by
  rcases List.mem_cons.1 hg with rfl | h1
  ·exact h.2.1
  ·exact h.2.2.1 g h1))⟩
theorem Tr.hasI {t0 : Int} {x : It} (hx : It.near7 t0 x = true) {t : Tr It} (h : Nr7 t0 t.list) : Tr.has It.ahead x t = Go.Proofs.YtbcepkfdlaioaaaGreat.hasI x t.list := by
 apply Bool.eq_iff_iff.2
 rw [has_iffI x (near_of7 hx) t h.nr h.1, hasI_iff]
theorem GW.insert {t0 : Int} {w w1 : World} {th : Nat} {t : Tr It} (h : GW t0 w th t w1) (x : It) (hx : x.In) (hxn : It.near7 t0 x = true) (hn : t.list.length < 900000) :
  Calls Tryz.prog 9 #[.pointer (some ⟨th, 0, none⟩), x.val] w1 (fun e w2 => e = .returned (.bool (!hasI x t.list)) ∧ Nx t0 w th t (insR x t.list) w1 w2) := by
 have he := Tr.hasI hxn h.2.2
 cases hh : hasI x t.list with
 | true =>
  refine (Dt.insert_no th t x hx w1 h.1.1 (by rw [he, hh])).mono ?_
  rintro e w2 ⟨rfl, hb⟩
  refine ⟨rfl, ?_⟩
  have := Nx.same h hb
  unfold insR
  rw [if_pos hh]
  exact this
 | false =>
  refine (Dt.insert th t x hx w1 h.1.1 hn (by rw [he, hh])).mono ?_
  rintro e w2 ⟨k, hk, rfl, ht, hc⟩
  have hl : ((Tr.put It.ahead k x t).paint false).list = insR x t.list := by
   unfold insR
   rw [Tr.list_paint, list_putI k x (near_of7 hxn) t h.2.2.nr h.2.2.1, if_neg (by rw [hh]; simp)]
  have hb : ∀ g ∈ ((Tr.put It.ahead k x t).paint false).blocks, g ∈ t.blocks ∨ w1.heap.size ≤ g := fun g hg => by
   rw [Tr.blocks_paint] at hg
   rcases List.mem_cons.1 ((Tr.perm_put It.ahead k x t).mem_iff.1 hg) with rfl | h1
   ·exact Or.inr hk
   ·exact Or.inl h1
  exact ⟨rfl, _, hl, ⟨h.1.on ht hc hb, h.2.1.put It.ahead k x, by rw [hl]; exact insR_nr h.2.2 hxn⟩, hc, hb⟩
theorem GW.delete {t0 : Int} {w w1 : World} {th : Nat} {t : Tr It} (h : GW t0 w th t w1) (x : It) (hx : x ∈ t.list) (hn : t.list.length ≤ 900000) :
  Calls Tryz.prog 12 #[.pointer (some ⟨th, 0, none⟩), x.val] w1 (fun e w2 => e = .returned (.bool true) ∧ Nx t0 w th t (delI x t.list) w1 w2) := by
 have hxn := h.2.2.2 x hx
 have hi := irr7 (near_of7 hxn)
 have hh : Tr.has It.ahead x t = true := by rw [Tr.hasI hxn h.2.2]; exact hasI_iff.2 ⟨x, hx, hi, hi⟩
 obtain ⟨A, B, hl, ha, hb⟩ := srt_parts h.2.2.1 hx
 have han : ∀ a ∈ A, It.ahead x a = false := fun a h1 => ahead_asym (h.2.2.nr a (by rw [hl]; simp [h1])) (near_of7 hxn) (ha a h1)
 have hbn : ∀ b ∈ B, It.ahead b x = false := fun b h1 => ahead_asym (near_of7 hxn) (h.2.2.nr b (by rw [hl]; simp [h1])) (hb b h1)
 have hs : Tr.Has It.ahead x A x B := ⟨fun a h1 => by first | exact ⟨ha a h1, han a h1⟩ | exact ⟨han a h1, ha a h1⟩, fun b h1 => by first | exact ⟨hb b h1, hbn b h1⟩ | exact ⟨hbn b h1, hb b h1⟩, hi, hi⟩
 have hne : t ≠ .nil := by rintro rfl; simp [Tr.list] at hx
 refine (Dt.delete th t x (h.ins x hx) w1 A x B h.1.1 hn hh (h.2.1.pre hne) hs hl).mono ?_
 rintro e w2 ⟨rfl, ht, hc⟩
 have hr := h.2.1.rem hs hl (Nat.le_refl _)
 have hll : ((Tr.rem It.ahead t.size x t).paint false).list = delI x t.list := by rw [hr.2, hl, delI_parts (near_of7 hxn) ha hb]
 have hbl : ∀ g ∈ ((Tr.rem It.ahead t.size x t).paint false).blocks, g ∈ t.blocks ∨ w1.heap.size ≤ g := fun g hg => by
  rw [Tr.blocks_paint] at hg
  exact Or.inl ((Tr.Of.rem It.ahead x t.size t).2 g hg)
 exact ⟨rfl, _, hll, ⟨h.1.on ht hc hbl, hr.1, by rw [hll]; exact delI_nr h.2.2⟩, hc, hbl⟩
set_option maxRecDepth 100000 in
set_option maxHeartbeats 4000000 in
theorem GW.replace {t0 : Int} {w w1 : World} {th : Nat} {t : Tr It} (h : GW t0 w th t w1) (old new : It) (ho : old ∈ t.list) (hn : new.In) (hnn : It.near7 t0 new = true) (hlen : t.list.length ≤ 1000) :
  Calls Tryz.prog 14 #[.agg #[.pointer (some ⟨th, 0, none⟩)], old.val, new.val] w1 (fun e w2 => e = .returned (.bool (repO old new t.list)) ∧ Nx t0 w th t (repR old new t.list) w1 w2) := by
 have hb0 := (((Below.refl w1.heap.size w1).alloc (Nat.le_refl _) (.cells #[.pointer (some ⟨th, 0, none⟩)] 27)).alloc (by simp) (.cells #[.int .u64 old.t, .int .u32 old.r, .int .u32 old.v, .int .i64 old.i, .int .u64 old.u, .int .u32 old.s, .int .u32 old.y] 35)).alloc (by simp; omega) (.cells #[.int .u64 new.t, .int .u32 new.r, .int .u32 new.v, .int .i64 new.i, .int .u64 new.u, .int .u32 new.s, .int .u32 new.y] 35)
 have hC0 : Cs (((w1.alloc (.cells #[.pointer (some ⟨th, 0, none⟩)] 27)).alloc (.cells #[.int .u64 old.t, .int .u32 old.r, .int .u32 old.v, .int .i64 old.i, .int .u64 old.u, .int .u32 old.s, .int .u32 old.y] 35)).alloc (.cells #[.int .u64 new.t, .int .u32 new.r, .int .u32 new.v, .int .i64 new.i, .int .u64 new.u, .int .u32 new.s, .int .u32 new.y] 35)) w1.heap.size [(.pointer (some ⟨th, 0, none⟩))] := ((Cs.alloc_new w1 27 [(.pointer (some ⟨th, 0, none⟩))]).alloc _).alloc _
 have hC1 : Cs (((w1.alloc (.cells #[.pointer (some ⟨th, 0, none⟩)] 27)).alloc (.cells #[.int .u64 old.t, .int .u32 old.r, .int .u32 old.v, .int .i64 old.i, .int .u64 old.u, .int .u32 old.s, .int .u32 old.y] 35)).alloc (.cells #[.int .u64 new.t, .int .u32 new.r, .int .u32 new.v, .int .i64 new.i, .int .u64 new.u, .int .u32 new.s, .int .u32 new.y] 35)) (w1.heap.size + 1) old.cells := by
  have := (Cs.new7 (w1.alloc (.cells #[.pointer (some ⟨th, 0, none⟩)] 27)) 35 old).alloc (.cells #[.int .u64 new.t, .int .u32 new.r, .int .u32 new.v, .int .i64 new.i, .int .u64 new.u, .int .u32 new.s, .int .u32 new.y] 35)
  simpa using this
 have hC2 : Cs (((w1.alloc (.cells #[.pointer (some ⟨th, 0, none⟩)] 27)).alloc (.cells #[.int .u64 old.t, .int .u32 old.r, .int .u32 old.v, .int .i64 old.i, .int .u64 old.u, .int .u32 old.s, .int .u32 old.y] 35)).alloc (.cells #[.int .u64 new.t, .int .u32 new.r, .int .u32 new.v, .int .i64 new.i, .int .u64 new.u, .int .u32 new.s, .int .u32 new.y] 35)) (w1.heap.size + 2) new.cells := by
  have := Cs.new7 ((w1.alloc (.cells #[.pointer (some ⟨th, 0, none⟩)] 27)).alloc (.cells #[.int .u64 old.t, .int .u32 old.r, .int .u32 old.v, .int .i64 old.i, .int .u64 old.u, .int .u32 old.s, .int .u32 old.y] 35)) 35 new
  simpa using this
 have HV := hid (And.intro (And.intro hC0 hC1) (And.intro hC2 hb0))
 have HG := hid h
 have HO := hid ho
 have HOI := hid (h.ins old ho)
 have HNI := hid hn
 have HNN := hid hnn
 have HLN := hid hlen
 have HLT := hid h.lt
 have HHD := hid (hasI_del h.2.2 ho hnn)
 clear h hn hnn hb0 hC0 hC1 hC2 ho hlen
 unfold It.val
 go_enter Tryz.func14, Tryz.ntmps14
 go_upto_region 1 with fail
 generalize (((w1.alloc (.cells #[.pointer (some ⟨th, 0, none⟩)] 27)).alloc (.cells #[.int .u64 old.t, .int .u32 old.r, .int .u32 old.v, .int .i64 old.i, .int .u64 old.u, .int .u32 old.s, .int .u32 old.y] 35)).alloc (.cells #[.int .u64 new.t, .int .u32 new.r, .int .u32 new.v, .int .i64 new.i, .int .u64 new.u, .int .u32 new.s, .int .u32 new.y] 35)) = W0 at HV ⊢
 have HB0 := hid HV.out.2.2
 have HG0 := hid (HG.out.below HB0.out)
 obtain ⟨o0, o1, o2, o3, o4, o5, o6⟩ := It.at old HV.out.1.2
 obtain ⟨n0, n1, n2, n3, n4, n5, n6⟩ := It.at new HV.out.2.1
 have e0 := HV.out.1.1.at0
 have HV0 := hid HV.out
 clear HV
 go_wp2_with fail
 refine (Item.ahead old new HOI.out HNI.out _).mono ?_
 rintro e wa ⟨rfl, hb⟩
 have HVwa := hid (And.intro (And.intro (HV0.out.1.1.below hb) (HV0.out.1.2.below hb)) (And.intro (HV0.out.2.1.below hb) (below_on HV0.out.2.2 hb)))
 have HGwa := hid (HG0.out.below hb)
 clear hb o0 o1 o2 o3 o4 o5 o6 n0 n1 n2 n3 n4 n5 n6 e0
 obtain ⟨o0, o1, o2, o3, o4, o5, o6⟩ := It.at old HVwa.out.1.2
 obtain ⟨n0, n1, n2, n3, n4, n5, n6⟩ := It.at new HVwa.out.2.1
 have e0 := HVwa.out.1.1.at0
 clear HV0 HG0
 cases hh1 : It.ahead old new with
 | true =>
  have HSM : Hid ((It.ahead old new || It.ahead new old) = true) := hid (by rw [hh1]; rfl)
  clear hh1
  go_wp2_with fail
  refine (Dt.has th t new HNI.out _ HGwa.out.1.1).mono ?_
  rw [Tr.hasI HNN.out HG.out.2.2]
  rintro e wh ⟨rfl, hb⟩
  have HVwh := hid (And.intro (And.intro (HVwa.out.1.1.below hb) (HVwa.out.1.2.below hb)) (And.intro (HVwa.out.2.1.below hb) (below_on HVwa.out.2.2 hb)))
  have HGwh := hid (HGwa.out.below hb)
  clear hb o0 o1 o2 o3 o4 o5 o6 n0 n1 n2 n3 n4 n5 n6 e0
  obtain ⟨o0, o1, o2, o3, o4, o5, o6⟩ := It.at old HVwh.out.1.2
  obtain ⟨n0, n1, n2, n3, n4, n5, n6⟩ := It.at new HVwh.out.2.1
  have e0 := HVwh.out.1.1.at0
  clear HVwa HGwa
  cases hh3 : hasI new t.list with
  | true =>
   have HHX := hid hh3
   clear hh3
   have HF := hid (Nx.same HG.out HVwh.out.2.2)
   have HOK : Hid (repO old new t.list = false) := hid (by unfold repO; rw [HHD.out, HSM.out, HHX.out]; rfl)
   clear o0 o1 o2 o3 o4 o5 o6 n0 n1 n2 n3 n4 n5 n6 e0
   go_wp2_with fail
   go_ret
   exact ⟨by rw [HOK.out]; rfl, by unfold repR; rw [if_neg (by rw [HOK.out]; simp)]; exact HF.out⟩
  | false =>
   have HHX := hid hh3
   clear hh3
   go_wp2_with fail
   refine (HGwh.out.delete old HO.out (by have := HLN.out; omega)).mono ?_
   rintro e wd ⟨rfl, td, hld, hgd, hcd, hbd⟩
   have HVd : Hid ((Cs wd w1.heap.size [(.pointer (some ⟨th, 0, none⟩))] ∧ Cs wd (w1.heap.size + 1) old.cells) ∧ Cs wd (w1.heap.size + 2) new.cells) := hid (by
    have h9 : ∀ g, w1.heap.size ≤ g → g ∉ th :: t.blocks := fun g h1 h2 => by have := HLT.out g h2; omega
    exact ⟨⟨HVwh.out.1.1.chg hcd (h9 _ (by omega)), HVwh.out.1.2.chg hcd (h9 _ (by omega))⟩, HVwh.out.2.1.chg hcd (h9 _ (by omega))⟩)
   have HGd := hid hgd
   have HLd := hid hld
   have HCd : Hid (Chg (th :: t.blocks) w1 wd ∧ ∀ g ∈ td.blocks, g ∈ t.blocks ∨ w1.heap.size ≤ g) := hid ⟨(Chg.below HVwh.out.2.2).trans hcd (fun g hg => Or.inl hg), fun g hg => (hbd g hg).imp id (fun h1 => Nat.le_trans HVwh.out.2.2.size h1)⟩
   clear hld hgd hcd hbd o0 o1 o2 o3 o4 o5 o6 n0 n1 n2 n3 n4 n5 n6 e0 HVwh HGwh
   obtain ⟨n0, n1, n2, n3, n4, n5, n6⟩ := It.at new HVd.out.2
   have e0 := HVd.out.1.1.at0
   go_wp2_with fail
   refine (HGd.out.insert new HNI.out HNN.out (by rw [HLd.out]; have := HLN.out; have := @delI_len old t.list; omega)).mono ?_
   rw [HLd.out]
   rintro e wi ⟨rfl, ti, hli, hgi, hci, hbi⟩
   have HOK : Hid (repO old new t.list = true) := hid (by unfold repO; rw [HHD.out, HSM.out, HHX.out]; rfl)
   have HF : Hid (Nx t0 w th t (repR old new t.list) w1 wi) := hid ⟨ti, by rw [hli]; unfold repR insR; rw [if_pos HOK.out, if_neg (by have := HOK.out; unfold repO at this; simpa using this)], hgi, HCd.out.1.trans hci (fun g hg => by
    rcases List.mem_cons.1 hg with rfl | h1
    ·exact Or.inl (by simp)
    ·exact (HCd.out.2 g h1).imp (fun h2 => List.mem_cons_of_mem _ h2) id), fun g hg => (hbi g hg).elim (HCd.out.2 g) (fun h1 => Or.inr (Nat.le_trans HCd.out.1.size h1))⟩
   clear hli hgi hci hbi n0 n1 n2 n3 n4 n5 n6 e0
   go_wp2_with fail
   go_ret
   exact ⟨rfl, HF.out⟩
 | false =>
  go_wp2_with fail
  refine (Item.ahead new old HNI.out HOI.out _).mono ?_
  rintro e wb ⟨rfl, hb⟩
  have HVwb := hid (And.intro (And.intro (HVwa.out.1.1.below hb) (HVwa.out.1.2.below hb)) (And.intro (HVwa.out.2.1.below hb) (below_on HVwa.out.2.2 hb)))
  have HGwb := hid (HGwa.out.below hb)
  clear hb o0 o1 o2 o3 o4 o5 o6 n0 n1 n2 n3 n4 n5 n6 e0
  obtain ⟨o0, o1, o2, o3, o4, o5, o6⟩ := It.at old HVwb.out.1.2
  obtain ⟨n0, n1, n2, n3, n4, n5, n6⟩ := It.at new HVwb.out.2.1
  have e0 := HVwb.out.1.1.at0
  clear HVwa HGwa
  cases hh2 : It.ahead new old with
  | true =>
   have HSM : Hid ((It.ahead old new || It.ahead new old) = true) := hid (by rw [hh2]; simp)
   clear hh1 hh2
   go_wp2_with fail
   refine (Dt.has th t new HNI.out _ HGwb.out.1.1).mono ?_
   rw [Tr.hasI HNN.out HG.out.2.2]
   rintro e wh ⟨rfl, hb⟩
   have HVwh := hid (And.intro (And.intro (HVwb.out.1.1.below hb) (HVwb.out.1.2.below hb)) (And.intro (HVwb.out.2.1.below hb) (below_on HVwb.out.2.2 hb)))
   have HGwh := hid (HGwb.out.below hb)
   clear hb o0 o1 o2 o3 o4 o5 o6 n0 n1 n2 n3 n4 n5 n6 e0
   obtain ⟨o0, o1, o2, o3, o4, o5, o6⟩ := It.at old HVwh.out.1.2
   obtain ⟨n0, n1, n2, n3, n4, n5, n6⟩ := It.at new HVwh.out.2.1
   have e0 := HVwh.out.1.1.at0
   clear HVwb HGwb
   cases hh3 : hasI new t.list with
   | true =>
    have HHX := hid hh3
    clear hh3
    have HF := hid (Nx.same HG.out HVwh.out.2.2)
    have HOK : Hid (repO old new t.list = false) := hid (by unfold repO; rw [HHD.out, HSM.out, HHX.out]; rfl)
    clear o0 o1 o2 o3 o4 o5 o6 n0 n1 n2 n3 n4 n5 n6 e0
    go_wp2_with fail
    go_ret
    exact ⟨by rw [HOK.out]; rfl, by unfold repR; rw [if_neg (by rw [HOK.out]; simp)]; exact HF.out⟩
   | false =>
    have HHX := hid hh3
    clear hh3
    go_wp2_with fail
    refine (HGwh.out.delete old HO.out (by have := HLN.out; omega)).mono ?_
    rintro e wd ⟨rfl, td, hld, hgd, hcd, hbd⟩
    have HVd : Hid ((Cs wd w1.heap.size [(.pointer (some ⟨th, 0, none⟩))] ∧ Cs wd (w1.heap.size + 1) old.cells) ∧ Cs wd (w1.heap.size + 2) new.cells) := hid (by
     have h9 : ∀ g, w1.heap.size ≤ g → g ∉ th :: t.blocks := fun g h1 h2 => by have := HLT.out g h2; omega
     exact ⟨⟨HVwh.out.1.1.chg hcd (h9 _ (by omega)), HVwh.out.1.2.chg hcd (h9 _ (by omega))⟩, HVwh.out.2.1.chg hcd (h9 _ (by omega))⟩)
    have HGd := hid hgd
    have HLd := hid hld
    have HCd : Hid (Chg (th :: t.blocks) w1 wd ∧ ∀ g ∈ td.blocks, g ∈ t.blocks ∨ w1.heap.size ≤ g) := hid ⟨(Chg.below HVwh.out.2.2).trans hcd (fun g hg => Or.inl hg), fun g hg => (hbd g hg).imp id (fun h1 => Nat.le_trans HVwh.out.2.2.size h1)⟩
    clear hld hgd hcd hbd o0 o1 o2 o3 o4 o5 o6 n0 n1 n2 n3 n4 n5 n6 e0 HVwh HGwh
    obtain ⟨n0, n1, n2, n3, n4, n5, n6⟩ := It.at new HVd.out.2
    have e0 := HVd.out.1.1.at0
    go_wp2_with fail
    refine (HGd.out.insert new HNI.out HNN.out (by rw [HLd.out]; have := HLN.out; have := @delI_len old t.list; omega)).mono ?_
    rw [HLd.out]
    rintro e wi ⟨rfl, ti, hli, hgi, hci, hbi⟩
    have HOK : Hid (repO old new t.list = true) := hid (by unfold repO; rw [HHD.out, HSM.out, HHX.out]; rfl)
    have HF : Hid (Nx t0 w th t (repR old new t.list) w1 wi) := hid ⟨ti, by rw [hli]; unfold repR insR; rw [if_pos HOK.out, if_neg (by have := HOK.out; unfold repO at this; simpa using this)], hgi, HCd.out.1.trans hci (fun g hg => by
     rcases List.mem_cons.1 hg with rfl | h1
     ·exact Or.inl (by simp)
     ·exact (HCd.out.2 g h1).imp (fun h2 => List.mem_cons_of_mem _ h2) id), fun g hg => (hbi g hg).elim (HCd.out.2 g) (fun h1 => Or.inr (Nat.le_trans HCd.out.1.size h1))⟩
    clear hli hgi hci hbi n0 n1 n2 n3 n4 n5 n6 e0
    go_wp2_with fail
    go_ret
    exact ⟨rfl, HF.out⟩
  | false =>
   have HSM : Hid ((It.ahead old new || It.ahead new old) = false) := hid (by rw [hh1, hh2]; rfl)
   clear hh1 hh2
   go_wp2_with fail
   refine (HGwb.out.delete old HO.out (by have := HLN.out; omega)).mono ?_
   rintro e wd ⟨rfl, td, hld, hgd, hcd, hbd⟩
   have HVd : Hid ((Cs wd w1.heap.size [(.pointer (some ⟨th, 0, none⟩))] ∧ Cs wd (w1.heap.size + 1) old.cells) ∧ Cs wd (w1.heap.size + 2) new.cells) := hid (by
    have h9 : ∀ g, w1.heap.size ≤ g → g ∉ th :: t.blocks := fun g h1 h2 => by have := HLT.out g h2; omega
    exact ⟨⟨HVwb.out.1.1.chg hcd (h9 _ (by omega)), HVwb.out.1.2.chg hcd (h9 _ (by omega))⟩, HVwb.out.2.1.chg hcd (h9 _ (by omega))⟩)
   have HGd := hid hgd
   have HLd := hid hld
   have HCd : Hid (Chg (th :: t.blocks) w1 wd ∧ ∀ g ∈ td.blocks, g ∈ t.blocks ∨ w1.heap.size ≤ g) := hid ⟨(Chg.below HVwb.out.2.2).trans hcd (fun g hg => Or.inl hg), fun g hg => (hbd g hg).imp id (fun h1 => Nat.le_trans HVwb.out.2.2.size h1)⟩
   clear hld hgd hcd hbd o0 o1 o2 o3 o4 o5 o6 n0 n1 n2 n3 n4 n5 n6 e0 HVwb HGwb
   obtain ⟨n0, n1, n2, n3, n4, n5, n6⟩ := It.at new HVd.out.2
   have e0 := HVd.out.1.1.at0
   go_wp2_with fail
   refine (HGd.out.insert new HNI.out HNN.out (by rw [HLd.out]; have := HLN.out; have := @delI_len old t.list; omega)).mono ?_
   rw [HLd.out]
   rintro e wi ⟨rfl, ti, hli, hgi, hci, hbi⟩
   have HOK : Hid (repO old new t.list = true) := hid (by unfold repO; rw [HHD.out, HSM.out]; rfl)
   have HF : Hid (Nx t0 w th t (repR old new t.list) w1 wi) := hid ⟨ti, by rw [hli]; unfold repR insR; rw [if_pos HOK.out, if_neg (by have := HOK.out; unfold repO at this; simpa using this)], hgi, HCd.out.1.trans hci (fun g hg => by
    rcases List.mem_cons.1 hg with rfl | h1
    ·exact Or.inl (by simp)
    ·exact (HCd.out.2 g h1).imp (fun h2 => List.mem_cons_of_mem _ h2) id), fun g hg => (hbi g hg).elim (HCd.out.2 g) (fun h1 => Or.inr (Nat.le_trans HCd.out.1.size h1))⟩
   clear hli hgi hci hbi n0 n1 n2 n3 n4 n5 n6 e0
   go_wp2_with fail
   go_ret
   exact ⟨rfl, HF.out⟩
end


section
open Go.RowKit
theorem dif_wrap (t u d : Int) : dif (IntKind.u64.wrap (t + d)) (IntKind.u64.wrap (u + d)) = dif t u := by
 rw [IntKind.wrap_u64, IntKind.wrap_u64]; unfold dif; omega
theorem It.ahead_shift (d : Int) (a b : It) : It.ahead (It.shift d a) (It.shift d b) = It.ahead a b := by
 unfold It.ahead It.shift posC; simp only [dif_wrap]
theorem It.near_shift (d t : Int) (a : It) : It.near (IntKind.u64.wrap (t + d)) (It.shift d a) = It.near t a := by
 unfold It.near It.right It.shift; simp only [dif_wrap]
theorem NrL.shift {t : Int} {L : List It} (h : NrL t L) (d : Int) : NrL (IntKind.u64.wrap (t + d)) (L.map (It.shift d)) := fun x hx => by
 obtain ⟨y, hy, rfl⟩ := List.mem_map.1 hx
 rw [It.near_shift]; exact h y hy
theorem SrtI.shift {L : List It} (h : SrtI L) (d : Int) : SrtI (L.map (It.shift d)) := by
 unfold SrtI at *
 rw [List.pairwise_map]
 exact h.imp (fun h => by rw [It.ahead_shift]; exact h)
theorem takeWhile_end {p : It → Bool} : ∀ {L : List It}, (∀ y ∈ L, p y = true) → L.takeWhile p = L ∧ L.dropWhile p = []
 | [], _ => ⟨rfl, rfl⟩
 | a :: L, h => by
  have ha := h a (by simp)
  obtain ⟨h1, h2⟩ := takeWhile_end (L := L) (fun y hy => h y (by simp [hy]))
  rw [List.takeWhile_cons, List.dropWhile_cons, if_pos ha, if_pos ha, h1, h2]
  exact ⟨rfl, rfl⟩
theorem Built.ordered {t0 : Int} {L : List It} {t : Tr It} (hb : Built L t) : NrL t0 L → SrtI L → t.list = L := by
 induction hb with
 | nil => intro _ _; rfl
 | @put l t x k hb hh ih =>
  intro hn hs
  have hnl : NrL t0 l := fun y hy => hn y (by simp [hy])
  have hx := hn x (by simp)
  unfold SrtI at hs
  rw [List.pairwise_append] at hs
  have e := ih hnl hs.1
  rw [Tr.list_paint, list_putI k x hx t (by rw [e]; exact hnl) (by rw [e]; exact hs.1), e]
  unfold insI
  obtain ⟨h1, h2⟩ := takeWhile_end (p := fun y => !It.ahead x y) (L := l) (fun y hy => by
   have h3 := hs.2.2 y hy x (by simp)
   rw [ahead_asym (hnl y hy) hx h3]; rfl)
  rw [h1, h2]
 | @skip l t x hb hh ih =>
  intro hn hs
  have hnl : NrL t0 l := fun y hy => hn y (by simp [hy])
  have hx := hn x (by simp)
  unfold SrtI at hs
  rw [List.pairwise_append] at hs
  have e := ih hnl hs.1
  obtain ⟨y, hy, h1, h2⟩ := (has_iffI x hx t (by rw [e]; exact hnl) (by rw [e]; exact hs.1)).1 hh
  rw [e] at hy
  have h3 := hs.2.2 y hy x (by simp)
  rw [h2] at h3; cases h3
theorem srt_one {L : List It} (hs : SrtI L) {a b : It} (ha : a ∈ L) (hb : b ∈ L) (h1 : It.ahead a b = false) (h2 : It.ahead b a = false) : a = b := by
 unfold SrtI at hs
 induction L with
 | nil => cases ha
 | cons x L ih =>
  rw [List.pairwise_cons] at hs
  rcases List.mem_cons.1 ha with rfl | ha'
  ·rcases List.mem_cons.1 hb with rfl | hb'
   ·rfl
   ·have := hs.1 b hb'; rw [h1] at this; cases this
  ·rcases List.mem_cons.1 hb with rfl | hb'
   ·have := hs.1 a ha'; rw [h2] at this; cases this
   ·exact ih hs.2 ha' hb'
theorem best_one {t0 : Int} {L : List It} (hn : NrL t0 L) (hs : SrtI L) {a b : It} (ha : IsBest a L) (hb : IsBest b L) : a = b := by
 have na := hn a ha.1
 have nb := hn b hb.1
 have h1 := (due_no nb na).1 (ha.2 b hb.1)
 have h2 := (due_no na nb).1 (hb.2 a ha.1)
 have k := Pl.anti (a.p2 t0) (b.p2 t0)
 rcases h1 with h1 | ⟨h1, h1'⟩
 ·rcases h2 with h2 | ⟨h2, h2'⟩
  ·exfalso; omega
  ·exfalso; omega
 ·rcases h2 with h2 | ⟨h2, h2'⟩
  ·exfalso; omega
  ·exact srt_one hs ha.1 hb.1 h2' h1'
end


section
open Go.RowKit
set_option maxRecDepth 100000
set_option maxHeartbeats 32000000
theorem Ref7.replace (A : Option Addr) (n c : Nat) (L : List It) (a x : It) (ha : a.In) (hx : x.In) (w : World) (hr : RdI w A n L) (hl : InI L) (hn : n ≤ 900000) (hnc : n ≤ c) (hd : decide ((delI a L).length < L.length) = true) : Calls Tryz.prog 15 #[.slice A n c, a.val, x.val] w (RdsI A (repR a x L) (repO a x L) w) := by
 have hal := ((Below.refl w.heap.size w).alloc (Nat.le_refl _) (.cells #[.int .u64 a.t, .int .u32 a.r, .int .u32 a.v, .int .i64 a.i, .int .u64 a.u, .int .u32 a.s, .int .u32 a.y] 48)).alloc (by simp) (.cells #[.int .u64 x.t, .int .u32 x.r, .int .u32 x.v, .int .i64 x.i, .int .u64 x.u, .int .u32 x.s, .int .u32 x.y] 48)
 have HA : Hid (Cs ((w.alloc (.cells #[.int .u64 a.t, .int .u32 a.r, .int .u32 a.v, .int .i64 a.i, .int .u64 a.u, .int .u32 a.s, .int .u32 a.y] 48)).alloc (.cells #[.int .u64 x.t, .int .u32 x.r, .int .u32 x.v, .int .i64 x.i, .int .u64 x.u, .int .u32 x.s, .int .u32 x.y] 48)) w.heap.size a.cells) := hid ((Cs.new7 w 48 a).alloc _)
 have HX : Hid (Cs ((w.alloc (.cells #[.int .u64 a.t, .int .u32 a.r, .int .u32 a.v, .int .i64 a.i, .int .u64 a.u, .int .u32 a.s, .int .u32 a.y] 48)).alloc (.cells #[.int .u64 x.t, .int .u32 x.r, .int .u32 x.v, .int .i64 x.i, .int .u64 x.u, .int .u32 x.s, .int .u32 x.y] 48)) (w.heap.size + 1) x.cells) := hid (by have := Cs.new7 (w.alloc (.cells #[.int .u64 a.t, .int .u32 a.r, .int .u32 a.v, .int .i64 a.i, .int .u64 a.u, .int .u32 a.s, .int .u32 a.y] 48)) 48 x; simpa using this)
 have HB0 := hid hal
 have HR := hid (hr.below hal)
 have HL := hid hl
 have HAI := hid ha
 have HXI := hid hx
 have HD := hid hd
 have HLN := hid hr.1
 clear hr hl hx ha hal hd
 unfold It.val
 go_enter Tryz.func15, Tryz.ntmps15
 go_upto_region 1 with fail
 generalize ((w.alloc (.cells #[.int .u64 a.t, .int .u32 a.r, .int .u32 a.v, .int .i64 a.i, .int .u64 a.u, .int .u32 a.s, .int .u32 a.y] 48)).alloc (.cells #[.int .u64 x.t, .int .u32 x.r, .int .u32 x.v, .int .i64 x.i, .int .u64 x.u, .int .u32 x.s, .int .u32 x.y] 48)) = W0 at HA HX HB0 HR ⊢
 obtain ⟨a0, a1, a2, a3, a4, a5, a6⟩ := It.at a HA.out
 go_wp2_with fail
 refine (Ref7.delete A n c L a HAI.out _ HR.out HL.out (by omega)).mono ?_
 rw [HD.out]
 rintro e w1 ⟨A1, n1, c1, rfl, hr1, hb, hc1, hg1⟩
 have HR1 := hid hr1
 have HX1 := hid (HX.out.below hb)
 have HRO := hid (HR.out.below hb)
 have HB1 := hid (below_on HB0.out hb)
 have HSZ : Hid (w.heap.size ≤ W0.heap.size ∧ w.heap.size ≤ w1.heap.size) := hid ⟨HB0.out.size, HB1.out.size⟩
 have HN1 : Hid (n1 ≤ 900000) := hid (by have := hr1.1; have := HLN.out; have := @delI_len a L; omega)
 clear hr1 hb a0 a1 a2 a3 a4 a5 a6 HA HX HR HB0
 obtain ⟨x0, x1, x2, x3, x4, x5, x6⟩ := It.at x HX1.out
 go_wp2_with fail
 refine (Ref7.insert A1 n1 c1 (delI a L) x HXI.out _ HR1.out (fun y hy => HL.out y (List.mem_filter.1 hy).1) HN1.out hc1).mono ?_
 rintro e w2 ⟨A2, n2, c2, rfl, hr2, hb, hc2, hg2⟩
 have HG2 : Hid (A2 = A ∨ ∀ k ∈ rowOf A2, w.heap.size ≤ k ∧ k < w2.heap.size) := hid (by
  rcases hg2 with rfl | h2
  ·rcases hg1 with rfl | h1
   ·exact Or.inl rfl
   ·exact Or.inr (fun k hk => ⟨Nat.le_trans HSZ.out.1 (h1 k hk).1, Nat.lt_of_lt_of_le (h1 k hk).2 hb.size⟩)
  ·exact Or.inr (fun k hk => ⟨Nat.le_trans HSZ.out.2 (h2 k hk).1, (h2 k hk).2⟩))
 clear hg1 hg2
 have HR2 := hid hr2
 have HRO2 := hid (HRO.out.below hb)
 have HB2 := hid (below_on HB1.out hb)
 clear hr2 hb x0 x1 x2 x3 x4 x5 x6 HX1 HR1 HRO HB1
 cases hh : hasI x (delI a L) with
 | true =>
  have HOK : Hid (repO a x L = false) := hid (by unfold repO; rw [hh]; rfl)
  clear hh
  go_wp2_with fail
  refine bodyPost_ret (v := .tuple #[.slice A n c, .bool false]) (by simp [results, Tryz.results15, go_sem]) rfl ?_
  exact ⟨A, n, c, by rw [HOK.out], by unfold repR; rw [if_neg (by rw [HOK.out]; simp)]; exact HRO2.out, HB2.out, hnc, Or.inl rfl⟩
 | false =>
  have HOK : Hid (repO a x L = true) := hid (by unfold repO; rw [hh]; rfl)
  have HRR : Hid (insR x (delI a L) = repR a x L) := hid (by unfold repR insR; rw [if_pos HOK.out, if_neg (by rw [hh]; simp)])
  clear hh
  go_wp2_with fail
  refine bodyPost_ret (v := .tuple #[.slice A2 n2 c2, .bool true]) (by simp [results, Tryz.results15, go_sem]) rfl ?_
  exact ⟨A2, n2, c2, by rw [HOK.out], by rw [← HRR.out]; exact HR2.out, HB2.out, hc2, HG2.out⟩
def soonI (k : Nat) (L : List It) : Bool × It := if k = 0 then (false, It.zero) else (true, (L.take k).foldl sooner ((L.take k).getD 0 It.zero))
theorem RdI.upto {w : World} {A : Option Addr} {n k : Nat} {L : List It} (h : RdI w A n L) (hk : k ≤ n) : RdI w A k (L.take k) :=
 ⟨by rw [List.length_take, h.1]; omega, fun i hi => by
  obtain ⟨b, off, e, hl, hc⟩ := h.2 i (by omega)
  refine ⟨b, off, e, hl, fun j hj => ?_⟩
  have := hc j (by omega)
  have e2 : (L.take k).getD j It.zero = L.getD j It.zero := by simp [List.getD, hj]
  rw [e2]
  exact this⟩
theorem fold_first7 (a : It) (l : List It) : (a :: l).foldl sooner ((a :: l).getD 0 It.zero) = l.foldl sooner a := by
 rw [List.foldl_cons, show (a :: l).getD 0 It.zero = a from rfl, show sooner a a = a by unfold sooner; split <;> rfl]
theorem foldl_best {t0 : Int} : ∀ (l : List It) (a : It) (M : List It), NrL t0 l → NrL t0 M → IsBest a M → IsBest (l.foldl sooner a) (M ++ l)
 | [], a, M, _, _, h => by simpa using h
 | b :: l, a, M, hl, hM, h => by
  rw [List.foldl_cons, show M ++ b :: l = (M ++ [b]) ++ l by simp]
  have hb : NrL t0 [b] := fun y hy => by simp at hy; subst hy; exact hl _ (by simp)
  exact foldl_best l _ _ (fun y hy => hl y (List.mem_cons_of_mem _ hy)) (hM.app hb) (IsBest.join hM hb h (IsBest.one (hl b (by simp))))
theorem soonI_desc {t0 : Int} {k : Nat} {L : List It} (h : Nr7 t0 L) (hk : k ≤ L.length) : Desc (soonI k L) (L.take k) := by
 unfold soonI
 by_cases h0 : k = 0
 ·subst h0
  exact Or.inl ⟨rfl, rfl, by simp⟩
 ·rw [if_neg h0]
  refine Or.inr ⟨rfl, ?_⟩
  have hnr : NrL t0 (L.take k) := fun y hy => h.nr y (List.mem_of_mem_take hy)
  cases L with
  | nil => simp at hk; exact absurd hk h0
  | cons b l =>
   cases k with
   | zero => exact absurd rfl h0
   | succ k =>
    simp only [List.take_succ_cons] at hnr ⊢
    rw [fold_first7]
    exact foldl_best (l.take k) b [b] (fun y hy => hnr y (List.mem_cons_of_mem _ hy)) (fun y hy => by simp at hy; subst hy; exact hnr _ (by simp)) (IsBest.one (hnr b (by simp)))
def toldP (k : Nat) (L : List It) (y : It) : Bool := decide (0 < k) && !It.ahead (L.getD (k - 1) It.zero) y
theorem toldP_take {t0 : Int} {k : Nat} {L : List It} (h : Nr7 t0 L) (hk : k ≤ L.length) : L.filter (toldP k L) = L.take k := by
 cases k with
 | zero => rw [List.take_zero]; exact List.filter_eq_nil_iff.2 (fun y _ => by unfold toldP; simp)
 | succ k =>
  have hkl : k < L.length := by omega
  have e : L = L.take (k + 1) ++ L.drop (k + 1) := (List.take_append_drop _ _).symm
  have eT := take_itD hkl
  have hg : (L.getD k It.zero) ∈ L := getD_memI hkl
  have hs := h.1
  unfold SrtI at hs
  rw [e, List.pairwise_append] at hs
  have hlast : L.getD k It.zero ∈ L.take (k + 1) := by rw [eT]; simp
  have h1 : ∀ y ∈ L.take (k + 1), toldP (k + 1) L y = true := fun y hy => by
   have : It.ahead (L.getD k It.zero) y = false := by
    rw [eT] at hy
    rcases List.mem_append.1 hy with h2 | h2
    ·have h3 := hs.1
     rw [eT, List.pairwise_append] at h3
     exact ahead_asym (h.nr y (List.mem_of_mem_take h2)) (h.nr _ hg) (h3.2.2 y h2 _ (by simp))
    ·simp only [List.mem_singleton] at h2
     rw [h2]
     exact irr7 (h.nr _ hg)
   unfold toldP
   simp only [Nat.add_sub_cancel]
   rw [this]
   simp
  have h2 : ∀ y ∈ L.drop (k + 1), ¬ toldP (k + 1) L y = true := fun y hy => by
   unfold toldP
   simp only [Nat.add_sub_cancel]
   rw [hs.2.2 _ hlast y hy]
   simp
  have e3 : ∀ M, M = L → M.filter (toldP (k + 1) L) = L.take (k + 1) := fun M hM => by
   rw [hM.trans e, List.filter_append, List.filter_eq_self.2 h1, List.filter_eq_nil_iff.2 h2]
   simp
  exact e3 L rfl
theorem told_same {t0 : Int} {k : Nat} {t : Tr It} (h : Nr7 t0 t.list) (hk : k ≤ t.list.length) : foldD (toldP k t.list) t (false, It.zero) = soonI k t.list := by
 have hm : ∀ a ∈ t.list, ∀ b ∈ t.list, It.ahead a b = true → toldP k t.list b = true → toldP k t.list a = true := fun a ha b hb hab hp => by
  unfold toldP at hp ⊢
  rw [Bool.and_eq_true] at hp ⊢
  refine ⟨hp.1, ?_⟩
  have h0 : 0 < k := of_decide_eq_true hp.1
  cases hx : It.ahead (t.list.getD (k - 1) It.zero) a with
  | false => rfl
  | true =>
   have := ahead_tr (h.nr _ (getD_memI (by omega))) (h.nr a ha) (h.nr b hb) hx hab
   rw [this] at hp
   exact absurd hp.2 (by simp)
 have h1 := foldD_desc (toldP k t.list) t (false, It.zero) [] h.nr h.1 hm (fun y hy => by cases hy) (Or.inl ⟨rfl, rfl, rfl⟩)
 rw [List.nil_append, toldP_take h hk] at h1
 have h2 := soonI_desc h hk
 generalize foldD (toldP k t.list) t (false, It.zero) = p at h1 ⊢
 generalize soonI k t.list = q at h2 ⊢
 obtain ⟨p1, p2⟩ := p
 obtain ⟨q1, q2⟩ := q
 have hnt : NrL t0 (t.list.take k) := fun y hy => h.nr y (List.mem_of_mem_take hy)
 have hst : SrtI (t.list.take k) := List.Pairwise.sublist (List.take_sublist _ _) h.1
 rcases h1 with ⟨a1, a2, a3⟩ | ⟨a1, a2⟩
 ·rcases h2 with ⟨b1, b2, b3⟩ | ⟨b1, b2⟩
  ·simp only at a1 a2 b1 b2
   rw [a1, a2, b1, b2]
  ·rw [a3] at b2
   exact absurd b2.1 (by simp)
 ·rcases h2 with ⟨b1, b2, b3⟩ | ⟨b1, b2⟩
  ·rw [b3] at a2
   exact absurd a2.1 (by simp)
  ·simp only at a1 b1
   have e : p2 = q2 := best_one hnt hst a2 b2
   rw [a1, b1, e]
theorem Told.one (k0 k1 k : Nat) (A : Option Addr) (n c : Nat) (L : List It) (y : It) (hy : y.In) (hl : InI L) (hk : k ≤ n) (hn : n ≤ 1000) (w : World) (h0 : w.cell? ⟨k0, 0, none⟩ = some (.int .i64 k)) (h1 : w.cell? ⟨k1, 0, none⟩ = some (.slice A n c)) (hr : RdI w A n L) :
  Calls Tryz.prog 39 #[y.val, .pointer (some ⟨k0, 0, none⟩), .pointer (some ⟨k1, 0, none⟩)] w (Ans (.bool (toldP k L y)) w) := by
 have hal := (Below.refl w.heap.size w).alloc (Nat.le_refl _) (.cells #[.int .u64 y.t, .int .u32 y.r, .int .u32 y.v, .int .i64 y.i, .int .u64 y.u, .int .u32 y.s, .int .u32 y.y] 35)
 have HY : Hid (Cs (w.alloc (.cells #[.int .u64 y.t, .int .u32 y.r, .int .u32 y.v, .int .i64 y.i, .int .u64 y.u, .int .u32 y.s, .int .u32 y.y] 35)) w.heap.size y.cells) := hid (Cs.new7 w 35 y)
 have HB0 := hid hal
 have H0 := hid (keep1 hal h0)
 have H1 := hid (keep1 hal h1)
 have HR := hid (hr.below hal)
 have HYI := hid hy
 have HL := hid hl
 have HLN := hid hr.1
 clear h0 h1 hr hy hl hal
 unfold It.val
 go_enter Tryz.func39, Tryz.ntmps39
 go_upto_region 1 with fail
 generalize (w.alloc (.cells #[.int .u64 y.t, .int .u32 y.r, .int .u32 y.v, .int .i64 y.i, .int .u64 y.u, .int .u32 y.s, .int .u32 y.y] 35)) = W0 at HY HB0 H0 H1 HR ⊢
 generalize w.heap.size = gy at HY ⊢
 have hn1 : (n : Int) ≤ 1000 := by omega
 cases k with
 | zero =>
  have hsT1 : Stays (fun wx => Below W0.heap.size W0 wx) := fun _ _ h hb => below_on h hb
  refine wp_region_grow (S := fun wx => Below W0.heap.size W0 wx) 13 (by kernel_rfl) (hsT1 _ _ ((Below.refl W0.heap.size W0)) (Below.refl _ _).drew) ?_
  refine tE 0 (v := ?_) (hsT1) (fun _ h => h) rfl (by kernel_rfl) (by rfl) ?_ ?_
  rotate_left
  ·intro wq hSw
   have k9 := keep1 hSw H0.out
   have k8 := keep1 hSw H1.out
   go_simp; try with_reducible rfl
  try simp only [tdy]
  refine tF 1 (hsT1) (fun _ h => h) ?_
  try simp only [tdy]
  refine tF 2 (hsT1) (fun _ h => h) ?_
  try simp only [tdy]
  refine wpAnyE_take (i := 3) (v := undef) (hsT1) (fun _ h => h) rfl (by kernel_rfl) (by kernel_rfl) (by kernel_rfl) (by kernel_rfl) (fun _ _ _ h => h) (Or.inr ⟨by rfl, rfl⟩) ?_
  try simp only [tdy]
  refine wpAnyE_take (i := 4) (v := undef) (hsT1) (fun _ h => h) rfl (by kernel_rfl) (by kernel_rfl) (by kernel_rfl) (by kernel_rfl) (fun _ _ _ h => h) (Or.inr ⟨by rfl, rfl⟩) ?_
  try simp only [tdy]
  refine wpAnyE_take (i := 5) (v := undef) (hsT1) (fun _ h => h) rfl (by kernel_rfl) (by kernel_rfl) (by kernel_rfl) (by kernel_rfl) (fun _ _ _ h => h) (Or.inr ⟨by rfl, rfl⟩) ?_
  try simp only [tdy]
  refine wpAnyE_take (i := 6) (v := undef) (hsT1) (fun _ h => h) rfl (by kernel_rfl) (by kernel_rfl) (by kernel_rfl) (by kernel_rfl) (fun _ _ _ h => h) (Or.inr ⟨by rfl, rfl⟩) ?_
  try simp only [tdy]
  refine wpAnyE_take (i := 7) (v := undef) (hsT1) (fun _ h => h) rfl (by kernel_rfl) (by kernel_rfl) (by kernel_rfl) (by kernel_rfl) (fun _ _ _ h => h) (Or.inr ⟨by rfl, rfl⟩) ?_
  try simp only [tdy]
  refine wpAnyE_take (i := 8) (v := undef) (hsT1) (fun _ h => h) rfl (by kernel_rfl) (by kernel_rfl) (by kernel_rfl) (by kernel_rfl) (fun _ _ _ h => h) (Or.inr ⟨by rfl, rfl⟩) ?_
  try simp only [tdy]
  refine wpAnyE_take (i := 9) (v := undef) (hsT1) (fun _ h => h) rfl (by kernel_rfl) (by kernel_rfl) (by kernel_rfl) (by kernel_rfl) (fun _ _ _ h => h) (Or.inr ⟨by rfl, rfl⟩) ?_
  try simp only [tdy]
  refine wpAnyE_take (i := 10) (v := undef) (hsT1) (fun _ h => h) rfl (by kernel_rfl) (by kernel_rfl) (by kernel_rfl) (by kernel_rfl) (fun _ _ _ h => h) (Or.inr ⟨by rfl, rfl⟩) ?_
  try simp only [tdy]
  refine tF 11 (hsT1) (fun _ h => h) ?_
  try simp only [tdy]
  refine tF 12 (hsT1) (fun _ h => h) ?_
  try simp only [tdy]
  refine wpAnyE_done (by kernel_rfl) (fun wz hSz => ?_) _
  have HF := hid hSz
  clear hSz
  go_wp2_with fail
  go_ret
  exact ⟨by unfold toldP; rfl, below_on HB0.out HF.out⟩
 | succ k =>
  obtain ⟨bb, off, hA, _, hc⟩ := HR.out.2 0 (by omega)
  have HC := hid (hc k (by omega))
  have HXI := hid (HL.out _ (getD_memI (L := L) (k := k) (by have := HLN.out; omega)))
  have HTP : Hid (toldP (k + 1) L y = !It.ahead (L.getD k It.zero) y) := hid (by unfold toldP; simp)
  generalize L.getD k It.zero = x at *
  subst hA
  clear hc
  have hki : (k : Int) < n := by omega
  have hk0 : (0 : Int) ≤ k := by omega
  have hk2 : (0 : Int) < (k : Int) + 1 := by omega
  have hwk : IntKind.i64.wrap (k : Int) = k := by rw [IntKind.wrap_i64]; omega
  have H0' : Hid (W0.cell? ⟨k0, 0, none⟩ = some (.int .i64 ((k : Int) + 1))) := hid (by have := H0.out; simpa using this)
  have hsT2 : Stays (fun wx => Below W0.heap.size W0 wx) := fun _ _ h hb => below_on h hb
  refine wp_region_grow (S := fun wx => Below W0.heap.size W0 wx) 13 (by kernel_rfl) (hsT2 _ _ ((Below.refl W0.heap.size W0)) (Below.refl _ _).drew) ?_
  refine tE 0 (v := ?_) (hsT2) (fun _ h => h) rfl (by kernel_rfl) (by rfl) ?_ ?_
  rotate_left
  ·intro wq hSw
   have k9 := keep1 hSw H0'.out
   have k8 := keep1 hSw H1.out
   obtain ⟨p0, p1, p2, p3, p4, p5, p6⟩ := HC.out.below hSw
   obtain ⟨y0, y1, y2, y3, y4, y5, y6⟩ := It.at y (HY.out.below hSw)
   go_simp; try with_reducible rfl
  try simp only [tdy]
  refine tF 1 (hsT2) (fun _ h => h) ?_
  try simp only [tdy]
  refine tF 2 (hsT2) (fun _ h => h) ?_
  try simp only [tdy]
  refine tE 3 (v := ?_) (hsT2) (fun _ h => h) rfl (by kernel_rfl) (by rfl) ?_ ?_
  rotate_left
  ·intro wq hSw
   have k9 := keep1 hSw H0'.out
   have k8 := keep1 hSw H1.out
   obtain ⟨p0, p1, p2, p3, p4, p5, p6⟩ := HC.out.below hSw
   obtain ⟨y0, y1, y2, y3, y4, y5, y6⟩ := It.at y (HY.out.below hSw)
   go_simp; try with_reducible rfl
  try simp only [tdy]
  refine tE 4 (v := ?_) (hsT2) (fun _ h => h) rfl (by kernel_rfl) (by rfl) ?_ ?_
  rotate_left
  ·intro wq hSw
   have k9 := keep1 hSw H0'.out
   have k8 := keep1 hSw H1.out
   obtain ⟨p0, p1, p2, p3, p4, p5, p6⟩ := HC.out.below hSw
   obtain ⟨y0, y1, y2, y3, y4, y5, y6⟩ := It.at y (HY.out.below hSw)
   go_simp; try with_reducible rfl
  try simp only [tdy]
  refine tF 5 (hsT2) (fun _ h => h) ?_
  try simp only [tdy]
  refine tF 6 (hsT2) (fun _ h => h) ?_
  try simp only [tdy]
  refine tE 7 (v := ?_) (hsT2) (fun _ h => h) rfl (by kernel_rfl) (by rfl) ?_ ?_
  rotate_left
  ·intro wq hSw
   have k9 := keep1 hSw H0'.out
   have k8 := keep1 hSw H1.out
   obtain ⟨p0, p1, p2, p3, p4, p5, p6⟩ := HC.out.below hSw
   obtain ⟨y0, y1, y2, y3, y4, y5, y6⟩ := It.at y (HY.out.below hSw)
   go_simp; try with_reducible rfl
  try simp only [tdy]
  refine tE 8 (v := ?_) (hsT2) (fun _ h => h) rfl (by kernel_rfl) (by rfl) ?_ ?_
  rotate_left
  ·intro wq hSw
   have k9 := keep1 hSw H0'.out
   have k8 := keep1 hSw H1.out
   obtain ⟨p0, p1, p2, p3, p4, p5, p6⟩ := HC.out.below hSw
   obtain ⟨y0, y1, y2, y3, y4, y5, y6⟩ := It.at y (HY.out.below hSw)
   go_simp; try with_reducible rfl
  try simp only [tdy]
  refine tC 9 (v := .bool (It.ahead x y)) (hsT2) (fun _ h => h) (fun wq hSw => Item.ahead x y HXI.out HYI.out wq) ?_
  try simp only [tdy]
  refine tF 10 (hsT2) (fun _ h => h) ?_
  try simp only [tdy]
  refine tF 11 (hsT2) (fun _ h => h) ?_
  try simp only [tdy]
  refine tF 12 (hsT2) (fun _ h => h) ?_
  try simp only [tdy]
  refine wpAnyE_done (by kernel_rfl) (fun wz hSz => ?_) _
  have HF := hid hSz
  clear hSz
  go_wp2_with fail
  go_ret
  exact ⟨by rw [HTP.out]; rfl, below_on HB0.out HF.out⟩
end


section
open Go.RowKit
set_option maxRecDepth 100000 in
set_option maxHeartbeats 4000000 in
theorem Ref7.soonest (A : Option Addr) (n c k : Nat) (L : List It) (w : World) (hr : RdI w A n L) (hl : InI L) (hk : k ≤ n) (hn : n ≤ 1000) (hnc : n ≤ c) : Calls Tryz.prog 40 #[.slice A n c, .int .i64 k] w (Ans (.tuple #[It.val (soonI k L).2, .bool (soonI k L).1]) w) := by
 have hal := (Below.refl w.heap.size w).alloc (Nat.le_refl _) (.cells #[.int .u64 0, .int .u32 0, .int .u32 0, .int .i64 0, .int .u64 0, .int .u32 0, .int .u32 0] 48)
 have HZ : Hid (Cs (w.alloc (.cells #[.int .u64 0, .int .u32 0, .int .u32 0, .int .i64 0, .int .u64 0, .int .u32 0, .int .u32 0] 48)) w.heap.size It.zero.cells) := hid (Cs.new7 w 48 It.zero)
 have HB0 := hid hal
 have HR := hid (hr.below hal)
 have HL := hid hl
 have HLN := hid hr.1
 clear hr hl hal
 have hn1 : (n : Int) ≤ 1000 := by omega
 go_enter Tryz.func40, Tryz.ntmps40
 go_upto_region 1 with fail
 generalize (w.alloc (.cells #[.int .u64 0, .int .u32 0, .int .u32 0, .int .i64 0, .int .u64 0, .int .u32 0, .int .u32 0] 48)) = W0 at HZ HB0 HR ⊢
 by_cases hk0 : k = 0
 ·subst hk0
  have hth := there_it ⟨It.zero, HZ.out⟩
  have HAN := hid (answer_it (b := w.heap.size) (Nat.le_refl _) ⟨It.zero, HZ.out⟩ HB0.out It.zero)
  go_wp2_with ((with_reducible refine wpList_put_it 48 infoRefItem rfl (.tmp 4) (.tmp 13) rfl w.heap.size 0 It.zero hth ?k1 ?k2 ?k3); (case k1 => rfl); (case k2 => rfl); (intro W2 hW2); (have HW := hid (HAN.out W2 hW2)); (clear hW2 hth); (obtain ⟨z0, z1, z2, z3, z4, z5, z6⟩ := HW.out.1))
  refine bodyPost_ret (v := .tuple #[It.zero.val, .bool false]) (by simp [results, Tryz.results40, go_sem, z0, z1, z2, z3, z4, z5, z6, It.val]) rfl ⟨rfl, HW.out.2⟩
 ·have hk1 : ¬ (k : Int) < 1 := by omega
  have hnz : ¬ (n : Int) = 0 := by omega
  have hmin : min (k : Int) (n : Int) = k := by omega
  have hkn : (k : Int) ≤ n := by omega
  have hkp : (0 : Int) ≤ k := by omega
  have hkc : (k : Int) ≤ c := by omega
  have HS : Hid (soonI k L = (true, (L.take k).foldl sooner ((L.take k).getD 0 It.zero))) := hid (by unfold soonI; rw [if_neg hk0])
  go_wp2_with fail
  refine (Ref5.soonest A k c (L.take k) _ (HR.out.upto hk) (fun y hy => HL.out y (List.mem_of_mem_take hy)) (by omega) (by omega)).mono ?_
  generalize (L.take k).foldl sooner ((L.take k).getD 0 It.zero) = y at HS ⊢
  rintro e w1 ⟨rfl, hb⟩
  have HB1 := hid (below_on HB0.out hb)
  have HZ1 : Hid (∃ z : It, Cs w1 w.heap.size z.cells) := hid ⟨It.zero, HZ.out.below hb⟩
  clear hb
  have hth := there_it HZ1.out
  have HAN := hid (answer_it (b := w.heap.size) (Nat.le_refl _) HZ1.out HB1.out y)
  go_wp2_with ((with_reducible refine wpList_put_it 48 infoRefItem rfl (.tmp 4) (.tmp 20) rfl w.heap.size 0 y hth ?m1 ?m2 ?m3); (case m1 => rfl); (case m2 => rfl); (intro W2 hW2); (have HW := hid (HAN.out W2 hW2)); (clear hW2 hth); (obtain ⟨z0, z1, z2, z3, z4, z5, z6⟩ := HW.out.1))
  refine bodyPost_ret (v := .tuple #[It.val y, .bool true]) (by simp [results, Tryz.results40, go_sem, z0, z1, z2, z3, z4, z5, z6, It.val]) rfl ⟨by rw [HS.out], HW.out.2⟩
end


section
open Go.RowKit
theorem near_has {t0 : Int} {L : List It} (h : Nr7 t0 L) {x : It} (hx : x ∈ L) : hasI x L = true := hasI_iff.2 ⟨x, hx, irr7 (h.nr x hx), irr7 (h.nr x hx)⟩
set_option maxRecDepth 100000 in
set_option maxHeartbeats 16000000 in
theorem Told.law {t0 : Int} {w0 w : World} {th : Nat} {t : Tr It} (h : GW t0 w0 th t w) (A : Option Addr) (c : Nat) (hr : RdI w A t.list.length t.list) (hnc : t.list.length ≤ c) (hlen : t.list.length ≤ 60) (m : Int) (hm : 0 ≤ m ∧ m ≤ 255) :
  Calls Tryz.prog 16 #[.agg #[.pointer (some ⟨th, 0, none⟩)], .slice A t.list.length c, .int .u8 m] w (Ans (.bool true) w) := by
 have hal := (Below.refl w.heap.size w).alloc (Nat.le_refl _) (.cells #[.pointer (some ⟨th, 0, none⟩)] 27)
 have HP : Hid (Cs (w.alloc (.cells #[.pointer (some ⟨th, 0, none⟩)] 27)) w.heap.size [(.pointer (some ⟨th, 0, none⟩))]) := hid (Cs.alloc_new w 27 [(.pointer (some ⟨th, 0, none⟩))])
 have HB0 := hid hal
 have HG0 := hid (h.below hal)
 have HR0 := hid (hr.below hal)
 have HIN := hid h.ins
 have HNR := hid h.2.2
 have HLN := hid hlen
 clear h hr hal
 obtain ⟨n, hn⟩ : ∃ n, n = t.list.length := ⟨_, rfl⟩
 rw [← hn] at HLN HR0 hnc ⊢
 have HNN := hid hn
 have hni : (n : Int) ≤ 60 := by have := HLN.out; omega
 clear hn hlen
 go_enter Tryz.func16, Tryz.ntmps16
 go_upto_region 1 with fail
 generalize (w.alloc (.cells #[.pointer (some ⟨th, 0, none⟩)] 27)) = W0 at HP HB0 HG0 HR0 ⊢
 have e0 := HP.out.at0
 go_wp2_with fail
 refine (Dt.all th t _ HG0.out.1.1 (by have := HLN.out; have := HNN.out; omega)).mono ?_
 rintro e w1 ⟨A1, n1, c1, rfl, ho, hb, _, _⟩
 obtain rfl : n1 = n := by have := ho.len; have := HNN.out; omega
 have hal := (Below.refl w1.heap.size w1).alloc (Nat.le_refl _) (.cells #[.slice A1 n1 c1] 39)
 have HS1 : Hid (Cs (w1.alloc (.cells #[.slice A1 n1 c1] 39)) w1.heap.size [.slice A1 n1 c1]) := hid (Cs.alloc_new w1 39 [.slice A1 n1 c1])
 have HA1 := hid (ho.rdi.below hal)
 have HP1 := hid ((HP.out.below hb).below hal)
 have HB1 := hid (below_on (below_on HB0.out hb) hal)
 have HG1 := hid ((HG0.out.below hb).below hal)
 have HR1 := hid ((HR0.out.below hb).below hal)
 have q1 := HS1.out.at0
 have e1 := HP1.out.at0
 clear ho hb hal HP HB0 HG0 HR0 e0
 go_upto_region 2 with fail
 generalize (w1.alloc (.cells #[.slice A1 n1 c1] 39)) = W1 at HS1 HA1 HP1 HB1 HG1 HR1 q1 e1 ⊢
 generalize w1.heap.size = b7 at HS1 q1 ⊢
 go_wp2_with fail
 refine (Dt.len th t _ HG1.out.1.1).mono ?_
 rw [← HNN.out]
 rintro e w2 ⟨rfl, hb⟩
 have HS2 := hid (HS1.out.below hb)
 have HA2 := hid (HA1.out.below hb)
 have HP2 := hid (HP1.out.below hb)
 have HB2 := hid (below_on HB1.out hb)
 have HG2 := hid (HG1.out.below hb)
 have HR2 := hid (HR1.out.below hb)
 clear hb q1 e1 HS1 HA1 HP1 HB1 HG1 HR1
 have q1 := HS2.out.at0
 go_wp2_with fail
 go_loopg [33] n1 (fun s i wr => ∃ k : Nat, i = .int .i64 k ∧ k ≤ n1 ∧ s = n1 - k ∧ Below w2.heap.size w2 wr)
 case atStart => exact ⟨0, rfl, Nat.zero_le _, by omega, Below.refl _ _⟩
 case round =>
  obtain ⟨k, rfl, hk, hs, hb⟩ := hrel
  have HS := hid hs
  have HB3 := hid hb
  clear hs hb q1
  by_cases hkn : k < n1
  ·obtain ⟨bb, off, hA, _, hc⟩ := (HA2.out.below HB3.out).2 0 (by omega)
   have HC1 := hid (hc k hkn)
   clear hc
   obtain ⟨bb2, off2, hA2, _, hc⟩ := (HR2.out.below HB3.out).2 0 (by omega)
   have HC2 := hid (hc k hkn)
   clear hc
   have HMM := hid (getD_memI (L := t.list) (k := k) (by have := HNN.out; omega))
   generalize t.list.getD k It.zero = y at HC1 HC2 HMM
   subst hA hA2
   have hki : (k : Int) < n1 := by omega
   have hk0 : (0 : Int) ≤ k := by omega
   have HYI := hid (HIN.out y HMM.out)
   have HHY := hid (near_has HNR.out HMM.out)
   have HHT : Hid (Tr.has It.ahead y t = true) := hid (by rw [Tr.hasI (HNR.out.2 y HMM.out) HNR.out]; exact HHY.out)
   obtain ⟨p0, p1, p2, p3, p4, p5, p6⟩ := HC1.out
   have hal := (Below.refl wr.heap.size wr).alloc (Nat.le_refl _) (.cells #[.int .u64 y.t, .int .u32 y.r, .int .u32 y.v, .int .i64 y.i, .int .u64 y.u, .int .u32 y.s, .int .u32 y.y] 35)
   have HY : Hid (Cs (wr.alloc (.cells #[.int .u64 y.t, .int .u32 y.r, .int .u32 y.v, .int .i64 y.i, .int .u64 y.u, .int .u32 y.s, .int .u32 y.y] 35)) wr.heap.size y.cells) := hid (Cs.new7 wr 35 y)
   have HB4 := hid (below_on HB3.out hal)
   have HC4 := hid (HC2.out.below hal)
   clear hal
   have q1 := keep1 HB3.out HS2.out.at0
   go_upto_region 7 with fail
   generalize (wr.alloc (.cells #[.int .u64 y.t, .int .u32 y.r, .int .u32 y.v, .int .i64 y.i, .int .u64 y.u, .int .u32 y.s, .int .u32 y.y] 35)) = W4 at HY HB4 HC4 ⊢
   clear p0 p1 p2 p3 p4 p5 p6 q1
   generalize wr.heap.size = gy at HY ⊢
   have hsT1 : Stays (fun wx => Below W4.heap.size W4 wx) := fun _ _ h hb => below_on h hb
   refine wp_region_grow (S := fun wx => Below W4.heap.size W4 wx) 14 (by kernel_rfl) (hsT1 _ _ ((Below.refl W4.heap.size W4)) (Below.refl _ _).drew) ?_
   refine tE 0 (v := ?_) (hsT1) (fun _ h => h) rfl (by kernel_rfl) (by rfl) ?_ ?_
   rotate_left
   ·intro wq hSw
    obtain ⟨p0, p1, p2, p3, p4, p5, p6⟩ := HC4.out.below hSw
    obtain ⟨y0, y1, y2, y3, y4, y5, y6⟩ := It.at y (HY.out.below hSw)
    have e9 := ((HP2.out.below HB4.out).below hSw).at0
    go_simp; try with_reducible rfl
   try simp only [tdy]
   refine tC 1 (v := y.val) (hsT1) (fun _ h => h) (fun wq hSw => Law5.of y wq) ?_
   try simp only [tdy]
   refine tF 2 (hsT1) (fun _ h => h) ?_
   try simp only [tdy]
   refine tF 3 (hsT1) (fun _ h => h) ?_
   try simp only [tdy]
   refine tF 4 (hsT1) (fun _ h => h) ?_
   try simp only [tdy]
   refine tE 5 (v := ?_) (hsT1) (fun _ h => h) rfl (by kernel_rfl) (by rfl) ?_ ?_
   rotate_left
   ·intro wq hSw
    obtain ⟨p0, p1, p2, p3, p4, p5, p6⟩ := HC4.out.below hSw
    obtain ⟨y0, y1, y2, y3, y4, y5, y6⟩ := It.at y (HY.out.below hSw)
    have e9 := ((HP2.out.below HB4.out).below hSw).at0
    go_simp; try with_reducible rfl
   try simp only [tdy]
   refine tF 6 (hsT1) (fun _ h => h) ?_
   try simp only [tdy]
   refine tF 7 (hsT1) (fun _ h => h) ?_
   try simp only [tdy]
   refine tF 8 (hsT1) (fun _ h => h) ?_
   try simp only [tdy]
   refine tE 9 (v := ?_) (hsT1) (fun _ h => h) rfl (by kernel_rfl) (by rfl) ?_ ?_
   rotate_left
   ·intro wq hSw
    obtain ⟨p0, p1, p2, p3, p4, p5, p6⟩ := HC4.out.below hSw
    obtain ⟨y0, y1, y2, y3, y4, y5, y6⟩ := It.at y (HY.out.below hSw)
    have e9 := ((HP2.out.below HB4.out).below hSw).at0
    go_simp; try with_reducible rfl
   try simp only [tdy]
   refine tE 10 (v := ?_) (hsT1) (fun _ h => h) rfl (by kernel_rfl) (by rfl) ?_ ?_
   rotate_left
   ·intro wq hSw
    obtain ⟨p0, p1, p2, p3, p4, p5, p6⟩ := HC4.out.below hSw
    obtain ⟨y0, y1, y2, y3, y4, y5, y6⟩ := It.at y (HY.out.below hSw)
    have e9 := ((HP2.out.below HB4.out).below hSw).at0
    go_simp; try with_reducible rfl
   try simp only [tdy]
   refine tC 11 (v := .bool true) (hsT1) (fun _ h => h) (fun wq hSw => (by have h8 := Dt.has th t y HYI.out wq ((HG2.out.below HB4.out).below hSw).1.1; rw [HHT.out] at h8; exact h8)) ?_
   try simp only [tdy]
   refine tF 12 (hsT1) (fun _ h => h) ?_
   try simp only [tdy]
   refine tF 13 (hsT1) (fun _ h => h) ?_
   try simp only [tdy]
   refine wpAnyE_done (by kernel_rfl) (fun wz hSz => ?_) _
   have HF := hid (below_on HB4.out hSz)
   clear hSz
   go_wp2_with fail
   go_roundg (n1 - (k + 1))
   case measure => have := HS.out; omega
   case rel => exact ⟨k + 1, by go_num, by omega, rfl, HF.out⟩
  ·obtain rfl : k = n1 := by omega
   have hki : ¬ (k : Int) < k := by omega
   have HS3 := hid (HS2.out.below HB3.out)
   have HA3 := hid (HA2.out.below HB3.out)
   have HP3 := hid (HP2.out.below HB3.out)
   have HB3' := hid (below_on HB2.out HB3.out)
   have HG3 := hid (HG2.out.below HB3.out)
   have HR3 := hid (HR2.out.below HB3.out)
   clear HS2 HA2 HP2 HB2 HG2 HR2 HB3 HS
   have HB3 := hid HB3'.out
   clear HB3'
   obtain ⟨j, hj, hjn⟩ : ∃ j : Nat, min m (k : Int) = (j : Int) ∧ j ≤ k := ⟨(min m (k : Int)).toNat, by omega, by omega⟩
   have hwm : IntKind.i64.wrap m = m := by rw [IntKind.wrap_i64]; omega
   have q1 := HS3.out.at0
   have hal := (Below.refl wr.heap.size wr).alloc (Nat.le_refl _) (.cells #[.int .i64 j] 3)
   have HK4 : Hid (Cs (wr.alloc (.cells #[.int .i64 j] 3)) wr.heap.size [.int .i64 j]) := hid (Cs.alloc_new wr 3 [.int .i64 j])
   have HS4 := hid (HS3.out.below hal)
   have HA4 := hid (HA3.out.below hal)
   have HP4 := hid (HP3.out.below hal)
   have HB4 := hid (below_on HB3.out hal)
   have HG4 := hid (HG3.out.below hal)
   have HR4 := hid (HR3.out.below hal)
   clear hal HS3 HA3 HP3 HB3 HG3 HR3
   go_upto_region 11 with fail
   generalize (wr.alloc (.cells #[.int .i64 j] 3)) = W4 at HK4 HS4 HA4 HP4 HB4 HG4 HR4 ⊢
   generalize wr.heap.size = b10 at HK4 ⊢
   clear q1 hwm
   have e4 := HP4.out.at0
   go_wp2_with fail
   refine (Dtree.soonestTold th b10 b7 t (toldP j t.list) _ HG4.out.1.1 (fun y w' hy hyi hb => Told.one b10 b7 j A1 k c1 t.list y hyi HIN.out hjn (by omega) w' ((HK4.out.below hb).at0) ((HS4.out.below hb).at0) (HA4.out.below hb))).mono ?_
   rw [told_same HNR.out (by have := HNN.out; omega)]
   have HSD := hid (soonI_desc HNR.out (k := j) (by have := HNN.out; omega))
   rintro e w5 ⟨rfl, hb⟩
   obtain ⟨sm, a, hq⟩ : ∃ sm a, soonI j t.list = (sm, a) := ⟨_, _, rfl⟩
   have HQ := hid hq
   rw [hq]
   have hal := (Below.refl w5.heap.size w5).alloc (Nat.le_refl _) (.cells #[.int .u64 a.t, .int .u32 a.r, .int .u32 a.v, .int .i64 a.i, .int .u64 a.u, .int .u32 a.s, .int .u32 a.y] 35)
   have HX5 : Hid (Cs (w5.alloc (.cells #[.int .u64 a.t, .int .u32 a.r, .int .u32 a.v, .int .i64 a.i, .int .u64 a.u, .int .u32 a.s, .int .u32 a.y] 35)) w5.heap.size a.cells) := hid (Cs.new7 w5 35 a)
   have HK5 := hid ((HK4.out.below hb).below hal)
   have HB5 := hid (below_on (below_on HB4.out hb) hal)
   have HR5 := hid ((HR4.out.below hb).below hal)
   clear hb hal hq e4 HK4 HS4 HA4 HP4 HB4 HG4 HR4
   unfold It.val
   go_upto_region 12 with fail
   generalize (w5.alloc (.cells #[.int .u64 a.t, .int .u32 a.r, .int .u32 a.v, .int .i64 a.i, .int .u64 a.u, .int .u32 a.s, .int .u32 a.y] 35)) = W5 at HX5 HK5 HB5 HR5 ⊢
   generalize w5.heap.size = b11 at HX5 ⊢
   have k5 := HK5.out.at0
   go_wp2_with fail
   refine (Ref7.soonest A k c j t.list _ HR5.out HIN.out hjn (by omega) hnc).mono ?_
   rw [HQ.out]
   rintro e w6 ⟨rfl, hb⟩
   have hal := (Below.refl w6.heap.size w6).alloc (Nat.le_refl _) (.cells #[.int .u64 a.t, .int .u32 a.r, .int .u32 a.v, .int .i64 a.i, .int .u64 a.u, .int .u32 a.s, .int .u32 a.y] 48)
   have HZ6 : Hid (Cs (w6.alloc (.cells #[.int .u64 a.t, .int .u32 a.r, .int .u32 a.v, .int .i64 a.i, .int .u64 a.u, .int .u32 a.s, .int .u32 a.y] 48)) w6.heap.size a.cells) := hid (Cs.new7 w6 48 a)
   have HX6 := hid ((HX5.out.below hb).below hal)
   have HB6 := hid (below_on (below_on HB5.out hb) hal)
   clear hb hal k5 HX5 HK5 HB5 HR5
   unfold It.val
   go_upto_region 13 with fail
   generalize (w6.alloc (.cells #[.int .u64 a.t, .int .u32 a.r, .int .u32 a.v, .int .i64 a.i, .int .u64 a.u, .int .u32 a.s, .int .u32 a.y] 48)) = W6 at HZ6 HX6 HB6 ⊢
   generalize w6.heap.size = b13 at HZ6 ⊢
   have hsT2 : Stays (fun wx => Below W6.heap.size W6 wx) := fun _ _ h hb => below_on h hb
   refine wp_region_grow (S := fun wx => Below W6.heap.size W6 wx) 10 (by kernel_rfl) (hsT2 _ _ ((Below.refl W6.heap.size W6)) (Below.refl _ _).drew) ?_
   refine tG 0 (hsT2) (fun _ h => h) (fun _ hSw => And.intro (It.at a (HX6.out.below hSw)) (It.at a (HZ6.out.below hSw))) ?_
   try simp only [tdy]
   refine tC 1 (v := a.val) (hsT2) (fun _ h => h) (fun wq hSw => Law5.of a wq) ?_
   try simp only [tdy]
   refine tG 2 (hsT2) (fun _ h => h) (fun _ hSw => And.intro (It.at a (HX6.out.below hSw)) (It.at a (HZ6.out.below hSw))) ?_
   try simp only [tdy]
   refine tF 3 (hsT2) (fun _ h => h) ?_
   try simp only [tdy]
   refine tF 4 (hsT2) (fun _ h => h) ?_
   try simp only [tdy]
   refine tF 5 (hsT2) (fun _ h => h) ?_
   try simp only [tdy]
   refine tF 6 (hsT2) (fun _ h => h) ?_
   try simp only [tdy]
   refine tF 7 (hsT2) (fun _ h => h) ?_
   try simp only [tdy]
   refine tF 8 (hsT2) (fun _ h => h) ?_
   try simp only [tdy]
   refine tF 9 (hsT2) (fun _ h => h) ?_
   try simp only [tdy]
   refine wpAnyE_done (by kernel_rfl) (fun wz hSz => ?_) _
   have HF := hid (below_on HB6.out hSz)
   clear hSz
   go_wp2_with fail
   go_ret
   exact ⟨rfl, HF.out⟩
end

end Go.Proofs.YtbcepkfdlaioaaaGreat

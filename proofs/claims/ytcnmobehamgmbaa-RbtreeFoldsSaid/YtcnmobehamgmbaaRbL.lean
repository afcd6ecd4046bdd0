/- The tree of numbers: Insert, Delete. -/
import Derived.Test.YtcnmobehamgmbaaRbK
namespace Go.Proofs.Ytcnmobehamgmbaa
open Go.RowKit

/-- The tree's own variable is no node, and no list. -/
def Hd (w : World) (th : Nat) : Prop := ∃ f a c, w.cell? ⟨th, 0, none⟩ = some (.func f a c)
theorem Env.hd {w : World} {th : Nat} {rt : Value} {n : Int} (h : Env w th rt n) : Hd w th := by obtain ⟨_, _, t, _⟩ := h; exact ⟨_, _, _, t.at0⟩
theorem Sl.farT {w : World} {v : Value} {L : List Int} (h : Sl w v L) {th : Nat} (ht : Hd w th) (o : Nat) (u : Value) : Sl (w.setCell ⟨th, o, none⟩ u) v L := by
  obtain ⟨s, c, e, h1, h2, h3, h4⟩ := h
  have hs : th ≠ s := by
    rintro rfl
    obtain ⟨f, a, k, hk⟩ := ht
    rw [h3 0 h1] at hk; injection hk with hk; cases hk
  refine ⟨s, c, e, h1, by simpa [World.setCell] using h2, fun i hi => ?_, h4.imp id (fun h => ?_)⟩
  · exact (World.cell?_setCell_other w ⟨th, o, none⟩ ⟨s, i, none⟩ u (fun e => by injection e with e1; exact hs e1)).trans (h3 i hi)
  · exact (World.cell?_setCell_other w ⟨th, o, none⟩ ⟨s, 1, none⟩ u (fun e => by injection e with e1; exact hs e1)).trans h
theorem Cs.farT {w : World} {g : Nat} {x : Int} {vs : List Value} (h : Cs w g (.int .i64 x :: vs)) {th : Nat} (ht : Hd w th) (o : Nat) (u : Value) : Cs (w.setCell ⟨th, o, none⟩ u) g (.int .i64 x :: vs) :=
  h.far (fun e => by subst e; obtain ⟨f, a, k, hk⟩ := ht; rw [h.at0] at hk; injection hk with hk; cases hk) _ _
theorem In.farT {w : World} {t : Tr Int} {th : Nat} (ht : Hd w th) (o : Nat) (u : Value) : In w t → In (w.setCell ⟨th, o, none⟩ u) t := by
  induction t with
  | nil => intro _; trivial
  | node g c l x r ihl ihr =>
    intro h
    obtain ⟨⟨v, hv, hc⟩, hl, hr⟩ := h
    exact ⟨⟨v, hv.farT ht _ _, hc.farT ht _ _⟩, ihl hl, ihr hr⟩
theorem Env.root {w : World} {th : Nat} {rt : Value} {n : Int} (h : Env w th rt n) (u : Value) : Env (w.setCell ⟨th, 3, none⟩ u) th u n := by
  obtain ⟨b1, b2, h0, h1, h2, n1, n2⟩ := h
  have f1 : th ≠ b1 := by rintro rfl; rw [h0.at1] at n1; cases n1
  have f2 : th ≠ b2 := by rintro rfl; rw [h0.at1] at n2; cases n2
  refine ⟨b1, b2, h0.set 3 (by simp) u, h1.far f1 _ _, h2.far f2 _ _, ?_, ?_⟩
  · exact (World.cell?_setCell_other w ⟨th, 3, none⟩ ⟨b1, 1, none⟩ u (fun e => by injection e with e1; exact f1 e1)).trans n1
  · exact (World.cell?_setCell_other w ⟨th, 3, none⟩ ⟨b2, 1, none⟩ u (fun e => by injection e with e1; exact f2 e1)).trans n2
theorem Env.size {w : World} {th : Nat} {rt : Value} {n : Int} (h : Env w th rt n) (m : Int) : Env (w.setCell ⟨th, 4, none⟩ (.int .i64 m)) th rt m := by
  obtain ⟨b1, b2, h0, h1, h2, n1, n2⟩ := h
  have f1 : th ≠ b1 := by rintro rfl; rw [h0.at1] at n1; cases n1
  have f2 : th ≠ b2 := by rintro rfl; rw [h0.at1] at n2; cases n2
  refine ⟨b1, b2, h0.set 4 (by simp) _, h1.far f1 _ _, h2.far f2 _ _, ?_, ?_⟩
  · exact (World.cell?_setCell_other w ⟨th, 4, none⟩ ⟨b1, 1, none⟩ _ (fun e => by injection e with e1; exact f1 e1)).trans n1
  · exact (World.cell?_setCell_other w ⟨th, 4, none⟩ ⟨b2, 1, none⟩ _ (fun e => by injection e with e1; exact f2 e1)).trans n2
theorem Tr.put_ne {α : Type} (lt : α → α → Bool) (k : Nat) (x : α) (t : Tr α) : Tr.put lt k x t ≠ .nil := by
  intro e
  have := (Tr.perm_put lt k x t).length_eq
  rw [e] at this
  simp [Tr.blocks] at this
theorem Tr.length_put {α : Type} (lt : α → α → Bool) (k : Nat) (x : α) (t : Tr α) : (Tr.put lt k x t).list.length = t.list.length + 1 := by
  rw [← Tr.blocks_length, (Tr.perm_put lt k x t).length_eq, List.length_cons, Tr.blocks_length]

/-- What Insert answers that takes in. -/
def Ins (x : Int) (t : Tr Int) (th : Nat) (w : World) (e : Ending) (w' : World) : Prop := ∃ k, w.heap.size ≤ k ∧ e = .returned (.bool true) ∧ TreeAt w' th ((Tr.put ltI k x t).paint false) ∧ Chg (th :: t.blocks) w w'

set_option maxRecDepth 100000 in
set_option maxHeartbeats 1000000 in
theorem Rb.insert_no (th : Nat) (t : Tr Int) (x : Int) (w : World) (h : TreeAt w th t) (hh : Tr.has ltI x t = true) :
    Calls Try.prog 33 #[.pointer (some ⟨th, 0, none⟩), .int .i64 x] w (Ans (.bool false) w) := by
  have HT := hid h
  have HH := hid hh
  clear h hh
  go_enter Try.func33, Try.ntmps33
  go_wp2_with fail
  refine (Rb.has th t x _ HT.out).mono ?_
  rintro e w1 ⟨rfl, hb⟩
  rw [HH.out]
  have HB := hid hb
  clear hb
  go_wp2_with fail
  go_ret
  exact ⟨rfl, HB.out⟩

set_option maxRecDepth 100000 in
set_option maxHeartbeats 1000000 in
theorem Rb.insert (th : Nat) (t : Tr Int) (x : Int) (w : World) (h : TreeAt w th t) (hn : t.list.length < 900000) (hh : Tr.has ltI x t = false) :
    Calls Try.prog 33 #[.pointer (some ⟨th, 0, none⟩), .int .i64 x] w (Ins x t th w) := by
  have HT := hid h
  have HH := hid hh
  have HN := hid hn
  clear h hh hn
  go_enter Try.func33, Try.ntmps33
  go_wp2_with fail
  refine (Rb.has th t x _ HT.out).mono ?_
  rintro e w1 ⟨rfl, hb⟩
  rw [HH.out]
  have HT1 := hid (HT.out.below hb)
  have HB := hid hb
  obtain ⟨_, _, t0, _⟩ := HT1.out.1
  have e3 := t0.at3
  have e3f := t0.fr3
  clear hb t0
  go_wp2_with fail
  refine (Rb.put th (ptr t) t.list.length x t _ HT1.out.2.1 HT1.out.2.2 HN.out HT1.out.1).mono ?_
  rintro e w2 ⟨k, hk, rfl, hi, hw⟩
  have hk' : w.heap.size ≤ k := Nat.le_trans HB.out.size hk
  have HE2 := hid (HT1.out.1.chg hw HT1.out.2.1.nl)
  have hnd : (Tr.put ltI k x t).blocks.Nodup := (Tr.perm_put ltI k x t).nodup_iff.2 (List.nodup_cons.2 ⟨fun hm => by have := (HT1.out.2.1.nl k hm).lt; omega, HT1.out.2.2⟩)
  have HLEN := hid (Tr.length_put ltI k x t)
  have HP := hid (Tr.perm_put ltI k x t)
  have HPN := hid (Tr.put_ne ltI k x t)
  have HND := hid hnd
  have HI := hid hi
  have HW := hid hw
  have HK := hid hk'
  obtain ⟨_, _, t0, _⟩ := HE2.out
  have q3 := t0.at3
  have q3f := t0.fr3
  have hkw := hid hk
  clear hi hw hk hk' hnd t0 e3 e3f
  have HX : Hid (∀ w', TreeAt w' th ((Tr.put ltI k x t).paint false) → Chg (th :: t.blocks) w w' → Ins x t th w (.returned (.bool true)) w') := hid (fun w' h1 h2 => ⟨k, HK.out, rfl, h1, h2⟩)
  generalize Tr.put ltI k x t = T at *
  cases T with
  | nil => exact absurd rfl HPN.out
  | node g c l y r =>
    simp only [ptr_node]
    have hne : th ≠ g := fun e => by
      obtain ⟨f, a, k', hk⟩ := HE2.out.hd
      obtain ⟨⟨v, _, hc⟩, _⟩ := HI.out
      rw [e, hc.at0] at hk; injection hk with hk; cases hk
    have hne' : g ≠ th := Ne.symm hne
    have HW3 : Hid (∃ W, W = ((w2.setCell ⟨th, 3, none⟩ (.pointer (some ⟨g, 0, none⟩))).setCell ⟨g, 4, none⟩ (.bool false)).setCell ⟨th, 4, none⟩ (.int .i64 (t.list.length + 1)) ∧
        Env W th (.pointer (some ⟨g, 0, none⟩)) (t.list.length + 1) ∧ In W (.node g false l y r) ∧ Chg (th :: t.blocks) w W) := hid (by
      have e1 := HE2.out.root (.pointer (some ⟨g, 0, none⟩))
      have i1 := HI.out.farT HE2.out.hd 3 (.pointer (some ⟨g, 0, none⟩))
      have hd := nodup_node HND.out
      have hn1 : Nl (w2.setCell ⟨th, 3, none⟩ (.pointer (some ⟨g, 0, none⟩))) g := i1.nl g (by simp [Tr.blocks])
      have e2 := e1.chg (F := [g]) ((Chg.refl _ _).set (g := g) (Or.inl (by simp)) 4 (.bool false)) (fun j hj => by simp at hj; subst hj; exact hn1)
      have i2 := i1.paint (d := false) ⟨hd.1, hd.2.1⟩
      have hgk : g ∈ t.blocks ∨ w1.heap.size ≤ g := by
        rcases List.mem_cons.1 (HP.out.mem_iff.1 (show g ∈ (Tr.node g c l y r).blocks by simp [Tr.blocks])) with h1 | h1
        · subst h1; exact Or.inr hkw.out
        · exact Or.inl h1
      have c1 : Chg (th :: t.blocks) w1 w2 := HW.out.mono (fun j hj => by simp [hj])
      have c2 := ((c1.set (g := th) (Or.inl (by simp)) 3 (.pointer (some ⟨g, 0, none⟩))).set (g := g) (hgk.imp (fun h => by simp [h]) id) 4 (.bool false)).set (g := th) (Or.inl (by simp)) 4 (.int .i64 (t.list.length + 1))
      exact ⟨_, rfl, e2.size _, i2.farT e2.hd _ _, (Chg.below HB.out).trans c2 (fun j hj => Or.inl hj)⟩)
    obtain ⟨⟨v, _, hc⟩, _⟩ := HI.out
    obtain ⟨_, _, t0, _⟩ := HE2.out
    have c4 := hc.at4
    have c4f := hc.fr4
    have q4 := t0.at4
    have q4f := t0.fr4
    have hb := HN.out
    clear hc t0
    go_wp2_with fail
    obtain ⟨W, hW, HF⟩ := HW3
    rw [← hW]
    go_ret
    refine HX.out W ⟨?_, HF.2.1, ?_⟩ HF.2.2
    · have := HF.1
      rw [Tr.list_paint, HLEN.out]
      exact this
    · rw [Tr.blocks_paint]; exact HND.out

/-- What Delete answers that gives away. -/
def Del (x : Int) (t : Tr Int) (th : Nat) (w : World) (e : Ending) (w' : World) : Prop := e = .returned (.bool true) ∧ TreeAt w' th ((Tr.rem ltI t.size x t).paint false) ∧ Chg (th :: t.blocks) w w'

set_option maxRecDepth 100000 in
set_option maxHeartbeats 1000000 in
theorem Rb.delete_no (th : Nat) (t : Tr Int) (x : Int) (w : World) (h : TreeAt w th t) (hh : Tr.has ltI x t = false) :
    Calls Try.prog 31 #[.pointer (some ⟨th, 0, none⟩), .int .i64 x] w (Ans (.bool false) w) := by
  have HT := hid h
  have HH := hid hh
  clear h hh
  go_enter Try.func31, Try.ntmps31
  go_wp2_with fail
  refine (Rb.has th t x _ HT.out).mono ?_
  rintro e w1 ⟨rfl, hb⟩
  rw [HH.out]
  have HB := hid hb
  clear hb
  go_wp2_with fail
  go_ret
  exact ⟨rfl, HB.out⟩

set_option maxRecDepth 100000 in
set_option maxHeartbeats 1000000 in
theorem Rb.delete (th : Nat) (t : Tr Int) (x : Int) (w : World) (A : List Int) (m : Int) (B : List Int) (h : TreeAt w th t) (hn : t.list.length ≤ 900000) (hh : Tr.has ltI x t = true) (hp : Tr.Pre ltI x t) (hs : Tr.Has ltI x A m B) (hl : t.list = A ++ m :: B) :
    Calls Try.prog 31 #[.pointer (some ⟨th, 0, none⟩), .int .i64 x] w (Del x t th w) := by
  have HT := hid h
  have HH := hid hh
  have HN := hid hn
  have HPR := hid hp
  have HHAS := hid hs
  have HLI := hid hl
  clear h hh hn hp hs hl
  go_enter Try.func31, Try.ntmps31
  go_wp2_with fail
  refine (Rb.has th t x _ HT.out).mono ?_
  rintro e w1 ⟨rfl, hb⟩
  rw [HH.out]
  have HT1 := hid (HT.out.below hb)
  have HB := hid hb
  obtain ⟨_, _, t0, _⟩ := HT1.out.1
  have e3 := t0.at3
  have e3f := t0.fr3
  clear hb t0
  go_wp2_with fail
  refine (Rb.remove th (ptr t) t.list.length x t.size t _ A m B (Nat.le_refl _) HT1.out.2.1 HT1.out.2.2 HN.out HT1.out.1 HPR.out HHAS.out HLI.out).mono ?_
  rintro e w2 ⟨rfl, hi, hw⟩
  have HE2 := hid (HT1.out.1.chg hw HT1.out.2.1.nl)
  have HOF := hid (Tr.Of.rem ltI x t.size t)
  have HLEN : Hid ((Tr.rem ltI t.size x t).list.length + 1 = t.list.length) := hid (by
    rw [(Tr.rem_main ltI x t.size t A m B (Nat.le_refl _) HPR.out HHAS.out HLI.out).1, HLI.out]; simp; omega)
  have HI := hid hi
  have HW := hid hw
  obtain ⟨_, _, t0, _⟩ := HE2.out
  have q3 := t0.at3
  have q3f := t0.fr3
  have q4 := t0.at4
  have q4f := t0.fr4
  have HX : Hid (∀ w', TreeAt w' th ((Tr.rem ltI t.size x t).paint false) → Chg (th :: t.blocks) w w' → Del x t th w (.returned (.bool true)) w') := hid (fun w' h1 h2 => ⟨rfl, h1, h2⟩)
  clear hi hw t0 e3 e3f
  have hlen : (1 : Int) ≤ t.list.length := by have := HLEN.out; omega
  have hmax : (t.list.length : Int) ≤ 900000 := by have := HN.out; omega
  generalize Tr.rem ltI t.size x t = T at *
  cases T with
  | nil =>
    simp only [ptr_nil]
    have HW3 : Hid (∃ W, W = (w2.setCell ⟨th, 3, none⟩ (.pointer none)).setCell ⟨th, 4, none⟩ (.int .i64 (t.list.length - 1)) ∧
        Env W th (.pointer none) (t.list.length - 1) ∧ Chg (th :: t.blocks) w W) := hid (by
      have e1 := HE2.out.root (.pointer none)
      have c1 : Chg (th :: t.blocks) w1 w2 := HW.out.mono (fun j hj => by simp [hj])
      have c2 := (c1.set (g := th) (Or.inl (by simp)) 3 (.pointer none)).set (g := th) (Or.inl (by simp)) 4 (.int .i64 (t.list.length - 1))
      exact ⟨_, rfl, e1.size _, (Chg.below HB.out).trans c2 (fun j hj => Or.inl hj)⟩)
    go_wp2_with fail
    obtain ⟨W, hW, HF⟩ := HW3
    rw [← hW]
    go_ret
    refine HX.out W ⟨?_, trivial, by simp [Tr.paint, Tr.blocks]⟩ HF.2
    have h1 := HF.1
    have h2 : ((Tr.paint false (.nil : Tr Int)).list.length : Int) = t.list.length - 1 := by have := HLEN.out; simp [Tr.list, Tr.paint] at this ⊢; omega
    rw [h2]
    exact h1
  | node g c l y r =>
    simp only [ptr_node]
    have hne : th ≠ g := fun e => by
      obtain ⟨f, a, k', hk⟩ := HE2.out.hd
      obtain ⟨⟨v, _, hc⟩, _⟩ := HI.out
      rw [e, hc.at0] at hk; injection hk with hk; cases hk
    have hne' : g ≠ th := Ne.symm hne
    have HND := hid (HOF.out.1 HT1.out.2.2)
    have HW3 : Hid (∃ W, W = ((w2.setCell ⟨th, 3, none⟩ (.pointer (some ⟨g, 0, none⟩))).setCell ⟨g, 4, none⟩ (.bool false)).setCell ⟨th, 4, none⟩ (.int .i64 (t.list.length - 1)) ∧
        Env W th (.pointer (some ⟨g, 0, none⟩)) (t.list.length - 1) ∧ In W (.node g false l y r) ∧ Chg (th :: t.blocks) w W) := hid (by
      have e1 := HE2.out.root (.pointer (some ⟨g, 0, none⟩))
      have i1 := HI.out.farT HE2.out.hd 3 (.pointer (some ⟨g, 0, none⟩))
      have hd := nodup_node HND.out
      have hn1 : Nl (w2.setCell ⟨th, 3, none⟩ (.pointer (some ⟨g, 0, none⟩))) g := i1.nl g (by simp [Tr.blocks])
      have e2 := e1.chg (F := [g]) ((Chg.refl _ _).set (g := g) (Or.inl (by simp)) 4 (.bool false)) (fun j hj => by simp at hj; subst hj; exact hn1)
      have i2 := i1.paint (d := false) ⟨hd.1, hd.2.1⟩
      have hgk : g ∈ t.blocks := HOF.out.2 g (by simp [Tr.blocks])
      have c1 : Chg (th :: t.blocks) w1 w2 := HW.out.mono (fun j hj => by simp [hj])
      have c2 := ((c1.set (g := th) (Or.inl (by simp)) 3 (.pointer (some ⟨g, 0, none⟩))).set (g := g) (Or.inl (by simp [hgk])) 4 (.bool false)).set (g := th) (Or.inl (by simp)) 4 (.int .i64 (t.list.length - 1))
      exact ⟨_, rfl, e2.size _, i2.farT e2.hd _ _, (Chg.below HB.out).trans c2 (fun j hj => Or.inl hj)⟩)
    obtain ⟨⟨v, _, hc⟩, _⟩ := HI.out
    have c4 := hc.at4
    have c4f := hc.fr4
    clear hc
    go_wp2_with fail
    obtain ⟨W, hW, HF⟩ := HW3
    rw [← hW]
    go_ret
    refine HX.out W ⟨?_, HF.2.1, ?_⟩ HF.2.2
    · have h1 := HF.1
      have h2 : ((Tr.paint false (.node g c l y r)).list.length : Int) = t.list.length - 1 := by rw [Tr.list_paint]; have := HLEN.out; omega
      rw [h2]
      exact h1
    · rw [Tr.blocks_paint]; exact HND.out

end Go.Proofs.Ytcnmobehamgmbaa

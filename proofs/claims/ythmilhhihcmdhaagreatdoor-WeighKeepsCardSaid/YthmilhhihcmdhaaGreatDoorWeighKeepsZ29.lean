/- Texts of WeighKeeps's proof, together. -/
import Derived.Test.YthmilhhihcmdhaaGreatDoorWeighKeepsZ28
import Derived.Test.YthmilhhihcmdhaaGreatDoorWeighKeepsZ26
import Derived.BigQuiet
import Derived.Deep.QuietTactic
namespace Go.Proofs.YthmilhhihcmdhaaGreatDoor
/- The tree of numbers: a thing comes. -/
section
open Go.RowKit
theorem Law6.lessI (a b : Int) (w : World) : Calls Tryz.prog 169 #[.int .i64 a, .int .i64 b] w fun e w' => e = .returned (.bool (ltI a b)) ∧ w = w' := Law6.less a b w
/-- What put answers. -/
def Puts (x : Int) (t : Tr Int) (w : World) (e : Ending) (w' : World) : Prop := ∃ k, w.heap.size ≤ k ∧ e = .returned (ptr (Tr.put ltI k x t)) ∧ In w' (Tr.put ltI k x t) ∧ Chg t.blocks w w'
/-- A node whose left part has turned. -/
theorem left_turned {w w1 : World} {g : Nat} {c : Bool} {l r l' : Tr Int} {y : Int} {A : Option Addr} {m k : Nat} {th : Nat} {rt : Value} {n : Int} (hc : Cs w g [.int .i64 y, .slice A m k, ptr l, ptr r, .bool c]) (hl : In w l) (hr : In w r) (he : Env w th rt n)
    (hd : (Tr.node g c l y r).blocks.Nodup) (hi : In w1 l') (hw : Chg l.blocks w w1) (hg : g ∉ l'.blocks) :
    Cs w1 g [.int .i64 y, .slice A m k, ptr l, ptr r, .bool c] ∧ St (w1.setCell ⟨g, 2, none⟩ (ptr l')) (.node g c l' y r) ∧ Env (w1.setCell ⟨g, 2, none⟩ (ptr l')) th rt n ∧ Chg (g :: l.blocks) w (w1.setCell ⟨g, 2, none⟩ (ptr l')) := by
  obtain ⟨d1, d2, d3, d4, d5⟩ := nodup_node hd
  have c1 := hc.chg hw d1
  have hn : Nl w1 g := ⟨_, _, _, c1.at1⟩
  have hr1 := hr.chg hw hl.nl (fun j hj hj' => d5 j hj' hj)
  have he1 := he.chg hw hl.nl
  refine ⟨c1, ⟨⟨A, m, k, c1.set 2 (by simp) _⟩, hi.far hn hg _ _, hr1.far hn d2 _ _⟩, ?_, ?_⟩
  · exact he1.chg (F := [g]) ((Chg.refl _ _).set (Or.inl (by simp)) _ _) (fun j hj => by simp at hj; subst hj; exact hn)
  · exact (hw.mono (fun j hj => by simp [hj])).set (Or.inl (by simp)) _ _
theorem right_turned {w w1 : World} {g : Nat} {c : Bool} {l r r' : Tr Int} {y : Int} {A : Option Addr} {m k : Nat} {th : Nat} {rt : Value} {n : Int} (hc : Cs w g [.int .i64 y, .slice A m k, ptr l, ptr r, .bool c]) (hl : In w l) (hr : In w r) (he : Env w th rt n)
    (hd : (Tr.node g c l y r).blocks.Nodup) (hi : In w1 r') (hw : Chg r.blocks w w1) (hg : g ∉ r'.blocks) :
    Cs w1 g [.int .i64 y, .slice A m k, ptr l, ptr r, .bool c] ∧ St (w1.setCell ⟨g, 3, none⟩ (ptr r')) (.node g c l y r') ∧ Env (w1.setCell ⟨g, 3, none⟩ (ptr r')) th rt n ∧ Chg (g :: r.blocks) w (w1.setCell ⟨g, 3, none⟩ (ptr r')) := by
  obtain ⟨d1, d2, d3, d4, d5⟩ := nodup_node hd
  have c1 := hc.chg hw d2
  have hn : Nl w1 g := ⟨_, _, _, c1.at1⟩
  have hl1 := hl.chg hw hr.nl (fun j hj hj' => d5 j hj hj')
  have he1 := he.chg hw hr.nl
  refine ⟨c1, ⟨⟨A, m, k, c1.set 3 (by simp) _⟩, hl1.far hn d1 _ _, hi.far hn hg _ _⟩, ?_, ?_⟩
  · exact he1.chg (F := [g]) ((Chg.refl _ _).set (Or.inl (by simp)) _ _) (fun j hj => by simp at hj; subst hj; exact hn)
  · exact (hw.mono (fun j hj => by simp [hj])).set (Or.inl (by simp)) _ _
theorem nodup_left {g : Nat} {c : Bool} {l r l' : Tr Int} {x : Int} (h : (Tr.node g c l x r).blocks.Nodup) (hl : l'.blocks.Nodup) (ho : ∀ j ∈ l'.blocks, j ∈ l.blocks ∨ (j ∉ (Tr.node g c l x r).blocks)) : (Tr.node g c l' x r).blocks.Nodup := by
  obtain ⟨d1, d2, d3, d4, d5⟩ := nodup_node h
  simp only [Tr.blocks, List.mem_cons, List.mem_append, not_or] at ho
  refine List.nodup_cons.2 ⟨fun hg => ?_, List.nodup_append.2 ⟨hl, d4, fun a ha b hb e => ?_⟩⟩
  · rcases List.mem_append.1 hg with h1 | h1
    · rcases ho g h1 with h2 | h2
      · exact d1 h2
      · exact h2.1 rfl
    · exact d2 h1
  · subst e
    rcases ho a ha with h2 | h2
    · exact d5 a h2 hb
    · exact h2.2.2 hb
theorem nodup_right {g : Nat} {c : Bool} {l r r' : Tr Int} {x : Int} (h : (Tr.node g c l x r).blocks.Nodup) (hl : r'.blocks.Nodup) (ho : ∀ j ∈ r'.blocks, j ∈ r.blocks ∨ (j ∉ (Tr.node g c l x r).blocks)) : (Tr.node g c l x r').blocks.Nodup := by
  obtain ⟨d1, d2, d3, d4, d5⟩ := nodup_node h
  simp only [Tr.blocks, List.mem_cons, List.mem_append, not_or] at ho
  refine List.nodup_cons.2 ⟨fun hg => ?_, List.nodup_append.2 ⟨d3, hl, fun a ha b hb e => ?_⟩⟩
  · rcases List.mem_append.1 hg with h1 | h1
    · exact d1 h1
    · rcases ho g h1 with h2 | h2
      · exact d2 h2
      · exact h2.1 rfl
  · subst e
    rcases ho a hb with h2 | h2
    · exact d5 a ha h2
    · exact h2.2.1 ha
set_option maxRecDepth 100000 in
set_option maxHeartbeats 1000000 in
theorem Rb.put (th : Nat) (rt : Value) (n x : Int) (t : Tr Int) : ∀ w, In w t → t.blocks.Nodup → t.list.length < 900000 → Env w th rt n →
    Calls Tryz.prog 173 #[.pointer (some ⟨th, 0, none⟩), ptr t, .int .i64 x] w (Puts x t w) := by
  induction t with
  | nil =>
    intro w _ _ _ he
    have HS : Hid (St (w.alloc (.cells #[.int .i64 x, .slice none 0 0, .pointer none, .pointer none, .bool true] 208)) (.node w.heap.size true .nil x .nil)) := hid ⟨⟨_, _, _, Cs.alloc_new w _ [.int .i64 x, .slice none 0 0, .pointer none, .pointer none, .bool true]⟩, trivial, trivial⟩
    have HE := hid (he.below ((Below.refl w.heap.size w).alloc (Nat.le_refl _) (.cells #[.int .i64 x, .slice none 0 0, .pointer none, .pointer none, .bool true] 208)))
    clear he
    simp only [ptr_nil]
    go_enter Tryz.func173, Tryz.ntmps173
    go_wp2_with fail
    refine (Rb.balance w.heap.size true .nil .nil x th rt n _ HS.out (by simp [Tr.blocks]) (by simp [Tr.list]) HE.out).mono ?_
    rintro e w1 ⟨rfl, hi, hw⟩
    have HI := hid hi
    have HW := hid hw
    clear hi hw
    have e : Tr.balance (.node w.heap.size true .nil x .nil) = Tr.put ltI w.heap.size x .nil := rfl
    rw [e] at HI ⊢
    go_wp2_with fail
    go_ret
    exact ⟨w.heap.size, Nat.le_refl _, rfl, HI.out, ((Chg.below ((Below.refl w.heap.size w).alloc (Nat.le_refl _) _)).trans HW.out (by simp [Tr.blocks]))⟩
  | node g c l y r ihl ihr =>
    intro w h hd hn he
    have HI := hid h
    have HD := hid hd
    have HE := hid he
    have HN := hid hn
    have IHL := hid ihl
    have IHR := hid ihr
    simp only [Tr.list, List.length_append, List.length_cons] at hn
    obtain ⟨⟨v, hv, hc⟩, hl, hr⟩ := id h
    obtain ⟨A, m, k, rfl⟩ := hv.form
    have HC := hid (And.intro hc (And.intro hl hr))
    obtain ⟨_, _, t0, _⟩ := id he
    have e0 := t0.at0
    have c0 := hc.at0
    have c2 := hc.at2
    have c3 := hc.at3
    have HLT : ∀ z ∈ (Tr.node g c l y r).blocks, z < w.heap.size := fun z hz => (h.nl z hz).lt
    have HLT := hid HLT
    clear h hd he hc hl hr hv t0 ihl ihr
    simp only [ptr_node]
    cases hlt : ltI x y with
    | true =>
      go_enter Tryz.func173, Tryz.ntmps173
      go_wp2_with fail
      go_still_tail 9, (by kernel_rfl)
      change wpList _ _ _ _ _ w.drew
      go_wp2_with fail
      refine (Law6.lessI x y _).mono ?_
      rintro e w1 ⟨rfl, rfl⟩
      rw [hlt]
      go_wp2_with fail
      have HCd := hid (And.intro HC.out.1.drew (And.intro HC.out.2.1.drew HC.out.2.2.drew))
      have HEd := hid (HE.out.below (Below.refl _ _).drew)
      obtain ⟨d1, d2, d3, d4, d5⟩ := nodup_node HD.out
      have HD3 := hid d3
      clear d1 d2 d3 d4 d5
      refine (IHL.out _ HCd.out.2.1 HD3.out (by omega) HEd.out).mono ?_
      rintro e w1 ⟨k', hk, rfl, hi, hw⟩
      have hp := Tr.perm_put ltI k' x l
      have HP := hid hp
      have hout : k' ∉ (Tr.node g c l y r).blocks := fun hm => by
        have h1 := HLT.out _ hm
        have h2 : w.heap.size ≤ k' := hk
        omega
      have hg : g ∉ (Tr.put ltI k' x l).blocks := fun hm => by
        rcases List.mem_cons.1 (hp.mem_iff.1 hm) with rfl | h1
        · exact hout (by simp [Tr.blocks])
        · have := nodup_node HD.out; exact this.1 h1
      have hnd : (Tr.put ltI k' x l).blocks.Nodup := hp.nodup_iff.2 (List.nodup_cons.2 ⟨fun hm => hout (by simp [Tr.blocks, hm]), HD3.out⟩)
      have HT := hid (left_turned HCd.out.1 HCd.out.2.1 HCd.out.2.2 HEd.out HD.out hi hw hg)
      have HND := hid (nodup_left (l' := Tr.put ltI k' x l) HD.out hnd (fun j hj => by
        rcases List.mem_cons.1 (hp.mem_iff.1 hj) with rfl | h1
        · exact Or.inr hout
        · exact Or.inl h1))
      have HLN := hid (Tr.blocks_length (Tr.put ltI k' x l))
      have HK := hid hk
      clear hi hw hp hout hg hnd hk
      have q2 := HT.out.1.at2
      have q3 := HT.out.1.fr2
      have HEQ : Hid (Tr.put ltI k' x (.node g c l y r) = Tr.balance (.node g c (Tr.put ltI k' x l) y r)) := hid (by simp [Tr.put, hlt])
      generalize Tr.put ltI k' x l = L' at *
      obtain ⟨u, hu⟩ := ptr_form L'
      have HU := hid hu
      rw [hu]
      clear hu
      go_wp2_with fail
      have HW : Hid (∃ W, W = w1.setCell ⟨g, 2, none⟩ (.pointer u) ∧ St W (.node g c L' y r) ∧ Env W th rt n ∧ Chg (g :: l.blocks) w W) := hid ⟨_, rfl, by rw [← HU.out]; exact HT.out.2.1, by rw [← HU.out]; exact HT.out.2.2.1, by rw [← HU.out]; exact (Chg.below (Below.refl _ _).drew).trans HT.out.2.2.2 (fun j hj => Or.inl hj)⟩
      obtain ⟨W, hW, HF⟩ := HW
      rw [← hW]
      clear hW q2 q3
      have HF := hid HF
      refine (Rb.balance g c L' r y th rt n W HF.out.1 HND.out (by
        have h1 := HLN.out
        rw [HP.out.length_eq, List.length_cons, Tr.blocks_length] at h1
        simp only [Tr.list, List.length_append, List.length_cons]
        omega) HF.out.2.1).mono ?_
      rintro e w2 ⟨rfl, hi, hw⟩
      have HI2 := hid hi
      have HW2 := hid hw
      clear hi hw
      go_wp2_with fail
      go_ret
      refine ⟨k', HK.out, by rw [HEQ.out]; rfl, by rw [HEQ.out]; exact HI2.out, (HF.out.2.2.mono (fun j hj => ?_)).trans HW2.out (fun j hj => ?_)⟩
      · rcases List.mem_cons.1 hj with rfl | h1
        · simp [Tr.blocks]
        · simp [Tr.blocks, h1]
      · simp only [Tr.blocks, List.mem_cons, List.mem_append] at hj ⊢
        rcases hj with h1 | h1 | h1
        · exact Or.inl (Or.inl h1)
        · rcases List.mem_cons.1 (HP.out.mem_iff.1 h1) with rfl | h2
          · exact Or.inr HK.out
          · exact Or.inl (Or.inr (Or.inl h2))
        · exact Or.inl (Or.inr (Or.inr h1))
    | false =>
      go_enter Tryz.func173, Tryz.ntmps173
      go_wp2_with fail
      go_still_tail 9, (by kernel_rfl)
      change wpList _ _ _ _ _ w.drew
      go_wp2_with fail
      refine (Law6.lessI x y _).mono ?_
      rintro e w1 ⟨rfl, rfl⟩
      rw [hlt]
      go_wp2_with fail
      have HCd := hid (And.intro HC.out.1.drew (And.intro HC.out.2.1.drew HC.out.2.2.drew))
      have HEd := hid (HE.out.below (Below.refl _ _).drew)
      obtain ⟨d1, d2, d3, d4, d5⟩ := nodup_node HD.out
      have HD3 := hid d4
      clear d1 d2 d3 d4 d5
      refine (IHR.out _ HCd.out.2.2 HD3.out (by omega) HEd.out).mono ?_
      rintro e w1 ⟨k', hk, rfl, hi, hw⟩
      have hp := Tr.perm_put ltI k' x r
      have HP := hid hp
      have hout : k' ∉ (Tr.node g c l y r).blocks := fun hm => by
        have h1 := HLT.out _ hm
        have h2 : w.heap.size ≤ k' := hk
        omega
      have hg : g ∉ (Tr.put ltI k' x r).blocks := fun hm => by
        rcases List.mem_cons.1 (hp.mem_iff.1 hm) with rfl | h1
        · exact hout (by simp [Tr.blocks])
        · have := nodup_node HD.out; exact this.2.1 h1
      have hnd : (Tr.put ltI k' x r).blocks.Nodup := hp.nodup_iff.2 (List.nodup_cons.2 ⟨fun hm => hout (by simp [Tr.blocks, hm]), HD3.out⟩)
      have HT := hid (right_turned HCd.out.1 HCd.out.2.1 HCd.out.2.2 HEd.out HD.out hi hw hg)
      have HND := hid (nodup_right (r' := Tr.put ltI k' x r) HD.out hnd (fun j hj => by
        rcases List.mem_cons.1 (hp.mem_iff.1 hj) with rfl | h1
        · exact Or.inr hout
        · exact Or.inl h1))
      have HLN := hid (Tr.blocks_length (Tr.put ltI k' x r))
      have HK := hid hk
      clear hi hw hp hout hg hnd hk
      have q2 := HT.out.1.at3
      have q3 := HT.out.1.fr3
      have HEQ : Hid (Tr.put ltI k' x (.node g c l y r) = Tr.balance (.node g c l y (Tr.put ltI k' x r))) := hid (by simp [Tr.put, hlt])
      generalize Tr.put ltI k' x r = L' at *
      obtain ⟨u, hu⟩ := ptr_form L'
      have HU := hid hu
      rw [hu]
      clear hu
      go_wp2_with fail
      have HW : Hid (∃ W, W = w1.setCell ⟨g, 3, none⟩ (.pointer u) ∧ St W (.node g c l y L') ∧ Env W th rt n ∧ Chg (g :: r.blocks) w W) := hid ⟨_, rfl, by rw [← HU.out]; exact HT.out.2.1, by rw [← HU.out]; exact HT.out.2.2.1, by rw [← HU.out]; exact (Chg.below (Below.refl _ _).drew).trans HT.out.2.2.2 (fun j hj => Or.inl hj)⟩
      obtain ⟨W, hW, HF⟩ := HW
      rw [← hW]
      clear hW q2 q3
      have HF := hid HF
      refine (Rb.balance g c l L' y th rt n W HF.out.1 HND.out (by
        have h1 := HLN.out
        rw [HP.out.length_eq, List.length_cons, Tr.blocks_length] at h1
        simp only [Tr.list, List.length_append, List.length_cons]
        omega) HF.out.2.1).mono ?_
      rintro e w2 ⟨rfl, hi, hw⟩
      have HI2 := hid hi
      have HW2 := hid hw
      clear hi hw
      go_wp2_with fail
      go_ret
      refine ⟨k', HK.out, by rw [HEQ.out]; rfl, by rw [HEQ.out]; exact HI2.out, (HF.out.2.2.mono (fun j hj => ?_)).trans HW2.out (fun j hj => ?_)⟩
      · rcases List.mem_cons.1 hj with rfl | h1
        · simp [Tr.blocks]
        · simp [Tr.blocks, h1]
      · simp only [Tr.blocks, List.mem_cons, List.mem_append] at hj ⊢
        rcases hj with h1 | h1 | h1
        · exact Or.inl (Or.inl h1)
        · exact Or.inl (Or.inr (Or.inl h1))
        · rcases List.mem_cons.1 (HP.out.mem_iff.1 h1) with rfl | h2
          · exact Or.inr HK.out
          · exact Or.inl (Or.inr (Or.inr h2))
end

/- The tree of numbers: lending. -/
section
open Go.RowKit
/-- A node's right part has turned by itself. -/
theorem StL.set {w w1 : World} {g : Nat} {c : Bool} {l r r' : Tr Int} {y : Int} {th : Nat} {rt : Value} {n : Int} (hst : St w (.node g c l y r)) (he : Env w th rt n)
    (hd : (Tr.node g c l y r).blocks.Nodup) (hi : St w1 r') (hw : Chg r.blocks w w1) (hp : r'.blocks.Perm r.blocks) (hr' : ∀ W, Nl w1 g → g ∉ r'.blocks → W = w1.setCell ⟨g, 3, none⟩ (ptr r') → St W r') :
    w1.cell? ⟨g, 3, none⟩ = some (ptr r) ∧ w1.frozen? ⟨g, 3, none⟩ = false ∧ StL (w1.setCell ⟨g, 3, none⟩ (ptr r')) (.node g c l y r') ∧ Env (w1.setCell ⟨g, 3, none⟩ (ptr r')) th rt n ∧ Chg (Tr.node g c l y r).blocks w (w1.setCell ⟨g, 3, none⟩ (ptr r')) := by
  obtain ⟨d1, d2, d3, d4, d5⟩ := nodup_node hd
  obtain ⟨⟨A, m, k, hc⟩, hl, hr⟩ := hst
  have c1 := hc.chg hw d2
  have hn : Nl w1 g := ⟨_, _, _, c1.at1⟩
  have hg : g ∉ r'.blocks := fun h => d2 (hp.mem_iff.1 h)
  have hl1 := hl.chg hw hr.nl (fun j hj hj' => d5 j hj hj')
  have he1 := he.chg hw hr.nl
  refine ⟨c1.at3, c1.fr3, ⟨⟨A, m, k, c1.set 3 (by simp) _⟩, hl1.far hn d1 _ _, hr' _ hn hg rfl⟩, ?_, ?_⟩
  · exact he1.chg (F := [g]) ((Chg.refl _ _).set (Or.inl (by simp)) _ _) (fun j hj => by simp at hj; subst hj; exact hn)
  · exact (hw.mono (fun j hj => by simp [Tr.blocks, hj])).set (Or.inl (by simp [Tr.blocks])) _ _
theorem St.far {w : World} {t : Tr Int} (h : St w t) {g : Nat} (hn : Nl w g) (hg : g ∉ t.blocks) (o : Nat) (u : Value) : St (w.setCell ⟨g, o, none⟩ u) t := by
  cases t with
  | nil => trivial
  | node g' c l x r =>
    simp only [Tr.blocks, List.mem_cons, List.mem_append, not_or] at hg
    obtain ⟨⟨A, m, k, hc⟩, hl, hr⟩ := h
    exact ⟨⟨A, m, k, hc.far hg.1 _ _⟩, hl.far hn hg.2.1 _ _, hr.far hn hg.2.2 _ _⟩
end

/- The tree of numbers: is a thing there, a thing more, a thing less. -/
section
open Go.RowKit
/-- A whole tree lies here. -/
def TreeAt (w : World) (th : Nat) (t : Tr Int) : Prop := Env w th (ptr t) t.list.length ∧ In w t ∧ t.blocks.Nodup
theorem TreeAt.below {w w' : World} {th : Nat} {t : Tr Int} (h : TreeAt w th t) (hb : Below w.heap.size w w') : TreeAt w' th t := ⟨h.1.below hb, h.2.1.below hb, h.2.2⟩
set_option maxRecDepth 100000 in
set_option maxHeartbeats 1000000 in
theorem Rb.has (th : Nat) (t : Tr Int) (x : Int) (w : World) (h : TreeAt w th t) :
    Calls Tryz.prog 172 #[.pointer (some ⟨th, 0, none⟩), .int .i64 x] w (Ans (.bool (Tr.has ltI x t)) w) := by
  have HT := hid h
  obtain ⟨_, _, t0, _⟩ := h.1
  have e3 := t0.at3
  have HL := hid (t0.at0)
  clear t0 h
  go_enter Tryz.func172, Tryz.ntmps172
  go_wp2_with fail
  go_loopg [5] t.size (fun s a wr => Below w.heap.size w wr ∧ ∃ u : Tr Int, a = ptr u ∧ s = u.size ∧ In w u ∧ Tr.has ltI x u = Tr.has ltI x t)
  case atStart => exact ⟨Below.refl _ _, t, rfl, rfl, HT.out.2.1, rfl⟩
  case round =>
    obtain ⟨hb, u, rfl, hs, hi, he⟩ := hrel
    have HB := hid hb
    have HS := hid hs
    have HE := hid he
    have HI := hid (hi.below hb)
    have HIw := hid hi
    have e0 := keep1 hb HL.out
    clear hb hs he hi e3
    cases u with
    | nil =>
      simp only [ptr_nil]
      clear e0
      go_wp2_with fail
      go_ret
      exact ⟨by rw [← HE.out]; rfl, HB.out⟩
    | node g c l y r =>
      obtain ⟨⟨v, _, hc⟩, hl, hr⟩ := id HI.out
      have c0 := hc.at0
      have c2 := hc.at2
      have c3 := hc.at3
      clear hc hl hr
      simp only [ptr_node]
      have HQ : Hid (Tr.has ltI x (.node g c l y r) = if ltI x y then Tr.has ltI x l else if ltI y x then Tr.has ltI x r else true) := hid rfl
      cases h1 : ltI x y with
      | true =>
        have H1 := hid h1
        clear h1
        go_wp2_with fail
        go_still_tail 9, (by kernel_rfl)
        change wpList _ _ _ _ _ wr.drew
        go_wp2_with fail
        refine (Law6.lessI x y _).mono ?_
        rintro e w1 ⟨rfl, rfl⟩
        rw [H1.out]
        go_wp2_with fail
        go_roundg l.size
        case measure => have := HS.out; simp only [Tr.size] at this; omega
        case rel => exact ⟨HB.out.drew, l, rfl, rfl, HIw.out.2.1, by rw [← HE.out, HQ.out, if_pos H1.out]⟩
      | false =>
        have H1 := hid h1
        clear h1
        cases h2 : ltI y x with
        | true =>
          have H2 := hid h2
          clear h2
          go_wp2_with fail
          go_still_tail 9, (by kernel_rfl)
          change wpList _ _ _ _ _ wr.drew
          go_wp2_with fail
          refine (Law6.lessI x y _).mono ?_
          rintro e w1 ⟨rfl, rfl⟩
          rw [H1.out]
          go_wp2_with fail
          have X := hid (And.intro HB.out.drew (And.intro (show wr.drew.cell? ⟨g, 0, none⟩ = _ from c0) (And.intro (show wr.drew.cell? ⟨g, 3, none⟩ = _ from c3) (show wr.drew.cell? ⟨th, 0, none⟩ = _ from e0))))
          clear c0 c2 c3 e0 HI HB
          generalize wr.drew = w9 at X ⊢
          obtain ⟨hb9, c0, c3, e0⟩ := X
          have HB := hid hb9
          clear hb9
          go_still_tail 9, (by kernel_rfl)
          change wpList _ _ _ _ _ w9.drew
          go_wp2_with fail
          refine (Law6.lessI y x _).mono ?_
          rintro e w1 ⟨rfl, rfl⟩
          rw [H2.out]
          go_wp2_with fail
          go_roundg r.size
          case measure => have := HS.out; simp only [Tr.size] at this; omega
          case rel => exact ⟨HB.out.drew, r, rfl, rfl, HIw.out.2.2, by rw [← HE.out, HQ.out, if_neg (by rw [H1.out]; simp), if_pos H2.out]⟩
        | false =>
          have H2 := hid h2
          clear h2
          go_wp2_with fail
          go_still_tail 9, (by kernel_rfl)
          change wpList _ _ _ _ _ wr.drew
          go_wp2_with fail
          refine (Law6.lessI x y _).mono ?_
          rintro e w1 ⟨rfl, rfl⟩
          rw [H1.out]
          go_wp2_with fail
          have X := hid (And.intro HB.out.drew (And.intro (show wr.drew.cell? ⟨g, 0, none⟩ = _ from c0) (And.intro (show wr.drew.cell? ⟨g, 3, none⟩ = _ from c3) (show wr.drew.cell? ⟨th, 0, none⟩ = _ from e0))))
          clear c0 c2 c3 e0 HI HB
          generalize wr.drew = w9 at X ⊢
          obtain ⟨hb9, c0, c3, e0⟩ := X
          have HB := hid hb9
          clear hb9
          go_still_tail 9, (by kernel_rfl)
          change wpList _ _ _ _ _ w9.drew
          go_wp2_with fail
          refine (Law6.lessI y x _).mono ?_
          rintro e w1 ⟨rfl, rfl⟩
          rw [H2.out]
          go_wp2_with fail
          go_ret
          exact ⟨by rw [← HE.out, HQ.out, if_neg (by rw [H1.out]; simp), if_neg (by rw [H2.out]; simp)]; rfl, HB.out.drew⟩
end

/- The tree of numbers: Insert, Delete. -/
section
open Go.RowKit
/-- The tree's own variable is no node, and no list. -/
def Hd (w : World) (th : Nat) : Prop := ∃ f a c, w.cell? ⟨th, 0, none⟩ = some (.func f a c)
theorem Env.hd {w : World} {th : Nat} {rt : Value} {n : Int} (h : Env w th rt n) : Hd w th := by obtain ⟨_, _, t, _⟩ := h; exact ⟨_, _, _, t.at0⟩
theorem Sl.farT {w : World} {v : Value} {L : List Int} (h : Sl w v L) {th : Nat} (ht : Hd w th) (o : Nat) (u : Value) : Sl (w.setCell ⟨th, o, none⟩ u) v L := by
  obtain ⟨s, c, e, h1, h2, h3, h4⟩ := h
  have hs : th ≠ s := by
    rintro rfl
    obtain ⟨f, a, k, hk⟩ := ht
    rw [h3 0 h1] at hk; injection hk with hk; cases hk
  refine ⟨s, c, e, h1, by simpa [World.setCell] using h2, fun i hi => ?_, h4.imp id (fun h => ?_)⟩
  · exact (World.cell?_setCell_other w ⟨th, o, none⟩ ⟨s, i, none⟩ u (fun e => by injection e with e1; exact hs e1)).trans (h3 i hi)
  · exact (World.cell?_setCell_other w ⟨th, o, none⟩ ⟨s, 1, none⟩ u (fun e => by injection e with e1; exact hs e1)).trans h
theorem Cs.farT {w : World} {g : Nat} {x : Int} {vs : List Value} (h : Cs w g (.int .i64 x :: vs)) {th : Nat} (ht : Hd w th) (o : Nat) (u : Value) : Cs (w.setCell ⟨th, o, none⟩ u) g (.int .i64 x :: vs) :=
  h.far (fun e => by subst e; obtain ⟨f, a, k, hk⟩ := ht; rw [h.at0] at hk; injection hk with hk; cases hk) _ _
theorem In.farT {w : World} {t : Tr Int} {th : Nat} (ht : Hd w th) (o : Nat) (u : Value) : In w t → In (w.setCell ⟨th, o, none⟩ u) t := by
  induction t with
  | nil => intro _; trivial
  | node g c l x r ihl ihr =>
    intro h
    obtain ⟨⟨v, hv, hc⟩, hl, hr⟩ := h
    exact ⟨⟨v, hv.farT ht _ _, hc.farT ht _ _⟩, ihl hl, ihr hr⟩
theorem Env.root {w : World} {th : Nat} {rt : Value} {n : Int} (h : Env w th rt n) (u : Value) : Env (w.setCell ⟨th, 3, none⟩ u) th u n := by
  obtain ⟨b1, b2, h0, h1, h2, n1, n2⟩ := h
  have f1 : th ≠ b1 := by rintro rfl; rw [h0.at1] at n1; cases n1
  have f2 : th ≠ b2 := by rintro rfl; rw [h0.at1] at n2; cases n2
  refine ⟨b1, b2, h0.set 3 (by simp) u, h1.far f1 _ _, h2.far f2 _ _, ?_, ?_⟩
  · exact (World.cell?_setCell_other w ⟨th, 3, none⟩ ⟨b1, 1, none⟩ u (fun e => by injection e with e1; exact f1 e1)).trans n1
  · exact (World.cell?_setCell_other w ⟨th, 3, none⟩ ⟨b2, 1, none⟩ u (fun e => by injection e with e1; exact f2 e1)).trans n2
theorem Env.size {w : World} {th : Nat} {rt : Value} {n : Int} (h : Env w th rt n) (m : Int) : Env (w.setCell ⟨th, 4, none⟩ (.int .i64 m)) th rt m := by
  obtain ⟨b1, b2, h0, h1, h2, n1, n2⟩ := h
  have f1 : th ≠ b1 := by rintro rfl; rw [h0.at1] at n1; cases n1
  have f2 : th ≠ b2 := by rintro rfl; rw [h0.at1] at n2; cases n2
  refine ⟨b1, b2, h0.set 4 (by simp) _, h1.far f1 _ _, h2.far f2 _ _, ?_, ?_⟩
  · exact (World.cell?_setCell_other w ⟨th, 4, none⟩ ⟨b1, 1, none⟩ _ (fun e => by injection e with e1; exact f1 e1)).trans n1
  · exact (World.cell?_setCell_other w ⟨th, 4, none⟩ ⟨b2, 1, none⟩ _ (fun e => by injection e with e1; exact f2 e1)).trans n2
theorem Tr.put_ne {α : Type} (lt : α → α → Bool) (k : Nat) (x : α) (t : Tr α) : Tr.put lt k x t ≠ .nil := by
  intro e
  have := (Tr.perm_put lt k x t).length_eq
  rw [e] at this
  simp [Tr.blocks] at this
theorem Tr.length_put {α : Type} (lt : α → α → Bool) (k : Nat) (x : α) (t : Tr α) : (Tr.put lt k x t).list.length = t.list.length + 1 := by
  rw [← Tr.blocks_length, (Tr.perm_put lt k x t).length_eq, List.length_cons, Tr.blocks_length]
/-- What Insert answers that takes in. -/
def Ins (x : Int) (t : Tr Int) (th : Nat) (w : World) (e : Ending) (w' : World) : Prop := ∃ k, w.heap.size ≤ k ∧ e = .returned (.bool true) ∧ TreeAt w' th ((Tr.put ltI k x t).paint false) ∧ Chg (th :: t.blocks) w w'
set_option maxRecDepth 100000 in
set_option maxHeartbeats 1000000 in
theorem Rb.insert_no (th : Nat) (t : Tr Int) (x : Int) (w : World) (h : TreeAt w th t) (hh : Tr.has ltI x t = true) :
    Calls Tryz.prog 155 #[.pointer (some ⟨th, 0, none⟩), .int .i64 x] w (Ans (.bool false) w) := by
  have HT := hid h
  have HH := hid hh
  clear h hh
  go_enter Tryz.func155, Tryz.ntmps155
  go_wp2_with fail
  refine (Rb.has th t x _ HT.out).mono ?_
  rintro e w1 ⟨rfl, hb⟩
  rw [HH.out]
  have HB := hid hb
  clear hb
  go_wp2_with fail
  go_ret
  exact ⟨rfl, HB.out⟩
set_option maxRecDepth 100000 in
set_option maxHeartbeats 1000000 in
theorem Rb.insert (th : Nat) (t : Tr Int) (x : Int) (w : World) (h : TreeAt w th t) (hn : t.list.length < 900000) (hh : Tr.has ltI x t = false) :
    Calls Tryz.prog 155 #[.pointer (some ⟨th, 0, none⟩), .int .i64 x] w (Ins x t th w) := by
  have HT := hid h
  have HH := hid hh
  have HN := hid hn
  clear h hh hn
  go_enter Tryz.func155, Tryz.ntmps155
  go_wp2_with fail
  refine (Rb.has th t x _ HT.out).mono ?_
  rintro e w1 ⟨rfl, hb⟩
  rw [HH.out]
  have HT1 := hid (HT.out.below hb)
  have HB := hid hb
  obtain ⟨_, _, t0, _⟩ := HT1.out.1
  have e3 := t0.at3
  have e3f := t0.fr3
  clear hb t0
  go_wp2_with fail
  refine (Rb.put th (ptr t) t.list.length x t _ HT1.out.2.1 HT1.out.2.2 HN.out HT1.out.1).mono ?_
  rintro e w2 ⟨k, hk, rfl, hi, hw⟩
  have hk' : w.heap.size ≤ k := Nat.le_trans HB.out.size hk
  have HE2 := hid (HT1.out.1.chg hw HT1.out.2.1.nl)
  have hnd : (Tr.put ltI k x t).blocks.Nodup := (Tr.perm_put ltI k x t).nodup_iff.2 (List.nodup_cons.2 ⟨fun hm => by have := (HT1.out.2.1.nl k hm).lt; omega, HT1.out.2.2⟩)
  have HLEN := hid (Tr.length_put ltI k x t)
  have HP := hid (Tr.perm_put ltI k x t)
  have HPN := hid (Tr.put_ne ltI k x t)
  have HND := hid hnd
  have HI := hid hi
  have HW := hid hw
  have HK := hid hk'
  obtain ⟨_, _, t0, _⟩ := HE2.out
  have q3 := t0.at3
  have q3f := t0.fr3
  have hkw := hid hk
  clear hi hw hk hk' hnd t0 e3 e3f
  have HX : Hid (∀ w', TreeAt w' th ((Tr.put ltI k x t).paint false) → Chg (th :: t.blocks) w w' → Ins x t th w (.returned (.bool true)) w') := hid (fun w' h1 h2 => ⟨k, HK.out, rfl, h1, h2⟩)
  generalize Tr.put ltI k x t = T at *
  cases T with
  | nil => exact absurd rfl HPN.out
  | node g c l y r =>
    simp only [ptr_node]
    have hne : th ≠ g := fun e => by
      obtain ⟨f, a, k', hk⟩ := HE2.out.hd
      obtain ⟨⟨v, _, hc⟩, _⟩ := HI.out
      rw [e, hc.at0] at hk; injection hk with hk; cases hk
    have hne' : g ≠ th := Ne.symm hne
    have HW3 : Hid (∃ W, W = ((w2.setCell ⟨th, 3, none⟩ (.pointer (some ⟨g, 0, none⟩))).setCell ⟨g, 4, none⟩ (.bool false)).setCell ⟨th, 4, none⟩ (.int .i64 (t.list.length + 1)) ∧
        Env W th (.pointer (some ⟨g, 0, none⟩)) (t.list.length + 1) ∧ In W (.node g false l y r) ∧ Chg (th :: t.blocks) w W) := hid (by
      have e1 := HE2.out.root (.pointer (some ⟨g, 0, none⟩))
      have i1 := HI.out.farT HE2.out.hd 3 (.pointer (some ⟨g, 0, none⟩))
      have hd := nodup_node HND.out
      have hn1 : Nl (w2.setCell ⟨th, 3, none⟩ (.pointer (some ⟨g, 0, none⟩))) g := i1.nl g (by simp [Tr.blocks])
      have e2 := e1.chg (F := [g]) ((Chg.refl _ _).set (g := g) (Or.inl (by simp)) 4 (.bool false)) (fun j hj => by simp at hj; subst hj; exact hn1)
      have i2 := i1.paint (d := false) ⟨hd.1, hd.2.1⟩
      have hgk : g ∈ t.blocks ∨ w1.heap.size ≤ g := by
        rcases List.mem_cons.1 (HP.out.mem_iff.1 (show g ∈ (Tr.node g c l y r).blocks by simp [Tr.blocks])) with h1 | h1
        · subst h1; exact Or.inr hkw.out
        · exact Or.inl h1
      have c1 : Chg (th :: t.blocks) w1 w2 := HW.out.mono (fun j hj => by simp [hj])
      have c2 := ((c1.set (g := th) (Or.inl (by simp)) 3 (.pointer (some ⟨g, 0, none⟩))).set (g := g) (hgk.imp (fun h => by simp [h]) id) 4 (.bool false)).set (g := th) (Or.inl (by simp)) 4 (.int .i64 (t.list.length + 1))
      exact ⟨_, rfl, e2.size _, i2.farT e2.hd _ _, (Chg.below HB.out).trans c2 (fun j hj => Or.inl hj)⟩)
    obtain ⟨⟨v, _, hc⟩, _⟩ := HI.out
    obtain ⟨_, _, t0, _⟩ := HE2.out
    have c4 := hc.at4
    have c4f := hc.fr4
    have q4 := t0.at4
    have q4f := t0.fr4
    have hb := HN.out
    clear hc t0
    go_wp2_with fail
    obtain ⟨W, hW, HF⟩ := HW3
    rw [← hW]
    go_ret
    refine HX.out W ⟨?_, HF.2.1, ?_⟩ HF.2.2
    · have := HF.1
      rw [Tr.list_paint, HLEN.out]
      exact this
    · rw [Tr.blocks_paint]; exact HND.out
end

end Go.Proofs.YthmilhhihcmdhaaGreatDoor

/- The tree of numbers: a thing comes. -/
import Derived.Test.YtcnmobehamgmbaaRbF
import Derived.Test.YtcnmobehamgmbaaRbS
namespace Go.Proofs.Ytcnmobehamgmbaa
open Go.RowKit

theorem Law6.lessI (a b : Int) (w : World) : Calls Try.prog 66 #[.int .i64 a, .int .i64 b] w fun e w' => e = .returned (.bool (ltI a b)) ∧ w = w' := Law6.less a b w

/-- What put answers. -/
def Puts (x : Int) (t : Tr Int) (w : World) (e : Ending) (w' : World) : Prop := ∃ k, w.heap.size ≤ k ∧ e = .returned (ptr (Tr.put ltI k x t)) ∧ In w' (Tr.put ltI k x t) ∧ Chg t.blocks w w'

/-- A node whose left part has turned. -/
theorem left_turned {w w1 : World} {g : Nat} {c : Bool} {l r l' : Tr Int} {y : Int} {A : Option Addr} {m k : Nat} {th : Nat} {rt : Value} {n : Int} (hc : Cs w g [.int .i64 y, .slice A m k, ptr l, ptr r, .bool c]) (hl : In w l) (hr : In w r) (he : Env w th rt n)
    (hd : (Tr.node g c l y r).blocks.Nodup) (hi : In w1 l') (hw : Chg l.blocks w w1) (hg : g ∉ l'.blocks) :
    Cs w1 g [.int .i64 y, .slice A m k, ptr l, ptr r, .bool c] ∧ St (w1.setCell ⟨g, 2, none⟩ (ptr l')) (.node g c l' y r) ∧ Env (w1.setCell ⟨g, 2, none⟩ (ptr l')) th rt n ∧ Chg (g :: l.blocks) w (w1.setCell ⟨g, 2, none⟩ (ptr l')) := by
  obtain ⟨d1, d2, d3, d4, d5⟩ := nodup_node hd
  have c1 := hc.chg hw d1
  have hn : Nl w1 g := ⟨_, _, _, c1.at1⟩
  have hr1 := hr.chg hw hl.nl (fun j hj hj' => d5 j hj' hj)
  have he1 := he.chg hw hl.nl
  refine ⟨c1, ⟨⟨A, m, k, c1.set 2 (by simp) _⟩, hi.far hn hg _ _, hr1.far hn d2 _ _⟩, ?_, ?_⟩
  · exact he1.chg (F := [g]) ((Chg.refl _ _).set (Or.inl (by simp)) _ _) (fun j hj => by simp at hj; subst hj; exact hn)
  · exact (hw.mono (fun j hj => by simp [hj])).set (Or.inl (by simp)) _ _
theorem right_turned {w w1 : World} {g : Nat} {c : Bool} {l r r' : Tr Int} {y : Int} {A : Option Addr} {m k : Nat} {th : Nat} {rt : Value} {n : Int} (hc : Cs w g [.int .i64 y, .slice A m k, ptr l, ptr r, .bool c]) (hl : In w l) (hr : In w r) (he : Env w th rt n)
    (hd : (Tr.node g c l y r).blocks.Nodup) (hi : In w1 r') (hw : Chg r.blocks w w1) (hg : g ∉ r'.blocks) :
    Cs w1 g [.int .i64 y, .slice A m k, ptr l, ptr r, .bool c] ∧ St (w1.setCell ⟨g, 3, none⟩ (ptr r')) (.node g c l y r') ∧ Env (w1.setCell ⟨g, 3, none⟩ (ptr r')) th rt n ∧ Chg (g :: r.blocks) w (w1.setCell ⟨g, 3, none⟩ (ptr r')) := by
  obtain ⟨d1, d2, d3, d4, d5⟩ := nodup_node hd
  have c1 := hc.chg hw d2
  have hn : Nl w1 g := ⟨_, _, _, c1.at1⟩
  have hl1 := hl.chg hw hr.nl (fun j hj hj' => d5 j hj hj')
  have he1 := he.chg hw hr.nl
  refine ⟨c1, ⟨⟨A, m, k, c1.set 3 (by simp) _⟩, hl1.far hn d1 _ _, hi.far hn hg _ _⟩, ?_, ?_⟩
  · exact he1.chg (F := [g]) ((Chg.refl _ _).set (Or.inl (by simp)) _ _) (fun j hj => by simp at hj; subst hj; exact hn)
  · exact (hw.mono (fun j hj => by simp [hj])).set (Or.inl (by simp)) _ _
theorem nodup_left {g : Nat} {c : Bool} {l r l' : Tr Int} {x : Int} (h : (Tr.node g c l x r).blocks.Nodup) (hl : l'.blocks.Nodup) (ho : ∀ j ∈ l'.blocks, j ∈ l.blocks ∨ (j ∉ (Tr.node g c l x r).blocks)) : (Tr.node g c l' x r).blocks.Nodup := by
  obtain ⟨d1, d2, d3, d4, d5⟩ := nodup_node h
  simp only [Tr.blocks, List.mem_cons, List.mem_append, not_or] at ho
  refine List.nodup_cons.2 ⟨fun hg => ?_, List.nodup_append.2 ⟨hl, d4, fun a ha b hb e => ?_⟩⟩
  · rcases List.mem_append.1 hg with h1 | h1
    · rcases ho g h1 with h2 | h2
      · exact d1 h2
      · exact h2.1 rfl
    · exact d2 h1
  · subst e
    rcases ho a ha with h2 | h2
    · exact d5 a h2 hb
    · exact h2.2.2 hb
theorem nodup_right {g : Nat} {c : Bool} {l r r' : Tr Int} {x : Int} (h : (Tr.node g c l x r).blocks.Nodup) (hl : r'.blocks.Nodup) (ho : ∀ j ∈ r'.blocks, j ∈ r.blocks ∨ (j ∉ (Tr.node g c l x r).blocks)) : (Tr.node g c l x r').blocks.Nodup := by
  obtain ⟨d1, d2, d3, d4, d5⟩ := nodup_node h
  simp only [Tr.blocks, List.mem_cons, List.mem_append, not_or] at ho
  refine List.nodup_cons.2 ⟨fun hg => ?_, List.nodup_append.2 ⟨d3, hl, fun a ha b hb e => ?_⟩⟩
  · rcases List.mem_append.1 hg with h1 | h1
    · exact d1 h1
    · rcases ho g h1 with h2 | h2
      · exact d2 h2
      · exact h2.1 rfl
  · subst e
    rcases ho a hb with h2 | h2
    · exact d5 a ha h2
    · exact h2.2.1 ha

set_option maxRecDepth 100000 in
set_option maxHeartbeats 1000000 in
theorem Rb.put (th : Nat) (rt : Value) (n x : Int) (t : Tr Int) : ∀ w, In w t → t.blocks.Nodup → t.list.length < 900000 → Env w th rt n →
    Calls Try.prog 72 #[.pointer (some ⟨th, 0, none⟩), ptr t, .int .i64 x] w (Puts x t w) := by
  induction t with
  | nil =>
    intro w _ _ _ he
    have HS : Hid (St (w.alloc (.cells #[.int .i64 x, .slice none 0 0, .pointer none, .pointer none, .bool true] 100)) (.node w.heap.size true .nil x .nil)) := hid ⟨⟨_, _, _, Cs.alloc_new w _ [.int .i64 x, .slice none 0 0, .pointer none, .pointer none, .bool true]⟩, trivial, trivial⟩
    have HE := hid (he.below ((Below.refl w.heap.size w).alloc (Nat.le_refl _) (.cells #[.int .i64 x, .slice none 0 0, .pointer none, .pointer none, .bool true] 100)))
    clear he
    simp only [ptr_nil]
    go_enter Try.func72, Try.ntmps72
    go_wp2_with fail
    refine (Rb.balance w.heap.size true .nil .nil x th rt n _ HS.out (by simp [Tr.blocks]) (by simp [Tr.list]) HE.out).mono ?_
    rintro e w1 ⟨rfl, hi, hw⟩
    have HI := hid hi
    have HW := hid hw
    clear hi hw
    have e : Tr.balance (.node w.heap.size true .nil x .nil) = Tr.put ltI w.heap.size x .nil := rfl
    rw [e] at HI ⊢
    go_wp2_with fail
    go_ret
    exact ⟨w.heap.size, Nat.le_refl _, rfl, HI.out, ((Chg.below ((Below.refl w.heap.size w).alloc (Nat.le_refl _) _)).trans HW.out (by simp [Tr.blocks]))⟩
  | node g c l y r ihl ihr =>
    intro w h hd hn he
    have HI := hid h
    have HD := hid hd
    have HE := hid he
    have HN := hid hn
    have IHL := hid ihl
    have IHR := hid ihr
    simp only [Tr.list, List.length_append, List.length_cons] at hn
    obtain ⟨⟨v, hv, hc⟩, hl, hr⟩ := id h
    obtain ⟨A, m, k, rfl⟩ := hv.form
    have HC := hid (And.intro hc (And.intro hl hr))
    obtain ⟨_, _, t0, _⟩ := id he
    have e0 := t0.at0
    have c0 := hc.at0
    have c2 := hc.at2
    have c3 := hc.at3
    have HLT : ∀ z ∈ (Tr.node g c l y r).blocks, z < w.heap.size := fun z hz => (h.nl z hz).lt
    have HLT := hid HLT
    clear h hd he hc hl hr hv t0 ihl ihr
    simp only [ptr_node]
    cases hlt : ltI x y with
    | true =>
      go_enter Try.func72, Try.ntmps72
      go_wp2_with fail
      go_still_tail 9, (by kernel_rfl)
      change wpList _ _ _ _ _ w.drew
      go_wp2_with fail
      refine (Law6.lessI x y _).mono ?_
      rintro e w1 ⟨rfl, rfl⟩
      rw [hlt]
      go_wp2_with fail
      have HCd := hid (And.intro HC.out.1.drew (And.intro HC.out.2.1.drew HC.out.2.2.drew))
      have HEd := hid (HE.out.below (Below.refl _ _).drew)
      obtain ⟨d1, d2, d3, d4, d5⟩ := nodup_node HD.out
      have HD3 := hid d3
      clear d1 d2 d3 d4 d5
      refine (IHL.out _ HCd.out.2.1 HD3.out (by omega) HEd.out).mono ?_
      rintro e w1 ⟨k', hk, rfl, hi, hw⟩
      have hp := Tr.perm_put ltI k' x l
      have HP := hid hp
      have hout : k' ∉ (Tr.node g c l y r).blocks := fun hm => by
        have h1 := HLT.out _ hm
        have h2 : w.heap.size ≤ k' := hk
        omega
      have hg : g ∉ (Tr.put ltI k' x l).blocks := fun hm => by
        rcases List.mem_cons.1 (hp.mem_iff.1 hm) with rfl | h1
        · exact hout (by simp [Tr.blocks])
        · have := nodup_node HD.out; exact this.1 h1
      have hnd : (Tr.put ltI k' x l).blocks.Nodup := hp.nodup_iff.2 (List.nodup_cons.2 ⟨fun hm => hout (by simp [Tr.blocks, hm]), HD3.out⟩)
      have HT := hid (left_turned HCd.out.1 HCd.out.2.1 HCd.out.2.2 HEd.out HD.out hi hw hg)
      have HND := hid (nodup_left (l' := Tr.put ltI k' x l) HD.out hnd (fun j hj => by
        rcases List.mem_cons.1 (hp.mem_iff.1 hj) with rfl | h1
        · exact Or.inr hout
        · exact Or.inl h1))
      have HLN := hid (Tr.blocks_length (Tr.put ltI k' x l))
      have HK := hid hk
      clear hi hw hp hout hg hnd hk
      have q2 := HT.out.1.at2
      have q3 := HT.out.1.fr2
      have HEQ : Hid (Tr.put ltI k' x (.node g c l y r) = Tr.balance (.node g c (Tr.put ltI k' x l) y r)) := hid (by simp [Tr.put, hlt])
      generalize Tr.put ltI k' x l = L' at *
      obtain ⟨u, hu⟩ := ptr_form L'
      have HU := hid hu
      rw [hu]
      clear hu
      go_wp2_with fail
      have HW : Hid (∃ W, W = w1.setCell ⟨g, 2, none⟩ (.pointer u) ∧ St W (.node g c L' y r) ∧ Env W th rt n ∧ Chg (g :: l.blocks) w W) := hid ⟨_, rfl, by rw [← HU.out]; exact HT.out.2.1, by rw [← HU.out]; exact HT.out.2.2.1, by rw [← HU.out]; exact (Chg.below (Below.refl _ _).drew).trans HT.out.2.2.2 (fun j hj => Or.inl hj)⟩
      obtain ⟨W, hW, HF⟩ := HW
      rw [← hW]
      clear hW q2 q3
      have HF := hid HF
      refine (Rb.balance g c L' r y th rt n W HF.out.1 HND.out (by
        have h1 := HLN.out
        rw [HP.out.length_eq, List.length_cons, Tr.blocks_length] at h1
        simp only [Tr.list, List.length_append, List.length_cons]
        omega) HF.out.2.1).mono ?_
      rintro e w2 ⟨rfl, hi, hw⟩
      have HI2 := hid hi
      have HW2 := hid hw
      clear hi hw
      go_wp2_with fail
      go_ret
      refine ⟨k', HK.out, by rw [HEQ.out]; rfl, by rw [HEQ.out]; exact HI2.out, (HF.out.2.2.mono (fun j hj => ?_)).trans HW2.out (fun j hj => ?_)⟩
      · rcases List.mem_cons.1 hj with rfl | h1
        · simp [Tr.blocks]
        · simp [Tr.blocks, h1]
      · simp only [Tr.blocks, List.mem_cons, List.mem_append] at hj ⊢
        rcases hj with h1 | h1 | h1
        · exact Or.inl (Or.inl h1)
        · rcases List.mem_cons.1 (HP.out.mem_iff.1 h1) with rfl | h2
          · exact Or.inr HK.out
          · exact Or.inl (Or.inr (Or.inl h2))
        · exact Or.inl (Or.inr (Or.inr h1))
    | false =>
      go_enter Try.func72, Try.ntmps72
      go_wp2_with fail
      go_still_tail 9, (by kernel_rfl)
      change wpList _ _ _ _ _ w.drew
      go_wp2_with fail
      refine (Law6.lessI x y _).mono ?_
      rintro e w1 ⟨rfl, rfl⟩
      rw [hlt]
      go_wp2_with fail
      have HCd := hid (And.intro HC.out.1.drew (And.intro HC.out.2.1.drew HC.out.2.2.drew))
      have HEd := hid (HE.out.below (Below.refl _ _).drew)
      obtain ⟨d1, d2, d3, d4, d5⟩ := nodup_node HD.out
      have HD3 := hid d4
      clear d1 d2 d3 d4 d5
      refine (IHR.out _ HCd.out.2.2 HD3.out (by omega) HEd.out).mono ?_
      rintro e w1 ⟨k', hk, rfl, hi, hw⟩
      have hp := Tr.perm_put ltI k' x r
      have HP := hid hp
      have hout : k' ∉ (Tr.node g c l y r).blocks := fun hm => by
        have h1 := HLT.out _ hm
        have h2 : w.heap.size ≤ k' := hk
        omega
      have hg : g ∉ (Tr.put ltI k' x r).blocks := fun hm => by
        rcases List.mem_cons.1 (hp.mem_iff.1 hm) with rfl | h1
        · exact hout (by simp [Tr.blocks])
        · have := nodup_node HD.out; exact this.2.1 h1
      have hnd : (Tr.put ltI k' x r).blocks.Nodup := hp.nodup_iff.2 (List.nodup_cons.2 ⟨fun hm => hout (by simp [Tr.blocks, hm]), HD3.out⟩)
      have HT := hid (right_turned HCd.out.1 HCd.out.2.1 HCd.out.2.2 HEd.out HD.out hi hw hg)
      have HND := hid (nodup_right (r' := Tr.put ltI k' x r) HD.out hnd (fun j hj => by
        rcases List.mem_cons.1 (hp.mem_iff.1 hj) with rfl | h1
        · exact Or.inr hout
        · exact Or.inl h1))
      have HLN := hid (Tr.blocks_length (Tr.put ltI k' x r))
      have HK := hid hk
      clear hi hw hp hout hg hnd hk
      have q2 := HT.out.1.at3
      have q3 := HT.out.1.fr3
      have HEQ : Hid (Tr.put ltI k' x (.node g c l y r) = Tr.balance (.node g c l y (Tr.put ltI k' x r))) := hid (by simp [Tr.put, hlt])
      generalize Tr.put ltI k' x r = L' at *
      obtain ⟨u, hu⟩ := ptr_form L'
      have HU := hid hu
      rw [hu]
      clear hu
      go_wp2_with fail
      have HW : Hid (∃ W, W = w1.setCell ⟨g, 3, none⟩ (.pointer u) ∧ St W (.node g c l y L') ∧ Env W th rt n ∧ Chg (g :: r.blocks) w W) := hid ⟨_, rfl, by rw [← HU.out]; exact HT.out.2.1, by rw [← HU.out]; exact HT.out.2.2.1, by rw [← HU.out]; exact (Chg.below (Below.refl _ _).drew).trans HT.out.2.2.2 (fun j hj => Or.inl hj)⟩
      obtain ⟨W, hW, HF⟩ := HW
      rw [← hW]
      clear hW q2 q3
      have HF := hid HF
      refine (Rb.balance g c l L' y th rt n W HF.out.1 HND.out (by
        have h1 := HLN.out
        rw [HP.out.length_eq, List.length_cons, Tr.blocks_length] at h1
        simp only [Tr.list, List.length_append, List.length_cons]
        omega) HF.out.2.1).mono ?_
      rintro e w2 ⟨rfl, hi, hw⟩
      have HI2 := hid hi
      have HW2 := hid hw
      clear hi hw
      go_wp2_with fail
      go_ret
      refine ⟨k', HK.out, by rw [HEQ.out]; rfl, by rw [HEQ.out]; exact HI2.out, (HF.out.2.2.mono (fun j hj => ?_)).trans HW2.out (fun j hj => ?_)⟩
      · rcases List.mem_cons.1 hj with rfl | h1
        · simp [Tr.blocks]
        · simp [Tr.blocks, h1]
      · simp only [Tr.blocks, List.mem_cons, List.mem_append] at hj ⊢
        rcases hj with h1 | h1 | h1
        · exact Or.inl (Or.inl h1)
        · exact Or.inl (Or.inr (Or.inl h1))
        · rcases List.mem_cons.1 (HP.out.mem_iff.1 h1) with rfl | h2
          · exact Or.inr HK.out
          · exact Or.inl (Or.inr (Or.inr h2))

end Go.Proofs.Ytcnmobehamgmbaa

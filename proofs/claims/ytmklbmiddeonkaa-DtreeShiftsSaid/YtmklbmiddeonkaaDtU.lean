/- Items shifted alike. -/
import Derived.Test.YtmklbmiddeonkaaDtT
import Derived.Test.YtmklbmiddeonkaaDtS
import Derived.Test.YtmklbmiddeonkaaDtreeShiftsZ44
namespace Go.Proofs.Ytmklbmiddeonkaa
open Go.RowKit

theorem dif_wrap (t u d : Int) : dif (IntKind.u64.wrap (t + d)) (IntKind.u64.wrap (u + d)) = dif t u := by
  rw [IntKind.wrap_u64, IntKind.wrap_u64]; unfold dif; omega
theorem It.ahead_shift (d : Int) (a b : It) : It.ahead (It.shift d a) (It.shift d b) = It.ahead a b := by
  unfold It.ahead It.shift posC; simp only [dif_wrap]
theorem It.due_shift (d : Int) (a b : It) : It.due (It.shift d a) (It.shift d b) = It.due a b := by
  have h := It.ahead_shift d a b
  unfold It.due
  rw [h]
  unfold It.shift posC; simp only [dif_wrap]
theorem It.near_shift (d t : Int) (a : It) : It.near (IntKind.u64.wrap (t + d)) (It.shift d a) = It.near t a := by
  unfold It.near It.right It.shift; simp only [dif_wrap]
theorem NrL.shift {t : Int} {L : List It} (h : NrL t L) (d : Int) : NrL (IntKind.u64.wrap (t + d)) (L.map (It.shift d)) := fun x hx => by
  obtain ⟨y, hy, rfl⟩ := List.mem_map.1 hx
  rw [It.near_shift]; exact h y hy
theorem SrtI.shift {L : List It} (h : SrtI L) (d : Int) : SrtI (L.map (It.shift d)) := by
  unfold SrtI at *
  rw [List.pairwise_map]
  exact h.imp (fun h => by rw [It.ahead_shift]; exact h)
theorem takeWhile_end {p : It → Bool} : ∀ {L : List It}, (∀ y ∈ L, p y = true) → L.takeWhile p = L ∧ L.dropWhile p = []
  | [], _ => ⟨rfl, rfl⟩
  | a :: L, h => by
    have ha := h a (by simp)
    obtain ⟨h1, h2⟩ := takeWhile_end (L := L) (fun y hy => h y (by simp [hy]))
    rw [List.takeWhile_cons, List.dropWhile_cons, if_pos ha, if_pos ha, h1, h2]
    exact ⟨rfl, rfl⟩
/-- A list that is in order, put in, is the tree's. -/
theorem Built.ordered {t0 : Int} {L : List It} {t : Tr It} (hb : Built L t) : NrL t0 L → SrtI L → t.list = L := by
  induction hb with
  | nil => intro _ _; rfl
  | @put l t x k hb hh ih =>
    intro hn hs
    have hnl : NrL t0 l := fun y hy => hn y (by simp [hy])
    have hx := hn x (by simp)
    unfold SrtI at hs
    rw [List.pairwise_append] at hs
    have e := ih hnl hs.1
    rw [Tr.list_paint, list_putI k x hx t (by rw [e]; exact hnl) (by rw [e]; exact hs.1), e]
    unfold insI
    obtain ⟨h1, h2⟩ := takeWhile_end (p := fun y => !It.ahead x y) (L := l) (fun y hy => by
      have h3 := hs.2.2 y hy x (by simp)
      rw [ahead_asym (hnl y hy) hx h3]; rfl)
    rw [h1, h2]
  | @skip l t x hb hh ih =>
    intro hn hs
    have hnl : NrL t0 l := fun y hy => hn y (by simp [hy])
    have hx := hn x (by simp)
    unfold SrtI at hs
    rw [List.pairwise_append] at hs
    have e := ih hnl hs.1
    obtain ⟨y, hy, h1, h2⟩ := (has_iffI x hx t (by rw [e]; exact hnl) (by rw [e]; exact hs.1)).1 hh
    rw [e] at hy
    have h3 := hs.2.2 y hy x (by simp)
    rw [h2] at h3; cases h3
theorem srt_one {L : List It} (hs : SrtI L) {a b : It} (ha : a ∈ L) (hb : b ∈ L) (h1 : It.ahead a b = false) (h2 : It.ahead b a = false) : a = b := by
  unfold SrtI at hs
  induction L with
  | nil => cases ha
  | cons x L ih =>
    rw [List.pairwise_cons] at hs
    rcases List.mem_cons.1 ha with rfl | ha'
    · rcases List.mem_cons.1 hb with rfl | hb'
      · rfl
      · have := hs.1 b hb'; rw [h1] at this; cases this
    · rcases List.mem_cons.1 hb with rfl | hb'
      · have := hs.1 a ha'; rw [h2] at this; cases this
      · exact ih hs.2 ha' hb'
theorem best_one {t0 : Int} {L : List It} (hn : NrL t0 L) (hs : SrtI L) {a b : It} (ha : IsBest a L) (hb : IsBest b L) : a = b := by
  have na := hn a ha.1
  have nb := hn b hb.1
  have h1 := (due_no nb na).1 (ha.2 b hb.1)
  have h2 := (due_no na nb).1 (hb.2 a ha.1)
  have k := Pl.anti (a.p2 t0) (b.p2 t0)
  rcases h1 with h1 | ⟨h1, h1'⟩
  · rcases h2 with h2 | ⟨h2, h2'⟩
    · exfalso; omega
    · exfalso; omega
  · rcases h2 with h2 | ⟨h2, h2'⟩
    · exfalso; omega
    · exact srt_one hs ha.1 hb.1 h2' h1'
theorem filter_shift (d : Int) (e : It) (L : List It) : (L.map (It.shift d)).filter (fun y => It.ahead y (It.shift d e)) = (L.filter (fun y => It.ahead y e)).map (It.shift d) := by
  induction L with
  | nil => rfl
  | cons a L ih =>
    rw [List.map_cons, List.filter_cons, List.filter_cons, It.ahead_shift, ih]
    cases It.ahead a e <;> simp
theorem near_end {t0 : Int} {t : Tr It} {e : It} (hn : NrL t0 t.list) (hs : SrtI t.list) (he : It.near t0 e = true) :
    Desc (foldD (fun y => It.ahead y e) t (false, It.zero)) (t.list.filter (fun y => It.ahead y e)) := by
  have := foldD_desc (t0 := t0) (fun y => It.ahead y e) t (false, It.zero) [] hn hs (fun a ha b hbb hab hbe => ahead_tr (hn a ha) (hn b hbb) he hab hbe) (fun x hx => by cases hx) (Or.inl ⟨rfl, rfl, rfl⟩)
  simpa using this
/-- Who is first of a beginning, of all shifted, is the same one, shifted. -/
theorem first_shift {t0 d : Int} {l : List It} {t u : Tr It} {e : It} (hb : Built l t) (hn : ∀ x ∈ l, It.near7 t0 x = true) (he : It.near7 t0 e = true) (hu : Built (t.list.map (It.shift d)) u) :
    u.list = t.list.map (It.shift d) ∧
    ∃ sm a b, foldD (fun y => It.ahead y e) t (false, It.zero) = (sm, a) ∧ foldD (fun y => It.ahead y (It.shift d e)) u (false, It.zero) = (sm, b) ∧ (sm = true → b = It.shift d a) := by
  have hn2 : NrL t0 l := fun x hx => near_of7 (hn x hx)
  obtain ⟨h1, h2, _, _⟩ := hb.srt hn2
  have hul := hu.ordered (h2.shift d) (h1.shift d)
  refine ⟨hul, ?_⟩
  have D1 := near_end h2 h1 (near_of7 he)
  have D2 := near_end (t0 := IntKind.u64.wrap (t0 + d)) (t := u) (e := It.shift d e) (by rw [hul]; exact h2.shift d) (by rw [hul]; exact h1.shift d) (by rw [It.near_shift]; exact near_of7 he)
  rw [hul, filter_shift] at D2
  obtain ⟨sm, a, e1⟩ : ∃ sm a, foldD (fun y => It.ahead y e) t (false, It.zero) = (sm, a) := ⟨_, _, rfl⟩
  obtain ⟨sn, b, e2⟩ : ∃ sn b, foldD (fun y => It.ahead y (It.shift d e)) u (false, It.zero) = (sn, b) := ⟨_, _, rfl⟩
  rw [e1] at D1
  rw [e2] at D2
  refine ⟨sm, a, b, e1, ?_⟩
  rw [e2]
  generalize hF : t.list.filter (fun y => It.ahead y e) = F at D1 D2
  have nF : NrL t0 F := fun x hx => by rw [← hF] at hx; exact h2 x (List.mem_filter.1 hx).1
  have sF : SrtI F := by rw [← hF]; exact List.Pairwise.filter _ h1
  rcases D1 with ⟨c1, _, c3⟩ | ⟨c1, c2⟩
  · have c1' : sm = false := c1
    subst c1'
    subst c3
    rcases D2 with ⟨g1, _, _⟩ | ⟨_, g2⟩
    · have g1' : sn = false := g1
      subst g1'
      exact ⟨rfl, fun h => by cases h⟩
    · have := g2.1; cases this
  · have c1' : sm = true := c1
    subst c1'
    rcases D2 with ⟨_, _, g3⟩ | ⟨g1, g2⟩
    · have c4 := c2.1
      rw [List.map_eq_nil_iff] at g3
      rw [g3] at c4; cases c4
    · have g1' : sn = true := g1
      subst g1'
      refine ⟨rfl, fun _ => ?_⟩
      obtain ⟨x, hx, ex⟩ := List.mem_map.1 g2.1
      have hbx : IsBest x F := ⟨hx, fun y hy => by
        have := g2.2 (It.shift d y) (List.mem_map.2 ⟨y, hy, rfl⟩)
        have ex' : b = It.shift d x := ex.symm
        simp only [ex'] at this
        rwa [It.due_shift] at this⟩
      have c2' : IsBest a F := c2
      rw [best_one nF sF c2' hbx]
      exact ex.symm

end Go.Proofs.Ytmklbmiddeonkaa

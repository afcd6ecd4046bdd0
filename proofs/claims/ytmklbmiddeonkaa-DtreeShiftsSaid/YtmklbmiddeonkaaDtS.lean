/- Items in their order: lists, trees, and who is due first. -/
import Derived.Test.YtmklbmiddeonkaaDtreeShiftsZ43
import Derived.Test.YtmklbmiddeonkaaDtreeShiftsZ25
namespace Go.Proofs.Ytmklbmiddeonkaa
open Go.RowKit

/-- All of a list are near a time. -/
def NrL (t : Int) (L : List It) : Prop := ∀ x ∈ L, It.near t x = true
theorem NrL.app {t : Int} {L M : List It} (h : NrL t L) (k : NrL t M) : NrL t (L ++ M) := fun x hx => (List.mem_append.1 hx).elim (h x) (k x)
theorem Pl.tr {t : Int} {a b c : It} (ha : It.near t a = true) (hb : It.near t b = true) (hc : It.near t c = true) :
    ((a.p1 t).c (b.p1 t) ≤ 0 → (b.p1 t).c (c.p1 t) ≤ 0 → (a.p1 t).c (c.p1 t) ≤ 0 ∧ ((a.p1 t).c (b.p1 t) < 0 ∨ (b.p1 t).c (c.p1 t) < 0 → (a.p1 t).c (c.p1 t) < 0)) ∧
    ((a.p2 t).c (b.p2 t) ≤ 0 → (b.p2 t).c (c.p2 t) ≤ 0 → (a.p2 t).c (c.p2 t) ≤ 0 ∧ ((a.p2 t).c (b.p2 t) < 0 ∨ (b.p2 t).c (c.p2 t) < 0 → (a.p2 t).c (c.p2 t) < 0)) :=
  ⟨Pl.trans (near_parts ha).2.2.1 (near_parts hb).2.2.1 (near_parts hc).2.2.1, Pl.trans (near_parts ha).2.2.2 (near_parts hb).2.2.2 (near_parts hc).2.2.2⟩
theorem ahead_no {t : Int} {a b : It} (ha : It.near t a = true) (hb : It.near t b = true) : It.ahead a b = false ↔ (b.p1 t).c (a.p1 t) < 0 ∨ (b.p1 t).c (a.p1 t) = 0 ∧ b.i ≤ a.i := by
  have h := ahead_iff ha hb
  have k := Pl.anti (a.p1 t) (b.p1 t)
  cases hc : It.ahead a b with
  | true =>
    have := h.1 hc
    constructor
    · intro e; cases e
    · intro e; exfalso; omega
  | false =>
    have : ¬ ((a.p1 t).c (b.p1 t) < 0 ∨ (a.p1 t).c (b.p1 t) = 0 ∧ a.i < b.i) := fun e => by rw [h.2 e] at hc; cases hc
    constructor
    · intro _; omega
    · intro _; rfl
theorem ahead_asym {t : Int} {a b : It} (ha : It.near t a = true) (hb : It.near t b = true) (h : It.ahead a b = true) : It.ahead b a = false := by
  have h1 := (ahead_iff ha hb).1 h
  have k := Pl.anti (a.p1 t) (b.p1 t)
  exact (ahead_no hb ha).2 (by omega)
theorem ahead_tr {t : Int} {a b c : It} (ha : It.near t a = true) (hb : It.near t b = true) (hc : It.near t c = true) (h1 : It.ahead a b = true) (h2 : It.ahead b c = true) : It.ahead a c = true := by
  have e1 := (ahead_iff ha hb).1 h1
  have e2 := (ahead_iff hb hc).1 h2
  have k := (Pl.tr ha hb hc).1 (by omega) (by omega)
  exact (ahead_iff ha hc).2 (by omega)
theorem ahead_ntr {t : Int} {a b c : It} (ha : It.near t a = true) (hb : It.near t b = true) (hc : It.near t c = true) (h1 : It.ahead a b = false) (h2 : It.ahead b c = false) : It.ahead a c = false := by
  have e1 := (ahead_no ha hb).1 h1
  have e2 := (ahead_no hb hc).1 h2
  have k := (Pl.tr hc hb ha).1 (by omega) (by omega)
  exact (ahead_no ha hc).2 (by omega)
theorem due_no {t : Int} {a b : It} (ha : It.near t a = true) (hb : It.near t b = true) : It.due a b = false ↔ (b.p2 t).c (a.p2 t) < 0 ∨ (b.p2 t).c (a.p2 t) = 0 ∧ It.ahead a b = false := by
  have h := due_iff ha hb
  have k := Pl.anti (a.p2 t) (b.p2 t)
  cases hc : It.due a b with
  | true =>
    have := h.1 hc
    constructor
    · intro e; cases e
    · intro e
      rcases this with h1 | ⟨h1, h2⟩
      · exfalso; omega
      · rcases e with e | ⟨e, e2⟩
        · exfalso; omega
        · rw [h2] at e2; cases e2
  | false =>
    constructor
    · intro _
      rcases Int.lt_trichotomy ((a.p2 t).c (b.p2 t)) 0 with h1 | h1 | h1
      · rw [h.2 (Or.inl h1)] at hc; cases hc
      · right
        refine ⟨by omega, ?_⟩
        cases h2 : It.ahead a b with
        | false => rfl
        | true => rw [h.2 (Or.inr ⟨h1, h2⟩)] at hc; cases hc
      · left; omega
    · intro _; rfl
theorem due_asym {t : Int} {a b : It} (ha : It.near t a = true) (hb : It.near t b = true) (h : It.due a b = true) : It.due b a = false := by
  have h1 := (due_iff ha hb).1 h
  have k := Pl.anti (a.p2 t) (b.p2 t)
  refine (due_no hb ha).2 ?_
  rcases h1 with h1 | ⟨h1, h2⟩
  · left; exact h1
  · right; exact ⟨h1, ahead_asym ha hb h2⟩
theorem due_ntr {t : Int} {a b c : It} (ha : It.near t a = true) (hb : It.near t b = true) (hc : It.near t c = true) (h1 : It.due a b = false) (h2 : It.due b c = false) : It.due a c = false := by
  have e1 := (due_no ha hb).1 h1
  have e2 := (due_no hb hc).1 h2
  have k := (Pl.tr hc hb ha).2 (by omega) (by omega)
  refine (due_no ha hc).2 ?_
  rcases e1 with e1 | ⟨e1, f1⟩
  · left; exact k.2 (Or.inr e1)
  · rcases e2 with e2 | ⟨e2, f2⟩
    · left; exact k.2 (Or.inl e2)
    · rcases Int.lt_or_eq_of_le k.1 with g | g
      · left; exact g
      · right; exact ⟨g, ahead_ntr ha hb hc f1 f2⟩

/-- One of a list, ahead of which none of it is due. -/
def IsBest (a : It) (L : List It) : Prop := a ∈ L ∧ ∀ b ∈ L, It.due b a = false
theorem IsBest.one {t : Int} {a : It} (h : It.near t a = true) : IsBest a [a] := ⟨by simp, fun b hb => by
  simp at hb; subst hb
  cases hd : It.due b b with
  | false => rfl
  | true => have := due_asym h h hd; rw [hd] at this; cases this⟩
theorem IsBest.join {t : Int} {a b : It} {L M : List It} (hL : NrL t L) (hM : NrL t M) (ha : IsBest a L) (hb : IsBest b M) : IsBest (sooner a b) (L ++ M) := by
  unfold sooner
  cases hd : It.due b a with
  | true =>
    rw [if_pos rfl]
    refine ⟨List.mem_append_right _ hb.1, fun x hx => ?_⟩
    rcases List.mem_append.1 hx with h | h
    · exact due_ntr (hL x h) (hL a ha.1) (hM b hb.1) (ha.2 x h) (due_asym (hM b hb.1) (hL a ha.1) hd)
    · exact hb.2 x h
  | false =>
    rw [if_neg (by simp)]
    refine ⟨List.mem_append_left _ ha.1, fun x hx => ?_⟩
    rcases List.mem_append.1 hx with h | h
    · exact ha.2 x h
    · exact due_ntr (hM x h) (hM b hb.1) (hL a ha.1) (hb.2 x h) hd
theorem Tr.isNil_list {t : Tr It} (h : t.isNil = true) : t.list = [] := by cases t with
  | nil => rfl
  | node g c l x r => simp [Tr.isNil] at h
theorem best_is (t0 : Int) (t : Tr It) : NrL t0 t.list → t.isNil = false → IsBest t.best t.list := by
  induction t with
  | nil => intro _ h; simp [Tr.isNil] at h
  | node g c l x r ihl ihr =>
    intro h _
    have hl : NrL t0 l.list := fun y hy => h y (by simp [Tr.list, hy])
    have hr : NrL t0 r.list := fun y hy => h y (by simp [Tr.list, hy])
    have hx : It.near t0 x = true := h x (by simp [Tr.list])
    have h1 : NrL t0 [x] := fun y hy => by simp at hy; subst hy; exact hx
    have hL : IsBest (bestL l x) (l.list ++ [x]) := by
      unfold bestL
      cases hn : l.isNil with
      | true => rw [if_pos rfl, Tr.isNil_list hn]; exact IsBest.one hx
      | false => rw [if_neg (by simp)]; exact (ihl hl hn).join hl h1 (IsBest.one hx)
    show IsBest (if r.isNil then bestL l x else sooner (bestL l x) r.best) (l.list ++ x :: r.list)
    cases hn : r.isNil with
    | true => rw [if_pos rfl, Tr.isNil_list hn]; exact hL
    | false =>
      rw [if_neg (by simp), show l.list ++ x :: r.list = (l.list ++ [x]) ++ r.list by simp]
      exact IsBest.join (hl.app h1) hr hL (ihr hr hn)
theorem bestL_is {t0 : Int} {l : Tr It} {x : It} (hl : NrL t0 l.list) (hx : It.near t0 x = true) : IsBest (bestL l x) (l.list ++ [x]) := by
  have h1 : NrL t0 [x] := fun y hy => by simp at hy; subst hy; exact hx
  unfold bestL
  cases hn : l.isNil with
  | true => rw [if_pos rfl, Tr.isNil_list hn]; exact IsBest.one hx
  | false => rw [if_neg (by simp)]; exact (best_is t0 l hl hn).join hl h1 (IsBest.one hx)

/-- In order. -/
def SrtI (L : List It) : Prop := L.Pairwise (fun a b => It.ahead a b = true)
/-- What is gathered is told of a list. -/
def Desc (q : Bool × It) (M : List It) : Prop := (q.1 = false ∧ q.2 = It.zero ∧ M = []) ∨ (q.1 = true ∧ IsBest q.2 M)
theorem foldD_desc {t0 : Int} (p : It → Bool) (t : Tr It) : ∀ (q : Bool × It) (M : List It), NrL t0 t.list → SrtI t.list → (∀ a ∈ t.list, ∀ b ∈ t.list, It.ahead a b = true → p b = true → p a = true) → NrL t0 M → Desc q M → Desc (foldD p t q) (M ++ t.list.filter p) := by
  induction t with
  | nil => intro q M _ _ _ _ h; simpa [foldD, Tr.list] using h
  | node g c l x r ihl ihr =>
    intro q M hn hs hp hM h
    have hnl : NrL t0 l.list := fun y hy => hn y (by simp [Tr.list, hy])
    have hnr : NrL t0 r.list := fun y hy => hn y (by simp [Tr.list, hy])
    have hnx : It.near t0 x = true := hn x (by simp [Tr.list])
    have hs' := hs
    unfold SrtI at hs
    simp only [Tr.list] at hs ⊢
    rw [List.pairwise_append, List.pairwise_cons] at hs
    cases hx : p x with
    | true =>
      have hl : l.list.filter p = l.list := List.filter_eq_self.2 (fun a ha => hp a (by simp [Tr.list, ha]) x (by simp [Tr.list]) (hs.2.2 a ha x (by simp)) hx)
      rw [foldD, if_pos hx, List.filter_append, List.filter_cons, if_pos hx, hl]
      have hx1 : NrL t0 (l.list ++ [x]) := hnl.app (fun y hy => by simp at hy; subst hy; exact hnx)
      have hd : Desc (true, if q.1 then sooner q.2 (bestL l x) else bestL l x) (M ++ (l.list ++ [x])) := by
        right
        refine ⟨rfl, ?_⟩
        rcases h with ⟨h1, _, h3⟩ | ⟨h1, h2⟩
        · rw [h1, h3, List.nil_append]
          exact bestL_is hnl hnx
        · rw [h1]
          exact IsBest.join hM hx1 h2 (bestL_is hnl hnx)
      have := ihr _ _ hnr hs.2.1.2 (fun a ha b hb => hp a (by simp [Tr.list, ha]) b (by simp [Tr.list, hb])) (hM.app hx1) hd
      rw [show M ++ (l.list ++ x :: r.list.filter p) = M ++ (l.list ++ [x]) ++ r.list.filter p by simp]
      exact this
    | false =>
      have hr : r.list.filter p = [] := List.filter_eq_nil_iff.2 (fun a ha hpa => by
        have := hp x (by simp [Tr.list]) a (by simp [Tr.list, ha]) (hs.2.1.1 a ha) hpa
        rw [hx] at this; cases this)
      rw [foldD, if_neg (by rw [hx]; simp), List.filter_append, List.filter_cons, if_neg (by rw [hx]; simp), hr, List.append_nil]
      exact ihl _ _ hnl hs.1 (fun a ha b hb => hp a (by simp [Tr.list, ha]) b (by simp [Tr.list, hb])) hM h

/-- One that is neither ahead of x nor behind it. -/
def same (x y : It) : Prop := It.ahead x y = false ∧ It.ahead y x = false
theorem has_iffI {t0 : Int} (x : It) (hx : It.near t0 x = true) (t : Tr It) : NrL t0 t.list → SrtI t.list → (Tr.has It.ahead x t = true ↔ ∃ y ∈ t.list, same x y) := by
  induction t with
  | nil => intro _ _; simp [Tr.has, Tr.list]
  | node g c l y r ihl ihr =>
    intro hn hs
    have hnl : NrL t0 l.list := fun z hz => hn z (by simp [Tr.list, hz])
    have hnr : NrL t0 r.list := fun z hz => hn z (by simp [Tr.list, hz])
    have hny : It.near t0 y = true := hn y (by simp [Tr.list])
    unfold SrtI at hs
    simp only [Tr.list] at hs ⊢
    rw [List.pairwise_append, List.pairwise_cons] at hs
    simp only [Tr.has]
    cases h1 : It.ahead x y with
    | true =>
      rw [if_pos rfl, ihl hnl hs.1]
      constructor
      · rintro ⟨z, hz, e⟩; exact ⟨z, by simp [hz], e⟩
      · rintro ⟨z, hz, e⟩
        rcases List.mem_append.1 hz with h | h
        · exact ⟨z, h, e⟩
        · rcases List.mem_cons.1 h with rfl | h
          · exact absurd e.1 (by rw [h1]; simp)
          · have := ahead_tr hx hny (hnr z h) h1 (hs.2.1.1 z h)
            exact absurd e.1 (by rw [this]; simp)
    | false =>
      rw [if_neg (by simp)]
      cases h2 : It.ahead y x with
      | true =>
        rw [if_pos rfl, ihr hnr hs.2.1.2]
        constructor
        · rintro ⟨z, hz, e⟩; exact ⟨z, by simp [hz], e⟩
        · rintro ⟨z, hz, e⟩
          rcases List.mem_append.1 hz with h | h
          · have := ahead_tr (hnl z h) hny hx (hs.2.2 z h y (by simp)) h2
            exact absurd e.2 (by rw [this]; simp)
          · rcases List.mem_cons.1 h with rfl | h
            · exact absurd e.2 (by rw [h2]; simp)
            · exact ⟨z, h, e⟩
      | false =>
        rw [if_neg (by simp)]
        exact ⟨fun _ => ⟨y, by simp, h1, h2⟩, fun _ => rfl⟩
def insI (x : It) (L : List It) : List It := L.takeWhile (fun y => !It.ahead x y) ++ x :: L.dropWhile (fun y => !It.ahead x y)
theorem takeWhile_allI {p : It → Bool} (L : List It) : ∀ a ∈ L.takeWhile p, p a = true := by
  induction L with
  | nil => intro a h; simp at h
  | cons b bs ih =>
    intro a h
    rw [List.takeWhile_cons] at h
    split at h
    · rcases List.mem_cons.1 h with rfl | h
      · assumption
      · exact ih a h
    · simp at h
theorem dropWhile_gtI {t0 : Int} {x : It} (hx : It.near t0 x = true) {L : List It} (hn : NrL t0 L) (h : SrtI L) : ∀ b ∈ L.dropWhile (fun y => !It.ahead x y), It.ahead x b = true := by
  induction L with
  | nil => intro b hb; simp at hb
  | cons a bs ih =>
    intro b hb
    rw [List.dropWhile_cons] at hb
    split at hb
    · exact ih (fun y hy => hn y (by simp [hy])) (List.Pairwise.of_cons h) b hb
    · rename_i hp
      have ha : It.ahead x a = true := by simpa using hp
      rcases List.mem_cons.1 hb with rfl | hb
      · exact ha
      · exact ahead_tr hx (hn a (by simp)) (hn b (by simp [hb])) ha ((List.pairwise_cons.1 h).1 b hb)
theorem mem_insI {x y : It} {L : List It} : y ∈ insI x L ↔ y = x ∨ y ∈ L := by
  unfold insI
  have e : L.takeWhile (fun y => !It.ahead x y) ++ L.dropWhile (fun y => !It.ahead x y) = L := List.takeWhile_append_dropWhile
  rw [List.mem_append, List.mem_cons]
  constructor
  · rintro (h | h | h)
    · exact Or.inr (by have h3 := List.mem_append_left (L.dropWhile (fun y => !It.ahead x y)) h; rw [e] at h3; exact h3)
    · exact Or.inl h
    · exact Or.inr (by have h3 := List.mem_append_right (L.takeWhile (fun y => !It.ahead x y)) h; rw [e] at h3; exact h3)
  · rintro (h | h)
    · exact Or.inr (Or.inl h)
    · rw [← e] at h
      rcases List.mem_append.1 h with h | h
      · exact Or.inl h
      · exact Or.inr (Or.inr h)
theorem SrtI.ins {t0 : Int} {x : It} (hx : It.near t0 x = true) {L : List It} (hn : NrL t0 L) (h : SrtI L) (hno : ∀ y ∈ L, ¬ same x y) : SrtI (insI x L) := by
  have e : L.takeWhile (fun y => !It.ahead x y) ++ L.dropWhile (fun y => !It.ahead x y) = L := List.takeWhile_append_dropWhile
  have h0 := h
  unfold SrtI at h
  rw [← e, List.pairwise_append] at h
  unfold insI SrtI
  rw [List.pairwise_append, List.pairwise_cons]
  refine ⟨h.1, ⟨fun b hb => dropWhile_gtI hx hn h0 b hb, h.2.1⟩, fun a ha b hb => ?_⟩
  rcases List.mem_cons.1 hb with rfl | hb
  · have h1 : It.ahead b a = false := by simpa using takeWhile_allI L a ha
    have ham : a ∈ L := by have h3 := List.mem_append_left (L.dropWhile (fun y => !It.ahead b y)) ha; rw [e] at h3; exact h3
    cases h2 : It.ahead a b with
    | true => rfl
    | false => exact absurd ⟨h1, h2⟩ (hno a ham)
  · exact h.2.2 a ha b hb
theorem list_putI {t0 : Int} (k : Nat) (x : It) (hx : It.near t0 x = true) (t : Tr It) (hn : NrL t0 t.list) (h : SrtI t.list) : (Tr.put It.ahead k x t).list = insI x t.list := by
  rw [Tr.list_put It.ahead k x t _ _ (List.takeWhile_append_dropWhile (p := fun y => !It.ahead x y) (l := t.list)).symm]
  · rfl
  · intro a ha; simpa using takeWhile_allI t.list a ha
  · intro b hb; exact dropWhile_gtI hx hn h b hb
/-- What such a tree is. -/
theorem Built.srt {t0 : Int} {l : List It} {t : Tr It} (hb : Built l t) : NrL t0 l → SrtI t.list ∧ NrL t0 t.list ∧ (∀ y ∈ t.list, y ∈ l) ∧ (∀ x ∈ l, ∃ y ∈ t.list, same x y) := by
  induction hb with
  | nil => intro _; exact ⟨List.Pairwise.nil, fun y hy => by simp [Tr.list] at hy, fun y hy => by simp [Tr.list] at hy, fun y hy => by simp at hy⟩
  | @put l t x k hb hh ih =>
    intro hn
    obtain ⟨h1, h2, h3, h4⟩ := ih (fun y hy => hn y (by simp [hy]))
    have hx := hn x (by simp)
    have hno : ∀ y ∈ t.list, ¬ same x y := fun y hy e => by
      have := (has_iffI x hx t h2 h1).2 ⟨y, hy, e⟩
      rw [hh] at this; cases this
    rw [Tr.list_paint, list_putI k x hx t h2 h1]
    refine ⟨h1.ins hx h2 hno, fun y hy => ?_, fun y hy => ?_, fun y hy => ?_⟩
    · rcases mem_insI.1 hy with rfl | h
      · exact hx
      · exact h2 y h
    · rcases mem_insI.1 hy with rfl | h
      · simp
      · simp [h3 y h]
    · rcases List.mem_append.1 hy with h | h
      · obtain ⟨z, hz, e⟩ := h4 y h; exact ⟨z, mem_insI.2 (Or.inr hz), e⟩
      · simp at h; subst h
        exact ⟨y, mem_insI.2 (Or.inl rfl), by
          have : It.ahead y y = false := by
            cases ha : It.ahead y y with
            | false => rfl
            | true => have := ahead_asym hx hx ha; rw [ha] at this; cases this
          exact ⟨this, this⟩⟩
  | @skip l t x hb hh ih =>
    intro hn
    obtain ⟨h1, h2, h3, h4⟩ := ih (fun y hy => hn y (by simp [hy]))
    have hx := hn x (by simp)
    refine ⟨h1, h2, fun y hy => by simp [h3 y hy], fun y hy => ?_⟩
    rcases List.mem_append.1 hy with h | h
    · exact h4 y h
    · simp at h; subst h
      exact (has_iffI y hx t h2 h1).1 hh

end Go.Proofs.Ytmklbmiddeonkaa

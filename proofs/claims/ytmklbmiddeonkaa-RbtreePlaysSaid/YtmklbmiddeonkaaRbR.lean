/- The tree of numbers: two trees beside one another. -/
import Derived.Test.YtmklbmiddeonkaaRbtreePlaysZ23
import Derived.Test.YtmklbmiddeonkaaOpenA
namespace Go.Proofs.Ytmklbmiddeonkaa
open Go.RowKit

/-- A block like a node's, or like a tree's own. -/
def Nl2 (w : World) (g : Nat) : Prop := (∃ A n c, w.cell? ⟨g, 1, none⟩ = some (.slice A n c)) ∨ (∃ f a c, w.cell? ⟨g, 1, none⟩ = some (.func f a c))
theorem Sl.chg2 {F : List Nat} {w w' : World} {v : Value} {L : List Int} (h : Sl w v L) (hc : Chg F w w') (hF : ∀ g ∈ F, Nl2 w g) : Sl w' v L := by
  obtain ⟨s, c, e, h1, h2, h3, h4⟩ := h
  have hs : s ∉ F := by
    intro hs
    rcases hF s hs with ⟨A, n, k, hk⟩ | ⟨A, n, k, hk⟩ <;> rcases h4 with h4 | h4
    · rw [h3 1 (by omega)] at hk; injection hk with hk; cases hk
    · rw [h4] at hk; cases hk
    · rw [h3 1 (by omega)] at hk; injection hk with hk; cases hk
    · rw [h4] at hk; cases hk
  exact ⟨s, c, e, h1, Nat.lt_of_lt_of_le h2 hc.size, fun i hi => (hc.cell (p := ⟨s, i, none⟩) h2 hs).trans (h3 i hi), h4.imp id (fun h => (hc.cell (p := ⟨s, 1, none⟩) h2 hs).trans h)⟩
theorem In.chg2 {F : List Nat} {w w' : World} {t : Tr Int} : In w t → Chg F w w' → (∀ g ∈ F, Nl2 w g) → (∀ g ∈ t.blocks, g ∉ F) → In w' t := by
  induction t with
  | nil => intro _ _ _ _; trivial
  | node g c l x r ihl ihr =>
    intro h hc hF hd
    obtain ⟨⟨v, hv, hcs⟩, hl, hr⟩ := h
    exact ⟨⟨v, hv.chg2 hc hF, hcs.chg hc (hd g (by simp [Tr.blocks]))⟩, ihl hl hc hF (fun k hk => hd k (by simp [Tr.blocks, hk])), ihr hr hc hF (fun k hk => hd k (by simp [Tr.blocks, hk]))⟩
theorem Env.chg2 {F : List Nat} {w w' : World} {th : Nat} {root : Value} {n : Int} (h : Env w th root n) (hc : Chg F w w') (hF : ∀ g ∈ F, Nl2 w g) (f0 : th ∉ F) : Env w' th root n := by
  obtain ⟨b1, b2, h0, h1, h2, n1, n2⟩ := h
  have f1 : b1 ∉ F := fun hf => by rcases hF _ hf with ⟨A, n, c, e⟩ | ⟨A, n, c, e⟩ <;> (rw [n1] at e; cases e)
  have f2 : b2 ∉ F := fun hf => by rcases hF _ hf with ⟨A, n, c, e⟩ | ⟨A, n, c, e⟩ <;> (rw [n2] at e; cases e)
  exact ⟨b1, b2, h0.chg hc f0, h1.chg hc f1, h2.chg hc f2, (hc.cell (p := ⟨b1, 1, none⟩) h1.lt f1).trans n1, (hc.cell (p := ⟨b2, 1, none⟩) h2.lt f2).trans n2⟩
theorem TreeAt.nl2 {w : World} {th : Nat} {t : Tr Int} (h : TreeAt w th t) : ∀ g ∈ th :: t.blocks, Nl2 w g := fun g hg => by
  rcases List.mem_cons.1 hg with rfl | hg
  · obtain ⟨_, _, t0, _⟩ := h.1; exact Or.inr ⟨_, _, _, t0.at1⟩
  · exact Or.inl (h.2.1.nl g hg)
theorem Nl2.lt {w : World} {g : Nat} (h : Nl2 w g) : g < w.heap.size := by rcases h with ⟨A, n, c, h⟩ | ⟨A, n, c, h⟩ <;> exact World.block_lt_of_cell? w _ h
theorem Grove.chg2 {F : List Nat} {w w' : World} {B th : Nat} {t : Tr Int} (h : Grove B th t w) (hc : Chg F w w') (hF : ∀ g ∈ F, Nl2 w g) (hd : ∀ g ∈ th :: t.blocks, g ∉ F) : Grove B th t w' :=
  ⟨⟨h.1.1.chg2 hc hF (hd th (by simp)), h.1.2.1.chg2 hc hF (fun g hg => hd g (by simp [hg])), h.1.2.2⟩, h.2⟩

/-- Two trees while a law goes on. -/
def Gw2 (w : World) (a : Nat) (s : Tr Int) (b : Nat) (t : Tr Int) (w' : World) : Prop := Grove w.heap.size a s w' ∧ Grove w.heap.size b t w' ∧ Below w.heap.size w w' ∧ ∀ g ∈ a :: s.blocks, g ∉ b :: t.blocks
theorem Gw2.below {w w1 w2 : World} {a b : Nat} {s t : Tr Int} (h : Gw2 w a s b t w1) (hb : Below w1.heap.size w1 w2) : Gw2 w a s b t w2 := ⟨h.1.below hb, h.2.1.below hb, below_on h.2.2.1 hb, h.2.2.2⟩
theorem Gw2.symm {w w1 : World} {a b : Nat} {s t : Tr Int} (h : Gw2 w a s b t w1) : Gw2 w b t a s w1 := ⟨h.2.1, h.1, h.2.2.1, fun g hg hg' => h.2.2.2 g hg' hg⟩
theorem Gw2.act {w w1 w2 : World} {a b : Nat} {s t s' : Tr Int} (h : Gw2 w a s b t w1) (hg : Grove w.heap.size a s' w2) (hc : Chg (a :: s.blocks) w1 w2) (hn : ∀ g ∈ s'.blocks, g ∈ s.blocks ∨ w1.heap.size ≤ g) : Gw2 w a s' b t w2 := by
  obtain ⟨h1, h2, h3, h4⟩ := h
  refine ⟨hg, h2.chg2 hc h1.1.nl2 (fun g hg hg' => h4 g hg' hg), h3.trans (hc.toBelow h3.size (fun g hg => ?_)), fun g hg hg' => ?_⟩
  · rcases List.mem_cons.1 hg with rfl | h5
    · exact h1.2.2.2.1
    · exact h1.2.2.2.2 g h5
  · rcases List.mem_cons.1 hg with rfl | h5
    · exact h4 g (by simp) hg'
    · rcases hn g h5 with h6 | h6
      · exact h4 g (by simp [h6]) hg'
      · have := (h2.1.nl2 g hg').lt
        omega

theorem srt_eq : ∀ {L M : List Int}, Srt L → Srt M → (∀ y, y ∈ L ↔ y ∈ M) → L = M
  | [], [], _, _, _ => rfl
  | [], b :: M, _, _, h => absurd ((h b).2 (by simp)) (by simp)
  | a :: L, [], _, _, h => absurd ((h a).1 (by simp)) (by simp)
  | a :: L, b :: M, hl, hm, h => by
    have h1 := List.pairwise_cons.1 hl
    have h2 := List.pairwise_cons.1 hm
    have e : a = b := by
      rcases List.mem_cons.1 ((h a).1 (by simp)) with e | e
      · exact e
      · rcases List.mem_cons.1 ((h b).2 (by simp)) with e' | e'
        · exact e'.symm
        · have := h2.1 a e
          have := h1.1 b e'
          omega
    subst e
    rw [srt_eq h1.2 h2.2 (fun y => ?_)]
    constructor
    · intro hy
      rcases List.mem_cons.1 ((h y).1 (by simp [hy])) with e | e
      · have := h1.1 y hy; omega
      · exact e
    · intro hy
      rcases List.mem_cons.1 ((h y).2 (by simp [hy])) with e | e
      · have := h2.1 y hy; omega
      · exact e
/-- The members of a list to which a number came. -/
theorem mem_ins {x y : Int} {L : List Int} : y ∈ (if x ∈ L then L else insL x L) ↔ y = x ∨ y ∈ L := by
  split
  · rename_i h
    constructor
    · exact Or.inr
    · rintro (rfl | h')
      · exact h
      · exact h'
  · exact mem_insL
theorem ins_len {x : Int} {L : List Int} : (if x ∈ L then L else insL x L).length ≤ L.length + 1 := by
  split
  · omega
  · rw [length_insL]; omega

-- the law's own closures
theorem Part.rd {w : World} {A : Option Addr} {n c : Nat} {b : Bool} {L : List Int} (h : Part w (.slice A n c) b L) : RdU .i64 w A n L ∧ b = !L.isEmpty := by
  rcases h with ⟨h1, h2, h3⟩ | ⟨h1, s, cap, h2, h3, h4, h5, _⟩
  · injection h1 with e1 e2 e3
    subst e1 e2 h2 h3
    exact ⟨⟨rfl, fun i hi => absurd hi (by omega)⟩, rfl⟩
  · injection h2 with e1 e2 e3
    subst e1 e2 h1
    refine ⟨⟨rfl, fun i hi => ⟨s, 0, rfl, h4, fun j hj => by rw [Nat.zero_add]; exact h5 j hj⟩⟩, ?_⟩
    cases L with
    | nil => simp at h3
    | cons a ts => rfl
/-- A beginning of a list in order is as long as it is. -/
theorem take_filter {p : Int → Bool} (hp : ∀ a b, a < b → p b = true → p a = true) {L : List Int} (h : Srt L) : L.take (L.filter p).length = L.filter p := by
  induction L with
  | nil => rfl
  | cons a ts ih =>
    have h1 := List.pairwise_cons.1 h
    rw [List.filter_cons]
    split
    · rw [List.length_cons, List.take_succ_cons, ih h1.2]
    · rename_i ha
      have : ts.filter p = [] := List.filter_eq_nil_iff.2 (fun b hb hpb => ha (hp a b (h1.1 b hb) hpb))
      rw [this]; rfl
theorem filter_take_succ (p : Int → Bool) (L : List Int) {k : Nat} (hk : k < L.length) : ((L.take (k + 1)).filter p).length = ((L.take k).filter p).length + if p (L.getD k 0) then 1 else 0 := by
  have e : L.getD k 0 = L[k] := by simp [List.getD, hk]
  rw [List.take_succ_eq_append_getElem hk, List.filter_append, List.length_append, e, List.filter_cons]
  split <;> simp
theorem RdU.take {w : World} {A : Option Addr} {n : Nat} {L : List Int} (h : RdU .i64 w A n L) {m : Nat} (hm : m ≤ n) : RdU .i64 w A m (L.take m) := by
  refine ⟨by rw [List.length_take, h.1]; omega, fun i hi => ?_⟩
  obtain ⟨b, off, e, hb, hc⟩ := h.2 0 (by omega)
  exact ⟨b, off, e, hb, fun j hj => by rw [hc j (by omega)]; simp [List.getD, List.getElem?_take_of_lt hj]⟩

end Go.Proofs.Ytmklbmiddeonkaa

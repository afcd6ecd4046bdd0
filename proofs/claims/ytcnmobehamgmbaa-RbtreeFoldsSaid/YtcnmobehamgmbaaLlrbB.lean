/- Trees that lean to the left, by themselves: what comes, and what goes. -/
import Derived.Test.YtcnmobehamgmbaaLlrb
namespace Go.Proofs.Ytcnmobehamgmbaa
namespace Tr
variable {α : Type}

/-- A thing that comes: a black root stays a tree; a red one may have a red child. -/
theorem V.put (lt : α → α → Bool) (k : Nat) (x : α) (t : Tr α) : ∀ {h : Nat}, V t h →
    (t.red = false → V (put lt k x t) h) ∧ (t.red = true → (Tr.put lt k x t).red = true ∧ V (Tr.put lt k x t).left h ∧ V (Tr.put lt k x t).right h ∧ (Tr.put lt k x t).right.red = false) := by
  induction t with
  | nil => intro h hv; simp [V] at hv; subst hv; simp [Tr.put, balance, bal1, bal2, bal3, red, left, right, V]
  | node g c l y r ihl ihr =>
    intro h hv
    cases c with
    | true =>
      obtain ⟨h1, h2, h3, h4⟩ := hv
      refine ⟨fun e => by simp [red] at e, fun _ => ?_⟩
      simp only [Tr.put]
      split
      · have a := (ihl h1).1 h3
        generalize Tr.put lt k x l = l' at a
        rcases l' with _ | ⟨g1, c1, l1, x1, r1⟩ <;> rcases r with _ | ⟨g2, c2, l2, x2, r2⟩ <;> (try cases c1) <;> (try cases c2) <;>
          simp_all [balance, bal1, bal2, bal3, V, red, left, right, turnLeft, turnRight, flip, neg]
      · have a := (ihr h2).1 h4
        generalize Tr.put lt k x r = r' at a
        rcases l with _ | ⟨g1, c1, l1, x1, r1⟩ <;> rcases r' with _ | ⟨g2, c2, l2, x2, r2⟩ <;> (try cases c1) <;> (try cases c2) <;>
          simp_all [balance, bal1, bal2, bal3, V, red, left, right, turnLeft, turnRight, flip, neg]
    | false =>
      obtain ⟨k', rfl, h1, h2, h3⟩ := hv
      refine ⟨fun _ => ?_, fun e => by simp [red] at e⟩
      simp only [Tr.put]
      split
      · cases hl : l.red with
        | false => exact (bal_black ((ihl h1).1 hl) h2 g y).1
        | true =>
          have a := (ihl h1).2 hl
          generalize Tr.put lt k x l = l' at a
          obtain ⟨a1, a2, a3, a4⟩ := a
          rcases l' with _ | ⟨g1, c1, l1, x1, r1⟩
          · simp [red] at a1
          · rcases r with _ | ⟨g2, c2, l2, x2, r2⟩ <;> rcases l1 with _ | ⟨g3, c3, l3, x3, r3⟩ <;> (try cases c1) <;> (try cases c2) <;> (try cases c3) <;>
              simp_all [balance, bal1, bal2, bal3, V, red, left, right, turnLeft, turnRight, flip, neg]
      · exact (bal_black h1 ((ihr h2).1 h3) g y).1

/-- A part of a list that holds a thing. -/
theorem part_left {lt : α → α → Bool} {x m z : α} {A B L R : List α} (h : A ++ m :: B = L ++ z :: R) (hA : ∀ a ∈ A, lt x a = false) (hm : lt x m = false) (hz : lt x z = true) :
    ∃ B', L = A ++ m :: B' ∧ B = B' ++ z :: R := by
  rcases List.append_eq_append_iff.1 h with ⟨a', h1, h2⟩ | ⟨c', h1, h2⟩
  · cases a' with
    | nil => simp at h2; rw [← h2.1, hm] at hz; exact absurd hz (by simp)
    | cons d ds => simp at h2; exact ⟨ds, by rw [h1, ← h2.1], h2.2⟩
  · cases c' with
    | nil => simp at h2; rw [h2.1, hm] at hz; exact absurd hz (by simp)
    | cons d ds =>
      simp at h2
      have := hA z (by rw [h1, ← h2.1]; simp)
      rw [this] at hz; exact absurd hz (by simp)
theorem part_right {lt : α → α → Bool} {x m z : α} {A B L R : List α} (h : A ++ m :: B = L ++ z :: R) (hB : ∀ b ∈ B, lt b x = false) (hm : lt m x = false) (hz : lt z x = true) :
    ∃ A', R = A' ++ m :: B ∧ A = L ++ z :: A' := by
  rcases List.append_eq_append_iff.1 h with ⟨a', h1, h2⟩ | ⟨c', h1, h2⟩
  · cases a' with
    | nil => simp at h2; rw [← h2.1, hm] at hz; exact absurd hz (by simp)
    | cons d ds =>
      simp at h2
      have := hB z (by rw [h2.2]; simp)
      rw [this] at hz; exact absurd hz (by simp)
  · cases c' with
    | nil => simp at h2; rw [h2.1, hm] at hz; exact absurd hz (by simp)
    | cons d ds => simp at h2; exact ⟨ds, h2.2, by rw [h1, ← h2.1]⟩
theorem part_here {lt : α → α → Bool} {x m z : α} {A B L R : List α} (h : A ++ m :: B = L ++ z :: R) (hA : ∀ a ∈ A, lt a x = true) (hB : ∀ b ∈ B, lt x b = true) (hz : lt x z = false) (hz' : lt z x = false) : L = A ∧ R = B ∧ z = m := by
  rcases List.append_eq_append_iff.1 h with ⟨a', h1, h2⟩ | ⟨c', h1, h2⟩
  · cases a' with
    | nil => simp at h1 h2; exact ⟨h1, h2.2.symm, h2.1.symm⟩
    | cons d ds =>
      simp at h2
      have := hB z (by rw [h2.2]; simp)
      rw [this] at hz; exact absurd hz (by simp)
  · cases c' with
    | nil => simp at h1 h2; exact ⟨h1.symm, h2.2, h2.1⟩
    | cons d ds =>
      simp at h2
      have := hA z (by rw [h1, ← h2.1]; simp)
      rw [this] at hz'; exact absurd hz' (by simp)

/-- A list in which x is m. -/
structure Has (lt : α → α → Bool) (x : α) (A : List α) (m : α) (B : List α) : Prop where
  low : ∀ a ∈ A, lt a x = true ∧ lt x a = false
  high : ∀ b ∈ B, lt x b = true ∧ lt b x = false
  mid : lt x m = false ∧ lt m x = false

/-- What becomes of a part from which a thing goes. -/
def Aft (u u' : Tr α) : Prop := ∀ h, V u h → V u' h ∧ (u.red = false → u'.red = false)
/-- A part that leans to the right for a while. -/
def PD (u : Tr α) (h : Nat) : Prop := u ≠ nil ∧ u.red = false ∧ V u.left h ∧ V u.right h ∧ u.left.red = false ∧ u.right.red = true
def AftD (u u' : Tr α) : Prop := ∀ h, PD u h → V u' (h + 1) ∧ u'.red = false
/-- A root, whose own colour counts for nothing. -/
def PA (u : Tr α) (h : Nat) : Prop := u ≠ nil ∧ V u.left h ∧ V u.right h ∧ u.left.red = false ∧ u.right.red = false
def AftA (u u' : Tr α) : Prop := ∀ h, PA u h → u' = nil ∨ ∃ k, V u'.left k ∧ V u'.right k ∧ u'.right.red = false

-- a left part that can lend
theorem lendL {g : Nat} {c : Bool} {l r : Tr α} {x : α} {h : Nat} (hl : V l h) (hr : V r h) (hn : l ≠ nil) (hrr : r.red = false) :
    (l.lend = true ∧ (node g c l x r).lendLeft = node g c l x r) ∨
    (l.lend = false ∧ r.left.red = false ∧ ∃ k, h = k + 1 ∧ (node g c l x r).lendLeft = node g (!c) l.neg x r.neg ∧ V l.neg k ∧ V r.neg k ∧ l.neg.red = true ∧ r.neg.red = true ∧ l.neg.left.red = false ∧ r ≠ nil) ∨
    (l.lend = false ∧ r.left.red = true ∧ ∃ k, h = k + 1 ∧ ∃ g2 g3 a z b y e, r = node g2 false (node g3 true a z b) y e ∧ (node g c l x r).lendLeft = node g3 c (node g false l.neg x a) z (node g2 false b y e) ∧ V (node g false l.neg x a) h ∧ V (node g2 false b y e) h ∧ l.neg.red = true ∧ r ≠ nil) := by
  rcases l with _ | ⟨g1, c1, l1, x1, r1⟩
  · exact absurd rfl hn
  · cases hle : (node g1 c1 l1 x1 r1).lend with
    | true => exact Or.inl ⟨rfl, by simp [lendLeft, left, hle]⟩
    | false =>
      refine Or.inr ?_
      cases c1 with
      | true => simp [lend] at hle
      | false =>
        obtain ⟨k, rfl, h1, h2, h3⟩ := hl
        have h4 : l1.red = false := by simpa [lend] using hle
        rcases r with _ | ⟨g2, c2, l2, x2, r2⟩
        · simp [V] at hr
        · cases c2 with
          | true => simp [red] at hrr
          | false =>
            obtain ⟨k', hk, q1, q2, q3⟩ := hr
            obtain rfl : k = k' := by omega
            rcases l2 with _ | ⟨g3, c3, a, z, b⟩
            · refine Or.inl ⟨rfl, rfl, k, rfl, ?_, ?_⟩
              · simp [lendLeft, lendLeft2, left, right, hle, flip, neg, red]
              · simp_all [neg, V, red, left]
            · cases c3 with
              | false =>
                refine Or.inl ⟨rfl, rfl, k, rfl, ?_, ?_⟩
                · simp [lendLeft, lendLeft2, left, right, hle, flip, neg, red]
                · simp_all [neg, V, red, left]
              | true =>
                refine Or.inr ⟨rfl, rfl, k, rfl, g2, g3, a, z, b, x2, r2, rfl, ?_, ?_⟩
                · simp [lendLeft, lendLeft2, left, right, hle, flip, neg, red, turnLeft, turnRight, setRight]
                · simp_all [neg, V, red, left]

end Tr
end Go.Proofs.Ytcnmobehamgmbaa

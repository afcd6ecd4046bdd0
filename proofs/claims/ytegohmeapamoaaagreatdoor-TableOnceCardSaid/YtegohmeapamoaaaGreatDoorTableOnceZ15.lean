/- Texts of TableOnce's proof, together. -/
namespace Go.Proofs.YtegohmeapamoaaaGreatDoor
/- Trees that lean to the left, by themselves: nothing of the program. A node bears the number of the block in which it lies. -/
section
inductive Tr (α : Type) where
  | nil
  | node (g : Nat) (c : Bool) (l : Tr α) (x : α) (r : Tr α)
namespace Tr
variable {α : Type}
def red : Tr α → Bool
  | nil => false
  | node _ c _ _ _ => c
def left : Tr α → Tr α
  | nil => nil
  | node _ _ l _ _ => l
def right : Tr α → Tr α
  | nil => nil
  | node _ _ _ _ r => r
def lend : Tr α → Bool
  | nil => false
  | node _ c l _ _ => c || l.red
def neg : Tr α → Tr α
  | nil => nil
  | node g c l x r => node g (!c) l x r
def flip : Tr α → Tr α
  | nil => nil
  | node g c l x r => node g (!c) l.neg x r.neg
def turnLeft : Tr α → Tr α
  | node g c a x (node h _ b y e) => node h c (node g true a x b) y e
  | t => t
def turnRight : Tr α → Tr α
  | node g c (node h _ a y b) x e => node h c a y (node g true b x e)
  | t => t
def bal1 (t : Tr α) : Tr α := if t.right.red && !t.left.red then t.turnLeft else t
def bal2 (t : Tr α) : Tr α := if t.left.red && t.left.left.red then t.turnRight else t
def bal3 (t : Tr α) : Tr α := if t.left.red && t.right.red then t.flip else t
def balance (t : Tr α) : Tr α := t.bal1.bal2.bal3
def list : Tr α → List α
  | nil => []
  | node _ _ l x r => l.list ++ x :: r.list
def blocks : Tr α → List Nat
  | nil => []
  | node g _ l _ r => g :: (l.blocks ++ r.blocks)
def size : Tr α → Nat
  | nil => 0
  | node _ _ l _ r => l.size + 1 + r.size
def thing : Tr α → α → α
  | nil, d => d
  | node _ _ _ x _, _ => x
def put (lt : α → α → Bool) (k : Nat) (x : α) : Tr α → Tr α
  | nil => balance (node k true nil x nil)
  | node g c l y r => if lt x y then balance (node g c (put lt k x l) y r) else balance (node g c l y (put lt k x r))
-- what is in it, in order
@[simp] theorem list_neg (t : Tr α) : t.neg.list = t.list := by cases t <;> rfl
@[simp] theorem list_flip (t : Tr α) : t.flip.list = t.list := by cases t <;> simp [flip, list]
@[simp] theorem list_turnLeft (t : Tr α) : t.turnLeft.list = t.list := by unfold turnLeft; split <;> simp [list]
@[simp] theorem list_turnRight (t : Tr α) : t.turnRight.list = t.list := by unfold turnRight; split <;> simp [list]
@[simp] theorem list_balance (t : Tr α) : t.balance.list = t.list := by
  unfold balance bal3 bal2 bal1; (repeat' split) <;> simp
-- the least thing
-- all ways down have as many black ones
def V : Tr α → Nat → Prop
  | nil, h => h = 0
  | node _ true l _ r, h => V l h ∧ V r h ∧ l.red = false ∧ r.red = false
  | node _ false l _ r, h => ∃ k, h = k + 1 ∧ V l k ∧ V r k ∧ r.red = false
theorem bal_black {l r : Tr α} {h : Nat} (hl : V l h) (hr : V r h) (g : Nat) (x : α) :
    V (balance (node g false l x r)) (h + 1) ∧ (l.red = false ∨ r.red = false → (balance (node g false l x r)).red = false) := by
  rcases l with _ | ⟨g1, c1, l1, x1, r1⟩ <;> rcases r with _ | ⟨g2, c2, l2, x2, r2⟩ <;> (try cases c1) <;> (try cases c2) <;>
    simp_all [balance, bal1, bal2, bal3, V, red, left, right, turnLeft, turnRight, flip, neg]
end Tr
end

/- Trees that lean to the left, by themselves: what comes, and what goes. -/
section
namespace Tr
variable {α : Type}
/-- A thing that comes: a black root stays a tree; a red one may have a red child. -/
theorem V.put (lt : α → α → Bool) (k : Nat) (x : α) (t : Tr α) : ∀ {h : Nat}, V t h →
    (t.red = false → V (put lt k x t) h) ∧ (t.red = true → (Tr.put lt k x t).red = true ∧ V (Tr.put lt k x t).left h ∧ V (Tr.put lt k x t).right h ∧ (Tr.put lt k x t).right.red = false) := by
  induction t with
  | nil => intro h hv; simp [V] at hv; subst hv; simp [Tr.put, balance, bal1, bal2, bal3, red, left, right, V]
  | node g c l y r ihl ihr =>
    intro h hv
    cases c with
    | true =>
      obtain ⟨h1, h2, h3, h4⟩ := hv
      refine ⟨fun e => by simp [red] at e, fun _ => ?_⟩
      simp only [Tr.put]
      split
      · have a := (ihl h1).1 h3
        generalize Tr.put lt k x l = l' at a
        rcases l' with _ | ⟨g1, c1, l1, x1, r1⟩ <;> rcases r with _ | ⟨g2, c2, l2, x2, r2⟩ <;> (try cases c1) <;> (try cases c2) <;>
          simp_all [balance, bal1, bal2, bal3, V, red, left, right, turnLeft, turnRight, flip, neg]
      · have a := (ihr h2).1 h4
        generalize Tr.put lt k x r = r' at a
        rcases l with _ | ⟨g1, c1, l1, x1, r1⟩ <;> rcases r' with _ | ⟨g2, c2, l2, x2, r2⟩ <;> (try cases c1) <;> (try cases c2) <;>
          simp_all [balance, bal1, bal2, bal3, V, red, left, right, turnLeft, turnRight, flip, neg]
    | false =>
      obtain ⟨k', rfl, h1, h2, h3⟩ := hv
      refine ⟨fun _ => ?_, fun e => by simp [red] at e⟩
      simp only [Tr.put]
      split
      · cases hl : l.red with
        | false => exact (bal_black ((ihl h1).1 hl) h2 g y).1
        | true =>
          have a := (ihl h1).2 hl
          generalize Tr.put lt k x l = l' at a
          obtain ⟨a1, a2, a3, a4⟩ := a
          rcases l' with _ | ⟨g1, c1, l1, x1, r1⟩
          · simp [red] at a1
          · rcases r with _ | ⟨g2, c2, l2, x2, r2⟩ <;> rcases l1 with _ | ⟨g3, c3, l3, x3, r3⟩ <;> (try cases c1) <;> (try cases c2) <;> (try cases c3) <;>
              simp_all [balance, bal1, bal2, bal3, V, red, left, right, turnLeft, turnRight, flip, neg]
      · exact (bal_black h1 ((ihr h2).1 h3) g y).1
/-- A part that leans to the right for a while. -/
def PD (u : Tr α) (h : Nat) : Prop := u ≠ nil ∧ u.red = false ∧ V u.left h ∧ V u.right h ∧ u.left.red = false ∧ u.right.red = true
/-- A root, whose own colour counts for nothing. -/
def PA (u : Tr α) (h : Nat) : Prop := u ≠ nil ∧ V u.left h ∧ V u.right h ∧ u.left.red = false ∧ u.right.red = false
-- a left part that can lend
end Tr
end

/- Trees that lean to the left, by themselves: a thing goes. -/
section
namespace Tr
variable {α : Type}
/-- From which parts a thing may go: one that can lend, one that leans to the right for a while, or a root. -/
def Pre (lt : α → α → Bool) (x : α) (t : Tr α) : Prop :=
  (∃ h, V t h ∧ t.lend = true) ∨ (∃ h, PD t h ∧ lt x (t.thing x) = false) ∨ ∃ h, PA t h
end Tr
end

/- Trees that lean to the left, by themselves: the blocks, and a whole tree. -/
section
namespace Tr
variable {α : Type}
@[simp] theorem blocks_neg (t : Tr α) : t.neg.blocks = t.blocks := by cases t <;> rfl
@[simp] theorem blocks_flip (t : Tr α) : t.flip.blocks = t.blocks := by cases t <;> simp [flip, blocks]
end Tr
end

/- Lists of whole numbers in order: what comes, and what goes. -/
section
def Tr.has {α : Type} (lt : α → α → Bool) (x : α) : Tr α → Bool
  | .nil => false
  | .node _ _ l y r => if lt x y then Tr.has lt x l else if lt y x then Tr.has lt x r else true
end

end Go.Proofs.YtegohmeapamoaaaGreatDoor

/- Texts of ReqMakes's proof, together. -/
namespace Go.Proofs.YtjndmmcjobbcbaaGreatDoor

section
inductive Tr (α : Type) where
 | nil
 | node (g : Nat) (c : Bool) (l : Tr α) (x : α) (r : Tr α)
namespace Tr
variable {α : Type}
def red : Tr α → Bool
 | nil => false
 | node _ c _ _ _ => c
def left : Tr α → Tr α
 | nil => nil
 | node _ _ l _ _ => l
def right : Tr α → Tr α
 | nil => nil
 | node _ _ _ _ r => r
def lend : Tr α → Bool
 | nil => false
 | node _ c l _ _ => c || l.red
def paint (c : Bool) : Tr α → Tr α
 | nil => nil
 | node g _ l x r => node g c l x r
def neg : Tr α → Tr α
 | nil => nil
 | node g c l x r => node g (!c) l x r
def flip : Tr α → Tr α
 | nil => nil
 | node g c l x r => node g (!c) l.neg x r.neg
def turnLeft : Tr α → Tr α
 | node g c a x (node h _ b y e) => node h c (node g true a x b) y e
 | t => t
def turnRight : Tr α → Tr α
 | node g c (node h _ a y b) x e => node h c a y (node g true b x e)
 | t => t
def bal1 (t : Tr α) : Tr α := if t.right.red && !t.left.red then t.turnLeft else t
def bal2 (t : Tr α) : Tr α := if t.left.red && t.left.left.red then t.turnRight else t
def bal3 (t : Tr α) : Tr α := if t.left.red && t.right.red then t.flip else t
def balance (t : Tr α) : Tr α := t.bal1.bal2.bal3
def setLeft : Tr α → Tr α → Tr α
 | nil, _ => nil
 | node g c _ x r, l => node g c l x r
def setRight : Tr α → Tr α → Tr α
 | nil, _ => nil
 | node g c l x _, r => node g c l x r
def isNil : Tr α → Bool
 | nil => true
 | node _ _ _ _ _ => false
def list : Tr α → List α
 | nil => []
 | node _ _ l x r => l.list ++ x :: r.list
def blocks : Tr α → List Nat
 | nil => []
 | node g _ l _ r => g :: (l.blocks ++ r.blocks)
def size : Tr α → Nat
 | nil => 0
 | node _ _ l _ r => l.size + 1 + r.size
def depth : Tr α → Nat
 | nil => 0
 | node _ _ l _ r => 1 + max l.depth r.depth
def least : Tr α → α → α
 | nil, d => d
 | node _ _ l x _, _ => l.least x
def thing : Tr α → α → α
 | nil, d => d
 | node _ _ _ x _, _ => x
def put (lt : α → α → Bool) (k : Nat) (x : α) : Tr α → Tr α
 | nil => balance (node k true nil x nil)
 | node g c l y r => if lt x y then balance (node g c (put lt k x l) y r) else balance (node g c l y (put lt k x r))
def lendLeft2 (t : Tr α) : Tr α := if t.right.left.red then (t.setRight t.right.turnRight).turnLeft.flip else t
def lendLeft (t : Tr α) : Tr α := if t.left.lend then t else t.flip.lendLeft2
def lendRight2 (t : Tr α) : Tr α := if t.left.left.red then t.turnRight.flip else t
def lendRight (t : Tr α) : Tr α := if t.right.lend then t else t.flip.lendRight2
def remL : Nat → Tr α → Tr α
 | 0, t => t
 | n + 1, t => if t.left.isNil then nil else balance (t.lendLeft.setLeft (remL n t.lendLeft.left))
def up1 (t : Tr α) : Tr α := if t.left.red then t.turnRight else t
def setThing : Tr α → α → Tr α
 | nil, _ => nil
 | node g c l _ r, x => node g c l x r
def rem (lt : α → α → Bool) : Nat → α → Tr α → Tr α
 | 0, _, t => t
 | _ + 1, _, nil => nil
 | n + 1, x, node g c l y r =>
  if lt x y then balance ((node g c l y r).lendLeft.setLeft (rem lt n x (node g c l y r).lendLeft.left))
  else if (node g c l y r).up1.right.isNil then nil
  else if lt ((node g c l y r).up1.lendRight.thing x) x then balance ((node g c l y r).up1.lendRight.setRight (rem lt n x (node g c l y r).up1.lendRight.right))
  else balance (((node g c l y r).up1.lendRight.setRight (remL n (node g c l y r).up1.lendRight.right)).setThing ((node g c l y r).up1.lendRight.right.least ((node g c l y r).up1.lendRight.thing x)))
-- what is in it, in order
@[simp] theorem list_paint (c : Bool) (t : Tr α) : (t.paint c).list = t.list := by cases t <;> rfl
@[simp] theorem list_neg (t : Tr α) : t.neg.list = t.list := by cases t <;> rfl
@[simp] theorem list_flip (t : Tr α) : t.flip.list = t.list := by cases t <;> simp [flip, list]
@[simp] theorem list_turnLeft (t : Tr α) : t.turnLeft.list = t.list := by unfold turnLeft; split <;> simp [list]
@[simp] theorem list_turnRight (t : Tr α) : t.turnRight.list = t.list := by unfold turnRight; split <;> simp [list]
@[simp] theorem list_balance (t : Tr α) : t.balance.list = t.list := by
 unfold balance bal3 bal2 bal1; (repeat' split) <;> simp
@[simp] theorem list_setRight_turn (t : Tr α) : (t.setRight t.right.turnRight).list = t.list := by cases t <;> simp [setRight, right, list]
@[simp] theorem list_lendLeft (t : Tr α) : t.lendLeft.list = t.list := by unfold lendLeft lendLeft2; (repeat' split) <;> simp
@[simp] theorem list_lendRight (t : Tr α) : t.lendRight.list = t.list := by unfold lendRight lendRight2; (repeat' split) <;> simp
@[simp] theorem list_up1 (t : Tr α) : t.up1.list = t.list := by unfold up1; split <;> simp
theorem size_eq (t : Tr α) : t.size = t.list.length := by
 induction t with
 | nil => rfl
 | node g c l x r ihl ihr => simp [size, list, ihl, ihr]; omega
theorem blocks_length (t : Tr α) : t.blocks.length = t.list.length := by
 induction t with
 | nil => rfl
 | node g c l x r ihl ihr => simp [blocks, list, ihl, ihr]; omega
-- the least thing
theorem list_put (lt : α → α → Bool) (k : Nat) (x : α) (t : Tr α) : ∀ A B, t.list = A ++ B → (∀ a ∈ A, lt x a = false) → (∀ b ∈ B, lt x b = true) → (put lt k x t).list = A ++ x :: B := by
 induction t with
 | nil => intro A B h _ _; simp [list] at h; obtain ⟨rfl, rfl⟩ := h; simp [put, list]
 | node g c l y r ihl ihr =>
  intro A B h hA hB
  simp only [put]
  simp only [list] at h
  split
  ·rename_i hlt
   rw [list_balance]
   rcases List.append_eq_append_iff.1 h.symm with ⟨a', h1, h2⟩ | ⟨c', h1, h2⟩
   ·simp only [list, ihl A a' h1 hA (fun b hb => hB b (by rw [h2]; simp [hb])), h2]; simp
   ·cases c' with
    | nil => simp at h1 h2; subst h1; simp only [list, ihl l.list [] (by simp) hA (by simp)]; simp [← h2]
    | cons d ds =>
     exfalso
     simp only [List.cons_append, List.cons.injEq] at h2
     have := hA d (by rw [h1]; simp)
     rw [← h2.1, hlt] at this
     exact absurd this (by simp)
  ·rename_i hlt
   rw [list_balance]
   rcases List.append_eq_append_iff.1 h.symm with ⟨a', h1, h2⟩ | ⟨c', h1, h2⟩
   ·exact absurd (hB y (by rw [h2]; simp)) hlt
   ·cases c' with
    | nil => simp at h2; exact absurd (hB y (by rw [← h2]; simp)) hlt
    | cons d ds =>
     simp only [List.cons_append, List.cons.injEq] at h2
     simp only [list, ihr ds B h2.2 (fun a ha => hA a (by rw [h1]; simp [ha])) hB, h1, h2.1]; simp
-- all ways down have as many black ones
def V : Tr α → Nat → Prop
 | nil, h => h = 0
 | node _ true l _ r, h => V l h ∧ V r h ∧ l.red = false ∧ r.red = false
 | node _ false l _ r, h => ∃ k, h = k + 1 ∧ V l k ∧ V r k ∧ r.red = false
theorem bal_black {l r : Tr α} {h : Nat} (hl : V l h) (hr : V r h) (g : Nat) (x : α) :
  V (balance (node g false l x r)) (h + 1) ∧ (l.red = false ∨ r.red = false → (balance (node g false l x r)).red = false) := by
 rcases l with _ | ⟨g1, c1, l1, x1, r1⟩ <;> rcases r with _ | ⟨g2, c2, l2, x2, r2⟩ <;> (try cases c1) <;> (try cases c2) <;>
  simp_all [balance, bal1, bal2, bal3, V, red, left, right, turnLeft, turnRight, flip, neg]
end Tr
end


section
namespace Tr
variable {α : Type}
theorem V.put (lt : α → α → Bool) (k : Nat) (x : α) (t : Tr α) : ∀ {h : Nat}, V t h →
  (t.red = false → V (put lt k x t) h) ∧ (t.red = true → (Tr.put lt k x t).red = true ∧ V (Tr.put lt k x t).left h ∧ V (Tr.put lt k x t).right h ∧ (Tr.put lt k x t).right.red = false) := by
 induction t with
 | nil => intro h hv; simp [V] at hv; subst hv; simp [Tr.put, balance, bal1, bal2, bal3, red, left, right, V]
 | node g c l y r ihl ihr =>
  intro h hv
  cases c with
  | true =>
   obtain ⟨h1, h2, h3, h4⟩ := hv
   refine ⟨fun e => by simp [red] at e, fun _ => ?_⟩
   simp only [Tr.put]
   split
   ·have a := (ihl h1).1 h3
    generalize Tr.put lt k x l = l' at a
    rcases l' with _ | ⟨g1, c1, l1, x1, r1⟩ <;> rcases r with _ | ⟨g2, c2, l2, x2, r2⟩ <;> (try cases c1) <;> (try cases c2) <;>
     simp_all [balance, bal1, bal2, bal3, V, red, left, right, turnLeft, turnRight, flip, neg]
   ·have a := (ihr h2).1 h4
    generalize Tr.put lt k x r = r' at a
    rcases l with _ | ⟨g1, c1, l1, x1, r1⟩ <;> rcases r' with _ | ⟨g2, c2, l2, x2, r2⟩ <;> (try cases c1) <;> (try cases c2) <;>
     simp_all [balance, bal1, bal2, bal3, V, red, left, right, turnLeft, turnRight, flip, neg]
  | false =>
   obtain ⟨k', rfl, h1, h2, h3⟩ := hv
   refine ⟨fun _ => ?_, fun e => by simp [red] at e⟩
   simp only [Tr.put]
   split
   ·cases hl : l.red with
    | false => exact (bal_black ((ihl h1).1 hl) h2 g y).1
    | true =>
     have a := (ihl h1).2 hl
     generalize Tr.put lt k x l = l' at a
     obtain ⟨a1, a2, a3, a4⟩ := a
     rcases l' with _ | ⟨g1, c1, l1, x1, r1⟩
     ·simp [red] at a1
     ·rcases r with _ | ⟨g2, c2, l2, x2, r2⟩ <;> rcases l1 with _ | ⟨g3, c3, l3, x3, r3⟩ <;> (try cases c1) <;> (try cases c2) <;> (try cases c3) <;>
       simp_all [balance, bal1, bal2, bal3, V, red, left, right, turnLeft, turnRight, flip, neg]
   ·exact (bal_black h1 ((ihr h2).1 h3) g y).1
-- a left part that can lend
end Tr
end


section
namespace Tr
variable {α : Type}
theorem red_node {g : Nat} {c : Bool} {l r : Tr α} {x : α} : (node g c l x r).red = c := rfl
theorem left_node {g : Nat} {c : Bool} {l r : Tr α} {x : α} : (node g c l x r).left = l := rfl
theorem right_node {g : Nat} {c : Bool} {l r : Tr α} {x : α} : (node g c l x r).right = r := rfl
theorem bal_same {g : Nat} {c : Bool} {l r : Tr α} {x : α} (hl : l.red = false) (hr : r.red = false) : balance (node g c l x r) = node g c l x r := by
 simp [balance, bal1, bal2, bal3, left, right, hl, hr]
-- a right part that can lend
end Tr
end


section
namespace Tr
variable {α : Type}
@[simp] theorem blocks_neg (t : Tr α) : t.neg.blocks = t.blocks := by cases t <;> rfl
@[simp] theorem blocks_paint (c : Bool) (t : Tr α) : (t.paint c).blocks = t.blocks := by cases t <;> rfl
@[simp] theorem blocks_flip (t : Tr α) : t.flip.blocks = t.blocks := by cases t <;> simp [flip, blocks]
theorem perm_turnLeft (t : Tr α) : t.turnLeft.blocks.Perm t.blocks := by
 unfold turnLeft
 split
 ·rename_i g c a x h _ b y e
  simp only [blocks]
  rw [List.perm_iff_count]
  intro k
  simp [List.count_cons, List.count_append]
  omega
 ·exact List.Perm.refl _
theorem perm_turnRight (t : Tr α) : t.turnRight.blocks.Perm t.blocks := by
 unfold turnRight
 split
 ·simp only [blocks]
  rw [List.perm_iff_count]
  intro k
  simp [List.count_cons, List.count_append]
  omega
 ·exact List.Perm.refl _
theorem perm_balance (t : Tr α) : t.balance.blocks.Perm t.blocks := by
 have h1 : t.bal1.blocks.Perm t.blocks := by unfold bal1; split <;> first | exact List.Perm.refl _ | exact perm_turnLeft t
 have h2 : t.bal1.bal2.blocks.Perm t.bal1.blocks := by unfold bal2; split <;> first | exact List.Perm.refl _ | exact perm_turnRight _
 have h3 : t.bal1.bal2.bal3.blocks.Perm t.bal1.bal2.blocks := by unfold bal3; split <;> first | exact List.Perm.refl _ | simp
 exact h3.trans (h2.trans h1)
theorem perm_put (lt : α → α → Bool) (k : Nat) (x : α) (t : Tr α) : (put lt k x t).blocks.Perm (k :: t.blocks) := by
 induction t with
 | nil => exact perm_balance _
 | node g c l y r ihl ihr =>
  simp only [put]
  split
  ·refine (perm_balance _).trans ?_
   simp only [blocks]
   refine ((ihl.append_right r.blocks).cons g).trans ?_
   exact List.Perm.swap _ _ _
  ·refine (perm_balance _).trans ?_
   simp only [blocks]
   refine ((ihr.append_left l.blocks).cons g).trans ?_
   rw [List.perm_iff_count]
   intro j
   simp [List.count_cons, List.count_append]
   omega
end Tr
end


section
def ltI (a b : Int) : Bool := decide (a < b)
def Tr.has {α : Type} (lt : α → α → Bool) (x : α) : Tr α → Bool
 | .nil => false
 | .node _ _ l y r => if lt x y then Tr.has lt x l else if lt y x then Tr.has lt x r else true
end

end Go.Proofs.YtjndmmcjobbcbaaGreatDoor

/- Trees that lean to the left, by themselves: nothing of the program. A node bears the number of the block in which it lies. -/
namespace Go.Proofs.Ytcnmobehamgmbaa

inductive Tr (α : Type) where
  | nil
  | node (g : Nat) (c : Bool) (l : Tr α) (x : α) (r : Tr α)

namespace Tr
variable {α : Type}

def red : Tr α → Bool
  | nil => false
  | node _ c _ _ _ => c
def left : Tr α → Tr α
  | nil => nil
  | node _ _ l _ _ => l
def right : Tr α → Tr α
  | nil => nil
  | node _ _ _ _ r => r
def lend : Tr α → Bool
  | nil => false
  | node _ c l _ _ => c || l.red
def paint (c : Bool) : Tr α → Tr α
  | nil => nil
  | node g _ l x r => node g c l x r
def neg : Tr α → Tr α
  | nil => nil
  | node g c l x r => node g (!c) l x r
def flip : Tr α → Tr α
  | nil => nil
  | node g c l x r => node g (!c) l.neg x r.neg
def turnLeft : Tr α → Tr α
  | node g c a x (node h _ b y e) => node h c (node g true a x b) y e
  | t => t
def turnRight : Tr α → Tr α
  | node g c (node h _ a y b) x e => node h c a y (node g true b x e)
  | t => t
def bal1 (t : Tr α) : Tr α := if t.right.red && !t.left.red then t.turnLeft else t
def bal2 (t : Tr α) : Tr α := if t.left.red && t.left.left.red then t.turnRight else t
def bal3 (t : Tr α) : Tr α := if t.left.red && t.right.red then t.flip else t
def balance (t : Tr α) : Tr α := t.bal1.bal2.bal3
def setLeft : Tr α → Tr α → Tr α
  | nil, _ => nil
  | node g c _ x r, l => node g c l x r
def setRight : Tr α → Tr α → Tr α
  | nil, _ => nil
  | node g c l x _, r => node g c l x r
def isNil : Tr α → Bool
  | nil => true
  | node _ _ _ _ _ => false
def list : Tr α → List α
  | nil => []
  | node _ _ l x r => l.list ++ x :: r.list
def blocks : Tr α → List Nat
  | nil => []
  | node g _ l _ r => g :: (l.blocks ++ r.blocks)
def size : Tr α → Nat
  | nil => 0
  | node _ _ l _ r => l.size + 1 + r.size
def depth : Tr α → Nat
  | nil => 0
  | node _ _ l _ r => 1 + max l.depth r.depth
def least : Tr α → α → α
  | nil, d => d
  | node _ _ l x _, _ => l.least x
def thing : Tr α → α → α
  | nil, d => d
  | node _ _ _ x _, _ => x
def put (lt : α → α → Bool) (k : Nat) (x : α) : Tr α → Tr α
  | nil => balance (node k true nil x nil)
  | node g c l y r => if lt x y then balance (node g c (put lt k x l) y r) else balance (node g c l y (put lt k x r))
def lendLeft2 (t : Tr α) : Tr α := if t.right.left.red then (t.setRight t.right.turnRight).turnLeft.flip else t
def lendLeft (t : Tr α) : Tr α := if t.left.lend then t else t.flip.lendLeft2
def lendRight2 (t : Tr α) : Tr α := if t.left.left.red then t.turnRight.flip else t
def lendRight (t : Tr α) : Tr α := if t.right.lend then t else t.flip.lendRight2
def remL : Nat → Tr α → Tr α
  | 0, t => t
  | n + 1, t => if t.left.isNil then nil else balance (t.lendLeft.setLeft (remL n t.lendLeft.left))
def up1 (t : Tr α) : Tr α := if t.left.red then t.turnRight else t
def setThing : Tr α → α → Tr α
  | nil, _ => nil
  | node g c l _ r, x => node g c l x r
def rem (lt : α → α → Bool) : Nat → α → Tr α → Tr α
  | 0, _, t => t
  | _ + 1, _, nil => nil
  | n + 1, x, node g c l y r =>
    if lt x y then balance ((node g c l y r).lendLeft.setLeft (rem lt n x (node g c l y r).lendLeft.left))
    else if (node g c l y r).up1.right.isNil then nil
    else if lt ((node g c l y r).up1.lendRight.thing x) x then balance ((node g c l y r).up1.lendRight.setRight (rem lt n x (node g c l y r).up1.lendRight.right))
    else balance (((node g c l y r).up1.lendRight.setRight (remL n (node g c l y r).up1.lendRight.right)).setThing ((node g c l y r).up1.lendRight.right.least ((node g c l y r).up1.lendRight.thing x)))

-- what is in it, in order
@[simp] theorem list_paint (c : Bool) (t : Tr α) : (t.paint c).list = t.list := by cases t <;> rfl
@[simp] theorem list_neg (t : Tr α) : t.neg.list = t.list := by cases t <;> rfl
@[simp] theorem list_flip (t : Tr α) : t.flip.list = t.list := by cases t <;> simp [flip, list]
@[simp] theorem list_turnLeft (t : Tr α) : t.turnLeft.list = t.list := by unfold turnLeft; split <;> simp [list]
@[simp] theorem list_turnRight (t : Tr α) : t.turnRight.list = t.list := by unfold turnRight; split <;> simp [list]
@[simp] theorem list_balance (t : Tr α) : t.balance.list = t.list := by
  unfold balance bal3 bal2 bal1; (repeat' split) <;> simp
@[simp] theorem list_setRight_turn (t : Tr α) : (t.setRight t.right.turnRight).list = t.list := by cases t <;> simp [setRight, right, list]
@[simp] theorem list_lendLeft (t : Tr α) : t.lendLeft.list = t.list := by unfold lendLeft lendLeft2; (repeat' split) <;> simp
@[simp] theorem list_lendRight (t : Tr α) : t.lendRight.list = t.list := by unfold lendRight lendRight2; (repeat' split) <;> simp
@[simp] theorem list_up1 (t : Tr α) : t.up1.list = t.list := by unfold up1; split <;> simp

theorem size_eq (t : Tr α) : t.size = t.list.length := by
  induction t with
  | nil => rfl
  | node g c l x r ihl ihr => simp [size, list, ihl, ihr]; omega
theorem blocks_length (t : Tr α) : t.blocks.length = t.list.length := by
  induction t with
  | nil => rfl
  | node g c l x r ihl ihr => simp [blocks, list, ihl, ihr]; omega
theorem size_left_lt (t : Tr α) (h : t ≠ nil) : t.left.size < t.size := by
  cases t with
  | nil => exact absurd rfl h
  | node g c l x r => simp only [left, size]; omega
theorem size_right_lt (t : Tr α) (h : t ≠ nil) : t.right.size < t.size := by
  cases t with
  | nil => exact absurd rfl h
  | node g c l x r => simp only [right, size]; omega
theorem size_of_list {t u : Tr α} (h : t.list = u.list) : t.size = u.size := by rw [size_eq, size_eq, h]
theorem ne_nil_of_list {t u : Tr α} (h : t.list = u.list) (hu : u ≠ nil) : t ≠ nil := by
  intro e; subst e; cases u <;> simp_all [list]
theorem isNil_iff (t : Tr α) : t.isNil = true ↔ t = nil := by cases t <;> simp [isNil]
theorem isNil_no (t : Tr α) : t.isNil = false ↔ t ≠ nil := by cases t <;> simp [isNil]

-- the least thing
theorem least_list (t : Tr α) : ∀ d, t.list.head?.getD d = t.least d := by
  induction t with
  | nil => intro d; simp [list, least]
  | node g c l x r ihl ihr =>
    intro d
    have h := ihl x
    simp only [list, least]
    rw [← h]
    cases hl : l.list with
    | nil => simp
    | cons a as => simp

/-- A thing more, in its place. -/
theorem list_put (lt : α → α → Bool) (k : Nat) (x : α) (t : Tr α) : ∀ A B, t.list = A ++ B → (∀ a ∈ A, lt x a = false) → (∀ b ∈ B, lt x b = true) → (put lt k x t).list = A ++ x :: B := by
  induction t with
  | nil => intro A B h _ _; simp [list] at h; obtain ⟨rfl, rfl⟩ := h; simp [put, list]
  | node g c l y r ihl ihr =>
    intro A B h hA hB
    simp only [put]
    simp only [list] at h
    split
    · rename_i hlt
      rw [list_balance]
      rcases List.append_eq_append_iff.1 h.symm with ⟨a', h1, h2⟩ | ⟨c', h1, h2⟩
      · simp only [list, ihl A a' h1 hA (fun b hb => hB b (by rw [h2]; simp [hb])), h2]; simp
      · cases c' with
        | nil => simp at h1 h2; subst h1; simp only [list, ihl l.list [] (by simp) hA (by simp)]; simp [← h2]
        | cons d ds =>
          exfalso
          simp only [List.cons_append, List.cons.injEq] at h2
          have := hA d (by rw [h1]; simp)
          rw [← h2.1, hlt] at this
          exact absurd this (by simp)
    · rename_i hlt
      rw [list_balance]
      rcases List.append_eq_append_iff.1 h.symm with ⟨a', h1, h2⟩ | ⟨c', h1, h2⟩
      · exact absurd (hB y (by rw [h2]; simp)) hlt
      · cases c' with
        | nil => simp at h2; exact absurd (hB y (by rw [← h2]; simp)) hlt
        | cons d ds =>
          simp only [List.cons_append, List.cons.injEq] at h2
          simp only [list, ihr ds B h2.2 (fun a ha => hA a (by rw [h1]; simp [ha])) hB, h1, h2.1]; simp

-- all ways down have as many black ones
def V : Tr α → Nat → Prop
  | nil, h => h = 0
  | node _ true l _ r, h => V l h ∧ V r h ∧ l.red = false ∧ r.red = false
  | node _ false l _ r, h => ∃ k, h = k + 1 ∧ V l k ∧ V r k ∧ r.red = false

theorem V.least_size {t : Tr α} : ∀ {h : Nat}, V t h → 2 ^ h ≤ t.size + 1 := by
  induction t with
  | nil => intro h hv; simp [V] at hv; subst hv; simp
  | node g c l x r ihl ihr =>
    intro h hv
    cases c with
    | true => have a := ihl hv.1; simp only [size]; omega
    | false => obtain ⟨k, rfl, h1, h2, _⟩ := hv; have a := ihl h1; have b := ihr h2; simp only [size, Nat.pow_succ]; omega
theorem V.flat {t : Tr α} : ∀ {h : Nat}, V t h → t.depth ≤ 2 * h + (if t.red then 1 else 0) := by
  induction t with
  | nil => intro h hv; simp [depth]
  | node g c l x r ihl ihr =>
    intro h hv
    cases c with
    | true =>
      obtain ⟨h1, h2, h3, h4⟩ := hv
      have a := ihl h1; have b := ihr h2
      simp [h3, h4] at a b; simp [depth, red]; omega
    | false =>
      obtain ⟨k, rfl, h1, h2, h3⟩ := hv
      have a := ihl h1; have b := ihr h2
      simp [h3] at b; simp [depth, red]; split at a <;> omega
/-- A tree with a black root is no deeper than it may be. -/
theorem V.deep {t : Tr α} {h : Nat} (hv : V t h) (hr : t.red = false) : 2 ^ ((t.depth + 1) / 2) ≤ t.size + 1 := by
  have a := hv.flat
  simp [hr] at a
  have b : 2 ^ ((t.depth + 1) / 2) ≤ 2 ^ h := Nat.pow_le_pow_right (by omega) (by omega)
  exact Nat.le_trans b hv.least_size

theorem V.nil_of {t : Tr α} (h : V t 0) (hr : t.red = false) : t = nil := by
  cases t with
  | nil => rfl
  | node g c l x r => cases c with
    | true => simp [red] at hr
    | false => obtain ⟨k, hk, _⟩ := h; omega
theorem V.node_of {t : Tr α} {h : Nat} (hv : V t (h + 1)) : t ≠ nil := by intro e; subst e; simp [V] at hv
/-- The colour of a root that is red is turned. -/
theorem V.black {t : Tr α} {h : Nat} (hv : V t h) : ∃ k, V (t.paint false) k := by
  cases t with
  | nil => exact ⟨0, rfl⟩
  | node g c l x r => cases c with
    | true => exact ⟨h + 1, h, rfl, hv.1, hv.2.1, hv.2.2.2⟩
    | false => exact ⟨h, hv⟩

theorem bal_black {l r : Tr α} {h : Nat} (hl : V l h) (hr : V r h) (g : Nat) (x : α) :
    V (balance (node g false l x r)) (h + 1) ∧ (l.red = false ∨ r.red = false → (balance (node g false l x r)).red = false) := by
  rcases l with _ | ⟨g1, c1, l1, x1, r1⟩ <;> rcases r with _ | ⟨g2, c2, l2, x2, r2⟩ <;> (try cases c1) <;> (try cases c2) <;>
    simp_all [balance, bal1, bal2, bal3, V, red, left, right, turnLeft, turnRight, flip, neg]

end Tr
end Go.Proofs.Ytcnmobehamgmbaa

/- Texts of DtreePlays's proof, together. -/
namespace Go.Proofs.YtbcepkfdlaioaaaGreat

section
inductive Tr (α : Type) where
 | nil
 | node (g : Nat) (c : Bool) (l : Tr α) (x : α) (r : Tr α)
namespace Tr
variable {α : Type}
def red : Tr α → Bool
 | nil => false
 | node _ c _ _ _ => c
def left : Tr α → Tr α
 | nil => nil
 | node _ _ l _ _ => l
def right : Tr α → Tr α
 | nil => nil
 | node _ _ _ _ r => r
def lend : Tr α → Bool
 | nil => false
 | node _ c l _ _ => c || l.red
def paint (c : Bool) : Tr α → Tr α
 | nil => nil
 | node g _ l x r => node g c l x r
def neg : Tr α → Tr α
 | nil => nil
 | node g c l x r => node g (!c) l x r
def flip : Tr α → Tr α
 | nil => nil
 | node g c l x r => node g (!c) l.neg x r.neg
def turnLeft : Tr α → Tr α
 | node g c a x (node h _ b y e) => node h c (node g true a x b) y e
 | t => t
def turnRight : Tr α → Tr α
 | node g c (node h _ a y b) x e => node h c a y (node g true b x e)
 | t => t
def bal1 (t : Tr α) : Tr α := if t.right.red && !t.left.red then t.turnLeft else t
def bal2 (t : Tr α) : Tr α := if t.left.red && t.left.left.red then t.turnRight else t
def bal3 (t : Tr α) : Tr α := if t.left.red && t.right.red then t.flip else t
def balance (t : Tr α) : Tr α := t.bal1.bal2.bal3
def setLeft : Tr α → Tr α → Tr α
 | nil, _ => nil
 | node g c _ x r, l => node g c l x r
def setRight : Tr α → Tr α → Tr α
 | nil, _ => nil
 | node g c l x _, r => node g c l x r
def isNil : Tr α → Bool
 | nil => true
 | node _ _ _ _ _ => false
def list : Tr α → List α
 | nil => []
 | node _ _ l x r => l.list ++ x :: r.list
def blocks : Tr α → List Nat
 | nil => []
 | node g _ l _ r => g :: (l.blocks ++ r.blocks)
def size : Tr α → Nat
 | nil => 0
 | node _ _ l _ r => l.size + 1 + r.size
def depth : Tr α → Nat
 | nil => 0
 | node _ _ l _ r => 1 + max l.depth r.depth
def least : Tr α → α → α
 | nil, d => d
 | node _ _ l x _, _ => l.least x
def thing : Tr α → α → α
 | nil, d => d
 | node _ _ _ x _, _ => x
def put (lt : α → α → Bool) (k : Nat) (x : α) : Tr α → Tr α
 | nil => balance (node k true nil x nil)
 | node g c l y r => if lt x y then balance (node g c (put lt k x l) y r) else balance (node g c l y (put lt k x r))
def lendLeft2 (t : Tr α) : Tr α := if t.right.left.red then (t.setRight t.right.turnRight).turnLeft.flip else t
def lendLeft (t : Tr α) : Tr α := if t.left.lend then t else t.flip.lendLeft2
def lendRight2 (t : Tr α) : Tr α := if t.left.left.red then t.turnRight.flip else t
def lendRight (t : Tr α) : Tr α := if t.right.lend then t else t.flip.lendRight2
def remL : Nat → Tr α → Tr α
 | 0, t => t
 | n + 1, t => if t.left.isNil then nil else balance (t.lendLeft.setLeft (remL n t.lendLeft.left))
def up1 (t : Tr α) : Tr α := if t.left.red then t.turnRight else t
def setThing : Tr α → α → Tr α
 | nil, _ => nil
 | node g c l _ r, x => node g c l x r
def rem (lt : α → α → Bool) : Nat → α → Tr α → Tr α
 | 0, _, t => t
 | _ + 1, _, nil => nil
 | n + 1, x, node g c l y r =>
  if lt x y then balance ((node g c l y r).lendLeft.setLeft (rem lt n x (node g c l y r).lendLeft.left))
  else if (node g c l y r).up1.right.isNil then nil
  else if lt ((node g c l y r).up1.lendRight.thing x) x then balance ((node g c l y r).up1.lendRight.setRight (rem lt n x (node g c l y r).up1.lendRight.right))
  else balance (((node g c l y r).up1.lendRight.setRight (remL n (node g c l y r).up1.lendRight.right)).setThing ((node g c l y r).up1.lendRight.right.least ((node g c l y r).up1.lendRight.thing x)))
-- what is in it, in order
@[simp] theorem list_paint (c : Bool) (t : Tr α) : (t.paint c).list = t.list := by cases t <;> rfl
@[simp] theorem list_neg (t : Tr α) : t.neg.list = t.list := by cases t <;> rfl
@[simp] theorem list_flip (t : Tr α) : t.flip.list = t.list := by cases t <;> simp [flip, list]
@[simp] theorem list_turnLeft (t : Tr α) : t.turnLeft.list = t.list := by unfold turnLeft; split <;> simp [list]
@[simp] theorem list_turnRight (t : Tr α) : t.turnRight.list = t.list := by unfold turnRight; split <;> simp [list]
@[simp] theorem list_balance (t : Tr α) : t.balance.list = t.list := by
 unfold balance bal3 bal2 bal1; (repeat' split) <;> simp
@[simp] theorem list_setRight_turn (t : Tr α) : (t.setRight t.right.turnRight).list = t.list := by cases t <;> simp [setRight, right, list]
@[simp] theorem list_lendLeft (t : Tr α) : t.lendLeft.list = t.list := by unfold lendLeft lendLeft2; (repeat' split) <;> simp
@[simp] theorem list_lendRight (t : Tr α) : t.lendRight.list = t.list := by unfold lendRight lendRight2; (repeat' split) <;> simp
@[simp] theorem list_up1 (t : Tr α) : t.up1.list = t.list := by unfold up1; split <;> simp
theorem size_eq (t : Tr α) : t.size = t.list.length := by
 induction t with
 | nil => rfl
 | node g c l x r ihl ihr => simp [size, list, ihl, ihr]; omega
theorem blocks_length (t : Tr α) : t.blocks.length = t.list.length := by
 induction t with
 | nil => rfl
 | node g c l x r ihl ihr => simp [blocks, list, ihl, ihr]; omega
theorem size_left_lt (t : Tr α) (h : t ≠ nil) : t.left.size < t.size := by
 cases t with
 | nil => exact absurd rfl h
 | node g c l x r => simp only [left, size]; omega
theorem size_right_lt (t : Tr α) (h : t ≠ nil) : t.right.size < t.size := by
 cases t with
 | nil => exact absurd rfl h
 | node g c l x r => simp only [right, size]; omega
theorem size_of_list {t u : Tr α} (h : t.list = u.list) : t.size = u.size := by rw [size_eq, size_eq, h]
theorem ne_nil_of_list {t u : Tr α} (h : t.list = u.list) (hu : u ≠ nil) : t ≠ nil := by
 intro e; subst e; cases u <;> simp_all [list]
theorem isNil_iff (t : Tr α) : t.isNil = true ↔ t = nil := by cases t <;> simp [isNil]
theorem isNil_no (t : Tr α) : t.isNil = false ↔ t ≠ nil := by cases t <;> simp [isNil]
-- the least thing
theorem least_list (t : Tr α) : ∀ d, t.list.head?.getD d = t.least d := by
 induction t with
 | nil => intro d; simp [list, least]
 | node g c l x r ihl ihr =>
  intro d
  have h := ihl x
  simp only [list, least]
  rw [← h]
  cases hl : l.list with
  | nil => simp
  | cons a as => simp
theorem list_put (lt : α → α → Bool) (k : Nat) (x : α) (t : Tr α) : ∀ A B, t.list = A ++ B → (∀ a ∈ A, lt x a = false) → (∀ b ∈ B, lt x b = true) → (put lt k x t).list = A ++ x :: B := by
 induction t with
 | nil => intro A B h _ _; simp [list] at h; obtain ⟨rfl, rfl⟩ := h; simp [put, list]
 | node g c l y r ihl ihr =>
  intro A B h hA hB
  simp only [put]
  simp only [list] at h
  split
  ·rename_i hlt
   rw [list_balance]
   rcases List.append_eq_append_iff.1 h.symm with ⟨a', h1, h2⟩ | ⟨c', h1, h2⟩
   ·simp only [list, ihl A a' h1 hA (fun b hb => hB b (by rw [h2]; simp [hb])), h2]; simp
   ·cases c' with
    | nil => simp at h1 h2; subst h1; simp only [list, ihl l.list [] (by simp) hA (by simp)]; simp [← h2]
    | cons d ds =>
     exfalso
     simp only [List.cons_append, List.cons.injEq] at h2
     have := hA d (by rw [h1]; simp)
     rw [← h2.1, hlt] at this
     exact absurd this (by simp)
  ·rename_i hlt
   rw [list_balance]
   rcases List.append_eq_append_iff.1 h.symm with ⟨a', h1, h2⟩ | ⟨c', h1, h2⟩
   ·exact absurd (hB y (by rw [h2]; simp)) hlt
   ·cases c' with
    | nil => simp at h2; exact absurd (hB y (by rw [← h2]; simp)) hlt
    | cons d ds =>
     simp only [List.cons_append, List.cons.injEq] at h2
     simp only [list, ihr ds B h2.2 (fun a ha => hA a (by rw [h1]; simp [ha])) hB, h1, h2.1]; simp
-- all ways down have as many black ones
def V : Tr α → Nat → Prop
 | nil, h => h = 0
 | node _ true l _ r, h => V l h ∧ V r h ∧ l.red = false ∧ r.red = false
 | node _ false l _ r, h => ∃ k, h = k + 1 ∧ V l k ∧ V r k ∧ r.red = false
theorem V.nil_of {t : Tr α} (h : V t 0) (hr : t.red = false) : t = nil := by
 cases t with
 | nil => rfl
 | node g c l x r => cases c with
  | true => simp [red] at hr
  | false => obtain ⟨k, hk, _⟩ := h; omega
theorem V.black {t : Tr α} {h : Nat} (hv : V t h) : ∃ k, V (t.paint false) k := by
 cases t with
 | nil => exact ⟨0, rfl⟩
 | node g c l x r => cases c with
  | true => exact ⟨h + 1, h, rfl, hv.1, hv.2.1, hv.2.2.2⟩
  | false => exact ⟨h, hv⟩
theorem bal_black {l r : Tr α} {h : Nat} (hl : V l h) (hr : V r h) (g : Nat) (x : α) :
  V (balance (node g false l x r)) (h + 1) ∧ (l.red = false ∨ r.red = false → (balance (node g false l x r)).red = false) := by
 rcases l with _ | ⟨g1, c1, l1, x1, r1⟩ <;> rcases r with _ | ⟨g2, c2, l2, x2, r2⟩ <;> (try cases c1) <;> (try cases c2) <;>
  simp_all [balance, bal1, bal2, bal3, V, red, left, right, turnLeft, turnRight, flip, neg]
end Tr
end


section
namespace Tr
variable {α : Type}
theorem V.put (lt : α → α → Bool) (k : Nat) (x : α) (t : Tr α) : ∀ {h : Nat}, V t h →
  (t.red = false → V (put lt k x t) h) ∧ (t.red = true → (Tr.put lt k x t).red = true ∧ V (Tr.put lt k x t).left h ∧ V (Tr.put lt k x t).right h ∧ (Tr.put lt k x t).right.red = false) := by
 induction t with
 | nil => intro h hv; simp [V] at hv; subst hv; simp [Tr.put, balance, bal1, bal2, bal3, red, left, right, V]
 | node g c l y r ihl ihr =>
  intro h hv
  cases c with
  | true =>
   obtain ⟨h1, h2, h3, h4⟩ := hv
   refine ⟨fun e => by simp [red] at e, fun _ => ?_⟩
   simp only [Tr.put]
   split
   ·have a := (ihl h1).1 h3
    generalize Tr.put lt k x l = l' at a
    rcases l' with _ | ⟨g1, c1, l1, x1, r1⟩ <;> rcases r with _ | ⟨g2, c2, l2, x2, r2⟩ <;> (try cases c1) <;> (try cases c2) <;>
     simp_all [balance, bal1, bal2, bal3, V, red, left, right, turnLeft, turnRight, flip, neg]
   ·have a := (ihr h2).1 h4
    generalize Tr.put lt k x r = r' at a
    rcases l with _ | ⟨g1, c1, l1, x1, r1⟩ <;> rcases r' with _ | ⟨g2, c2, l2, x2, r2⟩ <;> (try cases c1) <;> (try cases c2) <;>
     simp_all [balance, bal1, bal2, bal3, V, red, left, right, turnLeft, turnRight, flip, neg]
  | false =>
   obtain ⟨k', rfl, h1, h2, h3⟩ := hv
   refine ⟨fun _ => ?_, fun e => by simp [red] at e⟩
   simp only [Tr.put]
   split
   ·cases hl : l.red with
    | false => exact (bal_black ((ihl h1).1 hl) h2 g y).1
    | true =>
     have a := (ihl h1).2 hl
     generalize Tr.put lt k x l = l' at a
     obtain ⟨a1, a2, a3, a4⟩ := a
     rcases l' with _ | ⟨g1, c1, l1, x1, r1⟩
     ·simp [red] at a1
     ·rcases r with _ | ⟨g2, c2, l2, x2, r2⟩ <;> rcases l1 with _ | ⟨g3, c3, l3, x3, r3⟩ <;> (try cases c1) <;> (try cases c2) <;> (try cases c3) <;>
       simp_all [balance, bal1, bal2, bal3, V, red, left, right, turnLeft, turnRight, flip, neg]
   ·exact (bal_black h1 ((ihr h2).1 h3) g y).1
theorem part_left {lt : α → α → Bool} {x m z : α} {A B L R : List α} (h : A ++ m :: B = L ++ z :: R) (hA : ∀ a ∈ A, lt x a = false) (hm : lt x m = false) (hz : lt x z = true) :
  ∃ B', L = A ++ m :: B' ∧ B = B' ++ z :: R := by
 rcases List.append_eq_append_iff.1 h with ⟨a', h1, h2⟩ | ⟨c', h1, h2⟩
 ·cases a' with
  | nil => simp at h2; rw [← h2.1, hm] at hz; exact absurd hz (by simp)
  | cons d ds => simp at h2; exact ⟨ds, by rw [h1, ← h2.1], h2.2⟩
 ·cases c' with
  | nil => simp at h2; rw [h2.1, hm] at hz; exact absurd hz (by simp)
  | cons d ds =>
   simp at h2
   have := hA z (by rw [h1, ← h2.1]; simp)
   rw [this] at hz; exact absurd hz (by simp)
theorem part_right {lt : α → α → Bool} {x m z : α} {A B L R : List α} (h : A ++ m :: B = L ++ z :: R) (hB : ∀ b ∈ B, lt b x = false) (hm : lt m x = false) (hz : lt z x = true) :
  ∃ A', R = A' ++ m :: B ∧ A = L ++ z :: A' := by
 rcases List.append_eq_append_iff.1 h with ⟨a', h1, h2⟩ | ⟨c', h1, h2⟩
 ·cases a' with
  | nil => simp at h2; rw [← h2.1, hm] at hz; exact absurd hz (by simp)
  | cons d ds =>
   simp at h2
   have := hB z (by rw [h2.2]; simp)
   rw [this] at hz; exact absurd hz (by simp)
 ·cases c' with
  | nil => simp at h2; rw [h2.1, hm] at hz; exact absurd hz (by simp)
  | cons d ds => simp at h2; exact ⟨ds, h2.2, by rw [h1, ← h2.1]⟩
theorem part_here {lt : α → α → Bool} {x m z : α} {A B L R : List α} (h : A ++ m :: B = L ++ z :: R) (hA : ∀ a ∈ A, lt a x = true) (hB : ∀ b ∈ B, lt x b = true) (hz : lt x z = false) (hz' : lt z x = false) : L = A ∧ R = B ∧ z = m := by
 rcases List.append_eq_append_iff.1 h with ⟨a', h1, h2⟩ | ⟨c', h1, h2⟩
 ·cases a' with
  | nil => simp at h1 h2; exact ⟨h1, h2.2.symm, h2.1.symm⟩
  | cons d ds =>
   simp at h2
   have := hB z (by rw [h2.2]; simp)
   rw [this] at hz; exact absurd hz (by simp)
 ·cases c' with
  | nil => simp at h1 h2; exact ⟨h1.symm, h2.2, h2.1⟩
  | cons d ds =>
   simp at h2
   have := hA z (by rw [h1, ← h2.1]; simp)
   rw [this] at hz'; exact absurd hz' (by simp)
structure Has (lt : α → α → Bool) (x : α) (A : List α) (m : α) (B : List α) : Prop where
 low : ∀ a ∈ A, lt a x = true ∧ lt x a = false
 high : ∀ b ∈ B, lt x b = true ∧ lt b x = false
 mid : lt x m = false ∧ lt m x = false
def Aft (u u' : Tr α) : Prop := ∀ h, V u h → V u' h ∧ (u.red = false → u'.red = false)
def PD (u : Tr α) (h : Nat) : Prop := u ≠ nil ∧ u.red = false ∧ V u.left h ∧ V u.right h ∧ u.left.red = false ∧ u.right.red = true
def AftD (u u' : Tr α) : Prop := ∀ h, PD u h → V u' (h + 1) ∧ u'.red = false
def PA (u : Tr α) (h : Nat) : Prop := u ≠ nil ∧ V u.left h ∧ V u.right h ∧ u.left.red = false ∧ u.right.red = false
-- a left part that can lend
theorem lendL {g : Nat} {c : Bool} {l r : Tr α} {x : α} {h : Nat} (hl : V l h) (hr : V r h) (hn : l ≠ nil) (hrr : r.red = false) :
  (l.lend = true ∧ (node g c l x r).lendLeft = node g c l x r) ∨
  (l.lend = false ∧ r.left.red = false ∧ ∃ k, h = k + 1 ∧ (node g c l x r).lendLeft = node g (!c) l.neg x r.neg ∧ V l.neg k ∧ V r.neg k ∧ l.neg.red = true ∧ r.neg.red = true ∧ l.neg.left.red = false ∧ r ≠ nil) ∨
  (l.lend = false ∧ r.left.red = true ∧ ∃ k, h = k + 1 ∧ ∃ g2 g3 a z b y e, r = node g2 false (node g3 true a z b) y e ∧ (node g c l x r).lendLeft = node g3 c (node g false l.neg x a) z (node g2 false b y e) ∧ V (node g false l.neg x a) h ∧ V (node g2 false b y e) h ∧ l.neg.red = true ∧ r ≠ nil) := by
 rcases l with _ | ⟨g1, c1, l1, x1, r1⟩
 ·exact absurd rfl hn
 ·cases hle : (node g1 c1 l1 x1 r1).lend with
  | true => exact Or.inl ⟨rfl, by simp [lendLeft, left, hle]⟩
  | false =>
   refine Or.inr ?_
   cases c1 with
   | true => simp [lend] at hle
   | false =>
    obtain ⟨k, rfl, h1, h2, h3⟩ := hl
    have h4 : l1.red = false := by simpa [lend] using hle
    rcases r with _ | ⟨g2, c2, l2, x2, r2⟩
    ·simp [V] at hr
    ·cases c2 with
     | true => simp [red] at hrr
     | false =>
      obtain ⟨k', hk, q1, q2, q3⟩ := hr
      obtain rfl : k = k' := by omega
      rcases l2 with _ | ⟨g3, c3, a, z, b⟩
      ·refine Or.inl ⟨rfl, rfl, k, rfl, ?_, ?_⟩
       ·simp [lendLeft, lendLeft2, left, right, hle, flip, neg, red]
       ·simp_all [neg, V, red, left]
      ·cases c3 with
       | false =>
        refine Or.inl ⟨rfl, rfl, k, rfl, ?_, ?_⟩
        ·simp [lendLeft, lendLeft2, left, right, hle, flip, neg, red]
        ·simp_all [neg, V, red, left]
       | true =>
        refine Or.inr ⟨rfl, rfl, k, rfl, g2, g3, a, z, b, x2, r2, rfl, ?_, ?_⟩
        ·simp [lendLeft, lendLeft2, left, right, hle, flip, neg, red, turnLeft, turnRight, setRight]
        ·simp_all [neg, V, red, left]
end Tr
end


section
namespace Tr
variable {α : Type}
theorem red_node {g : Nat} {c : Bool} {l r : Tr α} {x : α} : (node g c l x r).red = c := rfl
theorem left_node {g : Nat} {c : Bool} {l r : Tr α} {x : α} : (node g c l x r).left = l := rfl
theorem right_node {g : Nat} {c : Bool} {l r : Tr α} {x : α} : (node g c l x r).right = r := rfl
theorem bal_same {g : Nat} {c : Bool} {l r : Tr α} {x : α} (hl : l.red = false) (hr : r.red = false) : balance (node g c l x r) = node g c l x r := by
 simp [balance, bal1, bal2, bal3, left, right, hl, hr]
theorem lend_red {t : Tr α} (h : t.red = true) : t.lend = true := by cases t <;> simp_all [red, lend]
-- a right part that can lend
theorem lendR {g : Nat} {c : Bool} {l r : Tr α} {x : α} {h : Nat} (hl : V l h) (hr : V r h) (hn : r ≠ nil) (hll : l.red = false) (hrr : r.red = false) :
  (r.lend = true ∧ (node g c l x r).lendRight = node g c l x r) ∨
  (r.lend = false ∧ l.left.red = false ∧ ∃ k, h = k + 1 ∧ (node g c l x r).lendRight = node g (!c) l.neg x r.neg ∧ V l.neg k ∧ V r.neg k ∧ l.neg.red = true ∧ r.neg.red = true ∧ l.neg.left.red = false ∧ l ≠ nil) ∨
  (r.lend = false ∧ l.left.red = true ∧ ∃ k, h = k + 1 ∧ ∃ g2 a y b, l = node g2 false a y b ∧ (node g c l x r).lendRight = node g2 c a.neg y (node g false b x r.neg) ∧ V a.neg h ∧ a.neg.red = false ∧ PD (node g false b x r.neg) k ∧ l ≠ nil) := by
 rcases r with _ | ⟨g1, c1, l1, x1, r1⟩
 ·exact absurd rfl hn
 ·cases hle : (node g1 c1 l1 x1 r1).lend with
  | true => exact Or.inl ⟨rfl, by simp [lendRight, right, hle]⟩
  | false =>
   refine Or.inr ?_
   cases c1 with
   | true => simp [lend] at hle
   | false =>
    obtain ⟨k, rfl, h1, h2, h3⟩ := hr
    have h4 : l1.red = false := by simpa [lend] using hle
    rcases l with _ | ⟨g2, c2, l2, x2, r2⟩
    ·simp [V] at hl
    ·cases c2 with
     | true => simp [red] at hll
     | false =>
      obtain ⟨k', hk, q1, q2, q3⟩ := hl
      obtain rfl : k = k' := by omega
      cases hr2 : l2.red with
      | false =>
       refine Or.inl ⟨rfl, hr2, k, rfl, ?_, ?_⟩
       ·simp [lendRight, lendRight2, left, right, hle, flip, neg, hr2]
       ·simp_all [neg, V, red, left]
      | true =>
       rcases l2 with _ | ⟨g3, c3, a, z, b⟩
       ·simp [red] at hr2
       ·simp [red] at hr2
        subst hr2
        refine Or.inr ⟨rfl, rfl, k, rfl, g2, _, x2, r2, rfl, ?_, ?_⟩
        ·simp [lendRight, lendRight2, left, right, hle, flip, neg, red, turnRight]
        ·simp_all [neg, V, red, left, right, PD]
theorem left_pre {g : Nat} {c : Bool} {l r : Tr α} {x : α} {h : Nat} (hl : V l h) (hr : V r h) (hn : l ≠ nil) (hrr : r.red = false) :
  ∃ k, V (node g c l x r).lendLeft.left k ∧ (node g c l x r).lendLeft.left.lend = true := by
 rcases lendL (g := g) (c := c) (x := x) hl hr hn hrr with ⟨a, b⟩ | ⟨a, b, k, e, d, f, f2, f3, _⟩ | ⟨a, b, k, e, g2, g3, a', z, b', y, e', er, f, f2, f3, f4, f5⟩
 ·rw [b]; exact ⟨h, hl, a⟩
 ·rw [d]; exact ⟨k, f, lend_red f3⟩
 ·rw [f]; exact ⟨h, f2, by simp [left, lend, f4]⟩
theorem left_after {g : Nat} {c : Bool} {l r L : Tr α} {x : α} {h : Nat} (hv : V (node g c l x r) h) (hle : (node g c l x r).lend = true) (hn : l ≠ nil) (ha : Aft (node g c l x r).lendLeft.left L) :
  V (balance ((node g c l x r).lendLeft.setLeft L)) h ∧ (c = false → (balance ((node g c l x r).lendLeft.setLeft L)).red = false) := by
 cases c with
 | true =>
  obtain ⟨hl, hr, h3, h4⟩ := hv
  refine ⟨?_, fun e => by simp at e⟩
  rcases lendL (g := g) (c := true) (x := x) hl hr hn h4 with ⟨a, b⟩ | ⟨a, b, k, rfl, d, f, f2, f3, f4, f6, f5⟩ | ⟨a, b, k, rfl, g2, g3, a', z, b', y, e', er, f, f2, f3, f4, f5⟩
  ·rw [b] at ha ⊢
   obtain ⟨v, w⟩ := ha h hl
   simp only [setLeft]
   rw [bal_same (w h3) h4]
   exact ⟨v, hr, w h3, h4⟩
  ·rw [d] at ha ⊢
   obtain ⟨v, w⟩ := ha k f
   exact (bal_black v f2 g x).1
  ·rw [f] at ha ⊢
   obtain ⟨v, w⟩ := ha _ f2
   have w := w rfl
   simp only [setLeft]
   rw [bal_same w rfl]
   exact ⟨v, f3, w, rfl⟩
 | false =>
  obtain ⟨k, rfl, hl, hr, h3⟩ := hv
  have h4 : l.red = true := by simpa [lend] using hle
  have e : (node g false l x r).lendLeft = node g false l x r := by simp [lendLeft, left, lend_red h4]
  rw [e] at ha ⊢
  obtain ⟨v, w⟩ := ha _ hl
  exact ⟨(bal_black v hr g x).1, fun _ => (bal_black v hr g x).2 (Or.inr h3)⟩
theorem left_afterA {g : Nat} {c : Bool} {l r L : Tr α} {x : α} {h : Nat} (hl : V l h) (hr : V r h) (h3 : l.red = false) (h4 : r.red = false) (hn : l ≠ nil) (ha : Aft (node g c l x r).lendLeft.left L) :
  ∃ k, V (balance ((node g c l x r).lendLeft.setLeft L)).left k ∧ V (balance ((node g c l x r).lendLeft.setLeft L)).right k ∧ (balance ((node g c l x r).lendLeft.setLeft L)).right.red = false := by
 rcases lendL (g := g) (c := c) (x := x) hl hr hn h4 with ⟨a, b⟩ | ⟨a, b, k, rfl, d, f, f2, f3, f4, f6, f5⟩ | ⟨a, b, k, rfl, g2, g3, a', z, b', y, e', er, f, f2, f3, f4, f5⟩
 ·rw [b] at ha ⊢
  obtain ⟨v, w⟩ := ha h hl
  simp only [setLeft]
  rw [bal_same (w h3) h4]
  exact ⟨h, v, hr, h4⟩
 ·rw [d] at ha ⊢
  obtain ⟨v, w⟩ := ha k f
  rcases r with _ | ⟨g2, c2, l2, x2, r2⟩
  ·exact absurd rfl f5
  ·simp only [neg, red_node] at f2 f4 ⊢
   simp at f4
   subst f4
   obtain ⟨u1, u2, u3, u4⟩ := f2
   cases hL : L.red with
   | false => exact ⟨k, by simp [balance, bal1, bal2, bal3, V, red_node, left_node, right_node, turnLeft, hL, setLeft, u3, u4, v, u1, u2]⟩
   | true =>
    rcases L with _ | ⟨g1, c1, l1, x1, r1⟩
    ·simp [red] at hL
    ·simp [red] at hL
     subst hL
     obtain ⟨v1, v2, v3, v4⟩ := v
     exact ⟨k + 1, by simp [balance, bal1, bal2, bal3, V, red_node, left_node, right_node, flip, neg, setLeft, v1, v2, v3, v4, u1, u2, u3, u4]⟩
 ·rw [f] at ha ⊢
  obtain ⟨v, w⟩ := ha _ f2
  have w := w rfl
  simp only [setLeft]
  rw [bal_same w rfl]
  exact ⟨_, v, f3, rfl⟩
theorem right_after {g : Nat} {l r R : Tr α} {x : α} (z : α) {h : Nat} (hv : V (node g true l x r) h) (hn : r ≠ nil) (ha : Aft (node g true l x r).lendRight.right R) (hd : AftD (node g true l x r).lendRight.right R) :
  V (balance ((node g true l x r).lendRight.setRight R |>.setThing z)) h := by
 obtain ⟨hl, hr, h3, h4⟩ := hv
 rcases lendR (g := g) (c := true) (x := x) hl hr hn h3 h4 with ⟨a, b⟩ | ⟨a, b, k, rfl, d, f, f2, f3, f4, f5, f6⟩ | ⟨a, b, k, rfl, g2, a', y, b', er, f, f2, f3, f4, f5⟩
 ·rw [b] at ha ⊢
  obtain ⟨v, w⟩ := ha h hr
  simp only [setRight, setThing]
  rw [bal_same h3 (w h4)]
  exact ⟨hl, v, h3, w h4⟩
 ·rw [d] at ha ⊢
  obtain ⟨v, w⟩ := ha k f2
  exact (bal_black f v g z).1
 ·rw [f] at hd ⊢
  obtain ⟨v, w⟩ := hd k f4
  simp only [setRight, setThing]
  rw [bal_same f3 w]
  exact ⟨f2, v, f3, w⟩
theorem right_afterA {g : Nat} {c : Bool} {l r R : Tr α} {x : α} (z : α) {h : Nat} (hl : V l h) (hr : V r h) (h3 : l.red = false) (h4 : r.red = false) (hn : r ≠ nil) (ha : Aft (node g c l x r).lendRight.right R) (hd : AftD (node g c l x r).lendRight.right R) :
  ∃ k, V (balance ((node g c l x r).lendRight.setRight R |>.setThing z)).left k ∧ V (balance ((node g c l x r).lendRight.setRight R |>.setThing z)).right k ∧ (balance ((node g c l x r).lendRight.setRight R |>.setThing z)).right.red = false := by
 rcases lendR (g := g) (c := c) (x := x) hl hr hn h3 h4 with ⟨a, b⟩ | ⟨a, b, k, rfl, d, f, f2, f3, f4, f5, f6⟩ | ⟨a, b, k, rfl, g2, a', y, b', er, f, f2, f3, f4, f5⟩
 ·rw [b] at ha ⊢
  obtain ⟨v, w⟩ := ha h hr
  simp only [setRight, setThing]
  rw [bal_same h3 (w h4)]
  exact ⟨h, hl, v, w h4⟩
 ·rw [d] at ha ⊢
  obtain ⟨v, w⟩ := ha k f2
  rcases l with _ | ⟨g2, c2, l2, x2, r2⟩
  ·exact absurd rfl f6
  ·simp only [neg, red_node] at f f3 f5 ⊢
   simp at f3
   subst f3
   obtain ⟨u1, u2, u3, u4⟩ := f
   cases hL : R.red with
   | false => exact ⟨k, by simp [balance, bal1, bal2, bal3, V, red_node, left_node, right_node, hL, setRight, setThing, u3, u4, v, u1, u2]⟩
   | true =>
    rcases R with _ | ⟨g1, c1, l1, x1, r1⟩
    ·simp [red] at hL
    ·simp [red] at hL
     subst hL
     obtain ⟨v1, v2, v3, v4⟩ := v
     exact ⟨k + 1, by simp [balance, bal1, bal2, bal3, V, red_node, left_node, right_node, flip, neg, setRight, setThing, v1, v2, v3, v4, u1, u2, u3, u4]⟩
 ·rw [f] at hd ⊢
  obtain ⟨v, w⟩ := hd k f4
  simp only [setRight, setThing]
  rw [bal_same f3 w]
  exact ⟨_, f2, v, w⟩
theorem up1_black {g : Nat} {l r : Tr α} {x : α} {h : Nat} (hl : V l h) (hr : V r h) (hred : l.red = true) (h4 : r.red = false) :
  ∃ g2 a y b, l = node g2 true a y b ∧ (node g false l x r).up1 = node g2 false a y (node g true b x r) ∧ (node g false l x r).up1.lendRight = node g2 false a y (node g true b x r) ∧ V a h ∧ a.red = false ∧ V (node g true b x r) h := by
 rcases l with _ | ⟨g2, c2, a, y, b⟩
 ·simp [red] at hred
 ·simp [red] at hred
  subst hred
  obtain ⟨v1, v2, v3, v4⟩ := hl
  exact ⟨g2, a, y, b, rfl, by simp [up1, left, red, turnRight], by simp [up1, left, red, turnRight, lendRight, right, lend], v1, v3, v2, hr, v4, h4⟩
theorem up1_same {g : Nat} {c : Bool} {l r : Tr α} {x : α} (h3 : l.red = false) : (node g c l x r).up1 = node g c l x r := by simp [up1, left, h3]
theorem remL_main (n : Nat) : ∀ t : Tr α, t.size ≤ n →
  (∀ h, V t h → t.lend = true → V (remL n t) h ∧ (t.red = false → (remL n t).red = false) ∧ (remL n t).list = t.list.tail) := by
 induction n with
 | zero =>
  intro t hs h hv hle
  cases t with
  | nil => simp [lend] at hle
  | node g c l x r => simp only [size] at hs; omega
 | succ n ih =>
  intro t hs h hv hle
  cases t with
  | nil => simp [lend] at hle
  | node g c l x r =>
   rw [remL, left_node]
   cases hn : l.isNil with
   | true =>
    rw [isNil_iff] at hn
    subst hn
    cases c with
    | true =>
     obtain ⟨h1, h2, h3, h4⟩ := hv
     simp [V] at h1
     subst h1
     have := h2.nil_of h4
     subst this
     simp [V, red, list]
    | false => simp [lend, red] at hle
   | false =>
    rw [isNil_no] at hn
    rw [if_neg (by simp)]
    have hT : (node g c l x r).lendLeft.list = (node g c l x r).list := list_lendLeft _
    have hne := ne_nil_of_list hT (by simp)
    have hsz : (node g c l x r).lendLeft.left.size ≤ n := by
     have := size_left_lt _ hne
     rw [size_of_list hT] at this
     omega
    have hpre : ∃ k, V (node g c l x r).lendLeft.left k ∧ (node g c l x r).lendLeft.left.lend = true := by
     cases c with
     | true => exact left_pre hv.1 hv.2.1 hn hv.2.2.2
     | false => obtain ⟨k, rfl, h1, h2, h3⟩ := hv; exact left_pre h1 h2 hn h3
    obtain ⟨k, p1, p2⟩ := hpre
    obtain ⟨q1, q2, q3⟩ := ih _ hsz k p1 p2
    have haft : Aft (node g c l x r).lendLeft.left (remL n (node g c l x r).lendLeft.left) := fun h' hv' => ⟨(ih _ hsz h' hv' p2).1, q2⟩
    obtain ⟨r1, r2⟩ := left_after hv hle hn haft
    refine ⟨r1, fun e => r2 e, ?_⟩
    rw [list_balance]
    generalize (node g c l x r).lendLeft = T at *
    cases T with
    | nil => exact absurd rfl hne
    | node g' c' l' x' r' =>
     simp only [left] at q3 p2
     simp only [setLeft, list, left, q3] at hT ⊢
     rw [← hT]
     have hne' : l'.list ≠ [] := by
      cases l' with
      | nil => simp [lend] at p2
      | node g2 c2 l2 x2 r2 => simp [list]
     rw [List.tail_append_of_ne_nil hne']
end Tr
end


section
namespace Tr
variable {α : Type}
theorem thing_node {g : Nat} {c : Bool} {l r : Tr α} {x d : α} : (node g c l x r).thing d = x := rfl
def Pre (lt : α → α → Bool) (x : α) (t : Tr α) : Prop :=
 (∃ h, V t h ∧ t.lend = true) ∨ (∃ h, PD t h ∧ lt x (t.thing x) = false) ∨ ∃ h, PA t h
theorem Pre.kids {lt : α → α → Bool} {x y : α} {g : Nat} {c : Bool} {l r : Tr α} (hp : Pre lt x (node g c l y r)) : ∃ h, V l h ∧ V r h ∧
  ((l.red = false ∧ r.red = false) ∨ (c = false ∧ l.red = true ∧ r.red = false) ∨ (c = false ∧ l.red = false ∧ r.red = true ∧ lt x y = false)) := by
 rcases hp with ⟨h, hv, hl⟩ | ⟨h, ⟨p1, p2, p3, p4, p5, p6⟩, hx⟩ | ⟨h, p1, p2, p3, p4, p5⟩
 ·cases c with
  | true => obtain ⟨v1, v2, v3, v4⟩ := hv; exact ⟨h, v1, v2, Or.inl ⟨v3, v4⟩⟩
  | false => obtain ⟨k, rfl, v1, v2, v3⟩ := hv; exact ⟨k, v1, v2, Or.inr (Or.inl ⟨rfl, by simpa [lend] using hl, v3⟩)⟩
 ·exact ⟨h, p3, p4, Or.inr (Or.inr ⟨p2, p5, p6, hx⟩)⟩
 ·exact ⟨h, p2, p3, Or.inl ⟨p4, p5⟩⟩
theorem go_left {lt : α → α → Bool} {x y m : α} {A B : List α} {g : Nat} {c : Bool} {l r : Tr α} (hp : Pre lt x (node g c l y r)) (hh : Has lt x A m B) (hs : (node g c l y r).list = A ++ m :: B) (hlt : lt x y = true) :
  l ≠ nil ∧ (l.lend = false → r ≠ nil) ∧ (∃ k, V (node g c l y r).lendLeft.left k) ∧ (node g c l y r).lendLeft.left.lend = true ∧
  ∃ B', (node g c l y r).lendLeft.left.list = A ++ m :: B' ∧ B = B' ++ (node g c l y r).lendLeft.thing x :: (node g c l y r).lendLeft.right.list := by
 obtain ⟨h, v1, v2, hc⟩ := hp.kids
 obtain ⟨B1, e1, e2⟩ := part_left (z := y) (L := l.list) (R := r.list) hs.symm (fun a ha => (hh.low a ha).2) hh.mid.1 hlt
 have hn : l ≠ nil := by intro e; subst e; simp [list] at e1
 have hr : r.red = false := by
  rcases hc with hc | hc | hc
  ·exact hc.2
  ·exact hc.2.2
  ·rw [hc.2.2.2] at hlt; exact absurd hlt (by simp)
 obtain ⟨k, k1, k2⟩ := left_pre (g := g) (c := c) (x := y) v1 v2 hn hr
 refine ⟨hn, fun hle => ?_, ⟨k, k1⟩, k2, ?_⟩
 ·rcases lendL (g := g) (c := c) (x := y) v1 v2 hn hr with ⟨a, b⟩ | ⟨a, b, k, e, d, f, f2, f3, f4, f5, f6⟩ | ⟨a, b, k, e, g2, g3, a', z, b', y', e', er, f, f2, f3, f4, f5⟩
  ·rw [a] at hle; exact absurd hle (by simp)
  ·exact f6
  ·exact f5
 ·rcases lendL (g := g) (c := c) (x := y) v1 v2 hn hr with ⟨a, b⟩ | ⟨a, b, k, e, d, f, f2, f3, f4, f5, f6⟩ | ⟨a, b, k, e, g2, g3, a', z, b', y', e', er, f, f2, f3, f4, f5⟩
  ·rw [b]; exact ⟨B1, e1, e2⟩
  ·rw [d]; exact ⟨B1, by simp [left, e1], by simp [right, thing, e2]⟩
  ·rw [f]
   refine ⟨B1 ++ y :: a'.list, by simp [left, list, e1], ?_⟩
   subst er
   rw [e2]
   simp [list, right, thing]
theorem go_right {lt : α → α → Bool} {x y m : α} {A B : List α} {g : Nat} {c : Bool} {l r : Tr α} (hp : Pre lt x (node g c l y r)) (hh : Has lt x A m B) (hs : (node g c l y r).list = A ++ m :: B) (hlt : lt x y = false) :
  (((node g c l y r).up1.right = nil ∧ A = [] ∧ B = [] ∧ l = nil ∧ r = nil) ∨
    ((node g c l y r).up1.right ≠ nil ∧ ((node g c l y r).up1.right.lend = false → (node g c l y r).up1.left ≠ nil) ∧ (node g c l y r).up1.lendRight ≠ nil ∧
   (lt ((node g c l y r).up1.lendRight.thing x) x = true → ((∃ k, V (node g c l y r).up1.lendRight.right k ∧ (node g c l y r).up1.lendRight.right.lend = true) ∨ (∃ k, PD (node g c l y r).up1.lendRight.right k ∧ lt x ((node g c l y r).up1.lendRight.right.thing x) = false)) ∧
    ∃ A', (node g c l y r).up1.lendRight.right.list = A' ++ m :: B ∧ A = (node g c l y r).up1.lendRight.left.list ++ (node g c l y r).up1.lendRight.thing x :: A') ∧
   (lt ((node g c l y r).up1.lendRight.thing x) x = false → (∃ k, V (node g c l y r).up1.lendRight.right k ∧ (node g c l y r).up1.lendRight.right.lend = true) ∧
    (node g c l y r).up1.lendRight.left.list = A ∧ (node g c l y r).up1.lendRight.right.list = B))) := by
 obtain ⟨h, v1, v2, hc⟩ := hp.kids
 -- the thing at the top is no greater than x
 have key : ∀ T : Tr α, T ≠ nil → T.list = A ++ m :: B → lt x (T.thing x) = false → lt (T.thing x) x = true → ∃ A', T.right.list = A' ++ m :: B ∧ A = T.left.list ++ T.thing x :: A' := by
  intro T hT e _ h2
  cases T with
  | nil => exact absurd rfl hT
  | node g' c' l' y' r' => exact part_right (z := y') (L := l'.list) (R := r'.list) e.symm (fun b hb => (hh.high b hb).2) hh.mid.2 h2
 have here : ∀ T : Tr α, T ≠ nil → T.list = A ++ m :: B → lt x (T.thing x) = false → lt (T.thing x) x = false → T.left.list = A ∧ T.right.list = B := by
  intro T hT e h1 h2
  cases T with
  | nil => exact absurd rfl hT
  | node g' c' l' y' r' =>
   have := part_here (z := y') (L := l'.list) (R := r'.list) e.symm (fun a ha => (hh.low a ha).1) (fun b hb => (hh.high b hb).1) h1 h2
   exact ⟨this.1, this.2.1⟩
 -- what stands ahead of y is no greater than x
 have low : ∀ z ∈ l.list, lt z x = true ∧ lt x z = false := by
  intro z hz
  have hy : y ∈ A ∨ y = m := by
   have : y ∈ A ++ m :: B := by rw [← hs]; simp [list]
   rcases List.mem_append.1 this with h1 | h1
   ·exact Or.inl h1
   ·rcases List.mem_cons.1 h1 with h2 | h2
    ·exact Or.inr h2
    ·rw [(hh.high y h2).1] at hlt; exact absurd hlt (by simp)
  cases hyx : lt y x with
  | true =>
   obtain ⟨A', _, e⟩ := part_right (z := y) (L := l.list) (R := r.list) hs.symm (fun b hb => (hh.high b hb).2) hh.mid.2 hyx
   exact hh.low z (by rw [e]; simp [hz])
  | false =>
   have := part_here (z := y) (L := l.list) (R := r.list) hs.symm (fun a ha => (hh.low a ha).1) (fun b hb => (hh.high b hb).1) hlt hyx
   exact hh.low z (by rw [← this.1]; exact hz)
 rcases hc with ⟨c1, c2⟩ | ⟨c0, c1, c2⟩ | ⟨c0, c1, c2, c3⟩
 ·rw [up1_same c1]
  cases hr : r.isNil with
  | true =>
   rw [isNil_iff] at hr
   subst hr
   simp [V] at v2
   subst v2
   have := v1.nil_of c1
   subst this
   left
   simp [list] at hs
   have : A = [] ∧ B = [] := by
    cases A with
    | nil => simp at hs; exact ⟨rfl, hs.2⟩
    | cons a as => simp at hs
   exact ⟨rfl, this.1, this.2, rfl, rfl⟩
  | false =>
   rw [isNil_no] at hr
   right
   refine ⟨hr, ?_, ?_⟩
   ·intro hle
    rcases lendR (g := g) (c := c) (x := y) v1 v2 hr c1 c2 with ⟨a, b⟩ | ⟨a, b, k, e, d, f, f2, f3, f4, f5, f6⟩ | ⟨a, b, k, e, g2, a', y', b', er, f, f2, f3, f4, f5⟩
    ·simp only [right_node] at hle; rw [a] at hle; exact absurd hle (by simp)
    ·exact f6
    ·exact f5
   ·have hT : (node g c l y r).lendRight.list = A ++ m :: B := by rw [list_lendRight, hs]
    have hne := ne_nil_of_list (t := (node g c l y r).lendRight) (u := node g c l y r) (list_lendRight _) (by simp)
    refine ⟨hne, ?_⟩
    rcases lendR (g := g) (c := c) (x := y) v1 v2 hr c1 c2 with ⟨a, b⟩ | ⟨a, b, k, e, d, f, f2, f3, f4, f5, f6⟩ | ⟨a, b, k, e, g2, a', y', b', er, f, f2, f3, f4, f5⟩
    ·rw [b] at hT ⊢
     exact ⟨fun hx => ⟨Or.inl ⟨h, v2, a⟩, key _ (by simp) hT hlt hx⟩, fun hx => ⟨⟨h, v2, a⟩, here _ (by simp) hT hlt hx⟩⟩
    ·rw [d] at hT ⊢
     exact ⟨fun hx => ⟨Or.inl ⟨k, f2, lend_red f4⟩, key _ (by simp) hT hlt hx⟩, fun hx => ⟨⟨k, f2, lend_red f4⟩, here _ (by simp) hT hlt hx⟩⟩
    ·rw [f] at hT ⊢
     have hy' := low y' (by rw [er]; simp [list])
     refine ⟨fun hx => ⟨Or.inr ⟨k, f4, hlt⟩, key _ (by simp) hT hy'.2 hx⟩, fun hx => ?_⟩
     simp only [thing_node] at hx
     rw [hy'.1] at hx; exact absurd hx (by simp)
 ·subst c0
  obtain ⟨g2, a, z, b, el, u1, u2, w1, w2, w3⟩ := up1_black (g := g) (x := y) v1 v2 c1 c2
  have hT : (node g false l y r).up1.lendRight.list = A ++ m :: B := by rw [list_lendRight, list_up1, hs]
  have hz := low z (by rw [el]; simp [list])
  right
  rw [u2] at hT ⊢
  rw [u1]
  refine ⟨by simp [right], by simp [right, lend], by simp, fun hx => ⟨Or.inl ⟨h, w3, by simp [right, lend]⟩, key _ (by simp) hT hz.2 hx⟩, fun hx => ?_⟩
  simp only [thing_node] at hx
  rw [hz.1] at hx; exact absurd hx (by simp)
 ·subst c0
  rw [up1_same c1]
  have hrl : r.lend = true := lend_red c2
  have hr : r ≠ nil := by intro e; subst e; simp [red] at c2
  have e : (node g false l y r).lendRight = node g false l y r := by simp [lendRight, right, hrl]
  right
  rw [e]
  refine ⟨hr, fun hle => ?_, by simp, fun hx => ⟨Or.inl ⟨h, v2, hrl⟩, key _ (by simp) hs hlt hx⟩, fun hx => ⟨⟨h, v2, hrl⟩, here _ (by simp) hs hlt hx⟩⟩
  simp only [right_node] at hle; rw [hrl] at hle; exact absurd hle (by simp)
theorem ne_of_Pre {lt : α → α → Bool} {x : α} {t : Tr α} (h : Pre lt x t) : t ≠ nil := by
 rcases h with ⟨h, hv, hl⟩ | ⟨h, hp, _⟩ | ⟨h, hp⟩
 ·intro e; subst e; simp [lend] at hl
 ·exact hp.1
 ·exact hp.1
theorem setThing_thing {t : Tr α} (z R : Tr α) (d : α) : (t.setRight R).setThing (t.thing d) = t.setRight R := by cases t <;> rfl
theorem rem_main (lt : α → α → Bool) (x : α) (n : Nat) : ∀ (t : Tr α) (A : List α) (m : α) (B : List α), t.size ≤ n → Pre lt x t → Has lt x A m B → t.list = A ++ m :: B →
  (rem lt n x t).list = A ++ B ∧ (∀ h, V t h → t.lend = true → V (rem lt n x t) h ∧ (t.red = false → (rem lt n x t).red = false)) ∧
  (∀ h, PD t h → lt x (t.thing x) = false → V (rem lt n x t) (h + 1) ∧ (rem lt n x t).red = false) ∧
  (∀ h, PA t h → rem lt n x t = nil ∨ ∃ k, V (rem lt n x t).left k ∧ V (rem lt n x t).right k ∧ (rem lt n x t).right.red = false) := by
 induction n with
 | zero =>
  intro t A m B hs hp _ hl
  have := ne_of_Pre hp
  cases t with
  | nil => exact absurd rfl this
  | node g c l y r => simp only [size] at hs; omega
 | succ n ih =>
  intro t A m B hs hp hh hl
  cases t with
  | nil => exact absurd rfl (ne_of_Pre hp)
  | node g c l y r =>
   cases hlt : lt x y with
   | true =>
    obtain ⟨hn, _, ⟨k, k1⟩, k2, B', e1, e2⟩ := go_left hp hh hl hlt
    have hT : (node g c l y r).lendLeft.list = (node g c l y r).list := list_lendLeft _
    have hne := ne_nil_of_list hT (by simp)
    have hsz : (node g c l y r).lendLeft.left.size ≤ n := by
     have := size_left_lt _ hne
     rw [size_of_list hT] at this
     omega
    have hh' : Has lt x A m B' := ⟨hh.low, fun b hb => hh.high b (by rw [e2]; simp [hb]), hh.mid⟩
    obtain ⟨q1, q2, _, _⟩ := ih _ A m B' hsz (Or.inl ⟨k, k1, k2⟩) hh' e1
    have haft : Aft (node g c l y r).lendLeft.left (rem lt n x (node g c l y r).lendLeft.left) := fun h' hv' => q2 h' hv' k2
    simp only [rem, hlt, if_true]
    refine ⟨?_, fun h hv hle => ?_, fun h hd hx => ?_, fun h ha => ?_⟩
    ·rw [list_balance]
     generalize (node g c l y r).lendLeft = T at *
     cases T with
     | nil => exact absurd rfl hne
     | node g' c' l' x' r' =>
      simp only [left, right, thing] at q1 e2
      simp only [setLeft, list, left, q1, e2]
      simp
    ·exact left_after hv hle hn haft
    ·simp only [thing_node] at hx; rw [hx] at hlt; exact absurd hlt (by simp)
    ·exact Or.inr (left_afterA ha.2.1 ha.2.2.1 ha.2.2.2.1 ha.2.2.2.2 hn haft)
   | false =>
    rcases go_right hp hh hl hlt with ⟨u1, rfl, rfl, rfl, rfl⟩ | ⟨hr, _, hne, hgo, hat⟩
    ·have e : rem lt (n + 1) x (node g c nil y nil) = nil := by simp [rem, hlt, u1, isNil]
     rw [e]
     refine ⟨rfl, fun h hv hle => ?_, fun h hd hx => ?_, fun h ha => Or.inl rfl⟩
     ·cases c with
      | true => exact ⟨hv.1, fun _ => rfl⟩
      | false => simp [lend, red] at hle
     ·have := hd.2.2.2.2.2; simp [right, red] at this
    ·have hT : (node g c l y r).up1.lendRight.list = (node g c l y r).list := by rw [list_lendRight, list_up1]
     have hsz : (node g c l y r).up1.lendRight.right.size ≤ n := by
      have := size_right_lt _ hne
      rw [size_of_list hT] at this
      omega
     -- the part that comes in the right one's place
     have main : ∃ z R, rem lt (n + 1) x (node g c l y r) = balance (((node g c l y r).up1.lendRight.setRight R).setThing z) ∧ Aft (node g c l y r).up1.lendRight.right R ∧ AftD (node g c l y r).up1.lendRight.right R ∧
       (node g c l y r).up1.lendRight.left.list ++ z :: R.list = A ++ B := by
      have hrn : (node g c l y r).up1.right.isNil = false := by rw [isNil_no]; exact hr
      cases hx : lt ((node g c l y r).up1.lendRight.thing x) x with
      | true =>
       obtain ⟨hpr, A', e1, e2⟩ := hgo hx
       have hh' : Has lt x A' m B := ⟨fun a ha => hh.low a (by rw [e2]; simp [ha]), hh.high, hh.mid⟩
       have hp' : Pre lt x (node g c l y r).up1.lendRight.right := by
        rcases hpr with h1 | h1
        ·exact Or.inl h1
        ·exact Or.inr (Or.inl h1)
       obtain ⟨q1, q2, q3, _⟩ := ih _ A' m B hsz hp' hh' e1
       refine ⟨(node g c l y r).up1.lendRight.thing x, rem lt n x (node g c l y r).up1.lendRight.right, ?_, fun h hv => ?_, fun h hd => ?_, ?_⟩
       ·rw [setThing_thing nil]
        simp only [rem, hlt, hrn, hx, if_true, if_false, Bool.false_eq_true]
       ·rcases hpr with ⟨k, _, h2⟩ | ⟨k, h1, _⟩
        ·exact q2 h hv h2
        ·exfalso
         obtain ⟨p1, p2, p3, p4, p5, p6⟩ := h1
         generalize (node g c l y r).up1.lendRight.right = U at *
         cases U with
         | nil => exact absurd rfl p1
         | node g' c' l' x' r' =>
          simp only [red_node] at p2
          subst p2
          obtain ⟨_, _, _, _, b⟩ := hv
          simp only [right_node] at p6
          rw [p6] at b; exact absurd b (by simp)
       ·rcases hpr with ⟨k, h1, h2⟩ | ⟨k, _, h2⟩
        ·exfalso
         obtain ⟨p1, p2, p3, p4, p5, p6⟩ := hd
         generalize (node g c l y r).up1.lendRight.right = U at *
         cases U with
         | nil => exact absurd rfl p1
         | node g' c' l' x' r' =>
          simp only [red_node] at p2
          subst p2
          simp only [lend, left_node] at h2 p5
          rw [p5] at h2; exact absurd h2 (by simp)
        ·exact q3 h hd h2
       ·rw [q1, e2]; simp
      | false =>
       obtain ⟨⟨k, k1, k2⟩, e1, e2⟩ := hat hx
       have q := remL_main n _ hsz
       refine ⟨(node g c l y r).up1.lendRight.right.least ((node g c l y r).up1.lendRight.thing x), remL n (node g c l y r).up1.lendRight.right, ?_, fun h hv => ?_, fun h hd => ?_, ?_⟩
       ·simp only [rem, hlt, hrn, hx, if_false, Bool.false_eq_true]
       ·exact ⟨(q h hv k2).1, (q h hv k2).2.1⟩
       ·exfalso
        obtain ⟨p1, p2, p3, p4, p5, p6⟩ := hd
        generalize (node g c l y r).up1.lendRight.right = U at *
        cases U with
        | nil => exact absurd rfl p1
        | node g' c' l' x' r' =>
         simp only [red_node] at p2
         subst p2
         simp only [lend, left_node] at k2 p5
         rw [p5] at k2; exact absurd k2 (by simp)
       ·rw [(q k k1 k2).2.2, e1, ← least_list, ← e2]
        have : (node g c l y r).up1.lendRight.right.list ≠ [] := by
         intro e
         have : (node g c l y r).up1.lendRight.right.size = 0 := by rw [size_eq, e]; rfl
         cases hU : (node g c l y r).up1.lendRight.right with
         | nil => rw [hU] at k2; simp [lend] at k2
         | node g' c' l' x' r' => rw [hU] at this; simp only [size] at this; omega
        cases hU : (node g c l y r).up1.lendRight.right.list with
        | nil => exact absurd hU this
        | cons d ds => simp
     obtain ⟨z, R, er, haft, haftD, hlist⟩ := main
     rw [er]
     refine ⟨?_, fun h hv hle => ?_, fun h hd hx => ?_, fun h ha => ?_⟩
     ·rw [list_balance]
      generalize (node g c l y r).up1.lendRight = T at *
      cases T with
      | nil => exact absurd rfl hne
      | node g' c' l' x' r' => simp only [setRight, setThing, list]; exact hlist
     ·cases c with
      | true =>
       rw [up1_same hv.2.2.1] at haft haftD hr ⊢
       exact ⟨right_after z hv hr haft haftD, fun e => by simp [red] at e⟩
      | false =>
       obtain ⟨k, rfl, v1, v2, v3⟩ := hv
       obtain ⟨g2, a, y', b, el, w1, w2, w3, w4, w5⟩ := up1_black (g := g) (x := y) v1 v2 (by simpa [lend] using hle) v3
       rw [w2] at haft ⊢
       obtain ⟨b1, b2⟩ := haft k w5
       exact ⟨(bal_black w3 b1 g2 z).1, fun _ => (bal_black w3 b1 g2 z).2 (Or.inl w4)⟩
     ·obtain ⟨p1, p2, p3, p4, p5, p6⟩ := hd
      simp only [red_node, left_node, right_node] at p2 p3 p4 p5 p6
      subst p2
      have e : (node g false l y r).up1.lendRight = node g false l y r := by rw [up1_same p5]; simp [lendRight, right, lend_red p6]
      rw [e] at haft ⊢
      obtain ⟨b1, b2⟩ := haft h p4
      exact ⟨(bal_black p3 b1 g z).1, (bal_black p3 b1 g z).2 (Or.inl p5)⟩
     ·have a4 : l.red = false := ha.2.2.2.1
      rw [up1_same a4] at haft haftD hr ⊢
      exact Or.inr (right_afterA z ha.2.1 ha.2.2.1 ha.2.2.2.1 ha.2.2.2.2 hr haft haftD)
end Tr
end


section
namespace Tr
variable {α : Type}
@[simp] theorem blocks_neg (t : Tr α) : t.neg.blocks = t.blocks := by cases t <;> rfl
@[simp] theorem blocks_paint (c : Bool) (t : Tr α) : (t.paint c).blocks = t.blocks := by cases t <;> rfl
@[simp] theorem blocks_flip (t : Tr α) : t.flip.blocks = t.blocks := by cases t <;> simp [flip, blocks]
theorem blocks_setThing (t : Tr α) (z : α) : (t.setThing z).blocks = t.blocks := by cases t <;> rfl
theorem perm_turnLeft (t : Tr α) : t.turnLeft.blocks.Perm t.blocks := by
 unfold turnLeft
 split
 ·rename_i g c a x h _ b y e
  simp only [blocks]
  rw [List.perm_iff_count]
  intro k
  simp [List.count_cons, List.count_append]
  omega
 ·exact List.Perm.refl _
theorem perm_turnRight (t : Tr α) : t.turnRight.blocks.Perm t.blocks := by
 unfold turnRight
 split
 ·simp only [blocks]
  rw [List.perm_iff_count]
  intro k
  simp [List.count_cons, List.count_append]
  omega
 ·exact List.Perm.refl _
theorem perm_balance (t : Tr α) : t.balance.blocks.Perm t.blocks := by
 have h1 : t.bal1.blocks.Perm t.blocks := by unfold bal1; split <;> first | exact List.Perm.refl _ | exact perm_turnLeft t
 have h2 : t.bal1.bal2.blocks.Perm t.bal1.blocks := by unfold bal2; split <;> first | exact List.Perm.refl _ | exact perm_turnRight _
 have h3 : t.bal1.bal2.bal3.blocks.Perm t.bal1.bal2.blocks := by unfold bal3; split <;> first | exact List.Perm.refl _ | simp
 exact h3.trans (h2.trans h1)
theorem perm_setRight_turn (t : Tr α) : (t.setRight t.right.turnRight).blocks.Perm t.blocks := by
 cases t with
 | nil => exact List.Perm.refl _
 | node g c l x r => simp only [setRight, right, blocks]; exact ((perm_turnRight r).append_left l.blocks).cons g
theorem perm_lendLeft2 (t : Tr α) : t.lendLeft2.blocks.Perm t.blocks := by
 unfold lendLeft2
 split
 ·rw [blocks_flip]; exact (perm_turnLeft _).trans (perm_setRight_turn t)
 ·exact List.Perm.refl _
theorem perm_lendLeft (t : Tr α) : t.lendLeft.blocks.Perm t.blocks := by
 unfold lendLeft
 split
 ·exact List.Perm.refl _
 ·exact (perm_lendLeft2 _).trans (by simp)
theorem perm_lendRight2 (t : Tr α) : t.lendRight2.blocks.Perm t.blocks := by
 unfold lendRight2
 split
 ·rw [blocks_flip]; exact perm_turnRight _
 ·exact List.Perm.refl _
theorem perm_lendRight (t : Tr α) : t.lendRight.blocks.Perm t.blocks := by
 unfold lendRight
 split
 ·exact List.Perm.refl _
 ·exact (perm_lendRight2 _).trans (by simp)
theorem perm_up1 (t : Tr α) : t.up1.blocks.Perm t.blocks := by
 unfold up1
 split
 ·exact perm_turnRight _
 ·exact List.Perm.refl _
theorem perm_put (lt : α → α → Bool) (k : Nat) (x : α) (t : Tr α) : (put lt k x t).blocks.Perm (k :: t.blocks) := by
 induction t with
 | nil => exact perm_balance _
 | node g c l y r ihl ihr =>
  simp only [put]
  split
  ·refine (perm_balance _).trans ?_
   simp only [blocks]
   refine ((ihl.append_right r.blocks).cons g).trans ?_
   exact List.Perm.swap _ _ _
  ·refine (perm_balance _).trans ?_
   simp only [blocks]
   refine ((ihr.append_left l.blocks).cons g).trans ?_
   rw [List.perm_iff_count]
   intro j
   simp [List.count_cons, List.count_append]
   omega
def Of (u t : Tr α) : Prop := (t.blocks.Nodup → u.blocks.Nodup) ∧ ∀ g ∈ u.blocks, g ∈ t.blocks
theorem Of.refl (t : Tr α) : Of t t := ⟨id, fun _ h => h⟩
theorem Of.trans {a b c : Tr α} (h : Of a b) (k : Of b c) : Of a c := ⟨fun n => h.1 (k.1 n), fun g hg => k.2 g (h.2 g hg)⟩
theorem Of.perm {a b : Tr α} (h : a.blocks.Perm b.blocks) : Of a b := ⟨fun n => h.nodup_iff.2 n, fun _ hg => h.mem_iff.1 hg⟩
theorem Of.nil (t : Tr α) : Of (nil : Tr α) t := ⟨fun _ => List.nodup_nil, fun _ h => by simp [blocks] at h⟩
theorem Of.setLeft {t L : Tr α} (h : Of L t.left) : Of (t.setLeft L) t := by
 cases t with
 | nil => exact Of.refl _
 | node g c l x r =>
  simp only [left] at h
  refine ⟨fun n => ?_, fun k hk => ?_⟩
  ·simp only [Tr.setLeft, blocks, List.nodup_cons, List.nodup_append, List.mem_append] at n ⊢
   refine ⟨fun hg => n.1 (hg.imp (h.2 g) id), h.1 n.2.1, n.2.2.1, fun a ha b hb => n.2.2.2 a (h.2 a ha) b hb⟩
  ·simp only [Tr.setLeft, blocks, List.mem_cons, List.mem_append] at hk ⊢
   exact hk.imp id (Or.imp (h.2 k) id)
theorem Of.setRight {t R : Tr α} (h : Of R t.right) : Of (t.setRight R) t := by
 cases t with
 | nil => exact Of.refl _
 | node g c l x r =>
  simp only [right] at h
  refine ⟨fun n => ?_, fun k hk => ?_⟩
  ·simp only [Tr.setRight, blocks, List.nodup_cons, List.nodup_append, List.mem_append] at n ⊢
   refine ⟨fun hg => n.1 (hg.imp id (h.2 g)), n.2.1, h.1 n.2.2.1, fun a ha b hb => n.2.2.2 a ha b (h.2 b hb)⟩
  ·simp only [Tr.setRight, blocks, List.mem_cons, List.mem_append] at hk ⊢
   exact hk.imp id (Or.imp id (h.2 k))
theorem Of.remL (n : Nat) : ∀ t : Tr α, Of (remL n t) t := by
 induction n with
 | zero => intro t; exact Of.refl _
 | succ n ih =>
  intro t
  unfold Tr.remL
  split
  ·exact Of.nil _
  ·exact (Of.perm (perm_balance _)).trans ((Of.setLeft (ih _)).trans (Of.perm (perm_lendLeft t)))
theorem Of.rem (lt : α → α → Bool) (x : α) (n : Nat) : ∀ t : Tr α, Of (rem lt n x t) t := by
 induction n with
 | zero => intro t; exact Of.refl _
 | succ n ih =>
  intro t
  cases t with
  | nil => exact Of.refl _
  | node g c l y r =>
   simp only [Tr.rem]
   split
   ·exact (Of.perm (perm_balance _)).trans ((Of.setLeft (ih _)).trans (Of.perm (perm_lendLeft _)))
   ·split
    ·exact Of.nil _
    ·have up : Of (node g c l y r).up1.lendRight (node g c l y r) := Of.perm ((perm_lendRight _).trans (perm_up1 _))
     split
     ·exact (Of.perm (perm_balance _)).trans ((Of.setRight (ih _)).trans up)
     ·refine (Of.perm (perm_balance _)).trans (Of.trans ?_ ((Of.setRight (Of.remL n _)).trans up))
      exact ⟨fun h => by rw [blocks_setThing]; exact h, fun g hg => by rwa [blocks_setThing] at hg⟩
def Whole (t : Tr α) : Prop := t.red = false ∧ ∃ h, V t h
theorem Whole.nil : Whole (nil : Tr α) := ⟨rfl, 0, rfl⟩
theorem red_paint (t : Tr α) : (t.paint false).red = false := by cases t <;> rfl
theorem Whole.put {t : Tr α} (lt : α → α → Bool) (k : Nat) (x : α) (h : Whole t) : Whole ((put lt k x t).paint false) := by
 obtain ⟨h1, h, hv⟩ := h
 exact ⟨red_paint _, ((V.put lt k x t hv).1 h1).black⟩
theorem Whole.pre {t : Tr α} {lt : α → α → Bool} {x : α} (h : Whole t) (hn : t ≠ Tr.nil) : Pre lt x t := by
 obtain ⟨h1, h, hv⟩ := h
 cases t with
 | nil => exact absurd rfl hn
 | node g c l y r =>
  simp only [red] at h1
  subst h1
  obtain ⟨k, rfl, v1, v2, v3⟩ := hv
  cases hl : l.red with
  | true => exact Or.inl ⟨k + 1, ⟨k, rfl, v1, v2, v3⟩, by simp [lend, hl]⟩
  | false => exact Or.inr (Or.inr ⟨k, by simp, v1, v2, hl, v3⟩)
theorem Whole.rem {t : Tr α} {lt : α → α → Bool} {x m : α} {A B : List α} (h : Whole t) (hh : Has lt x A m B) (hl : t.list = A ++ m :: B) {n : Nat} (hn : t.size ≤ n) :
  Whole ((rem lt n x t).paint false) ∧ ((rem lt n x t).paint false).list = A ++ B := by
 have hne : t ≠ Tr.nil := by intro e; subst e; simp [list] at hl
 obtain ⟨q1, q2, _, q4⟩ := rem_main lt x n t A m B hn (h.pre hne) hh hl
 refine ⟨⟨red_paint _, ?_⟩, by rw [list_paint]; exact q1⟩
 obtain ⟨h1, h, hv⟩ := h
 cases t with
 | nil => exact absurd rfl hne
 | node g c l y r =>
  simp only [red] at h1
  subst h1
  obtain ⟨k, rfl, v1, v2, v3⟩ := hv
  cases hl : l.red with
  | true => exact (q2 (k + 1) ⟨k, rfl, v1, v2, v3⟩ (by simp [lend, hl])).1.black
  | false =>
   rcases q4 k ⟨by simp, v1, v2, hl, v3⟩ with e | ⟨k, u1, u2, u3⟩
   ·rw [e]; exact ⟨0, rfl⟩
   ·cases hr : Tr.rem lt n x (node g false l y r) with
    | nil => exact ⟨0, rfl⟩
    | node g' c' l' y' r' => rw [hr] at u1 u2 u3; exact ⟨k + 1, k, rfl, u1, u2, u3⟩
end Tr
end


section
def ltI (a b : Int) : Bool := decide (a < b)
def Tr.has {α : Type} (lt : α → α → Bool) (x : α) : Tr α → Bool
 | .nil => false
 | .node _ _ l y r => if lt x y then Tr.has lt x l else if lt y x then Tr.has lt x r else true
end

end Go.Proofs.YtbcepkfdlaioaaaGreat

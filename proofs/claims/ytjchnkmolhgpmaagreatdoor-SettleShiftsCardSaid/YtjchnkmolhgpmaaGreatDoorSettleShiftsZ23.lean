/- Texts of SettleShifts's proof, together. -/
import Derived.Test.YtjchnkmolhgpmaaGreatDoorRbB
import Derived.StillTailTactics
import Derived.Test.YtjchnkmolhgpmaaGreatDoorSettleShiftsZ19
import Derived.BigQuiet
import Derived.Deep.QuietTactic
namespace Go.Proofs.YtjchnkmolhgpmaaGreatDoor

section
open Go.RowKit
theorem ptr_form {α : Type} (t : Tr α) : ∃ u, ptr t = .pointer u := by cases t <;> exact ⟨_, rfl⟩
end


section
open Go.RowKit
theorem Tr.right_ne {α : Type} {g : Nat} {c : Bool} {l r : Tr α} {x : α} {h : Nat} (hv : Tr.V (.node g c l x r) h) (hn : l ≠ .nil) : l.lend = false → r ≠ .nil := by
 intro hl;cases c with
 | true =>
  rcases Tr.lendL (g := g) (c := true) (x := x) hv.1 hv.2.1 hn hv.2.2.2 with ⟨a, b⟩ | ⟨a, b, k, e, d, f, f2, f3, f4, f5, f6⟩ | ⟨a, b, k, e, g2, g3, a', z, b', y', e', er, f, f2, f3, f4, f5⟩
  ·rw [a] at hl; exact absurd hl (by simp)
  ·exact f6
  ·exact f5
 | false =>
  obtain ⟨k, rfl, v1, v2, v3⟩ := hv;rcases Tr.lendL (g := g) (c := true) (x := x) v1 v2 hn v3 with ⟨a, b⟩ | ⟨a, b, k, e, d, f, f2, f3, f4, f5, f6⟩ | ⟨a, b, k, e, g2, g3, a', z, b', y', e', er, f, f2, f3, f4, f5⟩
  ·rw [a] at hl; exact absurd hl (by simp)
  ·exact f6
  ·exact f5
theorem Tr.left_pre' {α : Type} {g : Nat} {c : Bool} {l r : Tr α} {x : α} {h : Nat} (hv : Tr.V (.node g c l x r) h) (hn : l ≠ .nil) : ∃ k, Tr.V (Tr.node g c l x r).lendLeft.left k ∧ (Tr.node g c l x r).lendLeft.left.lend = true := by
 cases c with
 | true => exact Tr.left_pre hv.1 hv.2.1 hn hv.2.2.2
 | false => obtain ⟨k, rfl, v1, v2, v3⟩ := hv; exact Tr.left_pre v1 v2 hn v3
end


section
open Go.RowKit
theorem Tr.up1_red {α : Type} {g : Nat} {c : Bool} {l r : Tr α} {x : α} (h : l.red = true) : (Tr.node g c l x r).up1 = (Tr.node g c l x r).turnRight := by simp [Tr.up1, Tr.left_node, h]
theorem Tr.rem_left {α : Type} {lt : α → α → Bool} {N : Nat} {x y : α} {g : Nat} {c : Bool} {l r : Tr α} (h : lt x y = true) :
  Tr.rem lt (N + 1) x (.node g c l y r) = Tr.balance ((Tr.node g c l y r).lendLeft.setLeft (Tr.rem lt N x (Tr.node g c l y r).lendLeft.left)) := by simp only [Tr.rem, h, if_true]
theorem Tr.rem_nil {α : Type} {lt : α → α → Bool} {N : Nat} {x y : α} {g : Nat} {c : Bool} {l r : Tr α} (h : lt x y = false) (hn : (Tr.node g c l y r).up1.right = .nil) :
  Tr.rem lt (N + 1) x (.node g c l y r) = .nil := by simp [Tr.rem, h, hn, Tr.isNil]
theorem Tr.rem_right {α : Type} {lt : α → α → Bool} {N : Nat} {x y : α} {g : Nat} {c : Bool} {l r : Tr α} (h : lt x y = false) (hn : (Tr.node g c l y r).up1.right ≠ .nil) (h2 : lt ((Tr.node g c l y r).up1.lendRight.thing x) x = true) :
  Tr.rem lt (N + 1) x (.node g c l y r) = Tr.balance ((Tr.node g c l y r).up1.lendRight.setRight (Tr.rem lt N x (Tr.node g c l y r).up1.lendRight.right)) := by
 rw [← Tr.isNil_no] at hn;simp only [Tr.rem, h, hn, h2, if_true, if_false, Bool.false_eq_true]
theorem Tr.rem_here {α : Type} {lt : α → α → Bool} {N : Nat} {x y : α} {g : Nat} {c : Bool} {l r : Tr α} (h : lt x y = false) (hn : (Tr.node g c l y r).up1.right ≠ .nil) (h2 : lt ((Tr.node g c l y r).up1.lendRight.thing x) x = false) :
  Tr.rem lt (N + 1) x (.node g c l y r) = Tr.balance (((Tr.node g c l y r).up1.lendRight.setRight (Tr.remL N (Tr.node g c l y r).up1.lendRight.right)).setThing ((Tr.node g c l y r).up1.lendRight.right.least ((Tr.node g c l y r).up1.lendRight.thing x))) := by
 rw [← Tr.isNil_no] at hn;simp only [Tr.rem, h, hn, h2, if_false, Bool.false_eq_true]
theorem Has.len {α : Type} {A B : List α} {m : α} {t u : Tr α} (h : t.list = A ++ m :: B) (h' : u.list = A ++ B) : u.list.length ≤ t.list.length := by rw [h, h']; simp
end


section
open Go.RowKit
theorem Tr.put_ne {α : Type} (lt : α → α → Bool) (k : Nat) (x : α) (t : Tr α) : Tr.put lt k x t ≠ .nil := by
 intro e;have := (Tr.perm_put lt k x t).length_eq;rw [e] at this;simp [Tr.blocks] at this
theorem Tr.length_put {α : Type} (lt : α → α → Bool) (k : Nat) (x : α) (t : Tr α) : (Tr.put lt k x t).list.length = t.list.length + 1 := by
 rw [← Tr.blocks_length, (Tr.perm_put lt k x t).length_eq, List.length_cons, Tr.blocks_length]
end

end Go.Proofs.YtjchnkmolhgpmaaGreatDoor

/- Trees that lean to the left, by themselves: the blocks, and a whole tree. -/
import Derived.Test.YtcnmobehamgmbaaLlrbD
namespace Go.Proofs.Ytcnmobehamgmbaa
namespace Tr
variable {α : Type}

@[simp] theorem blocks_neg (t : Tr α) : t.neg.blocks = t.blocks := by cases t <;> rfl
@[simp] theorem blocks_paint (c : Bool) (t : Tr α) : (t.paint c).blocks = t.blocks := by cases t <;> rfl
@[simp] theorem blocks_flip (t : Tr α) : t.flip.blocks = t.blocks := by cases t <;> simp [flip, blocks]
theorem blocks_setThing (t : Tr α) (z : α) : (t.setThing z).blocks = t.blocks := by cases t <;> rfl
theorem perm_turnLeft (t : Tr α) : t.turnLeft.blocks.Perm t.blocks := by
  unfold turnLeft
  split
  · rename_i g c a x h _ b y e
    simp only [blocks]
    rw [List.perm_iff_count]
    intro k
    simp [List.count_cons, List.count_append]
    omega
  · exact List.Perm.refl _
theorem perm_turnRight (t : Tr α) : t.turnRight.blocks.Perm t.blocks := by
  unfold turnRight
  split
  · simp only [blocks]
    rw [List.perm_iff_count]
    intro k
    simp [List.count_cons, List.count_append]
    omega
  · exact List.Perm.refl _
theorem perm_balance (t : Tr α) : t.balance.blocks.Perm t.blocks := by
  have h1 : t.bal1.blocks.Perm t.blocks := by unfold bal1; split <;> first | exact List.Perm.refl _ | exact perm_turnLeft t
  have h2 : t.bal1.bal2.blocks.Perm t.bal1.blocks := by unfold bal2; split <;> first | exact List.Perm.refl _ | exact perm_turnRight _
  have h3 : t.bal1.bal2.bal3.blocks.Perm t.bal1.bal2.blocks := by unfold bal3; split <;> first | exact List.Perm.refl _ | simp
  exact h3.trans (h2.trans h1)
theorem perm_setRight_turn (t : Tr α) : (t.setRight t.right.turnRight).blocks.Perm t.blocks := by
  cases t with
  | nil => exact List.Perm.refl _
  | node g c l x r => simp only [setRight, right, blocks]; exact ((perm_turnRight r).append_left l.blocks).cons g
theorem perm_lendLeft2 (t : Tr α) : t.lendLeft2.blocks.Perm t.blocks := by
  unfold lendLeft2
  split
  · rw [blocks_flip]; exact (perm_turnLeft _).trans (perm_setRight_turn t)
  · exact List.Perm.refl _
theorem perm_lendLeft (t : Tr α) : t.lendLeft.blocks.Perm t.blocks := by
  unfold lendLeft
  split
  · exact List.Perm.refl _
  · exact (perm_lendLeft2 _).trans (by simp)
theorem perm_lendRight2 (t : Tr α) : t.lendRight2.blocks.Perm t.blocks := by
  unfold lendRight2
  split
  · rw [blocks_flip]; exact perm_turnRight _
  · exact List.Perm.refl _
theorem perm_lendRight (t : Tr α) : t.lendRight.blocks.Perm t.blocks := by
  unfold lendRight
  split
  · exact List.Perm.refl _
  · exact (perm_lendRight2 _).trans (by simp)
theorem perm_up1 (t : Tr α) : t.up1.blocks.Perm t.blocks := by
  unfold up1
  split
  · exact perm_turnRight _
  · exact List.Perm.refl _
theorem perm_put (lt : α → α → Bool) (k : Nat) (x : α) (t : Tr α) : (put lt k x t).blocks.Perm (k :: t.blocks) := by
  induction t with
  | nil => exact perm_balance _
  | node g c l y r ihl ihr =>
    simp only [put]
    split
    · refine (perm_balance _).trans ?_
      simp only [blocks]
      refine ((ihl.append_right r.blocks).cons g).trans ?_
      exact List.Perm.swap _ _ _
    · refine (perm_balance _).trans ?_
      simp only [blocks]
      refine ((ihr.append_left l.blocks).cons g).trans ?_
      rw [List.perm_iff_count]
      intro j
      simp [List.count_cons, List.count_append]
      omega

/-- Of the blocks of one are those of the other. -/
def Of (u t : Tr α) : Prop := (t.blocks.Nodup → u.blocks.Nodup) ∧ ∀ g ∈ u.blocks, g ∈ t.blocks
theorem Of.refl (t : Tr α) : Of t t := ⟨id, fun _ h => h⟩
theorem Of.trans {a b c : Tr α} (h : Of a b) (k : Of b c) : Of a c := ⟨fun n => h.1 (k.1 n), fun g hg => k.2 g (h.2 g hg)⟩
theorem Of.perm {a b : Tr α} (h : a.blocks.Perm b.blocks) : Of a b := ⟨fun n => h.nodup_iff.2 n, fun _ hg => h.mem_iff.1 hg⟩
theorem Of.nil (t : Tr α) : Of (nil : Tr α) t := ⟨fun _ => List.nodup_nil, fun _ h => by simp [blocks] at h⟩
theorem Of.setLeft {t L : Tr α} (h : Of L t.left) : Of (t.setLeft L) t := by
  cases t with
  | nil => exact Of.refl _
  | node g c l x r =>
    simp only [left] at h
    refine ⟨fun n => ?_, fun k hk => ?_⟩
    · simp only [Tr.setLeft, blocks, List.nodup_cons, List.nodup_append, List.mem_append] at n ⊢
      refine ⟨fun hg => n.1 (hg.imp (h.2 g) id), h.1 n.2.1, n.2.2.1, fun a ha b hb => n.2.2.2 a (h.2 a ha) b hb⟩
    · simp only [Tr.setLeft, blocks, List.mem_cons, List.mem_append] at hk ⊢
      exact hk.imp id (Or.imp (h.2 k) id)
theorem Of.setRight {t R : Tr α} (h : Of R t.right) : Of (t.setRight R) t := by
  cases t with
  | nil => exact Of.refl _
  | node g c l x r =>
    simp only [right] at h
    refine ⟨fun n => ?_, fun k hk => ?_⟩
    · simp only [Tr.setRight, blocks, List.nodup_cons, List.nodup_append, List.mem_append] at n ⊢
      refine ⟨fun hg => n.1 (hg.imp id (h.2 g)), n.2.1, h.1 n.2.2.1, fun a ha b hb => n.2.2.2 a ha b (h.2 b hb)⟩
    · simp only [Tr.setRight, blocks, List.mem_cons, List.mem_append] at hk ⊢
      exact hk.imp id (Or.imp id (h.2 k))
theorem Of.remL (n : Nat) : ∀ t : Tr α, Of (remL n t) t := by
  induction n with
  | zero => intro t; exact Of.refl _
  | succ n ih =>
    intro t
    unfold Tr.remL
    split
    · exact Of.nil _
    · exact (Of.perm (perm_balance _)).trans ((Of.setLeft (ih _)).trans (Of.perm (perm_lendLeft t)))
theorem Of.rem (lt : α → α → Bool) (x : α) (n : Nat) : ∀ t : Tr α, Of (rem lt n x t) t := by
  induction n with
  | zero => intro t; exact Of.refl _
  | succ n ih =>
    intro t
    cases t with
    | nil => exact Of.refl _
    | node g c l y r =>
      simp only [Tr.rem]
      split
      · exact (Of.perm (perm_balance _)).trans ((Of.setLeft (ih _)).trans (Of.perm (perm_lendLeft _)))
      · split
        · exact Of.nil _
        · have up : Of (node g c l y r).up1.lendRight (node g c l y r) := Of.perm ((perm_lendRight _).trans (perm_up1 _))
          split
          · exact (Of.perm (perm_balance _)).trans ((Of.setRight (ih _)).trans up)
          · refine (Of.perm (perm_balance _)).trans (Of.trans ?_ ((Of.setRight (Of.remL n _)).trans up))
            exact ⟨fun h => by rw [blocks_setThing]; exact h, fun g hg => by rwa [blocks_setThing] at hg⟩

/-- A whole tree. -/
def Whole (t : Tr α) : Prop := t.red = false ∧ ∃ h, V t h
theorem Whole.nil : Whole (nil : Tr α) := ⟨rfl, 0, rfl⟩
theorem red_paint (t : Tr α) : (t.paint false).red = false := by cases t <;> rfl
theorem Whole.put {t : Tr α} (lt : α → α → Bool) (k : Nat) (x : α) (h : Whole t) : Whole ((put lt k x t).paint false) := by
  obtain ⟨h1, h, hv⟩ := h
  exact ⟨red_paint _, ((V.put lt k x t hv).1 h1).black⟩
theorem Whole.pre {t : Tr α} {lt : α → α → Bool} {x : α} (h : Whole t) (hn : t ≠ Tr.nil) : Pre lt x t := by
  obtain ⟨h1, h, hv⟩ := h
  cases t with
  | nil => exact absurd rfl hn
  | node g c l y r =>
    simp only [red] at h1
    subst h1
    obtain ⟨k, rfl, v1, v2, v3⟩ := hv
    cases hl : l.red with
    | true => exact Or.inl ⟨k + 1, ⟨k, rfl, v1, v2, v3⟩, by simp [lend, hl]⟩
    | false => exact Or.inr (Or.inr ⟨k, by simp, v1, v2, hl, v3⟩)
theorem Whole.rem {t : Tr α} {lt : α → α → Bool} {x m : α} {A B : List α} (h : Whole t) (hh : Has lt x A m B) (hl : t.list = A ++ m :: B) {n : Nat} (hn : t.size ≤ n) :
    Whole ((rem lt n x t).paint false) ∧ ((rem lt n x t).paint false).list = A ++ B := by
  have hne : t ≠ Tr.nil := by intro e; subst e; simp [list] at hl
  obtain ⟨q1, q2, _, q4⟩ := rem_main lt x n t A m B hn (h.pre hne) hh hl
  refine ⟨⟨red_paint _, ?_⟩, by rw [list_paint]; exact q1⟩
  obtain ⟨h1, h, hv⟩ := h
  cases t with
  | nil => exact absurd rfl hne
  | node g c l y r =>
    simp only [red] at h1
    subst h1
    obtain ⟨k, rfl, v1, v2, v3⟩ := hv
    cases hl : l.red with
    | true => exact (q2 (k + 1) ⟨k, rfl, v1, v2, v3⟩ (by simp [lend, hl])).1.black
    | false =>
      rcases q4 k ⟨by simp, v1, v2, hl, v3⟩ with e | ⟨k, u1, u2, u3⟩
      · rw [e]; exact ⟨0, rfl⟩
      · cases hr : Tr.rem lt n x (node g false l y r) with
        | nil => exact ⟨0, rfl⟩
        | node g' c' l' y' r' => rw [hr] at u1 u2 u3; exact ⟨k + 1, k, rfl, u1, u2, u3⟩
theorem Whole.deep {t : Tr α} (h : Whole t) : 2 ^ ((t.depth + 1) / 2) ≤ t.list.length + 1 := by
  obtain ⟨h1, h, hv⟩ := h
  rw [← size_eq]
  exact hv.deep h1

end Tr
end Go.Proofs.Ytcnmobehamgmbaa

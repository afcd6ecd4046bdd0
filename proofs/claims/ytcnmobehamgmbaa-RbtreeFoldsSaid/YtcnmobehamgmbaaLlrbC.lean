/- Trees that lean to the left, by themselves: what goes. -/
import Derived.Test.YtcnmobehamgmbaaLlrbB
namespace Go.Proofs.Ytcnmobehamgmbaa
namespace Tr
variable {α : Type}

theorem red_node {g : Nat} {c : Bool} {l r : Tr α} {x : α} : (node g c l x r).red = c := rfl
theorem left_node {g : Nat} {c : Bool} {l r : Tr α} {x : α} : (node g c l x r).left = l := rfl
theorem right_node {g : Nat} {c : Bool} {l r : Tr α} {x : α} : (node g c l x r).right = r := rfl
theorem bal_same {g : Nat} {c : Bool} {l r : Tr α} {x : α} (hl : l.red = false) (hr : r.red = false) : balance (node g c l x r) = node g c l x r := by
  simp [balance, bal1, bal2, bal3, left, right, hl, hr]
theorem lend_red {t : Tr α} (h : t.red = true) : t.lend = true := by cases t <;> simp_all [red, lend]
theorem neg_size (t : Tr α) : t.neg.size = t.size := by cases t <;> rfl

-- a right part that can lend
theorem lendR {g : Nat} {c : Bool} {l r : Tr α} {x : α} {h : Nat} (hl : V l h) (hr : V r h) (hn : r ≠ nil) (hll : l.red = false) (hrr : r.red = false) :
    (r.lend = true ∧ (node g c l x r).lendRight = node g c l x r) ∨
    (r.lend = false ∧ l.left.red = false ∧ ∃ k, h = k + 1 ∧ (node g c l x r).lendRight = node g (!c) l.neg x r.neg ∧ V l.neg k ∧ V r.neg k ∧ l.neg.red = true ∧ r.neg.red = true ∧ l.neg.left.red = false ∧ l ≠ nil) ∨
    (r.lend = false ∧ l.left.red = true ∧ ∃ k, h = k + 1 ∧ ∃ g2 a y b, l = node g2 false a y b ∧ (node g c l x r).lendRight = node g2 c a.neg y (node g false b x r.neg) ∧ V a.neg h ∧ a.neg.red = false ∧ PD (node g false b x r.neg) k ∧ l ≠ nil) := by
  rcases r with _ | ⟨g1, c1, l1, x1, r1⟩
  · exact absurd rfl hn
  · cases hle : (node g1 c1 l1 x1 r1).lend with
    | true => exact Or.inl ⟨rfl, by simp [lendRight, right, hle]⟩
    | false =>
      refine Or.inr ?_
      cases c1 with
      | true => simp [lend] at hle
      | false =>
        obtain ⟨k, rfl, h1, h2, h3⟩ := hr
        have h4 : l1.red = false := by simpa [lend] using hle
        rcases l with _ | ⟨g2, c2, l2, x2, r2⟩
        · simp [V] at hl
        · cases c2 with
          | true => simp [red] at hll
          | false =>
            obtain ⟨k', hk, q1, q2, q3⟩ := hl
            obtain rfl : k = k' := by omega
            cases hr2 : l2.red with
            | false =>
              refine Or.inl ⟨rfl, hr2, k, rfl, ?_, ?_⟩
              · simp [lendRight, lendRight2, left, right, hle, flip, neg, hr2]
              · simp_all [neg, V, red, left]
            | true =>
              rcases l2 with _ | ⟨g3, c3, a, z, b⟩
              · simp [red] at hr2
              · simp [red] at hr2
                subst hr2
                refine Or.inr ⟨rfl, rfl, k, rfl, g2, _, x2, r2, rfl, ?_, ?_⟩
                · simp [lendRight, lendRight2, left, right, hle, flip, neg, red, turnRight]
                · simp_all [neg, V, red, left, right, PD]

/-- What becomes of a node when a thing went from its left part. -/
theorem left_pre {g : Nat} {c : Bool} {l r : Tr α} {x : α} {h : Nat} (hl : V l h) (hr : V r h) (hn : l ≠ nil) (hrr : r.red = false) :
    ∃ k, V (node g c l x r).lendLeft.left k ∧ (node g c l x r).lendLeft.left.lend = true := by
  rcases lendL (g := g) (c := c) (x := x) hl hr hn hrr with ⟨a, b⟩ | ⟨a, b, k, e, d, f, f2, f3, _⟩ | ⟨a, b, k, e, g2, g3, a', z, b', y, e', er, f, f2, f3, f4, f5⟩
  · rw [b]; exact ⟨h, hl, a⟩
  · rw [d]; exact ⟨k, f, lend_red f3⟩
  · rw [f]; exact ⟨h, f2, by simp [left, lend, f4]⟩
theorem left_after {g : Nat} {c : Bool} {l r L : Tr α} {x : α} {h : Nat} (hv : V (node g c l x r) h) (hle : (node g c l x r).lend = true) (hn : l ≠ nil) (ha : Aft (node g c l x r).lendLeft.left L) :
    V (balance ((node g c l x r).lendLeft.setLeft L)) h ∧ (c = false → (balance ((node g c l x r).lendLeft.setLeft L)).red = false) := by
  cases c with
  | true =>
    obtain ⟨hl, hr, h3, h4⟩ := hv
    refine ⟨?_, fun e => by simp at e⟩
    rcases lendL (g := g) (c := true) (x := x) hl hr hn h4 with ⟨a, b⟩ | ⟨a, b, k, rfl, d, f, f2, f3, f4, f6, f5⟩ | ⟨a, b, k, rfl, g2, g3, a', z, b', y, e', er, f, f2, f3, f4, f5⟩
    · rw [b] at ha ⊢
      obtain ⟨v, w⟩ := ha h hl
      simp only [setLeft]
      rw [bal_same (w h3) h4]
      exact ⟨v, hr, w h3, h4⟩
    · rw [d] at ha ⊢
      obtain ⟨v, w⟩ := ha k f
      exact (bal_black v f2 g x).1
    · rw [f] at ha ⊢
      obtain ⟨v, w⟩ := ha _ f2
      have w := w rfl
      simp only [setLeft]
      rw [bal_same w rfl]
      exact ⟨v, f3, w, rfl⟩
  | false =>
    obtain ⟨k, rfl, hl, hr, h3⟩ := hv
    have h4 : l.red = true := by simpa [lend] using hle
    have e : (node g false l x r).lendLeft = node g false l x r := by simp [lendLeft, left, lend_red h4]
    rw [e] at ha ⊢
    obtain ⟨v, w⟩ := ha _ hl
    exact ⟨(bal_black v hr g x).1, fun _ => (bal_black v hr g x).2 (Or.inr h3)⟩
theorem left_afterA {g : Nat} {c : Bool} {l r L : Tr α} {x : α} {h : Nat} (hl : V l h) (hr : V r h) (h3 : l.red = false) (h4 : r.red = false) (hn : l ≠ nil) (ha : Aft (node g c l x r).lendLeft.left L) :
    ∃ k, V (balance ((node g c l x r).lendLeft.setLeft L)).left k ∧ V (balance ((node g c l x r).lendLeft.setLeft L)).right k ∧ (balance ((node g c l x r).lendLeft.setLeft L)).right.red = false := by
  rcases lendL (g := g) (c := c) (x := x) hl hr hn h4 with ⟨a, b⟩ | ⟨a, b, k, rfl, d, f, f2, f3, f4, f6, f5⟩ | ⟨a, b, k, rfl, g2, g3, a', z, b', y, e', er, f, f2, f3, f4, f5⟩
  · rw [b] at ha ⊢
    obtain ⟨v, w⟩ := ha h hl
    simp only [setLeft]
    rw [bal_same (w h3) h4]
    exact ⟨h, v, hr, h4⟩
  · rw [d] at ha ⊢
    obtain ⟨v, w⟩ := ha k f
    rcases r with _ | ⟨g2, c2, l2, x2, r2⟩
    · exact absurd rfl f5
    · simp only [neg, red_node] at f2 f4 ⊢
      simp at f4
      subst f4
      obtain ⟨u1, u2, u3, u4⟩ := f2
      cases hL : L.red with
      | false => exact ⟨k, by simp [balance, bal1, bal2, bal3, V, red_node, left_node, right_node, turnLeft, hL, setLeft, u3, u4, v, u1, u2]⟩
      | true =>
        rcases L with _ | ⟨g1, c1, l1, x1, r1⟩
        · simp [red] at hL
        · simp [red] at hL
          subst hL
          obtain ⟨v1, v2, v3, v4⟩ := v
          exact ⟨k + 1, by simp [balance, bal1, bal2, bal3, V, red_node, left_node, right_node, flip, neg, setLeft, v1, v2, v3, v4, u1, u2, u3, u4]⟩
  · rw [f] at ha ⊢
    obtain ⟨v, w⟩ := ha _ f2
    have w := w rfl
    simp only [setLeft]
    rw [bal_same w rfl]
    exact ⟨_, v, f3, rfl⟩

/-- What becomes of a node when a thing went from its right part. -/
theorem right_after {g : Nat} {l r R : Tr α} {x : α} (z : α) {h : Nat} (hv : V (node g true l x r) h) (hn : r ≠ nil) (ha : Aft (node g true l x r).lendRight.right R) (hd : AftD (node g true l x r).lendRight.right R) :
    V (balance ((node g true l x r).lendRight.setRight R |>.setThing z)) h := by
  obtain ⟨hl, hr, h3, h4⟩ := hv
  rcases lendR (g := g) (c := true) (x := x) hl hr hn h3 h4 with ⟨a, b⟩ | ⟨a, b, k, rfl, d, f, f2, f3, f4, f5, f6⟩ | ⟨a, b, k, rfl, g2, a', y, b', er, f, f2, f3, f4, f5⟩
  · rw [b] at ha ⊢
    obtain ⟨v, w⟩ := ha h hr
    simp only [setRight, setThing]
    rw [bal_same h3 (w h4)]
    exact ⟨hl, v, h3, w h4⟩
  · rw [d] at ha ⊢
    obtain ⟨v, w⟩ := ha k f2
    exact (bal_black f v g z).1
  · rw [f] at hd ⊢
    obtain ⟨v, w⟩ := hd k f4
    simp only [setRight, setThing]
    rw [bal_same f3 w]
    exact ⟨f2, v, f3, w⟩
theorem right_afterA {g : Nat} {c : Bool} {l r R : Tr α} {x : α} (z : α) {h : Nat} (hl : V l h) (hr : V r h) (h3 : l.red = false) (h4 : r.red = false) (hn : r ≠ nil) (ha : Aft (node g c l x r).lendRight.right R) (hd : AftD (node g c l x r).lendRight.right R) :
    ∃ k, V (balance ((node g c l x r).lendRight.setRight R |>.setThing z)).left k ∧ V (balance ((node g c l x r).lendRight.setRight R |>.setThing z)).right k ∧ (balance ((node g c l x r).lendRight.setRight R |>.setThing z)).right.red = false := by
  rcases lendR (g := g) (c := c) (x := x) hl hr hn h3 h4 with ⟨a, b⟩ | ⟨a, b, k, rfl, d, f, f2, f3, f4, f5, f6⟩ | ⟨a, b, k, rfl, g2, a', y, b', er, f, f2, f3, f4, f5⟩
  · rw [b] at ha ⊢
    obtain ⟨v, w⟩ := ha h hr
    simp only [setRight, setThing]
    rw [bal_same h3 (w h4)]
    exact ⟨h, hl, v, w h4⟩
  · rw [d] at ha ⊢
    obtain ⟨v, w⟩ := ha k f2
    rcases l with _ | ⟨g2, c2, l2, x2, r2⟩
    · exact absurd rfl f6
    · simp only [neg, red_node] at f f3 f5 ⊢
      simp at f3
      subst f3
      obtain ⟨u1, u2, u3, u4⟩ := f
      cases hL : R.red with
      | false => exact ⟨k, by simp [balance, bal1, bal2, bal3, V, red_node, left_node, right_node, hL, setRight, setThing, u3, u4, v, u1, u2]⟩
      | true =>
        rcases R with _ | ⟨g1, c1, l1, x1, r1⟩
        · simp [red] at hL
        · simp [red] at hL
          subst hL
          obtain ⟨v1, v2, v3, v4⟩ := v
          exact ⟨k + 1, by simp [balance, bal1, bal2, bal3, V, red_node, left_node, right_node, flip, neg, setRight, setThing, v1, v2, v3, v4, u1, u2, u3, u4]⟩
  · rw [f] at hd ⊢
    obtain ⟨v, w⟩ := hd k f4
    simp only [setRight, setThing]
    rw [bal_same f3 w]
    exact ⟨_, f2, v, w⟩

/-- A root that is black, and whose left part is red, is turned first. -/
theorem up1_black {g : Nat} {l r : Tr α} {x : α} {h : Nat} (hl : V l h) (hr : V r h) (hred : l.red = true) (h4 : r.red = false) :
    ∃ g2 a y b, l = node g2 true a y b ∧ (node g false l x r).up1 = node g2 false a y (node g true b x r) ∧ (node g false l x r).up1.lendRight = node g2 false a y (node g true b x r) ∧ V a h ∧ a.red = false ∧ V (node g true b x r) h := by
  rcases l with _ | ⟨g2, c2, a, y, b⟩
  · simp [red] at hred
  · simp [red] at hred
    subst hred
    obtain ⟨v1, v2, v3, v4⟩ := hl
    exact ⟨g2, a, y, b, rfl, by simp [up1, left, red, turnRight], by simp [up1, left, red, turnRight, lendRight, right, lend], v1, v3, v2, hr, v4, h4⟩
theorem up1_same {g : Nat} {c : Bool} {l r : Tr α} {x : α} (h3 : l.red = false) : (node g c l x r).up1 = node g c l x r := by simp [up1, left, h3]

theorem remL_main (n : Nat) : ∀ t : Tr α, t.size ≤ n →
    (∀ h, V t h → t.lend = true → V (remL n t) h ∧ (t.red = false → (remL n t).red = false) ∧ (remL n t).list = t.list.tail) := by
  induction n with
  | zero =>
    intro t hs h hv hle
    cases t with
    | nil => simp [lend] at hle
    | node g c l x r => simp only [size] at hs; omega
  | succ n ih =>
    intro t hs h hv hle
    cases t with
    | nil => simp [lend] at hle
    | node g c l x r =>
      rw [remL, left_node]
      cases hn : l.isNil with
      | true =>
        rw [isNil_iff] at hn
        subst hn
        cases c with
        | true =>
          obtain ⟨h1, h2, h3, h4⟩ := hv
          simp [V] at h1
          subst h1
          have := h2.nil_of h4
          subst this
          simp [V, red, list]
        | false => simp [lend, red] at hle
      | false =>
        rw [isNil_no] at hn
        rw [if_neg (by simp)]
        have hT : (node g c l x r).lendLeft.list = (node g c l x r).list := list_lendLeft _
        have hne := ne_nil_of_list hT (by simp)
        have hsz : (node g c l x r).lendLeft.left.size ≤ n := by
          have := size_left_lt _ hne
          rw [size_of_list hT] at this
          omega
        have hpre : ∃ k, V (node g c l x r).lendLeft.left k ∧ (node g c l x r).lendLeft.left.lend = true := by
          cases c with
          | true => exact left_pre hv.1 hv.2.1 hn hv.2.2.2
          | false => obtain ⟨k, rfl, h1, h2, h3⟩ := hv; exact left_pre h1 h2 hn h3
        obtain ⟨k, p1, p2⟩ := hpre
        obtain ⟨q1, q2, q3⟩ := ih _ hsz k p1 p2
        have haft : Aft (node g c l x r).lendLeft.left (remL n (node g c l x r).lendLeft.left) := fun h' hv' => ⟨(ih _ hsz h' hv' p2).1, q2⟩
        obtain ⟨r1, r2⟩ := left_after hv hle hn haft
        refine ⟨r1, fun e => r2 e, ?_⟩
        rw [list_balance]
        generalize (node g c l x r).lendLeft = T at *
        cases T with
        | nil => exact absurd rfl hne
        | node g' c' l' x' r' =>
          simp only [left] at q3 p2
          simp only [setLeft, list, left, q3] at hT ⊢
          rw [← hT]
          have hne' : l'.list ≠ [] := by
            cases l' with
            | nil => simp [lend] at p2
            | node g2 c2 l2 x2 r2 => simp [list]
          rw [List.tail_append_of_ne_nil hne']

end Tr
end Go.Proofs.Ytcnmobehamgmbaa

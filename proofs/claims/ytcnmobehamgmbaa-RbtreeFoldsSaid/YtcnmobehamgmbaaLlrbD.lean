/- Trees that lean to the left, by themselves: a thing goes. -/
import Derived.Test.YtcnmobehamgmbaaLlrbC
namespace Go.Proofs.Ytcnmobehamgmbaa
namespace Tr
variable {α : Type}

theorem thing_node {g : Nat} {c : Bool} {l r : Tr α} {x d : α} : (node g c l x r).thing d = x := rfl

/-- From which parts a thing may go: one that can lend, one that leans to the right for a while, or a root. -/
def Pre (lt : α → α → Bool) (x : α) (t : Tr α) : Prop :=
  (∃ h, V t h ∧ t.lend = true) ∨ (∃ h, PD t h ∧ lt x (t.thing x) = false) ∨ ∃ h, PA t h

theorem Pre.kids {lt : α → α → Bool} {x y : α} {g : Nat} {c : Bool} {l r : Tr α} (hp : Pre lt x (node g c l y r)) : ∃ h, V l h ∧ V r h ∧
    ((l.red = false ∧ r.red = false) ∨ (c = false ∧ l.red = true ∧ r.red = false) ∨ (c = false ∧ l.red = false ∧ r.red = true ∧ lt x y = false)) := by
  rcases hp with ⟨h, hv, hl⟩ | ⟨h, ⟨p1, p2, p3, p4, p5, p6⟩, hx⟩ | ⟨h, p1, p2, p3, p4, p5⟩
  · cases c with
    | true => obtain ⟨v1, v2, v3, v4⟩ := hv; exact ⟨h, v1, v2, Or.inl ⟨v3, v4⟩⟩
    | false => obtain ⟨k, rfl, v1, v2, v3⟩ := hv; exact ⟨k, v1, v2, Or.inr (Or.inl ⟨rfl, by simpa [lend] using hl, v3⟩)⟩
  · exact ⟨h, p3, p4, Or.inr (Or.inr ⟨p2, p5, p6, hx⟩)⟩
  · exact ⟨h, p2, p3, Or.inl ⟨p4, p5⟩⟩

/-- A part of a split list. -/
theorem mem_left_of_split {A B L R : List α} {m y : α} (h : L ++ y :: R = A ++ m :: B) {z : α} (hz : z ∈ L) : z ∈ A ∨ z = m ∨ z ∈ B := by
  have : z ∈ A ++ m :: B := by rw [← h]; simp [hz]
  simpa using this

theorem go_left {lt : α → α → Bool} {x y m : α} {A B : List α} {g : Nat} {c : Bool} {l r : Tr α} (hp : Pre lt x (node g c l y r)) (hh : Has lt x A m B) (hs : (node g c l y r).list = A ++ m :: B) (hlt : lt x y = true) :
    l ≠ nil ∧ (l.lend = false → r ≠ nil) ∧ (∃ k, V (node g c l y r).lendLeft.left k) ∧ (node g c l y r).lendLeft.left.lend = true ∧
    ∃ B', (node g c l y r).lendLeft.left.list = A ++ m :: B' ∧ B = B' ++ (node g c l y r).lendLeft.thing x :: (node g c l y r).lendLeft.right.list := by
  obtain ⟨h, v1, v2, hc⟩ := hp.kids
  obtain ⟨B1, e1, e2⟩ := part_left (z := y) (L := l.list) (R := r.list) hs.symm (fun a ha => (hh.low a ha).2) hh.mid.1 hlt
  have hn : l ≠ nil := by intro e; subst e; simp [list] at e1
  have hr : r.red = false := by
    rcases hc with hc | hc | hc
    · exact hc.2
    · exact hc.2.2
    · rw [hc.2.2.2] at hlt; exact absurd hlt (by simp)
  obtain ⟨k, k1, k2⟩ := left_pre (g := g) (c := c) (x := y) v1 v2 hn hr
  refine ⟨hn, fun hle => ?_, ⟨k, k1⟩, k2, ?_⟩
  · rcases lendL (g := g) (c := c) (x := y) v1 v2 hn hr with ⟨a, b⟩ | ⟨a, b, k, e, d, f, f2, f3, f4, f5, f6⟩ | ⟨a, b, k, e, g2, g3, a', z, b', y', e', er, f, f2, f3, f4, f5⟩
    · rw [a] at hle; exact absurd hle (by simp)
    · exact f6
    · exact f5
  · rcases lendL (g := g) (c := c) (x := y) v1 v2 hn hr with ⟨a, b⟩ | ⟨a, b, k, e, d, f, f2, f3, f4, f5, f6⟩ | ⟨a, b, k, e, g2, g3, a', z, b', y', e', er, f, f2, f3, f4, f5⟩
    · rw [b]; exact ⟨B1, e1, e2⟩
    · rw [d]; exact ⟨B1, by simp [left, e1], by simp [right, thing, e2]⟩
    · rw [f]
      refine ⟨B1 ++ y :: a'.list, by simp [left, list, e1], ?_⟩
      subst er
      rw [e2]
      simp [list, right, thing]

theorem go_right {lt : α → α → Bool} {x y m : α} {A B : List α} {g : Nat} {c : Bool} {l r : Tr α} (hp : Pre lt x (node g c l y r)) (hh : Has lt x A m B) (hs : (node g c l y r).list = A ++ m :: B) (hlt : lt x y = false) :
    (((node g c l y r).up1.right = nil ∧ A = [] ∧ B = [] ∧ l = nil ∧ r = nil) ∨
     ((node g c l y r).up1.right ≠ nil ∧ ((node g c l y r).up1.right.lend = false → (node g c l y r).up1.left ≠ nil) ∧ (node g c l y r).up1.lendRight ≠ nil ∧
      (lt ((node g c l y r).up1.lendRight.thing x) x = true → ((∃ k, V (node g c l y r).up1.lendRight.right k ∧ (node g c l y r).up1.lendRight.right.lend = true) ∨ (∃ k, PD (node g c l y r).up1.lendRight.right k ∧ lt x ((node g c l y r).up1.lendRight.right.thing x) = false)) ∧
        ∃ A', (node g c l y r).up1.lendRight.right.list = A' ++ m :: B ∧ A = (node g c l y r).up1.lendRight.left.list ++ (node g c l y r).up1.lendRight.thing x :: A') ∧
      (lt ((node g c l y r).up1.lendRight.thing x) x = false → (∃ k, V (node g c l y r).up1.lendRight.right k ∧ (node g c l y r).up1.lendRight.right.lend = true) ∧
        (node g c l y r).up1.lendRight.left.list = A ∧ (node g c l y r).up1.lendRight.right.list = B))) := by
  obtain ⟨h, v1, v2, hc⟩ := hp.kids
  -- the thing at the top is no greater than x
  have key : ∀ T : Tr α, T ≠ nil → T.list = A ++ m :: B → lt x (T.thing x) = false → lt (T.thing x) x = true → ∃ A', T.right.list = A' ++ m :: B ∧ A = T.left.list ++ T.thing x :: A' := by
    intro T hT e _ h2
    cases T with
    | nil => exact absurd rfl hT
    | node g' c' l' y' r' => exact part_right (z := y') (L := l'.list) (R := r'.list) e.symm (fun b hb => (hh.high b hb).2) hh.mid.2 h2
  have here : ∀ T : Tr α, T ≠ nil → T.list = A ++ m :: B → lt x (T.thing x) = false → lt (T.thing x) x = false → T.left.list = A ∧ T.right.list = B := by
    intro T hT e h1 h2
    cases T with
    | nil => exact absurd rfl hT
    | node g' c' l' y' r' =>
      have := part_here (z := y') (L := l'.list) (R := r'.list) e.symm (fun a ha => (hh.low a ha).1) (fun b hb => (hh.high b hb).1) h1 h2
      exact ⟨this.1, this.2.1⟩
  -- what stands ahead of y is no greater than x
  have low : ∀ z ∈ l.list, lt z x = true ∧ lt x z = false := by
    intro z hz
    have hy : y ∈ A ∨ y = m := by
      have : y ∈ A ++ m :: B := by rw [← hs]; simp [list]
      rcases List.mem_append.1 this with h1 | h1
      · exact Or.inl h1
      · rcases List.mem_cons.1 h1 with h2 | h2
        · exact Or.inr h2
        · rw [(hh.high y h2).1] at hlt; exact absurd hlt (by simp)
    cases hyx : lt y x with
    | true =>
      obtain ⟨A', _, e⟩ := part_right (z := y) (L := l.list) (R := r.list) hs.symm (fun b hb => (hh.high b hb).2) hh.mid.2 hyx
      exact hh.low z (by rw [e]; simp [hz])
    | false =>
      have := part_here (z := y) (L := l.list) (R := r.list) hs.symm (fun a ha => (hh.low a ha).1) (fun b hb => (hh.high b hb).1) hlt hyx
      exact hh.low z (by rw [← this.1]; exact hz)
  rcases hc with ⟨c1, c2⟩ | ⟨c0, c1, c2⟩ | ⟨c0, c1, c2, c3⟩
  · rw [up1_same c1]
    cases hr : r.isNil with
    | true =>
      rw [isNil_iff] at hr
      subst hr
      simp [V] at v2
      subst v2
      have := v1.nil_of c1
      subst this
      left
      simp [list] at hs
      have : A = [] ∧ B = [] := by
        cases A with
        | nil => simp at hs; exact ⟨rfl, hs.2⟩
        | cons a as => simp at hs
      exact ⟨rfl, this.1, this.2, rfl, rfl⟩
    | false =>
      rw [isNil_no] at hr
      right
      refine ⟨hr, ?_, ?_⟩
      · intro hle
        rcases lendR (g := g) (c := c) (x := y) v1 v2 hr c1 c2 with ⟨a, b⟩ | ⟨a, b, k, e, d, f, f2, f3, f4, f5, f6⟩ | ⟨a, b, k, e, g2, a', y', b', er, f, f2, f3, f4, f5⟩
        · simp only [right_node] at hle; rw [a] at hle; exact absurd hle (by simp)
        · exact f6
        · exact f5
      · have hT : (node g c l y r).lendRight.list = A ++ m :: B := by rw [list_lendRight, hs]
        have hne := ne_nil_of_list (t := (node g c l y r).lendRight) (u := node g c l y r) (list_lendRight _) (by simp)
        refine ⟨hne, ?_⟩
        rcases lendR (g := g) (c := c) (x := y) v1 v2 hr c1 c2 with ⟨a, b⟩ | ⟨a, b, k, e, d, f, f2, f3, f4, f5, f6⟩ | ⟨a, b, k, e, g2, a', y', b', er, f, f2, f3, f4, f5⟩
        · rw [b] at hT ⊢
          exact ⟨fun hx => ⟨Or.inl ⟨h, v2, a⟩, key _ (by simp) hT hlt hx⟩, fun hx => ⟨⟨h, v2, a⟩, here _ (by simp) hT hlt hx⟩⟩
        · rw [d] at hT ⊢
          exact ⟨fun hx => ⟨Or.inl ⟨k, f2, lend_red f4⟩, key _ (by simp) hT hlt hx⟩, fun hx => ⟨⟨k, f2, lend_red f4⟩, here _ (by simp) hT hlt hx⟩⟩
        · rw [f] at hT ⊢
          have hy' := low y' (by rw [er]; simp [list])
          refine ⟨fun hx => ⟨Or.inr ⟨k, f4, hlt⟩, key _ (by simp) hT hy'.2 hx⟩, fun hx => ?_⟩
          simp only [thing_node] at hx
          rw [hy'.1] at hx; exact absurd hx (by simp)
  · subst c0
    obtain ⟨g2, a, z, b, el, u1, u2, w1, w2, w3⟩ := up1_black (g := g) (x := y) v1 v2 c1 c2
    have hT : (node g false l y r).up1.lendRight.list = A ++ m :: B := by rw [list_lendRight, list_up1, hs]
    have hz := low z (by rw [el]; simp [list])
    right
    rw [u2] at hT ⊢
    rw [u1]
    refine ⟨by simp [right], by simp [right, lend], by simp, fun hx => ⟨Or.inl ⟨h, w3, by simp [right, lend]⟩, key _ (by simp) hT hz.2 hx⟩, fun hx => ?_⟩
    simp only [thing_node] at hx
    rw [hz.1] at hx; exact absurd hx (by simp)
  · subst c0
    rw [up1_same c1]
    have hrl : r.lend = true := lend_red c2
    have hr : r ≠ nil := by intro e; subst e; simp [red] at c2
    have e : (node g false l y r).lendRight = node g false l y r := by simp [lendRight, right, hrl]
    right
    rw [e]
    refine ⟨hr, fun hle => ?_, by simp, fun hx => ⟨Or.inl ⟨h, v2, hrl⟩, key _ (by simp) hs hlt hx⟩, fun hx => ⟨⟨h, v2, hrl⟩, here _ (by simp) hs hlt hx⟩⟩
    simp only [right_node] at hle; rw [hrl] at hle; exact absurd hle (by simp)

theorem ne_of_Pre {lt : α → α → Bool} {x : α} {t : Tr α} (h : Pre lt x t) : t ≠ nil := by
  rcases h with ⟨h, hv, hl⟩ | ⟨h, hp, _⟩ | ⟨h, hp⟩
  · intro e; subst e; simp [lend] at hl
  · exact hp.1
  · exact hp.1

theorem setThing_thing {t : Tr α} (z R : Tr α) (d : α) : (t.setRight R).setThing (t.thing d) = t.setRight R := by cases t <;> rfl

theorem rem_main (lt : α → α → Bool) (x : α) (n : Nat) : ∀ (t : Tr α) (A : List α) (m : α) (B : List α), t.size ≤ n → Pre lt x t → Has lt x A m B → t.list = A ++ m :: B →
    (rem lt n x t).list = A ++ B ∧ (∀ h, V t h → t.lend = true → V (rem lt n x t) h ∧ (t.red = false → (rem lt n x t).red = false)) ∧
    (∀ h, PD t h → lt x (t.thing x) = false → V (rem lt n x t) (h + 1) ∧ (rem lt n x t).red = false) ∧
    (∀ h, PA t h → rem lt n x t = nil ∨ ∃ k, V (rem lt n x t).left k ∧ V (rem lt n x t).right k ∧ (rem lt n x t).right.red = false) := by
  induction n with
  | zero =>
    intro t A m B hs hp _ hl
    have := ne_of_Pre hp
    cases t with
    | nil => exact absurd rfl this
    | node g c l y r => simp only [size] at hs; omega
  | succ n ih =>
    intro t A m B hs hp hh hl
    cases t with
    | nil => exact absurd rfl (ne_of_Pre hp)
    | node g c l y r =>
      cases hlt : lt x y with
      | true =>
        obtain ⟨hn, _, ⟨k, k1⟩, k2, B', e1, e2⟩ := go_left hp hh hl hlt
        have hT : (node g c l y r).lendLeft.list = (node g c l y r).list := list_lendLeft _
        have hne := ne_nil_of_list hT (by simp)
        have hsz : (node g c l y r).lendLeft.left.size ≤ n := by
          have := size_left_lt _ hne
          rw [size_of_list hT] at this
          omega
        have hh' : Has lt x A m B' := ⟨hh.low, fun b hb => hh.high b (by rw [e2]; simp [hb]), hh.mid⟩
        obtain ⟨q1, q2, _, _⟩ := ih _ A m B' hsz (Or.inl ⟨k, k1, k2⟩) hh' e1
        have haft : Aft (node g c l y r).lendLeft.left (rem lt n x (node g c l y r).lendLeft.left) := fun h' hv' => q2 h' hv' k2
        simp only [rem, hlt, if_true]
        refine ⟨?_, fun h hv hle => ?_, fun h hd hx => ?_, fun h ha => ?_⟩
        · rw [list_balance]
          generalize (node g c l y r).lendLeft = T at *
          cases T with
          | nil => exact absurd rfl hne
          | node g' c' l' x' r' =>
            simp only [left, right, thing] at q1 e2
            simp only [setLeft, list, left, q1, e2]
            simp
        · exact left_after hv hle hn haft
        · simp only [thing_node] at hx; rw [hx] at hlt; exact absurd hlt (by simp)
        · exact Or.inr (left_afterA ha.2.1 ha.2.2.1 ha.2.2.2.1 ha.2.2.2.2 hn haft)
      | false =>
        rcases go_right hp hh hl hlt with ⟨u1, rfl, rfl, rfl, rfl⟩ | ⟨hr, _, hne, hgo, hat⟩
        · have e : rem lt (n + 1) x (node g c nil y nil) = nil := by simp [rem, hlt, u1, isNil]
          rw [e]
          refine ⟨rfl, fun h hv hle => ?_, fun h hd hx => ?_, fun h ha => Or.inl rfl⟩
          · cases c with
            | true => exact ⟨hv.1, fun _ => rfl⟩
            | false => simp [lend, red] at hle
          · have := hd.2.2.2.2.2; simp [right, red] at this
        · have hT : (node g c l y r).up1.lendRight.list = (node g c l y r).list := by rw [list_lendRight, list_up1]
          have hsz : (node g c l y r).up1.lendRight.right.size ≤ n := by
            have := size_right_lt _ hne
            rw [size_of_list hT] at this
            omega
          -- the part that comes in the right one's place
          have main : ∃ z R, rem lt (n + 1) x (node g c l y r) = balance (((node g c l y r).up1.lendRight.setRight R).setThing z) ∧ Aft (node g c l y r).up1.lendRight.right R ∧ AftD (node g c l y r).up1.lendRight.right R ∧
              (node g c l y r).up1.lendRight.left.list ++ z :: R.list = A ++ B := by
            have hrn : (node g c l y r).up1.right.isNil = false := by rw [isNil_no]; exact hr
            cases hx : lt ((node g c l y r).up1.lendRight.thing x) x with
            | true =>
              obtain ⟨hpr, A', e1, e2⟩ := hgo hx
              have hh' : Has lt x A' m B := ⟨fun a ha => hh.low a (by rw [e2]; simp [ha]), hh.high, hh.mid⟩
              have hp' : Pre lt x (node g c l y r).up1.lendRight.right := by
                rcases hpr with h1 | h1
                · exact Or.inl h1
                · exact Or.inr (Or.inl h1)
              obtain ⟨q1, q2, q3, _⟩ := ih _ A' m B hsz hp' hh' e1
              refine ⟨(node g c l y r).up1.lendRight.thing x, rem lt n x (node g c l y r).up1.lendRight.right, ?_, fun h hv => ?_, fun h hd => ?_, ?_⟩
              · rw [setThing_thing nil]
                simp only [rem, hlt, hrn, hx, if_true, if_false, Bool.false_eq_true]
              · rcases hpr with ⟨k, _, h2⟩ | ⟨k, h1, _⟩
                · exact q2 h hv h2
                · exfalso
                  obtain ⟨p1, p2, p3, p4, p5, p6⟩ := h1
                  generalize (node g c l y r).up1.lendRight.right = U at *
                  cases U with
                  | nil => exact absurd rfl p1
                  | node g' c' l' x' r' =>
                    simp only [red_node] at p2
                    subst p2
                    obtain ⟨_, _, _, _, b⟩ := hv
                    simp only [right_node] at p6
                    rw [p6] at b; exact absurd b (by simp)
              · rcases hpr with ⟨k, h1, h2⟩ | ⟨k, _, h2⟩
                · exfalso
                  obtain ⟨p1, p2, p3, p4, p5, p6⟩ := hd
                  generalize (node g c l y r).up1.lendRight.right = U at *
                  cases U with
                  | nil => exact absurd rfl p1
                  | node g' c' l' x' r' =>
                    simp only [red_node] at p2
                    subst p2
                    simp only [lend, left_node] at h2 p5
                    rw [p5] at h2; exact absurd h2 (by simp)
                · exact q3 h hd h2
              · rw [q1, e2]; simp
            | false =>
              obtain ⟨⟨k, k1, k2⟩, e1, e2⟩ := hat hx
              have q := remL_main n _ hsz
              refine ⟨(node g c l y r).up1.lendRight.right.least ((node g c l y r).up1.lendRight.thing x), remL n (node g c l y r).up1.lendRight.right, ?_, fun h hv => ?_, fun h hd => ?_, ?_⟩
              · simp only [rem, hlt, hrn, hx, if_false, Bool.false_eq_true]
              · exact ⟨(q h hv k2).1, (q h hv k2).2.1⟩
              · exfalso
                obtain ⟨p1, p2, p3, p4, p5, p6⟩ := hd
                generalize (node g c l y r).up1.lendRight.right = U at *
                cases U with
                | nil => exact absurd rfl p1
                | node g' c' l' x' r' =>
                  simp only [red_node] at p2
                  subst p2
                  simp only [lend, left_node] at k2 p5
                  rw [p5] at k2; exact absurd k2 (by simp)
              · rw [(q k k1 k2).2.2, e1, ← least_list, ← e2]
                have : (node g c l y r).up1.lendRight.right.list ≠ [] := by
                  intro e
                  have : (node g c l y r).up1.lendRight.right.size = 0 := by rw [size_eq, e]; rfl
                  cases hU : (node g c l y r).up1.lendRight.right with
                  | nil => rw [hU] at k2; simp [lend] at k2
                  | node g' c' l' x' r' => rw [hU] at this; simp only [size] at this; omega
                cases hU : (node g c l y r).up1.lendRight.right.list with
                | nil => exact absurd hU this
                | cons d ds => simp
          obtain ⟨z, R, er, haft, haftD, hlist⟩ := main
          rw [er]
          refine ⟨?_, fun h hv hle => ?_, fun h hd hx => ?_, fun h ha => ?_⟩
          · rw [list_balance]
            generalize (node g c l y r).up1.lendRight = T at *
            cases T with
            | nil => exact absurd rfl hne
            | node g' c' l' x' r' => simp only [setRight, setThing, list]; exact hlist
          · cases c with
            | true =>
              rw [up1_same hv.2.2.1] at haft haftD hr ⊢
              exact ⟨right_after z hv hr haft haftD, fun e => by simp [red] at e⟩
            | false =>
              obtain ⟨k, rfl, v1, v2, v3⟩ := hv
              obtain ⟨g2, a, y', b, el, w1, w2, w3, w4, w5⟩ := up1_black (g := g) (x := y) v1 v2 (by simpa [lend] using hle) v3
              rw [w2] at haft ⊢
              obtain ⟨b1, b2⟩ := haft k w5
              exact ⟨(bal_black w3 b1 g2 z).1, fun _ => (bal_black w3 b1 g2 z).2 (Or.inl w4)⟩
          · obtain ⟨p1, p2, p3, p4, p5, p6⟩ := hd
            simp only [red_node, left_node, right_node] at p2 p3 p4 p5 p6
            subst p2
            have e : (node g false l y r).up1.lendRight = node g false l y r := by rw [up1_same p5]; simp [lendRight, right, lend_red p6]
            rw [e] at haft ⊢
            obtain ⟨b1, b2⟩ := haft h p4
            exact ⟨(bal_black p3 b1 g z).1, (bal_black p3 b1 g z).2 (Or.inl p5)⟩
          · have a4 : l.red = false := ha.2.2.2.1
            rw [up1_same a4] at haft haftD hr ⊢
            exact Or.inr (right_afterA z ha.2.1 ha.2.2.1 ha.2.2.2.1 ha.2.2.2.2 hr haft haftD)

end Tr
end Go.Proofs.Ytcnmobehamgmbaa

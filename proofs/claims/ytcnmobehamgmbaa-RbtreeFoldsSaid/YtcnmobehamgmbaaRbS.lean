/- Lists of whole numbers in order: what comes, and what goes. -/
import Derived.Test.YtcnmobehamgmbaaLlrbE
namespace Go.Proofs.Ytcnmobehamgmbaa

def ltI (a b : Int) : Bool := decide (a < b)
def Srt (L : List Int) : Prop := L.Pairwise (· < ·)
def insL (x : Int) (L : List Int) : List Int := L.takeWhile (fun y => !ltI x y) ++ x :: L.dropWhile (fun y => !ltI x y)
def delL (x : Int) (L : List Int) : List Int := L.filter (fun y => y != x)
def Tr.has {α : Type} (lt : α → α → Bool) (x : α) : Tr α → Bool
  | .nil => false
  | .node _ _ l y r => if lt x y then Tr.has lt x l else if lt y x then Tr.has lt x r else true

theorem ltI_iff (a b : Int) : ltI a b = true ↔ a < b := by simp [ltI]
theorem ltI_no (a b : Int) : ltI a b = false ↔ b ≤ a := by simp [ltI]

theorem takeWhile_all {p : Int → Bool} (L : List Int) : ∀ a ∈ L.takeWhile p, p a = true := by
  induction L with
  | nil => intro a h; simp at h
  | cons b bs ih =>
    intro a h
    rw [List.takeWhile_cons] at h
    split at h
    · rcases List.mem_cons.1 h with rfl | h
      · assumption
      · exact ih a h
    · simp at h
theorem dropWhile_gt {x : Int} {L : List Int} (h : Srt L) : ∀ b ∈ L.dropWhile (fun y => !ltI x y), x < b := by
  induction L with
  | nil => intro b hb; simp at hb
  | cons a as ih =>
    intro b hb
    rw [List.dropWhile_cons] at hb
    split at hb
    · exact ih (List.Pairwise.of_cons h) b hb
    · rename_i hp
      have ha : x < a := by simpa [ltI] using hp
      rcases List.mem_cons.1 hb with rfl | hb
      · exact ha
      · have := (List.pairwise_cons.1 h).1 b hb
        omega
theorem take_le {x : Int} {L : List Int} : ∀ a ∈ L.takeWhile (fun y => !ltI x y), a ≤ x := fun a ha => by
  have := takeWhile_all L a ha
  simpa [ltI] using this
theorem take_drop (x : Int) (L : List Int) : L.takeWhile (fun y => !ltI x y) ++ L.dropWhile (fun y => !ltI x y) = L := List.takeWhile_append_dropWhile
theorem Srt.ins {x : Int} {L : List Int} (h : Srt L) (hx : x ∉ L) : Srt (insL x L) := by
  have e := take_drop x L
  unfold Srt at h
  rw [← e, List.pairwise_append] at h
  unfold insL Srt
  rw [List.pairwise_append, List.pairwise_cons]
  refine ⟨h.1, ⟨fun b hb => dropWhile_gt (by unfold Srt; rw [← e, List.pairwise_append]; exact h) b hb, h.2.1⟩, fun a ha b hb => ?_⟩
  rcases List.mem_cons.1 hb with rfl | hb
  · have h1 := take_le a ha
    have h2 : a ≠ b := fun e' => hx (by have h3 := List.mem_append_left (L.dropWhile (fun y => !ltI b y)) ha; rw [e, e'] at h3; exact h3)
    omega
  · exact h.2.2 a ha b hb
theorem Srt.split {x : Int} {L : List Int} (h : Srt L) (hx : x ∈ L) : ∃ A B, L = A ++ x :: B ∧ (∀ a ∈ A, a < x) ∧ (∀ b ∈ B, x < b) := by
  obtain ⟨A, B, rfl⟩ := List.append_of_mem hx
  refine ⟨A, B, rfl, fun a ha => ?_, fun b hb => ?_⟩
  · unfold Srt at h; rw [List.pairwise_append] at h; exact h.2.2 a ha x (by simp)
  · unfold Srt at h; rw [List.pairwise_append, List.pairwise_cons] at h; exact h.2.1.1 b hb
theorem Srt.has {x : Int} {A B : List Int} (ha : ∀ a ∈ A, a < x) (hb : ∀ b ∈ B, x < b) : Tr.Has ltI x A x B :=
  ⟨fun a h => by have := ha a h; exact ⟨(ltI_iff _ _).2 this, (ltI_no _ _).2 (by omega)⟩, fun b h => by have := hb b h; exact ⟨(ltI_iff _ _).2 this, (ltI_no _ _).2 (by omega)⟩, by simp [ltI]⟩
theorem delL_split {x : Int} {A B : List Int} (ha : ∀ a ∈ A, a < x) (hb : ∀ b ∈ B, x < b) : delL x (A ++ x :: B) = A ++ B := by
  unfold delL
  rw [List.filter_append, List.filter_cons]
  have h1 : A.filter (fun y => y != x) = A := List.filter_eq_self.2 (fun a h => by have := ha a h; simp; omega)
  have h2 : B.filter (fun y => y != x) = B := List.filter_eq_self.2 (fun b h => by have := hb b h; simp; omega)
  simp [h1, h2]
theorem delL_none {x : Int} {L : List Int} (hx : x ∉ L) : delL x L = L := List.filter_eq_self.2 (fun a h => by simp; intro e; subst e; exact hx h)
theorem Srt.del {x : Int} {L : List Int} (h : Srt L) : Srt (delL x L) := List.Pairwise.filter _ h
theorem mem_insL {x y : Int} {L : List Int} : y ∈ insL x L ↔ y = x ∨ y ∈ L := by
  unfold insL
  rw [List.mem_append, List.mem_cons]
  have e := take_drop x L
  constructor
  · rintro (h | h | h)
    · exact Or.inr (by have h3 := List.mem_append_left (L.dropWhile (fun y => !ltI x y)) h; rw [e] at h3; exact h3)
    · exact Or.inl h
    · exact Or.inr (by have h3 := List.mem_append_right (L.takeWhile (fun y => !ltI x y)) h; rw [e] at h3; exact h3)
  · rintro (h | h)
    · exact Or.inr (Or.inl h)
    · rw [← e] at h
      rcases List.mem_append.1 h with h | h
      · exact Or.inl h
      · exact Or.inr (Or.inr h)
theorem mem_delL {x y : Int} {L : List Int} : y ∈ delL x L ↔ y ≠ x ∧ y ∈ L := by unfold delL; simp [List.mem_filter, and_comm]
theorem length_insL (x : Int) (L : List Int) : (insL x L).length = L.length + 1 := by
  unfold insL
  have e := congrArg List.length (take_drop x L)
  simp only [List.length_append, List.length_cons] at e ⊢
  omega
theorem length_delL (x : Int) (L : List Int) : (delL x L).length ≤ L.length := List.length_filter_le _ _

/-- What the search tells. -/
theorem Tr.has_iff (x : Int) (t : Tr Int) : Srt t.list → (Tr.has ltI x t = true ↔ x ∈ t.list) := by
  induction t with
  | nil => intro _; simp [Tr.has, Tr.list]
  | node g c l y r ihl ihr =>
    intro h
    unfold Srt at h
    simp only [Tr.list] at h ⊢
    rw [List.pairwise_append, List.pairwise_cons] at h
    simp only [Tr.has, List.mem_append, List.mem_cons]
    by_cases h1 : x < y
    · rw [if_pos ((ltI_iff _ _).2 h1), ihl h.1]
      constructor
      · exact Or.inl
      · rintro (h2 | h2 | h2)
        · exact h2
        · omega
        · have := h.2.1.1 x h2; omega
    · rw [if_neg (by rw [ltI_iff]; exact h1)]
      by_cases h2 : y < x
      · rw [if_pos ((ltI_iff _ _).2 h2), ihr h.2.1.2]
        constructor
        · exact fun h => Or.inr (Or.inr h)
        · rintro (h3 | h3 | h3)
          · have := h.2.2 x h3 y (by simp); omega
          · omega
          · exact h3
      · rw [if_neg (by rw [ltI_iff]; exact h2)]
        have : x = y := by omega
        simp [this]
theorem Tr.list_put_srt (k : Nat) (x : Int) (t : Tr Int) (h : Srt t.list) (hx : x ∉ t.list) : (Tr.put ltI k x t).list = insL x t.list := by
  rw [Tr.list_put ltI k x t _ _ (take_drop x t.list).symm]
  · rfl
  · intro a ha; exact (ltI_no _ _).2 (take_le a ha)
  · intro b hb; exact (ltI_iff _ _).2 (dropWhile_gt h b hb)

end Go.Proofs.Ytcnmobehamgmbaa

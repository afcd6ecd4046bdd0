/- Slices of structs of any kind: such as a call itself has made, and such as it reads. -/
import Derived.Test.YtegohmeapamoaaaGreatDoorRbM
import Derived.Test.YtegohmeapamoaaaGreatDoorTableOnceZ22
import Derived.Deep.AppendLies
import Derived.Deep.MidRow
namespace Go.Proofs.YtegohmeapamoaaaGreatDoor
open Go.RowKit
theorem Chg.setsG {F : List Nat} {w : World} {g : Nat} : ∀ (vs : List Value) {w' : World} (o : Nat), Chg F w w' → (g ∈ F ∨ w.heap.size ≤ g) → Chg F w (w'.setCells g o vs)
  | [], _, _, h, _ => h
  | v :: r, _, o, h, hg => Chg.setsG r (o + 1) (h.set hg o v) hg
section
variable {α : Type} {enc : α → List Value} {k : Nat} {T : TypeId} {z : α}
/-- A slice of structs of one's own. -/
def OwnG (enc : α → List Value) (k : Nat) (T : TypeId) (w : World) (base : Nat) (A : Option Addr) (n c : Nat) (l : List α) : Prop := w.ownsRow base T k (.slice A n c) n (l.flatMap enc)
/-- A slice of structs that is read. -/
def RdG (enc : α → List Value) (k : Nat) (z : α) (w : World) (A : Option Addr) (n : Nat) (l : List α) : Prop :=
  l.length = n ∧ (0 < n → ∃ b off, A = some ⟨b, off, none⟩ ∧ b < w.heap.size ∧ ∀ j, j < n → w.rangeAt b (off + j * k) (enc (l.getD j z)))
theorem flatG_length (hk : ∀ x, (enc x).length = k) (l : List α) : (l.flatMap enc).length = l.length * k := by
  induction l with
  | nil => simp
  | cons a l ih => rw [List.flatMap_cons, List.length_append, ih, hk, List.length_cons, Nat.add_mul, Nat.one_mul, Nat.add_comm]
theorem flatG_get (hk : ∀ x, (enc x).length = k) (z : α) : ∀ (l : List α) (j i : Nat), j < l.length → i < k → (l.flatMap enc)[j * k + i]? = (enc (l.getD j z))[i]?
  | [], j, i, h, _ => absurd h (by simp)
  | a :: l, 0, i, _, hi => by
    rw [List.flatMap_cons, List.getElem?_append_left (by rw [hk]; omega)]
    simp
  | a :: l, j + 1, i, h, hi => by
    rw [List.flatMap_cons, List.getElem?_append_right (by rw [hk, Nat.add_mul]; omega), hk, show (j + 1) * k + i - k = j * k + i by rw [Nat.add_mul]; omega, flatG_get hk z l j i (by simpa using h) hi]
    simp
theorem flatG_one (h1 : ∀ x, ∀ v ∈ enc x, v.oneCell' = true) (l : List α) : ∀ u ∈ l.flatMap enc, u.oneCell' = true := fun u hu => by
  obtain ⟨x, _, hx⟩ := List.mem_flatMap.1 hu
  exact h1 x u hx
theorem OwnG.nil (w : World) (base : Nat) : OwnG enc k T w base none 0 0 [] := World.ownsRow_nil _ _ _ _
theorem OwnG.len (hk : ∀ x, (enc x).length = k) (h0 : 0 < k) {w : World} {base : Nat} {A : Option Addr} {n c : Nat} {l : List α} (h : OwnG enc k T w base A n c l) : l.length = n := by
  have := h.1
  rw [flatG_length hk] at this
  exact Nat.eq_of_mul_eq_mul_right h0 this
theorem OwnG.cap {w : World} {base : Nat} {A : Option Addr} {n c : Nat} {l : List α} (h : OwnG enc k T w base A n c l) : n ≤ c ∧ c ≤ maxLen := by
  rcases h.2 with ⟨hv, h0⟩ | ⟨g, cap, cur, hv, _, _, h1, h2, _⟩
  · injection hv with _ _ e; exact ⟨by omega, by unfold maxLen; omega⟩
  · injection hv with _ _ e; exact ⟨by omega, by omega⟩
theorem OwnG.rowGe {w : World} {base : Nat} {A : Option Addr} {n c : Nat} {l : List α} (h : OwnG enc k T w base A n c l) : ∀ j ∈ rowOf A, base ≤ j ∧ j < w.heap.size := by
  intro j hj
  rcases h.2 with ⟨hv, _⟩ | ⟨g, cap, cur, hv, hb, hg, _⟩
  · injection hv with e1; subst e1; simp [rowOf] at hj
  · injection hv with e1; subst e1
    have hkg : j = g := by simpa [rowOf, eq_comm] using hj
    rw [hkg]
    exact ⟨hb, (Array.getElem?_eq_some_iff.1 hg).1⟩
theorem OwnG.chg {w w' : World} {base : Nat} {A : Option Addr} {n c : Nat} {l : List α} {F : List Nat} (h : OwnG enc k T w base A n c l) (hc : Chg F w w') (hF : ∀ j ∈ rowOf A, j ∉ F) : OwnG enc k T w' base A n c l := by
  obtain ⟨h1, h2⟩ := h
  refine ⟨h1, ?_⟩
  rcases h2 with h2 | ⟨g, cap, cur, hv, hg, hh, r⟩
  · exact .inl h2
  · refine .inr ⟨g, cap, cur, hv, hg, ?_, r⟩
    have hlt : g < w.heap.size := (Array.getElem?_eq_some_iff.1 hh).1
    injection hv with e1
    subst e1
    rw [hc.block g hlt (hF g (by simp [rowOf]))]
    exact hh
theorem OwnG.below {w w' : World} {base : Nat} {A : Option Addr} {n c : Nat} {l : List α} (h : OwnG enc k T w base A n c l) (hb : Below w.heap.size w w') : OwnG enc k T w' base A n c l := h.chg (Chg.below (F := []) hb) (by simp)
theorem OwnG.alloc {w : World} {base : Nat} {A : Option Addr} {n c : Nat} {l : List α} (h : OwnG enc k T w base A n c l) (o : Obj) : OwnG enc k T (w.alloc o) base A n c l := h.below ((Below.refl _ _).alloc (Nat.le_refl _) o)
theorem OwnG.mono {w : World} {base b : Nat} {A : Option Addr} {n c : Nat} {l : List α} (h : OwnG enc k T w base A n c l) (hb : b ≤ base) : OwnG enc k T w b A n c l := by
  obtain ⟨h1, h2⟩ := h
  refine ⟨h1, ?_⟩
  rcases h2 with h2 | ⟨g, cap, cur, hv, hg, r⟩
  · exact .inl h2
  · exact .inr ⟨g, cap, cur, hv, Nat.le_trans hb hg, r⟩
theorem OwnG.head {w : World} {base : Nat} {A : Option Addr} {n c : Nat} {l : List α} (h : OwnG enc k T w base A n c l) (h0 : 0 < n) : ∃ g, A = some ⟨g, 0, none⟩ ∧ base ≤ g ∧ g < w.heap.size := by
  rcases h.2 with ⟨_, h0'⟩ | ⟨g, cap, cur, hv, hb, hg, _⟩
  · omega
  · injection hv with e1
    exact ⟨g, e1, hb, (Array.getElem?_eq_some_iff.1 hg).1⟩
theorem OwnG.range (hk : ∀ x, (enc x).length = k) (h0 : 0 < k) (z : α) {w : World} {base g : Nat} {n c : Nat} {l : List α} (h : OwnG enc k T w base (some ⟨g, 0, none⟩) n c l) {j : Nat} (hj : j < n) : w.rangeAt g (j * k) (enc (l.getD j z)) := fun i v hv => by
  have hl := h.len hk h0
  have hi : i < k := by rw [← hk (l.getD j z)]; exact (List.getElem?_eq_some_iff.1 hv).1
  have hlt : j * k + i < n * k := by
    have : (j + 1) * k ≤ n * k := Nat.mul_le_mul_right _ hj
    rw [Nat.add_mul] at this
    omega
  have := World.ownsRow.cellAt h (j * k + i) hlt
  rw [this, flatG_get hk z l j i (by omega) hi]
  exact hv
theorem OwnG.rd (hk : ∀ x, (enc x).length = k) (h0 : 0 < k) (z : α) {w : World} {base : Nat} {A : Option Addr} {n c : Nat} {l : List α} (h : OwnG enc k T w base A n c l) : RdG enc k z w A n l := by
  refine ⟨h.len hk h0, fun hn => ?_⟩
  obtain ⟨g, rfl, _, hlt⟩ := h.head hn
  exact ⟨g, 0, rfl, hlt, fun j hj => by rw [Nat.zero_add]; exact h.range hk h0 z hj⟩
theorem RdG.below {w w' : World} {A : Option Addr} {n : Nat} {l : List α} (h : RdG enc k z w A n l) (hb : Below w.heap.size w w') : RdG enc k z w' A n l :=
  ⟨h.1, fun hn => by
    obtain ⟨b, off, e, hlt, hr⟩ := h.2 hn
    exact ⟨b, off, e, Nat.lt_of_lt_of_le hlt hb.size, fun j hj i v hv => (hb.cell (p := ⟨b, off + j * k + i, none⟩) hlt).trans (hr j hj i v hv)⟩⟩
theorem RdG.chg {w w' : World} {A : Option Addr} {n : Nat} {l : List α} {F : List Nat} (h : RdG enc k z w A n l) (hc : Chg F w w') (hF : ∀ j ∈ rowOf A, j ∉ F) : RdG enc k z w' A n l :=
  ⟨h.1, fun hn => by
    obtain ⟨b, off, e, hlt, hr⟩ := h.2 hn
    subst e
    exact ⟨b, off, rfl, Nat.lt_of_lt_of_le hlt hc.size, fun j hj i v hv => (hc.cell (p := ⟨b, off + j * k + i, none⟩) hlt (hF b (by simp [rowOf]))).trans (hr j hj i v hv)⟩⟩
theorem OwnG.there (hk : ∀ x, (enc x).length = k) (h0 : 0 < k) {w : World} {base g : Nat} {n c : Nat} {l : List α} (h : OwnG enc k T w base (some ⟨g, 0, none⟩) n c l) {j : Nat} (hj : j < n) : w.there g (j * k) k := fun i hi => by
  have hl := h.len hk h0
  obtain ⟨z, hz⟩ : ∃ z, l[j]? = some z := ⟨l[j], List.getElem?_eq_getElem (by omega)⟩
  refine ⟨?_, World.ownsRow.frozenAt h _⟩
  have hr := h.range hk h0 z hj
  have hi' : i < (enc (l.getD j z)).length := by rw [hk]; exact hi
  rw [hr i _ (List.getElem?_eq_getElem hi')]
  rfl
/-- Values laid into a list from a place on. -/
def setsAt : List Value → Nat → List Value → List Value
  | xs, _, [] => xs
  | xs, o, v :: r => setsAt (xs.set o v) (o + 1) r
theorem setsAt_get : ∀ (vs xs : List Value) (o i : Nat), o + vs.length ≤ xs.length → (setsAt xs o vs)[i]? = if o ≤ i ∧ i < o + vs.length then vs[i - o]? else xs[i]?
  | [], xs, o, i, h => by simp only [setsAt, List.length_nil]; rw [if_neg (by omega)]
  | v :: vs, xs, o, i, h => by
    simp only [List.length_cons] at h
    rw [setsAt, setsAt_get vs _ _ _ (by rw [List.length_set]; omega)]
    simp only [List.length_cons]
    by_cases h1 : i = o
    · subst h1
      rw [if_neg (by omega), if_pos (by omega), List.getElem?_set_self (by omega), Nat.sub_self]
      rfl
    · by_cases h2 : o + 1 ≤ i ∧ i < o + 1 + vs.length
      · rw [if_pos h2, if_pos (by omega), show i - o = (i - (o + 1)) + 1 by omega, List.getElem?_cons_succ]
      · rw [if_neg h2, if_neg (by omega), List.getElem?_set_ne (by omega)]
theorem setsAt_flat (hk : ∀ x, (enc x).length = k) (h0 : 0 < k) (x : α) (l : List α) (j : Nat) (hj : j < l.length) : setsAt (l.flatMap enc) (j * k) (enc x) = (l.set j x).flatMap enc := by
  have hle : j * k + k ≤ l.length * k := by
    have : (j + 1) * k ≤ l.length * k := Nat.mul_le_mul_right _ hj
    rw [Nat.add_mul] at this; omega
  apply List.ext_getElem?
  intro t
  rw [setsAt_get _ _ _ _ (by rw [hk, flatG_length hk]; exact hle), hk]
  by_cases ht : t < l.length * k
  · obtain ⟨q, i, hi, rfl⟩ : ∃ q i, i < k ∧ t = q * k + i := ⟨t / k, t % k, Nat.mod_lt _ h0, by rw [Nat.mul_comm]; exact (Nat.div_add_mod t k).symm⟩
    have hq : q < l.length := by
      rcases Nat.lt_or_ge q l.length with h | h
      · exact h
      · have : l.length * k ≤ q * k := Nat.mul_le_mul_right _ h
        omega
    rw [flatG_get hk x (l.set j x) q i (by simpa using hq) hi]
    by_cases hqj : q = j
    · subst hqj
      rw [if_pos (by omega)]
      simp [List.getD, hq, show q * k + i - q * k = i by omega]
    · rw [if_neg, flatG_get hk x l q i hq hi]
      · simp [List.getD, List.getElem?_set_ne (Ne.symm hqj)]
      · intro ⟨h1, h2⟩
        rcases Nat.lt_or_gt_of_ne hqj with h | h
        · have : (q + 1) * k ≤ j * k := Nat.mul_le_mul_right _ h
          rw [Nat.add_mul] at this; omega
        · have : (j + 1) * k ≤ q * k := Nat.mul_le_mul_right _ h
          rw [Nat.add_mul] at this; omega
  · rw [if_neg (by omega), List.getElem?_eq_none (by rw [flatG_length hk]; omega), List.getElem?_eq_none (by rw [flatG_length hk, List.length_set]; omega)]
theorem ownsRow_sets {base g n cap : Nat} : ∀ (vs : List Value) (o : Nat) (w : World) (xs : List Value), w.ownsRow base T k (.slice (some ⟨g, 0, none⟩) n cap) n xs → (w.setCells g o vs).ownsRow base T k (.slice (some ⟨g, 0, none⟩) n cap) n (setsAt xs o vs)
  | [], o, w, xs, h => h
  | v :: vs, o, w, xs, h => ownsRow_sets vs (o + 1) _ _ (h.stored o v).1
theorem OwnG.putAt (hk : ∀ x, (enc x).length = k) (h0 : 0 < k) {w : World} {base g : Nat} {n c : Nat} {l : List α} (h : OwnG enc k T w base (some ⟨g, 0, none⟩) n c l) {j : Nat} (hj : j < n) (x : α) : OwnG enc k T (w.setCells g (j * k) (enc x)) base (some ⟨g, 0, none⟩) n c (l.set j x) := by
  have hl := h.len hk h0
  unfold OwnG at h ⊢
  rw [← setsAt_flat hk h0 x l j (by omega)]
  exact ownsRow_sets _ _ _ _ h
end
end Go.Proofs.YtegohmeapamoaaaGreatDoor

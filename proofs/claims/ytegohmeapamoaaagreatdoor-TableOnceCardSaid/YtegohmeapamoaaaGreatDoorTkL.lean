/- A map of who is there, beside a table. -/
import Derived.Test.YtegohmeapamoaaaGreatDoorTableOnceZ28
import Derived.Maps.OwnOps
import Derived.Maps.OwnSet
import Derived.Maps.RangeWalk
namespace Go.Proofs.YtegohmeapamoaaaGreatDoor
open Go.RowKit Go.Maps
theorem lawIM : Keyed Tryz.prog 3 := int_keyed Tryz.underlying3
theorem zeroIM (w : World) : (zeroValue 3).run Tryz.prog w = .ok (.int .i64 0) w := by kernel_rfl
abbrev OwnM (w : World) (mb n : Nat) (D : DataW Unit) : Prop := w.ownsMap Tryz.prog 3 (plainElem Tryz.prog 3) mb n D
abbrev RngM (w : World) (mb r n : Nat) (D : DataW Unit) (left : Lit → Bool) (cnt : Nat) : Prop := w.ranges Tryz.prog 3 (plainElem Tryz.prog 3) mb r n D left cnt
theorem OwnM.block {w w' : World} {mb n : Nat} {D : DataW Unit} (h : OwnM w mb n D) (e : w'.heap[mb]? = w.heap[mb]?) : OwnM w' mb n D := by
  obtain ⟨es, clock, hb, F, hs, hD⟩ := h
  exact ⟨es, clock, e.trans hb, F, hs, hD⟩
theorem OwnM.chg {w w' : World} {mb n : Nat} {D : DataW Unit} {F : List Nat} (h : OwnM w mb n D) (hc : Chg F w w') (hF : mb ∉ F) : OwnM w' mb n D := h.block (hc.block mb (World.ownsMap.lt h) hF)
theorem OwnM.below {w w' : World} {mb n : Nat} {D : DataW Unit} (h : OwnM w mb n D) (hb : Below w.heap.size w w') : OwnM w' mb n D := h.block (hb.block mb (World.ownsMap.lt h))
theorem RngM.lt {w : World} {mb r n : Nat} {D : DataW Unit} {left : Lit → Bool} {cnt : Nat} (h : RngM w mb r n D left cnt) : mb < w.heap.size ∧ r < w.heap.size := by
  obtain ⟨es, clock, since, seen, c0, h1, h2, h3, h4, h5, h6⟩ := h
  exact ⟨(Array.getElem?_eq_some_iff.1 h1).1, (Array.getElem?_eq_some_iff.1 h5).1⟩
theorem RngM.below {w w' : World} {mb r n : Nat} {D : DataW Unit} {left : Lit → Bool} {cnt : Nat} (h : RngM w mb r n D left cnt) (hb : Below w.heap.size w w') : RngM w' mb r n D left cnt := by
  have hl := h.lt
  obtain ⟨es, clock, since, seen, c0, h1, h2, h3, h4, h5, h6⟩ := h
  exact ⟨es, clock, since, seen, c0, (hb.block mb hl.1).trans h1, h2, h3, h4, (hb.block r hl.2).trans h5, h6⟩
theorem grownChg {w w' : World} {g : Nat} (h : w.grownBy w' (some g)) : Chg [g] w w' := by
  have := Chg.grown (A := some ⟨g, 0, none⟩) (n := 0) (c := 0) (w := w) (w' := w') (by simpa [Value.ownBlock] using h)
  simpa [rowOf] using this
theorem grownBel {w w' : World} (h : w.grownBy w' none) : Below w.heap.size w w' := (Below.refl _ _).grown h (Nat.le_refl _) (fun k e => by cases e)
theorem TV.chg {w W W2 : World} {th : Nat} {A : Option Addr} {n c : Nat} {L : List Tk} {F : List Nat} (h : TV w th A n c L W) (hc : Chg F W W2) (h1 : ∀ j ∈ rowOf A, j ∉ F) (h2 : th ∉ F) (h3 : ∀ g ∈ F, w.heap.size ≤ g) : TV w th A n c L W2 := ⟨h.t.chg hc h1 h2, Below.chg h.b hc h3⟩
/-- Is one there? -/
def cntI (L : List Tk) (x : Int) : Int := if (tfind L x).isSome = true then 1 else 0
theorem cntI_cases (L : List Tk) (x : Int) : (cntI L x = 0 ∧ dropE L x = 4) ∨ (cntI L x = 1 ∧ dropE L x = 0) := by
  unfold cntI dropE
  cases tfind L x <;> simp
def MpI (D : DataW Unit) (L : List Tk) : Prop := IsMap D ∧ ∀ x : Int, D.atKey (.int .i64 x) (.lit (.int .i64 0)) = .lit (.int .i64 (cntI L x))
theorem MpI.nil (N : Nat) : MpI (.map []) (List.replicate N Tk.zero) := ⟨⟨[], rfl⟩, fun x => by
  have e : tfind (List.replicate N Tk.zero) x = none := by
    unfold tfind
    rw [if_neg]
    rintro ⟨_, _, h⟩
    apply h
    rw [List.getD, List.getElem?_replicate]
    split <;> rfl
  unfold cntI
  rw [e]
  rfl⟩
theorem tfind_set {L : List Tk} {j : Nat} (hj : j < L.length) (y : Tk) (x : Int) : tfind (L.set j y) x = if x = (j : Int) + 1 then (if y.s = 0 then none else some j) else tfind L x := by
  by_cases hx : x = (j : Int) + 1
  · rw [if_pos hx, hx, tfind_at (by simpa using hj)]
    have e : (L.set j y).getD j Tk.zero = y := by simp [List.getD, hj]
    rw [e]
  · rw [if_neg hx]
    unfold tfind
    rw [List.length_set]
    by_cases h1 : 1 ≤ x ∧ x ≤ L.length
    · have e : (L.set j y).getD (x - 1).toNat Tk.zero = L.getD (x - 1).toNat Tk.zero := by
        rw [List.getD, List.getD, List.getElem?_set_ne (show j ≠ (x - 1).toNat by omega)]
      rw [e]
    · rw [if_neg (fun h => h1 ⟨h.1, h.2.1⟩), if_neg (fun h => h1 ⟨h.1, h.2.1⟩)]
theorem MpI.put {D : DataW Unit} {L : List Tk} (h : MpI D L) {j : Nat} (hj : j < L.length) (y : Tk) (v : Int) (hv : v = if y.s = 0 then 0 else 1) : MpI (D.put (.int .i64 ((j : Int) + 1)) (.lit (.int .i64 v))) (L.set j y) := by
  refine ⟨?_, fun x => ?_⟩
  · obtain ⟨es, rfl⟩ := h.1
    exact ⟨_, rfl⟩
  · by_cases hx : x = (j : Int) + 1
    · subst hx
      rw [atKey_put_same h.1 (by trivial)]
      unfold cntI
      rw [tfind_set hj, if_pos rfl, hv]
      by_cases hs : y.s = 0 <;> simp [hs]
    · rw [atKey_put_other (by intro hh; injection hh with _ h2; exact hx h2), h.2 x]
      unfold cntI
      rw [tfind_set hj, if_neg hx]
theorem MpI.val {D : DataW Unit} {L : List Tk} (h : MpI D L) {x c : Int} (hat : D.atKey (.int .i64 x) (.lit (.int .i64 0)) = .lit (.int .i64 c)) : c = cntI L x := by
  rw [h.2 x] at hat
  injection hat with hat
  injection hat with _ hat
  exact hat.symm
theorem add_case (L : List Tk) (x : Tk) : (addE L x = 0 ∧ ∃ j : Nat, j < L.length ∧ addI L x = (j : Int) + 1 ∧ (L.getD j Tk.zero).s = 0 ∧ x.s ≠ 0 ∧ addL L x = L.set j { x with i := (j : Int) + 1 }) ∨ (addE L x ≠ 0 ∧ addL L x = L) := by
  unfold addE addI addL
  by_cases hx : x.ok = true
  · rw [if_pos hx, if_pos hx, if_pos hx]
    rcases lf_spec L with ⟨h1, _⟩ | ⟨j, h1, h2, h3, _⟩
    · rw [if_pos h1, if_pos h1]; exact .inr ⟨by decide, rfl⟩
    · rw [if_neg (by omega), if_neg (by omega)]
      refine .inl ⟨rfl, j, h1, h2, h3, ?_, by rw [h2, show ((j : Int) + 1 - 1).toNat = j by omega]⟩
      have : 1 ≤ x.s ∧ x.s ≤ 3 := by simpa [Tk.ok] using hx
      omega
  · rw [if_neg hx, if_neg hx, if_neg hx]; exact .inr ⟨by decide, rfl⟩
theorem drop_case (L : List Tk) (id : Int) : (dropE L id = 0 ∧ ∃ j : Nat, j < L.length ∧ id = (j : Int) + 1 ∧ (L.getD j Tk.zero).s ≠ 0 ∧ dropL L id = L.set j Tk.zero) ∨ (dropE L id ≠ 0 ∧ dropL L id = L) := by
  unfold dropE dropL
  cases hf : tfind L id with
  | some j =>
    obtain ⟨h1, h2, h3⟩ := tfind_some hf
    exact .inl ⟨rfl, j, h2, h1, h3, rfl⟩
  | none => exact .inr ⟨by decide, rfl⟩
theorem cntI_at {L : List Tk} {j : Nat} (hj : j < L.length) : cntI L ((j : Int) + 1) = if (L.getD j Tk.zero).s = 0 then 0 else 1 := by
  unfold cntI
  rw [tfind_at hj]
  split <;> rfl
theorem ids_len (s : Int) (D : List Tk) : (idsOf [s] D).length = D.countP (fun y => y.s == s) := by
  unfold idsOf
  rw [List.length_map, List.countP_eq_length_filter]
  congr 1
  apply List.filter_congr
  intro y _
  by_cases h : y.s = s <;> simp [h]
theorem ids_three {L : List Tk} (h : TInv L) : (idsOf [1] (L.filter keep)).length + (idsOf [2] (L.filter keep)).length + (idsOf [3] (L.filter keep)).length = (L.filter keep).length ∧ (idsOf [0] (L.filter keep)).length = 0 := by
  have hk : ∀ y ∈ L.filter keep, y.s = 1 ∨ y.s = 2 ∨ y.s = 3 := fun y hy => by
    obtain ⟨_, _, _, _, _, hok, _⟩ := kept_mem h hy
    have : 1 ≤ y.s ∧ y.s ≤ 3 := by simpa [Tk.ok] using hok
    omega
  simp only [ids_len]
  generalize L.filter keep = D at hk
  induction D with
  | nil => exact ⟨rfl, rfl⟩
  | cons y D ih =>
    obtain ⟨h1, h2⟩ := ih (fun z hz => hk z (by simp [hz]))
    simp only [List.countP_cons, List.length_cons]
    have h3 : (List.countP (fun y => y.s == 1) D : Nat) + List.countP (fun y => y.s == 2) D + List.countP (fun y => y.s == 3) D = D.length := h1
    have h4 : List.countP (fun y => y.s == 0) D = 0 := h2
    generalize List.countP (fun y : Tk => y.s == 1) D = a1 at h3 ⊢
    generalize List.countP (fun y : Tk => y.s == 2) D = a2 at h3 ⊢
    generalize List.countP (fun y : Tk => y.s == 3) D = a3 at h3 ⊢
    generalize List.countP (fun y : Tk => y.s == 0) D = a0 at h4 ⊢
    rcases hk y (by simp) with e | e | e <;> rw [e] <;> constructor <;> simp <;> omega
theorem ids_none (D : List Tk) : (idsOf [] D).length = 0 := by
  unfold idsOf
  induction D with
  | nil => rfl
  | cons y D ih => simp
end Go.Proofs.YtegohmeapamoaaaGreatDoor

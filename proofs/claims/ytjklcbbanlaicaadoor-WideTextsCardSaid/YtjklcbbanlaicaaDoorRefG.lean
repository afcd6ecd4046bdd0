/- The contracts of the document's answer for layer 1, continued: sums of numbers. -/
import Derived.Test.YtjklcbbanlaicaaDoorRefF
namespace Go.Proofs.YtjklcbbanlaicaaDoor
open Go.RowKit

/-- Block g holds no int (a variable of type Big). -/
def NoInt (w : World) (g : Nat) : Prop := ∀ o k, w.cell? ⟨g, o, none⟩ ≠ some (.int .i64 k)
theorem NoInt.below {w w' : World} {g : Nat} (h : NoInt w g) (hg : g < w.heap.size) (hb : Below w.heap.size w w') : NoInt w' g := fun o k e => h o k ((hb.cell (p := ⟨g, o, none⟩) hg).symm.trans e)
theorem NoInt.new (w : World) (t : TypeId) (s : Bool) (A : Option Addr) (n c : Nat) : NoInt (w.alloc (.cells #[.bool s, .slice A n c] t)) w.heap.size := fun o k => by
  rw [World.cell?_alloc_new]
  match o with
  | 0 => simp
  | 1 => simp
  | o + 2 => simp
theorem NoInt.alloc {w : World} {g : Nat} (h : NoInt w g) (hg : g < w.heap.size) (obj : Obj) : NoInt (w.alloc obj) g := fun o k e => h o k ((World.cell?_alloc_lt w obj ⟨g, o, none⟩ hg).symm.trans e)
theorem Rd.ne_block {w : World} {A : Option Addr} {n : Nat} {zs : List Int} (h : Rd w A n zs) {g : Nat} (hg : NoInt w g) : ∀ b off, A = some ⟨b, off, none⟩ → 0 < n → b ≠ g := by
  rintro b off rfl hn rfl
  obtain ⟨b', off', e, hc⟩ := h.2 hn
  injection e with e; injection e with e1 e2
  subst e1 e2
  exact hg _ _ (hc 0 hn)
theorem IsB.store {w : World} {L : Nat} {s : Bool} {A : Option Addr} {n c : Nat} {z : Int} (h : IsB w L s A n c z) {g : Nat} (hg : NoInt w g) (o o' : Nat) (u v : Value) : IsB ((w.setCell ⟨g, o, none⟩ u).setCell ⟨g, o', none⟩ v) L s A n c z := by
  obtain ⟨zs, h1, h2⟩ := h
  have hne := h1.ne_block hg
  exact ⟨zs, (h1.setCell hne o u).setCell hne o' v, h2⟩

theorem neg_sgn (s : Bool) (v : Int) : (0 - if s = true then -v else v) = if (!s) = true then -v else v := by cases s <;> simp

set_option maxHeartbeats 1000000 in
theorem Ref.neg (L : Nat) (s : Bool) (A : Option Addr) (n c : Nat) (z : Int) (w : World) (hz : IsB w L s A n c z) (hL : L ≤ 1000000) :
    Calls Tryd.prog 19 #[.agg #[.bool s, .slice A n c]] w (BAns L (0 - z) w) := by
  obtain ⟨zs, h1, h2, h3, h4, h5, h6, h7⟩ := hz
  have HZ := hid (show 0 - z = if (!s) = true then -val zs else val zs by rw [h7]; exact neg_sgn s _)
  have H1 := hid h1
  have H4 := hid h4
  clear h1 h4 h5 h6 h7
  generalize 0 - z = y at *
  go_enter Tryd.func19, Tryd.ntmps19
  go_wp2_with fail
  refine (Ref.trim L _ A n c zs _ ((H1.out.alloc _).alloc _) h2 (by omega) h3 H4.out y HZ).mono ?_
  rintro e w1 ⟨s', A', n', c', rfl, hB, hb⟩
  have HB := hid hB
  have NI := hid ((NoInt.new _ _ _ _ _ _).below (by simp) hb)
  obtain ⟨hc, hf⟩ := bcell hb
  clear hB
  go_wp2
  refine bodyPost_ret (v := .agg #[.bool s', .slice A' n' c']) (by simp [results, Tryd.results19, go_sem, hc]) rfl ⟨_, _, _, _, rfl, HB.out.store (by simpa using NI.out) _ _ _ _, ?_⟩
  exact ((((Below.refl _ _).alloc (Nat.le_refl _) _).alloc (by simp) _).trans (hb.mono (by simp; omega))).setCell (by simp) _ |>.setCell (by simp) _

/-- Four cells, and all that was there, behind a store into another block. -/
theorem keepSt {w0 w : World} {b0 o0 b1 o1 b2 o2 b3 o3 g o o' : Nat} {v0 v1 v2 v3 u v : Value}
    (h : (w.cell? ⟨b0, o0, none⟩ = some v0 ∧ w.cell? ⟨b1, o1, none⟩ = some v1 ∧ w.cell? ⟨b2, o2, none⟩ = some v2 ∧ w.cell? ⟨b3, o3, none⟩ = some v3) ∧ Below w0.heap.size w0 w)
    (h0 : b0 ≠ g) (h1 : b1 ≠ g) (h2 : b2 ≠ g) (h3 : b3 ≠ g) (hg : w0.heap.size ≤ g) :
    (((w.setCell ⟨g, o, none⟩ u).setCell ⟨g, o', none⟩ v).cell? ⟨b0, o0, none⟩ = some v0 ∧ ((w.setCell ⟨g, o, none⟩ u).setCell ⟨g, o', none⟩ v).cell? ⟨b1, o1, none⟩ = some v1 ∧
      ((w.setCell ⟨g, o, none⟩ u).setCell ⟨g, o', none⟩ v).cell? ⟨b2, o2, none⟩ = some v2 ∧ ((w.setCell ⟨g, o, none⟩ u).setCell ⟨g, o', none⟩ v).cell? ⟨b3, o3, none⟩ = some v3) ∧ Below w0.heap.size w0 ((w.setCell ⟨g, o, none⟩ u).setCell ⟨g, o', none⟩ v) := by
  have far : ∀ (w : World) (b q p : Nat) (x y : Value), b ≠ g → w.cell? ⟨b, q, none⟩ = some x → (w.setCell ⟨g, p, none⟩ y).cell? ⟨b, q, none⟩ = some x := fun w b q p x y hb hx =>
    (World.cell?_setCell_other w ⟨g, p, none⟩ ⟨b, q, none⟩ y (fun e => by injection e with e1; exact hb e1.symm)).trans hx
  exact ⟨⟨far _ _ _ _ _ _ h0 (far _ _ _ _ _ _ h0 h.1.1), far _ _ _ _ _ _ h1 (far _ _ _ _ _ _ h1 h.1.2.1), far _ _ _ _ _ _ h2 (far _ _ _ _ _ _ h2 h.1.2.2.1), far _ _ _ _ _ _ h3 (far _ _ _ _ _ _ h3 h.1.2.2.2)⟩, (h.2.setCell hg _).setCell hg _⟩
theorem below_keep {w0 w w' : World} (h : Below w0.heap.size w0 w) (hb : Below w.heap.size w w') : Below w0.heap.size w0 w' := h.trans (hb.mono h.size)

/-- A variable of type Big that the call has just made: its cells, and that it holds no int. -/
def Fresh (w : World) (g : Nat) : Prop := w.cell? ⟨g, 0, none⟩ = some (.bool false) ∧ w.cell? ⟨g, 1, none⟩ = some (.slice none 0 0) ∧ w.frozen? ⟨g, 0, none⟩ = false ∧ w.frozen? ⟨g, 1, none⟩ = false ∧ NoInt w g
theorem Fresh.below {w w' : World} {g : Nat} (h : Fresh w g) (hb : Below w.heap.size w w') : Fresh w' g := by
  have hg := World.block_lt_of_cell? w _ h.1
  exact ⟨keep1 hb h.1, keep1 hb h.2.1, (hb.frozen (p := ⟨g, 0, none⟩) hg).trans h.2.2.1, (hb.frozen (p := ⟨g, 1, none⟩) hg).trans h.2.2.2.1, h.2.2.2.2.below hg hb⟩
theorem Fresh.new (w : World) (t : TypeId) : Fresh (w.alloc (.cells #[.bool false, .slice none 0 0] t)) w.heap.size :=
  ⟨by simp, by simp, by simp [go_sem], by simp [go_sem], NoInt.new _ _ _ _ _ _⟩

theorem sgn_diff {s t : Bool} (h : ¬ s = t) (a b : Int) : ((if s = true then -a else a) + if t = true then -b else b) = if s = true then -(a - b) else a - b := by
  cases s <;> cases t <;> simp_all <;> omega
theorem sgn_diff' {s t : Bool} (h : ¬ s = t) (a b : Int) : ((if s = true then -a else a) + if t = true then -b else b) = if t = true then -(b - a) else b - a := by
  cases s <;> cases t <;> simp_all <;> omega
theorem sgn_both (s : Bool) (a b : Int) : ((if s = true then -a else a) + if s = true then -b else b) = if s = true then -(a + b) else a + b := by cases s <;> simp; omega

/-- Two numbers' variables, and the answer's, as a sum finds them. -/
def AddW (w : World) (s t : Bool) (A B : Option Addr) (n c m d : Nat) (W0 : World) : Prop :=
  (W0.cell? ⟨w.heap.size, 0, none⟩ = some (.bool s) ∧ W0.cell? ⟨w.heap.size, 1, none⟩ = some (.slice A n c) ∧ W0.cell? ⟨w.heap.size + 1, 0, none⟩ = some (.bool t) ∧ W0.cell? ⟨w.heap.size + 1, 1, none⟩ = some (.slice B m d)) ∧ Below w.heap.size w W0
theorem AddW.new (w : World) (s t : Bool) (A B : Option Addr) (n c m d : Nat) (ty : TypeId) :
    AddW w s t A B n c m d (((w.alloc (Obj.cells #[Value.bool s, Value.slice A n c] ty)).alloc (Obj.cells #[Value.bool t, Value.slice B m d] ty)).alloc (Obj.cells #[Value.bool false, Value.slice none 0 0] ty)) ∧
    Fresh (((w.alloc (Obj.cells #[Value.bool s, Value.slice A n c] ty)).alloc (Obj.cells #[Value.bool t, Value.slice B m d] ty)).alloc (Obj.cells #[Value.bool false, Value.slice none 0 0] ty)) (w.heap.size + 1 + 1) :=
  ⟨⟨⟨by simp [go_sem], by simp [go_sem], by simp [go_sem], by simp [go_sem]⟩, (((Below.refl _ _).alloc (Nat.le_refl _) _).alloc (by simp) _).alloc (by simp; omega) _⟩, by
    have h := Fresh.new ((w.alloc (Obj.cells #[Value.bool s, Value.slice A n c] ty)).alloc (Obj.cells #[Value.bool t, Value.slice B m d] ty)) ty
    simpa using h⟩

set_option maxRecDepth 100000 in
set_option maxHeartbeats 4000000 in
theorem Ref.add (K : Nat) (s t : Bool) (A B : Option Addr) (n c m d : Nat) (x y : Int) (w : World) (hx : IsB w K s A n c x) (hy : IsB w K t B m d y) (hK : K ≤ 1000000) :
    Calls Tryd.prog 29 #[.agg #[.bool s, .slice A n c], .agg #[.bool t, .slice B m d]] w (BAns (K + 1) (x + y) w) := by
  obtain ⟨xs, hX, hn, hnc, dX, nX, sX, eX⟩ := hx
  obtain ⟨ys, hY, hm, hmd, dY, nY, sY, eY⟩ := hy
  have HX := hid hX
  have HY := hid hY
  have HD := hid (And.intro dX dY)
  have HN := hid (And.intro nX nY)
  obtain ⟨z, hz⟩ : ∃ z, z = x + y := ⟨_, rfl⟩
  rw [← hz]
  by_cases hst : s = t
  · subst hst
    have HE := hid (show z = if s = true then -(val xs + val ys) else val xs + val ys by rw [hz, eX, eY]; exact sgn_both s _ _)
    clear hX hY dX dY nX nY eX eY sX sY hz
    go_enter Tryd.func29, Tryd.ntmps29
    go_wp2_with fail
    obtain ⟨W0, hW⟩ : ∃ W0, W0 = ((w.alloc (Obj.cells #[Value.bool s, Value.slice A n c] 31)).alloc (Obj.cells #[Value.bool s, Value.slice B m d] 31)).alloc (Obj.cells #[Value.bool false, Value.slice none 0 0] 31) := ⟨_, rfl⟩
    rw [← hW]
    have hN := AddW.new w s s A B n c m d 31
    rw [← hW] at hN
    have HS0 := hid hN.1
    have HF := hid hN.2
    clear hN hW
    go_region_held3 (fun w' => (w'.cell? ⟨w.heap.size, 0, none⟩ = some (.bool s) ∧ w'.cell? ⟨w.heap.size, 1, none⟩ = some (.slice A n c) ∧ w'.cell? ⟨w.heap.size + 1, 0, none⟩ = some (.bool s) ∧ w'.cell? ⟨w.heap.size + 1, 1, none⟩ = some (.slice B m d)) ∧ Below w.heap.size w w')
      (first | exact ⟨HS0.out.1, HS0.out.2.drew⟩ | exact keepP (by assumption) hb2 (fun h => below_keep h hb2) | exact keepSt (by assumption) (by omega) (by omega) (by omega) (by omega) (by omega))
      (first
        | (go_at_call 43; refine (Ref.plus s s A B n c m d xs ys _ (HX.out.below (And.right (by assumption : (_ ∧ _ ∧ _ ∧ _) ∧ Below w.heap.size w _))) (HY.out.below (And.right (by assumption : (_ ∧ _ ∧ _ ∧ _) ∧ Below w.heap.size w _))) HD.out.1 HD.out.2 K hn hm hK).mono ?_; rintro e w2 ⟨Ap, np, cp, ps, rfl, ⟨hr2, hn2, hc2, hd2, hv2⟩, hb2⟩; have HP := hid (And.intro hr2 hd2); have HV := hid hv2; have HF2 := hid (Fresh.below (w := W0.drew) HF.out hb2); clear hr2 hd2 hv2)
        | (go_at_call 32; refine (Ref.trim (K + 1) s Ap np cp ps _ HP.out.1 (by omega) (by omega) (by omega) HP.out.2 z (hid (by rw [HV.out]; exact HE.out))).mono ?_; rintro e w3 ⟨s', A', n', c', rfl, hB, hb2⟩; have HB := hid hB; have HF3 := hid (HF2.out.below hb2); obtain ⟨t0, t1, t2, t3, _⟩ := HF3.out; clear hB))
    obtain ⟨_, hfin⟩ : (_ ∧ _ ∧ _ ∧ _) ∧ Below w.heap.size w ((w3.setCell ⟨w.heap.size + 1 + 1, 0, none⟩ (.bool s')).setCell ⟨w.heap.size + 1 + 1, 1, none⟩ (.slice A' n' c')) := by assumption
    have HFIN := hid hfin
    clear hfin
    go_wp2
    refine bodyPost_ret (v := .agg #[.bool s', .slice A' n' c']) (by simp [results, Tryd.results29, go_sem, t0, t1]) rfl ⟨_, _, _, _, rfl, HB.out.store HF3.out.2.2.2.2 _ _ _ _, HFIN.out⟩
  · have HE := hid (And.intro hz (And.intro eX eY))
    have hst' : (s == t) = false := by simpa using hst
    have hnn := hid hst
    clear hX hY dX dY nX nY eX eY sX sY hz hst
    go_enter Tryd.func29, Tryd.ntmps29
    go_wp2_with fail
    obtain ⟨W0, hW⟩ : ∃ W0, W0 = ((w.alloc (Obj.cells #[Value.bool s, Value.slice A n c] 31)).alloc (Obj.cells #[Value.bool t, Value.slice B m d] 31)).alloc (Obj.cells #[Value.bool false, Value.slice none 0 0] 31) := ⟨_, rfl⟩
    rw [← hW]
    have hN := AddW.new w s t A B n c m d 31
    rw [← hW] at hN
    have HS00 := hid hN.1
    have HF0 := hid hN.2
    clear hN hW
    refine (Ref.larger s t A B n c m d xs ys _ (HX.out.below HS00.out.2) (HY.out.below HS00.out.2) HD.out.1 HD.out.2 (by omega) (by omega)).mono ?_
    rintro e w1 ⟨rfl, hb1⟩
    have HS0 := hid (show AddW w s t A B n c m d w1 from ⟨keep4 HS00.out.1 hb1, below_keep HS00.out.2 hb1⟩)
    have HF := hid (HF0.out.below hb1)
    clear HS00 HF0 hb1
    by_cases hle : val ys ≤ val xs
    · have hc0 : 0 ≤ cmpI (val xs) (val ys) := by have := cmpI_pos (val ys) (val xs); have := cmpI_anti (val xs) (val ys); omega
      have HLE := hid (And.intro hle (show m ≤ n by have := len_of_le HD.out.1 HD.out.2 HN.out.2 hle; have := HX.out.1; have := HY.out.1; omega))
      clear hle
      generalize cmpI (val xs) (val ys) = cc at hc0 ⊢
      go_wp2_with fail
      go_region_held3 (fun w' => (w'.cell? ⟨w.heap.size, 0, none⟩ = some (.bool s) ∧ w'.cell? ⟨w.heap.size, 1, none⟩ = some (.slice A n c) ∧ w'.cell? ⟨w.heap.size + 1, 0, none⟩ = some (.bool t) ∧ w'.cell? ⟨w.heap.size + 1, 1, none⟩ = some (.slice B m d)) ∧ Below w.heap.size w w')
        (first | exact ⟨HS0.out.1, HS0.out.2.drew⟩ | exact keepP (by assumption) hb2 (fun h => below_keep h hb2) | exact keepSt (by assumption) (by omega) (by omega) (by omega) (by omega) (by omega))
        (first
          | (go_at_call 45; refine (Ref.minus s t A B n c m d xs ys _ (HX.out.below (And.right (by assumption : (_ ∧ _ ∧ _ ∧ _) ∧ Below w.heap.size w _))) (HY.out.below (And.right (by assumption : (_ ∧ _ ∧ _ ∧ _) ∧ Below w.heap.size w _))) HD.out.1 HD.out.2 HLE.out.2 HLE.out.1 (by omega)).mono ?_; rintro e w2 ⟨Ap, np, cp, ps, rfl, ⟨hr2, hn2, hc2, hd2, hv2⟩, hb2⟩; have HP := hid (And.intro hr2 hd2); have HV := hid hv2; have HF2 := hid (Fresh.below (w := w1.drew) HF.out hb2); clear hr2 hd2 hv2)
          | (go_at_call 32; refine (Ref.trim (K + 1) s Ap np cp ps _ HP.out.1 (by omega) (by omega) (by omega) HP.out.2 z (hid (by rw [HV.out, HE.out.1, HE.out.2.1, HE.out.2.2]; exact sgn_diff hnn.out _ _))).mono ?_; rintro e w3 ⟨s', A', n', c', rfl, hB, hb2⟩; have HB := hid hB; have HF3 := hid (HF2.out.below hb2); obtain ⟨t0, t1, t2, t3, _⟩ := HF3.out; clear hB))
      obtain ⟨_, hfin⟩ : (_ ∧ _ ∧ _ ∧ _) ∧ Below w.heap.size w ((w3.setCell ⟨w.heap.size + 1 + 1, 0, none⟩ (.bool s')).setCell ⟨w.heap.size + 1 + 1, 1, none⟩ (.slice A' n' c')) := by assumption
      have HFIN := hid hfin
      clear hfin
      go_wp2
      refine bodyPost_ret (v := .agg #[.bool s', .slice A' n' c']) (by simp [results, Tryd.results29, go_sem, t0, t1]) rfl ⟨_, _, _, _, rfl, HB.out.store HF3.out.2.2.2.2 _ _ _ _, HFIN.out⟩
    · have hc0 : ¬ 0 ≤ cmpI (val xs) (val ys) := by have := cmpI_pos (val ys) (val xs); have := cmpI_anti (val xs) (val ys); omega
      have HLE := hid (And.intro (show val xs ≤ val ys by omega) (show n ≤ m by have := len_of_le HD.out.2 HD.out.1 HN.out.1 (show val xs ≤ val ys by omega); have := HX.out.1; have := HY.out.1; omega))
      clear hle
      generalize cmpI (val xs) (val ys) = cc at hc0 ⊢
      go_wp2_with fail
      go_region_held3 (fun w' => (w'.cell? ⟨w.heap.size, 0, none⟩ = some (.bool s) ∧ w'.cell? ⟨w.heap.size, 1, none⟩ = some (.slice A n c) ∧ w'.cell? ⟨w.heap.size + 1, 0, none⟩ = some (.bool t) ∧ w'.cell? ⟨w.heap.size + 1, 1, none⟩ = some (.slice B m d)) ∧ Below w.heap.size w w')
        (first | exact ⟨HS0.out.1, HS0.out.2.drew⟩ | exact keepP (by assumption) hb2 (fun h => below_keep h hb2) | exact keepSt (by assumption) (by omega) (by omega) (by omega) (by omega) (by omega))
        (first
          | (go_at_call 45; refine (Ref.minus t s B A m d n c ys xs _ (HY.out.below (And.right (by assumption : (_ ∧ _ ∧ _ ∧ _) ∧ Below w.heap.size w _))) (HX.out.below (And.right (by assumption : (_ ∧ _ ∧ _ ∧ _) ∧ Below w.heap.size w _))) HD.out.2 HD.out.1 HLE.out.2 HLE.out.1 (by omega)).mono ?_; rintro e w2 ⟨Ap, np, cp, ps, rfl, ⟨hr2, hn2, hc2, hd2, hv2⟩, hb2⟩; have HP := hid (And.intro hr2 hd2); have HV := hid hv2; have HF2 := hid (Fresh.below (w := w1.drew) HF.out hb2); clear hr2 hd2 hv2)
          | (go_at_call 32; refine (Ref.trim (K + 1) t Ap np cp ps _ HP.out.1 (by omega) (by omega) (by omega) HP.out.2 z (hid (by rw [HV.out, HE.out.1, HE.out.2.1, HE.out.2.2]; exact sgn_diff' hnn.out _ _))).mono ?_; rintro e w3 ⟨s', A', n', c', rfl, hB, hb2⟩; have HB := hid hB; have HF3 := hid (HF2.out.below hb2); obtain ⟨t0, t1, t2, t3, _⟩ := HF3.out; clear hB))
      obtain ⟨_, hfin⟩ : (_ ∧ _ ∧ _ ∧ _) ∧ Below w.heap.size w ((w3.setCell ⟨w.heap.size + 1 + 1, 0, none⟩ (.bool s')).setCell ⟨w.heap.size + 1 + 1, 1, none⟩ (.slice A' n' c')) := by assumption
      have HFIN := hid hfin
      clear hfin
      go_wp2
      refine bodyPost_ret (v := .agg #[.bool s', .slice A' n' c']) (by simp [results, Tryd.results29, go_sem, t0, t1]) rfl ⟨_, _, _, _, rfl, HB.out.store HF3.out.2.2.2.2 _ _ _ _, HFIN.out⟩

end Go.Proofs.YtjklcbbanlaicaaDoor

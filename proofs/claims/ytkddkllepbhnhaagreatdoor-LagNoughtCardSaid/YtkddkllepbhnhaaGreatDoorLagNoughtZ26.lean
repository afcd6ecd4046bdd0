/- Texts of LagNought's proof, together. -/
import Derived.Test.YtkddkllepbhnhaaGreatDoorOrdG
import Derived.Test.YtkddkllepbhnhaaGreatDoorLagNoughtZ17
import Derived.Test.YtkddkllepbhnhaaGreatDoorLagNoughtZ20
import Derived.Test.YtkddkllepbhnhaaGreatDoorLagNoughtZ21
import Derived.Test.YtkddkllepbhnhaaGreatDoorRef4
import Derived.Test.YtkddkllepbhnhaaGreatDoorLagNoughtZ25
namespace Go.Proofs.YtkddkllepbhnhaaGreatDoor
/- Variables that hold Bigs, stored whole; the document's means. -/
section
open Go.RowKit
theorem infoBig : (Tryz.prog.info? 41).map (·.size) = some 2 := by kernel_rfl
theorem Rd.setCells {A : Option Addr} {n : Nat} {zs : List Int} {g : Nat} : ∀ (vs : List Value) (o : Nat) {w : World}, (∀ b off, A = some ⟨b, off, none⟩ → 0 < n → b ≠ g) → Rd w A n zs → Rd (w.setCells g o vs) A n zs
  | [], _, _, _, h => h
  | v :: r, o, _, hne, h => Rd.setCells r (o + 1) hne (h.setCell hne o v)
theorem IsB.sets {w : World} {L : Nat} {s : Bool} {A : Option Addr} {n c : Nat} {z : Int} (h : IsB w L s A n c z) {g : Nat} (hg : NoInt w g) (o : Nat) (vs : List Value) : IsB (w.setCells g o vs) L s A n c z := by
  obtain ⟨zs, h1, h2⟩ := h
  exact ⟨zs, Rd.setCells vs o (h1.ne_block hg) h1, h2⟩
/-- A variable whose integers are 0. -/
def NoPos (w : World) (g : Nat) : Prop := ∀ o k, w.cell? ⟨g, o, none⟩ = some (.int .i64 k) → k = 0
theorem NoPos.below {w w' : World} {g : Nat} (h : NoPos w g) (hg : g < w.heap.size) (hb : Below w.heap.size w w') : NoPos w' g := fun o k e => h o k ((hb.cell (p := ⟨g, o, none⟩) hg).symm.trans e)
theorem IsB.setZ {w : World} {L : Nat} {s : Bool} {A : Option Addr} {n c : Nat} {z : Int} (h : IsB w L s A n c z) {g : Nat} (hg : NoPos w g) (o : Nat) (vs : List Value) : IsB (w.setCells g o vs) L s A n c z := by
  obtain ⟨zs, h1, h2, h3, h4, h5, h6⟩ := h
  refine ⟨zs, Rd.setCells vs o ?_ h1, h2, h3, h4, h5, h6⟩
  rintro b off rfl hn rfl
  obtain ⟨b', off', e, hc⟩ := h1.2 hn
  injection e with e; injection e with e1 e2
  subst e1 e2
  obtain ⟨k, rfl⟩ : ∃ k, n = k + 1 := ⟨n - 1, by omega⟩
  exact h5.ne h1.1 (hg _ _ (hc k (by omega)))
theorem Var.cs {w : World} {g : Nat} {s : Bool} {A : Option Addr} {n c : Nat} (h : Var w g s A n c) : Cs w g [.bool s, .slice A n c] := fun i v hv => by
  rcases i with _ | _ | i
  · injection hv with hv; subst hv; exact ⟨h.1, h.2.2.1⟩
  · injection hv with hv; subst hv; exact ⟨h.2.1, h.2.2.2.1⟩
  · cases hv
theorem Var.sets {w : World} {g : Nat} {s : Bool} {A : Option Addr} {n c : Nat} (h : Var w g s A n c) (s' : Bool) (A' : Option Addr) (n' c' : Nat) : Var (w.setCells g 0 [.bool s', .slice A' n' c']) g s' A' n' c' := h.store s' A' n' c'
theorem Var.finB {w W : World} {g : Nat} {s0 : Bool} {A0 : Option Addr} {n0 c0 : Nat} (hv : Var W g s0 A0 n0 c0) (hb : Below w.heap.size w W) (hg : w.heap.size ≤ g) {L : Nat} {s : Bool} {A : Option Addr} {n c : Nat} {z : Int} (h : IsB W L s A n c z) :
    IsB ((W.setCell ⟨g, 0, none⟩ (.bool s)).setCell ⟨g, 1, none⟩ (.slice A n c)) L s A n c z ∧ Below w.heap.size w ((W.setCell ⟨g, 0, none⟩ (.bool s)).setCell ⟨g, 1, none⟩ (.slice A n c)) :=
  ⟨h.storeV hv _ _ _ _, (hb.setCell hg _).setCell hg _⟩
theorem Var.fars {g : Nat} {s : Bool} {A : Option Addr} {n c : Nat} {b : Nat} (hb : b ≠ g) : ∀ (vs : List Value) (o : Nat) {w : World}, Var w g s A n c → Var (w.setCells b o vs) g s A n c
  | [], _, _, h => h
  | v :: r, o, _, h => Var.fars hb r (o + 1) (h.far1 hb o v)
/-- A mean of the document's: its numbers, and its sum's parts. -/
abbrev rmV (m : Mu) (x : Bq) : Value := .agg #[.int .u64 m.b, .bool x.1, .slice x.2.1 x.2.2.1 x.2.2.2, .int .u64 m.w, .int .i64 m.n]
def rmC (m : Mu) (x : Bq) : List Value := [.int .u64 m.b, .bool x.1, .slice x.2.1 x.2.2.1 x.2.2.2, .int .u64 m.w, .int .i64 m.n]
theorem infoRm : (Tryz.prog.info? 43).map (·.size) = some 5 := by kernel_rfl
theorem rm_at {w : World} {g : Nat} {m : Mu} {x : Bq} (h : Cs w g (rmC m x)) : w.cell? ⟨g, 0, none⟩ = some (.int .u64 m.b) ∧ w.cell? ⟨g, 1, none⟩ = some (.bool x.1) ∧ w.cell? ⟨g, 2, none⟩ = some (.slice x.2.1 x.2.2.1 x.2.2.2) ∧ w.cell? ⟨g, 3, none⟩ = some (.int .u64 m.w) ∧ w.cell? ⟨g, 4, none⟩ = some (.int .i64 m.n) := ⟨h.at0, h.at1, h.at2, h.at3, h.at4⟩
def rmZ : List Value := [.int .u64 0, .bool false, .slice none 0 0, .int .u64 0, .int .i64 0]
theorem rmZ.noPos (w : World) (t : TypeId) : NoPos (w.alloc (.cells rmZ.toArray t)) w.heap.size := fun o k e => by
  rw [World.cell?_alloc_new] at e
  match o with
  | 0 => simp [rmZ] at e
  | 1 => simp [rmZ] at e
  | 2 => simp [rmZ] at e
  | 3 => simp [rmZ] at e
  | 4 => simp [rmZ] at e; exact e.symm
  | o + 5 => simp [rmZ] at e
/-- What a call that answers a mean of the document's leaves. -/
def RmAns (L : Nat) (m : Mu) (w : World) (e : Ending) (w' : World) : Prop := ∃ x : Bq, e = .returned (rmV m x) ∧ bqR L m.a x w' ∧ Below w.heap.size w w'
end

/- The contracts of the document's means and lags: as the law hands a mean on; may it be; the lag times all weights. -/
section
open Go.RowKit
set_option maxRecDepth 100000 in
set_option maxHeartbeats 4000000 in
theorem Law8.of (m : Mu) (hm : m.In) (w : World) : Calls Tryz.prog 25 #[m.val] w (RmAns 18 m w) := by
  have HM := hid hm
  clear hm
  have HQ0 : Hid ((Cs ((w.alloc (.cells #[.int .u64 m.b, .int .i64 (hiW m.a), .int .u64 (loW m.a), .int .u64 m.w, .int .i64 m.n] 36)).alloc (.cells #[.int .u64 0, .bool false, .slice none 0 0, .int .u64 0, .int .i64 0] 43)) w.heap.size m.cells ∧ Below w.heap.size w ((w.alloc (.cells #[.int .u64 m.b, .int .i64 (hiW m.a), .int .u64 (loW m.a), .int .u64 m.w, .int .i64 m.n] 36)).alloc (.cells #[.int .u64 0, .bool false, .slice none 0 0, .int .u64 0, .int .i64 0] 43))) ∧ (Cs ((w.alloc (.cells #[.int .u64 m.b, .int .i64 (hiW m.a), .int .u64 (loW m.a), .int .u64 m.w, .int .i64 m.n] 36)).alloc (.cells #[.int .u64 0, .bool false, .slice none 0 0, .int .u64 0, .int .i64 0] 43)) (w.heap.size + 1) rmZ ∧ NoPos ((w.alloc (.cells #[.int .u64 m.b, .int .i64 (hiW m.a), .int .u64 (loW m.a), .int .u64 m.w, .int .i64 m.n] 36)).alloc (.cells #[.int .u64 0, .bool false, .slice none 0 0, .int .u64 0, .int .i64 0] 43)) (w.heap.size + 1))) := hid (by
    have h2 := Cs.alloc_new6 (w.alloc (.cells #[.int .u64 m.b, .int .i64 (hiW m.a), .int .u64 (loW m.a), .int .u64 m.w, .int .i64 m.n] 36)) 43 rmZ
    have h3 := rmZ.noPos (w.alloc (.cells #[.int .u64 m.b, .int .i64 (hiW m.a), .int .u64 (loW m.a), .int .u64 m.w, .int .i64 m.n] 36)) 43
    simp only [World.size_alloc] at h2 h3
    exact ⟨⟨(Cs.alloc_new6 w 36 m.cells).alloc _, ((Below.refl w.heap.size w).alloc (Nat.le_refl _) _).alloc (by simp) _⟩, h2, h3⟩)
  unfold Mu.val
  go_enter Tryz.func25, Tryz.ntmps25
  go_wp2_with fail
  generalize ((w.alloc (.cells #[.int .u64 m.b, .int .i64 (hiW m.a), .int .u64 (loW m.a), .int .u64 m.w, .int .i64 m.n] 36)).alloc (.cells #[.int .u64 0, .bool false, .slice none 0 0, .int .u64 0, .int .i64 0] 43)) = W0 at HQ0 ⊢
  have hsT1 : Stays (fun wx => Cs wx w.heap.size m.cells ∧ Below w.heap.size w wx) := fun _ _ h hb => ⟨h.1.below hb, below_on h.2 hb⟩
  have hsU1 : Stays (fun wx => (fun wx => Cs wx w.heap.size m.cells ∧ Below w.heap.size w wx) wx ∧ (Cs wx (w.heap.size + 1) rmZ ∧ NoPos wx (w.heap.size + 1))) := Stays.and_ hsT1 (fun _ _ h hb => ⟨h.1.below hb, h.2.below h.1.lt hb⟩)
  refine wp_region_any (by kernel_rfl) (wpAny_of_E (S0 := fun wx => Cs wx w.heap.size m.cells ∧ Below w.heap.size w wx) (n := 11) _ (fun wx => (fun wx => Cs wx w.heap.size m.cells ∧ Below w.heap.size w wx) wx ∧ (Cs wx (w.heap.size + 1) rmZ ∧ NoPos wx (w.heap.size + 1))) _ _ _ (hsU1 _ _ (HQ0.out) (Below.refl _ _).drew) ?_)
  refine wpAnyE_take (i := 0) (v := ?_) (hsU1) (fun _ h => h.1) rfl (by kernel_rfl) (by kernel_rfl) (by kernel_rfl) (by kernel_rfl) (fun _ _ _ h => h) (SteadyB.of_yields (Or.inl ⟨by rfl, ?_⟩)) ?_
  rotate_left
  · intro wq hSw
    go_simp
    (try with_reducible rfl)
  try simp only [List.getElem_toArray, List.getElem_cons_zero, List.getElem_cons_succ, Act.put, List.setIfInBounds_toArray, List.set_cons_zero, List.set_cons_succ]
  refine wpAnyE_take (i := 1) (v := ?_) (hsU1) (fun _ h => h.1) rfl (by kernel_rfl) (by kernel_rfl) (by kernel_rfl) (by kernel_rfl) (fun _ _ _ h => h) (SteadyB.of_yields (Or.inl ⟨by rfl, ?_⟩)) ?_
  rotate_left
  · intro wq hSw
    obtain ⟨m0, m1, m2, m3, m4⟩ := Mu.at m hSw.1
    go_simp
    (try with_reducible rfl)
  try simp only [List.getElem_toArray, List.getElem_cons_zero, List.getElem_cons_succ, Act.put, List.setIfInBounds_toArray, List.set_cons_zero, List.set_cons_succ]
  refine wpAnyE_take (i := 2) (v := ?_) (hsU1) (fun _ h => h.1) rfl (by kernel_rfl) (by kernel_rfl) (by kernel_rfl) (by kernel_rfl) (fun _ _ _ h => h) (SteadyB.of_yields (Or.inl ⟨by rfl, ?_⟩)) ?_
  rotate_left
  · intro wq hSw
    go_simp
    (try with_reducible rfl)
  try simp only [List.getElem_toArray, List.getElem_cons_zero, List.getElem_cons_succ, Act.put, List.setIfInBounds_toArray, List.set_cons_zero, List.set_cons_succ]
  refine wpAnyE_take (i := 3) (v := ?_) (hsU1) (fun _ h => h.1) rfl (by kernel_rfl) (by kernel_rfl) (by kernel_rfl) (by kernel_rfl) (fun _ _ _ h => h) (SteadyB.of_yields (Or.inl ⟨by rfl, ?_⟩)) ?_
  rotate_left
  · intro wq hSw
    obtain ⟨m0, m1, m2, m3, m4⟩ := Mu.at m hSw.1
    go_simp
    (try with_reducible rfl)
  try simp only [List.getElem_toArray, List.getElem_cons_zero, List.getElem_cons_succ, Act.put, List.setIfInBounds_toArray, List.set_cons_zero, List.set_cons_succ]
  refine wpAnyE_take (i := 5) (v := ?_) (hsU1) (fun _ h => h.1) rfl (by kernel_rfl) (by kernel_rfl) (by kernel_rfl) (by kernel_rfl) (fun _ _ _ h => h) (SteadyB.of_yields (Or.inl ⟨by rfl, ?_⟩)) ?_
  rotate_left
  · intro wq hSw
    go_simp
    (try with_reducible rfl)
  try simp only [List.getElem_toArray, List.getElem_cons_zero, List.getElem_cons_succ, Act.put, List.setIfInBounds_toArray, List.set_cons_zero, List.set_cons_succ]
  refine wpAnyE_take (i := 6) (v := ?_) (hsU1) (fun _ h => h.1) rfl (by kernel_rfl) (by kernel_rfl) (by kernel_rfl) (by kernel_rfl) (fun _ _ _ h => h) (SteadyB.of_yields (Or.inl ⟨by rfl, ?_⟩)) ?_
  rotate_left
  · intro wq hSw
    obtain ⟨m0, m1, m2, m3, m4⟩ := Mu.at m hSw.1
    go_simp
    (try with_reducible rfl)
  try simp only [List.getElem_toArray, List.getElem_cons_zero, List.getElem_cons_succ, Act.put, List.setIfInBounds_toArray, List.set_cons_zero, List.set_cons_succ]
  refine wpAnyE_take (i := 7) (v := ?_) (hsU1) (fun _ h => h.1) rfl (by kernel_rfl) (by kernel_rfl) (by kernel_rfl) (by kernel_rfl) (fun _ _ _ h => h) (SteadyB.of_yields (Or.inl ⟨by rfl, ?_⟩)) ?_
  rotate_left
  · intro wq hSw
    go_simp
    (try with_reducible rfl)
  try simp only [List.getElem_toArray, List.getElem_cons_zero, List.getElem_cons_succ, Act.put, List.setIfInBounds_toArray, List.set_cons_zero, List.set_cons_succ]
  refine wpAnyE_take (i := 8) (v := ?_) (hsU1) (fun _ h => h.1) rfl (by kernel_rfl) (by kernel_rfl) (by kernel_rfl) (by kernel_rfl) (fun _ _ _ h => h) (SteadyB.of_yields (Or.inl ⟨by rfl, ?_⟩)) ?_
  rotate_left
  · intro wq hSw
    obtain ⟨m0, m1, m2, m3, m4⟩ := Mu.at m hSw.1
    go_simp
    (try with_reducible rfl)
  try simp only [List.getElem_toArray, List.getElem_cons_zero, List.getElem_cons_succ, Act.put, List.setIfInBounds_toArray, List.set_cons_zero, List.set_cons_succ]
  refine wpAnyE_call (i := 4) (bqV) (bqR 18 m.a) rfl (by kernel_rfl) (by decide) (by rfl) (hsU1) (fun _ h => h.1) (fun x => bqR.stays 18 m.a x) (fun wq hSw => ?_) (fun x => ?_)
  · exact RunI.big (Law.of _ _ m.a (isW_of HM.out.2.1) wq) (by go_simp)
  obtain ⟨s1, A1, n1, c1⟩ := x
  dsimp only [bqV, bqR]
  try simp only [List.getElem_toArray, List.getElem_cons_zero, List.getElem_cons_succ, Act.put, List.setIfInBounds_toArray, List.set_cons_zero, List.set_cons_succ]
  refine wpAnyE_take (i := 9) (v := ?_) (Stays.and_ (hsU1) (bqR.stays 18 m.a (s1, A1, n1, c1))) (fun _ h => h.1.1) rfl (by kernel_rfl) (by kernel_rfl) (by kernel_rfl) (by kernel_rfl) (fun _ _ _ h => h) (SteadyB.of_yields (Or.inl ⟨by rfl, ?_⟩)) ?_
  rotate_left
  · intro wq hSw
    go_simp
    (try with_reducible rfl)
  try simp only [List.getElem_toArray, List.getElem_cons_zero, List.getElem_cons_succ, Act.put, List.setIfInBounds_toArray, List.set_cons_zero, List.set_cons_succ]
  refine wpAnyE_store (i := 10) (fun wx => (fun wx => Cs wx w.heap.size m.cells ∧ Below w.heap.size w wx) wx ∧ (Cs wx (w.heap.size + 1) (rmC m (s1, A1, n1, c1)) ∧ IsB wx 18 s1 A1 n1 c1 m.a)) 43 (rmC m (s1, A1, n1, c1)) rmZ (w.heap.size + 1) infoRm (.tmp 2) (.tmp 12) rfl rfl (by kernel_rfl) (by decide) (by rfl) ?sv2a ?sv2b ?sv2c ?sv2d ?sv2e (fun _ h => h.1.2.1) (fun _ h => ⟨⟨h.1.1.1.fars (by omega) _ _, below_sets (by omega) _ _ h.1.1.2⟩, Cs.putL (rmC m (s1, A1, n1, c1)) 0 h.1.2.1 (by simp [rmC, rmZ]), h.2.setZ h.1.2.2 0 _⟩) (fun _ h => h.1) ((fun _ _ h hb => ⟨⟨h.1.1.below hb, below_on h.1.2 hb⟩, h.2.1.below hb, h.2.2.below hb⟩)) ?sv2f
  case sv2a => rfl
  case sv2b => rfl
  case sv2c => rfl
  case sv2d => rfl
  case sv2e => rfl
  try simp only [List.getElem_toArray, List.getElem_cons_zero, List.getElem_cons_succ, Act.put, List.setIfInBounds_toArray, List.set_cons_zero, List.set_cons_succ]
  refine wpAnyE_done (by kernel_rfl) (fun wz hSz => ?_) _
  obtain ⟨⟨_, hb⟩, hc, hB⟩ := hSz
  have HB := hid hb
  have HBB := hid hB
  obtain ⟨z0, z1, z2, z3, z4⟩ := rm_at hc
  clear hb hc hB HQ0 hsT1 hsU1
  go_wp2_with fail
  refine bodyPost_ret (v := rmV m (s1, A1, n1, c1)) (by simp [results, Tryz.results25, go_sem, z0, z1, z2, z3, z4]) rfl ⟨(s1, A1, n1, c1), rfl, HBB.out, HB.out⟩
set_option maxRecDepth 100000 in
set_option maxHeartbeats 2000000 in
theorem Ref8.right_0 (m : Mu) (s1 : Bool) (A1 : Option Addr) (n1 c1 : Nat) (h : m.n = 0) (hw : m.w = 0) (w : World) (hB : IsB w 18 s1 A1 n1 c1 m.a) : Calls Tryz.prog 79 #[rmV m (s1, A1, n1, c1)] w (Ans (.bool m.right) w) := by
  have HBB := hid (hB.alloc (.cells #[.int .u64 m.b, .bool s1, .slice A1 n1 c1, .int .u64 m.w, .int .i64 m.n] 43))
  have HB0 := hid ((Below.refl w.heap.size w).alloc (Nat.le_refl _) (.cells #[.int .u64 m.b, .bool s1, .slice A1 n1 c1, .int .u64 m.w, .int .i64 m.n] 43))
  clear hB
  have c0 : (m.n == 0) = true := by rw [h]; rfl
  have c1' : (m.w == 0) = true := by rw [hw]; rfl
  have E : Hid ((cmpI m.a 0 == 0) = m.right) := hid (by
    unfold Mu.right
    rw [if_pos h, hw, Bool.eq_iff_iff]
    simp only [beq_iff_eq, cmpI_zero, Bool.and_eq_true, decide_eq_true_eq, and_true])
  clear h hw
  go_enter Tryz.func79, Tryz.ntmps79
  go_wp2_with fail
  refine (Ref.sign 18 s1 A1 n1 c1 m.a _ HBB.out).mono ?_
  rintro e w1 ⟨rfl, hb⟩
  have HB1 := hid (below_on HB0.out hb)
  clear hb
  go_wp2_with fail
  go_ret
  exact ⟨by rw [← E.out]; rfl, HB1.out⟩
set_option maxRecDepth 100000 in
set_option maxHeartbeats 2000000 in
theorem Ref8.right_1 (m : Mu) (s1 : Bool) (A1 : Option Addr) (n1 c1 : Nat) (h : m.n = 0) (hw : m.w ≠ 0) (w : World) (hB : IsB w 18 s1 A1 n1 c1 m.a) : Calls Tryz.prog 79 #[rmV m (s1, A1, n1, c1)] w (Ans (.bool m.right) w) := by
  have HBB := hid (hB.alloc (.cells #[.int .u64 m.b, .bool s1, .slice A1 n1 c1, .int .u64 m.w, .int .i64 m.n] 43))
  have HB0 := hid ((Below.refl w.heap.size w).alloc (Nat.le_refl _) (.cells #[.int .u64 m.b, .bool s1, .slice A1 n1 c1, .int .u64 m.w, .int .i64 m.n] 43))
  clear hB
  have c0 : (m.n == 0) = true := by rw [h]; rfl
  have c1' : (m.w == 0) = false := by simpa using hw
  have E : Hid (m.right = false) := hid (by unfold Mu.right; rw [if_pos h, decide_eq_false hw]; simp)
  rw [E.out]
  clear h hw
  go_enter Tryz.func79, Tryz.ntmps79
  go_wp2_with fail
  go_ret
  exact ⟨rfl, HB0.out⟩
set_option maxRecDepth 100000 in
set_option maxHeartbeats 2000000 in
theorem Ref8.right_2 (m : Mu) (s1 : Bool) (A1 : Option Addr) (n1 c1 : Nat) (h : m.n ≠ 0) (h1 : ¬ 1 ≤ m.n) (w : World) (hB : IsB w 18 s1 A1 n1 c1 m.a) : Calls Tryz.prog 79 #[rmV m (s1, A1, n1, c1)] w (Ans (.bool m.right) w) := by
  have HBB := hid (hB.alloc (.cells #[.int .u64 m.b, .bool s1, .slice A1 n1 c1, .int .u64 m.w, .int .i64 m.n] 43))
  have HB0 := hid ((Below.refl w.heap.size w).alloc (Nat.le_refl _) (.cells #[.int .u64 m.b, .bool s1, .slice A1 n1 c1, .int .u64 m.w, .int .i64 m.n] 43))
  clear hB
  have c0 : (m.n == 0) = false := by simpa using h
  have E : Hid (m.right = false) := hid (by unfold Mu.right; rw [if_neg h]; simp; omega)
  rw [E.out]
  clear h
  go_enter Tryz.func79, Tryz.ntmps79
  go_wp2_with fail
  go_ret
  exact ⟨rfl, HB0.out⟩
set_option maxRecDepth 100000 in
set_option maxHeartbeats 2000000 in
theorem Ref8.right_3 (m : Mu) (s1 : Bool) (A1 : Option Addr) (n1 c1 : Nat) (h : m.n ≠ 0) (h1 : 1 ≤ m.n) (h2 : ¬ m.n ≤ 32) (w : World) (hB : IsB w 18 s1 A1 n1 c1 m.a) : Calls Tryz.prog 79 #[rmV m (s1, A1, n1, c1)] w (Ans (.bool m.right) w) := by
  have HBB := hid (hB.alloc (.cells #[.int .u64 m.b, .bool s1, .slice A1 n1 c1, .int .u64 m.w, .int .i64 m.n] 43))
  have HB0 := hid ((Below.refl w.heap.size w).alloc (Nat.le_refl _) (.cells #[.int .u64 m.b, .bool s1, .slice A1 n1 c1, .int .u64 m.w, .int .i64 m.n] 43))
  clear hB
  have c0 : (m.n == 0) = false := by simpa using h
  have E : Hid (m.right = false) := hid (by unfold Mu.right; rw [if_neg h]; simp; omega)
  rw [E.out]
  clear h
  go_enter Tryz.func79, Tryz.ntmps79
  go_wp2_with fail
  go_ret
  exact ⟨rfl, HB0.out⟩
set_option maxRecDepth 100000 in
set_option maxHeartbeats 2000000 in
theorem Ref8.right_4 (m : Mu) (s1 : Bool) (A1 : Option Addr) (n1 c1 : Nat) (h : m.n ≠ 0) (h1 : 1 ≤ m.n) (h2 : m.n ≤ 32) (h3 : ¬ m.n ≤ m.w) (w : World) (hB : IsB w 18 s1 A1 n1 c1 m.a) : Calls Tryz.prog 79 #[rmV m (s1, A1, n1, c1)] w (Ans (.bool m.right) w) := by
  have HBB := hid (hB.alloc (.cells #[.int .u64 m.b, .bool s1, .slice A1 n1 c1, .int .u64 m.w, .int .i64 m.n] 43))
  have HB0 := hid ((Below.refl w.heap.size w).alloc (Nat.le_refl _) (.cells #[.int .u64 m.b, .bool s1, .slice A1 n1 c1, .int .u64 m.w, .int .i64 m.n] 43))
  clear hB
  have c0 : (m.n == 0) = false := by simpa using h
  have E : Hid (m.right = false) := hid (by unfold Mu.right; rw [if_neg h]; simp; omega)
  rw [E.out]
  have e1 : IntKind.u64.wrap m.n = m.n := by rw [IntKind.wrap_u64]; omega
  have e2 : IntKind.u64.wrap (m.n * 1048576) = m.n * 1048576 := by rw [IntKind.wrap_u64]; omega
  clear h
  go_enter Tryz.func79, Tryz.ntmps79
  go_wp2_with fail
  go_ret
  exact ⟨rfl, HB0.out⟩
set_option maxRecDepth 100000 in
set_option maxHeartbeats 2000000 in
theorem Ref8.right_5 (m : Mu) (s1 : Bool) (A1 : Option Addr) (n1 c1 : Nat) (h : m.n ≠ 0) (h1 : 1 ≤ m.n) (h2 : m.n ≤ 32) (h3 : m.n ≤ m.w) (h4 : ¬ m.w ≤ m.n * 1048576) (w : World) (hB : IsB w 18 s1 A1 n1 c1 m.a) : Calls Tryz.prog 79 #[rmV m (s1, A1, n1, c1)] w (Ans (.bool m.right) w) := by
  have HBB := hid (hB.alloc (.cells #[.int .u64 m.b, .bool s1, .slice A1 n1 c1, .int .u64 m.w, .int .i64 m.n] 43))
  have HB0 := hid ((Below.refl w.heap.size w).alloc (Nat.le_refl _) (.cells #[.int .u64 m.b, .bool s1, .slice A1 n1 c1, .int .u64 m.w, .int .i64 m.n] 43))
  clear hB
  have c0 : (m.n == 0) = false := by simpa using h
  have E : Hid (m.right = false) := hid (by unfold Mu.right; rw [if_neg h]; simp; omega)
  rw [E.out]
  have e1 : IntKind.u64.wrap m.n = m.n := by rw [IntKind.wrap_u64]; omega
  have e2 : IntKind.u64.wrap (m.n * 1048576) = m.n * 1048576 := by rw [IntKind.wrap_u64]; omega
  clear h
  go_enter Tryz.func79, Tryz.ntmps79
  go_wp2_with fail
  go_ret
  exact ⟨rfl, HB0.out⟩
set_option maxRecDepth 100000 in
set_option maxHeartbeats 2000000 in
theorem Ref8.right_6 (m : Mu) (s1 : Bool) (A1 : Option Addr) (n1 c1 : Nat) (h : m.n ≠ 0) (h1 : 1 ≤ m.n) (h2 : m.n ≤ 32) (h3 : m.n ≤ m.w) (h4 : m.w ≤ m.n * 1048576) (w : World) (hB : IsB w 18 s1 A1 n1 c1 m.a) : Calls Tryz.prog 79 #[rmV m (s1, A1, n1, c1)] w (Ans (.bool m.right) w) := by
  have HBB := hid (hB.alloc (.cells #[.int .u64 m.b, .bool s1, .slice A1 n1 c1, .int .u64 m.w, .int .i64 m.n] 43))
  have HB0 := hid ((Below.refl w.heap.size w).alloc (Nat.le_refl _) (.cells #[.int .u64 m.b, .bool s1, .slice A1 n1 c1, .int .u64 m.w, .int .i64 m.n] 43))
  clear hB
  have c0 : (m.n == 0) = false := by simpa using h
  have E : Hid (m.right = true) := hid (by unfold Mu.right; rw [if_neg h]; simp; omega)
  rw [E.out]
  have e1 : IntKind.u64.wrap m.n = m.n := by rw [IntKind.wrap_u64]; omega
  have e2 : IntKind.u64.wrap (m.n * 1048576) = m.n * 1048576 := by rw [IntKind.wrap_u64]; omega
  clear h
  go_enter Tryz.func79, Tryz.ntmps79
  go_wp2_with fail
  go_ret
  exact ⟨rfl, HB0.out⟩
theorem Ref8.right (m : Mu) (s1 : Bool) (A1 : Option Addr) (n1 c1 : Nat) (w : World) (hB : IsB w 18 s1 A1 n1 c1 m.a) : Calls Tryz.prog 79 #[rmV m (s1, A1, n1, c1)] w (Ans (.bool m.right) w) := by
  by_cases h : m.n = 0
  · by_cases hw : m.w = 0
    · exact Ref8.right_0 m s1 A1 n1 c1 h hw w hB
    · exact Ref8.right_1 m s1 A1 n1 c1 h hw w hB
  · by_cases h1 : 1 ≤ m.n
    · by_cases h2 : m.n ≤ 32
      · by_cases h3 : m.n ≤ m.w
        · by_cases h4 : m.w ≤ m.n * 1048576
          · exact Ref8.right_6 m s1 A1 n1 c1 h h1 h2 h3 h4 w hB
          · exact Ref8.right_5 m s1 A1 n1 c1 h h1 h2 h3 h4 w hB
        · exact Ref8.right_4 m s1 A1 n1 c1 h h1 h2 h3 w hB
      · exact Ref8.right_3 m s1 A1 n1 c1 h h1 h2 w hB
    · exact Ref8.right_2 m s1 A1 n1 c1 h h1 w hB
end

/- The contract of the document's lag times all weights. -/
section
open Go.RowKit
/-- What a call that answers a Big and whether there is one leaves. -/
def BqOk (L : Nat) (z : Int) (ok : Bool) (w : World) (e : Ending) (w' : World) : Prop := ∃ x : Bq, e = .returned (.tuple #[bqV x, .bool ok]) ∧ bqR L z x w' ∧ Below w.heap.size w w'
/-- A mean of the document's, a position, and what is answered. -/
def OV0 (w : World) (m : Mu) (s1 : Bool) (A1 : Option Addr) (n1 c1 : Nat) (p : P3) (W : World) : Prop :=
  ((Cs W w.heap.size (rmC m (s1, A1, n1, c1)) ∧ Cs W (w.heap.size + 1) (pcells p) ∧ Var W (w.heap.size + 2) false none 0 0) ∧ IsB W 18 s1 A1 n1 c1 m.a) ∧ Below w.heap.size w W
theorem OV0.below {w : World} {m : Mu} {s1 : Bool} {A1 : Option Addr} {n1 c1 : Nat} {p : P3} {W W' : World} (h : OV0 w m s1 A1 n1 c1 p W) (hb : Below W.heap.size W W') : OV0 w m s1 A1 n1 c1 p W' :=
  ⟨⟨⟨h.1.1.1.below hb, h.1.1.2.1.below hb, h.1.1.2.2.below hb⟩, h.1.2.below hb⟩, below_on h.2 hb⟩
theorem OV0.sets {w : World} {m : Mu} {s1 : Bool} {A1 : Option Addr} {n1 c1 : Nat} {p : P3} {W : World} (h : OV0 w m s1 A1 n1 c1 p W) {g : Nat} (hg : w.heap.size + 2 < g) (hn : NoInt W g) (vs : List Value) : OV0 w m s1 A1 n1 c1 p (W.setCells g 0 vs) :=
  ⟨⟨⟨h.1.1.1.fars (by omega) _ _, h.1.1.2.1.fars (by omega) _ _, Var.fars (by omega) _ _ h.1.1.2.2⟩, h.1.2.sets hn 0 vs⟩, below_sets (by omega) _ _ h.2⟩
theorem OV0.new (w : World) (m : Mu) (s1 : Bool) (A1 : Option Addr) (n1 c1 : Nat) (p : P3) (hB : IsB w 18 s1 A1 n1 c1 m.a) : OV0 w m s1 A1 n1 c1 p (((w.alloc (.cells #[.int .u64 m.b, .bool s1, .slice A1 n1 c1, .int .u64 m.w, .int .i64 m.n] 43)).alloc (.cells #[.int .u64 p.1, .int .u32 p.2.1, .int .u32 p.2.2] 31)).alloc (.cells #[.bool false, .slice none 0 0] 41)) := by
  have h2 := Cs.alloc_new6 (w.alloc (.cells #[.int .u64 m.b, .bool s1, .slice A1 n1 c1, .int .u64 m.w, .int .i64 m.n] 43)) 31 (pcells p)
  have h3 := Var.new ((w.alloc (.cells #[.int .u64 m.b, .bool s1, .slice A1 n1 c1, .int .u64 m.w, .int .i64 m.n] 43)).alloc (.cells #[.int .u64 p.1, .int .u32 p.2.1, .int .u32 p.2.2] 31)) 41 false none 0 0
  simp only [World.size_alloc] at h2 h3
  exact ⟨⟨⟨((Cs.alloc_new6 w 43 (rmC m (s1, A1, n1, c1))).alloc _).alloc _, h2.alloc _, h3⟩, ((hB.alloc _).alloc _).alloc _⟩, (((Below.refl w.heap.size w).alloc (Nat.le_refl _) _).alloc (by simp) _).alloc (by simp; omega) _⟩
set_option maxRecDepth 100000 in
set_option maxHeartbeats 16000000 in
theorem Ref9.over_no1 (m : Mu) (s1 : Bool) (A1 : Option Addr) (n1 c1 : Nat) (p : P3) (hm : m.In) (hp : PIn p) (h1 : m.right = false) (w : World) (hB : IsB w 18 s1 A1 n1 c1 m.a) : Calls Tryz.prog 24 #[rmV m (s1, A1, n1, c1), pv p] w (BqOk 84 0 false w) := by
  have HM := hid hm
  have HP := hid hp
  have HQ0 := hid (OV0.new w m s1 A1 n1 c1 p hB)
  have HIB := hid hB
  have H1 := hid h1
  clear hm hp hB h1
  unfold rmV pv
  go_enter Tryz.func24, Tryz.ntmps24
  go_wp2_with fail
  generalize (((w.alloc (.cells #[.int .u64 m.b, .bool s1, .slice A1 n1 c1, .int .u64 m.w, .int .i64 m.n] 43)).alloc (.cells #[.int .u64 p.1, .int .u32 p.2.1, .int .u32 p.2.2] 31)).alloc (.cells #[.bool false, .slice none 0 0] 41)) = W0 at HQ0 ⊢
  obtain ⟨m0, m1, m2, m3, m4⟩ := rm_at HQ0.out.1.1.1
  go_wp2_with fail
  clear m0 m1 m2 m3 m4
  refine (Ref8.right m s1 A1 n1 c1 _ HQ0.out.1.2).mono ?_
  rw [H1.out]
  rintro e w1 ⟨rfl, hb⟩
  replace HQ0 := hid (HQ0.out.below hb)
  clear hb
  obtain ⟨m0, m1, m2, m3, m4⟩ := rm_at HQ0.out.1.1.1
  obtain ⟨q0, q1, q2⟩ := P3.at p HQ0.out.1.1.2.1
  obtain ⟨r0, r1, r2, r3, _⟩ := HQ0.out.1.1.2.2
  have rl := HQ0.out.1.1.2.2.lt
  go_wp2_with fail
  refine bodyPost_ret (v := .tuple #[.agg #[.bool false, .slice none 0 0], .bool false]) (by simp [results, Tryz.results24, go_sem, r0, r1, rl]) rfl ⟨(false, none, 0, 0), rfl, IsB.zero _ _, ?_⟩
  exact (HQ0.out.2.setCell (show w.heap.size ≤ w.heap.size + 1 + 1 by omega) _).setCell (show w.heap.size ≤ w.heap.size + 1 + 1 by omega) _
set_option maxRecDepth 100000 in
set_option maxHeartbeats 16000000 in
theorem Ref9.over_no2 (m : Mu) (s1 : Bool) (A1 : Option Addr) (n1 c1 : Nat) (p : P3) (hm : m.In) (hp : PIn p) (h1 : m.right = true) (h2 : m.n = 0) (w : World) (hB : IsB w 18 s1 A1 n1 c1 m.a) : Calls Tryz.prog 24 #[rmV m (s1, A1, n1, c1), pv p] w (BqOk 84 0 false w) := by
  have HM := hid hm
  have HP := hid hp
  have HQ0 := hid (OV0.new w m s1 A1 n1 c1 p hB)
  have HIB := hid hB
  have H1 := hid h1
  have c2 : (m.n == 0) = true := by rw [h2]; rfl
  clear hm hp hB h1 h2
  unfold rmV pv
  go_enter Tryz.func24, Tryz.ntmps24
  go_wp2_with fail
  generalize (((w.alloc (.cells #[.int .u64 m.b, .bool s1, .slice A1 n1 c1, .int .u64 m.w, .int .i64 m.n] 43)).alloc (.cells #[.int .u64 p.1, .int .u32 p.2.1, .int .u32 p.2.2] 31)).alloc (.cells #[.bool false, .slice none 0 0] 41)) = W0 at HQ0 ⊢
  obtain ⟨m0, m1, m2, m3, m4⟩ := rm_at HQ0.out.1.1.1
  go_wp2_with fail
  clear m0 m1 m2 m3 m4
  refine (Ref8.right m s1 A1 n1 c1 _ HQ0.out.1.2).mono ?_
  rw [H1.out]
  rintro e w1 ⟨rfl, hb⟩
  replace HQ0 := hid (HQ0.out.below hb)
  clear hb
  obtain ⟨m0, m1, m2, m3, m4⟩ := rm_at HQ0.out.1.1.1
  obtain ⟨q0, q1, q2⟩ := P3.at p HQ0.out.1.1.2.1
  obtain ⟨r0, r1, r2, r3, _⟩ := HQ0.out.1.1.2.2
  have rl := HQ0.out.1.1.2.2.lt
  go_wp2_with fail
  refine bodyPost_ret (v := .tuple #[.agg #[.bool false, .slice none 0 0], .bool false]) (by simp [results, Tryz.results24, go_sem, r0, r1, rl]) rfl ⟨(false, none, 0, 0), rfl, IsB.zero _ _, ?_⟩
  exact (HQ0.out.2.setCell (show w.heap.size ≤ w.heap.size + 1 + 1 by omega) _).setCell (show w.heap.size ≤ w.heap.size + 1 + 1 by omega) _
set_option maxRecDepth 100000 in
set_option maxHeartbeats 16000000 in
theorem Ref9.over_no3 (m : Mu) (s1 : Bool) (A1 : Option Addr) (n1 c1 : Nat) (p : P3) (hm : m.In) (hp : PIn p) (h1 : m.right = true) (h2 : m.n ≠ 0) (h3 : pR p = false) (w : World) (hB : IsB w 18 s1 A1 n1 c1 m.a) : Calls Tryz.prog 24 #[rmV m (s1, A1, n1, c1), pv p] w (BqOk 84 0 false w) := by
  have HM := hid hm
  have HP := hid hp
  have HQ0 := hid (OV0.new w m s1 A1 n1 c1 p hB)
  have HIB := hid hB
  have H1 := hid h1
  have H3 := hid h3
  have c2 : (m.n == 0) = false := by simpa using h2
  clear hm hp hB h1 h2 h3
  unfold rmV pv
  go_enter Tryz.func24, Tryz.ntmps24
  go_wp2_with fail
  generalize (((w.alloc (.cells #[.int .u64 m.b, .bool s1, .slice A1 n1 c1, .int .u64 m.w, .int .i64 m.n] 43)).alloc (.cells #[.int .u64 p.1, .int .u32 p.2.1, .int .u32 p.2.2] 31)).alloc (.cells #[.bool false, .slice none 0 0] 41)) = W0 at HQ0 ⊢
  obtain ⟨m0, m1, m2, m3, m4⟩ := rm_at HQ0.out.1.1.1
  go_wp2_with fail
  clear m0 m1 m2 m3 m4
  refine (Ref8.right m s1 A1 n1 c1 _ HQ0.out.1.2).mono ?_
  rw [H1.out]
  rintro e w1 ⟨rfl, hb⟩
  replace HQ0 := hid (HQ0.out.below hb)
  clear hb
  obtain ⟨m0, m1, m2, m3, m4⟩ := rm_at HQ0.out.1.1.1
  obtain ⟨q0, q1, q2⟩ := P3.at p HQ0.out.1.1.2.1
  go_wp2_with fail
  clear m0 m1 m2 m3 m4 q0 q1 q2
  refine (Ref4.right p.1 p.2.1 p.2.2 _).mono ?_
  rw [show (decide (1 ≤ p.2.2 ∧ p.2.2 ≤ 1048576) && decide (p.2.1 < p.2.2)) = pR p from rfl, H3.out]
  rintro e w2 ⟨rfl, hb⟩
  replace HQ0 := hid (HQ0.out.below hb)
  clear hb
  obtain ⟨r0, r1, r2, r3, _⟩ := HQ0.out.1.1.2.2
  have rl := HQ0.out.1.1.2.2.lt
  go_wp2_with fail
  refine bodyPost_ret (v := .tuple #[.agg #[.bool false, .slice none 0 0], .bool false]) (by simp [results, Tryz.results24, go_sem, r0, r1, rl]) rfl ⟨(false, none, 0, 0), rfl, IsB.zero _ _, ?_⟩
  exact (HQ0.out.2.setCell (show w.heap.size ≤ w.heap.size + 1 + 1 by omega) _).setCell (show w.heap.size ≤ w.heap.size + 1 + 1 by omega) _
set_option maxRecDepth 100000 in
set_option maxHeartbeats 16000000 in
theorem Ref9.over_no4 (m : Mu) (s1 : Bool) (A1 : Option Addr) (n1 c1 : Nat) (p : P3) (hm : m.In) (hp : PIn p) (h1 : m.right = true) (h2 : m.n ≠ 0) (h3 : pR p = true) (h4 : okW (m.a * p.2.2) = false) (w : World) (hB : IsB w 18 s1 A1 n1 c1 m.a) : Calls Tryz.prog 24 #[rmV m (s1, A1, n1, c1), pv p] w (BqOk 84 0 false w) := by
  have HM := hid hm
  have HP := hid hp
  have HQ0 := hid (OV0.new w m s1 A1 n1 c1 p hB)
  have HIB := hid hB
  have H1 := hid h1
  have H3 := hid h3
  have c2 : (m.n == 0) = false := by simpa using h2
  have HW := hid (right_w h1 h2)
  have e1 : IntKind.u64.wrap p.2.2 = p.2.2 := by have := hp.2.2; rw [IntKind.wrap_u64]; omega
  have H6 : Hid (-170141183460469231731687303715884105728 ≤ (pD m.b p * m.w) ∧ (pD m.b p * m.w) < 170141183460469231731687303715884105728) := hid (by
    have e2 := pD_bdR m.b hp h3
    have e3 := mulBd (d := pD m.b p) (M := 9671406556917033398697984) (V := 33554432) (by omega) (by omega) (show 0 ≤ m.w by have := right_w h1 h2; omega) (right_w h1 h2).2.2 (by decide)
    omega)
  have HX : Hid (¬ (-170141183460469231731687303715884105728 ≤ (m.a * p.2.2) ∧ (m.a * p.2.2) < 170141183460469231731687303715884105728)) := hid (fun h => by have := okW_no h4; unfold WR at this; omega)
  clear h4
  clear hm hp hB h1 h2 h3
  unfold rmV pv
  go_enter Tryz.func24, Tryz.ntmps24
  go_wp2_with fail
  generalize (((w.alloc (.cells #[.int .u64 m.b, .bool s1, .slice A1 n1 c1, .int .u64 m.w, .int .i64 m.n] 43)).alloc (.cells #[.int .u64 p.1, .int .u32 p.2.1, .int .u32 p.2.2] 31)).alloc (.cells #[.bool false, .slice none 0 0] 41)) = W0 at HQ0 ⊢
  obtain ⟨m0, m1, m2, m3, m4⟩ := rm_at HQ0.out.1.1.1
  go_wp2_with fail
  clear m0 m1 m2 m3 m4
  refine (Ref8.right m s1 A1 n1 c1 _ HQ0.out.1.2).mono ?_
  rw [H1.out]
  rintro e w1 ⟨rfl, hb⟩
  replace HQ0 := hid (HQ0.out.below hb)
  clear hb
  obtain ⟨m0, m1, m2, m3, m4⟩ := rm_at HQ0.out.1.1.1
  obtain ⟨q0, q1, q2⟩ := P3.at p HQ0.out.1.1.2.1
  go_wp2_with fail
  clear m0 m1 m2 m3 m4 q0 q1 q2
  refine (Ref4.right p.1 p.2.1 p.2.2 _).mono ?_
  rw [show (decide (1 ≤ p.2.2 ∧ p.2.2 ≤ 1048576) && decide (p.2.1 < p.2.2)) = pR p from rfl, H3.out]
  rintro e w2 ⟨rfl, hb⟩
  replace HQ0 := hid (HQ0.out.below hb)
  clear hb
  go_wp2_with fail
  have hsT1 : Stays (fun wx => OV0 w m s1 A1 n1 c1 p wx) := fun _ _ h hb => h.below hb
  refine wp_region_grow (S := fun wx => OV0 w m s1 A1 n1 c1 p wx) 9 (by kernel_rfl) (hsT1 _ _ (HQ0.out) (Below.refl _ _).drew) ?_
  refine wpAnyE_take (i := 0) (v := ?_) (hsT1) (fun _ h => h) rfl (by kernel_rfl) (by kernel_rfl) (by kernel_rfl) (by kernel_rfl) (fun _ _ _ h => h) (SteadyB.of_yields (Or.inl ⟨by rfl, ?_⟩)) ?_
  rotate_left
  · intro wq hSw
    go_simp
    (try with_reducible rfl)
  try simp only [List.getElem_toArray, List.getElem_cons_zero, List.getElem_cons_succ, Act.put, List.setIfInBounds_toArray, List.set_cons_zero, List.set_cons_succ]
  refine wpAnyE_take (i := 1) (v := ?_) (hsT1) (fun _ h => h) rfl (by kernel_rfl) (by kernel_rfl) (by kernel_rfl) (by kernel_rfl) (fun _ _ _ h => h) (SteadyB.of_yields (Or.inl ⟨by rfl, ?_⟩)) ?_
  rotate_left
  · intro wq hSw
    obtain ⟨m0, m1, m2, m3, m4⟩ := rm_at hSw.1.1.1
    obtain ⟨q0, q1, q2⟩ := P3.at p hSw.1.1.2.1
    go_simp
    (try with_reducible rfl)
  try simp only [List.getElem_toArray, List.getElem_cons_zero, List.getElem_cons_succ, Act.put, List.setIfInBounds_toArray, List.set_cons_zero, List.set_cons_succ]
  refine wpAnyE_take (i := 2) (v := ?_) (hsT1) (fun _ h => h) rfl (by kernel_rfl) (by kernel_rfl) (by kernel_rfl) (by kernel_rfl) (fun _ _ _ h => h) (SteadyB.of_yields (Or.inl ⟨by rfl, ?_⟩)) ?_
  rotate_left
  · intro wq hSw
    go_simp
    (try with_reducible rfl)
  try simp only [List.getElem_toArray, List.getElem_cons_zero, List.getElem_cons_succ, Act.put, List.setIfInBounds_toArray, List.set_cons_zero, List.set_cons_succ]
  refine wpAnyE_take (i := 3) (v := ?_) (hsT1) (fun _ h => h) rfl (by kernel_rfl) (by kernel_rfl) (by kernel_rfl) (by kernel_rfl) (fun _ _ _ h => h) (SteadyB.of_yields (Or.inl ⟨by rfl, ?_⟩)) ?_
  rotate_left
  · intro wq hSw
    obtain ⟨m0, m1, m2, m3, m4⟩ := rm_at hSw.1.1.1
    obtain ⟨q0, q1, q2⟩ := P3.at p hSw.1.1.2.1
    go_simp
    (try with_reducible rfl)
  try simp only [List.getElem_toArray, List.getElem_cons_zero, List.getElem_cons_succ, Act.put, List.setIfInBounds_toArray, List.set_cons_zero, List.set_cons_succ]
  refine wpAnyE_take (i := 4) (v := ?_) (hsT1) (fun _ h => h) rfl (by kernel_rfl) (by kernel_rfl) (by kernel_rfl) (by kernel_rfl) (fun _ _ _ h => h) (SteadyB.of_yields (Or.inl ⟨by rfl, ?_⟩)) ?_
  rotate_left
  · intro wq hSw
    go_simp
    (try with_reducible rfl)
  try simp only [List.getElem_toArray, List.getElem_cons_zero, List.getElem_cons_succ, Act.put, List.setIfInBounds_toArray, List.set_cons_zero, List.set_cons_succ]
  refine wpF.fst (j := 7) (dst := some 6) (T := fun wx g => Var wx g false none 0 0 ∧ w.heap.size + 2 < g) ?_
  refine wpF_call (k := 5) _ (bqV) (bqR 5 p.2.2) rfl rfl rfl (Or.inl (by kernel_rfl)) (by kernel_rfl) (by decide) (by decide) (by decide) (by kernel_rfl) (by intro cs b h; cases h) (by rfl) (fun _ => rfl) (hsT1) (fun _ h => h) (fun g => fun _ _ h hb => ⟨h.1.below hb, h.2⟩) (fun x => bqR.stays 5 p.2.2 x) (fun aq wq hSw => ?_) (fun wq hSw => ?_) (fun x => ?_)
  · (first | exact ⟨_, by go_simp; (try with_reducible rfl), (Below.refl _ _).alloc (Nat.le_refl _) _, Var.new _ _ _ _ _ _, hSw.1.1.2.2.lt⟩ | exact ⟨_, by go_simp; (try with_reducible rfl), (Below.refl _ _).alloc (Nat.le_refl _) _, Var.new _ _ _ _ _ _, hSw.1.1.1.2.2.lt⟩ | exact ⟨_, by go_simp; (try with_reducible rfl), (Below.refl _ _).alloc (Nat.le_refl _) _, Var.new _ _ _ _ _ _, hSw.1.1.1.1.2.2.lt⟩)
  · exact RunI.big (Ref.U p.2.2 HP.out.2.2.1 (by have := HP.out.2.2.2; omega) wq) (by go_simp)
  obtain ⟨s2, A2, n2, c2⟩ := x
  dsimp only [bqV, bqR]
  try simp only [List.getElem_toArray, List.getElem_cons_zero, List.getElem_cons_succ, Act.put, List.setIfInBounds_toArray, List.set_cons_zero, List.set_cons_succ]
  refine wpF_call (k := 6) _ (bqV) (bqR 24 (m.a * p.2.2)) rfl rfl rfl (Or.inl (by kernel_rfl)) (by kernel_rfl) (by decide) (by decide) (by decide) (by kernel_rfl) (by intro cs b h; cases h) (by rfl) (fun _ => rfl) (Stays.and_ (hsT1) (bqR.stays 5 p.2.2 (s2, A2, n2, c2))) (fun _ h => h.1) (fun g => fun _ _ h hb => ⟨h.1.below hb, h.2⟩) (fun x => bqR.stays 24 (m.a * p.2.2) x) (fun aq wq hSw => ?_) (fun wq hSw => ?_) (fun x => ?_)
  · (first | exact ⟨_, by go_simp; (try with_reducible rfl), (Below.refl _ _).alloc (Nat.le_refl _) _, Var.new _ _ _ _ _ _, hSw.1.1.2.2.lt⟩ | exact ⟨_, by go_simp; (try with_reducible rfl), (Below.refl _ _).alloc (Nat.le_refl _) _, Var.new _ _ _ _ _ _, hSw.1.1.1.2.2.lt⟩ | exact ⟨_, by go_simp; (try with_reducible rfl), (Below.refl _ _).alloc (Nat.le_refl _) _, Var.new _ _ _ _ _ _, hSw.1.1.1.1.2.2.lt⟩)
  · exact RunI.big (Ref.mul 18 5 s1 s2 A1 A2 n1 c1 n2 c2 m.a p.2.2 wq hSw.1.1.2 hSw.2 (by decide) (by decide)) (by go_simp)
  obtain ⟨s3, A3, n3, c3⟩ := x
  dsimp only [bqV, bqR]
  try simp only [List.getElem_toArray, List.getElem_cons_zero, List.getElem_cons_succ, Act.put, List.setIfInBounds_toArray, List.set_cons_zero, List.set_cons_succ]
  refine wpF_done _ rfl rfl (by kernel_rfl) (by decide) (by rfl) (Stays.and_ (Stays.and_ (hsT1) (bqR.stays 5 p.2.2 (s2, A2, n2, c2))) (bqR.stays 24 (m.a * p.2.2) (s3, A3, n3, c3))) (fun _ h => h.1.1) (fun g => fun _ _ h hb => ⟨h.1.below hb, h.2⟩) (fun wq hSw => ?_) (fun gA => ?_)
  · (first | exact ⟨_, by go_simp; (try with_reducible rfl), (Below.refl _ _).alloc (Nat.le_refl _) _, Var.new _ _ _ _ _ _, hSw.1.1.2.2.lt⟩ | exact ⟨_, by go_simp; (try with_reducible rfl), (Below.refl _ _).alloc (Nat.le_refl _) _, Var.new _ _ _ _ _ _, hSw.1.1.1.2.2.lt⟩ | exact ⟨_, by go_simp; (try with_reducible rfl), (Below.refl _ _).alloc (Nat.le_refl _) _, Var.new _ _ _ _ _ _, hSw.1.1.1.1.2.2.lt⟩)
  try simp only [List.getElem_toArray, List.getElem_cons_zero, List.getElem_cons_succ, Act.put, List.setIfInBounds_toArray, List.set_cons_zero, List.set_cons_succ]
  refine wpAnyE_store (i := 8) (fun wx => (fun wx => OV0 w m s1 A1 n1 c1 p wx) wx ∧ ((Var wx gA s3 A3 n3 c3 ∧ IsB wx 24 s3 A3 n3 c3 (m.a * p.2.2)) ∧ w.heap.size + 2 < gA)) 41 [.bool s3, .slice A3 n3 c3] [.bool false, .slice none 0 0] gA infoBig (.tmp 6) (.tmp 29) rfl rfl (by kernel_rfl) (by decide) (by rfl) ?sv2a ?sv2b ?sv2c ?sv2d ?sv2e (fun _ h => h.2.1.cs) (fun _ h => ⟨h.1.1.1.sets h.2.2 h.2.1.2.2.2.2 _, ⟨h.2.1.sets s3 A3 n3 c3, h.1.2.sets h.2.1.2.2.2.2 0 _⟩, h.2.2⟩) (fun _ h => h.1) ((fun _ _ h hb => ⟨h.1.below hb, ⟨h.2.1.1.below hb, h.2.1.2.below hb⟩, h.2.2⟩)) ?sv2f
  case sv2a => rfl
  case sv2b => rfl
  case sv2c => rfl
  case sv2d => rfl
  case sv2e => rfl
  try simp only [List.getElem_toArray, List.getElem_cons_zero, List.getElem_cons_succ, Act.put, List.setIfInBounds_toArray, List.set_cons_zero, List.set_cons_succ]
  refine wpAnyE_done (by kernel_rfl) (fun wz hSz => ?_) _
  have HQ3 := hid hSz
  clear hSz HQ0 hsT1
  generalize gA = gs at HQ3 ⊢
  go_wp2_with fail
  have hsT3 : Stays (fun wx => OV0 w m s1 A1 n1 c1 p wx ∧ ((Var wx gs s3 A3 n3 c3 ∧ IsB wx 24 s3 A3 n3 c3 (m.a * p.2.2)) ∧ w.heap.size + 2 < gs)) := fun _ _ h hb => ⟨h.1.below hb, ⟨h.2.1.1.below hb, h.2.1.2.below hb⟩, h.2.2⟩
  refine wp_region_grow (S := fun wx => OV0 w m s1 A1 n1 c1 p wx ∧ ((Var wx gs s3 A3 n3 c3 ∧ IsB wx 24 s3 A3 n3 c3 (m.a * p.2.2)) ∧ w.heap.size + 2 < gs)) 10 (by kernel_rfl) (hsT3 _ _ (HQ3.out) (Below.refl _ _).drew) ?_
  refine wpAnyE_take (i := 0) (v := ?_) (hsT3) (fun _ h => h) rfl (by kernel_rfl) (by kernel_rfl) (by kernel_rfl) (by kernel_rfl) (fun _ _ _ h => h) (SteadyB.of_yields (Or.inl ⟨by rfl, ?_⟩)) ?_
  rotate_left
  · intro wq hSw
    obtain ⟨m0, m1, m2, m3, m4⟩ := rm_at hSw.1.1.1.1
    obtain ⟨q0, q1, q2⟩ := P3.at p hSw.1.1.1.2.1
    go_simp
    (try with_reducible rfl)
  try simp only [List.getElem_toArray, List.getElem_cons_zero, List.getElem_cons_succ, Act.put, List.setIfInBounds_toArray, List.set_cons_zero, List.set_cons_succ]
  refine wpAnyE_take (i := 1) (v := ?_) (hsT3) (fun _ h => h) rfl (by kernel_rfl) (by kernel_rfl) (by kernel_rfl) (by kernel_rfl) (fun _ _ _ h => h) (SteadyB.of_yields (Or.inl ⟨by rfl, ?_⟩)) ?_
  rotate_left
  · intro wq hSw
    go_simp
    (try with_reducible rfl)
  try simp only [List.getElem_toArray, List.getElem_cons_zero, List.getElem_cons_succ, Act.put, List.setIfInBounds_toArray, List.set_cons_zero, List.set_cons_succ]
  refine wpAnyE_take (i := 2) (v := ?_) (hsT3) (fun _ h => h) rfl (by kernel_rfl) (by kernel_rfl) (by kernel_rfl) (by kernel_rfl) (fun _ _ _ h => h) (SteadyB.of_yields (Or.inl ⟨by rfl, ?_⟩)) ?_
  rotate_left
  · intro wq hSw
    obtain ⟨m0, m1, m2, m3, m4⟩ := rm_at hSw.1.1.1.1
    obtain ⟨q0, q1, q2⟩ := P3.at p hSw.1.1.1.2.1
    go_simp
    (try with_reducible rfl)
  try simp only [List.getElem_toArray, List.getElem_cons_zero, List.getElem_cons_succ, Act.put, List.setIfInBounds_toArray, List.set_cons_zero, List.set_cons_succ]
  refine wpAnyE_take (i := 4) (v := ?_) (hsT3) (fun _ h => h) rfl (by kernel_rfl) (by kernel_rfl) (by kernel_rfl) (by kernel_rfl) (fun _ _ _ h => h) (SteadyB.of_yields (Or.inl ⟨by rfl, ?_⟩)) ?_
  rotate_left
  · intro wq hSw
    go_simp
    (try with_reducible rfl)
  try simp only [List.getElem_toArray, List.getElem_cons_zero, List.getElem_cons_succ, Act.put, List.setIfInBounds_toArray, List.set_cons_zero, List.set_cons_succ]
  refine wpAnyE_take (i := 5) (v := ?_) (hsT3) (fun _ h => h) rfl (by kernel_rfl) (by kernel_rfl) (by kernel_rfl) (by kernel_rfl) (fun _ _ _ h => h) (SteadyB.of_yields (Or.inl ⟨by rfl, ?_⟩)) ?_
  rotate_left
  · intro wq hSw
    obtain ⟨m0, m1, m2, m3, m4⟩ := rm_at hSw.1.1.1.1
    obtain ⟨q0, q1, q2⟩ := P3.at p hSw.1.1.1.2.1
    go_simp
    (try with_reducible rfl)
  try simp only [List.getElem_toArray, List.getElem_cons_zero, List.getElem_cons_succ, Act.put, List.setIfInBounds_toArray, List.set_cons_zero, List.set_cons_succ]
  refine wpF.fst (j := 8) (dst := some 7) (T := fun wx g => Var wx g false none 0 0 ∧ gs < g) ?_
  refine wpF_call (k := 3) _ (bqV) (bqR 77 (pD m.b p)) rfl rfl rfl (Or.inl (by kernel_rfl)) (by kernel_rfl) (by decide) (by decide) (by decide) (by kernel_rfl) (by intro cs b h; cases h) (by rfl) (fun _ => rfl) (hsT3) (fun _ h => h) (fun g => fun _ _ h hb => ⟨h.1.below hb, h.2⟩) (fun x => bqR.stays 77 (pD m.b p) x) (fun aq wq hSw => ?_) (fun wq hSw => ?_) (fun x => ?_)
  · (first | exact ⟨_, by go_simp; (try with_reducible rfl), (Below.refl _ _).alloc (Nat.le_refl _) _, Var.new _ _ _ _ _ _, hSw.2.1.1.lt⟩ | exact ⟨_, by go_simp; (try with_reducible rfl), (Below.refl _ _).alloc (Nat.le_refl _) _, Var.new _ _ _ _ _ _, hSw.1.2.1.1.lt⟩ | exact ⟨_, by go_simp; (try with_reducible rfl), (Below.refl _ _).alloc (Nat.le_refl _) _, Var.new _ _ _ _ _ _, hSw.1.1.2.1.1.lt⟩ | exact ⟨_, by go_simp; (try with_reducible rfl), (Below.refl _ _).alloc (Nat.le_refl _) _, Var.new _ _ _ _ _ _, hSw.1.1.1.2.1.1.lt⟩)
  · exact RunI.big (Ref4.distance p.1 p.2.1 p.2.2 m.b HP.out.1.1 HP.out.1.2 HP.out.2.1.1 HP.out.2.1.2 HP.out.2.2.1 HP.out.2.2.2 HM.out.1.1 HM.out.1.2 wq) (by go_simp)
  obtain ⟨s4, A4, n4, c4⟩ := x
  dsimp only [bqV, bqR]
  try simp only [List.getElem_toArray, List.getElem_cons_zero, List.getElem_cons_succ, Act.put, List.setIfInBounds_toArray, List.set_cons_zero, List.set_cons_succ]
  refine wpF_call (k := 6) _ (bqV) (bqR 5 m.w) rfl rfl rfl (Or.inl (by kernel_rfl)) (by kernel_rfl) (by decide) (by decide) (by decide) (by kernel_rfl) (by intro cs b h; cases h) (by rfl) (fun _ => rfl) (Stays.and_ (hsT3) (bqR.stays 77 (pD m.b p) (s4, A4, n4, c4))) (fun _ h => h.1) (fun g => fun _ _ h hb => ⟨h.1.below hb, h.2⟩) (fun x => bqR.stays 5 m.w x) (fun aq wq hSw => ?_) (fun wq hSw => ?_) (fun x => ?_)
  · (first | exact ⟨_, by go_simp; (try with_reducible rfl), (Below.refl _ _).alloc (Nat.le_refl _) _, Var.new _ _ _ _ _ _, hSw.2.1.1.lt⟩ | exact ⟨_, by go_simp; (try with_reducible rfl), (Below.refl _ _).alloc (Nat.le_refl _) _, Var.new _ _ _ _ _ _, hSw.1.2.1.1.lt⟩ | exact ⟨_, by go_simp; (try with_reducible rfl), (Below.refl _ _).alloc (Nat.le_refl _) _, Var.new _ _ _ _ _ _, hSw.1.1.2.1.1.lt⟩ | exact ⟨_, by go_simp; (try with_reducible rfl), (Below.refl _ _).alloc (Nat.le_refl _) _, Var.new _ _ _ _ _ _, hSw.1.1.1.2.1.1.lt⟩)
  · exact RunI.big (Ref.U m.w HM.out.2.2.1.1 HM.out.2.2.1.2 wq) (by go_simp)
  obtain ⟨s5, A5, n5, c5⟩ := x
  dsimp only [bqV, bqR]
  try simp only [List.getElem_toArray, List.getElem_cons_zero, List.getElem_cons_succ, Act.put, List.setIfInBounds_toArray, List.set_cons_zero, List.set_cons_succ]
  refine wpF_call (k := 7) _ (bqV) (bqR 83 (pD m.b p * m.w)) rfl rfl rfl (Or.inl (by kernel_rfl)) (by kernel_rfl) (by decide) (by decide) (by decide) (by kernel_rfl) (by intro cs b h; cases h) (by rfl) (fun _ => rfl) (Stays.and_ (Stays.and_ (hsT3) (bqR.stays 77 (pD m.b p) (s4, A4, n4, c4))) (bqR.stays 5 m.w (s5, A5, n5, c5))) (fun _ h => h.1.1) (fun g => fun _ _ h hb => ⟨h.1.below hb, h.2⟩) (fun x => bqR.stays 83 (pD m.b p * m.w) x) (fun aq wq hSw => ?_) (fun wq hSw => ?_) (fun x => ?_)
  · (first | exact ⟨_, by go_simp; (try with_reducible rfl), (Below.refl _ _).alloc (Nat.le_refl _) _, Var.new _ _ _ _ _ _, hSw.2.1.1.lt⟩ | exact ⟨_, by go_simp; (try with_reducible rfl), (Below.refl _ _).alloc (Nat.le_refl _) _, Var.new _ _ _ _ _ _, hSw.1.2.1.1.lt⟩ | exact ⟨_, by go_simp; (try with_reducible rfl), (Below.refl _ _).alloc (Nat.le_refl _) _, Var.new _ _ _ _ _ _, hSw.1.1.2.1.1.lt⟩ | exact ⟨_, by go_simp; (try with_reducible rfl), (Below.refl _ _).alloc (Nat.le_refl _) _, Var.new _ _ _ _ _ _, hSw.1.1.1.2.1.1.lt⟩)
  · exact RunI.big (Ref.mul 77 5 s4 s5 A4 A5 n4 c4 n5 c5 (pD m.b p) m.w wq hSw.1.2 hSw.2 (by decide) (by decide)) (by go_simp)
  obtain ⟨s6, A6, n6, c6⟩ := x
  dsimp only [bqV, bqR]
  try simp only [List.getElem_toArray, List.getElem_cons_zero, List.getElem_cons_succ, Act.put, List.setIfInBounds_toArray, List.set_cons_zero, List.set_cons_succ]
  refine wpF_done _ rfl rfl (by kernel_rfl) (by decide) (by rfl) (Stays.and_ (Stays.and_ (Stays.and_ (hsT3) (bqR.stays 77 (pD m.b p) (s4, A4, n4, c4))) (bqR.stays 5 m.w (s5, A5, n5, c5))) (bqR.stays 83 (pD m.b p * m.w) (s6, A6, n6, c6))) (fun _ h => h.1.1.1) (fun g => fun _ _ h hb => ⟨h.1.below hb, h.2⟩) (fun wq hSw => ?_) (fun gA => ?_)
  · (first | exact ⟨_, by go_simp; (try with_reducible rfl), (Below.refl _ _).alloc (Nat.le_refl _) _, Var.new _ _ _ _ _ _, hSw.2.1.1.lt⟩ | exact ⟨_, by go_simp; (try with_reducible rfl), (Below.refl _ _).alloc (Nat.le_refl _) _, Var.new _ _ _ _ _ _, hSw.1.2.1.1.lt⟩ | exact ⟨_, by go_simp; (try with_reducible rfl), (Below.refl _ _).alloc (Nat.le_refl _) _, Var.new _ _ _ _ _ _, hSw.1.1.2.1.1.lt⟩ | exact ⟨_, by go_simp; (try with_reducible rfl), (Below.refl _ _).alloc (Nat.le_refl _) _, Var.new _ _ _ _ _ _, hSw.1.1.1.2.1.1.lt⟩)
  try simp only [List.getElem_toArray, List.getElem_cons_zero, List.getElem_cons_succ, Act.put, List.setIfInBounds_toArray, List.set_cons_zero, List.set_cons_succ]
  refine wpAnyE_store (i := 9) (fun wx => (fun wx => OV0 w m s1 A1 n1 c1 p wx ∧ ((Var wx gs s3 A3 n3 c3 ∧ IsB wx 24 s3 A3 n3 c3 (m.a * p.2.2)) ∧ w.heap.size + 2 < gs)) wx ∧ ((Var wx gA s6 A6 n6 c6 ∧ IsB wx 83 s6 A6 n6 c6 (pD m.b p * m.w)) ∧ gs < gA)) 41 [.bool s6, .slice A6 n6 c6] [.bool false, .slice none 0 0] gA infoBig (.tmp 7) (.tmp 37) rfl rfl (by kernel_rfl) (by decide) (by rfl) ?sv4a ?sv4b ?sv4c ?sv4d ?sv4e (fun _ h => h.2.1.cs) (fun _ h => ⟨⟨h.1.1.1.1.1.sets (by have := h.1.1.1.1.2.2; have := h.2.2; omega) h.2.1.2.2.2.2 _, ⟨Var.fars (by have := h.2.2; omega) _ _ h.1.1.1.1.2.1.1, h.1.1.1.1.2.1.2.sets h.2.1.2.2.2.2 0 _⟩, h.1.1.1.1.2.2⟩, ⟨h.2.1.sets s6 A6 n6 c6, h.1.2.sets h.2.1.2.2.2.2 0 _⟩, h.2.2⟩) (fun _ h => h.1) ((fun _ _ h hb => ⟨⟨h.1.1.below hb, ⟨h.1.2.1.1.below hb, h.1.2.1.2.below hb⟩, h.1.2.2⟩, ⟨h.2.1.1.below hb, h.2.1.2.below hb⟩, h.2.2⟩)) ?sv4f
  case sv4a => rfl
  case sv4b => rfl
  case sv4c => rfl
  case sv4d => rfl
  case sv4e => rfl
  try simp only [List.getElem_toArray, List.getElem_cons_zero, List.getElem_cons_succ, Act.put, List.setIfInBounds_toArray, List.set_cons_zero, List.set_cons_succ]
  refine wpAnyE_done (by kernel_rfl) (fun wz hSz => ?_) _
  have HQ4 := hid hSz
  clear hSz HQ3
  generalize gA = gh at HQ4 ⊢
  obtain ⟨a0, a1, a2, a3, _⟩ := HQ4.out.1.2.1.1
  have al := HQ4.out.1.2.1.1.lt
  obtain ⟨b0, b1, b2, b3, _⟩ := HQ4.out.2.1.1
  have bl := HQ4.out.2.1.1.lt
  go_wp2_with fail
  clear a0 a1 a2 a3 al b0 b1 b2 b3 bl
  refine (Ref.sub 83 s3 s6 A3 A6 n3 c3 n6 c6 (m.a * p.2.2) (pD m.b p * m.w) _ (HQ4.out.1.2.1.2.mono (by decide)) HQ4.out.2.1.2 (by decide)).mono ?_
  rintro e w7 ⟨s7, A7, n7, c7, rfl, hB, hb⟩
  have ha := (Below.refl w7.heap.size w7).alloc (Nat.le_refl _) (.cells #[.bool s7, .slice A7 n7 c7] 41)
  have HQ5 : Hid (OV0 w m s1 A1 n1 c1 p (w7.alloc (.cells #[.bool s7, .slice A7 n7 c7] 41)) ∧ (IsB (w7.alloc (.cells #[.bool s7, .slice A7 n7 c7] 41)) 24 s3 A3 n3 c3 (m.a * p.2.2) ∧ IsB (w7.alloc (.cells #[.bool s7, .slice A7 n7 c7] 41)) 83 s6 A6 n6 c6 (pD m.b p * m.w) ∧ IsB (w7.alloc (.cells #[.bool s7, .slice A7 n7 c7] 41)) 84 s7 A7 n7 c7 ((m.a * p.2.2) - (pD m.b p * m.w))) ∧ (Var (w7.alloc (.cells #[.bool s7, .slice A7 n7 c7] 41)) gs s3 A3 n3 c3 ∧ Var (w7.alloc (.cells #[.bool s7, .slice A7 n7 c7] 41)) gh s6 A6 n6 c6 ∧ Var (w7.alloc (.cells #[.bool s7, .slice A7 n7 c7] 41)) w7.heap.size s7 A7 n7 c7)) := hid ⟨(HQ4.out.1.1.below hb).below ha, ⟨(HQ4.out.1.2.1.2.below hb).below ha, (HQ4.out.2.1.2.below hb).below ha, hB.alloc _⟩, (HQ4.out.1.2.1.1.below hb).below ha, (HQ4.out.2.1.1.below hb).below ha, Var.new _ _ _ _ _ _⟩
  clear hB hb ha HQ4
  obtain ⟨a0, a1, a2, a3, _⟩ := HQ5.out.2.2.1
  have al := HQ5.out.2.2.1.lt
  obtain ⟨b0, b1, b2, b3, _⟩ := HQ5.out.2.2.2.1
  have bl := HQ5.out.2.2.2.1.lt
  go_wp2_with fail
  clear a0 a1 a2 a3 al b0 b1 b2 b3 bl
  generalize w7.alloc (.cells #[.bool s7, .slice A7 n7 c7] 41) = W7 at HQ5 ⊢
  generalize w7.heap.size = gd at HQ5 ⊢
  refine (Ref.is 24 (by decide) s3 A3 n3 c3 (m.a * p.2.2) _ HQ5.out.2.1.1 false ⟨fun h => absurd h (by decide), fun h => absurd h HX.out⟩).mono ?_
  rintro e w8 ⟨rfl, hb⟩
  replace HQ5 := hid (And.intro (HQ5.out.1.below hb) (And.intro (And.intro (HQ5.out.2.1.1.below hb) (And.intro (HQ5.out.2.1.2.1.below hb) (HQ5.out.2.1.2.2.below hb))) (And.intro (HQ5.out.2.2.1.below hb) (And.intro (HQ5.out.2.2.2.1.below hb) (HQ5.out.2.2.2.2.below hb)))))
  clear hb
  obtain ⟨r0, r1, r2, r3, _⟩ := HQ5.out.1.1.1.2.2
  have rl := HQ5.out.1.1.1.2.2.lt
  go_wp2_with fail
  refine bodyPost_ret (v := .tuple #[.agg #[.bool false, .slice none 0 0], .bool false]) (by simp [results, Tryz.results24, go_sem, r0, r1, rl]) rfl ⟨(false, none, 0, 0), rfl, IsB.zero _ _, ?_⟩
  exact (HQ5.out.1.2.setCell (show w.heap.size ≤ w.heap.size + 1 + 1 by omega) _).setCell (show w.heap.size ≤ w.heap.size + 1 + 1 by omega) _
set_option maxRecDepth 100000 in
set_option maxHeartbeats 16000000 in
theorem Ref9.over_no5 (m : Mu) (s1 : Bool) (A1 : Option Addr) (n1 c1 : Nat) (p : P3) (hm : m.In) (hp : PIn p) (h1 : m.right = true) (h2 : m.n ≠ 0) (h3 : pR p = true) (h4 : okW (m.a * p.2.2) = true) (h5 : okW ((m.a * p.2.2) - (pD m.b p * m.w)) = false) (w : World) (hB : IsB w 18 s1 A1 n1 c1 m.a) : Calls Tryz.prog 24 #[rmV m (s1, A1, n1, c1), pv p] w (BqOk 84 0 false w) := by
  have HM := hid hm
  have HP := hid hp
  have HQ0 := hid (OV0.new w m s1 A1 n1 c1 p hB)
  have HIB := hid hB
  have H1 := hid h1
  have H3 := hid h3
  have c2 : (m.n == 0) = false := by simpa using h2
  have HW := hid (right_w h1 h2)
  have e1 : IntKind.u64.wrap p.2.2 = p.2.2 := by have := hp.2.2; rw [IntKind.wrap_u64]; omega
  have H6 : Hid (-170141183460469231731687303715884105728 ≤ (pD m.b p * m.w) ∧ (pD m.b p * m.w) < 170141183460469231731687303715884105728) := hid (by
    have e2 := pD_bdR m.b hp h3
    have e3 := mulBd (d := pD m.b p) (M := 9671406556917033398697984) (V := 33554432) (by omega) (by omega) (show 0 ≤ m.w by have := right_w h1 h2; omega) (right_w h1 h2).2.2 (by decide)
    omega)
  have HX : Hid (-170141183460469231731687303715884105728 ≤ (m.a * p.2.2) ∧ (m.a * p.2.2) < 170141183460469231731687303715884105728) := hid (by have := okW_iff.1 h4; unfold WR at this; omega)
  have HY : Hid (¬ (-170141183460469231731687303715884105728 ≤ ((m.a * p.2.2) - (pD m.b p * m.w)) ∧ ((m.a * p.2.2) - (pD m.b p * m.w)) < 170141183460469231731687303715884105728)) := hid (fun h => by have := okW_no h5; unfold WR at this; omega)
  clear h4 h5
  clear hm hp hB h1 h2 h3
  unfold rmV pv
  go_enter Tryz.func24, Tryz.ntmps24
  go_wp2_with fail
  generalize (((w.alloc (.cells #[.int .u64 m.b, .bool s1, .slice A1 n1 c1, .int .u64 m.w, .int .i64 m.n] 43)).alloc (.cells #[.int .u64 p.1, .int .u32 p.2.1, .int .u32 p.2.2] 31)).alloc (.cells #[.bool false, .slice none 0 0] 41)) = W0 at HQ0 ⊢
  obtain ⟨m0, m1, m2, m3, m4⟩ := rm_at HQ0.out.1.1.1
  go_wp2_with fail
  clear m0 m1 m2 m3 m4
  refine (Ref8.right m s1 A1 n1 c1 _ HQ0.out.1.2).mono ?_
  rw [H1.out]
  rintro e w1 ⟨rfl, hb⟩
  replace HQ0 := hid (HQ0.out.below hb)
  clear hb
  obtain ⟨m0, m1, m2, m3, m4⟩ := rm_at HQ0.out.1.1.1
  obtain ⟨q0, q1, q2⟩ := P3.at p HQ0.out.1.1.2.1
  go_wp2_with fail
  clear m0 m1 m2 m3 m4 q0 q1 q2
  refine (Ref4.right p.1 p.2.1 p.2.2 _).mono ?_
  rw [show (decide (1 ≤ p.2.2 ∧ p.2.2 ≤ 1048576) && decide (p.2.1 < p.2.2)) = pR p from rfl, H3.out]
  rintro e w2 ⟨rfl, hb⟩
  replace HQ0 := hid (HQ0.out.below hb)
  clear hb
  go_wp2_with fail
  have hsT1 : Stays (fun wx => OV0 w m s1 A1 n1 c1 p wx) := fun _ _ h hb => h.below hb
  refine wp_region_grow (S := fun wx => OV0 w m s1 A1 n1 c1 p wx) 9 (by kernel_rfl) (hsT1 _ _ (HQ0.out) (Below.refl _ _).drew) ?_
  refine wpAnyE_take (i := 0) (v := ?_) (hsT1) (fun _ h => h) rfl (by kernel_rfl) (by kernel_rfl) (by kernel_rfl) (by kernel_rfl) (fun _ _ _ h => h) (SteadyB.of_yields (Or.inl ⟨by rfl, ?_⟩)) ?_
  rotate_left
  · intro wq hSw
    go_simp
    (try with_reducible rfl)
  try simp only [List.getElem_toArray, List.getElem_cons_zero, List.getElem_cons_succ, Act.put, List.setIfInBounds_toArray, List.set_cons_zero, List.set_cons_succ]
  refine wpAnyE_take (i := 1) (v := ?_) (hsT1) (fun _ h => h) rfl (by kernel_rfl) (by kernel_rfl) (by kernel_rfl) (by kernel_rfl) (fun _ _ _ h => h) (SteadyB.of_yields (Or.inl ⟨by rfl, ?_⟩)) ?_
  rotate_left
  · intro wq hSw
    obtain ⟨m0, m1, m2, m3, m4⟩ := rm_at hSw.1.1.1
    obtain ⟨q0, q1, q2⟩ := P3.at p hSw.1.1.2.1
    go_simp
    (try with_reducible rfl)
  try simp only [List.getElem_toArray, List.getElem_cons_zero, List.getElem_cons_succ, Act.put, List.setIfInBounds_toArray, List.set_cons_zero, List.set_cons_succ]
  refine wpAnyE_take (i := 2) (v := ?_) (hsT1) (fun _ h => h) rfl (by kernel_rfl) (by kernel_rfl) (by kernel_rfl) (by kernel_rfl) (fun _ _ _ h => h) (SteadyB.of_yields (Or.inl ⟨by rfl, ?_⟩)) ?_
  rotate_left
  · intro wq hSw
    go_simp
    (try with_reducible rfl)
  try simp only [List.getElem_toArray, List.getElem_cons_zero, List.getElem_cons_succ, Act.put, List.setIfInBounds_toArray, List.set_cons_zero, List.set_cons_succ]
  refine wpAnyE_take (i := 3) (v := ?_) (hsT1) (fun _ h => h) rfl (by kernel_rfl) (by kernel_rfl) (by kernel_rfl) (by kernel_rfl) (fun _ _ _ h => h) (SteadyB.of_yields (Or.inl ⟨by rfl, ?_⟩)) ?_
  rotate_left
  · intro wq hSw
    obtain ⟨m0, m1, m2, m3, m4⟩ := rm_at hSw.1.1.1
    obtain ⟨q0, q1, q2⟩ := P3.at p hSw.1.1.2.1
    go_simp
    (try with_reducible rfl)
  try simp only [List.getElem_toArray, List.getElem_cons_zero, List.getElem_cons_succ, Act.put, List.setIfInBounds_toArray, List.set_cons_zero, List.set_cons_succ]
  refine wpAnyE_take (i := 4) (v := ?_) (hsT1) (fun _ h => h) rfl (by kernel_rfl) (by kernel_rfl) (by kernel_rfl) (by kernel_rfl) (fun _ _ _ h => h) (SteadyB.of_yields (Or.inl ⟨by rfl, ?_⟩)) ?_
  rotate_left
  · intro wq hSw
    go_simp
    (try with_reducible rfl)
  try simp only [List.getElem_toArray, List.getElem_cons_zero, List.getElem_cons_succ, Act.put, List.setIfInBounds_toArray, List.set_cons_zero, List.set_cons_succ]
  refine wpF.fst (j := 7) (dst := some 6) (T := fun wx g => Var wx g false none 0 0 ∧ w.heap.size + 2 < g) ?_
  refine wpF_call (k := 5) _ (bqV) (bqR 5 p.2.2) rfl rfl rfl (Or.inl (by kernel_rfl)) (by kernel_rfl) (by decide) (by decide) (by decide) (by kernel_rfl) (by intro cs b h; cases h) (by rfl) (fun _ => rfl) (hsT1) (fun _ h => h) (fun g => fun _ _ h hb => ⟨h.1.below hb, h.2⟩) (fun x => bqR.stays 5 p.2.2 x) (fun aq wq hSw => ?_) (fun wq hSw => ?_) (fun x => ?_)
  · (first | exact ⟨_, by go_simp; (try with_reducible rfl), (Below.refl _ _).alloc (Nat.le_refl _) _, Var.new _ _ _ _ _ _, hSw.1.1.2.2.lt⟩ | exact ⟨_, by go_simp; (try with_reducible rfl), (Below.refl _ _).alloc (Nat.le_refl _) _, Var.new _ _ _ _ _ _, hSw.1.1.1.2.2.lt⟩ | exact ⟨_, by go_simp; (try with_reducible rfl), (Below.refl _ _).alloc (Nat.le_refl _) _, Var.new _ _ _ _ _ _, hSw.1.1.1.1.2.2.lt⟩)
  · exact RunI.big (Ref.U p.2.2 HP.out.2.2.1 (by have := HP.out.2.2.2; omega) wq) (by go_simp)
  obtain ⟨s2, A2, n2, c2⟩ := x
  dsimp only [bqV, bqR]
  try simp only [List.getElem_toArray, List.getElem_cons_zero, List.getElem_cons_succ, Act.put, List.setIfInBounds_toArray, List.set_cons_zero, List.set_cons_succ]
  refine wpF_call (k := 6) _ (bqV) (bqR 24 (m.a * p.2.2)) rfl rfl rfl (Or.inl (by kernel_rfl)) (by kernel_rfl) (by decide) (by decide) (by decide) (by kernel_rfl) (by intro cs b h; cases h) (by rfl) (fun _ => rfl) (Stays.and_ (hsT1) (bqR.stays 5 p.2.2 (s2, A2, n2, c2))) (fun _ h => h.1) (fun g => fun _ _ h hb => ⟨h.1.below hb, h.2⟩) (fun x => bqR.stays 24 (m.a * p.2.2) x) (fun aq wq hSw => ?_) (fun wq hSw => ?_) (fun x => ?_)
  · (first | exact ⟨_, by go_simp; (try with_reducible rfl), (Below.refl _ _).alloc (Nat.le_refl _) _, Var.new _ _ _ _ _ _, hSw.1.1.2.2.lt⟩ | exact ⟨_, by go_simp; (try with_reducible rfl), (Below.refl _ _).alloc (Nat.le_refl _) _, Var.new _ _ _ _ _ _, hSw.1.1.1.2.2.lt⟩ | exact ⟨_, by go_simp; (try with_reducible rfl), (Below.refl _ _).alloc (Nat.le_refl _) _, Var.new _ _ _ _ _ _, hSw.1.1.1.1.2.2.lt⟩)
  · exact RunI.big (Ref.mul 18 5 s1 s2 A1 A2 n1 c1 n2 c2 m.a p.2.2 wq hSw.1.1.2 hSw.2 (by decide) (by decide)) (by go_simp)
  obtain ⟨s3, A3, n3, c3⟩ := x
  dsimp only [bqV, bqR]
  try simp only [List.getElem_toArray, List.getElem_cons_zero, List.getElem_cons_succ, Act.put, List.setIfInBounds_toArray, List.set_cons_zero, List.set_cons_succ]
  refine wpF_done _ rfl rfl (by kernel_rfl) (by decide) (by rfl) (Stays.and_ (Stays.and_ (hsT1) (bqR.stays 5 p.2.2 (s2, A2, n2, c2))) (bqR.stays 24 (m.a * p.2.2) (s3, A3, n3, c3))) (fun _ h => h.1.1) (fun g => fun _ _ h hb => ⟨h.1.below hb, h.2⟩) (fun wq hSw => ?_) (fun gA => ?_)
  · (first | exact ⟨_, by go_simp; (try with_reducible rfl), (Below.refl _ _).alloc (Nat.le_refl _) _, Var.new _ _ _ _ _ _, hSw.1.1.2.2.lt⟩ | exact ⟨_, by go_simp; (try with_reducible rfl), (Below.refl _ _).alloc (Nat.le_refl _) _, Var.new _ _ _ _ _ _, hSw.1.1.1.2.2.lt⟩ | exact ⟨_, by go_simp; (try with_reducible rfl), (Below.refl _ _).alloc (Nat.le_refl _) _, Var.new _ _ _ _ _ _, hSw.1.1.1.1.2.2.lt⟩)
  try simp only [List.getElem_toArray, List.getElem_cons_zero, List.getElem_cons_succ, Act.put, List.setIfInBounds_toArray, List.set_cons_zero, List.set_cons_succ]
  refine wpAnyE_store (i := 8) (fun wx => (fun wx => OV0 w m s1 A1 n1 c1 p wx) wx ∧ ((Var wx gA s3 A3 n3 c3 ∧ IsB wx 24 s3 A3 n3 c3 (m.a * p.2.2)) ∧ w.heap.size + 2 < gA)) 41 [.bool s3, .slice A3 n3 c3] [.bool false, .slice none 0 0] gA infoBig (.tmp 6) (.tmp 29) rfl rfl (by kernel_rfl) (by decide) (by rfl) ?sv2a ?sv2b ?sv2c ?sv2d ?sv2e (fun _ h => h.2.1.cs) (fun _ h => ⟨h.1.1.1.sets h.2.2 h.2.1.2.2.2.2 _, ⟨h.2.1.sets s3 A3 n3 c3, h.1.2.sets h.2.1.2.2.2.2 0 _⟩, h.2.2⟩) (fun _ h => h.1) ((fun _ _ h hb => ⟨h.1.below hb, ⟨h.2.1.1.below hb, h.2.1.2.below hb⟩, h.2.2⟩)) ?sv2f
  case sv2a => rfl
  case sv2b => rfl
  case sv2c => rfl
  case sv2d => rfl
  case sv2e => rfl
  try simp only [List.getElem_toArray, List.getElem_cons_zero, List.getElem_cons_succ, Act.put, List.setIfInBounds_toArray, List.set_cons_zero, List.set_cons_succ]
  refine wpAnyE_done (by kernel_rfl) (fun wz hSz => ?_) _
  have HQ3 := hid hSz
  clear hSz HQ0 hsT1
  generalize gA = gs at HQ3 ⊢
  go_wp2_with fail
  have hsT3 : Stays (fun wx => OV0 w m s1 A1 n1 c1 p wx ∧ ((Var wx gs s3 A3 n3 c3 ∧ IsB wx 24 s3 A3 n3 c3 (m.a * p.2.2)) ∧ w.heap.size + 2 < gs)) := fun _ _ h hb => ⟨h.1.below hb, ⟨h.2.1.1.below hb, h.2.1.2.below hb⟩, h.2.2⟩
  refine wp_region_grow (S := fun wx => OV0 w m s1 A1 n1 c1 p wx ∧ ((Var wx gs s3 A3 n3 c3 ∧ IsB wx 24 s3 A3 n3 c3 (m.a * p.2.2)) ∧ w.heap.size + 2 < gs)) 10 (by kernel_rfl) (hsT3 _ _ (HQ3.out) (Below.refl _ _).drew) ?_
  refine wpAnyE_take (i := 0) (v := ?_) (hsT3) (fun _ h => h) rfl (by kernel_rfl) (by kernel_rfl) (by kernel_rfl) (by kernel_rfl) (fun _ _ _ h => h) (SteadyB.of_yields (Or.inl ⟨by rfl, ?_⟩)) ?_
  rotate_left
  · intro wq hSw
    obtain ⟨m0, m1, m2, m3, m4⟩ := rm_at hSw.1.1.1.1
    obtain ⟨q0, q1, q2⟩ := P3.at p hSw.1.1.1.2.1
    go_simp
    (try with_reducible rfl)
  try simp only [List.getElem_toArray, List.getElem_cons_zero, List.getElem_cons_succ, Act.put, List.setIfInBounds_toArray, List.set_cons_zero, List.set_cons_succ]
  refine wpAnyE_take (i := 1) (v := ?_) (hsT3) (fun _ h => h) rfl (by kernel_rfl) (by kernel_rfl) (by kernel_rfl) (by kernel_rfl) (fun _ _ _ h => h) (SteadyB.of_yields (Or.inl ⟨by rfl, ?_⟩)) ?_
  rotate_left
  · intro wq hSw
    go_simp
    (try with_reducible rfl)
  try simp only [List.getElem_toArray, List.getElem_cons_zero, List.getElem_cons_succ, Act.put, List.setIfInBounds_toArray, List.set_cons_zero, List.set_cons_succ]
  refine wpAnyE_take (i := 2) (v := ?_) (hsT3) (fun _ h => h) rfl (by kernel_rfl) (by kernel_rfl) (by kernel_rfl) (by kernel_rfl) (fun _ _ _ h => h) (SteadyB.of_yields (Or.inl ⟨by rfl, ?_⟩)) ?_
  rotate_left
  · intro wq hSw
    obtain ⟨m0, m1, m2, m3, m4⟩ := rm_at hSw.1.1.1.1
    obtain ⟨q0, q1, q2⟩ := P3.at p hSw.1.1.1.2.1
    go_simp
    (try with_reducible rfl)
  try simp only [List.getElem_toArray, List.getElem_cons_zero, List.getElem_cons_succ, Act.put, List.setIfInBounds_toArray, List.set_cons_zero, List.set_cons_succ]
  refine wpAnyE_take (i := 4) (v := ?_) (hsT3) (fun _ h => h) rfl (by kernel_rfl) (by kernel_rfl) (by kernel_rfl) (by kernel_rfl) (fun _ _ _ h => h) (SteadyB.of_yields (Or.inl ⟨by rfl, ?_⟩)) ?_
  rotate_left
  · intro wq hSw
    go_simp
    (try with_reducible rfl)
  try simp only [List.getElem_toArray, List.getElem_cons_zero, List.getElem_cons_succ, Act.put, List.setIfInBounds_toArray, List.set_cons_zero, List.set_cons_succ]
  refine wpAnyE_take (i := 5) (v := ?_) (hsT3) (fun _ h => h) rfl (by kernel_rfl) (by kernel_rfl) (by kernel_rfl) (by kernel_rfl) (fun _ _ _ h => h) (SteadyB.of_yields (Or.inl ⟨by rfl, ?_⟩)) ?_
  rotate_left
  · intro wq hSw
    obtain ⟨m0, m1, m2, m3, m4⟩ := rm_at hSw.1.1.1.1
    obtain ⟨q0, q1, q2⟩ := P3.at p hSw.1.1.1.2.1
    go_simp
    (try with_reducible rfl)
  try simp only [List.getElem_toArray, List.getElem_cons_zero, List.getElem_cons_succ, Act.put, List.setIfInBounds_toArray, List.set_cons_zero, List.set_cons_succ]
  refine wpF.fst (j := 8) (dst := some 7) (T := fun wx g => Var wx g false none 0 0 ∧ gs < g) ?_
  refine wpF_call (k := 3) _ (bqV) (bqR 77 (pD m.b p)) rfl rfl rfl (Or.inl (by kernel_rfl)) (by kernel_rfl) (by decide) (by decide) (by decide) (by kernel_rfl) (by intro cs b h; cases h) (by rfl) (fun _ => rfl) (hsT3) (fun _ h => h) (fun g => fun _ _ h hb => ⟨h.1.below hb, h.2⟩) (fun x => bqR.stays 77 (pD m.b p) x) (fun aq wq hSw => ?_) (fun wq hSw => ?_) (fun x => ?_)
  · (first | exact ⟨_, by go_simp; (try with_reducible rfl), (Below.refl _ _).alloc (Nat.le_refl _) _, Var.new _ _ _ _ _ _, hSw.2.1.1.lt⟩ | exact ⟨_, by go_simp; (try with_reducible rfl), (Below.refl _ _).alloc (Nat.le_refl _) _, Var.new _ _ _ _ _ _, hSw.1.2.1.1.lt⟩ | exact ⟨_, by go_simp; (try with_reducible rfl), (Below.refl _ _).alloc (Nat.le_refl _) _, Var.new _ _ _ _ _ _, hSw.1.1.2.1.1.lt⟩ | exact ⟨_, by go_simp; (try with_reducible rfl), (Below.refl _ _).alloc (Nat.le_refl _) _, Var.new _ _ _ _ _ _, hSw.1.1.1.2.1.1.lt⟩)
  · exact RunI.big (Ref4.distance p.1 p.2.1 p.2.2 m.b HP.out.1.1 HP.out.1.2 HP.out.2.1.1 HP.out.2.1.2 HP.out.2.2.1 HP.out.2.2.2 HM.out.1.1 HM.out.1.2 wq) (by go_simp)
  obtain ⟨s4, A4, n4, c4⟩ := x
  dsimp only [bqV, bqR]
  try simp only [List.getElem_toArray, List.getElem_cons_zero, List.getElem_cons_succ, Act.put, List.setIfInBounds_toArray, List.set_cons_zero, List.set_cons_succ]
  refine wpF_call (k := 6) _ (bqV) (bqR 5 m.w) rfl rfl rfl (Or.inl (by kernel_rfl)) (by kernel_rfl) (by decide) (by decide) (by decide) (by kernel_rfl) (by intro cs b h; cases h) (by rfl) (fun _ => rfl) (Stays.and_ (hsT3) (bqR.stays 77 (pD m.b p) (s4, A4, n4, c4))) (fun _ h => h.1) (fun g => fun _ _ h hb => ⟨h.1.below hb, h.2⟩) (fun x => bqR.stays 5 m.w x) (fun aq wq hSw => ?_) (fun wq hSw => ?_) (fun x => ?_)
  · (first | exact ⟨_, by go_simp; (try with_reducible rfl), (Below.refl _ _).alloc (Nat.le_refl _) _, Var.new _ _ _ _ _ _, hSw.2.1.1.lt⟩ | exact ⟨_, by go_simp; (try with_reducible rfl), (Below.refl _ _).alloc (Nat.le_refl _) _, Var.new _ _ _ _ _ _, hSw.1.2.1.1.lt⟩ | exact ⟨_, by go_simp; (try with_reducible rfl), (Below.refl _ _).alloc (Nat.le_refl _) _, Var.new _ _ _ _ _ _, hSw.1.1.2.1.1.lt⟩ | exact ⟨_, by go_simp; (try with_reducible rfl), (Below.refl _ _).alloc (Nat.le_refl _) _, Var.new _ _ _ _ _ _, hSw.1.1.1.2.1.1.lt⟩)
  · exact RunI.big (Ref.U m.w HM.out.2.2.1.1 HM.out.2.2.1.2 wq) (by go_simp)
  obtain ⟨s5, A5, n5, c5⟩ := x
  dsimp only [bqV, bqR]
  try simp only [List.getElem_toArray, List.getElem_cons_zero, List.getElem_cons_succ, Act.put, List.setIfInBounds_toArray, List.set_cons_zero, List.set_cons_succ]
  refine wpF_call (k := 7) _ (bqV) (bqR 83 (pD m.b p * m.w)) rfl rfl rfl (Or.inl (by kernel_rfl)) (by kernel_rfl) (by decide) (by decide) (by decide) (by kernel_rfl) (by intro cs b h; cases h) (by rfl) (fun _ => rfl) (Stays.and_ (Stays.and_ (hsT3) (bqR.stays 77 (pD m.b p) (s4, A4, n4, c4))) (bqR.stays 5 m.w (s5, A5, n5, c5))) (fun _ h => h.1.1) (fun g => fun _ _ h hb => ⟨h.1.below hb, h.2⟩) (fun x => bqR.stays 83 (pD m.b p * m.w) x) (fun aq wq hSw => ?_) (fun wq hSw => ?_) (fun x => ?_)
  · (first | exact ⟨_, by go_simp; (try with_reducible rfl), (Below.refl _ _).alloc (Nat.le_refl _) _, Var.new _ _ _ _ _ _, hSw.2.1.1.lt⟩ | exact ⟨_, by go_simp; (try with_reducible rfl), (Below.refl _ _).alloc (Nat.le_refl _) _, Var.new _ _ _ _ _ _, hSw.1.2.1.1.lt⟩ | exact ⟨_, by go_simp; (try with_reducible rfl), (Below.refl _ _).alloc (Nat.le_refl _) _, Var.new _ _ _ _ _ _, hSw.1.1.2.1.1.lt⟩ | exact ⟨_, by go_simp; (try with_reducible rfl), (Below.refl _ _).alloc (Nat.le_refl _) _, Var.new _ _ _ _ _ _, hSw.1.1.1.2.1.1.lt⟩)
  · exact RunI.big (Ref.mul 77 5 s4 s5 A4 A5 n4 c4 n5 c5 (pD m.b p) m.w wq hSw.1.2 hSw.2 (by decide) (by decide)) (by go_simp)
  obtain ⟨s6, A6, n6, c6⟩ := x
  dsimp only [bqV, bqR]
  try simp only [List.getElem_toArray, List.getElem_cons_zero, List.getElem_cons_succ, Act.put, List.setIfInBounds_toArray, List.set_cons_zero, List.set_cons_succ]
  refine wpF_done _ rfl rfl (by kernel_rfl) (by decide) (by rfl) (Stays.and_ (Stays.and_ (Stays.and_ (hsT3) (bqR.stays 77 (pD m.b p) (s4, A4, n4, c4))) (bqR.stays 5 m.w (s5, A5, n5, c5))) (bqR.stays 83 (pD m.b p * m.w) (s6, A6, n6, c6))) (fun _ h => h.1.1.1) (fun g => fun _ _ h hb => ⟨h.1.below hb, h.2⟩) (fun wq hSw => ?_) (fun gA => ?_)
  · (first | exact ⟨_, by go_simp; (try with_reducible rfl), (Below.refl _ _).alloc (Nat.le_refl _) _, Var.new _ _ _ _ _ _, hSw.2.1.1.lt⟩ | exact ⟨_, by go_simp; (try with_reducible rfl), (Below.refl _ _).alloc (Nat.le_refl _) _, Var.new _ _ _ _ _ _, hSw.1.2.1.1.lt⟩ | exact ⟨_, by go_simp; (try with_reducible rfl), (Below.refl _ _).alloc (Nat.le_refl _) _, Var.new _ _ _ _ _ _, hSw.1.1.2.1.1.lt⟩ | exact ⟨_, by go_simp; (try with_reducible rfl), (Below.refl _ _).alloc (Nat.le_refl _) _, Var.new _ _ _ _ _ _, hSw.1.1.1.2.1.1.lt⟩)
  try simp only [List.getElem_toArray, List.getElem_cons_zero, List.getElem_cons_succ, Act.put, List.setIfInBounds_toArray, List.set_cons_zero, List.set_cons_succ]
  refine wpAnyE_store (i := 9) (fun wx => (fun wx => OV0 w m s1 A1 n1 c1 p wx ∧ ((Var wx gs s3 A3 n3 c3 ∧ IsB wx 24 s3 A3 n3 c3 (m.a * p.2.2)) ∧ w.heap.size + 2 < gs)) wx ∧ ((Var wx gA s6 A6 n6 c6 ∧ IsB wx 83 s6 A6 n6 c6 (pD m.b p * m.w)) ∧ gs < gA)) 41 [.bool s6, .slice A6 n6 c6] [.bool false, .slice none 0 0] gA infoBig (.tmp 7) (.tmp 37) rfl rfl (by kernel_rfl) (by decide) (by rfl) ?sv4a ?sv4b ?sv4c ?sv4d ?sv4e (fun _ h => h.2.1.cs) (fun _ h => ⟨⟨h.1.1.1.1.1.sets (by have := h.1.1.1.1.2.2; have := h.2.2; omega) h.2.1.2.2.2.2 _, ⟨Var.fars (by have := h.2.2; omega) _ _ h.1.1.1.1.2.1.1, h.1.1.1.1.2.1.2.sets h.2.1.2.2.2.2 0 _⟩, h.1.1.1.1.2.2⟩, ⟨h.2.1.sets s6 A6 n6 c6, h.1.2.sets h.2.1.2.2.2.2 0 _⟩, h.2.2⟩) (fun _ h => h.1) ((fun _ _ h hb => ⟨⟨h.1.1.below hb, ⟨h.1.2.1.1.below hb, h.1.2.1.2.below hb⟩, h.1.2.2⟩, ⟨h.2.1.1.below hb, h.2.1.2.below hb⟩, h.2.2⟩)) ?sv4f
  case sv4a => rfl
  case sv4b => rfl
  case sv4c => rfl
  case sv4d => rfl
  case sv4e => rfl
  try simp only [List.getElem_toArray, List.getElem_cons_zero, List.getElem_cons_succ, Act.put, List.setIfInBounds_toArray, List.set_cons_zero, List.set_cons_succ]
  refine wpAnyE_done (by kernel_rfl) (fun wz hSz => ?_) _
  have HQ4 := hid hSz
  clear hSz HQ3
  generalize gA = gh at HQ4 ⊢
  obtain ⟨a0, a1, a2, a3, _⟩ := HQ4.out.1.2.1.1
  have al := HQ4.out.1.2.1.1.lt
  obtain ⟨b0, b1, b2, b3, _⟩ := HQ4.out.2.1.1
  have bl := HQ4.out.2.1.1.lt
  go_wp2_with fail
  clear a0 a1 a2 a3 al b0 b1 b2 b3 bl
  refine (Ref.sub 83 s3 s6 A3 A6 n3 c3 n6 c6 (m.a * p.2.2) (pD m.b p * m.w) _ (HQ4.out.1.2.1.2.mono (by decide)) HQ4.out.2.1.2 (by decide)).mono ?_
  rintro e w7 ⟨s7, A7, n7, c7, rfl, hB, hb⟩
  have ha := (Below.refl w7.heap.size w7).alloc (Nat.le_refl _) (.cells #[.bool s7, .slice A7 n7 c7] 41)
  have HQ5 : Hid (OV0 w m s1 A1 n1 c1 p (w7.alloc (.cells #[.bool s7, .slice A7 n7 c7] 41)) ∧ (IsB (w7.alloc (.cells #[.bool s7, .slice A7 n7 c7] 41)) 24 s3 A3 n3 c3 (m.a * p.2.2) ∧ IsB (w7.alloc (.cells #[.bool s7, .slice A7 n7 c7] 41)) 83 s6 A6 n6 c6 (pD m.b p * m.w) ∧ IsB (w7.alloc (.cells #[.bool s7, .slice A7 n7 c7] 41)) 84 s7 A7 n7 c7 ((m.a * p.2.2) - (pD m.b p * m.w))) ∧ (Var (w7.alloc (.cells #[.bool s7, .slice A7 n7 c7] 41)) gs s3 A3 n3 c3 ∧ Var (w7.alloc (.cells #[.bool s7, .slice A7 n7 c7] 41)) gh s6 A6 n6 c6 ∧ Var (w7.alloc (.cells #[.bool s7, .slice A7 n7 c7] 41)) w7.heap.size s7 A7 n7 c7)) := hid ⟨(HQ4.out.1.1.below hb).below ha, ⟨(HQ4.out.1.2.1.2.below hb).below ha, (HQ4.out.2.1.2.below hb).below ha, hB.alloc _⟩, (HQ4.out.1.2.1.1.below hb).below ha, (HQ4.out.2.1.1.below hb).below ha, Var.new _ _ _ _ _ _⟩
  clear hB hb ha HQ4
  obtain ⟨a0, a1, a2, a3, _⟩ := HQ5.out.2.2.1
  have al := HQ5.out.2.2.1.lt
  obtain ⟨b0, b1, b2, b3, _⟩ := HQ5.out.2.2.2.1
  have bl := HQ5.out.2.2.2.1.lt
  go_wp2_with fail
  clear a0 a1 a2 a3 al b0 b1 b2 b3 bl
  generalize w7.alloc (.cells #[.bool s7, .slice A7 n7 c7] 41) = W7 at HQ5 ⊢
  generalize w7.heap.size = gd at HQ5 ⊢
  refine (Ref.is 24 (by decide) s3 A3 n3 c3 (m.a * p.2.2) _ HQ5.out.2.1.1 true ⟨fun _ => HX.out, fun _ => rfl⟩).mono ?_
  rintro e w8 ⟨rfl, hb⟩
  replace HQ5 := hid (And.intro (HQ5.out.1.below hb) (And.intro (And.intro (HQ5.out.2.1.1.below hb) (And.intro (HQ5.out.2.1.2.1.below hb) (HQ5.out.2.1.2.2.below hb))) (And.intro (HQ5.out.2.2.1.below hb) (And.intro (HQ5.out.2.2.2.1.below hb) (HQ5.out.2.2.2.2.below hb)))))
  clear hb
  obtain ⟨a0, a1, a2, a3, _⟩ := HQ5.out.2.2.1
  have al := HQ5.out.2.2.1.lt
  obtain ⟨b0, b1, b2, b3, _⟩ := HQ5.out.2.2.2.1
  have bl := HQ5.out.2.2.2.1.lt
  go_wp2_with fail
  clear a0 a1 a2 a3 al b0 b1 b2 b3 bl
  refine (Ref.is 83 (by decide) s6 A6 n6 c6 (pD m.b p * m.w) _ HQ5.out.2.1.2.1 true ⟨fun _ => H6.out, fun _ => rfl⟩).mono ?_
  rintro e w9 ⟨rfl, hb⟩
  replace HQ5 := hid (And.intro (HQ5.out.1.below hb) (And.intro (And.intro (HQ5.out.2.1.1.below hb) (And.intro (HQ5.out.2.1.2.1.below hb) (HQ5.out.2.1.2.2.below hb))) (And.intro (HQ5.out.2.2.1.below hb) (And.intro (HQ5.out.2.2.2.1.below hb) (HQ5.out.2.2.2.2.below hb)))))
  clear hb
  obtain ⟨d0, d1, d2, d3, _⟩ := HQ5.out.2.2.2.2
  have dl := HQ5.out.2.2.2.2.lt
  go_wp2_with fail
  clear d0 d1 d2 d3 dl
  refine (Ref.is 84 (by decide) s7 A7 n7 c7 ((m.a * p.2.2) - (pD m.b p * m.w)) _ HQ5.out.2.1.2.2 false ⟨fun h => absurd h (by decide), fun h => absurd h HY.out⟩).mono ?_
  rintro e w10 ⟨rfl, hb⟩
  replace HQ5 := hid (And.intro (HQ5.out.1.below hb) (And.intro (And.intro (HQ5.out.2.1.1.below hb) (And.intro (HQ5.out.2.1.2.1.below hb) (HQ5.out.2.1.2.2.below hb))) (And.intro (HQ5.out.2.2.1.below hb) (And.intro (HQ5.out.2.2.2.1.below hb) (HQ5.out.2.2.2.2.below hb)))))
  clear hb
  obtain ⟨r0, r1, r2, r3, _⟩ := HQ5.out.1.1.1.2.2
  have rl := HQ5.out.1.1.1.2.2.lt
  go_wp2_with fail
  refine bodyPost_ret (v := .tuple #[.agg #[.bool false, .slice none 0 0], .bool false]) (by simp [results, Tryz.results24, go_sem, r0, r1, rl]) rfl ⟨(false, none, 0, 0), rfl, IsB.zero _ _, ?_⟩
  exact (HQ5.out.1.2.setCell (show w.heap.size ≤ w.heap.size + 1 + 1 by omega) _).setCell (show w.heap.size ≤ w.heap.size + 1 + 1 by omega) _
set_option maxRecDepth 100000 in
set_option maxHeartbeats 16000000 in
theorem Ref9.over_yes (m : Mu) (s1 : Bool) (A1 : Option Addr) (n1 c1 : Nat) (p : P3) (hm : m.In) (hp : PIn p) (h1 : m.right = true) (h2 : m.n ≠ 0) (h3 : pR p = true) (h4 : okW (m.a * p.2.2) = true) (h5 : okW ((m.a * p.2.2) - (pD m.b p * m.w)) = true) (w : World) (hB : IsB w 18 s1 A1 n1 c1 m.a) : Calls Tryz.prog 24 #[rmV m (s1, A1, n1, c1), pv p] w (BqOk 84 ((m.a * p.2.2) - (pD m.b p * m.w)) true w) := by
  have HM := hid hm
  have HP := hid hp
  have HQ0 := hid (OV0.new w m s1 A1 n1 c1 p hB)
  have HIB := hid hB
  have H1 := hid h1
  have H3 := hid h3
  have c2 : (m.n == 0) = false := by simpa using h2
  have HW := hid (right_w h1 h2)
  have e1 : IntKind.u64.wrap p.2.2 = p.2.2 := by have := hp.2.2; rw [IntKind.wrap_u64]; omega
  have H6 : Hid (-170141183460469231731687303715884105728 ≤ (pD m.b p * m.w) ∧ (pD m.b p * m.w) < 170141183460469231731687303715884105728) := hid (by
    have e2 := pD_bdR m.b hp h3
    have e3 := mulBd (d := pD m.b p) (M := 9671406556917033398697984) (V := 33554432) (by omega) (by omega) (show 0 ≤ m.w by have := right_w h1 h2; omega) (right_w h1 h2).2.2 (by decide)
    omega)
  have HX : Hid (-170141183460469231731687303715884105728 ≤ (m.a * p.2.2) ∧ (m.a * p.2.2) < 170141183460469231731687303715884105728) := hid (by have := okW_iff.1 h4; unfold WR at this; omega)
  have HY : Hid (-170141183460469231731687303715884105728 ≤ ((m.a * p.2.2) - (pD m.b p * m.w)) ∧ ((m.a * p.2.2) - (pD m.b p * m.w)) < 170141183460469231731687303715884105728) := hid (by have := okW_iff.1 h5; unfold WR at this; omega)
  clear h4 h5
  clear hm hp hB h1 h2 h3
  unfold rmV pv
  go_enter Tryz.func24, Tryz.ntmps24
  go_wp2_with fail
  generalize (((w.alloc (.cells #[.int .u64 m.b, .bool s1, .slice A1 n1 c1, .int .u64 m.w, .int .i64 m.n] 43)).alloc (.cells #[.int .u64 p.1, .int .u32 p.2.1, .int .u32 p.2.2] 31)).alloc (.cells #[.bool false, .slice none 0 0] 41)) = W0 at HQ0 ⊢
  obtain ⟨m0, m1, m2, m3, m4⟩ := rm_at HQ0.out.1.1.1
  go_wp2_with fail
  clear m0 m1 m2 m3 m4
  refine (Ref8.right m s1 A1 n1 c1 _ HQ0.out.1.2).mono ?_
  rw [H1.out]
  rintro e w1 ⟨rfl, hb⟩
  replace HQ0 := hid (HQ0.out.below hb)
  clear hb
  obtain ⟨m0, m1, m2, m3, m4⟩ := rm_at HQ0.out.1.1.1
  obtain ⟨q0, q1, q2⟩ := P3.at p HQ0.out.1.1.2.1
  go_wp2_with fail
  clear m0 m1 m2 m3 m4 q0 q1 q2
  refine (Ref4.right p.1 p.2.1 p.2.2 _).mono ?_
  rw [show (decide (1 ≤ p.2.2 ∧ p.2.2 ≤ 1048576) && decide (p.2.1 < p.2.2)) = pR p from rfl, H3.out]
  rintro e w2 ⟨rfl, hb⟩
  replace HQ0 := hid (HQ0.out.below hb)
  clear hb
  go_wp2_with fail
  have hsT1 : Stays (fun wx => OV0 w m s1 A1 n1 c1 p wx) := fun _ _ h hb => h.below hb
  refine wp_region_grow (S := fun wx => OV0 w m s1 A1 n1 c1 p wx) 9 (by kernel_rfl) (hsT1 _ _ (HQ0.out) (Below.refl _ _).drew) ?_
  refine wpAnyE_take (i := 0) (v := ?_) (hsT1) (fun _ h => h) rfl (by kernel_rfl) (by kernel_rfl) (by kernel_rfl) (by kernel_rfl) (fun _ _ _ h => h) (SteadyB.of_yields (Or.inl ⟨by rfl, ?_⟩)) ?_
  rotate_left
  · intro wq hSw
    go_simp
    (try with_reducible rfl)
  try simp only [List.getElem_toArray, List.getElem_cons_zero, List.getElem_cons_succ, Act.put, List.setIfInBounds_toArray, List.set_cons_zero, List.set_cons_succ]
  refine wpAnyE_take (i := 1) (v := ?_) (hsT1) (fun _ h => h) rfl (by kernel_rfl) (by kernel_rfl) (by kernel_rfl) (by kernel_rfl) (fun _ _ _ h => h) (SteadyB.of_yields (Or.inl ⟨by rfl, ?_⟩)) ?_
  rotate_left
  · intro wq hSw
    obtain ⟨m0, m1, m2, m3, m4⟩ := rm_at hSw.1.1.1
    obtain ⟨q0, q1, q2⟩ := P3.at p hSw.1.1.2.1
    go_simp
    (try with_reducible rfl)
  try simp only [List.getElem_toArray, List.getElem_cons_zero, List.getElem_cons_succ, Act.put, List.setIfInBounds_toArray, List.set_cons_zero, List.set_cons_succ]
  refine wpAnyE_take (i := 2) (v := ?_) (hsT1) (fun _ h => h) rfl (by kernel_rfl) (by kernel_rfl) (by kernel_rfl) (by kernel_rfl) (fun _ _ _ h => h) (SteadyB.of_yields (Or.inl ⟨by rfl, ?_⟩)) ?_
  rotate_left
  · intro wq hSw
    go_simp
    (try with_reducible rfl)
  try simp only [List.getElem_toArray, List.getElem_cons_zero, List.getElem_cons_succ, Act.put, List.setIfInBounds_toArray, List.set_cons_zero, List.set_cons_succ]
  refine wpAnyE_take (i := 3) (v := ?_) (hsT1) (fun _ h => h) rfl (by kernel_rfl) (by kernel_rfl) (by kernel_rfl) (by kernel_rfl) (fun _ _ _ h => h) (SteadyB.of_yields (Or.inl ⟨by rfl, ?_⟩)) ?_
  rotate_left
  · intro wq hSw
    obtain ⟨m0, m1, m2, m3, m4⟩ := rm_at hSw.1.1.1
    obtain ⟨q0, q1, q2⟩ := P3.at p hSw.1.1.2.1
    go_simp
    (try with_reducible rfl)
  try simp only [List.getElem_toArray, List.getElem_cons_zero, List.getElem_cons_succ, Act.put, List.setIfInBounds_toArray, List.set_cons_zero, List.set_cons_succ]
  refine wpAnyE_take (i := 4) (v := ?_) (hsT1) (fun _ h => h) rfl (by kernel_rfl) (by kernel_rfl) (by kernel_rfl) (by kernel_rfl) (fun _ _ _ h => h) (SteadyB.of_yields (Or.inl ⟨by rfl, ?_⟩)) ?_
  rotate_left
  · intro wq hSw
    go_simp
    (try with_reducible rfl)
  try simp only [List.getElem_toArray, List.getElem_cons_zero, List.getElem_cons_succ, Act.put, List.setIfInBounds_toArray, List.set_cons_zero, List.set_cons_succ]
  refine wpF.fst (j := 7) (dst := some 6) (T := fun wx g => Var wx g false none 0 0 ∧ w.heap.size + 2 < g) ?_
  refine wpF_call (k := 5) _ (bqV) (bqR 5 p.2.2) rfl rfl rfl (Or.inl (by kernel_rfl)) (by kernel_rfl) (by decide) (by decide) (by decide) (by kernel_rfl) (by intro cs b h; cases h) (by rfl) (fun _ => rfl) (hsT1) (fun _ h => h) (fun g => fun _ _ h hb => ⟨h.1.below hb, h.2⟩) (fun x => bqR.stays 5 p.2.2 x) (fun aq wq hSw => ?_) (fun wq hSw => ?_) (fun x => ?_)
  · (first | exact ⟨_, by go_simp; (try with_reducible rfl), (Below.refl _ _).alloc (Nat.le_refl _) _, Var.new _ _ _ _ _ _, hSw.1.1.2.2.lt⟩ | exact ⟨_, by go_simp; (try with_reducible rfl), (Below.refl _ _).alloc (Nat.le_refl _) _, Var.new _ _ _ _ _ _, hSw.1.1.1.2.2.lt⟩ | exact ⟨_, by go_simp; (try with_reducible rfl), (Below.refl _ _).alloc (Nat.le_refl _) _, Var.new _ _ _ _ _ _, hSw.1.1.1.1.2.2.lt⟩)
  · exact RunI.big (Ref.U p.2.2 HP.out.2.2.1 (by have := HP.out.2.2.2; omega) wq) (by go_simp)
  obtain ⟨s2, A2, n2, c2⟩ := x
  dsimp only [bqV, bqR]
  try simp only [List.getElem_toArray, List.getElem_cons_zero, List.getElem_cons_succ, Act.put, List.setIfInBounds_toArray, List.set_cons_zero, List.set_cons_succ]
  refine wpF_call (k := 6) _ (bqV) (bqR 24 (m.a * p.2.2)) rfl rfl rfl (Or.inl (by kernel_rfl)) (by kernel_rfl) (by decide) (by decide) (by decide) (by kernel_rfl) (by intro cs b h; cases h) (by rfl) (fun _ => rfl) (Stays.and_ (hsT1) (bqR.stays 5 p.2.2 (s2, A2, n2, c2))) (fun _ h => h.1) (fun g => fun _ _ h hb => ⟨h.1.below hb, h.2⟩) (fun x => bqR.stays 24 (m.a * p.2.2) x) (fun aq wq hSw => ?_) (fun wq hSw => ?_) (fun x => ?_)
  · (first | exact ⟨_, by go_simp; (try with_reducible rfl), (Below.refl _ _).alloc (Nat.le_refl _) _, Var.new _ _ _ _ _ _, hSw.1.1.2.2.lt⟩ | exact ⟨_, by go_simp; (try with_reducible rfl), (Below.refl _ _).alloc (Nat.le_refl _) _, Var.new _ _ _ _ _ _, hSw.1.1.1.2.2.lt⟩ | exact ⟨_, by go_simp; (try with_reducible rfl), (Below.refl _ _).alloc (Nat.le_refl _) _, Var.new _ _ _ _ _ _, hSw.1.1.1.1.2.2.lt⟩)
  · exact RunI.big (Ref.mul 18 5 s1 s2 A1 A2 n1 c1 n2 c2 m.a p.2.2 wq hSw.1.1.2 hSw.2 (by decide) (by decide)) (by go_simp)
  obtain ⟨s3, A3, n3, c3⟩ := x
  dsimp only [bqV, bqR]
  try simp only [List.getElem_toArray, List.getElem_cons_zero, List.getElem_cons_succ, Act.put, List.setIfInBounds_toArray, List.set_cons_zero, List.set_cons_succ]
  refine wpF_done _ rfl rfl (by kernel_rfl) (by decide) (by rfl) (Stays.and_ (Stays.and_ (hsT1) (bqR.stays 5 p.2.2 (s2, A2, n2, c2))) (bqR.stays 24 (m.a * p.2.2) (s3, A3, n3, c3))) (fun _ h => h.1.1) (fun g => fun _ _ h hb => ⟨h.1.below hb, h.2⟩) (fun wq hSw => ?_) (fun gA => ?_)
  · (first | exact ⟨_, by go_simp; (try with_reducible rfl), (Below.refl _ _).alloc (Nat.le_refl _) _, Var.new _ _ _ _ _ _, hSw.1.1.2.2.lt⟩ | exact ⟨_, by go_simp; (try with_reducible rfl), (Below.refl _ _).alloc (Nat.le_refl _) _, Var.new _ _ _ _ _ _, hSw.1.1.1.2.2.lt⟩ | exact ⟨_, by go_simp; (try with_reducible rfl), (Below.refl _ _).alloc (Nat.le_refl _) _, Var.new _ _ _ _ _ _, hSw.1.1.1.1.2.2.lt⟩)
  try simp only [List.getElem_toArray, List.getElem_cons_zero, List.getElem_cons_succ, Act.put, List.setIfInBounds_toArray, List.set_cons_zero, List.set_cons_succ]
  refine wpAnyE_store (i := 8) (fun wx => (fun wx => OV0 w m s1 A1 n1 c1 p wx) wx ∧ ((Var wx gA s3 A3 n3 c3 ∧ IsB wx 24 s3 A3 n3 c3 (m.a * p.2.2)) ∧ w.heap.size + 2 < gA)) 41 [.bool s3, .slice A3 n3 c3] [.bool false, .slice none 0 0] gA infoBig (.tmp 6) (.tmp 29) rfl rfl (by kernel_rfl) (by decide) (by rfl) ?sv2a ?sv2b ?sv2c ?sv2d ?sv2e (fun _ h => h.2.1.cs) (fun _ h => ⟨h.1.1.1.sets h.2.2 h.2.1.2.2.2.2 _, ⟨h.2.1.sets s3 A3 n3 c3, h.1.2.sets h.2.1.2.2.2.2 0 _⟩, h.2.2⟩) (fun _ h => h.1) ((fun _ _ h hb => ⟨h.1.below hb, ⟨h.2.1.1.below hb, h.2.1.2.below hb⟩, h.2.2⟩)) ?sv2f
  case sv2a => rfl
  case sv2b => rfl
  case sv2c => rfl
  case sv2d => rfl
  case sv2e => rfl
  try simp only [List.getElem_toArray, List.getElem_cons_zero, List.getElem_cons_succ, Act.put, List.setIfInBounds_toArray, List.set_cons_zero, List.set_cons_succ]
  refine wpAnyE_done (by kernel_rfl) (fun wz hSz => ?_) _
  have HQ3 := hid hSz
  clear hSz HQ0 hsT1
  generalize gA = gs at HQ3 ⊢
  go_wp2_with fail
  have hsT3 : Stays (fun wx => OV0 w m s1 A1 n1 c1 p wx ∧ ((Var wx gs s3 A3 n3 c3 ∧ IsB wx 24 s3 A3 n3 c3 (m.a * p.2.2)) ∧ w.heap.size + 2 < gs)) := fun _ _ h hb => ⟨h.1.below hb, ⟨h.2.1.1.below hb, h.2.1.2.below hb⟩, h.2.2⟩
  refine wp_region_grow (S := fun wx => OV0 w m s1 A1 n1 c1 p wx ∧ ((Var wx gs s3 A3 n3 c3 ∧ IsB wx 24 s3 A3 n3 c3 (m.a * p.2.2)) ∧ w.heap.size + 2 < gs)) 10 (by kernel_rfl) (hsT3 _ _ (HQ3.out) (Below.refl _ _).drew) ?_
  refine wpAnyE_take (i := 0) (v := ?_) (hsT3) (fun _ h => h) rfl (by kernel_rfl) (by kernel_rfl) (by kernel_rfl) (by kernel_rfl) (fun _ _ _ h => h) (SteadyB.of_yields (Or.inl ⟨by rfl, ?_⟩)) ?_
  rotate_left
  · intro wq hSw
    obtain ⟨m0, m1, m2, m3, m4⟩ := rm_at hSw.1.1.1.1
    obtain ⟨q0, q1, q2⟩ := P3.at p hSw.1.1.1.2.1
    go_simp
    (try with_reducible rfl)
  try simp only [List.getElem_toArray, List.getElem_cons_zero, List.getElem_cons_succ, Act.put, List.setIfInBounds_toArray, List.set_cons_zero, List.set_cons_succ]
  refine wpAnyE_take (i := 1) (v := ?_) (hsT3) (fun _ h => h) rfl (by kernel_rfl) (by kernel_rfl) (by kernel_rfl) (by kernel_rfl) (fun _ _ _ h => h) (SteadyB.of_yields (Or.inl ⟨by rfl, ?_⟩)) ?_
  rotate_left
  · intro wq hSw
    go_simp
    (try with_reducible rfl)
  try simp only [List.getElem_toArray, List.getElem_cons_zero, List.getElem_cons_succ, Act.put, List.setIfInBounds_toArray, List.set_cons_zero, List.set_cons_succ]
  refine wpAnyE_take (i := 2) (v := ?_) (hsT3) (fun _ h => h) rfl (by kernel_rfl) (by kernel_rfl) (by kernel_rfl) (by kernel_rfl) (fun _ _ _ h => h) (SteadyB.of_yields (Or.inl ⟨by rfl, ?_⟩)) ?_
  rotate_left
  · intro wq hSw
    obtain ⟨m0, m1, m2, m3, m4⟩ := rm_at hSw.1.1.1.1
    obtain ⟨q0, q1, q2⟩ := P3.at p hSw.1.1.1.2.1
    go_simp
    (try with_reducible rfl)
  try simp only [List.getElem_toArray, List.getElem_cons_zero, List.getElem_cons_succ, Act.put, List.setIfInBounds_toArray, List.set_cons_zero, List.set_cons_succ]
  refine wpAnyE_take (i := 4) (v := ?_) (hsT3) (fun _ h => h) rfl (by kernel_rfl) (by kernel_rfl) (by kernel_rfl) (by kernel_rfl) (fun _ _ _ h => h) (SteadyB.of_yields (Or.inl ⟨by rfl, ?_⟩)) ?_
  rotate_left
  · intro wq hSw
    go_simp
    (try with_reducible rfl)
  try simp only [List.getElem_toArray, List.getElem_cons_zero, List.getElem_cons_succ, Act.put, List.setIfInBounds_toArray, List.set_cons_zero, List.set_cons_succ]
  refine wpAnyE_take (i := 5) (v := ?_) (hsT3) (fun _ h => h) rfl (by kernel_rfl) (by kernel_rfl) (by kernel_rfl) (by kernel_rfl) (fun _ _ _ h => h) (SteadyB.of_yields (Or.inl ⟨by rfl, ?_⟩)) ?_
  rotate_left
  · intro wq hSw
    obtain ⟨m0, m1, m2, m3, m4⟩ := rm_at hSw.1.1.1.1
    obtain ⟨q0, q1, q2⟩ := P3.at p hSw.1.1.1.2.1
    go_simp
    (try with_reducible rfl)
  try simp only [List.getElem_toArray, List.getElem_cons_zero, List.getElem_cons_succ, Act.put, List.setIfInBounds_toArray, List.set_cons_zero, List.set_cons_succ]
  refine wpF.fst (j := 8) (dst := some 7) (T := fun wx g => Var wx g false none 0 0 ∧ gs < g) ?_
  refine wpF_call (k := 3) _ (bqV) (bqR 77 (pD m.b p)) rfl rfl rfl (Or.inl (by kernel_rfl)) (by kernel_rfl) (by decide) (by decide) (by decide) (by kernel_rfl) (by intro cs b h; cases h) (by rfl) (fun _ => rfl) (hsT3) (fun _ h => h) (fun g => fun _ _ h hb => ⟨h.1.below hb, h.2⟩) (fun x => bqR.stays 77 (pD m.b p) x) (fun aq wq hSw => ?_) (fun wq hSw => ?_) (fun x => ?_)
  · (first | exact ⟨_, by go_simp; (try with_reducible rfl), (Below.refl _ _).alloc (Nat.le_refl _) _, Var.new _ _ _ _ _ _, hSw.2.1.1.lt⟩ | exact ⟨_, by go_simp; (try with_reducible rfl), (Below.refl _ _).alloc (Nat.le_refl _) _, Var.new _ _ _ _ _ _, hSw.1.2.1.1.lt⟩ | exact ⟨_, by go_simp; (try with_reducible rfl), (Below.refl _ _).alloc (Nat.le_refl _) _, Var.new _ _ _ _ _ _, hSw.1.1.2.1.1.lt⟩ | exact ⟨_, by go_simp; (try with_reducible rfl), (Below.refl _ _).alloc (Nat.le_refl _) _, Var.new _ _ _ _ _ _, hSw.1.1.1.2.1.1.lt⟩)
  · exact RunI.big (Ref4.distance p.1 p.2.1 p.2.2 m.b HP.out.1.1 HP.out.1.2 HP.out.2.1.1 HP.out.2.1.2 HP.out.2.2.1 HP.out.2.2.2 HM.out.1.1 HM.out.1.2 wq) (by go_simp)
  obtain ⟨s4, A4, n4, c4⟩ := x
  dsimp only [bqV, bqR]
  try simp only [List.getElem_toArray, List.getElem_cons_zero, List.getElem_cons_succ, Act.put, List.setIfInBounds_toArray, List.set_cons_zero, List.set_cons_succ]
  refine wpF_call (k := 6) _ (bqV) (bqR 5 m.w) rfl rfl rfl (Or.inl (by kernel_rfl)) (by kernel_rfl) (by decide) (by decide) (by decide) (by kernel_rfl) (by intro cs b h; cases h) (by rfl) (fun _ => rfl) (Stays.and_ (hsT3) (bqR.stays 77 (pD m.b p) (s4, A4, n4, c4))) (fun _ h => h.1) (fun g => fun _ _ h hb => ⟨h.1.below hb, h.2⟩) (fun x => bqR.stays 5 m.w x) (fun aq wq hSw => ?_) (fun wq hSw => ?_) (fun x => ?_)
  · (first | exact ⟨_, by go_simp; (try with_reducible rfl), (Below.refl _ _).alloc (Nat.le_refl _) _, Var.new _ _ _ _ _ _, hSw.2.1.1.lt⟩ | exact ⟨_, by go_simp; (try with_reducible rfl), (Below.refl _ _).alloc (Nat.le_refl _) _, Var.new _ _ _ _ _ _, hSw.1.2.1.1.lt⟩ | exact ⟨_, by go_simp; (try with_reducible rfl), (Below.refl _ _).alloc (Nat.le_refl _) _, Var.new _ _ _ _ _ _, hSw.1.1.2.1.1.lt⟩ | exact ⟨_, by go_simp; (try with_reducible rfl), (Below.refl _ _).alloc (Nat.le_refl _) _, Var.new _ _ _ _ _ _, hSw.1.1.1.2.1.1.lt⟩)
  · exact RunI.big (Ref.U m.w HM.out.2.2.1.1 HM.out.2.2.1.2 wq) (by go_simp)
  obtain ⟨s5, A5, n5, c5⟩ := x
  dsimp only [bqV, bqR]
  try simp only [List.getElem_toArray, List.getElem_cons_zero, List.getElem_cons_succ, Act.put, List.setIfInBounds_toArray, List.set_cons_zero, List.set_cons_succ]
  refine wpF_call (k := 7) _ (bqV) (bqR 83 (pD m.b p * m.w)) rfl rfl rfl (Or.inl (by kernel_rfl)) (by kernel_rfl) (by decide) (by decide) (by decide) (by kernel_rfl) (by intro cs b h; cases h) (by rfl) (fun _ => rfl) (Stays.and_ (Stays.and_ (hsT3) (bqR.stays 77 (pD m.b p) (s4, A4, n4, c4))) (bqR.stays 5 m.w (s5, A5, n5, c5))) (fun _ h => h.1.1) (fun g => fun _ _ h hb => ⟨h.1.below hb, h.2⟩) (fun x => bqR.stays 83 (pD m.b p * m.w) x) (fun aq wq hSw => ?_) (fun wq hSw => ?_) (fun x => ?_)
  · (first | exact ⟨_, by go_simp; (try with_reducible rfl), (Below.refl _ _).alloc (Nat.le_refl _) _, Var.new _ _ _ _ _ _, hSw.2.1.1.lt⟩ | exact ⟨_, by go_simp; (try with_reducible rfl), (Below.refl _ _).alloc (Nat.le_refl _) _, Var.new _ _ _ _ _ _, hSw.1.2.1.1.lt⟩ | exact ⟨_, by go_simp; (try with_reducible rfl), (Below.refl _ _).alloc (Nat.le_refl _) _, Var.new _ _ _ _ _ _, hSw.1.1.2.1.1.lt⟩ | exact ⟨_, by go_simp; (try with_reducible rfl), (Below.refl _ _).alloc (Nat.le_refl _) _, Var.new _ _ _ _ _ _, hSw.1.1.1.2.1.1.lt⟩)
  · exact RunI.big (Ref.mul 77 5 s4 s5 A4 A5 n4 c4 n5 c5 (pD m.b p) m.w wq hSw.1.2 hSw.2 (by decide) (by decide)) (by go_simp)
  obtain ⟨s6, A6, n6, c6⟩ := x
  dsimp only [bqV, bqR]
  try simp only [List.getElem_toArray, List.getElem_cons_zero, List.getElem_cons_succ, Act.put, List.setIfInBounds_toArray, List.set_cons_zero, List.set_cons_succ]
  refine wpF_done _ rfl rfl (by kernel_rfl) (by decide) (by rfl) (Stays.and_ (Stays.and_ (Stays.and_ (hsT3) (bqR.stays 77 (pD m.b p) (s4, A4, n4, c4))) (bqR.stays 5 m.w (s5, A5, n5, c5))) (bqR.stays 83 (pD m.b p * m.w) (s6, A6, n6, c6))) (fun _ h => h.1.1.1) (fun g => fun _ _ h hb => ⟨h.1.below hb, h.2⟩) (fun wq hSw => ?_) (fun gA => ?_)
  · (first | exact ⟨_, by go_simp; (try with_reducible rfl), (Below.refl _ _).alloc (Nat.le_refl _) _, Var.new _ _ _ _ _ _, hSw.2.1.1.lt⟩ | exact ⟨_, by go_simp; (try with_reducible rfl), (Below.refl _ _).alloc (Nat.le_refl _) _, Var.new _ _ _ _ _ _, hSw.1.2.1.1.lt⟩ | exact ⟨_, by go_simp; (try with_reducible rfl), (Below.refl _ _).alloc (Nat.le_refl _) _, Var.new _ _ _ _ _ _, hSw.1.1.2.1.1.lt⟩ | exact ⟨_, by go_simp; (try with_reducible rfl), (Below.refl _ _).alloc (Nat.le_refl _) _, Var.new _ _ _ _ _ _, hSw.1.1.1.2.1.1.lt⟩)
  try simp only [List.getElem_toArray, List.getElem_cons_zero, List.getElem_cons_succ, Act.put, List.setIfInBounds_toArray, List.set_cons_zero, List.set_cons_succ]
  refine wpAnyE_store (i := 9) (fun wx => (fun wx => OV0 w m s1 A1 n1 c1 p wx ∧ ((Var wx gs s3 A3 n3 c3 ∧ IsB wx 24 s3 A3 n3 c3 (m.a * p.2.2)) ∧ w.heap.size + 2 < gs)) wx ∧ ((Var wx gA s6 A6 n6 c6 ∧ IsB wx 83 s6 A6 n6 c6 (pD m.b p * m.w)) ∧ gs < gA)) 41 [.bool s6, .slice A6 n6 c6] [.bool false, .slice none 0 0] gA infoBig (.tmp 7) (.tmp 37) rfl rfl (by kernel_rfl) (by decide) (by rfl) ?sv4a ?sv4b ?sv4c ?sv4d ?sv4e (fun _ h => h.2.1.cs) (fun _ h => ⟨⟨h.1.1.1.1.1.sets (by have := h.1.1.1.1.2.2; have := h.2.2; omega) h.2.1.2.2.2.2 _, ⟨Var.fars (by have := h.2.2; omega) _ _ h.1.1.1.1.2.1.1, h.1.1.1.1.2.1.2.sets h.2.1.2.2.2.2 0 _⟩, h.1.1.1.1.2.2⟩, ⟨h.2.1.sets s6 A6 n6 c6, h.1.2.sets h.2.1.2.2.2.2 0 _⟩, h.2.2⟩) (fun _ h => h.1) ((fun _ _ h hb => ⟨⟨h.1.1.below hb, ⟨h.1.2.1.1.below hb, h.1.2.1.2.below hb⟩, h.1.2.2⟩, ⟨h.2.1.1.below hb, h.2.1.2.below hb⟩, h.2.2⟩)) ?sv4f
  case sv4a => rfl
  case sv4b => rfl
  case sv4c => rfl
  case sv4d => rfl
  case sv4e => rfl
  try simp only [List.getElem_toArray, List.getElem_cons_zero, List.getElem_cons_succ, Act.put, List.setIfInBounds_toArray, List.set_cons_zero, List.set_cons_succ]
  refine wpAnyE_done (by kernel_rfl) (fun wz hSz => ?_) _
  have HQ4 := hid hSz
  clear hSz HQ3
  generalize gA = gh at HQ4 ⊢
  obtain ⟨a0, a1, a2, a3, _⟩ := HQ4.out.1.2.1.1
  have al := HQ4.out.1.2.1.1.lt
  obtain ⟨b0, b1, b2, b3, _⟩ := HQ4.out.2.1.1
  have bl := HQ4.out.2.1.1.lt
  go_wp2_with fail
  clear a0 a1 a2 a3 al b0 b1 b2 b3 bl
  refine (Ref.sub 83 s3 s6 A3 A6 n3 c3 n6 c6 (m.a * p.2.2) (pD m.b p * m.w) _ (HQ4.out.1.2.1.2.mono (by decide)) HQ4.out.2.1.2 (by decide)).mono ?_
  rintro e w7 ⟨s7, A7, n7, c7, rfl, hB, hb⟩
  have ha := (Below.refl w7.heap.size w7).alloc (Nat.le_refl _) (.cells #[.bool s7, .slice A7 n7 c7] 41)
  have HQ5 : Hid (OV0 w m s1 A1 n1 c1 p (w7.alloc (.cells #[.bool s7, .slice A7 n7 c7] 41)) ∧ (IsB (w7.alloc (.cells #[.bool s7, .slice A7 n7 c7] 41)) 24 s3 A3 n3 c3 (m.a * p.2.2) ∧ IsB (w7.alloc (.cells #[.bool s7, .slice A7 n7 c7] 41)) 83 s6 A6 n6 c6 (pD m.b p * m.w) ∧ IsB (w7.alloc (.cells #[.bool s7, .slice A7 n7 c7] 41)) 84 s7 A7 n7 c7 ((m.a * p.2.2) - (pD m.b p * m.w))) ∧ (Var (w7.alloc (.cells #[.bool s7, .slice A7 n7 c7] 41)) gs s3 A3 n3 c3 ∧ Var (w7.alloc (.cells #[.bool s7, .slice A7 n7 c7] 41)) gh s6 A6 n6 c6 ∧ Var (w7.alloc (.cells #[.bool s7, .slice A7 n7 c7] 41)) w7.heap.size s7 A7 n7 c7)) := hid ⟨(HQ4.out.1.1.below hb).below ha, ⟨(HQ4.out.1.2.1.2.below hb).below ha, (HQ4.out.2.1.2.below hb).below ha, hB.alloc _⟩, (HQ4.out.1.2.1.1.below hb).below ha, (HQ4.out.2.1.1.below hb).below ha, Var.new _ _ _ _ _ _⟩
  clear hB hb ha HQ4
  obtain ⟨a0, a1, a2, a3, _⟩ := HQ5.out.2.2.1
  have al := HQ5.out.2.2.1.lt
  obtain ⟨b0, b1, b2, b3, _⟩ := HQ5.out.2.2.2.1
  have bl := HQ5.out.2.2.2.1.lt
  go_wp2_with fail
  clear a0 a1 a2 a3 al b0 b1 b2 b3 bl
  generalize w7.alloc (.cells #[.bool s7, .slice A7 n7 c7] 41) = W7 at HQ5 ⊢
  generalize w7.heap.size = gd at HQ5 ⊢
  refine (Ref.is 24 (by decide) s3 A3 n3 c3 (m.a * p.2.2) _ HQ5.out.2.1.1 true ⟨fun _ => HX.out, fun _ => rfl⟩).mono ?_
  rintro e w8 ⟨rfl, hb⟩
  replace HQ5 := hid (And.intro (HQ5.out.1.below hb) (And.intro (And.intro (HQ5.out.2.1.1.below hb) (And.intro (HQ5.out.2.1.2.1.below hb) (HQ5.out.2.1.2.2.below hb))) (And.intro (HQ5.out.2.2.1.below hb) (And.intro (HQ5.out.2.2.2.1.below hb) (HQ5.out.2.2.2.2.below hb)))))
  clear hb
  obtain ⟨a0, a1, a2, a3, _⟩ := HQ5.out.2.2.1
  have al := HQ5.out.2.2.1.lt
  obtain ⟨b0, b1, b2, b3, _⟩ := HQ5.out.2.2.2.1
  have bl := HQ5.out.2.2.2.1.lt
  go_wp2_with fail
  clear a0 a1 a2 a3 al b0 b1 b2 b3 bl
  refine (Ref.is 83 (by decide) s6 A6 n6 c6 (pD m.b p * m.w) _ HQ5.out.2.1.2.1 true ⟨fun _ => H6.out, fun _ => rfl⟩).mono ?_
  rintro e w9 ⟨rfl, hb⟩
  replace HQ5 := hid (And.intro (HQ5.out.1.below hb) (And.intro (And.intro (HQ5.out.2.1.1.below hb) (And.intro (HQ5.out.2.1.2.1.below hb) (HQ5.out.2.1.2.2.below hb))) (And.intro (HQ5.out.2.2.1.below hb) (And.intro (HQ5.out.2.2.2.1.below hb) (HQ5.out.2.2.2.2.below hb)))))
  clear hb
  obtain ⟨d0, d1, d2, d3, _⟩ := HQ5.out.2.2.2.2
  have dl := HQ5.out.2.2.2.2.lt
  go_wp2_with fail
  clear d0 d1 d2 d3 dl
  refine (Ref.is 84 (by decide) s7 A7 n7 c7 ((m.a * p.2.2) - (pD m.b p * m.w)) _ HQ5.out.2.1.2.2 true ⟨fun _ => HY.out, fun _ => rfl⟩).mono ?_
  rintro e w10 ⟨rfl, hb⟩
  replace HQ5 := hid (And.intro (HQ5.out.1.below hb) (And.intro (And.intro (HQ5.out.2.1.1.below hb) (And.intro (HQ5.out.2.1.2.1.below hb) (HQ5.out.2.1.2.2.below hb))) (And.intro (HQ5.out.2.2.1.below hb) (And.intro (HQ5.out.2.2.2.1.below hb) (HQ5.out.2.2.2.2.below hb)))))
  clear hb
  obtain ⟨r0, r1, r2, r3, _⟩ := HQ5.out.1.1.1.2.2
  have rl := HQ5.out.1.1.1.2.2.lt
  obtain ⟨d0, d1, d2, d3, _⟩ := HQ5.out.2.2.2.2
  have dl := HQ5.out.2.2.2.2.lt
  go_wp2_with fail
  have HFN := HQ5.out.1.1.1.2.2.finB HQ5.out.1.2 (Nat.le_add_right _ _) HQ5.out.2.1.2.2
  refine bodyPost_ret (v := .tuple #[.agg #[.bool s7, .slice A7 n7 c7], .bool true]) (by simp [results, Tryz.results24, go_sem, r0, r1, rl]) rfl ⟨(s7, A7, n7, c7), rfl, HFN.1, HFN.2⟩
theorem Ref9.over (m : Mu) (x : Bq) (p : P3) (hm : m.In) (hp : PIn p) (w : World) (hB : bqR 18 m.a x w) : Calls Tryz.prog 24 #[rmV m x, pv p] w (BqOk 84 (m.over p).2 (m.over p).1 w) := by
  obtain ⟨s1, A1, n1, c1⟩ := x
  have hB' : IsB w 18 s1 A1 n1 c1 m.a := hB
  cases h1 : m.right with
  | false =>
    have E : m.over p = (false, 0) := by unfold Mu.over Mu.ovOk; rw [h1, if_neg (by simp)]
    rw [E]; exact Ref9.over_no1 m s1 A1 n1 c1 p hm hp h1 w hB'
  | true =>
    by_cases h2 : m.n = 0
    · have E : m.over p = (false, 0) := by unfold Mu.over Mu.ovOk; rw [h2, if_neg (by simp)]
      rw [E]; exact Ref9.over_no2 m s1 A1 n1 c1 p hm hp h1 h2 w hB'
    · cases h3 : pR p with
      | false =>
        have E : m.over p = (false, 0) := by unfold Mu.over Mu.ovOk; rw [h3, if_neg (by simp)]
        rw [E]; exact Ref9.over_no3 m s1 A1 n1 c1 p hm hp h1 h2 h3 w hB'
      | true =>
        cases h4 : okW (m.a * p.2.2) with
        | false =>
          have E : m.over p = (false, 0) := by unfold Mu.over Mu.ovOk; rw [h4, if_neg (by simp)]
          rw [E]; exact Ref9.over_no4 m s1 A1 n1 c1 p hm hp h1 h2 h3 h4 w hB'
        | true =>
          cases h5 : okW ((m.a * p.2.2) - (pD m.b p * m.w)) with
          | false =>
            have E : m.over p = (false, 0) := by unfold Mu.over Mu.ovOk; rw [h5, if_neg (by simp)]
            rw [E]; exact Ref9.over_no5 m s1 A1 n1 c1 p hm hp h1 h2 h3 h4 h5 w hB'
          | true =>
            have E : m.over p = (true, ((m.a * p.2.2) - (pD m.b p * m.w))) := by unfold Mu.over Mu.ovOk; rw [h1, h3, h4, h5, if_pos (by simp [h2])]; rfl
            rw [E]; exact Ref9.over_yes m s1 A1 n1 c1 p hm hp h1 h2 h3 h4 h5 w hB'
end

end Go.Proofs.YtkddkllepbhnhaaGreatDoor

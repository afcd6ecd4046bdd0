/- Texts of PlacePlays's proof, together. -/
import Derived.Test.YthmilhhihcmdhaaGreatDoorOrdG
import Derived.Test.YthmilhhihcmdhaaGreatDoorPlacePlaysZ15
import Derived.Test.YthmilhhihcmdhaaGreatDoorPlacePlaysZ26
import Derived.Test.YthmilhhihcmdhaaGreatDoorPlacePlaysZ27
import Derived.Test.YthmilhhihcmdhaaGreatDoorPlacePlaysZ28
import Derived.Test.YthmilhhihcmdhaaGreatDoorPlacePlaysZ16
import Derived.Test.YthmilhhihcmdhaaGreatDoorPlacePlaysZ18
namespace Go.Proofs.YthmilhhihcmdhaaGreatDoor
/- Variables that hold Bigs, stored whole; the document's means. -/
section
open Go.RowKit
theorem infoBig : (Tryz.prog.info? 41).map (·.size) = some 2 := by kernel_rfl
theorem Rd.setCells {A : Option Addr} {n : Nat} {zs : List Int} {g : Nat} : ∀ (vs : List Value) (o : Nat) {w : World}, (∀ b off, A = some ⟨b, off, none⟩ → 0 < n → b ≠ g) → Rd w A n zs → Rd (w.setCells g o vs) A n zs
  | [], _, _, _, h => h
  | v :: r, o, _, hne, h => Rd.setCells r (o + 1) hne (h.setCell hne o v)
theorem IsB.sets {w : World} {L : Nat} {s : Bool} {A : Option Addr} {n c : Nat} {z : Int} (h : IsB w L s A n c z) {g : Nat} (hg : NoInt w g) (o : Nat) (vs : List Value) : IsB (w.setCells g o vs) L s A n c z := by
  obtain ⟨zs, h1, h2⟩ := h
  exact ⟨zs, Rd.setCells vs o (h1.ne_block hg) h1, h2⟩
/-- A variable whose integers are 0. -/
def NoPos (w : World) (g : Nat) : Prop := ∀ o k, w.cell? ⟨g, o, none⟩ = some (.int .i64 k) → k = 0
theorem NoPos.below {w w' : World} {g : Nat} (h : NoPos w g) (hg : g < w.heap.size) (hb : Below w.heap.size w w') : NoPos w' g := fun o k e => h o k ((hb.cell (p := ⟨g, o, none⟩) hg).symm.trans e)
theorem IsB.setZ {w : World} {L : Nat} {s : Bool} {A : Option Addr} {n c : Nat} {z : Int} (h : IsB w L s A n c z) {g : Nat} (hg : NoPos w g) (o : Nat) (vs : List Value) : IsB (w.setCells g o vs) L s A n c z := by
  obtain ⟨zs, h1, h2, h3, h4, h5, h6⟩ := h
  refine ⟨zs, Rd.setCells vs o ?_ h1, h2, h3, h4, h5, h6⟩
  rintro b off rfl hn rfl
  obtain ⟨b', off', e, hc⟩ := h1.2 hn
  injection e with e; injection e with e1 e2
  subst e1 e2
  obtain ⟨k, rfl⟩ : ∃ k, n = k + 1 := ⟨n - 1, by omega⟩
  exact h5.ne h1.1 (hg _ _ (hc k (by omega)))
theorem Var.cs {w : World} {g : Nat} {s : Bool} {A : Option Addr} {n c : Nat} (h : Var w g s A n c) : Cs w g [.bool s, .slice A n c] := fun i v hv => by
  rcases i with _ | _ | i
  · injection hv with hv; subst hv; exact ⟨h.1, h.2.2.1⟩
  · injection hv with hv; subst hv; exact ⟨h.2.1, h.2.2.2.1⟩
  · cases hv
theorem Var.sets {w : World} {g : Nat} {s : Bool} {A : Option Addr} {n c : Nat} (h : Var w g s A n c) (s' : Bool) (A' : Option Addr) (n' c' : Nat) : Var (w.setCells g 0 [.bool s', .slice A' n' c']) g s' A' n' c' := h.store s' A' n' c'
theorem Var.fars {g : Nat} {s : Bool} {A : Option Addr} {n c : Nat} {b : Nat} (hb : b ≠ g) : ∀ (vs : List Value) (o : Nat) {w : World}, Var w g s A n c → Var (w.setCells b o vs) g s A n c
  | [], _, _, h => h
  | v :: r, o, _, h => Var.fars hb r (o + 1) (h.far1 hb o v)
/-- A mean of the document's: its numbers, and its sum's parts. -/
abbrev rmV (m : Mu) (x : Bq) : Value := .agg #[.int .u64 m.b, .bool x.1, .slice x.2.1 x.2.2.1 x.2.2.2, .int .u64 m.w, .int .i64 m.n]
def rmC (m : Mu) (x : Bq) : List Value := [.int .u64 m.b, .bool x.1, .slice x.2.1 x.2.2.1 x.2.2.2, .int .u64 m.w, .int .i64 m.n]
theorem infoRm : (Tryz.prog.info? 43).map (·.size) = some 5 := by kernel_rfl
theorem rm_at {w : World} {g : Nat} {m : Mu} {x : Bq} (h : Cs w g (rmC m x)) : w.cell? ⟨g, 0, none⟩ = some (.int .u64 m.b) ∧ w.cell? ⟨g, 1, none⟩ = some (.bool x.1) ∧ w.cell? ⟨g, 2, none⟩ = some (.slice x.2.1 x.2.2.1 x.2.2.2) ∧ w.cell? ⟨g, 3, none⟩ = some (.int .u64 m.w) ∧ w.cell? ⟨g, 4, none⟩ = some (.int .i64 m.n) := ⟨h.at0, h.at1, h.at2, h.at3, h.at4⟩
def rmZ : List Value := [.int .u64 0, .bool false, .slice none 0 0, .int .u64 0, .int .i64 0]
theorem rmZ.noPos (w : World) (t : TypeId) : NoPos (w.alloc (.cells rmZ.toArray t)) w.heap.size := fun o k e => by
  rw [World.cell?_alloc_new] at e
  match o with
  | 0 => simp [rmZ] at e
  | 1 => simp [rmZ] at e
  | 2 => simp [rmZ] at e
  | 3 => simp [rmZ] at e
  | 4 => simp [rmZ] at e; exact e.symm
  | o + 5 => simp [rmZ] at e
/-- What a call that answers a mean of the document's leaves. -/
def RmAns (L : Nat) (m : Mu) (w : World) (e : Ending) (w' : World) : Prop := ∃ x : Bq, e = .returned (rmV m x) ∧ bqR L m.a x w' ∧ Below w.heap.size w w'
end

/- The contracts of the document's means and lags: as the law hands a mean on; may it be; the lag times all weights. -/
section
open Go.RowKit
set_option maxRecDepth 100000 in
set_option maxHeartbeats 4000000 in
theorem Law8.of (m : Mu) (hm : m.In) (w : World) : Calls Tryz.prog 29 #[m.val] w (RmAns 18 m w) := by
  have HM := hid hm
  clear hm
  have HQ0 : Hid ((Cs ((w.alloc (.cells #[.int .u64 m.b, .int .i64 (hiW m.a), .int .u64 (loW m.a), .int .u64 m.w, .int .i64 m.n] 36)).alloc (.cells #[.int .u64 0, .bool false, .slice none 0 0, .int .u64 0, .int .i64 0] 43)) w.heap.size m.cells ∧ Below w.heap.size w ((w.alloc (.cells #[.int .u64 m.b, .int .i64 (hiW m.a), .int .u64 (loW m.a), .int .u64 m.w, .int .i64 m.n] 36)).alloc (.cells #[.int .u64 0, .bool false, .slice none 0 0, .int .u64 0, .int .i64 0] 43))) ∧ (Cs ((w.alloc (.cells #[.int .u64 m.b, .int .i64 (hiW m.a), .int .u64 (loW m.a), .int .u64 m.w, .int .i64 m.n] 36)).alloc (.cells #[.int .u64 0, .bool false, .slice none 0 0, .int .u64 0, .int .i64 0] 43)) (w.heap.size + 1) rmZ ∧ NoPos ((w.alloc (.cells #[.int .u64 m.b, .int .i64 (hiW m.a), .int .u64 (loW m.a), .int .u64 m.w, .int .i64 m.n] 36)).alloc (.cells #[.int .u64 0, .bool false, .slice none 0 0, .int .u64 0, .int .i64 0] 43)) (w.heap.size + 1))) := hid (by
    have h2 := Cs.alloc_new6 (w.alloc (.cells #[.int .u64 m.b, .int .i64 (hiW m.a), .int .u64 (loW m.a), .int .u64 m.w, .int .i64 m.n] 36)) 43 rmZ
    have h3 := rmZ.noPos (w.alloc (.cells #[.int .u64 m.b, .int .i64 (hiW m.a), .int .u64 (loW m.a), .int .u64 m.w, .int .i64 m.n] 36)) 43
    simp only [World.size_alloc] at h2 h3
    exact ⟨⟨(Cs.alloc_new6 w 36 m.cells).alloc _, ((Below.refl w.heap.size w).alloc (Nat.le_refl _) _).alloc (by simp) _⟩, h2, h3⟩)
  unfold Mu.val
  go_enter Tryz.func29, Tryz.ntmps29
  go_wp2_with fail
  generalize ((w.alloc (.cells #[.int .u64 m.b, .int .i64 (hiW m.a), .int .u64 (loW m.a), .int .u64 m.w, .int .i64 m.n] 36)).alloc (.cells #[.int .u64 0, .bool false, .slice none 0 0, .int .u64 0, .int .i64 0] 43)) = W0 at HQ0 ⊢
  have hsT1 : Stays (fun wx => Cs wx w.heap.size m.cells ∧ Below w.heap.size w wx) := fun _ _ h hb => ⟨h.1.below hb, below_on h.2 hb⟩
  have hsU1 : Stays (fun wx => (fun wx => Cs wx w.heap.size m.cells ∧ Below w.heap.size w wx) wx ∧ (Cs wx (w.heap.size + 1) rmZ ∧ NoPos wx (w.heap.size + 1))) := Stays.and_ hsT1 (fun _ _ h hb => ⟨h.1.below hb, h.2.below h.1.lt hb⟩)
  refine wp_region_any (by kernel_rfl) (wpAny_of_E (S0 := fun wx => Cs wx w.heap.size m.cells ∧ Below w.heap.size w wx) (n := 11) _ (fun wx => (fun wx => Cs wx w.heap.size m.cells ∧ Below w.heap.size w wx) wx ∧ (Cs wx (w.heap.size + 1) rmZ ∧ NoPos wx (w.heap.size + 1))) _ _ _ (hsU1 _ _ (HQ0.out) (Below.refl _ _).drew) ?_)
  refine wpAnyE_take (i := 0) (v := ?_) (hsU1) (fun _ h => h.1) rfl (by kernel_rfl) (by kernel_rfl) (by kernel_rfl) (by kernel_rfl) (fun _ _ _ h => h) (SteadyB.of_yields (Or.inl ⟨by rfl, ?_⟩)) ?_
  rotate_left
  · intro wq hSw
    go_simp
    (try with_reducible rfl)
  try simp only [List.getElem_toArray, List.getElem_cons_zero, List.getElem_cons_succ, Act.put, List.setIfInBounds_toArray, List.set_cons_zero, List.set_cons_succ]
  refine wpAnyE_take (i := 1) (v := ?_) (hsU1) (fun _ h => h.1) rfl (by kernel_rfl) (by kernel_rfl) (by kernel_rfl) (by kernel_rfl) (fun _ _ _ h => h) (SteadyB.of_yields (Or.inl ⟨by rfl, ?_⟩)) ?_
  rotate_left
  · intro wq hSw
    obtain ⟨m0, m1, m2, m3, m4⟩ := Mu.at m hSw.1
    go_simp
    (try with_reducible rfl)
  try simp only [List.getElem_toArray, List.getElem_cons_zero, List.getElem_cons_succ, Act.put, List.setIfInBounds_toArray, List.set_cons_zero, List.set_cons_succ]
  refine wpAnyE_take (i := 2) (v := ?_) (hsU1) (fun _ h => h.1) rfl (by kernel_rfl) (by kernel_rfl) (by kernel_rfl) (by kernel_rfl) (fun _ _ _ h => h) (SteadyB.of_yields (Or.inl ⟨by rfl, ?_⟩)) ?_
  rotate_left
  · intro wq hSw
    go_simp
    (try with_reducible rfl)
  try simp only [List.getElem_toArray, List.getElem_cons_zero, List.getElem_cons_succ, Act.put, List.setIfInBounds_toArray, List.set_cons_zero, List.set_cons_succ]
  refine wpAnyE_take (i := 3) (v := ?_) (hsU1) (fun _ h => h.1) rfl (by kernel_rfl) (by kernel_rfl) (by kernel_rfl) (by kernel_rfl) (fun _ _ _ h => h) (SteadyB.of_yields (Or.inl ⟨by rfl, ?_⟩)) ?_
  rotate_left
  · intro wq hSw
    obtain ⟨m0, m1, m2, m3, m4⟩ := Mu.at m hSw.1
    go_simp
    (try with_reducible rfl)
  try simp only [List.getElem_toArray, List.getElem_cons_zero, List.getElem_cons_succ, Act.put, List.setIfInBounds_toArray, List.set_cons_zero, List.set_cons_succ]
  refine wpAnyE_take (i := 5) (v := ?_) (hsU1) (fun _ h => h.1) rfl (by kernel_rfl) (by kernel_rfl) (by kernel_rfl) (by kernel_rfl) (fun _ _ _ h => h) (SteadyB.of_yields (Or.inl ⟨by rfl, ?_⟩)) ?_
  rotate_left
  · intro wq hSw
    go_simp
    (try with_reducible rfl)
  try simp only [List.getElem_toArray, List.getElem_cons_zero, List.getElem_cons_succ, Act.put, List.setIfInBounds_toArray, List.set_cons_zero, List.set_cons_succ]
  refine wpAnyE_take (i := 6) (v := ?_) (hsU1) (fun _ h => h.1) rfl (by kernel_rfl) (by kernel_rfl) (by kernel_rfl) (by kernel_rfl) (fun _ _ _ h => h) (SteadyB.of_yields (Or.inl ⟨by rfl, ?_⟩)) ?_
  rotate_left
  · intro wq hSw
    obtain ⟨m0, m1, m2, m3, m4⟩ := Mu.at m hSw.1
    go_simp
    (try with_reducible rfl)
  try simp only [List.getElem_toArray, List.getElem_cons_zero, List.getElem_cons_succ, Act.put, List.setIfInBounds_toArray, List.set_cons_zero, List.set_cons_succ]
  refine wpAnyE_take (i := 7) (v := ?_) (hsU1) (fun _ h => h.1) rfl (by kernel_rfl) (by kernel_rfl) (by kernel_rfl) (by kernel_rfl) (fun _ _ _ h => h) (SteadyB.of_yields (Or.inl ⟨by rfl, ?_⟩)) ?_
  rotate_left
  · intro wq hSw
    go_simp
    (try with_reducible rfl)
  try simp only [List.getElem_toArray, List.getElem_cons_zero, List.getElem_cons_succ, Act.put, List.setIfInBounds_toArray, List.set_cons_zero, List.set_cons_succ]
  refine wpAnyE_take (i := 8) (v := ?_) (hsU1) (fun _ h => h.1) rfl (by kernel_rfl) (by kernel_rfl) (by kernel_rfl) (by kernel_rfl) (fun _ _ _ h => h) (SteadyB.of_yields (Or.inl ⟨by rfl, ?_⟩)) ?_
  rotate_left
  · intro wq hSw
    obtain ⟨m0, m1, m2, m3, m4⟩ := Mu.at m hSw.1
    go_simp
    (try with_reducible rfl)
  try simp only [List.getElem_toArray, List.getElem_cons_zero, List.getElem_cons_succ, Act.put, List.setIfInBounds_toArray, List.set_cons_zero, List.set_cons_succ]
  refine wpAnyE_call (i := 4) (bqV) (bqR 18 m.a) rfl (by kernel_rfl) (by decide) (by rfl) (hsU1) (fun _ h => h.1) (fun x => bqR.stays 18 m.a x) (fun wq hSw => ?_) (fun x => ?_)
  · exact RunI.big (Law.of _ _ m.a (isW_of HM.out.2.1) wq) (by go_simp)
  obtain ⟨s1, A1, n1, c1⟩ := x
  dsimp only [bqV, bqR]
  try simp only [List.getElem_toArray, List.getElem_cons_zero, List.getElem_cons_succ, Act.put, List.setIfInBounds_toArray, List.set_cons_zero, List.set_cons_succ]
  refine wpAnyE_take (i := 9) (v := ?_) (Stays.and_ (hsU1) (bqR.stays 18 m.a (s1, A1, n1, c1))) (fun _ h => h.1.1) rfl (by kernel_rfl) (by kernel_rfl) (by kernel_rfl) (by kernel_rfl) (fun _ _ _ h => h) (SteadyB.of_yields (Or.inl ⟨by rfl, ?_⟩)) ?_
  rotate_left
  · intro wq hSw
    go_simp
    (try with_reducible rfl)
  try simp only [List.getElem_toArray, List.getElem_cons_zero, List.getElem_cons_succ, Act.put, List.setIfInBounds_toArray, List.set_cons_zero, List.set_cons_succ]
  refine wpAnyE_store (i := 10) (fun wx => (fun wx => Cs wx w.heap.size m.cells ∧ Below w.heap.size w wx) wx ∧ (Cs wx (w.heap.size + 1) (rmC m (s1, A1, n1, c1)) ∧ IsB wx 18 s1 A1 n1 c1 m.a)) 43 (rmC m (s1, A1, n1, c1)) rmZ (w.heap.size + 1) infoRm (.tmp 2) (.tmp 12) rfl rfl (by kernel_rfl) (by decide) (by rfl) ?sv2a ?sv2b ?sv2c ?sv2d ?sv2e (fun _ h => h.1.2.1) (fun _ h => ⟨⟨h.1.1.1.fars (by omega) _ _, below_sets (by omega) _ _ h.1.1.2⟩, Cs.putL (rmC m (s1, A1, n1, c1)) 0 h.1.2.1 (by simp [rmC, rmZ]), h.2.setZ h.1.2.2 0 _⟩) (fun _ h => h.1) ((fun _ _ h hb => ⟨⟨h.1.1.below hb, below_on h.1.2 hb⟩, h.2.1.below hb, h.2.2.below hb⟩)) ?sv2f
  case sv2a => rfl
  case sv2b => rfl
  case sv2c => rfl
  case sv2d => rfl
  case sv2e => rfl
  try simp only [List.getElem_toArray, List.getElem_cons_zero, List.getElem_cons_succ, Act.put, List.setIfInBounds_toArray, List.set_cons_zero, List.set_cons_succ]
  refine wpAnyE_done (by kernel_rfl) (fun wz hSz => ?_) _
  obtain ⟨⟨_, hb⟩, hc, hB⟩ := hSz
  have HB := hid hb
  have HBB := hid hB
  obtain ⟨z0, z1, z2, z3, z4⟩ := rm_at hc
  clear hb hc hB HQ0 hsT1 hsU1
  go_wp2_with fail
  refine bodyPost_ret (v := rmV m (s1, A1, n1, c1)) (by simp [results, Tryz.results29, go_sem, z0, z1, z2, z3, z4]) rfl ⟨(s1, A1, n1, c1), rfl, HBB.out, HB.out⟩
set_option maxRecDepth 100000 in
set_option maxHeartbeats 2000000 in
theorem Ref8.right_0 (m : Mu) (s1 : Bool) (A1 : Option Addr) (n1 c1 : Nat) (h : m.n = 0) (hw : m.w = 0) (w : World) (hB : IsB w 18 s1 A1 n1 c1 m.a) : Calls Tryz.prog 71 #[rmV m (s1, A1, n1, c1)] w (Ans (.bool m.right) w) := by
  have HBB := hid (hB.alloc (.cells #[.int .u64 m.b, .bool s1, .slice A1 n1 c1, .int .u64 m.w, .int .i64 m.n] 43))
  have HB0 := hid ((Below.refl w.heap.size w).alloc (Nat.le_refl _) (.cells #[.int .u64 m.b, .bool s1, .slice A1 n1 c1, .int .u64 m.w, .int .i64 m.n] 43))
  clear hB
  have c0 : (m.n == 0) = true := by rw [h]; rfl
  have c1' : (m.w == 0) = true := by rw [hw]; rfl
  have E : Hid ((cmpI m.a 0 == 0) = m.right) := hid (by
    unfold Mu.right
    rw [if_pos h, hw, Bool.eq_iff_iff]
    simp only [beq_iff_eq, cmpI_zero, Bool.and_eq_true, decide_eq_true_eq, and_true])
  clear h hw
  go_enter Tryz.func71, Tryz.ntmps71
  go_wp2_with fail
  refine (Ref.sign 18 s1 A1 n1 c1 m.a _ HBB.out).mono ?_
  rintro e w1 ⟨rfl, hb⟩
  have HB1 := hid (below_on HB0.out hb)
  clear hb
  go_wp2_with fail
  go_ret
  exact ⟨by rw [← E.out]; rfl, HB1.out⟩
set_option maxRecDepth 100000 in
set_option maxHeartbeats 2000000 in
theorem Ref8.right_1 (m : Mu) (s1 : Bool) (A1 : Option Addr) (n1 c1 : Nat) (h : m.n = 0) (hw : m.w ≠ 0) (w : World) (hB : IsB w 18 s1 A1 n1 c1 m.a) : Calls Tryz.prog 71 #[rmV m (s1, A1, n1, c1)] w (Ans (.bool m.right) w) := by
  have HBB := hid (hB.alloc (.cells #[.int .u64 m.b, .bool s1, .slice A1 n1 c1, .int .u64 m.w, .int .i64 m.n] 43))
  have HB0 := hid ((Below.refl w.heap.size w).alloc (Nat.le_refl _) (.cells #[.int .u64 m.b, .bool s1, .slice A1 n1 c1, .int .u64 m.w, .int .i64 m.n] 43))
  clear hB
  have c0 : (m.n == 0) = true := by rw [h]; rfl
  have c1' : (m.w == 0) = false := by simpa using hw
  have E : Hid (m.right = false) := hid (by unfold Mu.right; rw [if_pos h, decide_eq_false hw]; simp)
  rw [E.out]
  clear h hw
  go_enter Tryz.func71, Tryz.ntmps71
  go_wp2_with fail
  go_ret
  exact ⟨rfl, HB0.out⟩
set_option maxRecDepth 100000 in
set_option maxHeartbeats 2000000 in
theorem Ref8.right_2 (m : Mu) (s1 : Bool) (A1 : Option Addr) (n1 c1 : Nat) (h : m.n ≠ 0) (h1 : ¬ 1 ≤ m.n) (w : World) (hB : IsB w 18 s1 A1 n1 c1 m.a) : Calls Tryz.prog 71 #[rmV m (s1, A1, n1, c1)] w (Ans (.bool m.right) w) := by
  have HBB := hid (hB.alloc (.cells #[.int .u64 m.b, .bool s1, .slice A1 n1 c1, .int .u64 m.w, .int .i64 m.n] 43))
  have HB0 := hid ((Below.refl w.heap.size w).alloc (Nat.le_refl _) (.cells #[.int .u64 m.b, .bool s1, .slice A1 n1 c1, .int .u64 m.w, .int .i64 m.n] 43))
  clear hB
  have c0 : (m.n == 0) = false := by simpa using h
  have E : Hid (m.right = false) := hid (by unfold Mu.right; rw [if_neg h]; simp; omega)
  rw [E.out]
  clear h
  go_enter Tryz.func71, Tryz.ntmps71
  go_wp2_with fail
  go_ret
  exact ⟨rfl, HB0.out⟩
set_option maxRecDepth 100000 in
set_option maxHeartbeats 2000000 in
theorem Ref8.right_3 (m : Mu) (s1 : Bool) (A1 : Option Addr) (n1 c1 : Nat) (h : m.n ≠ 0) (h1 : 1 ≤ m.n) (h2 : ¬ m.n ≤ 32) (w : World) (hB : IsB w 18 s1 A1 n1 c1 m.a) : Calls Tryz.prog 71 #[rmV m (s1, A1, n1, c1)] w (Ans (.bool m.right) w) := by
  have HBB := hid (hB.alloc (.cells #[.int .u64 m.b, .bool s1, .slice A1 n1 c1, .int .u64 m.w, .int .i64 m.n] 43))
  have HB0 := hid ((Below.refl w.heap.size w).alloc (Nat.le_refl _) (.cells #[.int .u64 m.b, .bool s1, .slice A1 n1 c1, .int .u64 m.w, .int .i64 m.n] 43))
  clear hB
  have c0 : (m.n == 0) = false := by simpa using h
  have E : Hid (m.right = false) := hid (by unfold Mu.right; rw [if_neg h]; simp; omega)
  rw [E.out]
  clear h
  go_enter Tryz.func71, Tryz.ntmps71
  go_wp2_with fail
  go_ret
  exact ⟨rfl, HB0.out⟩
set_option maxRecDepth 100000 in
set_option maxHeartbeats 2000000 in
theorem Ref8.right_4 (m : Mu) (s1 : Bool) (A1 : Option Addr) (n1 c1 : Nat) (h : m.n ≠ 0) (h1 : 1 ≤ m.n) (h2 : m.n ≤ 32) (h3 : ¬ m.n ≤ m.w) (w : World) (hB : IsB w 18 s1 A1 n1 c1 m.a) : Calls Tryz.prog 71 #[rmV m (s1, A1, n1, c1)] w (Ans (.bool m.right) w) := by
  have HBB := hid (hB.alloc (.cells #[.int .u64 m.b, .bool s1, .slice A1 n1 c1, .int .u64 m.w, .int .i64 m.n] 43))
  have HB0 := hid ((Below.refl w.heap.size w).alloc (Nat.le_refl _) (.cells #[.int .u64 m.b, .bool s1, .slice A1 n1 c1, .int .u64 m.w, .int .i64 m.n] 43))
  clear hB
  have c0 : (m.n == 0) = false := by simpa using h
  have E : Hid (m.right = false) := hid (by unfold Mu.right; rw [if_neg h]; simp; omega)
  rw [E.out]
  have e1 : IntKind.u64.wrap m.n = m.n := by rw [IntKind.wrap_u64]; omega
  have e2 : IntKind.u64.wrap (m.n * 1048576) = m.n * 1048576 := by rw [IntKind.wrap_u64]; omega
  clear h
  go_enter Tryz.func71, Tryz.ntmps71
  go_wp2_with fail
  go_ret
  exact ⟨rfl, HB0.out⟩
set_option maxRecDepth 100000 in
set_option maxHeartbeats 2000000 in
theorem Ref8.right_5 (m : Mu) (s1 : Bool) (A1 : Option Addr) (n1 c1 : Nat) (h : m.n ≠ 0) (h1 : 1 ≤ m.n) (h2 : m.n ≤ 32) (h3 : m.n ≤ m.w) (h4 : ¬ m.w ≤ m.n * 1048576) (w : World) (hB : IsB w 18 s1 A1 n1 c1 m.a) : Calls Tryz.prog 71 #[rmV m (s1, A1, n1, c1)] w (Ans (.bool m.right) w) := by
  have HBB := hid (hB.alloc (.cells #[.int .u64 m.b, .bool s1, .slice A1 n1 c1, .int .u64 m.w, .int .i64 m.n] 43))
  have HB0 := hid ((Below.refl w.heap.size w).alloc (Nat.le_refl _) (.cells #[.int .u64 m.b, .bool s1, .slice A1 n1 c1, .int .u64 m.w, .int .i64 m.n] 43))
  clear hB
  have c0 : (m.n == 0) = false := by simpa using h
  have E : Hid (m.right = false) := hid (by unfold Mu.right; rw [if_neg h]; simp; omega)
  rw [E.out]
  have e1 : IntKind.u64.wrap m.n = m.n := by rw [IntKind.wrap_u64]; omega
  have e2 : IntKind.u64.wrap (m.n * 1048576) = m.n * 1048576 := by rw [IntKind.wrap_u64]; omega
  clear h
  go_enter Tryz.func71, Tryz.ntmps71
  go_wp2_with fail
  go_ret
  exact ⟨rfl, HB0.out⟩
set_option maxRecDepth 100000 in
set_option maxHeartbeats 2000000 in
theorem Ref8.right_6 (m : Mu) (s1 : Bool) (A1 : Option Addr) (n1 c1 : Nat) (h : m.n ≠ 0) (h1 : 1 ≤ m.n) (h2 : m.n ≤ 32) (h3 : m.n ≤ m.w) (h4 : m.w ≤ m.n * 1048576) (w : World) (hB : IsB w 18 s1 A1 n1 c1 m.a) : Calls Tryz.prog 71 #[rmV m (s1, A1, n1, c1)] w (Ans (.bool m.right) w) := by
  have HBB := hid (hB.alloc (.cells #[.int .u64 m.b, .bool s1, .slice A1 n1 c1, .int .u64 m.w, .int .i64 m.n] 43))
  have HB0 := hid ((Below.refl w.heap.size w).alloc (Nat.le_refl _) (.cells #[.int .u64 m.b, .bool s1, .slice A1 n1 c1, .int .u64 m.w, .int .i64 m.n] 43))
  clear hB
  have c0 : (m.n == 0) = false := by simpa using h
  have E : Hid (m.right = true) := hid (by unfold Mu.right; rw [if_neg h]; simp; omega)
  rw [E.out]
  have e1 : IntKind.u64.wrap m.n = m.n := by rw [IntKind.wrap_u64]; omega
  have e2 : IntKind.u64.wrap (m.n * 1048576) = m.n * 1048576 := by rw [IntKind.wrap_u64]; omega
  clear h
  go_enter Tryz.func71, Tryz.ntmps71
  go_wp2_with fail
  go_ret
  exact ⟨rfl, HB0.out⟩
theorem Ref8.right (m : Mu) (s1 : Bool) (A1 : Option Addr) (n1 c1 : Nat) (w : World) (hB : IsB w 18 s1 A1 n1 c1 m.a) : Calls Tryz.prog 71 #[rmV m (s1, A1, n1, c1)] w (Ans (.bool m.right) w) := by
  by_cases h : m.n = 0
  · by_cases hw : m.w = 0
    · exact Ref8.right_0 m s1 A1 n1 c1 h hw w hB
    · exact Ref8.right_1 m s1 A1 n1 c1 h hw w hB
  · by_cases h1 : 1 ≤ m.n
    · by_cases h2 : m.n ≤ 32
      · by_cases h3 : m.n ≤ m.w
        · by_cases h4 : m.w ≤ m.n * 1048576
          · exact Ref8.right_6 m s1 A1 n1 c1 h h1 h2 h3 h4 w hB
          · exact Ref8.right_5 m s1 A1 n1 c1 h h1 h2 h3 h4 w hB
        · exact Ref8.right_4 m s1 A1 n1 c1 h h1 h2 h3 w hB
      · exact Ref8.right_3 m s1 A1 n1 c1 h h1 h2 w hB
    · exact Ref8.right_2 m s1 A1 n1 c1 h h1 w hB
end

/- The contract of the document's answer to where a task comes in. -/
section
open Go.RowKit
/-- A wide number has few digits. -/
theorem IsB.narrow {w : World} {L : Nat} {s : Bool} {A : Option Addr} {n c : Nat} {z : Int} (h : IsB w L s A n c z) (hz : WR z) : IsB w 18 s A n c z := by
  obtain ⟨zs, h1, h2, h3, h4, h5, h6, h7⟩ := h
  refine ⟨zs, h1, ?_, h3, h4, h5, h6, h7⟩
  rcases Nat.lt_or_ge 18 n with hn | hn
  rotate_left
  · exact hn
  exfalso
  have hl := h1.1
  have hs := val_split zs 18
  have hlen : (zs.take 18).length = 18 := by rw [List.length_take]; omega
  rw [hlen] at hs
  have hne : zs.drop 18 ≠ [] := fun h => by have := congrArg List.length h; simp at this; omega
  have hnm : Nm (zs.drop 18) := by
    unfold Nm at *
    rw [List.getLast?_drop, if_neg (by omega)]
    exact h5
  have hp := val_pos (h4.drop 18) hnm hne
  have ht := val_nonneg (h4.take 18)
  have e : (10000 : Int) ^ 18 = 1000000000000000000000000000000000000000000000000000000000000000000000000 := by decide
  rw [e] at hs
  unfold WR at hz
  split at h7 <;> omega
/-- A mean of the document's, and what is answered. -/
def PL0 (w : World) (m : Mu) (s1 : Bool) (A1 : Option Addr) (n1 c1 : Nat) (W : World) : Prop := ((Cs W w.heap.size (rmC m (s1, A1, n1, c1)) ∧ Cs W (w.heap.size + 1) [.int .u64 0, .int .u32 0, .int .u32 0]) ∧ IsB W 18 s1 A1 n1 c1 m.a) ∧ Below w.heap.size w W
theorem PL0.below {w : World} {m : Mu} {s1 : Bool} {A1 : Option Addr} {n1 c1 : Nat} {W W' : World} (h : PL0 w m s1 A1 n1 c1 W) (hb : Below W.heap.size W W') : PL0 w m s1 A1 n1 c1 W' := ⟨⟨⟨h.1.1.1.below hb, h.1.1.2.below hb⟩, h.1.2.below hb⟩, below_on h.2 hb⟩
theorem PL0.sets {w : World} {m : Mu} {s1 : Bool} {A1 : Option Addr} {n1 c1 : Nat} {W : World} (h : PL0 w m s1 A1 n1 c1 W) {g : Nat} (hg : w.heap.size + 1 < g) (hn : NoInt W g) (vs : List Value) : PL0 w m s1 A1 n1 c1 (W.setCells g 0 vs) :=
  ⟨⟨⟨h.1.1.1.fars (by omega) _ _, h.1.1.2.fars (by omega) _ _⟩, h.1.2.sets hn 0 vs⟩, below_sets (by omega) _ _ h.2⟩
theorem PL0.new (w : World) (m : Mu) (s1 : Bool) (A1 : Option Addr) (n1 c1 : Nat) (hB : IsB w 18 s1 A1 n1 c1 m.a) : PL0 w m s1 A1 n1 c1 ((w.alloc (.cells #[.int .u64 m.b, .bool s1, .slice A1 n1 c1, .int .u64 m.w, .int .i64 m.n] 43)).alloc (.cells #[.int .u64 0, .int .u32 0, .int .u32 0] 31)) := by
  have h2 := Cs.alloc_new6 (w.alloc (.cells #[.int .u64 m.b, .bool s1, .slice A1 n1 c1, .int .u64 m.w, .int .i64 m.n] 43)) 31 [.int .u64 0, .int .u32 0, .int .u32 0]
  simp only [World.size_alloc] at h2
  exact ⟨⟨⟨(Cs.alloc_new6 w 43 (rmC m (s1, A1, n1, c1))).alloc _, h2⟩, (hB.alloc _).alloc _⟩, ((Below.refl w.heap.size w).alloc (Nat.le_refl _) _).alloc (by simp) _⟩
theorem PL0.put {w : World} {m : Mu} {s1 : Bool} {A1 : Option Addr} {n1 c1 : Nat} {W W2 : World} (h : PL0 w m s1 A1 n1 c1 W) {a b c : Value} (hW : W2 = W.setCells (w.heap.size + 1) 0 [a, b, c]) : Cs W2 (w.heap.size + 1) [a, b, c] ∧ Below w.heap.size w W2 := by
  rw [hW]; exact ⟨Cs.putL _ 0 h.1.1.2 (by simp), below_sets (by omega) _ _ h.2⟩
theorem infoP4 : (Tryz.prog.info? 31).map (·.size) = some 3 := by kernel_rfl
set_option maxRecDepth 100000 in
set_option maxHeartbeats 16000000 in
theorem Ref10.place_no1 (m : Mu) (s1 : Bool) (A1 : Option Addr) (n1 c1 : Nat) (clock v o : Int) (hm : m.In) (v0 : 0 ≤ v) (vb : v ≤ 4294967295) (o0 : -9223372036854775808 ≤ o) (ob : o ≤ 9223372036854775807) (h1 : m.right = false) (w : World) (hB : IsB w 18 s1 A1 n1 c1 m.a) : Calls Tryz.prog 43 #[rmV m (s1, A1, n1, c1), .int .u64 clock, .int .u32 v, .int .i64 o] w (Ans (.tuple #[pv (0, 0, 0), .bool false]) w) := by
  have HM := hid hm
  have HQ0 := hid (PL0.new w m s1 A1 n1 c1 hB)
  have H1 := hid h1
  clear hm hB h1
  unfold rmV
  go_enter Tryz.func43, Tryz.ntmps43
  go_wp2_with fail
  generalize ((w.alloc (.cells #[.int .u64 m.b, .bool s1, .slice A1 n1 c1, .int .u64 m.w, .int .i64 m.n] 43)).alloc (.cells #[.int .u64 0, .int .u32 0, .int .u32 0] 31)) = W0 at HQ0 ⊢
  obtain ⟨m0, m1, m2, m3, m4⟩ := rm_at HQ0.out.1.1.1
  go_wp2_with fail
  clear m0 m1 m2 m3 m4
  refine (Ref8.right m s1 A1 n1 c1 _ HQ0.out.1.2).mono ?_
  rw [H1.out]
  rintro e w1 ⟨rfl, hb⟩
  replace HQ0 := hid (HQ0.out.below hb)
  clear hb
  have HCr := hid HQ0.out.1.1.2
  go_wp2_with (first | ((with_reducible refine wpList_put_cs 31 [.int .u64 0, .int .u32 0, .int .u32 0] infoP4 rfl (.tmp 8) (.tmp 26) rfl (w.heap.size + 1) _ HCr.out ?pq1_1 ?pq1_2 ?pq1_3 ?pq1_4 ?pq1_5 ?pq1_6); (case pq1_1 => rfl); (case pq1_2 => rfl); (case pq1_3 => rfl); (case pq1_4 => rfl); (case pq1_5 => rfl); (intro W2 hW2); (have HW := hid (HQ0.out.put hW2)); (clear hW2)) | fail)
  obtain ⟨z0, z1, z2⟩ := HW.out.1.three
  go_wp2_with fail
  refine bodyPost_ret (v := .tuple #[pv (0, 0, 0), .bool false]) (by simp [results, Tryz.results43, go_sem, z0, z1, z2]) rfl ⟨rfl, HW.out.2⟩
set_option maxRecDepth 100000 in
set_option maxHeartbeats 16000000 in
theorem Ref10.place_no2 (m : Mu) (s1 : Bool) (A1 : Option Addr) (n1 c1 : Nat) (clock v o : Int) (hm : m.In) (v0 : 0 ≤ v) (vb : v ≤ 4294967295) (o0 : -9223372036854775808 ≤ o) (ob : o ≤ 9223372036854775807) (h1 : m.right = true) (h2 : v < 1) (w : World) (hB : IsB w 18 s1 A1 n1 c1 m.a) : Calls Tryz.prog 43 #[rmV m (s1, A1, n1, c1), .int .u64 clock, .int .u32 v, .int .i64 o] w (Ans (.tuple #[pv (0, 0, 0), .bool false]) w) := by
  have HM := hid hm
  have HQ0 := hid (PL0.new w m s1 A1 n1 c1 hB)
  have H1 := hid h1
  clear hm hB h1
  unfold rmV
  go_enter Tryz.func43, Tryz.ntmps43
  go_wp2_with fail
  generalize ((w.alloc (.cells #[.int .u64 m.b, .bool s1, .slice A1 n1 c1, .int .u64 m.w, .int .i64 m.n] 43)).alloc (.cells #[.int .u64 0, .int .u32 0, .int .u32 0] 31)) = W0 at HQ0 ⊢
  obtain ⟨m0, m1, m2, m3, m4⟩ := rm_at HQ0.out.1.1.1
  go_wp2_with fail
  clear m0 m1 m2 m3 m4
  refine (Ref8.right m s1 A1 n1 c1 _ HQ0.out.1.2).mono ?_
  rw [H1.out]
  rintro e w1 ⟨rfl, hb⟩
  replace HQ0 := hid (HQ0.out.below hb)
  clear hb
  have HCr := hid HQ0.out.1.1.2
  go_wp2_with (first | ((with_reducible refine wpList_put_cs 31 [.int .u64 0, .int .u32 0, .int .u32 0] infoP4 rfl (.tmp 8) (.tmp 26) rfl (w.heap.size + 1) _ HCr.out ?pq2_1 ?pq2_2 ?pq2_3 ?pq2_4 ?pq2_5 ?pq2_6); (case pq2_1 => rfl); (case pq2_2 => rfl); (case pq2_3 => rfl); (case pq2_4 => rfl); (case pq2_5 => rfl); (intro W2 hW2); (have HW := hid (HQ0.out.put hW2)); (clear hW2)) | fail)
  obtain ⟨z0, z1, z2⟩ := HW.out.1.three
  go_wp2_with fail
  refine bodyPost_ret (v := .tuple #[pv (0, 0, 0), .bool false]) (by simp [results, Tryz.results43, go_sem, z0, z1, z2]) rfl ⟨rfl, HW.out.2⟩
set_option maxRecDepth 100000 in
set_option maxHeartbeats 16000000 in
theorem Ref10.place_no3 (m : Mu) (s1 : Bool) (A1 : Option Addr) (n1 c1 : Nat) (clock v o : Int) (hm : m.In) (v0 : 0 ≤ v) (vb : v ≤ 4294967295) (o0 : -9223372036854775808 ≤ o) (ob : o ≤ 9223372036854775807) (h1 : m.right = true) (h2 : ¬ v < 1) (h3 : 1048576 < v) (w : World) (hB : IsB w 18 s1 A1 n1 c1 m.a) : Calls Tryz.prog 43 #[rmV m (s1, A1, n1, c1), .int .u64 clock, .int .u32 v, .int .i64 o] w (Ans (.tuple #[pv (0, 0, 0), .bool false]) w) := by
  have HM := hid hm
  have HQ0 := hid (PL0.new w m s1 A1 n1 c1 hB)
  have H1 := hid h1
  clear hm hB h1
  unfold rmV
  go_enter Tryz.func43, Tryz.ntmps43
  go_wp2_with fail
  generalize ((w.alloc (.cells #[.int .u64 m.b, .bool s1, .slice A1 n1 c1, .int .u64 m.w, .int .i64 m.n] 43)).alloc (.cells #[.int .u64 0, .int .u32 0, .int .u32 0] 31)) = W0 at HQ0 ⊢
  obtain ⟨m0, m1, m2, m3, m4⟩ := rm_at HQ0.out.1.1.1
  go_wp2_with fail
  clear m0 m1 m2 m3 m4
  refine (Ref8.right m s1 A1 n1 c1 _ HQ0.out.1.2).mono ?_
  rw [H1.out]
  rintro e w1 ⟨rfl, hb⟩
  replace HQ0 := hid (HQ0.out.below hb)
  clear hb
  have HCr := hid HQ0.out.1.1.2
  go_wp2_with (first | ((with_reducible refine wpList_put_cs 31 [.int .u64 0, .int .u32 0, .int .u32 0] infoP4 rfl (.tmp 8) (.tmp 26) rfl (w.heap.size + 1) _ HCr.out ?pq3_1 ?pq3_2 ?pq3_3 ?pq3_4 ?pq3_5 ?pq3_6); (case pq3_1 => rfl); (case pq3_2 => rfl); (case pq3_3 => rfl); (case pq3_4 => rfl); (case pq3_5 => rfl); (intro W2 hW2); (have HW := hid (HQ0.out.put hW2)); (clear hW2)) | fail)
  obtain ⟨z0, z1, z2⟩ := HW.out.1.three
  go_wp2_with fail
  refine bodyPost_ret (v := .tuple #[pv (0, 0, 0), .bool false]) (by simp [results, Tryz.results43, go_sem, z0, z1, z2]) rfl ⟨rfl, HW.out.2⟩
set_option maxRecDepth 100000 in
set_option maxHeartbeats 16000000 in
theorem Ref10.place_new (m : Mu) (s1 : Bool) (A1 : Option Addr) (n1 c1 : Nat) (clock v o : Int) (hm : m.In) (v0 : 0 ≤ v) (vb : v ≤ 4294967295) (o0 : -9223372036854775808 ≤ o) (ob : o ≤ 9223372036854775807) (h1 : m.right = true) (h2 : ¬ v < 1) (h3 : ¬ 1048576 < v) (h4 : m.n = 0) (w : World) (hB : IsB w 18 s1 A1 n1 c1 m.a) : Calls Tryz.prog 43 #[rmV m (s1, A1, n1, c1), .int .u64 clock, .int .u32 v, .int .i64 o] w (Ans (.tuple #[pv (clock, 0, v), .bool true]) w) := by
  have HM := hid hm
  have HQ0 := hid (PL0.new w m s1 A1 n1 c1 hB)
  have H1 := hid h1
  have c4 : (m.n == 0) = true := by rw [h4]; rfl
  clear hm hB h1 h4
  unfold rmV
  go_enter Tryz.func43, Tryz.ntmps43
  go_wp2_with fail
  generalize ((w.alloc (.cells #[.int .u64 m.b, .bool s1, .slice A1 n1 c1, .int .u64 m.w, .int .i64 m.n] 43)).alloc (.cells #[.int .u64 0, .int .u32 0, .int .u32 0] 31)) = W0 at HQ0 ⊢
  obtain ⟨m0, m1, m2, m3, m4⟩ := rm_at HQ0.out.1.1.1
  go_wp2_with fail
  clear m0 m1 m2 m3 m4
  refine (Ref8.right m s1 A1 n1 c1 _ HQ0.out.1.2).mono ?_
  rw [H1.out]
  rintro e w1 ⟨rfl, hb⟩
  replace HQ0 := hid (HQ0.out.below hb)
  clear hb
  obtain ⟨m0, m1, m2, m3, m4⟩ := rm_at HQ0.out.1.1.1
  have HCr := hid HQ0.out.1.1.2
  go_wp2_with (first | ((with_reducible refine wpList_put_cs 31 [.int .u64 clock, .int .u32 0, .int .u32 v] infoP4 rfl (.tmp 8) (.tmp 32) rfl (w.heap.size + 1) _ HCr.out ?pq4_1 ?pq4_2 ?pq4_3 ?pq4_4 ?pq4_5 ?pq4_6); (case pq4_1 => rfl); (case pq4_2 => rfl); (case pq4_3 => rfl); (case pq4_4 => rfl); (case pq4_5 => rfl); (intro W2 hW2); (have HW := hid (HQ0.out.put hW2)); (clear hW2)) | fail)
  obtain ⟨z0, z1, z2⟩ := HW.out.1.three
  go_wp2_with fail
  refine bodyPost_ret (v := .tuple #[pv (clock, 0, v), .bool true]) (by simp [results, Tryz.results43, go_sem, z0, z1, z2]) rfl ⟨rfl, HW.out.2⟩
set_option maxRecDepth 100000 in
set_option maxHeartbeats 16000000 in
theorem Ref10.place_no4 (m : Mu) (s1 : Bool) (A1 : Option Addr) (n1 c1 : Nat) (clock v o : Int) (hm : m.In) (v0 : 0 ≤ v) (vb : v ≤ 4294967295) (o0 : -9223372036854775808 ≤ o) (ob : o ≤ 9223372036854775807) (h1 : m.right = true) (h2 : ¬ v < 1) (h3 : ¬ 1048576 < v) (h4 : m.n ≠ 0) (h5 : okW (m.a * v) = false) (w : World) (hB : IsB w 18 s1 A1 n1 c1 m.a) : Calls Tryz.prog 43 #[rmV m (s1, A1, n1, c1), .int .u64 clock, .int .u32 v, .int .i64 o] w (Ans (.tuple #[pv (0, 0, 0), .bool false]) w) := by
  have HM := hid hm
  have HQ0 := hid (PL0.new w m s1 A1 n1 c1 hB)
  have H1 := hid h1
  have c4 : (m.n == 0) = false := by simpa using h4
  have HW := hid (right_w h1 h4)
  have HV : Hid (0 ≤ v ∧ v ≤ 18446744073709551615) := hid (by omega)
  have HVV : Hid (1 ≤ v ∧ v ≤ 1048576) := hid (by omega)
  have HO := hid (And.intro o0 ob)
  have HWV : Hid (0 ≤ m.w + v ∧ m.w + v ≤ 18446744073709551615) := hid (by have := right_w h1 h4; omega)
  have e1 : IntKind.u64.wrap v = v := by rw [IntKind.wrap_u64]; omega
  have e2 : IntKind.u64.wrap (m.w + v) = m.w + v := by have := HWV.out; rw [IntKind.wrap_u64]; omega
  have e3 : IntKind.i64.wrap m.w = m.w := by have := HW.out; rw [IntKind.wrap_i64]; omega
  have H6 : Hid (-170141183460469231731687303715884105728 ≤ (o * (m.w + v)) ∧ (o * (m.w + v)) < 170141183460469231731687303715884105728) := hid (by
    have e3 := mulBd (d := o) (v := m.w + v) (M := 9223372036854775808) (V := 4328521727) (by omega) (by omega) (by have := right_w h1 h4; omega) (by have := right_w h1 h4; omega) (by decide)
    omega)
  have HX : Hid (¬ (-170141183460469231731687303715884105728 ≤ (m.a * v) ∧ (m.a * v) < 170141183460469231731687303715884105728)) := hid (fun h => by have := okW_no h5; unfold WR at this; omega)
  clear h5
  clear hm hB h1 h4 v0 vb o0 ob
  unfold rmV
  go_enter Tryz.func43, Tryz.ntmps43
  go_wp2_with fail
  generalize ((w.alloc (.cells #[.int .u64 m.b, .bool s1, .slice A1 n1 c1, .int .u64 m.w, .int .i64 m.n] 43)).alloc (.cells #[.int .u64 0, .int .u32 0, .int .u32 0] 31)) = W0 at HQ0 ⊢
  obtain ⟨m0, m1, m2, m3, m4⟩ := rm_at HQ0.out.1.1.1
  go_wp2_with fail
  clear m0 m1 m2 m3 m4
  refine (Ref8.right m s1 A1 n1 c1 _ HQ0.out.1.2).mono ?_
  rw [H1.out]
  rintro e w1 ⟨rfl, hb⟩
  replace HQ0 := hid (HQ0.out.below hb)
  clear hb
  obtain ⟨m0, m1, m2, m3, m4⟩ := rm_at HQ0.out.1.1.1
  go_wp2_with fail
  clear m0 m1 m2 m3 m4 c4
  have hsT1 : Stays (fun wx => PL0 w m s1 A1 n1 c1 wx) := fun _ _ h hb => h.below hb
  refine wp_region_grow (S := fun wx => PL0 w m s1 A1 n1 c1 wx) 8 (by kernel_rfl) (hsT1 _ _ (HQ0.out) (Below.refl _ _).drew) ?_
  refine wpAnyE_take (i := 0) (v := ?_) (hsT1) (fun _ h => h) rfl (by kernel_rfl) (by kernel_rfl) (by kernel_rfl) (by kernel_rfl) (fun _ _ _ h => h) (SteadyB.of_yields (Or.inl ⟨by rfl, ?_⟩)) ?_
  rotate_left
  · intro wq hSw
    go_simp
    (try with_reducible rfl)
  try simp only [List.getElem_toArray, List.getElem_cons_zero, List.getElem_cons_succ, Act.put, List.setIfInBounds_toArray, List.set_cons_zero, List.set_cons_succ]
  refine wpAnyE_take (i := 1) (v := ?_) (hsT1) (fun _ h => h) rfl (by kernel_rfl) (by kernel_rfl) (by kernel_rfl) (by kernel_rfl) (fun _ _ _ h => h) (SteadyB.of_yields (Or.inl ⟨by rfl, ?_⟩)) ?_
  rotate_left
  · intro wq hSw
    obtain ⟨m0, m1, m2, m3, m4⟩ := rm_at hSw.1.1.1
    go_simp
    (try with_reducible rfl)
  try simp only [List.getElem_toArray, List.getElem_cons_zero, List.getElem_cons_succ, Act.put, List.setIfInBounds_toArray, List.set_cons_zero, List.set_cons_succ]
  refine wpAnyE_take (i := 2) (v := ?_) (hsT1) (fun _ h => h) rfl (by kernel_rfl) (by kernel_rfl) (by kernel_rfl) (by kernel_rfl) (fun _ _ _ h => h) (SteadyB.of_yields (Or.inl ⟨by rfl, ?_⟩)) ?_
  rotate_left
  · intro wq hSw
    go_simp
    (try with_reducible rfl)
  try simp only [List.getElem_toArray, List.getElem_cons_zero, List.getElem_cons_succ, Act.put, List.setIfInBounds_toArray, List.set_cons_zero, List.set_cons_succ]
  refine wpAnyE_take (i := 3) (v := ?_) (hsT1) (fun _ h => h) rfl (by kernel_rfl) (by kernel_rfl) (by kernel_rfl) (by kernel_rfl) (fun _ _ _ h => h) (SteadyB.of_yields (Or.inl ⟨by rfl, ?_⟩)) ?_
  rotate_left
  · intro wq hSw
    go_simp
    (try with_reducible rfl)
  try simp only [List.getElem_toArray, List.getElem_cons_zero, List.getElem_cons_succ, Act.put, List.setIfInBounds_toArray, List.set_cons_zero, List.set_cons_succ]
  refine wpF.fst (j := 6) (dst := some 10) (T := fun wx g => Var wx g false none 0 0 ∧ w.heap.size + 1 < g) ?_
  refine wpF_call (k := 4) _ (bqV) (bqR 5 v) rfl rfl rfl (Or.inl (by kernel_rfl)) (by kernel_rfl) (by decide) (by decide) (by decide) (by kernel_rfl) (by intro cs b h; cases h) (by rfl) (fun _ => rfl) (hsT1) (fun _ h => h) (fun g => fun _ _ h hb => ⟨h.1.below hb, h.2⟩) (fun yq => bqR.stays 5 v yq) (fun aq wq hSw => ?_) (fun wq hSw => ?_) (fun yq => ?_)
  · (first | exact ⟨_, by go_simp; (try with_reducible rfl), (Below.refl _ _).alloc (Nat.le_refl _) _, Var.new _ _ _ _ _ _, hSw.1.1.2.lt⟩ | exact ⟨_, by go_simp; (try with_reducible rfl), (Below.refl _ _).alloc (Nat.le_refl _) _, Var.new _ _ _ _ _ _, hSw.1.1.1.2.lt⟩ | exact ⟨_, by go_simp; (try with_reducible rfl), (Below.refl _ _).alloc (Nat.le_refl _) _, Var.new _ _ _ _ _ _, hSw.1.1.1.1.2.lt⟩)
  · exact RunI.big (Ref.U v HV.out.1 HV.out.2 wq) (by go_simp)
  obtain ⟨s2, A2, n2, c2⟩ := yq
  dsimp only [bqV, bqR]
  try simp only [List.getElem_toArray, List.getElem_cons_zero, List.getElem_cons_succ, Act.put, List.setIfInBounds_toArray, List.set_cons_zero, List.set_cons_succ]
  refine wpF_call (k := 5) _ (bqV) (bqR 24 (m.a * v)) rfl rfl rfl (Or.inl (by kernel_rfl)) (by kernel_rfl) (by decide) (by decide) (by decide) (by kernel_rfl) (by intro cs b h; cases h) (by rfl) (fun _ => rfl) (Stays.and_ (hsT1) (bqR.stays 5 v (s2, A2, n2, c2))) (fun _ h => h.1) (fun g => fun _ _ h hb => ⟨h.1.below hb, h.2⟩) (fun yq => bqR.stays 24 (m.a * v) yq) (fun aq wq hSw => ?_) (fun wq hSw => ?_) (fun yq => ?_)
  · (first | exact ⟨_, by go_simp; (try with_reducible rfl), (Below.refl _ _).alloc (Nat.le_refl _) _, Var.new _ _ _ _ _ _, hSw.1.1.2.lt⟩ | exact ⟨_, by go_simp; (try with_reducible rfl), (Below.refl _ _).alloc (Nat.le_refl _) _, Var.new _ _ _ _ _ _, hSw.1.1.1.2.lt⟩ | exact ⟨_, by go_simp; (try with_reducible rfl), (Below.refl _ _).alloc (Nat.le_refl _) _, Var.new _ _ _ _ _ _, hSw.1.1.1.1.2.lt⟩)
  · exact RunI.big (Ref.mul 18 5 s1 s2 A1 A2 n1 c1 n2 c2 m.a v wq hSw.1.1.2 hSw.2 (by decide) (by decide)) (by go_simp)
  obtain ⟨s3, A3, n3, c3⟩ := yq
  dsimp only [bqV, bqR]
  try simp only [List.getElem_toArray, List.getElem_cons_zero, List.getElem_cons_succ, Act.put, List.setIfInBounds_toArray, List.set_cons_zero, List.set_cons_succ]
  refine wpF_done _ rfl rfl (by kernel_rfl) (by decide) (by rfl) (Stays.and_ (Stays.and_ (hsT1) (bqR.stays 5 v (s2, A2, n2, c2))) (bqR.stays 24 (m.a * v) (s3, A3, n3, c3))) (fun _ h => h.1.1) (fun g => fun _ _ h hb => ⟨h.1.below hb, h.2⟩) (fun wq hSw => ?_) (fun gA => ?_)
  · (first | exact ⟨_, by go_simp; (try with_reducible rfl), (Below.refl _ _).alloc (Nat.le_refl _) _, Var.new _ _ _ _ _ _, hSw.1.1.2.lt⟩ | exact ⟨_, by go_simp; (try with_reducible rfl), (Below.refl _ _).alloc (Nat.le_refl _) _, Var.new _ _ _ _ _ _, hSw.1.1.1.2.lt⟩ | exact ⟨_, by go_simp; (try with_reducible rfl), (Below.refl _ _).alloc (Nat.le_refl _) _, Var.new _ _ _ _ _ _, hSw.1.1.1.1.2.lt⟩)
  try simp only [List.getElem_toArray, List.getElem_cons_zero, List.getElem_cons_succ, Act.put, List.setIfInBounds_toArray, List.set_cons_zero, List.set_cons_succ]
  refine wpAnyE_store (i := 7) (fun wx => (fun wx => PL0 w m s1 A1 n1 c1 wx) wx ∧ ((Var wx gA s3 A3 n3 c3 ∧ IsB wx 24 s3 A3 n3 c3 (m.a * v)) ∧ w.heap.size + 1 < gA)) 41 [.bool s3, .slice A3 n3 c3] [.bool false, .slice none 0 0] gA infoBig (.tmp 10) (.tmp 38) rfl rfl (by kernel_rfl) (by decide) (by rfl) ?sv2a ?sv2b ?sv2c ?sv2d ?sv2e (fun _ h => h.2.1.cs) (fun _ h => ⟨h.1.1.1.sets h.2.2 h.2.1.2.2.2.2 _, ⟨h.2.1.sets s3 A3 n3 c3, h.1.2.sets h.2.1.2.2.2.2 0 _⟩, h.2.2⟩) (fun _ h => h.1) ((fun _ _ h hb => ⟨h.1.below hb, ⟨h.2.1.1.below hb, h.2.1.2.below hb⟩, h.2.2⟩)) ?sv2f
  case sv2a => rfl
  case sv2b => rfl
  case sv2c => rfl
  case sv2d => rfl
  case sv2e => rfl
  try simp only [List.getElem_toArray, List.getElem_cons_zero, List.getElem_cons_succ, Act.put, List.setIfInBounds_toArray, List.set_cons_zero, List.set_cons_succ]
  refine wpAnyE_done (by kernel_rfl) (fun wz hSz => ?_) _
  have HQ3 := hid hSz
  clear hSz HQ0
  generalize gA = gs at HQ3 ⊢
  go_wp2_with fail
  have hsT3 : Stays (fun wx => PL0 w m s1 A1 n1 c1 wx ∧ ((Var wx gs s3 A3 n3 c3 ∧ IsB wx 24 s3 A3 n3 c3 (m.a * v)) ∧ w.heap.size + 1 < gs)) := fun _ _ h hb => ⟨h.1.below hb, ⟨h.2.1.1.below hb, h.2.1.2.below hb⟩, h.2.2⟩
  refine wp_region_grow (S := fun wx => PL0 w m s1 A1 n1 c1 wx ∧ ((Var wx gs s3 A3 n3 c3 ∧ IsB wx 24 s3 A3 n3 c3 (m.a * v)) ∧ w.heap.size + 1 < gs)) 11 (by kernel_rfl) (hsT3 _ _ (HQ3.out) (Below.refl _ _).drew) ?_
  refine wpAnyE_take (i := 0) (v := ?_) (hsT3) (fun _ h => h) rfl (by kernel_rfl) (by kernel_rfl) (by kernel_rfl) (by kernel_rfl) (fun _ _ _ h => h) (SteadyB.of_yields (Or.inl ⟨by rfl, ?_⟩)) ?_
  rotate_left
  · intro wq hSw
    go_simp
    (try with_reducible rfl)
  try simp only [List.getElem_toArray, List.getElem_cons_zero, List.getElem_cons_succ, Act.put, List.setIfInBounds_toArray, List.set_cons_zero, List.set_cons_succ]
  refine wpAnyE_take (i := 2) (v := ?_) (hsT3) (fun _ h => h) rfl (by kernel_rfl) (by kernel_rfl) (by kernel_rfl) (by kernel_rfl) (fun _ _ _ h => h) (SteadyB.of_yields (Or.inl ⟨by rfl, ?_⟩)) ?_
  rotate_left
  · intro wq hSw
    go_simp
    (try with_reducible rfl)
  try simp only [List.getElem_toArray, List.getElem_cons_zero, List.getElem_cons_succ, Act.put, List.setIfInBounds_toArray, List.set_cons_zero, List.set_cons_succ]
  refine wpAnyE_take (i := 3) (v := ?_) (hsT3) (fun _ h => h) rfl (by kernel_rfl) (by kernel_rfl) (by kernel_rfl) (by kernel_rfl) (fun _ _ _ h => h) (SteadyB.of_yields (Or.inl ⟨by rfl, ?_⟩)) ?_
  rotate_left
  · intro wq hSw
    obtain ⟨m0, m1, m2, m3, m4⟩ := rm_at hSw.1.1.1.1
    go_simp
    (try with_reducible rfl)
  try simp only [List.getElem_toArray, List.getElem_cons_zero, List.getElem_cons_succ, Act.put, List.setIfInBounds_toArray, List.set_cons_zero, List.set_cons_succ]
  refine wpAnyE_take (i := 4) (v := ?_) (hsT3) (fun _ h => h) rfl (by kernel_rfl) (by kernel_rfl) (by kernel_rfl) (by kernel_rfl) (fun _ _ _ h => h) (SteadyB.of_yields (Or.inl ⟨by rfl, ?_⟩)) ?_
  rotate_left
  · intro wq hSw
    go_simp
    (try with_reducible rfl)
  try simp only [List.getElem_toArray, List.getElem_cons_zero, List.getElem_cons_succ, Act.put, List.setIfInBounds_toArray, List.set_cons_zero, List.set_cons_succ]
  refine wpAnyE_take (i := 5) (v := ?_) (hsT3) (fun _ h => h) rfl (by kernel_rfl) (by kernel_rfl) (by kernel_rfl) (by kernel_rfl) (fun _ _ _ h => h) (SteadyB.of_yields (Or.inl ⟨by rfl, ?_⟩)) ?_
  rotate_left
  · intro wq hSw
    go_simp
    (try with_reducible rfl)
  try simp only [List.getElem_toArray, List.getElem_cons_zero, List.getElem_cons_succ, Act.put, List.setIfInBounds_toArray, List.set_cons_zero, List.set_cons_succ]
  refine wpAnyE_take (i := 6) (v := ?_) (hsT3) (fun _ h => h) rfl (by kernel_rfl) (by kernel_rfl) (by kernel_rfl) (by kernel_rfl) (fun _ _ _ h => h) (SteadyB.of_yields (Or.inl ⟨by rfl, ?_⟩)) ?_
  rotate_left
  · intro wq hSw
    go_simp
    (try with_reducible rfl)
  try simp only [List.getElem_toArray, List.getElem_cons_zero, List.getElem_cons_succ, Act.put, List.setIfInBounds_toArray, List.set_cons_zero, List.set_cons_succ]
  refine wpF.fst (j := 9) (dst := some 11) (T := fun wx g => Var wx g false none 0 0 ∧ gs < g) ?_
  refine wpF_call (k := 1) _ (bqV) (bqR 5 o) rfl rfl rfl (Or.inl (by kernel_rfl)) (by kernel_rfl) (by decide) (by decide) (by decide) (by kernel_rfl) (by intro cs b h; cases h) (by rfl) (fun _ => rfl) (hsT3) (fun _ h => h) (fun g => fun _ _ h hb => ⟨h.1.below hb, h.2⟩) (fun yq => bqR.stays 5 o yq) (fun aq wq hSw => ?_) (fun wq hSw => ?_) (fun yq => ?_)
  · (first | exact ⟨_, by go_simp; (try with_reducible rfl), (Below.refl _ _).alloc (Nat.le_refl _) _, Var.new _ _ _ _ _ _, hSw.2.1.1.lt⟩ | exact ⟨_, by go_simp; (try with_reducible rfl), (Below.refl _ _).alloc (Nat.le_refl _) _, Var.new _ _ _ _ _ _, hSw.1.2.1.1.lt⟩ | exact ⟨_, by go_simp; (try with_reducible rfl), (Below.refl _ _).alloc (Nat.le_refl _) _, Var.new _ _ _ _ _ _, hSw.1.1.2.1.1.lt⟩ | exact ⟨_, by go_simp; (try with_reducible rfl), (Below.refl _ _).alloc (Nat.le_refl _) _, Var.new _ _ _ _ _ _, hSw.1.1.1.2.1.1.lt⟩)
  · exact RunI.big (Ref.N o HO.out.1 HO.out.2 wq) (by go_simp)
  obtain ⟨s4, A4, n4, c4⟩ := yq
  dsimp only [bqV, bqR]
  try simp only [List.getElem_toArray, List.getElem_cons_zero, List.getElem_cons_succ, Act.put, List.setIfInBounds_toArray, List.set_cons_zero, List.set_cons_succ]
  refine wpF_call (k := 7) _ (bqV) (bqR 5 (m.w + v)) rfl rfl rfl (Or.inl (by kernel_rfl)) (by kernel_rfl) (by decide) (by decide) (by decide) (by kernel_rfl) (by intro cs b h; cases h) (by rfl) (fun _ => rfl) (Stays.and_ (hsT3) (bqR.stays 5 o (s4, A4, n4, c4))) (fun _ h => h.1) (fun g => fun _ _ h hb => ⟨h.1.below hb, h.2⟩) (fun yq => bqR.stays 5 (m.w + v) yq) (fun aq wq hSw => ?_) (fun wq hSw => ?_) (fun yq => ?_)
  · (first | exact ⟨_, by go_simp; (try with_reducible rfl), (Below.refl _ _).alloc (Nat.le_refl _) _, Var.new _ _ _ _ _ _, hSw.2.1.1.lt⟩ | exact ⟨_, by go_simp; (try with_reducible rfl), (Below.refl _ _).alloc (Nat.le_refl _) _, Var.new _ _ _ _ _ _, hSw.1.2.1.1.lt⟩ | exact ⟨_, by go_simp; (try with_reducible rfl), (Below.refl _ _).alloc (Nat.le_refl _) _, Var.new _ _ _ _ _ _, hSw.1.1.2.1.1.lt⟩ | exact ⟨_, by go_simp; (try with_reducible rfl), (Below.refl _ _).alloc (Nat.le_refl _) _, Var.new _ _ _ _ _ _, hSw.1.1.1.2.1.1.lt⟩)
  · exact RunI.big (Ref.U (m.w + v) HWV.out.1 HWV.out.2 wq) (by go_simp)
  obtain ⟨s5, A5, n5, c5⟩ := yq
  dsimp only [bqV, bqR]
  try simp only [List.getElem_toArray, List.getElem_cons_zero, List.getElem_cons_succ, Act.put, List.setIfInBounds_toArray, List.set_cons_zero, List.set_cons_succ]
  refine wpF_call (k := 8) _ (bqV) (bqR 11 (o * (m.w + v))) rfl rfl rfl (Or.inl (by kernel_rfl)) (by kernel_rfl) (by decide) (by decide) (by decide) (by kernel_rfl) (by intro cs b h; cases h) (by rfl) (fun _ => rfl) (Stays.and_ (Stays.and_ (hsT3) (bqR.stays 5 o (s4, A4, n4, c4))) (bqR.stays 5 (m.w + v) (s5, A5, n5, c5))) (fun _ h => h.1.1) (fun g => fun _ _ h hb => ⟨h.1.below hb, h.2⟩) (fun yq => bqR.stays 11 (o * (m.w + v)) yq) (fun aq wq hSw => ?_) (fun wq hSw => ?_) (fun yq => ?_)
  · (first | exact ⟨_, by go_simp; (try with_reducible rfl), (Below.refl _ _).alloc (Nat.le_refl _) _, Var.new _ _ _ _ _ _, hSw.2.1.1.lt⟩ | exact ⟨_, by go_simp; (try with_reducible rfl), (Below.refl _ _).alloc (Nat.le_refl _) _, Var.new _ _ _ _ _ _, hSw.1.2.1.1.lt⟩ | exact ⟨_, by go_simp; (try with_reducible rfl), (Below.refl _ _).alloc (Nat.le_refl _) _, Var.new _ _ _ _ _ _, hSw.1.1.2.1.1.lt⟩ | exact ⟨_, by go_simp; (try with_reducible rfl), (Below.refl _ _).alloc (Nat.le_refl _) _, Var.new _ _ _ _ _ _, hSw.1.1.1.2.1.1.lt⟩)
  · exact RunI.big (Ref.mul 5 5 s4 s5 A4 A5 n4 c4 n5 c5 o (m.w + v) wq hSw.1.2 hSw.2 (by decide) (by decide)) (by go_simp)
  obtain ⟨s6, A6, n6, c6⟩ := yq
  dsimp only [bqV, bqR]
  try simp only [List.getElem_toArray, List.getElem_cons_zero, List.getElem_cons_succ, Act.put, List.setIfInBounds_toArray, List.set_cons_zero, List.set_cons_succ]
  refine wpF_done _ rfl rfl (by kernel_rfl) (by decide) (by rfl) (Stays.and_ (Stays.and_ (Stays.and_ (hsT3) (bqR.stays 5 o (s4, A4, n4, c4))) (bqR.stays 5 (m.w + v) (s5, A5, n5, c5))) (bqR.stays 11 (o * (m.w + v)) (s6, A6, n6, c6))) (fun _ h => h.1.1.1) (fun g => fun _ _ h hb => ⟨h.1.below hb, h.2⟩) (fun wq hSw => ?_) (fun gA => ?_)
  · (first | exact ⟨_, by go_simp; (try with_reducible rfl), (Below.refl _ _).alloc (Nat.le_refl _) _, Var.new _ _ _ _ _ _, hSw.2.1.1.lt⟩ | exact ⟨_, by go_simp; (try with_reducible rfl), (Below.refl _ _).alloc (Nat.le_refl _) _, Var.new _ _ _ _ _ _, hSw.1.2.1.1.lt⟩ | exact ⟨_, by go_simp; (try with_reducible rfl), (Below.refl _ _).alloc (Nat.le_refl _) _, Var.new _ _ _ _ _ _, hSw.1.1.2.1.1.lt⟩ | exact ⟨_, by go_simp; (try with_reducible rfl), (Below.refl _ _).alloc (Nat.le_refl _) _, Var.new _ _ _ _ _ _, hSw.1.1.1.2.1.1.lt⟩)
  try simp only [List.getElem_toArray, List.getElem_cons_zero, List.getElem_cons_succ, Act.put, List.setIfInBounds_toArray, List.set_cons_zero, List.set_cons_succ]
  refine wpAnyE_store (i := 10) (fun wx => (fun wx => PL0 w m s1 A1 n1 c1 wx ∧ ((Var wx gs s3 A3 n3 c3 ∧ IsB wx 24 s3 A3 n3 c3 (m.a * v)) ∧ w.heap.size + 1 < gs)) wx ∧ ((Var wx gA s6 A6 n6 c6 ∧ IsB wx 11 s6 A6 n6 c6 (o * (m.w + v))) ∧ gs < gA)) 41 [.bool s6, .slice A6 n6 c6] [.bool false, .slice none 0 0] gA infoBig (.tmp 11) (.tmp 47) rfl rfl (by kernel_rfl) (by decide) (by rfl) ?sv4a ?sv4b ?sv4c ?sv4d ?sv4e (fun _ h => h.2.1.cs) (fun _ h => ⟨⟨h.1.1.1.1.1.sets (by have := h.1.1.1.1.2.2; have := h.2.2; omega) h.2.1.2.2.2.2 _, ⟨Var.fars (by have := h.2.2; omega) _ _ h.1.1.1.1.2.1.1, h.1.1.1.1.2.1.2.sets h.2.1.2.2.2.2 0 _⟩, h.1.1.1.1.2.2⟩, ⟨h.2.1.sets s6 A6 n6 c6, h.1.2.sets h.2.1.2.2.2.2 0 _⟩, h.2.2⟩) (fun _ h => h.1) ((fun _ _ h hb => ⟨⟨h.1.1.below hb, ⟨h.1.2.1.1.below hb, h.1.2.1.2.below hb⟩, h.1.2.2⟩, ⟨h.2.1.1.below hb, h.2.1.2.below hb⟩, h.2.2⟩)) ?sv4f
  case sv4a => rfl
  case sv4b => rfl
  case sv4c => rfl
  case sv4d => rfl
  case sv4e => rfl
  try simp only [List.getElem_toArray, List.getElem_cons_zero, List.getElem_cons_succ, Act.put, List.setIfInBounds_toArray, List.set_cons_zero, List.set_cons_succ]
  refine wpAnyE_done (by kernel_rfl) (fun wz hSz => ?_) _
  have HQ4 := hid hSz
  clear hSz HQ3
  generalize gA = gh at HQ4 ⊢
  obtain ⟨a0, a1, a2, a3, _⟩ := HQ4.out.1.2.1.1
  have al := HQ4.out.1.2.1.1.lt
  obtain ⟨b0, b1, b2, b3, _⟩ := HQ4.out.2.1.1
  have bl := HQ4.out.2.1.1.lt
  go_wp2_with fail
  clear a0 a1 a2 a3 al b0 b1 b2 b3 bl
  refine (Ref.sub 24 s3 s6 A3 A6 n3 c3 n6 c6 (m.a * v) (o * (m.w + v)) _ HQ4.out.1.2.1.2 (HQ4.out.2.1.2.mono (by decide)) (by decide)).mono ?_
  rintro e w7 ⟨s7, A7, n7, c7, rfl, hB, hb⟩
  have ha := (Below.refl w7.heap.size w7).alloc (Nat.le_refl _) (.cells #[.bool s7, .slice A7 n7 c7] 41)
  have HQ5 : Hid (PL0 w m s1 A1 n1 c1 (w7.alloc (.cells #[.bool s7, .slice A7 n7 c7] 41)) ∧ (IsB (w7.alloc (.cells #[.bool s7, .slice A7 n7 c7] 41)) 24 s3 A3 n3 c3 (m.a * v) ∧ IsB (w7.alloc (.cells #[.bool s7, .slice A7 n7 c7] 41)) 11 s6 A6 n6 c6 (o * (m.w + v)) ∧ IsB (w7.alloc (.cells #[.bool s7, .slice A7 n7 c7] 41)) 25 s7 A7 n7 c7 ((m.a * v) - (o * (m.w + v)))) ∧ (Var (w7.alloc (.cells #[.bool s7, .slice A7 n7 c7] 41)) gs s3 A3 n3 c3 ∧ Var (w7.alloc (.cells #[.bool s7, .slice A7 n7 c7] 41)) gh s6 A6 n6 c6 ∧ Var (w7.alloc (.cells #[.bool s7, .slice A7 n7 c7] 41)) w7.heap.size s7 A7 n7 c7)) := hid ⟨(HQ4.out.1.1.below hb).below ha, ⟨(HQ4.out.1.2.1.2.below hb).below ha, (HQ4.out.2.1.2.below hb).below ha, hB.alloc _⟩, (HQ4.out.1.2.1.1.below hb).below ha, (HQ4.out.2.1.1.below hb).below ha, Var.new _ _ _ _ _ _⟩
  clear hB hb ha HQ4
  obtain ⟨a0, a1, a2, a3, _⟩ := HQ5.out.2.2.1
  have al := HQ5.out.2.2.1.lt
  obtain ⟨b0, b1, b2, b3, _⟩ := HQ5.out.2.2.2.1
  have bl := HQ5.out.2.2.2.1.lt
  go_wp2_with fail
  clear a0 a1 a2 a3 al b0 b1 b2 b3 bl
  generalize w7.alloc (.cells #[.bool s7, .slice A7 n7 c7] 41) = W7 at HQ5 ⊢
  generalize w7.heap.size = gd at HQ5 ⊢
  refine (Ref.is 24 (by decide) s3 A3 n3 c3 (m.a * v) _ HQ5.out.2.1.1 false ⟨fun h => absurd h (by decide), fun h => absurd h HX.out⟩).mono ?_
  rintro e w8 ⟨rfl, hb⟩
  replace HQ5 := hid (And.intro (HQ5.out.1.below hb) (And.intro (And.intro (HQ5.out.2.1.1.below hb) (And.intro (HQ5.out.2.1.2.1.below hb) (HQ5.out.2.1.2.2.below hb))) (And.intro (HQ5.out.2.2.1.below hb) (And.intro (HQ5.out.2.2.2.1.below hb) (HQ5.out.2.2.2.2.below hb)))))
  clear hb
  have HCr := hid HQ5.out.1.1.1.2
  go_wp2_with (first | ((with_reducible refine wpList_put_cs 31 [.int .u64 0, .int .u32 0, .int .u32 0] infoP4 rfl (.tmp 8) (.tmp 64) rfl (w.heap.size + 1) _ HCr.out ?pq5_1 ?pq5_2 ?pq5_3 ?pq5_4 ?pq5_5 ?pq5_6); (case pq5_1 => rfl); (case pq5_2 => rfl); (case pq5_3 => rfl); (case pq5_4 => rfl); (case pq5_5 => rfl); (intro W2 hW2); (have HW := hid (HQ5.out.1.put hW2)); (clear hW2)) | fail)
  obtain ⟨z0, z1, z2⟩ := HW.out.1.three
  go_wp2_with fail
  refine bodyPost_ret (v := .tuple #[pv (0, 0, 0), .bool false]) (by simp [results, Tryz.results43, go_sem, z0, z1, z2]) rfl ⟨rfl, HW.out.2⟩
set_option maxRecDepth 100000 in
set_option maxHeartbeats 16000000 in
theorem Ref10.place_no5 (m : Mu) (s1 : Bool) (A1 : Option Addr) (n1 c1 : Nat) (clock v o : Int) (hm : m.In) (v0 : 0 ≤ v) (vb : v ≤ 4294967295) (o0 : -9223372036854775808 ≤ o) (ob : o ≤ 9223372036854775807) (h1 : m.right = true) (h2 : ¬ v < 1) (h3 : ¬ 1048576 < v) (h4 : m.n ≠ 0) (h5 : okW (m.a * v) = true) (h6 : okW ((m.a * v) - (o * (m.w + v))) = false) (w : World) (hB : IsB w 18 s1 A1 n1 c1 m.a) : Calls Tryz.prog 43 #[rmV m (s1, A1, n1, c1), .int .u64 clock, .int .u32 v, .int .i64 o] w (Ans (.tuple #[pv (0, 0, 0), .bool false]) w) := by
  have HM := hid hm
  have HQ0 := hid (PL0.new w m s1 A1 n1 c1 hB)
  have H1 := hid h1
  have c4 : (m.n == 0) = false := by simpa using h4
  have HW := hid (right_w h1 h4)
  have HV : Hid (0 ≤ v ∧ v ≤ 18446744073709551615) := hid (by omega)
  have HVV : Hid (1 ≤ v ∧ v ≤ 1048576) := hid (by omega)
  have HO := hid (And.intro o0 ob)
  have HWV : Hid (0 ≤ m.w + v ∧ m.w + v ≤ 18446744073709551615) := hid (by have := right_w h1 h4; omega)
  have e1 : IntKind.u64.wrap v = v := by rw [IntKind.wrap_u64]; omega
  have e2 : IntKind.u64.wrap (m.w + v) = m.w + v := by have := HWV.out; rw [IntKind.wrap_u64]; omega
  have e3 : IntKind.i64.wrap m.w = m.w := by have := HW.out; rw [IntKind.wrap_i64]; omega
  have H6 : Hid (-170141183460469231731687303715884105728 ≤ (o * (m.w + v)) ∧ (o * (m.w + v)) < 170141183460469231731687303715884105728) := hid (by
    have e3 := mulBd (d := o) (v := m.w + v) (M := 9223372036854775808) (V := 4328521727) (by omega) (by omega) (by have := right_w h1 h4; omega) (by have := right_w h1 h4; omega) (by decide)
    omega)
  have HX : Hid (-170141183460469231731687303715884105728 ≤ (m.a * v) ∧ (m.a * v) < 170141183460469231731687303715884105728) := hid (by have := okW_iff.1 h5; unfold WR at this; omega)
  have HY : Hid (¬ (-170141183460469231731687303715884105728 ≤ ((m.a * v) - (o * (m.w + v))) ∧ ((m.a * v) - (o * (m.w + v))) < 170141183460469231731687303715884105728)) := hid (fun h => by have := okW_no h6; unfold WR at this; omega)
  clear h5 h6
  clear hm hB h1 h4 v0 vb o0 ob
  unfold rmV
  go_enter Tryz.func43, Tryz.ntmps43
  go_wp2_with fail
  generalize ((w.alloc (.cells #[.int .u64 m.b, .bool s1, .slice A1 n1 c1, .int .u64 m.w, .int .i64 m.n] 43)).alloc (.cells #[.int .u64 0, .int .u32 0, .int .u32 0] 31)) = W0 at HQ0 ⊢
  obtain ⟨m0, m1, m2, m3, m4⟩ := rm_at HQ0.out.1.1.1
  go_wp2_with fail
  clear m0 m1 m2 m3 m4
  refine (Ref8.right m s1 A1 n1 c1 _ HQ0.out.1.2).mono ?_
  rw [H1.out]
  rintro e w1 ⟨rfl, hb⟩
  replace HQ0 := hid (HQ0.out.below hb)
  clear hb
  obtain ⟨m0, m1, m2, m3, m4⟩ := rm_at HQ0.out.1.1.1
  go_wp2_with fail
  clear m0 m1 m2 m3 m4 c4
  have hsT1 : Stays (fun wx => PL0 w m s1 A1 n1 c1 wx) := fun _ _ h hb => h.below hb
  refine wp_region_grow (S := fun wx => PL0 w m s1 A1 n1 c1 wx) 8 (by kernel_rfl) (hsT1 _ _ (HQ0.out) (Below.refl _ _).drew) ?_
  refine wpAnyE_take (i := 0) (v := ?_) (hsT1) (fun _ h => h) rfl (by kernel_rfl) (by kernel_rfl) (by kernel_rfl) (by kernel_rfl) (fun _ _ _ h => h) (SteadyB.of_yields (Or.inl ⟨by rfl, ?_⟩)) ?_
  rotate_left
  · intro wq hSw
    go_simp
    (try with_reducible rfl)
  try simp only [List.getElem_toArray, List.getElem_cons_zero, List.getElem_cons_succ, Act.put, List.setIfInBounds_toArray, List.set_cons_zero, List.set_cons_succ]
  refine wpAnyE_take (i := 1) (v := ?_) (hsT1) (fun _ h => h) rfl (by kernel_rfl) (by kernel_rfl) (by kernel_rfl) (by kernel_rfl) (fun _ _ _ h => h) (SteadyB.of_yields (Or.inl ⟨by rfl, ?_⟩)) ?_
  rotate_left
  · intro wq hSw
    obtain ⟨m0, m1, m2, m3, m4⟩ := rm_at hSw.1.1.1
    go_simp
    (try with_reducible rfl)
  try simp only [List.getElem_toArray, List.getElem_cons_zero, List.getElem_cons_succ, Act.put, List.setIfInBounds_toArray, List.set_cons_zero, List.set_cons_succ]
  refine wpAnyE_take (i := 2) (v := ?_) (hsT1) (fun _ h => h) rfl (by kernel_rfl) (by kernel_rfl) (by kernel_rfl) (by kernel_rfl) (fun _ _ _ h => h) (SteadyB.of_yields (Or.inl ⟨by rfl, ?_⟩)) ?_
  rotate_left
  · intro wq hSw
    go_simp
    (try with_reducible rfl)
  try simp only [List.getElem_toArray, List.getElem_cons_zero, List.getElem_cons_succ, Act.put, List.setIfInBounds_toArray, List.set_cons_zero, List.set_cons_succ]
  refine wpAnyE_take (i := 3) (v := ?_) (hsT1) (fun _ h => h) rfl (by kernel_rfl) (by kernel_rfl) (by kernel_rfl) (by kernel_rfl) (fun _ _ _ h => h) (SteadyB.of_yields (Or.inl ⟨by rfl, ?_⟩)) ?_
  rotate_left
  · intro wq hSw
    go_simp
    (try with_reducible rfl)
  try simp only [List.getElem_toArray, List.getElem_cons_zero, List.getElem_cons_succ, Act.put, List.setIfInBounds_toArray, List.set_cons_zero, List.set_cons_succ]
  refine wpF.fst (j := 6) (dst := some 10) (T := fun wx g => Var wx g false none 0 0 ∧ w.heap.size + 1 < g) ?_
  refine wpF_call (k := 4) _ (bqV) (bqR 5 v) rfl rfl rfl (Or.inl (by kernel_rfl)) (by kernel_rfl) (by decide) (by decide) (by decide) (by kernel_rfl) (by intro cs b h; cases h) (by rfl) (fun _ => rfl) (hsT1) (fun _ h => h) (fun g => fun _ _ h hb => ⟨h.1.below hb, h.2⟩) (fun yq => bqR.stays 5 v yq) (fun aq wq hSw => ?_) (fun wq hSw => ?_) (fun yq => ?_)
  · (first | exact ⟨_, by go_simp; (try with_reducible rfl), (Below.refl _ _).alloc (Nat.le_refl _) _, Var.new _ _ _ _ _ _, hSw.1.1.2.lt⟩ | exact ⟨_, by go_simp; (try with_reducible rfl), (Below.refl _ _).alloc (Nat.le_refl _) _, Var.new _ _ _ _ _ _, hSw.1.1.1.2.lt⟩ | exact ⟨_, by go_simp; (try with_reducible rfl), (Below.refl _ _).alloc (Nat.le_refl _) _, Var.new _ _ _ _ _ _, hSw.1.1.1.1.2.lt⟩)
  · exact RunI.big (Ref.U v HV.out.1 HV.out.2 wq) (by go_simp)
  obtain ⟨s2, A2, n2, c2⟩ := yq
  dsimp only [bqV, bqR]
  try simp only [List.getElem_toArray, List.getElem_cons_zero, List.getElem_cons_succ, Act.put, List.setIfInBounds_toArray, List.set_cons_zero, List.set_cons_succ]
  refine wpF_call (k := 5) _ (bqV) (bqR 24 (m.a * v)) rfl rfl rfl (Or.inl (by kernel_rfl)) (by kernel_rfl) (by decide) (by decide) (by decide) (by kernel_rfl) (by intro cs b h; cases h) (by rfl) (fun _ => rfl) (Stays.and_ (hsT1) (bqR.stays 5 v (s2, A2, n2, c2))) (fun _ h => h.1) (fun g => fun _ _ h hb => ⟨h.1.below hb, h.2⟩) (fun yq => bqR.stays 24 (m.a * v) yq) (fun aq wq hSw => ?_) (fun wq hSw => ?_) (fun yq => ?_)
  · (first | exact ⟨_, by go_simp; (try with_reducible rfl), (Below.refl _ _).alloc (Nat.le_refl _) _, Var.new _ _ _ _ _ _, hSw.1.1.2.lt⟩ | exact ⟨_, by go_simp; (try with_reducible rfl), (Below.refl _ _).alloc (Nat.le_refl _) _, Var.new _ _ _ _ _ _, hSw.1.1.1.2.lt⟩ | exact ⟨_, by go_simp; (try with_reducible rfl), (Below.refl _ _).alloc (Nat.le_refl _) _, Var.new _ _ _ _ _ _, hSw.1.1.1.1.2.lt⟩)
  · exact RunI.big (Ref.mul 18 5 s1 s2 A1 A2 n1 c1 n2 c2 m.a v wq hSw.1.1.2 hSw.2 (by decide) (by decide)) (by go_simp)
  obtain ⟨s3, A3, n3, c3⟩ := yq
  dsimp only [bqV, bqR]
  try simp only [List.getElem_toArray, List.getElem_cons_zero, List.getElem_cons_succ, Act.put, List.setIfInBounds_toArray, List.set_cons_zero, List.set_cons_succ]
  refine wpF_done _ rfl rfl (by kernel_rfl) (by decide) (by rfl) (Stays.and_ (Stays.and_ (hsT1) (bqR.stays 5 v (s2, A2, n2, c2))) (bqR.stays 24 (m.a * v) (s3, A3, n3, c3))) (fun _ h => h.1.1) (fun g => fun _ _ h hb => ⟨h.1.below hb, h.2⟩) (fun wq hSw => ?_) (fun gA => ?_)
  · (first | exact ⟨_, by go_simp; (try with_reducible rfl), (Below.refl _ _).alloc (Nat.le_refl _) _, Var.new _ _ _ _ _ _, hSw.1.1.2.lt⟩ | exact ⟨_, by go_simp; (try with_reducible rfl), (Below.refl _ _).alloc (Nat.le_refl _) _, Var.new _ _ _ _ _ _, hSw.1.1.1.2.lt⟩ | exact ⟨_, by go_simp; (try with_reducible rfl), (Below.refl _ _).alloc (Nat.le_refl _) _, Var.new _ _ _ _ _ _, hSw.1.1.1.1.2.lt⟩)
  try simp only [List.getElem_toArray, List.getElem_cons_zero, List.getElem_cons_succ, Act.put, List.setIfInBounds_toArray, List.set_cons_zero, List.set_cons_succ]
  refine wpAnyE_store (i := 7) (fun wx => (fun wx => PL0 w m s1 A1 n1 c1 wx) wx ∧ ((Var wx gA s3 A3 n3 c3 ∧ IsB wx 24 s3 A3 n3 c3 (m.a * v)) ∧ w.heap.size + 1 < gA)) 41 [.bool s3, .slice A3 n3 c3] [.bool false, .slice none 0 0] gA infoBig (.tmp 10) (.tmp 38) rfl rfl (by kernel_rfl) (by decide) (by rfl) ?sv2a ?sv2b ?sv2c ?sv2d ?sv2e (fun _ h => h.2.1.cs) (fun _ h => ⟨h.1.1.1.sets h.2.2 h.2.1.2.2.2.2 _, ⟨h.2.1.sets s3 A3 n3 c3, h.1.2.sets h.2.1.2.2.2.2 0 _⟩, h.2.2⟩) (fun _ h => h.1) ((fun _ _ h hb => ⟨h.1.below hb, ⟨h.2.1.1.below hb, h.2.1.2.below hb⟩, h.2.2⟩)) ?sv2f
  case sv2a => rfl
  case sv2b => rfl
  case sv2c => rfl
  case sv2d => rfl
  case sv2e => rfl
  try simp only [List.getElem_toArray, List.getElem_cons_zero, List.getElem_cons_succ, Act.put, List.setIfInBounds_toArray, List.set_cons_zero, List.set_cons_succ]
  refine wpAnyE_done (by kernel_rfl) (fun wz hSz => ?_) _
  have HQ3 := hid hSz
  clear hSz HQ0
  generalize gA = gs at HQ3 ⊢
  go_wp2_with fail
  have hsT3 : Stays (fun wx => PL0 w m s1 A1 n1 c1 wx ∧ ((Var wx gs s3 A3 n3 c3 ∧ IsB wx 24 s3 A3 n3 c3 (m.a * v)) ∧ w.heap.size + 1 < gs)) := fun _ _ h hb => ⟨h.1.below hb, ⟨h.2.1.1.below hb, h.2.1.2.below hb⟩, h.2.2⟩
  refine wp_region_grow (S := fun wx => PL0 w m s1 A1 n1 c1 wx ∧ ((Var wx gs s3 A3 n3 c3 ∧ IsB wx 24 s3 A3 n3 c3 (m.a * v)) ∧ w.heap.size + 1 < gs)) 11 (by kernel_rfl) (hsT3 _ _ (HQ3.out) (Below.refl _ _).drew) ?_
  refine wpAnyE_take (i := 0) (v := ?_) (hsT3) (fun _ h => h) rfl (by kernel_rfl) (by kernel_rfl) (by kernel_rfl) (by kernel_rfl) (fun _ _ _ h => h) (SteadyB.of_yields (Or.inl ⟨by rfl, ?_⟩)) ?_
  rotate_left
  · intro wq hSw
    go_simp
    (try with_reducible rfl)
  try simp only [List.getElem_toArray, List.getElem_cons_zero, List.getElem_cons_succ, Act.put, List.setIfInBounds_toArray, List.set_cons_zero, List.set_cons_succ]
  refine wpAnyE_take (i := 2) (v := ?_) (hsT3) (fun _ h => h) rfl (by kernel_rfl) (by kernel_rfl) (by kernel_rfl) (by kernel_rfl) (fun _ _ _ h => h) (SteadyB.of_yields (Or.inl ⟨by rfl, ?_⟩)) ?_
  rotate_left
  · intro wq hSw
    go_simp
    (try with_reducible rfl)
  try simp only [List.getElem_toArray, List.getElem_cons_zero, List.getElem_cons_succ, Act.put, List.setIfInBounds_toArray, List.set_cons_zero, List.set_cons_succ]
  refine wpAnyE_take (i := 3) (v := ?_) (hsT3) (fun _ h => h) rfl (by kernel_rfl) (by kernel_rfl) (by kernel_rfl) (by kernel_rfl) (fun _ _ _ h => h) (SteadyB.of_yields (Or.inl ⟨by rfl, ?_⟩)) ?_
  rotate_left
  · intro wq hSw
    obtain ⟨m0, m1, m2, m3, m4⟩ := rm_at hSw.1.1.1.1
    go_simp
    (try with_reducible rfl)
  try simp only [List.getElem_toArray, List.getElem_cons_zero, List.getElem_cons_succ, Act.put, List.setIfInBounds_toArray, List.set_cons_zero, List.set_cons_succ]
  refine wpAnyE_take (i := 4) (v := ?_) (hsT3) (fun _ h => h) rfl (by kernel_rfl) (by kernel_rfl) (by kernel_rfl) (by kernel_rfl) (fun _ _ _ h => h) (SteadyB.of_yields (Or.inl ⟨by rfl, ?_⟩)) ?_
  rotate_left
  · intro wq hSw
    go_simp
    (try with_reducible rfl)
  try simp only [List.getElem_toArray, List.getElem_cons_zero, List.getElem_cons_succ, Act.put, List.setIfInBounds_toArray, List.set_cons_zero, List.set_cons_succ]
  refine wpAnyE_take (i := 5) (v := ?_) (hsT3) (fun _ h => h) rfl (by kernel_rfl) (by kernel_rfl) (by kernel_rfl) (by kernel_rfl) (fun _ _ _ h => h) (SteadyB.of_yields (Or.inl ⟨by rfl, ?_⟩)) ?_
  rotate_left
  · intro wq hSw
    go_simp
    (try with_reducible rfl)
  try simp only [List.getElem_toArray, List.getElem_cons_zero, List.getElem_cons_succ, Act.put, List.setIfInBounds_toArray, List.set_cons_zero, List.set_cons_succ]
  refine wpAnyE_take (i := 6) (v := ?_) (hsT3) (fun _ h => h) rfl (by kernel_rfl) (by kernel_rfl) (by kernel_rfl) (by kernel_rfl) (fun _ _ _ h => h) (SteadyB.of_yields (Or.inl ⟨by rfl, ?_⟩)) ?_
  rotate_left
  · intro wq hSw
    go_simp
    (try with_reducible rfl)
  try simp only [List.getElem_toArray, List.getElem_cons_zero, List.getElem_cons_succ, Act.put, List.setIfInBounds_toArray, List.set_cons_zero, List.set_cons_succ]
  refine wpF.fst (j := 9) (dst := some 11) (T := fun wx g => Var wx g false none 0 0 ∧ gs < g) ?_
  refine wpF_call (k := 1) _ (bqV) (bqR 5 o) rfl rfl rfl (Or.inl (by kernel_rfl)) (by kernel_rfl) (by decide) (by decide) (by decide) (by kernel_rfl) (by intro cs b h; cases h) (by rfl) (fun _ => rfl) (hsT3) (fun _ h => h) (fun g => fun _ _ h hb => ⟨h.1.below hb, h.2⟩) (fun yq => bqR.stays 5 o yq) (fun aq wq hSw => ?_) (fun wq hSw => ?_) (fun yq => ?_)
  · (first | exact ⟨_, by go_simp; (try with_reducible rfl), (Below.refl _ _).alloc (Nat.le_refl _) _, Var.new _ _ _ _ _ _, hSw.2.1.1.lt⟩ | exact ⟨_, by go_simp; (try with_reducible rfl), (Below.refl _ _).alloc (Nat.le_refl _) _, Var.new _ _ _ _ _ _, hSw.1.2.1.1.lt⟩ | exact ⟨_, by go_simp; (try with_reducible rfl), (Below.refl _ _).alloc (Nat.le_refl _) _, Var.new _ _ _ _ _ _, hSw.1.1.2.1.1.lt⟩ | exact ⟨_, by go_simp; (try with_reducible rfl), (Below.refl _ _).alloc (Nat.le_refl _) _, Var.new _ _ _ _ _ _, hSw.1.1.1.2.1.1.lt⟩)
  · exact RunI.big (Ref.N o HO.out.1 HO.out.2 wq) (by go_simp)
  obtain ⟨s4, A4, n4, c4⟩ := yq
  dsimp only [bqV, bqR]
  try simp only [List.getElem_toArray, List.getElem_cons_zero, List.getElem_cons_succ, Act.put, List.setIfInBounds_toArray, List.set_cons_zero, List.set_cons_succ]
  refine wpF_call (k := 7) _ (bqV) (bqR 5 (m.w + v)) rfl rfl rfl (Or.inl (by kernel_rfl)) (by kernel_rfl) (by decide) (by decide) (by decide) (by kernel_rfl) (by intro cs b h; cases h) (by rfl) (fun _ => rfl) (Stays.and_ (hsT3) (bqR.stays 5 o (s4, A4, n4, c4))) (fun _ h => h.1) (fun g => fun _ _ h hb => ⟨h.1.below hb, h.2⟩) (fun yq => bqR.stays 5 (m.w + v) yq) (fun aq wq hSw => ?_) (fun wq hSw => ?_) (fun yq => ?_)
  · (first | exact ⟨_, by go_simp; (try with_reducible rfl), (Below.refl _ _).alloc (Nat.le_refl _) _, Var.new _ _ _ _ _ _, hSw.2.1.1.lt⟩ | exact ⟨_, by go_simp; (try with_reducible rfl), (Below.refl _ _).alloc (Nat.le_refl _) _, Var.new _ _ _ _ _ _, hSw.1.2.1.1.lt⟩ | exact ⟨_, by go_simp; (try with_reducible rfl), (Below.refl _ _).alloc (Nat.le_refl _) _, Var.new _ _ _ _ _ _, hSw.1.1.2.1.1.lt⟩ | exact ⟨_, by go_simp; (try with_reducible rfl), (Below.refl _ _).alloc (Nat.le_refl _) _, Var.new _ _ _ _ _ _, hSw.1.1.1.2.1.1.lt⟩)
  · exact RunI.big (Ref.U (m.w + v) HWV.out.1 HWV.out.2 wq) (by go_simp)
  obtain ⟨s5, A5, n5, c5⟩ := yq
  dsimp only [bqV, bqR]
  try simp only [List.getElem_toArray, List.getElem_cons_zero, List.getElem_cons_succ, Act.put, List.setIfInBounds_toArray, List.set_cons_zero, List.set_cons_succ]
  refine wpF_call (k := 8) _ (bqV) (bqR 11 (o * (m.w + v))) rfl rfl rfl (Or.inl (by kernel_rfl)) (by kernel_rfl) (by decide) (by decide) (by decide) (by kernel_rfl) (by intro cs b h; cases h) (by rfl) (fun _ => rfl) (Stays.and_ (Stays.and_ (hsT3) (bqR.stays 5 o (s4, A4, n4, c4))) (bqR.stays 5 (m.w + v) (s5, A5, n5, c5))) (fun _ h => h.1.1) (fun g => fun _ _ h hb => ⟨h.1.below hb, h.2⟩) (fun yq => bqR.stays 11 (o * (m.w + v)) yq) (fun aq wq hSw => ?_) (fun wq hSw => ?_) (fun yq => ?_)
  · (first | exact ⟨_, by go_simp; (try with_reducible rfl), (Below.refl _ _).alloc (Nat.le_refl _) _, Var.new _ _ _ _ _ _, hSw.2.1.1.lt⟩ | exact ⟨_, by go_simp; (try with_reducible rfl), (Below.refl _ _).alloc (Nat.le_refl _) _, Var.new _ _ _ _ _ _, hSw.1.2.1.1.lt⟩ | exact ⟨_, by go_simp; (try with_reducible rfl), (Below.refl _ _).alloc (Nat.le_refl _) _, Var.new _ _ _ _ _ _, hSw.1.1.2.1.1.lt⟩ | exact ⟨_, by go_simp; (try with_reducible rfl), (Below.refl _ _).alloc (Nat.le_refl _) _, Var.new _ _ _ _ _ _, hSw.1.1.1.2.1.1.lt⟩)
  · exact RunI.big (Ref.mul 5 5 s4 s5 A4 A5 n4 c4 n5 c5 o (m.w + v) wq hSw.1.2 hSw.2 (by decide) (by decide)) (by go_simp)
  obtain ⟨s6, A6, n6, c6⟩ := yq
  dsimp only [bqV, bqR]
  try simp only [List.getElem_toArray, List.getElem_cons_zero, List.getElem_cons_succ, Act.put, List.setIfInBounds_toArray, List.set_cons_zero, List.set_cons_succ]
  refine wpF_done _ rfl rfl (by kernel_rfl) (by decide) (by rfl) (Stays.and_ (Stays.and_ (Stays.and_ (hsT3) (bqR.stays 5 o (s4, A4, n4, c4))) (bqR.stays 5 (m.w + v) (s5, A5, n5, c5))) (bqR.stays 11 (o * (m.w + v)) (s6, A6, n6, c6))) (fun _ h => h.1.1.1) (fun g => fun _ _ h hb => ⟨h.1.below hb, h.2⟩) (fun wq hSw => ?_) (fun gA => ?_)
  · (first | exact ⟨_, by go_simp; (try with_reducible rfl), (Below.refl _ _).alloc (Nat.le_refl _) _, Var.new _ _ _ _ _ _, hSw.2.1.1.lt⟩ | exact ⟨_, by go_simp; (try with_reducible rfl), (Below.refl _ _).alloc (Nat.le_refl _) _, Var.new _ _ _ _ _ _, hSw.1.2.1.1.lt⟩ | exact ⟨_, by go_simp; (try with_reducible rfl), (Below.refl _ _).alloc (Nat.le_refl _) _, Var.new _ _ _ _ _ _, hSw.1.1.2.1.1.lt⟩ | exact ⟨_, by go_simp; (try with_reducible rfl), (Below.refl _ _).alloc (Nat.le_refl _) _, Var.new _ _ _ _ _ _, hSw.1.1.1.2.1.1.lt⟩)
  try simp only [List.getElem_toArray, List.getElem_cons_zero, List.getElem_cons_succ, Act.put, List.setIfInBounds_toArray, List.set_cons_zero, List.set_cons_succ]
  refine wpAnyE_store (i := 10) (fun wx => (fun wx => PL0 w m s1 A1 n1 c1 wx ∧ ((Var wx gs s3 A3 n3 c3 ∧ IsB wx 24 s3 A3 n3 c3 (m.a * v)) ∧ w.heap.size + 1 < gs)) wx ∧ ((Var wx gA s6 A6 n6 c6 ∧ IsB wx 11 s6 A6 n6 c6 (o * (m.w + v))) ∧ gs < gA)) 41 [.bool s6, .slice A6 n6 c6] [.bool false, .slice none 0 0] gA infoBig (.tmp 11) (.tmp 47) rfl rfl (by kernel_rfl) (by decide) (by rfl) ?sv4a ?sv4b ?sv4c ?sv4d ?sv4e (fun _ h => h.2.1.cs) (fun _ h => ⟨⟨h.1.1.1.1.1.sets (by have := h.1.1.1.1.2.2; have := h.2.2; omega) h.2.1.2.2.2.2 _, ⟨Var.fars (by have := h.2.2; omega) _ _ h.1.1.1.1.2.1.1, h.1.1.1.1.2.1.2.sets h.2.1.2.2.2.2 0 _⟩, h.1.1.1.1.2.2⟩, ⟨h.2.1.sets s6 A6 n6 c6, h.1.2.sets h.2.1.2.2.2.2 0 _⟩, h.2.2⟩) (fun _ h => h.1) ((fun _ _ h hb => ⟨⟨h.1.1.below hb, ⟨h.1.2.1.1.below hb, h.1.2.1.2.below hb⟩, h.1.2.2⟩, ⟨h.2.1.1.below hb, h.2.1.2.below hb⟩, h.2.2⟩)) ?sv4f
  case sv4a => rfl
  case sv4b => rfl
  case sv4c => rfl
  case sv4d => rfl
  case sv4e => rfl
  try simp only [List.getElem_toArray, List.getElem_cons_zero, List.getElem_cons_succ, Act.put, List.setIfInBounds_toArray, List.set_cons_zero, List.set_cons_succ]
  refine wpAnyE_done (by kernel_rfl) (fun wz hSz => ?_) _
  have HQ4 := hid hSz
  clear hSz HQ3
  generalize gA = gh at HQ4 ⊢
  obtain ⟨a0, a1, a2, a3, _⟩ := HQ4.out.1.2.1.1
  have al := HQ4.out.1.2.1.1.lt
  obtain ⟨b0, b1, b2, b3, _⟩ := HQ4.out.2.1.1
  have bl := HQ4.out.2.1.1.lt
  go_wp2_with fail
  clear a0 a1 a2 a3 al b0 b1 b2 b3 bl
  refine (Ref.sub 24 s3 s6 A3 A6 n3 c3 n6 c6 (m.a * v) (o * (m.w + v)) _ HQ4.out.1.2.1.2 (HQ4.out.2.1.2.mono (by decide)) (by decide)).mono ?_
  rintro e w7 ⟨s7, A7, n7, c7, rfl, hB, hb⟩
  have ha := (Below.refl w7.heap.size w7).alloc (Nat.le_refl _) (.cells #[.bool s7, .slice A7 n7 c7] 41)
  have HQ5 : Hid (PL0 w m s1 A1 n1 c1 (w7.alloc (.cells #[.bool s7, .slice A7 n7 c7] 41)) ∧ (IsB (w7.alloc (.cells #[.bool s7, .slice A7 n7 c7] 41)) 24 s3 A3 n3 c3 (m.a * v) ∧ IsB (w7.alloc (.cells #[.bool s7, .slice A7 n7 c7] 41)) 11 s6 A6 n6 c6 (o * (m.w + v)) ∧ IsB (w7.alloc (.cells #[.bool s7, .slice A7 n7 c7] 41)) 25 s7 A7 n7 c7 ((m.a * v) - (o * (m.w + v)))) ∧ (Var (w7.alloc (.cells #[.bool s7, .slice A7 n7 c7] 41)) gs s3 A3 n3 c3 ∧ Var (w7.alloc (.cells #[.bool s7, .slice A7 n7 c7] 41)) gh s6 A6 n6 c6 ∧ Var (w7.alloc (.cells #[.bool s7, .slice A7 n7 c7] 41)) w7.heap.size s7 A7 n7 c7)) := hid ⟨(HQ4.out.1.1.below hb).below ha, ⟨(HQ4.out.1.2.1.2.below hb).below ha, (HQ4.out.2.1.2.below hb).below ha, hB.alloc _⟩, (HQ4.out.1.2.1.1.below hb).below ha, (HQ4.out.2.1.1.below hb).below ha, Var.new _ _ _ _ _ _⟩
  clear hB hb ha HQ4
  obtain ⟨a0, a1, a2, a3, _⟩ := HQ5.out.2.2.1
  have al := HQ5.out.2.2.1.lt
  obtain ⟨b0, b1, b2, b3, _⟩ := HQ5.out.2.2.2.1
  have bl := HQ5.out.2.2.2.1.lt
  go_wp2_with fail
  clear a0 a1 a2 a3 al b0 b1 b2 b3 bl
  generalize w7.alloc (.cells #[.bool s7, .slice A7 n7 c7] 41) = W7 at HQ5 ⊢
  generalize w7.heap.size = gd at HQ5 ⊢
  refine (Ref.is 24 (by decide) s3 A3 n3 c3 (m.a * v) _ HQ5.out.2.1.1 true ⟨fun _ => HX.out, fun _ => rfl⟩).mono ?_
  rintro e w8 ⟨rfl, hb⟩
  replace HQ5 := hid (And.intro (HQ5.out.1.below hb) (And.intro (And.intro (HQ5.out.2.1.1.below hb) (And.intro (HQ5.out.2.1.2.1.below hb) (HQ5.out.2.1.2.2.below hb))) (And.intro (HQ5.out.2.2.1.below hb) (And.intro (HQ5.out.2.2.2.1.below hb) (HQ5.out.2.2.2.2.below hb)))))
  clear hb
  obtain ⟨a0, a1, a2, a3, _⟩ := HQ5.out.2.2.1
  have al := HQ5.out.2.2.1.lt
  obtain ⟨b0, b1, b2, b3, _⟩ := HQ5.out.2.2.2.1
  have bl := HQ5.out.2.2.2.1.lt
  go_wp2_with fail
  clear a0 a1 a2 a3 al b0 b1 b2 b3 bl
  refine (Ref.is 11 (by decide) s6 A6 n6 c6 (o * (m.w + v)) _ HQ5.out.2.1.2.1 true ⟨fun _ => H6.out, fun _ => rfl⟩).mono ?_
  rintro e w9 ⟨rfl, hb⟩
  replace HQ5 := hid (And.intro (HQ5.out.1.below hb) (And.intro (And.intro (HQ5.out.2.1.1.below hb) (And.intro (HQ5.out.2.1.2.1.below hb) (HQ5.out.2.1.2.2.below hb))) (And.intro (HQ5.out.2.2.1.below hb) (And.intro (HQ5.out.2.2.2.1.below hb) (HQ5.out.2.2.2.2.below hb)))))
  clear hb
  obtain ⟨d0, d1, d2, d3, _⟩ := HQ5.out.2.2.2.2
  have dl := HQ5.out.2.2.2.2.lt
  go_wp2_with fail
  clear d0 d1 d2 d3 dl
  refine (Ref.is 25 (by decide) s7 A7 n7 c7 ((m.a * v) - (o * (m.w + v))) _ HQ5.out.2.1.2.2 false ⟨fun h => absurd h (by decide), fun h => absurd h HY.out⟩).mono ?_
  rintro e w10 ⟨rfl, hb⟩
  replace HQ5 := hid (And.intro (HQ5.out.1.below hb) (And.intro (And.intro (HQ5.out.2.1.1.below hb) (And.intro (HQ5.out.2.1.2.1.below hb) (HQ5.out.2.1.2.2.below hb))) (And.intro (HQ5.out.2.2.1.below hb) (And.intro (HQ5.out.2.2.2.1.below hb) (HQ5.out.2.2.2.2.below hb)))))
  clear hb
  have HCr := hid HQ5.out.1.1.1.2
  go_wp2_with (first | ((with_reducible refine wpList_put_cs 31 [.int .u64 0, .int .u32 0, .int .u32 0] infoP4 rfl (.tmp 8) (.tmp 64) rfl (w.heap.size + 1) _ HCr.out ?pq6_1 ?pq6_2 ?pq6_3 ?pq6_4 ?pq6_5 ?pq6_6); (case pq6_1 => rfl); (case pq6_2 => rfl); (case pq6_3 => rfl); (case pq6_4 => rfl); (case pq6_5 => rfl); (intro W2 hW2); (have HW := hid (HQ5.out.1.put hW2)); (clear hW2)) | fail)
  obtain ⟨z0, z1, z2⟩ := HW.out.1.three
  go_wp2_with fail
  refine bodyPost_ret (v := .tuple #[pv (0, 0, 0), .bool false]) (by simp [results, Tryz.results43, go_sem, z0, z1, z2]) rfl ⟨rfl, HW.out.2⟩
set_option maxRecDepth 100000 in
set_option maxHeartbeats 16000000 in
theorem Ref10.place_yes (m : Mu) (s1 : Bool) (A1 : Option Addr) (n1 c1 : Nat) (clock v o : Int) (hm : m.In) (v0 : 0 ≤ v) (vb : v ≤ 4294967295) (o0 : -9223372036854775808 ≤ o) (ob : o ≤ 9223372036854775807) (h1 : m.right = true) (h2 : ¬ v < 1) (h3 : ¬ 1048576 < v) (h4 : m.n ≠ 0) (h5 : okW (m.a * v) = true) (h6 : okW ((m.a * v) - (o * (m.w + v))) = true) (w : World) (hB : IsB w 18 s1 A1 n1 c1 m.a) : Calls Tryz.prog 43 #[rmV m (s1, A1, n1, c1), .int .u64 clock, .int .u32 v, .int .i64 o] w (Ans (.tuple #[pv (atP m.b (m.plD v o) v), .bool (atOk (m.plD v o) v)]) w) := by
  have HM := hid hm
  have HQ0 := hid (PL0.new w m s1 A1 n1 c1 hB)
  have H1 := hid h1
  have c4 : (m.n == 0) = false := by simpa using h4
  have HW := hid (right_w h1 h4)
  have HV : Hid (0 ≤ v ∧ v ≤ 18446744073709551615) := hid (by omega)
  have HVV : Hid (1 ≤ v ∧ v ≤ 1048576) := hid (by omega)
  have HO := hid (And.intro o0 ob)
  have HWV : Hid (0 ≤ m.w + v ∧ m.w + v ≤ 18446744073709551615) := hid (by have := right_w h1 h4; omega)
  have e1 : IntKind.u64.wrap v = v := by rw [IntKind.wrap_u64]; omega
  have e2 : IntKind.u64.wrap (m.w + v) = m.w + v := by have := HWV.out; rw [IntKind.wrap_u64]; omega
  have e3 : IntKind.i64.wrap m.w = m.w := by have := HW.out; rw [IntKind.wrap_i64]; omega
  have H6 : Hid (-170141183460469231731687303715884105728 ≤ (o * (m.w + v)) ∧ (o * (m.w + v)) < 170141183460469231731687303715884105728) := hid (by
    have e3 := mulBd (d := o) (v := m.w + v) (M := 9223372036854775808) (V := 4328521727) (by omega) (by omega) (by have := right_w h1 h4; omega) (by have := right_w h1 h4; omega) (by decide)
    omega)
  have HX : Hid (-170141183460469231731687303715884105728 ≤ (m.a * v) ∧ (m.a * v) < 170141183460469231731687303715884105728) := hid (by have := okW_iff.1 h5; unfold WR at this; omega)
  have HY : Hid (-170141183460469231731687303715884105728 ≤ ((m.a * v) - (o * (m.w + v))) ∧ ((m.a * v) - (o * (m.w + v))) < 170141183460469231731687303715884105728) := hid (by have := okW_iff.1 h6; unfold WR at this; omega)
  have HDW : Hid (WR (m.plD v o)) := hid (div_wr (okW_iff.1 h6) (by have := right_w h1 h4; omega))
  clear h5 h6
  clear hm hB h1 h4 v0 vb o0 ob
  unfold rmV
  go_enter Tryz.func43, Tryz.ntmps43
  go_wp2_with fail
  generalize ((w.alloc (.cells #[.int .u64 m.b, .bool s1, .slice A1 n1 c1, .int .u64 m.w, .int .i64 m.n] 43)).alloc (.cells #[.int .u64 0, .int .u32 0, .int .u32 0] 31)) = W0 at HQ0 ⊢
  obtain ⟨m0, m1, m2, m3, m4⟩ := rm_at HQ0.out.1.1.1
  go_wp2_with fail
  clear m0 m1 m2 m3 m4
  refine (Ref8.right m s1 A1 n1 c1 _ HQ0.out.1.2).mono ?_
  rw [H1.out]
  rintro e w1 ⟨rfl, hb⟩
  replace HQ0 := hid (HQ0.out.below hb)
  clear hb
  obtain ⟨m0, m1, m2, m3, m4⟩ := rm_at HQ0.out.1.1.1
  go_wp2_with fail
  clear m0 m1 m2 m3 m4 c4
  have hsT1 : Stays (fun wx => PL0 w m s1 A1 n1 c1 wx) := fun _ _ h hb => h.below hb
  refine wp_region_grow (S := fun wx => PL0 w m s1 A1 n1 c1 wx) 8 (by kernel_rfl) (hsT1 _ _ (HQ0.out) (Below.refl _ _).drew) ?_
  refine wpAnyE_take (i := 0) (v := ?_) (hsT1) (fun _ h => h) rfl (by kernel_rfl) (by kernel_rfl) (by kernel_rfl) (by kernel_rfl) (fun _ _ _ h => h) (SteadyB.of_yields (Or.inl ⟨by rfl, ?_⟩)) ?_
  rotate_left
  · intro wq hSw
    go_simp
    (try with_reducible rfl)
  try simp only [List.getElem_toArray, List.getElem_cons_zero, List.getElem_cons_succ, Act.put, List.setIfInBounds_toArray, List.set_cons_zero, List.set_cons_succ]
  refine wpAnyE_take (i := 1) (v := ?_) (hsT1) (fun _ h => h) rfl (by kernel_rfl) (by kernel_rfl) (by kernel_rfl) (by kernel_rfl) (fun _ _ _ h => h) (SteadyB.of_yields (Or.inl ⟨by rfl, ?_⟩)) ?_
  rotate_left
  · intro wq hSw
    obtain ⟨m0, m1, m2, m3, m4⟩ := rm_at hSw.1.1.1
    go_simp
    (try with_reducible rfl)
  try simp only [List.getElem_toArray, List.getElem_cons_zero, List.getElem_cons_succ, Act.put, List.setIfInBounds_toArray, List.set_cons_zero, List.set_cons_succ]
  refine wpAnyE_take (i := 2) (v := ?_) (hsT1) (fun _ h => h) rfl (by kernel_rfl) (by kernel_rfl) (by kernel_rfl) (by kernel_rfl) (fun _ _ _ h => h) (SteadyB.of_yields (Or.inl ⟨by rfl, ?_⟩)) ?_
  rotate_left
  · intro wq hSw
    go_simp
    (try with_reducible rfl)
  try simp only [List.getElem_toArray, List.getElem_cons_zero, List.getElem_cons_succ, Act.put, List.setIfInBounds_toArray, List.set_cons_zero, List.set_cons_succ]
  refine wpAnyE_take (i := 3) (v := ?_) (hsT1) (fun _ h => h) rfl (by kernel_rfl) (by kernel_rfl) (by kernel_rfl) (by kernel_rfl) (fun _ _ _ h => h) (SteadyB.of_yields (Or.inl ⟨by rfl, ?_⟩)) ?_
  rotate_left
  · intro wq hSw
    go_simp
    (try with_reducible rfl)
  try simp only [List.getElem_toArray, List.getElem_cons_zero, List.getElem_cons_succ, Act.put, List.setIfInBounds_toArray, List.set_cons_zero, List.set_cons_succ]
  refine wpF.fst (j := 6) (dst := some 10) (T := fun wx g => Var wx g false none 0 0 ∧ w.heap.size + 1 < g) ?_
  refine wpF_call (k := 4) _ (bqV) (bqR 5 v) rfl rfl rfl (Or.inl (by kernel_rfl)) (by kernel_rfl) (by decide) (by decide) (by decide) (by kernel_rfl) (by intro cs b h; cases h) (by rfl) (fun _ => rfl) (hsT1) (fun _ h => h) (fun g => fun _ _ h hb => ⟨h.1.below hb, h.2⟩) (fun yq => bqR.stays 5 v yq) (fun aq wq hSw => ?_) (fun wq hSw => ?_) (fun yq => ?_)
  · (first | exact ⟨_, by go_simp; (try with_reducible rfl), (Below.refl _ _).alloc (Nat.le_refl _) _, Var.new _ _ _ _ _ _, hSw.1.1.2.lt⟩ | exact ⟨_, by go_simp; (try with_reducible rfl), (Below.refl _ _).alloc (Nat.le_refl _) _, Var.new _ _ _ _ _ _, hSw.1.1.1.2.lt⟩ | exact ⟨_, by go_simp; (try with_reducible rfl), (Below.refl _ _).alloc (Nat.le_refl _) _, Var.new _ _ _ _ _ _, hSw.1.1.1.1.2.lt⟩)
  · exact RunI.big (Ref.U v HV.out.1 HV.out.2 wq) (by go_simp)
  obtain ⟨s2, A2, n2, c2⟩ := yq
  dsimp only [bqV, bqR]
  try simp only [List.getElem_toArray, List.getElem_cons_zero, List.getElem_cons_succ, Act.put, List.setIfInBounds_toArray, List.set_cons_zero, List.set_cons_succ]
  refine wpF_call (k := 5) _ (bqV) (bqR 24 (m.a * v)) rfl rfl rfl (Or.inl (by kernel_rfl)) (by kernel_rfl) (by decide) (by decide) (by decide) (by kernel_rfl) (by intro cs b h; cases h) (by rfl) (fun _ => rfl) (Stays.and_ (hsT1) (bqR.stays 5 v (s2, A2, n2, c2))) (fun _ h => h.1) (fun g => fun _ _ h hb => ⟨h.1.below hb, h.2⟩) (fun yq => bqR.stays 24 (m.a * v) yq) (fun aq wq hSw => ?_) (fun wq hSw => ?_) (fun yq => ?_)
  · (first | exact ⟨_, by go_simp; (try with_reducible rfl), (Below.refl _ _).alloc (Nat.le_refl _) _, Var.new _ _ _ _ _ _, hSw.1.1.2.lt⟩ | exact ⟨_, by go_simp; (try with_reducible rfl), (Below.refl _ _).alloc (Nat.le_refl _) _, Var.new _ _ _ _ _ _, hSw.1.1.1.2.lt⟩ | exact ⟨_, by go_simp; (try with_reducible rfl), (Below.refl _ _).alloc (Nat.le_refl _) _, Var.new _ _ _ _ _ _, hSw.1.1.1.1.2.lt⟩)
  · exact RunI.big (Ref.mul 18 5 s1 s2 A1 A2 n1 c1 n2 c2 m.a v wq hSw.1.1.2 hSw.2 (by decide) (by decide)) (by go_simp)
  obtain ⟨s3, A3, n3, c3⟩ := yq
  dsimp only [bqV, bqR]
  try simp only [List.getElem_toArray, List.getElem_cons_zero, List.getElem_cons_succ, Act.put, List.setIfInBounds_toArray, List.set_cons_zero, List.set_cons_succ]
  refine wpF_done _ rfl rfl (by kernel_rfl) (by decide) (by rfl) (Stays.and_ (Stays.and_ (hsT1) (bqR.stays 5 v (s2, A2, n2, c2))) (bqR.stays 24 (m.a * v) (s3, A3, n3, c3))) (fun _ h => h.1.1) (fun g => fun _ _ h hb => ⟨h.1.below hb, h.2⟩) (fun wq hSw => ?_) (fun gA => ?_)
  · (first | exact ⟨_, by go_simp; (try with_reducible rfl), (Below.refl _ _).alloc (Nat.le_refl _) _, Var.new _ _ _ _ _ _, hSw.1.1.2.lt⟩ | exact ⟨_, by go_simp; (try with_reducible rfl), (Below.refl _ _).alloc (Nat.le_refl _) _, Var.new _ _ _ _ _ _, hSw.1.1.1.2.lt⟩ | exact ⟨_, by go_simp; (try with_reducible rfl), (Below.refl _ _).alloc (Nat.le_refl _) _, Var.new _ _ _ _ _ _, hSw.1.1.1.1.2.lt⟩)
  try simp only [List.getElem_toArray, List.getElem_cons_zero, List.getElem_cons_succ, Act.put, List.setIfInBounds_toArray, List.set_cons_zero, List.set_cons_succ]
  refine wpAnyE_store (i := 7) (fun wx => (fun wx => PL0 w m s1 A1 n1 c1 wx) wx ∧ ((Var wx gA s3 A3 n3 c3 ∧ IsB wx 24 s3 A3 n3 c3 (m.a * v)) ∧ w.heap.size + 1 < gA)) 41 [.bool s3, .slice A3 n3 c3] [.bool false, .slice none 0 0] gA infoBig (.tmp 10) (.tmp 38) rfl rfl (by kernel_rfl) (by decide) (by rfl) ?sv2a ?sv2b ?sv2c ?sv2d ?sv2e (fun _ h => h.2.1.cs) (fun _ h => ⟨h.1.1.1.sets h.2.2 h.2.1.2.2.2.2 _, ⟨h.2.1.sets s3 A3 n3 c3, h.1.2.sets h.2.1.2.2.2.2 0 _⟩, h.2.2⟩) (fun _ h => h.1) ((fun _ _ h hb => ⟨h.1.below hb, ⟨h.2.1.1.below hb, h.2.1.2.below hb⟩, h.2.2⟩)) ?sv2f
  case sv2a => rfl
  case sv2b => rfl
  case sv2c => rfl
  case sv2d => rfl
  case sv2e => rfl
  try simp only [List.getElem_toArray, List.getElem_cons_zero, List.getElem_cons_succ, Act.put, List.setIfInBounds_toArray, List.set_cons_zero, List.set_cons_succ]
  refine wpAnyE_done (by kernel_rfl) (fun wz hSz => ?_) _
  have HQ3 := hid hSz
  clear hSz HQ0
  generalize gA = gs at HQ3 ⊢
  go_wp2_with fail
  have hsT3 : Stays (fun wx => PL0 w m s1 A1 n1 c1 wx ∧ ((Var wx gs s3 A3 n3 c3 ∧ IsB wx 24 s3 A3 n3 c3 (m.a * v)) ∧ w.heap.size + 1 < gs)) := fun _ _ h hb => ⟨h.1.below hb, ⟨h.2.1.1.below hb, h.2.1.2.below hb⟩, h.2.2⟩
  refine wp_region_grow (S := fun wx => PL0 w m s1 A1 n1 c1 wx ∧ ((Var wx gs s3 A3 n3 c3 ∧ IsB wx 24 s3 A3 n3 c3 (m.a * v)) ∧ w.heap.size + 1 < gs)) 11 (by kernel_rfl) (hsT3 _ _ (HQ3.out) (Below.refl _ _).drew) ?_
  refine wpAnyE_take (i := 0) (v := ?_) (hsT3) (fun _ h => h) rfl (by kernel_rfl) (by kernel_rfl) (by kernel_rfl) (by kernel_rfl) (fun _ _ _ h => h) (SteadyB.of_yields (Or.inl ⟨by rfl, ?_⟩)) ?_
  rotate_left
  · intro wq hSw
    go_simp
    (try with_reducible rfl)
  try simp only [List.getElem_toArray, List.getElem_cons_zero, List.getElem_cons_succ, Act.put, List.setIfInBounds_toArray, List.set_cons_zero, List.set_cons_succ]
  refine wpAnyE_take (i := 2) (v := ?_) (hsT3) (fun _ h => h) rfl (by kernel_rfl) (by kernel_rfl) (by kernel_rfl) (by kernel_rfl) (fun _ _ _ h => h) (SteadyB.of_yields (Or.inl ⟨by rfl, ?_⟩)) ?_
  rotate_left
  · intro wq hSw
    go_simp
    (try with_reducible rfl)
  try simp only [List.getElem_toArray, List.getElem_cons_zero, List.getElem_cons_succ, Act.put, List.setIfInBounds_toArray, List.set_cons_zero, List.set_cons_succ]
  refine wpAnyE_take (i := 3) (v := ?_) (hsT3) (fun _ h => h) rfl (by kernel_rfl) (by kernel_rfl) (by kernel_rfl) (by kernel_rfl) (fun _ _ _ h => h) (SteadyB.of_yields (Or.inl ⟨by rfl, ?_⟩)) ?_
  rotate_left
  · intro wq hSw
    obtain ⟨m0, m1, m2, m3, m4⟩ := rm_at hSw.1.1.1.1
    go_simp
    (try with_reducible rfl)
  try simp only [List.getElem_toArray, List.getElem_cons_zero, List.getElem_cons_succ, Act.put, List.setIfInBounds_toArray, List.set_cons_zero, List.set_cons_succ]
  refine wpAnyE_take (i := 4) (v := ?_) (hsT3) (fun _ h => h) rfl (by kernel_rfl) (by kernel_rfl) (by kernel_rfl) (by kernel_rfl) (fun _ _ _ h => h) (SteadyB.of_yields (Or.inl ⟨by rfl, ?_⟩)) ?_
  rotate_left
  · intro wq hSw
    go_simp
    (try with_reducible rfl)
  try simp only [List.getElem_toArray, List.getElem_cons_zero, List.getElem_cons_succ, Act.put, List.setIfInBounds_toArray, List.set_cons_zero, List.set_cons_succ]
  refine wpAnyE_take (i := 5) (v := ?_) (hsT3) (fun _ h => h) rfl (by kernel_rfl) (by kernel_rfl) (by kernel_rfl) (by kernel_rfl) (fun _ _ _ h => h) (SteadyB.of_yields (Or.inl ⟨by rfl, ?_⟩)) ?_
  rotate_left
  · intro wq hSw
    go_simp
    (try with_reducible rfl)
  try simp only [List.getElem_toArray, List.getElem_cons_zero, List.getElem_cons_succ, Act.put, List.setIfInBounds_toArray, List.set_cons_zero, List.set_cons_succ]
  refine wpAnyE_take (i := 6) (v := ?_) (hsT3) (fun _ h => h) rfl (by kernel_rfl) (by kernel_rfl) (by kernel_rfl) (by kernel_rfl) (fun _ _ _ h => h) (SteadyB.of_yields (Or.inl ⟨by rfl, ?_⟩)) ?_
  rotate_left
  · intro wq hSw
    go_simp
    (try with_reducible rfl)
  try simp only [List.getElem_toArray, List.getElem_cons_zero, List.getElem_cons_succ, Act.put, List.setIfInBounds_toArray, List.set_cons_zero, List.set_cons_succ]
  refine wpF.fst (j := 9) (dst := some 11) (T := fun wx g => Var wx g false none 0 0 ∧ gs < g) ?_
  refine wpF_call (k := 1) _ (bqV) (bqR 5 o) rfl rfl rfl (Or.inl (by kernel_rfl)) (by kernel_rfl) (by decide) (by decide) (by decide) (by kernel_rfl) (by intro cs b h; cases h) (by rfl) (fun _ => rfl) (hsT3) (fun _ h => h) (fun g => fun _ _ h hb => ⟨h.1.below hb, h.2⟩) (fun yq => bqR.stays 5 o yq) (fun aq wq hSw => ?_) (fun wq hSw => ?_) (fun yq => ?_)
  · (first | exact ⟨_, by go_simp; (try with_reducible rfl), (Below.refl _ _).alloc (Nat.le_refl _) _, Var.new _ _ _ _ _ _, hSw.2.1.1.lt⟩ | exact ⟨_, by go_simp; (try with_reducible rfl), (Below.refl _ _).alloc (Nat.le_refl _) _, Var.new _ _ _ _ _ _, hSw.1.2.1.1.lt⟩ | exact ⟨_, by go_simp; (try with_reducible rfl), (Below.refl _ _).alloc (Nat.le_refl _) _, Var.new _ _ _ _ _ _, hSw.1.1.2.1.1.lt⟩ | exact ⟨_, by go_simp; (try with_reducible rfl), (Below.refl _ _).alloc (Nat.le_refl _) _, Var.new _ _ _ _ _ _, hSw.1.1.1.2.1.1.lt⟩)
  · exact RunI.big (Ref.N o HO.out.1 HO.out.2 wq) (by go_simp)
  obtain ⟨s4, A4, n4, c4⟩ := yq
  dsimp only [bqV, bqR]
  try simp only [List.getElem_toArray, List.getElem_cons_zero, List.getElem_cons_succ, Act.put, List.setIfInBounds_toArray, List.set_cons_zero, List.set_cons_succ]
  refine wpF_call (k := 7) _ (bqV) (bqR 5 (m.w + v)) rfl rfl rfl (Or.inl (by kernel_rfl)) (by kernel_rfl) (by decide) (by decide) (by decide) (by kernel_rfl) (by intro cs b h; cases h) (by rfl) (fun _ => rfl) (Stays.and_ (hsT3) (bqR.stays 5 o (s4, A4, n4, c4))) (fun _ h => h.1) (fun g => fun _ _ h hb => ⟨h.1.below hb, h.2⟩) (fun yq => bqR.stays 5 (m.w + v) yq) (fun aq wq hSw => ?_) (fun wq hSw => ?_) (fun yq => ?_)
  · (first | exact ⟨_, by go_simp; (try with_reducible rfl), (Below.refl _ _).alloc (Nat.le_refl _) _, Var.new _ _ _ _ _ _, hSw.2.1.1.lt⟩ | exact ⟨_, by go_simp; (try with_reducible rfl), (Below.refl _ _).alloc (Nat.le_refl _) _, Var.new _ _ _ _ _ _, hSw.1.2.1.1.lt⟩ | exact ⟨_, by go_simp; (try with_reducible rfl), (Below.refl _ _).alloc (Nat.le_refl _) _, Var.new _ _ _ _ _ _, hSw.1.1.2.1.1.lt⟩ | exact ⟨_, by go_simp; (try with_reducible rfl), (Below.refl _ _).alloc (Nat.le_refl _) _, Var.new _ _ _ _ _ _, hSw.1.1.1.2.1.1.lt⟩)
  · exact RunI.big (Ref.U (m.w + v) HWV.out.1 HWV.out.2 wq) (by go_simp)
  obtain ⟨s5, A5, n5, c5⟩ := yq
  dsimp only [bqV, bqR]
  try simp only [List.getElem_toArray, List.getElem_cons_zero, List.getElem_cons_succ, Act.put, List.setIfInBounds_toArray, List.set_cons_zero, List.set_cons_succ]
  refine wpF_call (k := 8) _ (bqV) (bqR 11 (o * (m.w + v))) rfl rfl rfl (Or.inl (by kernel_rfl)) (by kernel_rfl) (by decide) (by decide) (by decide) (by kernel_rfl) (by intro cs b h; cases h) (by rfl) (fun _ => rfl) (Stays.and_ (Stays.and_ (hsT3) (bqR.stays 5 o (s4, A4, n4, c4))) (bqR.stays 5 (m.w + v) (s5, A5, n5, c5))) (fun _ h => h.1.1) (fun g => fun _ _ h hb => ⟨h.1.below hb, h.2⟩) (fun yq => bqR.stays 11 (o * (m.w + v)) yq) (fun aq wq hSw => ?_) (fun wq hSw => ?_) (fun yq => ?_)
  · (first | exact ⟨_, by go_simp; (try with_reducible rfl), (Below.refl _ _).alloc (Nat.le_refl _) _, Var.new _ _ _ _ _ _, hSw.2.1.1.lt⟩ | exact ⟨_, by go_simp; (try with_reducible rfl), (Below.refl _ _).alloc (Nat.le_refl _) _, Var.new _ _ _ _ _ _, hSw.1.2.1.1.lt⟩ | exact ⟨_, by go_simp; (try with_reducible rfl), (Below.refl _ _).alloc (Nat.le_refl _) _, Var.new _ _ _ _ _ _, hSw.1.1.2.1.1.lt⟩ | exact ⟨_, by go_simp; (try with_reducible rfl), (Below.refl _ _).alloc (Nat.le_refl _) _, Var.new _ _ _ _ _ _, hSw.1.1.1.2.1.1.lt⟩)
  · exact RunI.big (Ref.mul 5 5 s4 s5 A4 A5 n4 c4 n5 c5 o (m.w + v) wq hSw.1.2 hSw.2 (by decide) (by decide)) (by go_simp)
  obtain ⟨s6, A6, n6, c6⟩ := yq
  dsimp only [bqV, bqR]
  try simp only [List.getElem_toArray, List.getElem_cons_zero, List.getElem_cons_succ, Act.put, List.setIfInBounds_toArray, List.set_cons_zero, List.set_cons_succ]
  refine wpF_done _ rfl rfl (by kernel_rfl) (by decide) (by rfl) (Stays.and_ (Stays.and_ (Stays.and_ (hsT3) (bqR.stays 5 o (s4, A4, n4, c4))) (bqR.stays 5 (m.w + v) (s5, A5, n5, c5))) (bqR.stays 11 (o * (m.w + v)) (s6, A6, n6, c6))) (fun _ h => h.1.1.1) (fun g => fun _ _ h hb => ⟨h.1.below hb, h.2⟩) (fun wq hSw => ?_) (fun gA => ?_)
  · (first | exact ⟨_, by go_simp; (try with_reducible rfl), (Below.refl _ _).alloc (Nat.le_refl _) _, Var.new _ _ _ _ _ _, hSw.2.1.1.lt⟩ | exact ⟨_, by go_simp; (try with_reducible rfl), (Below.refl _ _).alloc (Nat.le_refl _) _, Var.new _ _ _ _ _ _, hSw.1.2.1.1.lt⟩ | exact ⟨_, by go_simp; (try with_reducible rfl), (Below.refl _ _).alloc (Nat.le_refl _) _, Var.new _ _ _ _ _ _, hSw.1.1.2.1.1.lt⟩ | exact ⟨_, by go_simp; (try with_reducible rfl), (Below.refl _ _).alloc (Nat.le_refl _) _, Var.new _ _ _ _ _ _, hSw.1.1.1.2.1.1.lt⟩)
  try simp only [List.getElem_toArray, List.getElem_cons_zero, List.getElem_cons_succ, Act.put, List.setIfInBounds_toArray, List.set_cons_zero, List.set_cons_succ]
  refine wpAnyE_store (i := 10) (fun wx => (fun wx => PL0 w m s1 A1 n1 c1 wx ∧ ((Var wx gs s3 A3 n3 c3 ∧ IsB wx 24 s3 A3 n3 c3 (m.a * v)) ∧ w.heap.size + 1 < gs)) wx ∧ ((Var wx gA s6 A6 n6 c6 ∧ IsB wx 11 s6 A6 n6 c6 (o * (m.w + v))) ∧ gs < gA)) 41 [.bool s6, .slice A6 n6 c6] [.bool false, .slice none 0 0] gA infoBig (.tmp 11) (.tmp 47) rfl rfl (by kernel_rfl) (by decide) (by rfl) ?sv4a ?sv4b ?sv4c ?sv4d ?sv4e (fun _ h => h.2.1.cs) (fun _ h => ⟨⟨h.1.1.1.1.1.sets (by have := h.1.1.1.1.2.2; have := h.2.2; omega) h.2.1.2.2.2.2 _, ⟨Var.fars (by have := h.2.2; omega) _ _ h.1.1.1.1.2.1.1, h.1.1.1.1.2.1.2.sets h.2.1.2.2.2.2 0 _⟩, h.1.1.1.1.2.2⟩, ⟨h.2.1.sets s6 A6 n6 c6, h.1.2.sets h.2.1.2.2.2.2 0 _⟩, h.2.2⟩) (fun _ h => h.1) ((fun _ _ h hb => ⟨⟨h.1.1.below hb, ⟨h.1.2.1.1.below hb, h.1.2.1.2.below hb⟩, h.1.2.2⟩, ⟨h.2.1.1.below hb, h.2.1.2.below hb⟩, h.2.2⟩)) ?sv4f
  case sv4a => rfl
  case sv4b => rfl
  case sv4c => rfl
  case sv4d => rfl
  case sv4e => rfl
  try simp only [List.getElem_toArray, List.getElem_cons_zero, List.getElem_cons_succ, Act.put, List.setIfInBounds_toArray, List.set_cons_zero, List.set_cons_succ]
  refine wpAnyE_done (by kernel_rfl) (fun wz hSz => ?_) _
  have HQ4 := hid hSz
  clear hSz HQ3
  generalize gA = gh at HQ4 ⊢
  obtain ⟨a0, a1, a2, a3, _⟩ := HQ4.out.1.2.1.1
  have al := HQ4.out.1.2.1.1.lt
  obtain ⟨b0, b1, b2, b3, _⟩ := HQ4.out.2.1.1
  have bl := HQ4.out.2.1.1.lt
  go_wp2_with fail
  clear a0 a1 a2 a3 al b0 b1 b2 b3 bl
  refine (Ref.sub 24 s3 s6 A3 A6 n3 c3 n6 c6 (m.a * v) (o * (m.w + v)) _ HQ4.out.1.2.1.2 (HQ4.out.2.1.2.mono (by decide)) (by decide)).mono ?_
  rintro e w7 ⟨s7, A7, n7, c7, rfl, hB, hb⟩
  have ha := (Below.refl w7.heap.size w7).alloc (Nat.le_refl _) (.cells #[.bool s7, .slice A7 n7 c7] 41)
  have HQ5 : Hid (PL0 w m s1 A1 n1 c1 (w7.alloc (.cells #[.bool s7, .slice A7 n7 c7] 41)) ∧ (IsB (w7.alloc (.cells #[.bool s7, .slice A7 n7 c7] 41)) 24 s3 A3 n3 c3 (m.a * v) ∧ IsB (w7.alloc (.cells #[.bool s7, .slice A7 n7 c7] 41)) 11 s6 A6 n6 c6 (o * (m.w + v)) ∧ IsB (w7.alloc (.cells #[.bool s7, .slice A7 n7 c7] 41)) 25 s7 A7 n7 c7 ((m.a * v) - (o * (m.w + v)))) ∧ (Var (w7.alloc (.cells #[.bool s7, .slice A7 n7 c7] 41)) gs s3 A3 n3 c3 ∧ Var (w7.alloc (.cells #[.bool s7, .slice A7 n7 c7] 41)) gh s6 A6 n6 c6 ∧ Var (w7.alloc (.cells #[.bool s7, .slice A7 n7 c7] 41)) w7.heap.size s7 A7 n7 c7)) := hid ⟨(HQ4.out.1.1.below hb).below ha, ⟨(HQ4.out.1.2.1.2.below hb).below ha, (HQ4.out.2.1.2.below hb).below ha, hB.alloc _⟩, (HQ4.out.1.2.1.1.below hb).below ha, (HQ4.out.2.1.1.below hb).below ha, Var.new _ _ _ _ _ _⟩
  clear hB hb ha HQ4
  obtain ⟨a0, a1, a2, a3, _⟩ := HQ5.out.2.2.1
  have al := HQ5.out.2.2.1.lt
  obtain ⟨b0, b1, b2, b3, _⟩ := HQ5.out.2.2.2.1
  have bl := HQ5.out.2.2.2.1.lt
  go_wp2_with fail
  clear a0 a1 a2 a3 al b0 b1 b2 b3 bl
  generalize w7.alloc (.cells #[.bool s7, .slice A7 n7 c7] 41) = W7 at HQ5 ⊢
  generalize w7.heap.size = gd at HQ5 ⊢
  refine (Ref.is 24 (by decide) s3 A3 n3 c3 (m.a * v) _ HQ5.out.2.1.1 true ⟨fun _ => HX.out, fun _ => rfl⟩).mono ?_
  rintro e w8 ⟨rfl, hb⟩
  replace HQ5 := hid (And.intro (HQ5.out.1.below hb) (And.intro (And.intro (HQ5.out.2.1.1.below hb) (And.intro (HQ5.out.2.1.2.1.below hb) (HQ5.out.2.1.2.2.below hb))) (And.intro (HQ5.out.2.2.1.below hb) (And.intro (HQ5.out.2.2.2.1.below hb) (HQ5.out.2.2.2.2.below hb)))))
  clear hb
  obtain ⟨a0, a1, a2, a3, _⟩ := HQ5.out.2.2.1
  have al := HQ5.out.2.2.1.lt
  obtain ⟨b0, b1, b2, b3, _⟩ := HQ5.out.2.2.2.1
  have bl := HQ5.out.2.2.2.1.lt
  go_wp2_with fail
  clear a0 a1 a2 a3 al b0 b1 b2 b3 bl
  refine (Ref.is 11 (by decide) s6 A6 n6 c6 (o * (m.w + v)) _ HQ5.out.2.1.2.1 true ⟨fun _ => H6.out, fun _ => rfl⟩).mono ?_
  rintro e w9 ⟨rfl, hb⟩
  replace HQ5 := hid (And.intro (HQ5.out.1.below hb) (And.intro (And.intro (HQ5.out.2.1.1.below hb) (And.intro (HQ5.out.2.1.2.1.below hb) (HQ5.out.2.1.2.2.below hb))) (And.intro (HQ5.out.2.2.1.below hb) (And.intro (HQ5.out.2.2.2.1.below hb) (HQ5.out.2.2.2.2.below hb)))))
  clear hb
  obtain ⟨d0, d1, d2, d3, _⟩ := HQ5.out.2.2.2.2
  have dl := HQ5.out.2.2.2.2.lt
  go_wp2_with fail
  clear d0 d1 d2 d3 dl
  refine (Ref.is 25 (by decide) s7 A7 n7 c7 ((m.a * v) - (o * (m.w + v))) _ HQ5.out.2.1.2.2 true ⟨fun _ => HY.out, fun _ => rfl⟩).mono ?_
  rintro e w10 ⟨rfl, hb⟩
  replace HQ5 := hid (And.intro (HQ5.out.1.below hb) (And.intro (And.intro (HQ5.out.2.1.1.below hb) (And.intro (HQ5.out.2.1.2.1.below hb) (HQ5.out.2.1.2.2.below hb))) (And.intro (HQ5.out.2.2.1.below hb) (And.intro (HQ5.out.2.2.2.1.below hb) (HQ5.out.2.2.2.2.below hb)))))
  clear hb
  obtain ⟨d0, d1, d2, d3, _⟩ := HQ5.out.2.2.2.2
  have dl := HQ5.out.2.2.2.2.lt
  obtain ⟨m0, m1, m2, m3, m4⟩ := rm_at HQ5.out.1.1.1.1
  go_wp2_with fail
  clear d0 d1 d2 d3 dl
  clear m0 m1 m2 m3 m4
  refine (Ref.div 25 (by decide) s7 A7 n7 c7 ((m.a * v) - (o * (m.w + v))) m.w (by have := HW.out; omega) HW.out.2.2 _ HQ5.out.2.1.2.2).mono ?_
  rintro e w11 ⟨s11, A11, n11, c11, rfl, hB, hb⟩
  have ha := (Below.refl w11.heap.size w11).alloc (Nat.le_refl _) (.cells #[.bool s11, .slice A11 n11 c11] 41)
  have HQ6 : Hid (PL0 w m s1 A1 n1 c1 (w11.alloc (.cells #[.bool s11, .slice A11 n11 c11] 41)) ∧ IsB (w11.alloc (.cells #[.bool s11, .slice A11 n11 c11] 41)) 18 s11 A11 n11 c11 (m.plD v o) ∧ Var (w11.alloc (.cells #[.bool s11, .slice A11 n11 c11] 41)) w11.heap.size s11 A11 n11 c11) := hid ⟨(HQ5.out.1.below hb).below ha, (hB.narrow HDW.out).alloc _, Var.new _ _ _ _ _ _⟩
  clear hB hb ha HQ5
  obtain ⟨m0, m1, m2, m3, m4⟩ := rm_at HQ6.out.1.1.1.1
  obtain ⟨d0, d1, d2, d3, _⟩ := HQ6.out.2.2
  have dl := HQ6.out.2.2.lt
  go_wp2_with fail
  clear d0 d1 d2 d3 dl
  clear m0 m1 m2 m3 m4
  have hat : atP m.b (m.plD v o) v = ((atP m.b (m.plD v o) v).1, (atP m.b (m.plD v o) v).2.1, (atP m.b (m.plD v o) v).2.2) := rfl
  refine (Ref4.at_in m.b (m.plD v o) v HM.out.1.1 HM.out.1.2 s11 A11 n11 c11 HVV.out.1 HVV.out.2 (atOk (m.plD v o) v) (by rw [atOk_iff]; unfold AtOk; have := HVV.out; omega) (atP m.b (m.plD v o) v).1 (atP m.b (m.plD v o) v).2.1 (atP m.b (m.plD v o) v).2.2 (fun h => by unfold atP; rw [if_pos h]; exact ⟨rfl, rfl, rfl⟩) (fun h => by unfold atP; rw [h, if_neg (by decide)]; exact ⟨rfl, rfl, rfl⟩) _ HQ6.out.2.1).mono ?_
  rintro e w12 ⟨rfl, hb⟩
  have HQ7 := hid (HQ6.out.1.below hb)
  clear hb HQ6 hat
  generalize atP m.b (m.plD v o) v = y at *
  generalize atOk (m.plD v o) v = y2 at *
  have HCr := hid HQ7.out.1.1.2
  go_wp2_with (first | ((with_reducible refine wpList_put_cs 31 [.int .u64 y.1, .int .u32 y.2.1, .int .u32 y.2.2] infoP4 rfl (.tmp 8) (.tmp 78) rfl (w.heap.size + 1) _ HCr.out ?pq7_1 ?pq7_2 ?pq7_3 ?pq7_4 ?pq7_5 ?pq7_6); (case pq7_1 => rfl); (case pq7_2 => rfl); (case pq7_3 => rfl); (case pq7_4 => rfl); (case pq7_5 => rfl); (intro W2 hW2); (have HW := hid (HQ7.out.put hW2)); (clear hW2)) | fail)
  obtain ⟨z0, z1, z2⟩ := HW.out.1.three
  go_wp2_with fail
  refine bodyPost_ret (v := .tuple #[pv y, .bool y2]) (by simp [results, Tryz.results43, go_sem, z0, z1, z2]) rfl ⟨rfl, HW.out.2⟩
theorem Ref10.place (m : Mu) (x : Bq) (clock v o : Int) (hm : m.In) (hc : IsT clock) (v0 : 0 ≤ v) (vb : v ≤ 4294967295) (o0 : -9223372036854775808 ≤ o) (ob : o ≤ 9223372036854775807) (w : World) (hB : bqR 18 m.a x w) :
    Calls Tryz.prog 43 #[rmV m x, .int .u64 clock, .int .u32 v, .int .i64 o] w (Ans (.tuple #[pv (m.place clock v o).2, .bool (m.place clock v o).1]) w) := by
  obtain ⟨s1, A1, n1, c1⟩ := x
  have hB' : IsB w 18 s1 A1 n1 c1 m.a := hB
  have bad : ∀ b d, ¬ (1 ≤ v ∧ v ≤ 1048576) → atOk d v = false ∧ atP b d v = (0, 0, 0) := fun b d h => by
    have : atOk d v = false := by unfold atOk; rw [decide_eq_false h]; rfl
    unfold atP; rw [this]; exact ⟨rfl, rfl⟩
  have noV : m.right = true → ¬ (1 ≤ v ∧ v ≤ 1048576) → m.place clock v o = (false, (0, 0, 0)) := fun h1 h => by
    unfold Mu.place
    rw [if_pos h1]
    split
    · exact Prod.ext (bad clock 0 h).1 (bad clock 0 h).2
    · split
      · exact Prod.ext (bad m.b _ h).1 (bad m.b _ h).2
      · rfl
  cases h1 : m.right with
  | false =>
    have E : m.place clock v o = (false, (0, 0, 0)) := by unfold Mu.place; rw [h1, if_neg (by decide)]
    rw [E]; exact Ref10.place_no1 m s1 A1 n1 c1 clock v o hm v0 vb o0 ob h1 w hB'
  | true =>
    by_cases h2 : v < 1
    · rw [noV h1 (by omega)]; exact Ref10.place_no2 m s1 A1 n1 c1 clock v o hm v0 vb o0 ob h1 h2 w hB'
    · by_cases h3 : 1048576 < v
      · rw [noV h1 (by omega)]; exact Ref10.place_no3 m s1 A1 n1 c1 clock v o hm v0 vb o0 ob h1 h2 h3 w hB'
      · by_cases h4 : m.n = 0
        · have hk : AtOk 0 v := ⟨by omega, by omega, by rw [Int.zero_ediv]; omega, by rw [Int.zero_ediv]; omega⟩
          have E : m.place clock v o = (true, (clock, 0, v)) := by
            unfold Mu.place
            rw [if_pos h1, if_pos h4, atOk_iff.2 hk, atP_yes hk, Int.zero_ediv, Int.zero_emod]
            have : adv clock 0 = clock := by unfold adv; obtain ⟨a, b⟩ := hc; omega
            rw [this]
          rw [E]; exact Ref10.place_new m s1 A1 n1 c1 clock v o hm v0 vb o0 ob h1 h2 h3 h4 w hB'
        · cases h5 : okW (m.a * v) with
          | false =>
            have E : m.place clock v o = (false, (0, 0, 0)) := by unfold Mu.place Mu.plOk1; rw [if_pos h1, if_neg h4, h5, if_neg (by simp)]
            rw [E]; exact Ref10.place_no4 m s1 A1 n1 c1 clock v o hm v0 vb o0 ob h1 h2 h3 h4 h5 w hB'
          | true =>
            cases h6 : okW ((m.a * v) - (o * (m.w + v))) with
            | false =>
              have E : m.place clock v o = (false, (0, 0, 0)) := by unfold Mu.place Mu.plOk1; rw [if_pos h1, if_neg h4, h6, if_neg (by simp)]
              rw [E]; exact Ref10.place_no5 m s1 A1 n1 c1 clock v o hm v0 vb o0 ob h1 h2 h3 h4 h5 h6 w hB'
            | true =>
              have E : m.place clock v o = (atOk (m.plD v o) v, atP m.b (m.plD v o) v) := by unfold Mu.place Mu.plOk1; rw [if_pos h1, if_neg h4, h5, h6, if_pos (show (true && true) = true from rfl)]
              rw [E]; exact Ref10.place_yes m s1 A1 n1 c1 clock v o hm v0 vb o0 ob h1 h2 h3 h4 h5 h6 w hB'
end

end Go.Proofs.YthmilhhihcmdhaaGreatDoor

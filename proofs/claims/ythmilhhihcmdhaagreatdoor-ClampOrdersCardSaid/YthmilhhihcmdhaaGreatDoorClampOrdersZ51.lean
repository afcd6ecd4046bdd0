/- Texts of ClampOrders's proof, together. -/
import Derived.Test.YthmilhhihcmdhaaGreatDoorWgC
import Derived.Test.YthmilhhihcmdhaaGreatDoorClC
namespace Go.Proofs.YthmilhhihcmdhaaGreatDoor
/- The chapter's examples of layer 12, as the laws ask them. -/
section
open Go.RowKit
theorem ex12w : winI 1 1 = 3145728 ∧ winOk 1 1 = true := by constructor <;> decide
theorem ex12c : carI [-5, 0] = 9 := by decide
section
attribute [local go_sem] Wide.eqB
set_option maxRecDepth 100000 in
set_option maxHeartbeats 4000000 in
theorem Law12.awake (w : World) (htab : Tab10 w.heap.size w) : Calls Tryz.prog 50 #[] w (Ans (.bool true) w) := by
  have HT := hid htab
  clear htab
  go_enter Tryz.func50, Tryz.ntmps50
  go_wp2_with fail
  refine (Clamp.window 1 1 ⟨by decide, by decide⟩ ⟨by decide, by decide⟩ _).mono ?_
  rw [ex12w.1, ex12w.2]
  rintro e w1 ⟨rfl, hb⟩
  have HB1 := hid hb
  clear hb
  go_wp2_with fail
  refine (Law11.Awake _ (HT.out.at2 HB1.out)).mono ?_
  rintro e w2 ⟨rfl, hb⟩
  have HB2 := hid (below_on HB1.out hb)
  clear hb HB1
  go_wp2_with fail
  refine (Wide.ofF (x := -5) (by decide) (by decide) _).mono ?_
  rintro e w3 ⟨rfl, hb⟩
  have HB3 := hid (below_on HB2.out hb)
  clear hb HB2
  go_wp2_with fail
  refine (Wide.ofF (x := 0) (by decide) (by decide) _).mono ?_
  rintro e w4 ⟨rfl, hb⟩
  have HB4 := hid (below_on HB3.out hb)
  have HR := hid (RdW.new2 w4 34 (-5) 0)
  have HB5 := hid (HB4.out.alloc HB4.out.size (.cells #[.int .i64 (hiW (-5)), .int .u64 (loW (-5)), .int .i64 (hiW 0), .int .u64 (loW 0)] 34))
  clear hb HB3 HB4
  go_wp2_with fail
  refine (Clamp.carried (some ⟨w4.heap.size, 0, none⟩) 2 2 [-5, 0] _ HR.out (fun x hx => by
    simp at hx
    rcases hx with rfl | rfl <;> (unfold WR; omega)) (by decide)).mono ?_
  rw [ex12c]
  rintro e w5 ⟨rfl, hb⟩
  have HB6 := hid (below_on HB5.out hb)
  clear hb HB5 HR
  go_wp2_with fail
  refine (Wide.ofF (x := 9) (by decide) (by decide) _).mono ?_
  rintro e w6 ⟨rfl, hb⟩
  have HB7 := hid (below_on HB6.out hb)
  clear hb HB6
  go_wp2_with fail
  go_ret
  exact ⟨rfl, HB7.out⟩
end
end

/- ClampOrders: the walk. -/
section
open Go.RowKit
theorem Wide.cmpF {a b : Int} (ha : WR a) (hb : WR b) (w : World) : Calls Tryz.prog 60 #[wv a, wv b] w (Ans (.int .i64 (cmpI a b)) w) :=
  (Wide.cmp _ _ _ _ a b (isW_of ha) (isW_of hb) w).mono (by rintro e w' ⟨c, rfl, hc, hb⟩; exact ⟨by rw [hc.eq], hb⟩)
theorem cmpI_ltz {a b : Int} : cmpI a b < 0 ↔ a < b := by unfold cmpI; split <;> (try split) <;> omega
theorem cmpI_gtz {a b : Int} : 0 < cmpI a b ↔ b < a := by unfold cmpI; split <;> (try split) <;> omega
def XY (w : World) (x y : Int) (W : World) : Prop := (Cs W w.heap.size [.int .i64 (hiW x), .int .u64 (loW x)] ∧ Cs W (w.heap.size + 1) [.int .i64 (hiW y), .int .u64 (loW y)]) ∧ Below w.heap.size w W
theorem XY.below {w w1 w2 : World} {x y : Int} (h : XY w x y w1) (hb : Below w1.heap.size w1 w2) : XY w x y w2 := ⟨⟨h.1.1.below hb, h.1.2.below hb⟩, below_on h.2 hb⟩
theorem XY.new (w : World) (x y : Int) : XY w x y ((w.alloc (.cells #[.int .i64 (hiW x), .int .u64 (loW x)] 34)).alloc (.cells #[.int .i64 (hiW y), .int .u64 (loW y)] 34)) := by
  have h2 := Cs.alloc_new6 (w.alloc (.cells #[.int .i64 (hiW x), .int .u64 (loW x)] 34)) 34 [.int .i64 (hiW y), .int .u64 (loW y)]
  simp only [World.size_alloc] at h2
  exact ⟨⟨(Cs.alloc_new6 w 34 [.int .i64 (hiW x), .int .u64 (loW x)]).alloc _, h2⟩, ((Below.refl w.heap.size w).alloc (Nat.le_refl _) _).alloc (by simp) _⟩
set_option maxRecDepth 100000 in
set_option maxHeartbeats 8000000 in
theorem Cord.lt (x y v : Int) (hx : WR x) (hy : WR y) (v0 : -9223372036854775808 ≤ v) (v1 : v ≤ 9223372036854775807) (w : World) (hc : x < y) (htab : Tab10 w.heap.size w) :
    Calls Tryz.prog 13 #[wv x, wv y, .int .i64 v] w (Ans (.bool true) w) := by
  have HT := hid htab
  have HX := hid hx
  have HY := hid hy
  have HV := hid (And.intro v0 v1)
  have HG0 := hid (XY.new w x y)
  obtain ⟨V, hV⟩ : ∃ V, max v 0 = V := ⟨_, rfl⟩
  have hVb : 0 ≤ V ∧ V ≤ 9223372036854775807 := by omega
  have n1 : wrap64 (-V) = -V := by unfold wrap64; omega
  have n2 : IntKind.i64.wrap (-V) = -V := by rw [IntKind.wrap_i64]; omega
  have HE : Hid ((-V ≤ clI x v ∧ clI x v ≤ V) ∧ (-9223372036854775807 ≤ clI x v ∧ clI x v ≤ 9223372036854775807)) := hid ⟨by have := clI_in x v; rw [hV] at this; exact this, clI_bd v1⟩
  have HAG : Hid (∀ wq, Calls Tryz.prog 53 #[wv (clI x v), .int .i64 v] wq (Ans (.int .i64 (clI x v)) wq)) := hid (fun wq => by
    have h := Clamp.clamp (clI x v) v (by have := (clI_bd (x := x) v1); unfold WR; omega) v0 v1 wq
    rwa [clI_again] at h)
  have HC := hid hc
  clear htab hx hy v0 v1 hVb hc
  unfold wv
  go_enter Tryz.func13, Tryz.ntmps13
  go_wp2_with fail
  generalize ((w.alloc (.cells #[.int .i64 (hiW x), .int .u64 (loW x)] 34)).alloc (.cells #[.int .i64 (hiW y), .int .u64 (loW y)] 34)) = W0 at HG0 ⊢
  refine (Law12.awake _ (HT.out.at2 HG0.out.2)).mono ?_
  rintro e w1 ⟨rfl, hb⟩
  have HG1 := hid (HG0.out.below hb)
  clear hb HG0 HT
  go_wp2_with fail
  refine wp_region_grow (S := fun wx => XY w x y wx) 8 (by kernel_rfl) (((fun _ _ h hb => h.below hb) : Stays (fun wx => XY w x y wx)) _ _ HG1.out (Below.refl _ _).drew) ?_
  refine wpAnyE_take (i := 0) (v := ?_) (((fun _ _ h hb => h.below hb) : Stays (fun wx => XY w x y wx))) (fun _ h => h) rfl (by kernel_rfl) (by kernel_rfl) (by kernel_rfl) (by kernel_rfl) (fun _ _ _ h => h) (SteadyB.of_yields (Or.inl ⟨by rfl, ?_⟩)) ?_
  rotate_left
  · intro wq hSw
    obtain ⟨x0, x1⟩ := hSw.1.1.two
    obtain ⟨y0, y1⟩ := hSw.1.2.two
    go_simp
    (try with_reducible rfl)
  try simp only [List.getElem_toArray, List.getElem_cons_zero, List.getElem_cons_succ, Act.put, List.setIfInBounds_toArray, List.set_cons_zero, List.set_cons_succ]
  refine wpAnyE_take (i := 1) (v := ?_) (((fun _ _ h hb => h.below hb) : Stays (fun wx => XY w x y wx))) (fun _ h => h) rfl (by kernel_rfl) (by kernel_rfl) (by kernel_rfl) (by kernel_rfl) (fun _ _ _ h => h) (SteadyB.of_yields (Or.inl ⟨by rfl, ?_⟩)) ?_
  rotate_left
  · intro wq hSw
    go_simp
    (try with_reducible rfl)
  try simp only [List.getElem_toArray, List.getElem_cons_zero, List.getElem_cons_succ, Act.put, List.setIfInBounds_toArray, List.set_cons_zero, List.set_cons_succ]
  refine wpAnyE_take (i := 3) (v := ?_) (((fun _ _ h hb => h.below hb) : Stays (fun wx => XY w x y wx))) (fun _ h => h) rfl (by kernel_rfl) (by kernel_rfl) (by kernel_rfl) (by kernel_rfl) (fun _ _ _ h => h) (SteadyB.of_yields (Or.inl ⟨by rfl, ?_⟩)) ?_
  rotate_left
  · intro wq hSw
    obtain ⟨x0, x1⟩ := hSw.1.1.two
    obtain ⟨y0, y1⟩ := hSw.1.2.two
    go_simp
    (try with_reducible rfl)
  try simp only [List.getElem_toArray, List.getElem_cons_zero, List.getElem_cons_succ, Act.put, List.setIfInBounds_toArray, List.set_cons_zero, List.set_cons_succ]
  refine wpAnyE_take (i := 4) (v := ?_) (((fun _ _ h hb => h.below hb) : Stays (fun wx => XY w x y wx))) (fun _ h => h) rfl (by kernel_rfl) (by kernel_rfl) (by kernel_rfl) (by kernel_rfl) (fun _ _ _ h => h) (SteadyB.of_yields (Or.inl ⟨by rfl, ?_⟩)) ?_
  rotate_left
  · intro wq hSw
    go_simp
    (try with_reducible rfl)
  try simp only [List.getElem_toArray, List.getElem_cons_zero, List.getElem_cons_succ, Act.put, List.setIfInBounds_toArray, List.set_cons_zero, List.set_cons_succ]
  refine wpAnyE_take (i := 2) (v := .int .i64 (clI x v)) (((fun _ _ h hb => h.below hb) : Stays (fun wx => XY w x y wx))) (fun _ h => h) rfl (by kernel_rfl) (by kernel_rfl) (by kernel_rfl) (by kernel_rfl) (fun _ _ _ h => h) (Or.inl ⟨by rfl, fun wq hSw => ?_⟩) ?_
  · refine RunB.of_calls (Clamp.clamp x v HX.out HV.out.1 HV.out.2 wq) (by go_simp) ?_
    rintro e wr ⟨rfl, hb⟩
    exact ⟨rfl, hb⟩
  try simp only [List.getElem_toArray, List.getElem_cons_zero, List.getElem_cons_succ, Act.put, List.setIfInBounds_toArray, List.set_cons_zero, List.set_cons_succ]
  refine wpAnyE_take (i := 5) (v := .int .i64 (clI y v)) (((fun _ _ h hb => h.below hb) : Stays (fun wx => XY w x y wx))) (fun _ h => h) rfl (by kernel_rfl) (by kernel_rfl) (by kernel_rfl) (by kernel_rfl) (fun _ _ _ h => h) (Or.inl ⟨by rfl, fun wq hSw => ?_⟩) ?_
  · refine RunB.of_calls (Clamp.clamp y v HY.out HV.out.1 HV.out.2 wq) (by go_simp) ?_
    rintro e wr ⟨rfl, hb⟩
    exact ⟨rfl, hb⟩
  try simp only [List.getElem_toArray, List.getElem_cons_zero, List.getElem_cons_succ, Act.put, List.setIfInBounds_toArray, List.set_cons_zero, List.set_cons_succ]
  refine wpAnyE_take (i := 6) (v := ?_) (((fun _ _ h hb => h.below hb) : Stays (fun wx => XY w x y wx))) (fun _ h => h) rfl (by kernel_rfl) (by kernel_rfl) (by kernel_rfl) (by kernel_rfl) (fun _ _ _ h => h) (SteadyB.of_yields (Or.inl ⟨by rfl, ?_⟩)) ?_
  rotate_left
  · intro wq hSw
    go_simp
    (try with_reducible rfl)
  try simp only [List.getElem_toArray, List.getElem_cons_zero, List.getElem_cons_succ, Act.put, List.setIfInBounds_toArray, List.set_cons_zero, List.set_cons_succ]
  refine wpAnyE_take (i := 7) (v := ?_) (((fun _ _ h hb => h.below hb) : Stays (fun wx => XY w x y wx))) (fun _ h => h) rfl (by kernel_rfl) (by kernel_rfl) (by kernel_rfl) (by kernel_rfl) (fun _ _ _ h => h) (SteadyB.of_yields (Or.inl ⟨by rfl, ?_⟩)) ?_
  rotate_left
  · intro wq hSw
    go_simp
    (try with_reducible rfl)
  try simp only [List.getElem_toArray, List.getElem_cons_zero, List.getElem_cons_succ, Act.put, List.setIfInBounds_toArray, List.set_cons_zero, List.set_cons_succ]
  refine wpAnyE_done (by kernel_rfl) (fun wz hSz => ?_) _
  have HG2 := hid hSz
  clear hSz HG1
  have hc := HC.out
  obtain ⟨a, ea⟩ : ∃ a, clI x v = a := ⟨_, rfl⟩
  obtain ⟨b, eb⟩ : ∃ b, clI y v = b := ⟨_, rfl⟩
  have c1 : cmpI x y < 0 := cmpI_ltz.2 hc
  have c2 : ¬ 0 < cmpI x y := fun h => by have := cmpI_gtz.1 h; omega
  have o2 : a ≤ b := by rw [← ea, ← eb]; exact clI_mono v (by omega)
  rw [ea] at HE HAG
  rw [ea, eb]
  have a1 : -V ≤ a := HE.out.1.1
  have a2 : a ≤ V := HE.out.1.2
  clear ea eb hc HC
  go_wp2_with fail
  refine (Wide.ofF (x := a) (by have := HE.out; omega) (by have := HE.out; omega) _).mono ?_
  rintro e w3 ⟨rfl, hb⟩
  have HG3 := hid (HG2.out.below hb)
  clear hb HG2
  go_wp2_with fail
  refine (HAG.out _).mono ?_
  rintro e w4 ⟨rfl, hb⟩
  have HG4 := hid (HG3.out.below hb)
  clear hb HG3
  obtain ⟨x0, x1⟩ := HG4.out.1.1.two
  obtain ⟨y0, y1⟩ := HG4.out.1.2.two
  go_wp2_with fail
  refine (Wide.cmpF HX.out HY.out _).mono ?_
  rintro e w5 ⟨rfl, hb⟩
  have HG5 := hid (HG4.out.below hb)
  clear hb HG4 x0 x1 y0 y1
  obtain ⟨x0, x1⟩ := HG5.out.1.1.two
  obtain ⟨y0, y1⟩ := HG5.out.1.2.two
  go_wp2_with fail
  refine (Wide.cmpF HX.out HY.out _).mono ?_
  rintro e w6 ⟨rfl, hb⟩
  have HG6 := hid (HG5.out.below hb)
  clear hb HG5 x0 x1 y0 y1
  go_wp2_with fail
  go_ret
  exact ⟨rfl, HG6.out.2⟩
set_option maxRecDepth 100000 in
set_option maxHeartbeats 8000000 in
theorem Cord.eq (x y v : Int) (hx : WR x) (hy : WR y) (v0 : -9223372036854775808 ≤ v) (v1 : v ≤ 9223372036854775807) (w : World) (hc : x = y) (htab : Tab10 w.heap.size w) :
    Calls Tryz.prog 13 #[wv x, wv y, .int .i64 v] w (Ans (.bool true) w) := by
  have HT := hid htab
  have HX := hid hx
  have HY := hid hy
  have HV := hid (And.intro v0 v1)
  have HG0 := hid (XY.new w x y)
  obtain ⟨V, hV⟩ : ∃ V, max v 0 = V := ⟨_, rfl⟩
  have hVb : 0 ≤ V ∧ V ≤ 9223372036854775807 := by omega
  have n1 : wrap64 (-V) = -V := by unfold wrap64; omega
  have n2 : IntKind.i64.wrap (-V) = -V := by rw [IntKind.wrap_i64]; omega
  have HE : Hid ((-V ≤ clI x v ∧ clI x v ≤ V) ∧ (-9223372036854775807 ≤ clI x v ∧ clI x v ≤ 9223372036854775807)) := hid ⟨by have := clI_in x v; rw [hV] at this; exact this, clI_bd v1⟩
  have HAG : Hid (∀ wq, Calls Tryz.prog 53 #[wv (clI x v), .int .i64 v] wq (Ans (.int .i64 (clI x v)) wq)) := hid (fun wq => by
    have h := Clamp.clamp (clI x v) v (by have := (clI_bd (x := x) v1); unfold WR; omega) v0 v1 wq
    rwa [clI_again] at h)
  have HC := hid hc
  clear htab hx hy v0 v1 hVb hc
  unfold wv
  go_enter Tryz.func13, Tryz.ntmps13
  go_wp2_with fail
  generalize ((w.alloc (.cells #[.int .i64 (hiW x), .int .u64 (loW x)] 34)).alloc (.cells #[.int .i64 (hiW y), .int .u64 (loW y)] 34)) = W0 at HG0 ⊢
  refine (Law12.awake _ (HT.out.at2 HG0.out.2)).mono ?_
  rintro e w1 ⟨rfl, hb⟩
  have HG1 := hid (HG0.out.below hb)
  clear hb HG0 HT
  go_wp2_with fail
  refine wp_region_grow (S := fun wx => XY w x y wx) 8 (by kernel_rfl) (((fun _ _ h hb => h.below hb) : Stays (fun wx => XY w x y wx)) _ _ HG1.out (Below.refl _ _).drew) ?_
  refine wpAnyE_take (i := 0) (v := ?_) (((fun _ _ h hb => h.below hb) : Stays (fun wx => XY w x y wx))) (fun _ h => h) rfl (by kernel_rfl) (by kernel_rfl) (by kernel_rfl) (by kernel_rfl) (fun _ _ _ h => h) (SteadyB.of_yields (Or.inl ⟨by rfl, ?_⟩)) ?_
  rotate_left
  · intro wq hSw
    obtain ⟨x0, x1⟩ := hSw.1.1.two
    obtain ⟨y0, y1⟩ := hSw.1.2.two
    go_simp
    (try with_reducible rfl)
  try simp only [List.getElem_toArray, List.getElem_cons_zero, List.getElem_cons_succ, Act.put, List.setIfInBounds_toArray, List.set_cons_zero, List.set_cons_succ]
  refine wpAnyE_take (i := 1) (v := ?_) (((fun _ _ h hb => h.below hb) : Stays (fun wx => XY w x y wx))) (fun _ h => h) rfl (by kernel_rfl) (by kernel_rfl) (by kernel_rfl) (by kernel_rfl) (fun _ _ _ h => h) (SteadyB.of_yields (Or.inl ⟨by rfl, ?_⟩)) ?_
  rotate_left
  · intro wq hSw
    go_simp
    (try with_reducible rfl)
  try simp only [List.getElem_toArray, List.getElem_cons_zero, List.getElem_cons_succ, Act.put, List.setIfInBounds_toArray, List.set_cons_zero, List.set_cons_succ]
  refine wpAnyE_take (i := 3) (v := ?_) (((fun _ _ h hb => h.below hb) : Stays (fun wx => XY w x y wx))) (fun _ h => h) rfl (by kernel_rfl) (by kernel_rfl) (by kernel_rfl) (by kernel_rfl) (fun _ _ _ h => h) (SteadyB.of_yields (Or.inl ⟨by rfl, ?_⟩)) ?_
  rotate_left
  · intro wq hSw
    obtain ⟨x0, x1⟩ := hSw.1.1.two
    obtain ⟨y0, y1⟩ := hSw.1.2.two
    go_simp
    (try with_reducible rfl)
  try simp only [List.getElem_toArray, List.getElem_cons_zero, List.getElem_cons_succ, Act.put, List.setIfInBounds_toArray, List.set_cons_zero, List.set_cons_succ]
  refine wpAnyE_take (i := 4) (v := ?_) (((fun _ _ h hb => h.below hb) : Stays (fun wx => XY w x y wx))) (fun _ h => h) rfl (by kernel_rfl) (by kernel_rfl) (by kernel_rfl) (by kernel_rfl) (fun _ _ _ h => h) (SteadyB.of_yields (Or.inl ⟨by rfl, ?_⟩)) ?_
  rotate_left
  · intro wq hSw
    go_simp
    (try with_reducible rfl)
  try simp only [List.getElem_toArray, List.getElem_cons_zero, List.getElem_cons_succ, Act.put, List.setIfInBounds_toArray, List.set_cons_zero, List.set_cons_succ]
  refine wpAnyE_take (i := 2) (v := .int .i64 (clI x v)) (((fun _ _ h hb => h.below hb) : Stays (fun wx => XY w x y wx))) (fun _ h => h) rfl (by kernel_rfl) (by kernel_rfl) (by kernel_rfl) (by kernel_rfl) (fun _ _ _ h => h) (Or.inl ⟨by rfl, fun wq hSw => ?_⟩) ?_
  · refine RunB.of_calls (Clamp.clamp x v HX.out HV.out.1 HV.out.2 wq) (by go_simp) ?_
    rintro e wr ⟨rfl, hb⟩
    exact ⟨rfl, hb⟩
  try simp only [List.getElem_toArray, List.getElem_cons_zero, List.getElem_cons_succ, Act.put, List.setIfInBounds_toArray, List.set_cons_zero, List.set_cons_succ]
  refine wpAnyE_take (i := 5) (v := .int .i64 (clI y v)) (((fun _ _ h hb => h.below hb) : Stays (fun wx => XY w x y wx))) (fun _ h => h) rfl (by kernel_rfl) (by kernel_rfl) (by kernel_rfl) (by kernel_rfl) (fun _ _ _ h => h) (Or.inl ⟨by rfl, fun wq hSw => ?_⟩) ?_
  · refine RunB.of_calls (Clamp.clamp y v HY.out HV.out.1 HV.out.2 wq) (by go_simp) ?_
    rintro e wr ⟨rfl, hb⟩
    exact ⟨rfl, hb⟩
  try simp only [List.getElem_toArray, List.getElem_cons_zero, List.getElem_cons_succ, Act.put, List.setIfInBounds_toArray, List.set_cons_zero, List.set_cons_succ]
  refine wpAnyE_take (i := 6) (v := ?_) (((fun _ _ h hb => h.below hb) : Stays (fun wx => XY w x y wx))) (fun _ h => h) rfl (by kernel_rfl) (by kernel_rfl) (by kernel_rfl) (by kernel_rfl) (fun _ _ _ h => h) (SteadyB.of_yields (Or.inl ⟨by rfl, ?_⟩)) ?_
  rotate_left
  · intro wq hSw
    go_simp
    (try with_reducible rfl)
  try simp only [List.getElem_toArray, List.getElem_cons_zero, List.getElem_cons_succ, Act.put, List.setIfInBounds_toArray, List.set_cons_zero, List.set_cons_succ]
  refine wpAnyE_take (i := 7) (v := ?_) (((fun _ _ h hb => h.below hb) : Stays (fun wx => XY w x y wx))) (fun _ h => h) rfl (by kernel_rfl) (by kernel_rfl) (by kernel_rfl) (by kernel_rfl) (fun _ _ _ h => h) (SteadyB.of_yields (Or.inl ⟨by rfl, ?_⟩)) ?_
  rotate_left
  · intro wq hSw
    go_simp
    (try with_reducible rfl)
  try simp only [List.getElem_toArray, List.getElem_cons_zero, List.getElem_cons_succ, Act.put, List.setIfInBounds_toArray, List.set_cons_zero, List.set_cons_succ]
  refine wpAnyE_done (by kernel_rfl) (fun wz hSz => ?_) _
  have HG2 := hid hSz
  clear hSz HG1
  have hc := HC.out
  obtain ⟨a, ea⟩ : ∃ a, clI x v = a := ⟨_, rfl⟩
  obtain ⟨b, eb⟩ : ∃ b, clI y v = b := ⟨_, rfl⟩
  have c1 : ¬ cmpI x y < 0 := fun h => by have := cmpI_ltz.1 h; omega
  have c2 : ¬ 0 < cmpI x y := fun h => by have := cmpI_gtz.1 h; omega
  have o1 : b ≤ a := by rw [← ea, ← eb]; exact clI_mono v (by omega)
  have o2 : a ≤ b := by rw [← ea, ← eb]; exact clI_mono v (by omega)
  rw [ea] at HE HAG
  rw [ea, eb]
  have a1 : -V ≤ a := HE.out.1.1
  have a2 : a ≤ V := HE.out.1.2
  clear ea eb hc HC
  go_wp2_with fail
  refine (Wide.ofF (x := a) (by have := HE.out; omega) (by have := HE.out; omega) _).mono ?_
  rintro e w3 ⟨rfl, hb⟩
  have HG3 := hid (HG2.out.below hb)
  clear hb HG2
  go_wp2_with fail
  refine (HAG.out _).mono ?_
  rintro e w4 ⟨rfl, hb⟩
  have HG4 := hid (HG3.out.below hb)
  clear hb HG3
  obtain ⟨x0, x1⟩ := HG4.out.1.1.two
  obtain ⟨y0, y1⟩ := HG4.out.1.2.two
  go_wp2_with fail
  refine (Wide.cmpF HX.out HY.out _).mono ?_
  rintro e w5 ⟨rfl, hb⟩
  have HG5 := hid (HG4.out.below hb)
  clear hb HG4 x0 x1 y0 y1
  obtain ⟨x0, x1⟩ := HG5.out.1.1.two
  obtain ⟨y0, y1⟩ := HG5.out.1.2.two
  go_wp2_with fail
  refine (Wide.cmpF HX.out HY.out _).mono ?_
  rintro e w6 ⟨rfl, hb⟩
  have HG6 := hid (HG5.out.below hb)
  clear hb HG5 x0 x1 y0 y1
  go_wp2_with fail
  go_ret
  exact ⟨rfl, HG6.out.2⟩
set_option maxRecDepth 100000 in
set_option maxHeartbeats 8000000 in
theorem Cord.gt (x y v : Int) (hx : WR x) (hy : WR y) (v0 : -9223372036854775808 ≤ v) (v1 : v ≤ 9223372036854775807) (w : World) (hc : y < x) (htab : Tab10 w.heap.size w) :
    Calls Tryz.prog 13 #[wv x, wv y, .int .i64 v] w (Ans (.bool true) w) := by
  have HT := hid htab
  have HX := hid hx
  have HY := hid hy
  have HV := hid (And.intro v0 v1)
  have HG0 := hid (XY.new w x y)
  obtain ⟨V, hV⟩ : ∃ V, max v 0 = V := ⟨_, rfl⟩
  have hVb : 0 ≤ V ∧ V ≤ 9223372036854775807 := by omega
  have n1 : wrap64 (-V) = -V := by unfold wrap64; omega
  have n2 : IntKind.i64.wrap (-V) = -V := by rw [IntKind.wrap_i64]; omega
  have HE : Hid ((-V ≤ clI x v ∧ clI x v ≤ V) ∧ (-9223372036854775807 ≤ clI x v ∧ clI x v ≤ 9223372036854775807)) := hid ⟨by have := clI_in x v; rw [hV] at this; exact this, clI_bd v1⟩
  have HAG : Hid (∀ wq, Calls Tryz.prog 53 #[wv (clI x v), .int .i64 v] wq (Ans (.int .i64 (clI x v)) wq)) := hid (fun wq => by
    have h := Clamp.clamp (clI x v) v (by have := (clI_bd (x := x) v1); unfold WR; omega) v0 v1 wq
    rwa [clI_again] at h)
  have HC := hid hc
  clear htab hx hy v0 v1 hVb hc
  unfold wv
  go_enter Tryz.func13, Tryz.ntmps13
  go_wp2_with fail
  generalize ((w.alloc (.cells #[.int .i64 (hiW x), .int .u64 (loW x)] 34)).alloc (.cells #[.int .i64 (hiW y), .int .u64 (loW y)] 34)) = W0 at HG0 ⊢
  refine (Law12.awake _ (HT.out.at2 HG0.out.2)).mono ?_
  rintro e w1 ⟨rfl, hb⟩
  have HG1 := hid (HG0.out.below hb)
  clear hb HG0 HT
  go_wp2_with fail
  refine wp_region_grow (S := fun wx => XY w x y wx) 8 (by kernel_rfl) (((fun _ _ h hb => h.below hb) : Stays (fun wx => XY w x y wx)) _ _ HG1.out (Below.refl _ _).drew) ?_
  refine wpAnyE_take (i := 0) (v := ?_) (((fun _ _ h hb => h.below hb) : Stays (fun wx => XY w x y wx))) (fun _ h => h) rfl (by kernel_rfl) (by kernel_rfl) (by kernel_rfl) (by kernel_rfl) (fun _ _ _ h => h) (SteadyB.of_yields (Or.inl ⟨by rfl, ?_⟩)) ?_
  rotate_left
  · intro wq hSw
    obtain ⟨x0, x1⟩ := hSw.1.1.two
    obtain ⟨y0, y1⟩ := hSw.1.2.two
    go_simp
    (try with_reducible rfl)
  try simp only [List.getElem_toArray, List.getElem_cons_zero, List.getElem_cons_succ, Act.put, List.setIfInBounds_toArray, List.set_cons_zero, List.set_cons_succ]
  refine wpAnyE_take (i := 1) (v := ?_) (((fun _ _ h hb => h.below hb) : Stays (fun wx => XY w x y wx))) (fun _ h => h) rfl (by kernel_rfl) (by kernel_rfl) (by kernel_rfl) (by kernel_rfl) (fun _ _ _ h => h) (SteadyB.of_yields (Or.inl ⟨by rfl, ?_⟩)) ?_
  rotate_left
  · intro wq hSw
    go_simp
    (try with_reducible rfl)
  try simp only [List.getElem_toArray, List.getElem_cons_zero, List.getElem_cons_succ, Act.put, List.setIfInBounds_toArray, List.set_cons_zero, List.set_cons_succ]
  refine wpAnyE_take (i := 3) (v := ?_) (((fun _ _ h hb => h.below hb) : Stays (fun wx => XY w x y wx))) (fun _ h => h) rfl (by kernel_rfl) (by kernel_rfl) (by kernel_rfl) (by kernel_rfl) (fun _ _ _ h => h) (SteadyB.of_yields (Or.inl ⟨by rfl, ?_⟩)) ?_
  rotate_left
  · intro wq hSw
    obtain ⟨x0, x1⟩ := hSw.1.1.two
    obtain ⟨y0, y1⟩ := hSw.1.2.two
    go_simp
    (try with_reducible rfl)
  try simp only [List.getElem_toArray, List.getElem_cons_zero, List.getElem_cons_succ, Act.put, List.setIfInBounds_toArray, List.set_cons_zero, List.set_cons_succ]
  refine wpAnyE_take (i := 4) (v := ?_) (((fun _ _ h hb => h.below hb) : Stays (fun wx => XY w x y wx))) (fun _ h => h) rfl (by kernel_rfl) (by kernel_rfl) (by kernel_rfl) (by kernel_rfl) (fun _ _ _ h => h) (SteadyB.of_yields (Or.inl ⟨by rfl, ?_⟩)) ?_
  rotate_left
  · intro wq hSw
    go_simp
    (try with_reducible rfl)
  try simp only [List.getElem_toArray, List.getElem_cons_zero, List.getElem_cons_succ, Act.put, List.setIfInBounds_toArray, List.set_cons_zero, List.set_cons_succ]
  refine wpAnyE_take (i := 2) (v := .int .i64 (clI x v)) (((fun _ _ h hb => h.below hb) : Stays (fun wx => XY w x y wx))) (fun _ h => h) rfl (by kernel_rfl) (by kernel_rfl) (by kernel_rfl) (by kernel_rfl) (fun _ _ _ h => h) (Or.inl ⟨by rfl, fun wq hSw => ?_⟩) ?_
  · refine RunB.of_calls (Clamp.clamp x v HX.out HV.out.1 HV.out.2 wq) (by go_simp) ?_
    rintro e wr ⟨rfl, hb⟩
    exact ⟨rfl, hb⟩
  try simp only [List.getElem_toArray, List.getElem_cons_zero, List.getElem_cons_succ, Act.put, List.setIfInBounds_toArray, List.set_cons_zero, List.set_cons_succ]
  refine wpAnyE_take (i := 5) (v := .int .i64 (clI y v)) (((fun _ _ h hb => h.below hb) : Stays (fun wx => XY w x y wx))) (fun _ h => h) rfl (by kernel_rfl) (by kernel_rfl) (by kernel_rfl) (by kernel_rfl) (fun _ _ _ h => h) (Or.inl ⟨by rfl, fun wq hSw => ?_⟩) ?_
  · refine RunB.of_calls (Clamp.clamp y v HY.out HV.out.1 HV.out.2 wq) (by go_simp) ?_
    rintro e wr ⟨rfl, hb⟩
    exact ⟨rfl, hb⟩
  try simp only [List.getElem_toArray, List.getElem_cons_zero, List.getElem_cons_succ, Act.put, List.setIfInBounds_toArray, List.set_cons_zero, List.set_cons_succ]
  refine wpAnyE_take (i := 6) (v := ?_) (((fun _ _ h hb => h.below hb) : Stays (fun wx => XY w x y wx))) (fun _ h => h) rfl (by kernel_rfl) (by kernel_rfl) (by kernel_rfl) (by kernel_rfl) (fun _ _ _ h => h) (SteadyB.of_yields (Or.inl ⟨by rfl, ?_⟩)) ?_
  rotate_left
  · intro wq hSw
    go_simp
    (try with_reducible rfl)
  try simp only [List.getElem_toArray, List.getElem_cons_zero, List.getElem_cons_succ, Act.put, List.setIfInBounds_toArray, List.set_cons_zero, List.set_cons_succ]
  refine wpAnyE_take (i := 7) (v := ?_) (((fun _ _ h hb => h.below hb) : Stays (fun wx => XY w x y wx))) (fun _ h => h) rfl (by kernel_rfl) (by kernel_rfl) (by kernel_rfl) (by kernel_rfl) (fun _ _ _ h => h) (SteadyB.of_yields (Or.inl ⟨by rfl, ?_⟩)) ?_
  rotate_left
  · intro wq hSw
    go_simp
    (try with_reducible rfl)
  try simp only [List.getElem_toArray, List.getElem_cons_zero, List.getElem_cons_succ, Act.put, List.setIfInBounds_toArray, List.set_cons_zero, List.set_cons_succ]
  refine wpAnyE_done (by kernel_rfl) (fun wz hSz => ?_) _
  have HG2 := hid hSz
  clear hSz HG1
  have hc := HC.out
  obtain ⟨a, ea⟩ : ∃ a, clI x v = a := ⟨_, rfl⟩
  obtain ⟨b, eb⟩ : ∃ b, clI y v = b := ⟨_, rfl⟩
  have c1 : ¬ cmpI x y < 0 := fun h => by have := cmpI_ltz.1 h; omega
  have c2 : 0 < cmpI x y := cmpI_gtz.2 hc
  have o1 : b ≤ a := by rw [← ea, ← eb]; exact clI_mono v (by omega)
  rw [ea] at HE HAG
  rw [ea, eb]
  have a1 : -V ≤ a := HE.out.1.1
  have a2 : a ≤ V := HE.out.1.2
  clear ea eb hc HC
  go_wp2_with fail
  refine (Wide.ofF (x := a) (by have := HE.out; omega) (by have := HE.out; omega) _).mono ?_
  rintro e w3 ⟨rfl, hb⟩
  have HG3 := hid (HG2.out.below hb)
  clear hb HG2
  go_wp2_with fail
  refine (HAG.out _).mono ?_
  rintro e w4 ⟨rfl, hb⟩
  have HG4 := hid (HG3.out.below hb)
  clear hb HG3
  obtain ⟨x0, x1⟩ := HG4.out.1.1.two
  obtain ⟨y0, y1⟩ := HG4.out.1.2.two
  go_wp2_with fail
  refine (Wide.cmpF HX.out HY.out _).mono ?_
  rintro e w5 ⟨rfl, hb⟩
  have HG5 := hid (HG4.out.below hb)
  clear hb HG4 x0 x1 y0 y1
  obtain ⟨x0, x1⟩ := HG5.out.1.1.two
  obtain ⟨y0, y1⟩ := HG5.out.1.2.two
  go_wp2_with fail
  refine (Wide.cmpF HX.out HY.out _).mono ?_
  rintro e w6 ⟨rfl, hb⟩
  have HG6 := hid (HG5.out.below hb)
  clear hb HG5 x0 x1 y0 y1
  go_wp2_with fail
  go_ret
  exact ⟨rfl, HG6.out.2⟩
theorem Cord.law (h1 l1 h2 l2 v : Int) (w : World) (w0 : IsWd h1 l1) (w1 : IsWd h2 l2) (w2 : (Lit.int .i64 v).wf = true) (htab : Tab10 w.heap.size w) :
    Calls Tryz.prog 13 #[.agg #[.int .i64 h1, .int .u64 l1], .agg #[.int .i64 h2, .int .u64 l2], .int .i64 v] w fun e w' => e = .returned (.bool true) ∧ Below w.heap.size w w' := by
  obtain ⟨e1, e2⟩ := IsW.words w0
  obtain ⟨e3, e4⟩ := IsW.words w1
  have hx := w0.wr
  have hy := w1.wr
  obtain ⟨v0, v1⟩ := bounds_i64 w2
  generalize h1 * 18446744073709551616 + l1 = x at *
  generalize h2 * 18446744073709551616 + l2 = y at *
  rw [e1, e2, e3, e4]
  rcases Int.lt_trichotomy x y with h | h | h
  · exact Cord.lt x y v hx hy v0 v1 w h htab
  · exact Cord.eq x y v hx hy v0 v1 w h htab
  · exact Cord.gt x y v hx hy v0 v1 w h htab
end

end Go.Proofs.YthmilhhihcmdhaaGreatDoor

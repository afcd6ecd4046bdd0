/- Texts of LimitsKeep's proof, together. -/
import Derived.Test.YtegohmeapamoaaaGreatDoorLimitsKeepZ15
import Derived.Test.YtegohmeapamoaaaGreatDoorLimitsKeepZ10
import Derived.Test.YtegohmeapamoaaaGreatDoorRbM
import Derived.Test.YtegohmeapamoaaaGreatDoorRbB
import Derived.Test.YtegohmeapamoaaaGreatDoorBits
import Derived.Test.YtegohmeapamoaaaGreatDoorLimitsKeepZ0
import Derived.Test.YtegohmeapamoaaaGreatDoorLimitsKeepZ7
import Derived.Test.YtegohmeapamoaaaGreatDoorDtG
import Derived.Test.YtegohmeapamoaaaGreatDoorLimitsKeepZ17
import Derived.Test.YtegohmeapamoaaaGreatDoorStr
import Derived.Test.YtegohmeapamoaaaGreatDoorLimitsKeepZ12
import Derived.Test.YtegohmeapamoaaaGreatDoorClC
import Derived.Deep.AppendLies
import Derived.Shelf.Lay
import Derived.Shelf.Slices.Empties2
import Derived.Deep.LoopGhost
import Derived.Deep.QuietTactic
import Derived.BigQuiet
import Derived.Laws.OwnMore
import Derived.Deep.RegionHeld3
import Derived.Deep.RegionWith
import Derived.OwnWalk
import Derived.Deep.CutBlock
import Derived.Deep.DeepCutAuto
import Derived.Test.YtegohmeapamoaaaGreatDoorLimitsKeepZ21
import Derived.Test.YtegohmeapamoaaaGreatDoorOpen
import Derived.Test.YtegohmeapamoaaaGreatDoorRdu
import Derived.Deep.SlicePairs
namespace Go.Proofs.YtegohmeapamoaaaGreatDoor
/- ClampOrders: the walk. -/
section
open Go.RowKit
theorem Wide.cmpF {a b : Int} (ha : WR a) (hb : WR b) (w : World) : Calls Tryz.prog 166 #[wv a, wv b] w (Ans (.int .i64 (cmpI a b)) w) :=
  (Wide.cmp _ _ _ _ a b (isW_of ha) (isW_of hb) w).mono (by rintro e w' ⟨c, rfl, hc, hb⟩; exact ⟨by rw [hc.eq], hb⟩)
end

/- What may be asked for: the functions of limits, and the document's. -/
section
open Go.RowKit
/-- What is there, and may be. -/
structure Cf where
  c : Int
  t : Int
  k : Int
  s : Int
  o : Int
abbrev Cf.val (q : Cf) : Value := .agg #[.int .i64 q.c, .int .i64 q.t, .int .u64 q.k, .int .u64 q.s, .int .u64 q.o]
def Cf.cells (q : Cf) : List Value := [.int .i64 q.c, .int .i64 q.t, .int .u64 q.k, .int .u64 q.s, .int .u64 q.o]
def Cf.In (q : Cf) : Prop := (Lit.int .i64 q.c).wf = true ∧ (Lit.int .i64 q.t).wf = true ∧ IsT q.k ∧ IsT q.s ∧ IsT q.o
theorem Cf.at {w : World} {g : Nat} (q : Cf) (h : Cs w g q.cells) : w.cell? ⟨g, 0, none⟩ = some (.int .i64 q.c) ∧ w.cell? ⟨g, 1, none⟩ = some (.int .i64 q.t) ∧ w.cell? ⟨g, 2, none⟩ = some (.int .u64 q.k) ∧ w.cell? ⟨g, 3, none⟩ = some (.int .u64 q.s) ∧ w.cell? ⟨g, 4, none⟩ = some (.int .u64 q.o) :=
  ⟨(h 0 _ rfl).1, (h 1 _ rfl).1, (h 2 _ rfl).1, (h 3 _ rfl).1, (h 4 _ rfl).1⟩
theorem Cf.new (w : World) (T : TypeId) (q : Cf) : Cs (w.alloc (.cells #[.int .i64 q.c, .int .i64 q.t, .int .u64 q.k, .int .u64 q.s, .int .u64 q.o] T)) w.heap.size q.cells := Cs.alloc_new w T q.cells
def upI (n m : Int) : Int := if 1 ≤ n ∧ n ≤ m then 0 else 3
theorem upI_cases (n m : Int) : (n < 1 ∧ upI n m = 3) ∨ (¬ n < 1 ∧ m < n ∧ upI n m = 3) ∨ (¬ n < 1 ∧ ¬ m < n ∧ upI n m = 0) := by unfold upI; split <;> omega
theorem Limits.upU (n m : Int) (w : World) : Calls Tryz.prog 73 #[.int .u64 n, .int .u64 m] w (Ans (.int .i64 (upI n m)) w) := by
  rcases upI_cases n m with ⟨h1, e⟩ | ⟨h1, h2, e⟩ | ⟨h1, h2, e⟩
  all_goals
    rw [e]
    clear e
    go_enter Tryz.func73, Tryz.ntmps73
    go_wp2_with fail
    go_ret
    exact ⟨rfl, Below.refl _ _⟩
theorem Limits.weight (q : Cf) (n : Int) (w : World) : Calls Tryz.prog 20 #[q.val, .int .u64 n] w (Ans (.int .i64 (upI n 1048576)) w) := by
  have HB0 := hid ((Below.refl w.heap.size w).alloc (Nat.le_refl _) (.cells #[.int .i64 q.c, .int .i64 q.t, .int .u64 q.k, .int .u64 q.s, .int .u64 q.o] 24))
  have HC0 := hid (Cf.new w 24 q)
  unfold Cf.val
  go_enter Tryz.func20, Tryz.ntmps20
  go_upto_region 1 with fail
  generalize (w.alloc (.cells #[.int .i64 q.c, .int .i64 q.t, .int .u64 q.k, .int .u64 q.s, .int .u64 q.o] 24)) = W0 at HB0 HC0 ⊢
  obtain ⟨q0, q1, q2, q3, q4⟩ := Cf.at q HC0.out
  go_wp2_with fail
  refine (Limits.upU n _ _).mono ?_
  rintro e w1 ⟨rfl, hb⟩
  have HB1 := hid (below_on HB0.out hb)
  clear hb HB0 HC0 q0 q1 q2 q3 q4
  go_wp2_with fail
  go_ret
  exact ⟨rfl, HB1.out⟩
/-- The first of some errors that isn't OK. -/
def allI : List Int → Int
  | [] => 0
  | e :: l => if e = 0 then allI l else e
theorem allI_take (l : List Int) (k : Nat) (hk : k < l.length) (h : ∀ e ∈ l.take k, e = 0) : (l.getD k 0 = 0 ∧ ∀ e ∈ l.take (k + 1), e = 0) ∨ (l.getD k 0 ≠ 0 ∧ allI l = l.getD k 0) := by
  induction l generalizing k with
  | nil => simp at hk
  | cons a l ih =>
    cases k with
    | zero =>
      by_cases ha : a = 0
      · left; simpa using ha
      · right; refine ⟨by simpa using ha, ?_⟩; simp [allI, ha]
    | succ k =>
      have ha : a = 0 := h a (by simp)
      rcases ih k (by simpa using hk) (fun e he => h e (by simp [he])) with ⟨h1, h2⟩ | ⟨h1, h2⟩
      · left; refine ⟨by simpa using h1, ?_⟩
        intro e he
        simp only [List.take_succ_cons, List.mem_cons] at he
        rcases he with rfl | he
        · exact ha
        · exact h2 e he
      · right; refine ⟨by simpa using h1, ?_⟩; simp [allI, ha, h2]
theorem allI_end (l : List Int) (h : ∀ e ∈ l, e = 0) : allI l = 0 := by
  induction l with
  | nil => rfl
  | cons a l ih => simp [allI, h a (by simp), ih fun e he => h e (by simp [he])]
set_option maxRecDepth 100000 in
set_option maxHeartbeats 2000000 in
theorem Limits.all (A : Option Addr) (n c : Nat) (l : List Int) (w : World) (hr : RdU .i64 w A n l) (hn : n ≤ 9223372036854775807) : Calls Tryz.prog 29 #[.slice A n c] w (Ans (.int .i64 (allI l)) w) := by
  have HR := hid hr
  have HLN : Hid (l.length = n) := hid hr.1
  clear hr
  go_enter Tryz.func29, Tryz.ntmps29
  go_wp2_with fail
  go_loopg [7] n (fun s i wr => ∃ k : Nat, i = .int .i64 k ∧ k ≤ n ∧ s = n - k ∧ Hid (∀ e ∈ l.take k, e = 0) ∧ Below w.heap.size w wr)
  case atStart => exact ⟨0, rfl, Nat.zero_le _, by omega, hid (by simp), Below.refl _ _⟩
  case round =>
    obtain ⟨k, rfl, hk, hs, hz, hb⟩ := hrel
    have HS := hid hs
    have HB := hid hb
    clear hs hb
    by_cases hkn : k < n
    · have hki : (k : Int) < n := by omega
      have hk0 : (0 : Int) ≤ k := by omega
      obtain ⟨bb, off, hA, _, hc⟩ := (HR.out.below HB.out).2 k hkn
      subst hA
      have hcase := hid (allI_take l k (by have := HLN.out; omega) hz.out)
      have hcell := hc k hkn
      generalize l.getD k 0 = e at hcell hcase
      rcases hcase.out with ⟨h1, h2⟩ | ⟨h1, h2⟩
      · subst h1
        have HZ2 := hid h2
        clear h2 hcase hc hz
        go_wp2_with fail
        go_roundg (n - (k + 1))
        case measure => have := HS.out; omega
        case rel => exact ⟨k + 1, by go_num, by omega, rfl, HZ2, HB.out⟩
      · have HZ2 := hid h2
        have hne : (e == 0) = false := by simpa using h1
        clear h2 hcase hc hz
        go_wp2_with fail
        go_ret
        exact ⟨by rw [HZ2.out] <;> rfl, HB.out⟩
    · have hki : ¬ (k : Int) < n := by omega
      have HE : Hid (allI l = 0) := hid (allI_end l (by have h := hz.out; rw [List.take_of_length_le (by have := HLN.out; omega)] at h; exact h))
      clear hz
      go_wp2_with fail
      go_ret
      exact ⟨by rw [HE.out] <;> rfl, HB.out⟩
end

/- How much of a lag is kept, by limits and by the document; which configuration may be. -/
section
open Go.RowKit
def kpI (q : Cf) (x n : Int) : Int := clI x (winI n q.k)
theorem kpI_bd (q : Cf) (x n : Int) : -9223372036854775807 ≤ kpI q x n ∧ kpI q x n ≤ 9223372036854775807 := by
  have := winI_bd n q.k
  exact clI_bd (by omega)
theorem kpI_again (q : Cf) (x n : Int) : kpI q (kpI q x n) n = kpI q x n := clI_again _ _
theorem kpI_no (q : Cf) (x : Int) {n : Int} (h : ¬ (1 ≤ n ∧ n ≤ 1099511627776)) : kpI q x n = 0 := by
  unfold kpI
  rw [(winOk_no (s := n) (t := q.k) (by omega)).1]
  unfold clI; omega
theorem kpI_grows (q : Cf) (x : Int) {a b : Int} (h : a ≤ b) (r1 : 1 ≤ a) (r2 : b ≤ 1099511627776) : max (kpI q x a) (-(kpI q x a)) ≤ max (kpI q x b) (-(kpI q x b)) := by
  unfold kpI
  by_cases hk : 1 ≤ q.k ∧ q.k ≤ 1099511627776
  · have e1 : winI a q.k = (2 * a + q.k) * 1048576 := by unfold winI; rw [if_pos (winOk_iff.2 (by omega))]
    have e2 : winI b q.k = (2 * b + q.k) * 1048576 := by unfold winI; rw [if_pos (winOk_iff.2 (by omega))]
    rw [e1, e2]
    unfold clI; omega
  · rw [(winOk_no (s := a) (t := q.k) (by omega)).1, (winOk_no (s := b) (t := q.k) (by omega)).1]
    unfold clI; omega
set_option maxRecDepth 100000 in
set_option maxHeartbeats 8000000 in
theorem Limits.keep (q : Cf) (x n : Int) (hk : IsT q.k) (hx : WR x) (hn : IsT n) (w : World) : Calls Tryz.prog 26 #[q.val, wv x, .int .u64 n] w (Ans (.int .i64 (kpI q x n)) w) := by
  have HX := hid hx
  have HN := hid hn
  have HK := hid hk
  have HV : Hid (-9223372036854775808 ≤ winI n q.k ∧ winI n q.k ≤ 9223372036854775807) := hid (by have := winI_bd n q.k; omega)
  obtain ⟨z, hz⟩ : ∃ z, winI n q.k = z := ⟨_, rfl⟩
  have HR : Hid (kpI q x n = clI x z) := hid (by unfold kpI; rw [hz])
  rw [hz] at HV
  rw [HR.out]
  have HZ := hid hz
  clear hk hx hn hz
  unfold Cf.val
  have HV0 : Hid (VS w [(w.heap.size, q.cells), (w.heap.size + 1, [.int .i64 (hiW x), .int .u64 (loW x)])] ((w.alloc (.cells #[.int .i64 q.c, .int .i64 q.t, .int .u64 q.k, .int .u64 q.s, .int .u64 q.o] 24)).alloc (.cells #[.int .i64 (hiW x), .int .u64 (loW x)] 26))) := hid (by have h := (((VS.nil w).new 24 q.cells).new 26 [.int .i64 (hiW x), .int .u64 (loW x)]); (try simp only [World.size_alloc] at h); exact h)
  go_enter Tryz.func26, Tryz.ntmps26
  go_upto_region 1 with fail
  generalize ((w.alloc (.cells #[.int .i64 q.c, .int .i64 q.t, .int .u64 q.k, .int .u64 q.s, .int .u64 q.o] 24)).alloc (.cells #[.int .i64 (hiW x), .int .u64 (loW x)] 26)) = W0 at HV0 ⊢
  obtain ⟨q0, q1, q2, q3, q4⟩ := Cf.at q (HV0.out.cs 0 rfl)
  go_wp2_with fail
  refine (Clamp.window n q.k HN.out HK.out _).mono ?_
  rw [HZ.out]
  rintro e w1 ⟨rfl, hb⟩
  have HV1 := hid (HV0.out.below hb)
  clear hb HV0 q0 q1 q2 q3 q4
  obtain ⟨x0, x1⟩ := (HV1.out.cs 1 rfl).two
  go_wp2_with fail
  refine (Clamp.clamp x z HX.out HV.out.1 HV.out.2 _).mono ?_
  rintro e w2 ⟨rfl, hb⟩
  have HV2 := hid (HV1.out.below hb)
  clear hb HV1 x0 x1
  go_wp2_with fail
  go_ret
  exact ⟨rfl, HV2.out.bel⟩
end

/- Configurations, and slices of errors' numbers: how they are opened, for the laws' frames. -/
section
open Go.ChangeShapes Go.WideShapes Go.ChangeAt Go.RowKit Go.Joins Go.Deep
theorem cellsIntL : Tryz.prog.cellsOf 3 = 1 := by kernel_rfl
theorem cellsU64L : Tryz.prog.cellsOf 22 = 1 := by kernel_rfl
theorem cellsCfgL : Tryz.prog.cellsOf 24 = 5 := by kernel_rfl
set_option maxRecDepth 100000 in
theorem open_cfg {H : Type} {enc : TypeId × Value → H} {W : World} {base b0 : Nat} {spare : Nat → Bool} {held : Bool} {r : Reach} {v : Value} {d : DataW H} {p : List MemPlace}
    (hv : Value.okWide Tryz.prog W r b0 24 v) (h : DataW.Trod enc Tryz.prog W base spare held 24 v d p) :
    ∃ q : Cf, v = q.val ∧ q.In := by
  obtain ⟨cs, rfl, hsz⟩ := okWide_struct Tryz.underlying24 hv
  obtain ⟨l⟩ := cs
  match l, hsz.trans cellsCfgL with
  | [u0, u1, u2, u3, u4], _ =>
    obtain ⟨fuel, hf⟩ := h
    obtain ⟨xs, k, hk, hxy, _, hxl, hf⟩ := DataW.trod_struct Tryz.underlying24 hf
    match xs, hxl with
    | [y0, y1, y2, y3, y4], _ =>
      have g0 := hf 0 _ rfl
      have g1 := hf 1 _ rfl
      have g2 := hf 2 _ rfl
      have g3 := hf 3 _ rfl
      have g4 := hf 4 _ rfl
      simp [Value.cells, cellsIntL, cellsU64L] at g0 g1 g2 g3 g4
      obtain ⟨c0, e0, _, w0⟩ := DataW.trod_int Tryz.underlying3 g0
      obtain ⟨c1, e1, _, w1⟩ := DataW.trod_int Tryz.underlying3 g1
      obtain ⟨c2, e2, _, w2⟩ := DataW.trod_int Tryz.underlying22 g2
      obtain ⟨c3, e3, _, w3⟩ := DataW.trod_int Tryz.underlying22 g3
      obtain ⟨c4, e4, _, w4⟩ := DataW.trod_int Tryz.underlying22 g4
      simp at e0 e1 e2 e3 e4
      subst e0 e1 e2 e3 e4
      exact ⟨⟨c0, c1, c2, c3, c4⟩, rfl, w0, w1, bounds_u64 w2, bounds_u64 w3, bounds_u64 w4⟩
end

end Go.Proofs.YtegohmeapamoaaaGreatDoor

/- Texts of LimitsAsk's proof, together. -/
import Derived.Test.YtegohmeapamoaaaGreatDoorLimitsAskZ15
import Derived.Test.YtegohmeapamoaaaGreatDoorLimitsAskZ10
import Derived.Test.YtegohmeapamoaaaGreatDoorRbM
import Derived.Test.YtegohmeapamoaaaGreatDoorRbB
import Derived.Test.YtegohmeapamoaaaGreatDoorLimitsAskZ25
import Derived.Test.YtegohmeapamoaaaGreatDoorDtG
import Derived.Test.YtegohmeapamoaaaGreatDoorLimitsAskZ20
import Derived.Test.YtegohmeapamoaaaGreatDoorStr
import Derived.Test.YtegohmeapamoaaaGreatDoorLimitsAskZ12
import Derived.Deep.AppendLies
import Derived.Shelf.Lay
import Derived.Shelf.Slices.Empties2
import Derived.Test.YtegohmeapamoaaaGreatDoorClC
import Derived.Test.YtegohmeapamoaaaGreatDoorLimitsAskZ24
import Derived.Deep.CutBlock
import Derived.Deep.DeepCutAuto
import Derived.Test.YtegohmeapamoaaaGreatDoorLimitsAskZ26
import Derived.Test.YtegohmeapamoaaaGreatDoorOpen
import Derived.Test.YtegohmeapamoaaaGreatDoorRdu
import Derived.Deep.SlicePairs
namespace Go.Proofs.YtegohmeapamoaaaGreatDoor
/- The chapter's example of layer 9, as the laws ask it. -/
section
open Go.RowKit
/-- The example's variables. -/
def A9 (w : World) (g3 g4 g5 : Nat) (W : World) : Prop := (Cs W w.heap.size (pcells (5, 0, 1)) ∧ Cs W (w.heap.size + 1) (pcells (8, 0, 1)) ∧ Cs W g3 (Mu.mk 5 3 2 2).cells) ∧ (Cs W g4 [.int .i64 (hiW 1), .int .u64 (loW 1)] ∧ Cs W g5 [.int .i64 (hiW (-2)), .int .u64 (loW (-2))]) ∧ Below w.heap.size w W
theorem A9.below {w w1 w2 : World} {g3 g4 g5 : Nat} (h : A9 w g3 g4 g5 w1) (hb : Below w1.heap.size w1 w2) : A9 w g3 g4 g5 w2 := ⟨⟨h.1.1.below hb, h.1.2.1.below hb, h.1.2.2.below hb⟩, ⟨h.2.1.1.below hb, h.2.1.2.below hb⟩, below_on h.2.2 hb⟩
theorem A9.stays (w : World) (g3 g4 g5 : Nat) : Stays (A9 w g3 g4 g5) := fun _ _ h hb => h.below hb
end

/- The contracts of the document's answer for layer 12. -/
section
open Go.RowKit
theorem Var.fin {w W : World} {g : Nat} {s0 : Bool} {A0 : Option Addr} {n0 c0 : Nat} (hv : Var W g s0 A0 n0 c0) (hb : Below w.heap.size w W) (hg : w.heap.size ≤ g) {L : Nat} {s : Bool} {A : Option Addr} {n c : Nat} {z : Int} (h : IsB W L s A n c z) :
    IsB ((W.setCell ⟨g, 0, none⟩ (.bool s)).setCell ⟨g, 1, none⟩ (.slice A n c)) L s A n c z ∧ Below w.heap.size w ((W.setCell ⟨g, 0, none⟩ (.bool s)).setCell ⟨g, 1, none⟩ (.slice A n c)) :=
  ⟨h.storeV hv _ _ _ _, (hb.setCell hg _).setCell hg _⟩
/-- What a call that answers a Big and whether there is one leaves. -/
def BOk (L : Nat) (z : Int) (ok : Bool) (w : World) (e : Ending) (w' : World) : Prop :=
  ∃ (s : Bool) (A : Option Addr) (n c : Nat), e = .returned (.tuple #[.agg #[.bool s, .slice A n c], .bool ok]) ∧ IsB w' L s A n c z ∧ Below w.heap.size w w'
set_option maxRecDepth 100000 in
set_option maxHeartbeats 2000000 in
theorem Ref12.window_no1 (s t : Int) (h1 : s < 1) (w : World) : Calls Tryz.prog 79 #[.int .u64 s, .int .u64 t] w (BOk 17 0 false w) := by
  have HVr := hid (Var.new w 39 false none 0 0)
  have HBW := hid ((Below.refl w.heap.size w).alloc (Nat.le_refl _) (.cells #[.bool false, .slice none 0 0] 39))
  go_enter Tryz.func79, Tryz.ntmps79
  go_wp2_with fail
  refine bodyPost_ret (v := .tuple #[.agg #[.bool false, .slice none 0 0], .bool false]) (by simp [results, Tryz.results79, go_sem]) rfl ⟨_, _, _, _, rfl, IsB.zero _ _, ?_⟩
  exact (Below.refl w.heap.size w).alloc (Nat.le_refl _) _
set_option maxRecDepth 100000 in
set_option maxHeartbeats 2000000 in
theorem Ref12.window_no2 (s t : Int) (h1 : ¬ s < 1) (h2 : 1099511627776 < s) (w : World) : Calls Tryz.prog 79 #[.int .u64 s, .int .u64 t] w (BOk 17 0 false w) := by
  have HVr := hid (Var.new w 39 false none 0 0)
  have HBW := hid ((Below.refl w.heap.size w).alloc (Nat.le_refl _) (.cells #[.bool false, .slice none 0 0] 39))
  go_enter Tryz.func79, Tryz.ntmps79
  go_wp2_with fail
  refine bodyPost_ret (v := .tuple #[.agg #[.bool false, .slice none 0 0], .bool false]) (by simp [results, Tryz.results79, go_sem]) rfl ⟨_, _, _, _, rfl, IsB.zero _ _, ?_⟩
  exact (Below.refl w.heap.size w).alloc (Nat.le_refl _) _
set_option maxRecDepth 100000 in
set_option maxHeartbeats 2000000 in
theorem Ref12.window_no3 (s t : Int) (h1 : ¬ s < 1) (h2 : ¬ 1099511627776 < s) (h3 : t < 1) (w : World) : Calls Tryz.prog 79 #[.int .u64 s, .int .u64 t] w (BOk 17 0 false w) := by
  have HVr := hid (Var.new w 39 false none 0 0)
  have HBW := hid ((Below.refl w.heap.size w).alloc (Nat.le_refl _) (.cells #[.bool false, .slice none 0 0] 39))
  go_enter Tryz.func79, Tryz.ntmps79
  go_wp2_with fail
  refine bodyPost_ret (v := .tuple #[.agg #[.bool false, .slice none 0 0], .bool false]) (by simp [results, Tryz.results79, go_sem]) rfl ⟨_, _, _, _, rfl, IsB.zero _ _, ?_⟩
  exact (Below.refl w.heap.size w).alloc (Nat.le_refl _) _
set_option maxRecDepth 100000 in
set_option maxHeartbeats 2000000 in
theorem Ref12.window_no4 (s t : Int) (h1 : ¬ s < 1) (h2 : ¬ 1099511627776 < s) (h3 : ¬ t < 1) (h4 : 1099511627776 < t) (w : World) : Calls Tryz.prog 79 #[.int .u64 s, .int .u64 t] w (BOk 17 0 false w) := by
  have HVr := hid (Var.new w 39 false none 0 0)
  have HBW := hid ((Below.refl w.heap.size w).alloc (Nat.le_refl _) (.cells #[.bool false, .slice none 0 0] 39))
  go_enter Tryz.func79, Tryz.ntmps79
  go_wp2_with fail
  refine bodyPost_ret (v := .tuple #[.agg #[.bool false, .slice none 0 0], .bool false]) (by simp [results, Tryz.results79, go_sem]) rfl ⟨_, _, _, _, rfl, IsB.zero _ _, ?_⟩
  exact (Below.refl w.heap.size w).alloc (Nat.le_refl _) _
set_option maxRecDepth 100000 in
set_option maxHeartbeats 4000000 in
theorem Ref12.window_yes (s t : Int) (h1 : ¬ s < 1) (h2 : ¬ 1099511627776 < s) (h3 : ¬ t < 1) (h4 : ¬ 1099511627776 < t) (w : World) : Calls Tryz.prog 79 #[.int .u64 s, .int .u64 t] w (BOk 17 (winI s t) true w) := by
  have HVr := hid (Var.new w 39 false none 0 0)
  have HBW := hid ((Below.refl w.heap.size w).alloc (Nat.le_refl _) (.cells #[.bool false, .slice none 0 0] 39))
  have e1 : IntKind.u64.wrap (2 * s) = 2 * s := by rw [IntKind.wrap_u64]; omega
  have HD := hid (show (0 ≤ 2 * s ∧ 2 * s ≤ 18446744073709551615) ∧ (0 ≤ t ∧ t ≤ 18446744073709551615) by omega)
  have E : Hid (winI s t = (2 * s + t) * 1048576) := hid (by unfold winI; rw [if_pos (winOk_iff.2 (by omega))])
  go_enter Tryz.func79, Tryz.ntmps79
  go_wp2_with fail
  clear h1 h2 h3 h4
  generalize w.alloc (.cells #[.bool false, .slice none 0 0] 39) = W0 at HVr HBW ⊢
  refine (Ref.U (2 * s) HD.out.1.1 HD.out.1.2 _).mono ?_
  rintro e w1 ⟨s1, A1, n1, c1, rfl, hB, hb⟩
  have H1 := hid (hB)
  clear hB
  replace HVr := hid (HVr.out.below hb)
  replace HBW := hid (below_keep HBW.out hb)
  clear hb
  obtain ⟨r0, r1, r2, r3, _⟩ := HVr.out
  have rl := HVr.out.lt
  go_wp2_with fail
  clear r0 r1 r2 r3 rl
  refine (Ref.U t HD.out.2.1 HD.out.2.2 _).mono ?_
  rintro e w2 ⟨s2, A2, n2, c2, rfl, hB, hb⟩
  have H2 := hid (hB)
  clear hB
  replace H1 := hid (H1.out.below hb)
  replace HVr := hid (HVr.out.below hb)
  replace HBW := hid (below_keep HBW.out hb)
  clear hb
  obtain ⟨r0, r1, r2, r3, _⟩ := HVr.out
  have rl := HVr.out.lt
  go_wp2_with fail
  clear r0 r1 r2 r3 rl
  refine (Ref.add 5 s1 s2 A1 A2 n1 c1 n2 c2 _ _ _ H1.out H2.out (by decide)).mono ?_
  rintro e w3 ⟨s3, A3, n3, c3, rfl, hB, hb⟩
  have H3 := hid (hB)
  clear hB
  replace H1 := hid (H1.out.below hb)
  replace H2 := hid (H2.out.below hb)
  replace HVr := hid (HVr.out.below hb)
  replace HBW := hid (below_keep HBW.out hb)
  clear hb
  obtain ⟨r0, r1, r2, r3, _⟩ := HVr.out
  have rl := HVr.out.lt
  go_wp2_with fail
  clear r0 r1 r2 r3 rl
  refine (Ref.U 1048576 (by decide) (by decide) _).mono ?_
  rintro e w4 ⟨s4, A4, n4, c4, rfl, hB, hb⟩
  have H4 := hid (hB)
  clear hB
  replace H1 := hid (H1.out.below hb)
  replace H2 := hid (H2.out.below hb)
  replace H3 := hid (H3.out.below hb)
  replace HVr := hid (HVr.out.below hb)
  replace HBW := hid (below_keep HBW.out hb)
  clear hb
  obtain ⟨r0, r1, r2, r3, _⟩ := HVr.out
  have rl := HVr.out.lt
  go_wp2_with fail
  clear r0 r1 r2 r3 rl
  refine (Ref.mul 6 5 s3 s4 A3 A4 n3 c3 n4 c4 _ _ _ H3.out H4.out (by decide) (by decide)).mono ?_
  rintro e w5 ⟨s5, A5, n5, c5, rfl, hB, hb⟩
  have H5 := hid (hB)
  clear hB
  replace H1 := hid (H1.out.below hb)
  replace H2 := hid (H2.out.below hb)
  replace H3 := hid (H3.out.below hb)
  replace H4 := hid (H4.out.below hb)
  replace HVr := hid (HVr.out.below hb)
  replace HBW := hid (below_keep HBW.out hb)
  clear hb
  rw [← E.out] at H5
  obtain ⟨r0, r1, r2, r3, _⟩ := HVr.out
  have rl := HVr.out.lt
  go_wp2_with fail
  have HFN := HVr.out.fin HBW.out (Nat.le_refl _) H5.out
  refine bodyPost_ret (v := .tuple #[.agg #[.bool s5, .slice A5 n5 c5], .bool true]) (by simp [results, Tryz.results79, go_sem, r0, r1, rl]) rfl ⟨_, _, _, _, rfl, HFN.1.mono (by omega), HFN.2⟩
theorem Ref12.window (s t : Int) (w : World) : Calls Tryz.prog 79 #[.int .u64 s, .int .u64 t] w (BOk 17 (winI s t) (winOk s t) w) := by
  by_cases h1 : s < 1
  · rw [(winOk_no (by omega)).1, (winOk_no (by omega)).2]; exact Ref12.window_no1 s t h1 w
  · by_cases h2 : 1099511627776 < s
    · rw [(winOk_no (by omega)).1, (winOk_no (by omega)).2]; exact Ref12.window_no2 s t h1 h2 w
    · by_cases h3 : t < 1
      · rw [(winOk_no (by omega)).1, (winOk_no (by omega)).2]; exact Ref12.window_no3 s t h1 h2 h3 w
      · by_cases h4 : 1099511627776 < t
        · rw [(winOk_no (by omega)).1, (winOk_no (by omega)).2]; exact Ref12.window_no4 s t h1 h2 h3 h4 w
        · rw [winOk_iff.2 (by omega)]; exact Ref12.window_yes s t h1 h2 h3 h4 w
end

/- ClampOrders: the walk. -/
section
open Go.RowKit
theorem Wide.cmpF {a b : Int} (ha : WR a) (hb : WR b) (w : World) : Calls Tryz.prog 166 #[wv a, wv b] w (Ans (.int .i64 (cmpI a b)) w) :=
  (Wide.cmp _ _ _ _ a b (isW_of ha) (isW_of hb) w).mono (by rintro e w' ⟨c, rfl, hc, hb⟩; exact ⟨by rw [hc.eq], hb⟩)
theorem cmpI_ltz {a b : Int} : cmpI a b < 0 ↔ a < b := by unfold cmpI; split <;> (try split) <;> omega
theorem cmpI_gtz {a b : Int} : 0 < cmpI a b ↔ b < a := by unfold cmpI; split <;> (try split) <;> omega
end

/- The contract of the document's answer for a lag within a window. -/
section
open Go.RowKit
/-- What stands in memory while the window is turned. -/
def CQ (w : World) (s0 : Bool) (A0 : Option Addr) (n0 c0 : Nat) (x : Int) (s9 : Bool) (A9 : Option Addr) (n9 c9 : Nat) (V : Int) (W : World) : Prop :=
  (Var W w.heap.size s0 A0 n0 c0 ∧ Var W (w.heap.size + 1) s9 A9 n9 c9 ∧ Var W (w.heap.size + 1 + 1) false none 0 0) ∧ (IsB W 18 s0 A0 n0 c0 x ∧ IsB W 18 s9 A9 n9 c9 V) ∧ Below w.heap.size w W
theorem CQ.below {w : World} {s0 : Bool} {A0 : Option Addr} {n0 c0 : Nat} {x : Int} {s9 : Bool} {A9 : Option Addr} {n9 c9 : Nat} {V : Int} {W W' : World} (h : CQ w s0 A0 n0 c0 x s9 A9 n9 c9 V W) (hb : Below W.heap.size W W') : CQ w s0 A0 n0 c0 x s9 A9 n9 c9 V W' :=
  ⟨⟨h.1.1.below hb, h.1.2.1.below hb, h.1.2.2.below hb⟩, ⟨h.2.1.1.below hb, h.2.1.2.below hb⟩, below_keep h.2.2 hb⟩
theorem CQ.drew {w : World} {s0 : Bool} {A0 : Option Addr} {n0 c0 : Nat} {x : Int} {s9 : Bool} {A9 : Option Addr} {n9 c9 : Nat} {V : Int} {W : World} (h : CQ w s0 A0 n0 c0 x s9 A9 n9 c9 V W) : CQ w s0 A0 n0 c0 x s9 A9 n9 c9 V W.drew := h.below (Below.refl _ _).drew
theorem CQ.x {w : World} {s0 : Bool} {A0 : Option Addr} {n0 c0 : Nat} {x : Int} {s9 : Bool} {A9 : Option Addr} {n9 c9 : Nat} {V : Int} {W : World} (h : CQ w s0 A0 n0 c0 x s9 A9 n9 c9 V W) : IsB W 18 s0 A0 n0 c0 x := h.2.1.1
theorem CQ.n {w : World} {s0 : Bool} {A0 : Option Addr} {n0 c0 : Nat} {x : Int} {s9 : Bool} {A9 : Option Addr} {n9 c9 : Nat} {V : Int} {W : World} (h : CQ w s0 A0 n0 c0 x s9 A9 n9 c9 V W) : IsB W 18 s9 A9 n9 c9 V := h.2.1.2
theorem CQ.see {w : World} {s0 : Bool} {A0 : Option Addr} {n0 c0 : Nat} {x : Int} {s9 : Bool} {A9 : Option Addr} {n9 c9 : Nat} {V : Int} {W : World} (h : CQ w s0 A0 n0 c0 x s9 A9 n9 c9 V W) :
    (W.cell? ⟨w.heap.size, 0, none⟩ = some (.bool s0) ∧ W.cell? ⟨w.heap.size, 1, none⟩ = some (.slice A0 n0 c0) ∧ W.cell? ⟨w.heap.size + 1, 0, none⟩ = some (.bool s9) ∧ W.cell? ⟨w.heap.size + 1, 1, none⟩ = some (.slice A9 n9 c9)) ∧ CQ w s0 A0 n0 c0 x s9 A9 n9 c9 V W :=
  ⟨⟨h.1.1.1, h.1.1.2.1, h.1.2.1.1, h.1.2.1.2.1⟩, h⟩
set_option maxRecDepth 100000 in
set_option maxHeartbeats 16000000 in
theorem Ref12.clamp (s0 s9 : Bool) (A0 A9 : Option Addr) (n0 c0 n9 c9 : Nat) (x v : Int) (w : World) (hx : IsB w 18 s0 A0 n0 c0 x) (hv : IsB w 18 s9 A9 n9 c9 v) : Calls Tryz.prog 80 #[.agg #[.bool s0, .slice A0 n0 c0], .agg #[.bool s9, .slice A9 n9 c9]] w (BAns 18 (clI x v) w) := by
  have HBW := hid ((((Below.refl w.heap.size w).alloc (Nat.le_refl _) (.cells #[.bool s0, .slice A0 n0 c0] 39)).alloc (by simp) (.cells #[.bool s9, .slice A9 n9 c9] 39)).alloc (by simp; omega) (.cells #[.bool false, .slice none 0 0] 39))
  have HVx := hid (((Var.new w 39 s0 A0 n0 c0).alloc (.cells #[.bool s9, .slice A9 n9 c9] 39)).alloc (.cells #[.bool false, .slice none 0 0] 39))
  have HVy := hid (show Var (((w.alloc (.cells #[.bool s0, .slice A0 n0 c0] 39)).alloc (.cells #[.bool s9, .slice A9 n9 c9] 39)).alloc (.cells #[.bool false, .slice none 0 0] 39)) (w.heap.size + 1) s9 A9 n9 c9 by have := (Var.new (w.alloc (.cells #[.bool s0, .slice A0 n0 c0] 39)) 39 s9 A9 n9 c9).alloc (.cells #[.bool false, .slice none 0 0] 39); simpa using this)
  have HVr := hid (show Var (((w.alloc (.cells #[.bool s0, .slice A0 n0 c0] 39)).alloc (.cells #[.bool s9, .slice A9 n9 c9] 39)).alloc (.cells #[.bool false, .slice none 0 0] 39)) (w.heap.size + 1 + 1) false none 0 0 by have := Var.new ((w.alloc (.cells #[.bool s0, .slice A0 n0 c0] 39)).alloc (.cells #[.bool s9, .slice A9 n9 c9] 39)) 39 false none 0 0; simpa using this)
  have H0 := hid (((hx.alloc (.cells #[.bool s0, .slice A0 n0 c0] 39)).alloc (.cells #[.bool s9, .slice A9 n9 c9] 39)).alloc (.cells #[.bool false, .slice none 0 0] 39))
  have H9 := hid (((hv.alloc (.cells #[.bool s0, .slice A0 n0 c0] 39)).alloc (.cells #[.bool s9, .slice A9 n9 c9] 39)).alloc (.cells #[.bool false, .slice none 0 0] 39))
  obtain ⟨V, hV⟩ : ∃ V, max v 0 = V := ⟨_, rfl⟩
  have E := hid (show clI x v = min (max x (-V)) V by unfold clI; rw [hV])
  rw [E.out]
  have HVV := hid (show 0 ≤ V ∧ (0 ≤ v → v = V) ∧ (v < 0 → V = 0) by omega)
  clear hx hv hV E
  by_cases c : v < 0
  · have c1 : cmpI v 0 < 0 := cmpI_lt0.2 c
    have HC := hid c
    clear c
    by_cases d : V < x
    · have d1 : 0 < cmpI x V := cmpI_gtz.2 d
      have R : Hid (min (max x (-V)) V = V) := hid (by have := HVV.out; omega)
      rw [R.out]
      clear d R
      go_enter Tryz.func80, Tryz.ntmps80
      go_wp2_with fail
      generalize (((w.alloc (.cells #[.bool s0, .slice A0 n0 c0] 39)).alloc (.cells #[.bool s9, .slice A9 n9 c9] 39)).alloc (.cells #[.bool false, .slice none 0 0] 39)) = W0 at HVx HVy HVr H0 H9 HBW ⊢
      obtain ⟨x0, x1, x2, x3, _⟩ := HVx.out
      have xl := HVx.out.lt
      obtain ⟨y0, y1, y2, y3, _⟩ := HVy.out
      have yl := HVy.out.lt
      obtain ⟨r0, r1, r2, r3, _⟩ := HVr.out
      have rl := HVr.out.lt
      go_wp2_with fail
      clear x0 x1 x2 x3 xl y0 y1 y2 y3 yl r0 r1 r2 r3 rl
      refine (Ref.sign 18 s9 A9 n9 c9 v _ H9.out).mono ?_
      rintro e w1 ⟨rfl, hb⟩
      replace H0 := hid (H0.out.below hb)
      replace H9 := hid (H9.out.below hb)
      replace HVx := hid (HVx.out.below hb)
      replace HVy := hid (HVy.out.below hb)
      replace HVr := hid (HVr.out.below hb)
      replace HBW := hid (below_keep HBW.out hb)
      clear hb
      obtain ⟨x0, x1, x2, x3, _⟩ := HVx.out
      have xl := HVx.out.lt
      obtain ⟨y0, y1, y2, y3, _⟩ := HVy.out
      have yl := HVy.out.lt
      obtain ⟨r0, r1, r2, r3, _⟩ := HVr.out
      have rl := HVr.out.lt
      go_wp2_with fail
      clear x0 x1 x2 x3 xl y0 y1 y2 y3 yl r0 r1 r2 r3 rl
      replace HVr := hid (HVr.out.far (b := w.heap.size + 1) (by omega) 0 1 (.bool false) (.slice none 0 0))
      replace HVx := hid (HVx.out.far (b := w.heap.size + 1) (by omega) 0 1 (.bool false) (.slice none 0 0))
      replace H0 := hid (H0.out.storeV HVy.out 0 1 (.bool false) (.slice none 0 0))
      replace HBW := hid (show Below w.heap.size w ((w1.setCell ⟨w.heap.size + 1, 0, none⟩ (.bool false)).setCell ⟨w.heap.size + 1, 1, none⟩ (.slice none 0 0)) from (HBW.out.setCell (Nat.le_succ _) _).setCell (Nat.le_succ _) _)
      replace HVy := hid (HVy.out.store false none 0 0)
      replace H9 : Hid (IsB ((w1.setCell ⟨w.heap.size + 1, 0, none⟩ (.bool false)).setCell ⟨w.heap.size + 1, 1, none⟩ (.slice none 0 0)) 18 false none 0 0 V) := hid (by rw [HVV.out.2.2 HC.out]; exact IsB.zero _ _)
      generalize ((w1.setCell ⟨w.heap.size + 1, 0, none⟩ (.bool false)).setCell ⟨w.heap.size + 1, 1, none⟩ (.slice none 0 0)) = W1 at HVx HVy HVr H0 H9 HBW ⊢
      obtain ⟨x0, x1, x2, x3, _⟩ := HVx.out
      have xl := HVx.out.lt
      obtain ⟨y0, y1, y2, y3, _⟩ := HVy.out
      have yl := HVy.out.lt
      obtain ⟨r0, r1, r2, r3, _⟩ := HVr.out
      have rl := HVr.out.lt
      clear x0 x1 x2 x3 xl y0 y1 y2 y3 yl r0 r1 r2 r3 rl
      refine (Ref.cmp 18 s0 false A0 none n0 c0 0 0 x V _ H0.out H9.out (by decide)).mono ?_
      rintro e w2 ⟨rfl, hb⟩
      replace H0 := hid (H0.out.below hb)
      replace H9 := hid (H9.out.below hb)
      replace HVx := hid (HVx.out.below hb)
      replace HVy := hid (HVy.out.below hb)
      replace HVr := hid (HVr.out.below hb)
      replace HBW := hid (below_keep HBW.out hb)
      clear hb
      obtain ⟨x0, x1, x2, x3, _⟩ := HVx.out
      have xl := HVx.out.lt
      obtain ⟨y0, y1, y2, y3, _⟩ := HVy.out
      have yl := HVy.out.lt
      obtain ⟨r0, r1, r2, r3, _⟩ := HVr.out
      have rl := HVr.out.lt
      go_wp2_with fail
      have HFN := HVr.out.fin HBW.out (by omega) H9.out
      refine bodyPost_ret (v := .agg #[.bool false, .slice none 0 0]) (by simp [results, Tryz.results80, go_sem, r0, r1, rl]) rfl ⟨_, _, _, _, rfl, HFN.1, HFN.2⟩
    · have d1 : ¬ 0 < cmpI x V := fun h => d (cmpI_gtz.1 h)
      by_cases c3 : x < -V
      · have d2 : cmpI x (-V) < 0 := cmpI_ltz.2 c3
        have R : Hid (min (max x (-V)) V = 0 - V) := hid (by have := HVV.out; omega)
        rw [R.out]
        clear d c3 R
        go_enter Tryz.func80, Tryz.ntmps80
        go_wp2_with fail
        generalize (((w.alloc (.cells #[.bool s0, .slice A0 n0 c0] 39)).alloc (.cells #[.bool s9, .slice A9 n9 c9] 39)).alloc (.cells #[.bool false, .slice none 0 0] 39)) = W0 at HVx HVy HVr H0 H9 HBW ⊢
        obtain ⟨x0, x1, x2, x3, _⟩ := HVx.out
        have xl := HVx.out.lt
        obtain ⟨y0, y1, y2, y3, _⟩ := HVy.out
        have yl := HVy.out.lt
        obtain ⟨r0, r1, r2, r3, _⟩ := HVr.out
        have rl := HVr.out.lt
        go_wp2_with fail
        clear x0 x1 x2 x3 xl y0 y1 y2 y3 yl r0 r1 r2 r3 rl
        refine (Ref.sign 18 s9 A9 n9 c9 v _ H9.out).mono ?_
        rintro e w1 ⟨rfl, hb⟩
        replace H0 := hid (H0.out.below hb)
        replace H9 := hid (H9.out.below hb)
        replace HVx := hid (HVx.out.below hb)
        replace HVy := hid (HVy.out.below hb)
        replace HVr := hid (HVr.out.below hb)
        replace HBW := hid (below_keep HBW.out hb)
        clear hb
        obtain ⟨x0, x1, x2, x3, _⟩ := HVx.out
        have xl := HVx.out.lt
        obtain ⟨y0, y1, y2, y3, _⟩ := HVy.out
        have yl := HVy.out.lt
        obtain ⟨r0, r1, r2, r3, _⟩ := HVr.out
        have rl := HVr.out.lt
        go_wp2_with fail
        clear x0 x1 x2 x3 xl y0 y1 y2 y3 yl r0 r1 r2 r3 rl
        replace HVr := hid (HVr.out.far (b := w.heap.size + 1) (by omega) 0 1 (.bool false) (.slice none 0 0))
        replace HVx := hid (HVx.out.far (b := w.heap.size + 1) (by omega) 0 1 (.bool false) (.slice none 0 0))
        replace H0 := hid (H0.out.storeV HVy.out 0 1 (.bool false) (.slice none 0 0))
        replace HBW := hid (show Below w.heap.size w ((w1.setCell ⟨w.heap.size + 1, 0, none⟩ (.bool false)).setCell ⟨w.heap.size + 1, 1, none⟩ (.slice none 0 0)) from (HBW.out.setCell (Nat.le_succ _) _).setCell (Nat.le_succ _) _)
        replace HVy := hid (HVy.out.store false none 0 0)
        replace H9 : Hid (IsB ((w1.setCell ⟨w.heap.size + 1, 0, none⟩ (.bool false)).setCell ⟨w.heap.size + 1, 1, none⟩ (.slice none 0 0)) 18 false none 0 0 V) := hid (by rw [HVV.out.2.2 HC.out]; exact IsB.zero _ _)
        generalize ((w1.setCell ⟨w.heap.size + 1, 0, none⟩ (.bool false)).setCell ⟨w.heap.size + 1, 1, none⟩ (.slice none 0 0)) = W1 at HVx HVy HVr H0 H9 HBW ⊢
        obtain ⟨x0, x1, x2, x3, _⟩ := HVx.out
        have xl := HVx.out.lt
        obtain ⟨y0, y1, y2, y3, _⟩ := HVy.out
        have yl := HVy.out.lt
        obtain ⟨r0, r1, r2, r3, _⟩ := HVr.out
        have rl := HVr.out.lt
        clear x0 x1 x2 x3 xl y0 y1 y2 y3 yl r0 r1 r2 r3 rl
        refine (Ref.cmp 18 s0 false A0 none n0 c0 0 0 x V _ H0.out H9.out (by decide)).mono ?_
        rintro e w2 ⟨rfl, hb⟩
        replace H0 := hid (H0.out.below hb)
        replace H9 := hid (H9.out.below hb)
        replace HVx := hid (HVx.out.below hb)
        replace HVy := hid (HVy.out.below hb)
        replace HVr := hid (HVr.out.below hb)
        replace HBW := hid (below_keep HBW.out hb)
        clear hb
        obtain ⟨x0, x1, x2, x3, _⟩ := HVx.out
        have xl := HVx.out.lt
        obtain ⟨y0, y1, y2, y3, _⟩ := HVy.out
        have yl := HVy.out.lt
        obtain ⟨r0, r1, r2, r3, _⟩ := HVr.out
        have rl := HVr.out.lt
        go_wp2_with fail
        clear x0 x1 x2 x3 xl y0 y1 y2 y3 yl r0 r1 r2 r3 rl
        have HCQ : Hid (CQ w s0 A0 n0 c0 x false none 0 0 V w2) := hid ⟨⟨HVx.out, HVy.out, HVr.out⟩, ⟨H0.out, H9.out⟩, HBW.out⟩
        clear HVx HVy HVr H0 H9 HBW d1
        go_region_held3 (fun w' => (w'.cell? ⟨w.heap.size, 0, none⟩ = some (.bool s0) ∧ w'.cell? ⟨w.heap.size, 1, none⟩ = some (.slice A0 n0 c0) ∧ w'.cell? ⟨w.heap.size + 1, 0, none⟩ = some (.bool false) ∧ w'.cell? ⟨w.heap.size + 1, 1, none⟩ = some (.slice none 0 0)) ∧ CQ w s0 A0 n0 c0 x false none 0 0 V w')
            (first | with_reducible exact CQ.see HCQ.out.drew | with_reducible exact CQ.see (CQ.below (And.right (by assumption : _ ∧ CQ w s0 A0 n0 c0 x false none 0 0 V _)) hb3))
            (first
              | (go_at_call 139; refine (Ref.neg 18 false none 0 0 V _ (CQ.n HCQ.out.drew) (by decide)).mono ?_; rintro e w3 ⟨s3, A3, n3, c3, rfl, hB, hb3⟩; have H3 := hid hB; have HCQ3 := hid (CQ.below HCQ.out.drew hb3); clear hB)
              | (go_at_call 24; refine (Ref.cmp 18 s0 s3 A0 A3 n0 c0 n3 c3 x (0 - V) _ (CQ.x HCQ3.out) H3.out (by decide)).mono ?_; rintro e w4 ⟨rfl, hb3⟩))
        have HCQ4 := hid (And.right (by assumption : (_ ∧ _ ∧ _ ∧ _) ∧ CQ w s0 A0 n0 c0 x false none 0 0 V w4))
        have HVx := hid HCQ4.out.1.1
        have HVy := hid HCQ4.out.1.2.1
        have HVr := hid HCQ4.out.1.2.2
        have H0 := hid HCQ4.out.2.1.1
        have H9 := hid HCQ4.out.2.1.2
        have HBW := hid HCQ4.out.2.2
        clear HCQ HCQ3 HCQ4 H3
        obtain ⟨x0, x1, x2, x3, _⟩ := HVx.out
        have xl := HVx.out.lt
        obtain ⟨y0, y1, y2, y3, _⟩ := HVy.out
        have yl := HVy.out.lt
        obtain ⟨r0, r1, r2, r3, _⟩ := HVr.out
        have rl := HVr.out.lt
        go_wp2_with fail
        clear x0 x1 x2 x3 xl y0 y1 y2 y3 yl r0 r1 r2 r3 rl
        refine (Ref.neg 18 false none 0 0 V _ H9.out (by decide)).mono ?_
        rintro e w5 ⟨s5, A5, n5, c5, rfl, hB, hb⟩
        have H5 := hid (hB)
        clear hB
        replace H0 := hid (H0.out.below hb)
        replace H9 := hid (H9.out.below hb)
        replace HVx := hid (HVx.out.below hb)
        replace HVy := hid (HVy.out.below hb)
        replace HVr := hid (HVr.out.below hb)
        replace HBW := hid (below_keep HBW.out hb)
        clear hb
        obtain ⟨x0, x1, x2, x3, _⟩ := HVx.out
        have xl := HVx.out.lt
        obtain ⟨y0, y1, y2, y3, _⟩ := HVy.out
        have yl := HVy.out.lt
        obtain ⟨r0, r1, r2, r3, _⟩ := HVr.out
        have rl := HVr.out.lt
        go_wp2_with fail
        have HFN := HVr.out.fin HBW.out (by omega) H5.out
        refine bodyPost_ret (v := .agg #[.bool s5, .slice A5 n5 c5]) (by simp [results, Tryz.results80, go_sem, r0, r1, rl]) rfl ⟨_, _, _, _, rfl, HFN.1, HFN.2⟩
      · have d2 : ¬ cmpI x (-V) < 0 := fun h => c3 (cmpI_ltz.1 h)
        have R : Hid (min (max x (-V)) V = x) := hid (by have := HVV.out; omega)
        rw [R.out]
        clear d c3 R
        go_enter Tryz.func80, Tryz.ntmps80
        go_wp2_with fail
        generalize (((w.alloc (.cells #[.bool s0, .slice A0 n0 c0] 39)).alloc (.cells #[.bool s9, .slice A9 n9 c9] 39)).alloc (.cells #[.bool false, .slice none 0 0] 39)) = W0 at HVx HVy HVr H0 H9 HBW ⊢
        obtain ⟨x0, x1, x2, x3, _⟩ := HVx.out
        have xl := HVx.out.lt
        obtain ⟨y0, y1, y2, y3, _⟩ := HVy.out
        have yl := HVy.out.lt
        obtain ⟨r0, r1, r2, r3, _⟩ := HVr.out
        have rl := HVr.out.lt
        go_wp2_with fail
        clear x0 x1 x2 x3 xl y0 y1 y2 y3 yl r0 r1 r2 r3 rl
        refine (Ref.sign 18 s9 A9 n9 c9 v _ H9.out).mono ?_
        rintro e w1 ⟨rfl, hb⟩
        replace H0 := hid (H0.out.below hb)
        replace H9 := hid (H9.out.below hb)
        replace HVx := hid (HVx.out.below hb)
        replace HVy := hid (HVy.out.below hb)
        replace HVr := hid (HVr.out.below hb)
        replace HBW := hid (below_keep HBW.out hb)
        clear hb
        obtain ⟨x0, x1, x2, x3, _⟩ := HVx.out
        have xl := HVx.out.lt
        obtain ⟨y0, y1, y2, y3, _⟩ := HVy.out
        have yl := HVy.out.lt
        obtain ⟨r0, r1, r2, r3, _⟩ := HVr.out
        have rl := HVr.out.lt
        go_wp2_with fail
        clear x0 x1 x2 x3 xl y0 y1 y2 y3 yl r0 r1 r2 r3 rl
        replace HVr := hid (HVr.out.far (b := w.heap.size + 1) (by omega) 0 1 (.bool false) (.slice none 0 0))
        replace HVx := hid (HVx.out.far (b := w.heap.size + 1) (by omega) 0 1 (.bool false) (.slice none 0 0))
        replace H0 := hid (H0.out.storeV HVy.out 0 1 (.bool false) (.slice none 0 0))
        replace HBW := hid (show Below w.heap.size w ((w1.setCell ⟨w.heap.size + 1, 0, none⟩ (.bool false)).setCell ⟨w.heap.size + 1, 1, none⟩ (.slice none 0 0)) from (HBW.out.setCell (Nat.le_succ _) _).setCell (Nat.le_succ _) _)
        replace HVy := hid (HVy.out.store false none 0 0)
        replace H9 : Hid (IsB ((w1.setCell ⟨w.heap.size + 1, 0, none⟩ (.bool false)).setCell ⟨w.heap.size + 1, 1, none⟩ (.slice none 0 0)) 18 false none 0 0 V) := hid (by rw [HVV.out.2.2 HC.out]; exact IsB.zero _ _)
        generalize ((w1.setCell ⟨w.heap.size + 1, 0, none⟩ (.bool false)).setCell ⟨w.heap.size + 1, 1, none⟩ (.slice none 0 0)) = W1 at HVx HVy HVr H0 H9 HBW ⊢
        obtain ⟨x0, x1, x2, x3, _⟩ := HVx.out
        have xl := HVx.out.lt
        obtain ⟨y0, y1, y2, y3, _⟩ := HVy.out
        have yl := HVy.out.lt
        obtain ⟨r0, r1, r2, r3, _⟩ := HVr.out
        have rl := HVr.out.lt
        clear x0 x1 x2 x3 xl y0 y1 y2 y3 yl r0 r1 r2 r3 rl
        refine (Ref.cmp 18 s0 false A0 none n0 c0 0 0 x V _ H0.out H9.out (by decide)).mono ?_
        rintro e w2 ⟨rfl, hb⟩
        replace H0 := hid (H0.out.below hb)
        replace H9 := hid (H9.out.below hb)
        replace HVx := hid (HVx.out.below hb)
        replace HVy := hid (HVy.out.below hb)
        replace HVr := hid (HVr.out.below hb)
        replace HBW := hid (below_keep HBW.out hb)
        clear hb
        obtain ⟨x0, x1, x2, x3, _⟩ := HVx.out
        have xl := HVx.out.lt
        obtain ⟨y0, y1, y2, y3, _⟩ := HVy.out
        have yl := HVy.out.lt
        obtain ⟨r0, r1, r2, r3, _⟩ := HVr.out
        have rl := HVr.out.lt
        go_wp2_with fail
        clear x0 x1 x2 x3 xl y0 y1 y2 y3 yl r0 r1 r2 r3 rl
        have HCQ : Hid (CQ w s0 A0 n0 c0 x false none 0 0 V w2) := hid ⟨⟨HVx.out, HVy.out, HVr.out⟩, ⟨H0.out, H9.out⟩, HBW.out⟩
        clear HVx HVy HVr H0 H9 HBW d1
        go_region_held3 (fun w' => (w'.cell? ⟨w.heap.size, 0, none⟩ = some (.bool s0) ∧ w'.cell? ⟨w.heap.size, 1, none⟩ = some (.slice A0 n0 c0) ∧ w'.cell? ⟨w.heap.size + 1, 0, none⟩ = some (.bool false) ∧ w'.cell? ⟨w.heap.size + 1, 1, none⟩ = some (.slice none 0 0)) ∧ CQ w s0 A0 n0 c0 x false none 0 0 V w')
            (first | with_reducible exact CQ.see HCQ.out.drew | with_reducible exact CQ.see (CQ.below (And.right (by assumption : _ ∧ CQ w s0 A0 n0 c0 x false none 0 0 V _)) hb3))
            (first
              | (go_at_call 139; refine (Ref.neg 18 false none 0 0 V _ (CQ.n HCQ.out.drew) (by decide)).mono ?_; rintro e w3 ⟨s3, A3, n3, c3, rfl, hB, hb3⟩; have H3 := hid hB; have HCQ3 := hid (CQ.below HCQ.out.drew hb3); clear hB)
              | (go_at_call 24; refine (Ref.cmp 18 s0 s3 A0 A3 n0 c0 n3 c3 x (0 - V) _ (CQ.x HCQ3.out) H3.out (by decide)).mono ?_; rintro e w4 ⟨rfl, hb3⟩))
        have HCQ4 := hid (And.right (by assumption : (_ ∧ _ ∧ _ ∧ _) ∧ CQ w s0 A0 n0 c0 x false none 0 0 V w4))
        have HVx := hid HCQ4.out.1.1
        have HVy := hid HCQ4.out.1.2.1
        have HVr := hid HCQ4.out.1.2.2
        have H0 := hid HCQ4.out.2.1.1
        have H9 := hid HCQ4.out.2.1.2
        have HBW := hid HCQ4.out.2.2
        clear HCQ HCQ3 HCQ4 H3
        obtain ⟨x0, x1, x2, x3, _⟩ := HVx.out
        have xl := HVx.out.lt
        obtain ⟨y0, y1, y2, y3, _⟩ := HVy.out
        have yl := HVy.out.lt
        obtain ⟨r0, r1, r2, r3, _⟩ := HVr.out
        have rl := HVr.out.lt
        go_wp2_with fail
        have HFN := HVr.out.fin HBW.out (by omega) H0.out
        refine bodyPost_ret (v := .agg #[.bool s0, .slice A0 n0 c0]) (by simp [results, Tryz.results80, go_sem, r0, r1, rl]) rfl ⟨_, _, _, _, rfl, HFN.1, HFN.2⟩
  · have c1 : ¬ cmpI v 0 < 0 := fun h => c (cmpI_lt0.1 h)
    have HC := hid c
    clear c
    by_cases d : V < x
    · have d1 : 0 < cmpI x V := cmpI_gtz.2 d
      have R : Hid (min (max x (-V)) V = V) := hid (by have := HVV.out; omega)
      rw [R.out]
      clear d R
      go_enter Tryz.func80, Tryz.ntmps80
      go_wp2_with fail
      generalize (((w.alloc (.cells #[.bool s0, .slice A0 n0 c0] 39)).alloc (.cells #[.bool s9, .slice A9 n9 c9] 39)).alloc (.cells #[.bool false, .slice none 0 0] 39)) = W0 at HVx HVy HVr H0 H9 HBW ⊢
      obtain ⟨x0, x1, x2, x3, _⟩ := HVx.out
      have xl := HVx.out.lt
      obtain ⟨y0, y1, y2, y3, _⟩ := HVy.out
      have yl := HVy.out.lt
      obtain ⟨r0, r1, r2, r3, _⟩ := HVr.out
      have rl := HVr.out.lt
      go_wp2_with fail
      clear x0 x1 x2 x3 xl y0 y1 y2 y3 yl r0 r1 r2 r3 rl
      refine (Ref.sign 18 s9 A9 n9 c9 v _ H9.out).mono ?_
      rintro e w1 ⟨rfl, hb⟩
      replace H0 := hid (H0.out.below hb)
      replace H9 := hid (H9.out.below hb)
      replace HVx := hid (HVx.out.below hb)
      replace HVy := hid (HVy.out.below hb)
      replace HVr := hid (HVr.out.below hb)
      replace HBW := hid (below_keep HBW.out hb)
      clear hb
      rw [HVV.out.2.1 (by have := HC.out; omega)] at H9
      obtain ⟨x0, x1, x2, x3, _⟩ := HVx.out
      have xl := HVx.out.lt
      obtain ⟨y0, y1, y2, y3, _⟩ := HVy.out
      have yl := HVy.out.lt
      obtain ⟨r0, r1, r2, r3, _⟩ := HVr.out
      have rl := HVr.out.lt
      go_wp2_with fail
      clear x0 x1 x2 x3 xl y0 y1 y2 y3 yl r0 r1 r2 r3 rl
      refine (Ref.cmp 18 s0 s9 A0 A9 n0 c0 n9 c9 x V _ H0.out H9.out (by decide)).mono ?_
      rintro e w2 ⟨rfl, hb⟩
      replace H0 := hid (H0.out.below hb)
      replace H9 := hid (H9.out.below hb)
      replace HVx := hid (HVx.out.below hb)
      replace HVy := hid (HVy.out.below hb)
      replace HVr := hid (HVr.out.below hb)
      replace HBW := hid (below_keep HBW.out hb)
      clear hb
      obtain ⟨x0, x1, x2, x3, _⟩ := HVx.out
      have xl := HVx.out.lt
      obtain ⟨y0, y1, y2, y3, _⟩ := HVy.out
      have yl := HVy.out.lt
      obtain ⟨r0, r1, r2, r3, _⟩ := HVr.out
      have rl := HVr.out.lt
      go_wp2_with fail
      have HFN := HVr.out.fin HBW.out (by omega) H9.out
      refine bodyPost_ret (v := .agg #[.bool s9, .slice A9 n9 c9]) (by simp [results, Tryz.results80, go_sem, r0, r1, rl]) rfl ⟨_, _, _, _, rfl, HFN.1, HFN.2⟩
    · have d1 : ¬ 0 < cmpI x V := fun h => d (cmpI_gtz.1 h)
      by_cases c3 : x < -V
      · have d2 : cmpI x (-V) < 0 := cmpI_ltz.2 c3
        have R : Hid (min (max x (-V)) V = 0 - V) := hid (by have := HVV.out; omega)
        rw [R.out]
        clear d c3 R
        go_enter Tryz.func80, Tryz.ntmps80
        go_wp2_with fail
        generalize (((w.alloc (.cells #[.bool s0, .slice A0 n0 c0] 39)).alloc (.cells #[.bool s9, .slice A9 n9 c9] 39)).alloc (.cells #[.bool false, .slice none 0 0] 39)) = W0 at HVx HVy HVr H0 H9 HBW ⊢
        obtain ⟨x0, x1, x2, x3, _⟩ := HVx.out
        have xl := HVx.out.lt
        obtain ⟨y0, y1, y2, y3, _⟩ := HVy.out
        have yl := HVy.out.lt
        obtain ⟨r0, r1, r2, r3, _⟩ := HVr.out
        have rl := HVr.out.lt
        go_wp2_with fail
        clear x0 x1 x2 x3 xl y0 y1 y2 y3 yl r0 r1 r2 r3 rl
        refine (Ref.sign 18 s9 A9 n9 c9 v _ H9.out).mono ?_
        rintro e w1 ⟨rfl, hb⟩
        replace H0 := hid (H0.out.below hb)
        replace H9 := hid (H9.out.below hb)
        replace HVx := hid (HVx.out.below hb)
        replace HVy := hid (HVy.out.below hb)
        replace HVr := hid (HVr.out.below hb)
        replace HBW := hid (below_keep HBW.out hb)
        clear hb
        rw [HVV.out.2.1 (by have := HC.out; omega)] at H9
        obtain ⟨x0, x1, x2, x3, _⟩ := HVx.out
        have xl := HVx.out.lt
        obtain ⟨y0, y1, y2, y3, _⟩ := HVy.out
        have yl := HVy.out.lt
        obtain ⟨r0, r1, r2, r3, _⟩ := HVr.out
        have rl := HVr.out.lt
        go_wp2_with fail
        clear x0 x1 x2 x3 xl y0 y1 y2 y3 yl r0 r1 r2 r3 rl
        refine (Ref.cmp 18 s0 s9 A0 A9 n0 c0 n9 c9 x V _ H0.out H9.out (by decide)).mono ?_
        rintro e w2 ⟨rfl, hb⟩
        replace H0 := hid (H0.out.below hb)
        replace H9 := hid (H9.out.below hb)
        replace HVx := hid (HVx.out.below hb)
        replace HVy := hid (HVy.out.below hb)
        replace HVr := hid (HVr.out.below hb)
        replace HBW := hid (below_keep HBW.out hb)
        clear hb
        obtain ⟨x0, x1, x2, x3, _⟩ := HVx.out
        have xl := HVx.out.lt
        obtain ⟨y0, y1, y2, y3, _⟩ := HVy.out
        have yl := HVy.out.lt
        obtain ⟨r0, r1, r2, r3, _⟩ := HVr.out
        have rl := HVr.out.lt
        go_wp2_with fail
        clear x0 x1 x2 x3 xl y0 y1 y2 y3 yl r0 r1 r2 r3 rl
        have HCQ : Hid (CQ w s0 A0 n0 c0 x s9 A9 n9 c9 V w2) := hid ⟨⟨HVx.out, HVy.out, HVr.out⟩, ⟨H0.out, H9.out⟩, HBW.out⟩
        clear HVx HVy HVr H0 H9 HBW d1
        go_region_held3 (fun w' => (w'.cell? ⟨w.heap.size, 0, none⟩ = some (.bool s0) ∧ w'.cell? ⟨w.heap.size, 1, none⟩ = some (.slice A0 n0 c0) ∧ w'.cell? ⟨w.heap.size + 1, 0, none⟩ = some (.bool s9) ∧ w'.cell? ⟨w.heap.size + 1, 1, none⟩ = some (.slice A9 n9 c9)) ∧ CQ w s0 A0 n0 c0 x s9 A9 n9 c9 V w')
            (first | with_reducible exact CQ.see HCQ.out.drew | with_reducible exact CQ.see (CQ.below (And.right (by assumption : _ ∧ CQ w s0 A0 n0 c0 x s9 A9 n9 c9 V _)) hb3))
            (first
              | (go_at_call 139; refine (Ref.neg 18 s9 A9 n9 c9 V _ (CQ.n HCQ.out.drew) (by decide)).mono ?_; rintro e w3 ⟨s3, A3, n3, c3, rfl, hB, hb3⟩; have H3 := hid hB; have HCQ3 := hid (CQ.below HCQ.out.drew hb3); clear hB)
              | (go_at_call 24; refine (Ref.cmp 18 s0 s3 A0 A3 n0 c0 n3 c3 x (0 - V) _ (CQ.x HCQ3.out) H3.out (by decide)).mono ?_; rintro e w4 ⟨rfl, hb3⟩))
        have HCQ4 := hid (And.right (by assumption : (_ ∧ _ ∧ _ ∧ _) ∧ CQ w s0 A0 n0 c0 x s9 A9 n9 c9 V w4))
        have HVx := hid HCQ4.out.1.1
        have HVy := hid HCQ4.out.1.2.1
        have HVr := hid HCQ4.out.1.2.2
        have H0 := hid HCQ4.out.2.1.1
        have H9 := hid HCQ4.out.2.1.2
        have HBW := hid HCQ4.out.2.2
        clear HCQ HCQ3 HCQ4 H3
        obtain ⟨x0, x1, x2, x3, _⟩ := HVx.out
        have xl := HVx.out.lt
        obtain ⟨y0, y1, y2, y3, _⟩ := HVy.out
        have yl := HVy.out.lt
        obtain ⟨r0, r1, r2, r3, _⟩ := HVr.out
        have rl := HVr.out.lt
        go_wp2_with fail
        clear x0 x1 x2 x3 xl y0 y1 y2 y3 yl r0 r1 r2 r3 rl
        refine (Ref.neg 18 s9 A9 n9 c9 V _ H9.out (by decide)).mono ?_
        rintro e w5 ⟨s5, A5, n5, c5, rfl, hB, hb⟩
        have H5 := hid (hB)
        clear hB
        replace H0 := hid (H0.out.below hb)
        replace H9 := hid (H9.out.below hb)
        replace HVx := hid (HVx.out.below hb)
        replace HVy := hid (HVy.out.below hb)
        replace HVr := hid (HVr.out.below hb)
        replace HBW := hid (below_keep HBW.out hb)
        clear hb
        obtain ⟨x0, x1, x2, x3, _⟩ := HVx.out
        have xl := HVx.out.lt
        obtain ⟨y0, y1, y2, y3, _⟩ := HVy.out
        have yl := HVy.out.lt
        obtain ⟨r0, r1, r2, r3, _⟩ := HVr.out
        have rl := HVr.out.lt
        go_wp2_with fail
        have HFN := HVr.out.fin HBW.out (by omega) H5.out
        refine bodyPost_ret (v := .agg #[.bool s5, .slice A5 n5 c5]) (by simp [results, Tryz.results80, go_sem, r0, r1, rl]) rfl ⟨_, _, _, _, rfl, HFN.1, HFN.2⟩
      · have d2 : ¬ cmpI x (-V) < 0 := fun h => c3 (cmpI_ltz.1 h)
        have R : Hid (min (max x (-V)) V = x) := hid (by have := HVV.out; omega)
        rw [R.out]
        clear d c3 R
        go_enter Tryz.func80, Tryz.ntmps80
        go_wp2_with fail
        generalize (((w.alloc (.cells #[.bool s0, .slice A0 n0 c0] 39)).alloc (.cells #[.bool s9, .slice A9 n9 c9] 39)).alloc (.cells #[.bool false, .slice none 0 0] 39)) = W0 at HVx HVy HVr H0 H9 HBW ⊢
        obtain ⟨x0, x1, x2, x3, _⟩ := HVx.out
        have xl := HVx.out.lt
        obtain ⟨y0, y1, y2, y3, _⟩ := HVy.out
        have yl := HVy.out.lt
        obtain ⟨r0, r1, r2, r3, _⟩ := HVr.out
        have rl := HVr.out.lt
        go_wp2_with fail
        clear x0 x1 x2 x3 xl y0 y1 y2 y3 yl r0 r1 r2 r3 rl
        refine (Ref.sign 18 s9 A9 n9 c9 v _ H9.out).mono ?_
        rintro e w1 ⟨rfl, hb⟩
        replace H0 := hid (H0.out.below hb)
        replace H9 := hid (H9.out.below hb)
        replace HVx := hid (HVx.out.below hb)
        replace HVy := hid (HVy.out.below hb)
        replace HVr := hid (HVr.out.below hb)
        replace HBW := hid (below_keep HBW.out hb)
        clear hb
        rw [HVV.out.2.1 (by have := HC.out; omega)] at H9
        obtain ⟨x0, x1, x2, x3, _⟩ := HVx.out
        have xl := HVx.out.lt
        obtain ⟨y0, y1, y2, y3, _⟩ := HVy.out
        have yl := HVy.out.lt
        obtain ⟨r0, r1, r2, r3, _⟩ := HVr.out
        have rl := HVr.out.lt
        go_wp2_with fail
        clear x0 x1 x2 x3 xl y0 y1 y2 y3 yl r0 r1 r2 r3 rl
        refine (Ref.cmp 18 s0 s9 A0 A9 n0 c0 n9 c9 x V _ H0.out H9.out (by decide)).mono ?_
        rintro e w2 ⟨rfl, hb⟩
        replace H0 := hid (H0.out.below hb)
        replace H9 := hid (H9.out.below hb)
        replace HVx := hid (HVx.out.below hb)
        replace HVy := hid (HVy.out.below hb)
        replace HVr := hid (HVr.out.below hb)
        replace HBW := hid (below_keep HBW.out hb)
        clear hb
        obtain ⟨x0, x1, x2, x3, _⟩ := HVx.out
        have xl := HVx.out.lt
        obtain ⟨y0, y1, y2, y3, _⟩ := HVy.out
        have yl := HVy.out.lt
        obtain ⟨r0, r1, r2, r3, _⟩ := HVr.out
        have rl := HVr.out.lt
        go_wp2_with fail
        clear x0 x1 x2 x3 xl y0 y1 y2 y3 yl r0 r1 r2 r3 rl
        have HCQ : Hid (CQ w s0 A0 n0 c0 x s9 A9 n9 c9 V w2) := hid ⟨⟨HVx.out, HVy.out, HVr.out⟩, ⟨H0.out, H9.out⟩, HBW.out⟩
        clear HVx HVy HVr H0 H9 HBW d1
        go_region_held3 (fun w' => (w'.cell? ⟨w.heap.size, 0, none⟩ = some (.bool s0) ∧ w'.cell? ⟨w.heap.size, 1, none⟩ = some (.slice A0 n0 c0) ∧ w'.cell? ⟨w.heap.size + 1, 0, none⟩ = some (.bool s9) ∧ w'.cell? ⟨w.heap.size + 1, 1, none⟩ = some (.slice A9 n9 c9)) ∧ CQ w s0 A0 n0 c0 x s9 A9 n9 c9 V w')
            (first | with_reducible exact CQ.see HCQ.out.drew | with_reducible exact CQ.see (CQ.below (And.right (by assumption : _ ∧ CQ w s0 A0 n0 c0 x s9 A9 n9 c9 V _)) hb3))
            (first
              | (go_at_call 139; refine (Ref.neg 18 s9 A9 n9 c9 V _ (CQ.n HCQ.out.drew) (by decide)).mono ?_; rintro e w3 ⟨s3, A3, n3, c3, rfl, hB, hb3⟩; have H3 := hid hB; have HCQ3 := hid (CQ.below HCQ.out.drew hb3); clear hB)
              | (go_at_call 24; refine (Ref.cmp 18 s0 s3 A0 A3 n0 c0 n3 c3 x (0 - V) _ (CQ.x HCQ3.out) H3.out (by decide)).mono ?_; rintro e w4 ⟨rfl, hb3⟩))
        have HCQ4 := hid (And.right (by assumption : (_ ∧ _ ∧ _ ∧ _) ∧ CQ w s0 A0 n0 c0 x s9 A9 n9 c9 V w4))
        have HVx := hid HCQ4.out.1.1
        have HVy := hid HCQ4.out.1.2.1
        have HVr := hid HCQ4.out.1.2.2
        have H0 := hid HCQ4.out.2.1.1
        have H9 := hid HCQ4.out.2.1.2
        have HBW := hid HCQ4.out.2.2
        clear HCQ HCQ3 HCQ4 H3
        obtain ⟨x0, x1, x2, x3, _⟩ := HVx.out
        have xl := HVx.out.lt
        obtain ⟨y0, y1, y2, y3, _⟩ := HVy.out
        have yl := HVy.out.lt
        obtain ⟨r0, r1, r2, r3, _⟩ := HVr.out
        have rl := HVr.out.lt
        go_wp2_with fail
        have HFN := HVr.out.fin HBW.out (by omega) H0.out
        refine bodyPost_ret (v := .agg #[.bool s0, .slice A0 n0 c0]) (by simp [results, Tryz.results80, go_sem, r0, r1, rl]) rfl ⟨_, _, _, _, rfl, HFN.1, HFN.2⟩
end

/- What may be asked for: the functions of limits, and the document's. -/
section
open Go.RowKit
/-- What is there, and may be. -/
structure Cf where
  c : Int
  t : Int
  k : Int
  s : Int
  o : Int
abbrev Cf.val (q : Cf) : Value := .agg #[.int .i64 q.c, .int .i64 q.t, .int .u64 q.k, .int .u64 q.s, .int .u64 q.o]
def Cf.cells (q : Cf) : List Value := [.int .i64 q.c, .int .i64 q.t, .int .u64 q.k, .int .u64 q.s, .int .u64 q.o]
def Cf.In (q : Cf) : Prop := (Lit.int .i64 q.c).wf = true ∧ (Lit.int .i64 q.t).wf = true ∧ IsT q.k ∧ IsT q.s ∧ IsT q.o
theorem Cf.at {w : World} {g : Nat} (q : Cf) (h : Cs w g q.cells) : w.cell? ⟨g, 0, none⟩ = some (.int .i64 q.c) ∧ w.cell? ⟨g, 1, none⟩ = some (.int .i64 q.t) ∧ w.cell? ⟨g, 2, none⟩ = some (.int .u64 q.k) ∧ w.cell? ⟨g, 3, none⟩ = some (.int .u64 q.s) ∧ w.cell? ⟨g, 4, none⟩ = some (.int .u64 q.o) :=
  ⟨(h 0 _ rfl).1, (h 1 _ rfl).1, (h 2 _ rfl).1, (h 3 _ rfl).1, (h 4 _ rfl).1⟩
theorem Cf.new (w : World) (T : TypeId) (q : Cf) : Cs (w.alloc (.cells #[.int .i64 q.c, .int .i64 q.t, .int .u64 q.k, .int .u64 q.s, .int .u64 q.o] T)) w.heap.size q.cells := Cs.alloc_new w T q.cells
def upI (n m : Int) : Int := if 1 ≤ n ∧ n ≤ m then 0 else 3
def coreI (q : Cf) (i : Int) : Int := if 0 ≤ i ∧ i < q.c then 0 else 5
theorem upI_cases (n m : Int) : (n < 1 ∧ upI n m = 3) ∨ (¬ n < 1 ∧ m < n ∧ upI n m = 3) ∨ (¬ n < 1 ∧ ¬ m < n ∧ upI n m = 0) := by unfold upI; split <;> omega
theorem coreI_cases (q : Cf) (i : Int) : (i < 0 ∧ coreI q i = 5) ∨ (¬ i < 0 ∧ ¬ i < q.c ∧ coreI q i = 5) ∨ (¬ i < 0 ∧ i < q.c ∧ coreI q i = 0) := by unfold coreI; split <;> omega
theorem Limits.upInt (n m : Int) (w : World) : Calls Tryz.prog 72 #[.int .i64 n, .int .i64 m] w (Ans (.int .i64 (upI n m)) w) := by
  rcases upI_cases n m with ⟨h1, e⟩ | ⟨h1, h2, e⟩ | ⟨h1, h2, e⟩
  all_goals
    rw [e]
    clear e
    go_enter Tryz.func72, Tryz.ntmps72
    go_wp2_with fail
    go_ret
    exact ⟨rfl, Below.refl _ _⟩
theorem Limits.upU (n m : Int) (w : World) : Calls Tryz.prog 73 #[.int .u64 n, .int .u64 m] w (Ans (.int .i64 (upI n m)) w) := by
  rcases upI_cases n m with ⟨h1, e⟩ | ⟨h1, h2, e⟩ | ⟨h1, h2, e⟩
  all_goals
    rw [e]
    clear e
    go_enter Tryz.func73, Tryz.ntmps73
    go_wp2_with fail
    go_ret
    exact ⟨rfl, Below.refl _ _⟩
theorem Ref19.within (n m : Int) (w : World) : Calls Tryz.prog 21 #[.int .u64 n, .int .u64 m] w (Ans (.int .i64 (upI n m)) w) := by
  rcases upI_cases n m with ⟨h1, e⟩ | ⟨h1, h2, e⟩ | ⟨h1, h2, e⟩
  · rw [e]
    have h1' : ¬ 1 ≤ n := by omega
    clear e h1
    go_enter Tryz.func21, Tryz.ntmps21
    go_wp2_with fail
    go_ret
    exact ⟨rfl, Below.refl _ _⟩
  · rw [e]
    have h1' : 1 ≤ n := by omega
    have h2' : ¬ n ≤ m := by omega
    clear e h1 h2
    go_enter Tryz.func21, Tryz.ntmps21
    go_wp2_with fail
    go_ret
    exact ⟨rfl, Below.refl _ _⟩
  · rw [e]
    have h1' : 1 ≤ n := by omega
    have h2' : n ≤ m := by omega
    clear e h1 h2
    go_enter Tryz.func21, Tryz.ntmps21
    go_wp2_with fail
    go_ret
    exact ⟨rfl, Below.refl _ _⟩
theorem Limits.core (q : Cf) (i : Int) (w : World) : Calls Tryz.prog 18 #[q.val, .int .i64 i] w (Ans (.int .i64 (coreI q i)) w) := by
  have HB0 := hid ((Below.refl w.heap.size w).alloc (Nat.le_refl _) (.cells #[.int .i64 q.c, .int .i64 q.t, .int .u64 q.k, .int .u64 q.s, .int .u64 q.o] 24))
  have HC0 := hid (Cf.new w 24 q)
  unfold Cf.val
  rcases coreI_cases q i with ⟨h1, e⟩ | ⟨h1, h2, e⟩ | ⟨h1, h2, e⟩

  · rw [e]
    clear e
    go_enter Tryz.func18, Tryz.ntmps18
    go_upto_region 1 with fail
    generalize (w.alloc (.cells #[.int .i64 q.c, .int .i64 q.t, .int .u64 q.k, .int .u64 q.s, .int .u64 q.o] 24)) = W0 at HB0 HC0 ⊢
    obtain ⟨q0, q1, q2, q3, q4⟩ := Cf.at q HC0.out
    go_wp2_with fail
    go_ret
    exact ⟨rfl, HB0.out⟩

  · rw [e]
    clear e
    have h3 : q.c ≤ i := by omega
    go_enter Tryz.func18, Tryz.ntmps18
    go_upto_region 1 with fail
    generalize (w.alloc (.cells #[.int .i64 q.c, .int .i64 q.t, .int .u64 q.k, .int .u64 q.s, .int .u64 q.o] 24)) = W0 at HB0 HC0 ⊢
    obtain ⟨q0, q1, q2, q3, q4⟩ := Cf.at q HC0.out
    go_wp2_with fail
    go_ret
    exact ⟨rfl, HB0.out⟩

  · rw [e]
    clear e
    have h3 : ¬ q.c ≤ i := by omega
    go_enter Tryz.func18, Tryz.ntmps18
    go_upto_region 1 with fail
    generalize (w.alloc (.cells #[.int .i64 q.c, .int .i64 q.t, .int .u64 q.k, .int .u64 q.s, .int .u64 q.o] 24)) = W0 at HB0 HC0 ⊢
    obtain ⟨q0, q1, q2, q3, q4⟩ := Cf.at q HC0.out
    go_wp2_with fail
    go_ret
    exact ⟨rfl, HB0.out⟩
theorem Ref19.core (q : Cf) (i : Int) (w : World) : Calls Tryz.prog 19 #[q.val, .int .i64 i] w (Ans (.int .i64 (coreI q i)) w) := by
  have HB0 := hid ((Below.refl w.heap.size w).alloc (Nat.le_refl _) (.cells #[.int .i64 q.c, .int .i64 q.t, .int .u64 q.k, .int .u64 q.s, .int .u64 q.o] 28))
  have HC0 := hid (Cf.new w 28 q)
  unfold Cf.val
  rcases coreI_cases q i with ⟨h1, e⟩ | ⟨h1, h2, e⟩ | ⟨h1, h2, e⟩

  · rw [e]
    clear e
    have h1' : ¬ 0 ≤ i := by omega
    clear h1
    go_enter Tryz.func19, Tryz.ntmps19
    go_upto_region 1 with fail
    generalize (w.alloc (.cells #[.int .i64 q.c, .int .i64 q.t, .int .u64 q.k, .int .u64 q.s, .int .u64 q.o] 28)) = W0 at HB0 HC0 ⊢
    obtain ⟨q0, q1, q2, q3, q4⟩ := Cf.at q HC0.out
    go_wp2_with fail
    go_ret
    exact ⟨rfl, HB0.out⟩

  · rw [e]
    clear e
    have h1' : 0 ≤ i := by omega
    clear h1
    go_enter Tryz.func19, Tryz.ntmps19
    go_upto_region 1 with fail
    generalize (w.alloc (.cells #[.int .i64 q.c, .int .i64 q.t, .int .u64 q.k, .int .u64 q.s, .int .u64 q.o] 28)) = W0 at HB0 HC0 ⊢
    obtain ⟨q0, q1, q2, q3, q4⟩ := Cf.at q HC0.out
    go_wp2_with fail
    go_ret
    exact ⟨rfl, HB0.out⟩

  · rw [e]
    clear e
    have h1' : 0 ≤ i := by omega
    clear h1
    go_enter Tryz.func19, Tryz.ntmps19
    go_upto_region 1 with fail
    generalize (w.alloc (.cells #[.int .i64 q.c, .int .i64 q.t, .int .u64 q.k, .int .u64 q.s, .int .u64 q.o] 28)) = W0 at HB0 HC0 ⊢
    obtain ⟨q0, q1, q2, q3, q4⟩ := Cf.at q HC0.out
    go_wp2_with fail
    go_ret
    exact ⟨rfl, HB0.out⟩
theorem Limits.weight (q : Cf) (n : Int) (w : World) : Calls Tryz.prog 20 #[q.val, .int .u64 n] w (Ans (.int .i64 (upI n 1048576)) w) := by
  have HB0 := hid ((Below.refl w.heap.size w).alloc (Nat.le_refl _) (.cells #[.int .i64 q.c, .int .i64 q.t, .int .u64 q.k, .int .u64 q.s, .int .u64 q.o] 24))
  have HC0 := hid (Cf.new w 24 q)
  unfold Cf.val
  go_enter Tryz.func20, Tryz.ntmps20
  go_upto_region 1 with fail
  generalize (w.alloc (.cells #[.int .i64 q.c, .int .i64 q.t, .int .u64 q.k, .int .u64 q.s, .int .u64 q.o] 24)) = W0 at HB0 HC0 ⊢
  obtain ⟨q0, q1, q2, q3, q4⟩ := Cf.at q HC0.out
  go_wp2_with fail
  refine (Limits.upU n _ _).mono ?_
  rintro e w1 ⟨rfl, hb⟩
  have HB1 := hid (below_on HB0.out hb)
  clear hb HB0 HC0 q0 q1 q2 q3 q4
  go_wp2_with fail
  go_ret
  exact ⟨rfl, HB1.out⟩
theorem Limits.request (q : Cf) (n : Int) (w : World) : Calls Tryz.prog 22 #[q.val, .int .u64 n] w (Ans (.int .i64 (upI n (min q.s 1099511627776))) w) := by
  have HB0 := hid ((Below.refl w.heap.size w).alloc (Nat.le_refl _) (.cells #[.int .i64 q.c, .int .i64 q.t, .int .u64 q.k, .int .u64 q.s, .int .u64 q.o] 24))
  have HC0 := hid (Cf.new w 24 q)
  unfold Cf.val
  go_enter Tryz.func22, Tryz.ntmps22
  go_upto_region 1 with fail
  generalize (w.alloc (.cells #[.int .i64 q.c, .int .i64 q.t, .int .u64 q.k, .int .u64 q.s, .int .u64 q.o] 24)) = W0 at HB0 HC0 ⊢
  obtain ⟨q0, q1, q2, q3, q4⟩ := Cf.at q HC0.out
  go_wp2_with fail
  refine (Limits.upU n _ _).mono ?_
  rintro e w1 ⟨rfl, hb⟩
  have HB1 := hid (below_on HB0.out hb)
  clear hb HB0 HC0 q0 q1 q2 q3 q4
  go_wp2_with fail
  go_ret
  exact ⟨rfl, HB1.out⟩
theorem Limits.time (q : Cf) (n : Int) (w : World) : Calls Tryz.prog 23 #[q.val, .int .u64 n] w (Ans (.int .i64 (upI n (min q.k 1099511627776))) w) := by
  have HB0 := hid ((Below.refl w.heap.size w).alloc (Nat.le_refl _) (.cells #[.int .i64 q.c, .int .i64 q.t, .int .u64 q.k, .int .u64 q.s, .int .u64 q.o] 24))
  have HC0 := hid (Cf.new w 24 q)
  unfold Cf.val
  go_enter Tryz.func23, Tryz.ntmps23
  go_upto_region 1 with fail
  generalize (w.alloc (.cells #[.int .i64 q.c, .int .i64 q.t, .int .u64 q.k, .int .u64 q.s, .int .u64 q.o] 24)) = W0 at HB0 HC0 ⊢
  obtain ⟨q0, q1, q2, q3, q4⟩ := Cf.at q HC0.out
  go_wp2_with fail
  refine (Limits.upU n _ _).mono ?_
  rintro e w1 ⟨rfl, hb⟩
  have HB1 := hid (below_on HB0.out hb)
  clear hb HB0 HC0 q0 q1 q2 q3 q4
  go_wp2_with fail
  go_ret
  exact ⟨rfl, HB1.out⟩
/-- The first of some errors that isn't OK. -/
def allI : List Int → Int
  | [] => 0
  | e :: l => if e = 0 then allI l else e
theorem allI_take (l : List Int) (k : Nat) (hk : k < l.length) (h : ∀ e ∈ l.take k, e = 0) : (l.getD k 0 = 0 ∧ ∀ e ∈ l.take (k + 1), e = 0) ∨ (l.getD k 0 ≠ 0 ∧ allI l = l.getD k 0) := by
  induction l generalizing k with
  | nil => simp at hk
  | cons a l ih =>
    cases k with
    | zero =>
      by_cases ha : a = 0
      · left; simpa using ha
      · right; refine ⟨by simpa using ha, ?_⟩; simp [allI, ha]
    | succ k =>
      have ha : a = 0 := h a (by simp)
      rcases ih k (by simpa using hk) (fun e he => h e (by simp [he])) with ⟨h1, h2⟩ | ⟨h1, h2⟩
      · left; refine ⟨by simpa using h1, ?_⟩
        intro e he
        simp only [List.take_succ_cons, List.mem_cons] at he
        rcases he with rfl | he
        · exact ha
        · exact h2 e he
      · right; refine ⟨by simpa using h1, ?_⟩; simp [allI, ha, h2]
theorem allI_end (l : List Int) (h : ∀ e ∈ l, e = 0) : allI l = 0 := by
  induction l with
  | nil => rfl
  | cons a l ih => simp [allI, h a (by simp), ih fun e he => h e (by simp [he])]
set_option maxRecDepth 100000 in
set_option maxHeartbeats 2000000 in
theorem Limits.all (A : Option Addr) (n c : Nat) (l : List Int) (w : World) (hr : RdU .i64 w A n l) (hn : n ≤ 9223372036854775807) : Calls Tryz.prog 29 #[.slice A n c] w (Ans (.int .i64 (allI l)) w) := by
  have HR := hid hr
  have HLN : Hid (l.length = n) := hid hr.1
  clear hr
  go_enter Tryz.func29, Tryz.ntmps29
  go_wp2_with fail
  go_loopg [7] n (fun s i wr => ∃ k : Nat, i = .int .i64 k ∧ k ≤ n ∧ s = n - k ∧ Hid (∀ e ∈ l.take k, e = 0) ∧ Below w.heap.size w wr)
  case atStart => exact ⟨0, rfl, Nat.zero_le _, by omega, hid (by simp), Below.refl _ _⟩
  case round =>
    obtain ⟨k, rfl, hk, hs, hz, hb⟩ := hrel
    have HS := hid hs
    have HB := hid hb
    clear hs hb
    by_cases hkn : k < n
    · have hki : (k : Int) < n := by omega
      have hk0 : (0 : Int) ≤ k := by omega
      obtain ⟨bb, off, hA, _, hc⟩ := (HR.out.below HB.out).2 k hkn
      subst hA
      have hcase := hid (allI_take l k (by have := HLN.out; omega) hz.out)
      have hcell := hc k hkn
      generalize l.getD k 0 = e at hcell hcase
      rcases hcase.out with ⟨h1, h2⟩ | ⟨h1, h2⟩
      · subst h1
        have HZ2 := hid h2
        clear h2 hcase hc hz
        go_wp2_with fail
        go_roundg (n - (k + 1))
        case measure => have := HS.out; omega
        case rel => exact ⟨k + 1, by go_num, by omega, rfl, HZ2, HB.out⟩
      · have HZ2 := hid h2
        have hne : (e == 0) = false := by simpa using h1
        clear h2 hcase hc hz
        go_wp2_with fail
        go_ret
        exact ⟨by rw [HZ2.out] <;> rfl, HB.out⟩
    · have hki : ¬ (k : Int) < n := by omega
      have HE : Hid (allI l = 0) := hid (allI_end l (by have h := hz.out; rw [List.take_of_length_le (by have := HLN.out; omega)] at h; exact h))
      clear hz
      go_wp2_with fail
      go_ret
      exact ⟨by rw [HE.out] <;> rfl, HB.out⟩
end

/- How much of a lag is kept, by limits and by the document; which configuration may be. -/
section
open Go.RowKit
def kpI (q : Cf) (x n : Int) : Int := clI x (winI n q.k)
theorem kpI_bd (q : Cf) (x n : Int) : -9223372036854775807 ≤ kpI q x n ∧ kpI q x n ≤ 9223372036854775807 := by
  have := winI_bd n q.k
  exact clI_bd (by omega)
set_option maxRecDepth 100000 in
set_option maxHeartbeats 8000000 in
theorem Limits.keep (q : Cf) (x n : Int) (hk : IsT q.k) (hx : WR x) (hn : IsT n) (w : World) : Calls Tryz.prog 26 #[q.val, wv x, .int .u64 n] w (Ans (.int .i64 (kpI q x n)) w) := by
  have HX := hid hx
  have HN := hid hn
  have HK := hid hk
  have HV : Hid (-9223372036854775808 ≤ winI n q.k ∧ winI n q.k ≤ 9223372036854775807) := hid (by have := winI_bd n q.k; omega)
  obtain ⟨z, hz⟩ : ∃ z, winI n q.k = z := ⟨_, rfl⟩
  have HR : Hid (kpI q x n = clI x z) := hid (by unfold kpI; rw [hz])
  rw [hz] at HV
  rw [HR.out]
  have HZ := hid hz
  clear hk hx hn hz
  unfold Cf.val
  have HV0 : Hid (VS w [(w.heap.size, q.cells), (w.heap.size + 1, [.int .i64 (hiW x), .int .u64 (loW x)])] ((w.alloc (.cells #[.int .i64 q.c, .int .i64 q.t, .int .u64 q.k, .int .u64 q.s, .int .u64 q.o] 24)).alloc (.cells #[.int .i64 (hiW x), .int .u64 (loW x)] 26))) := hid (by have h := (((VS.nil w).new 24 q.cells).new 26 [.int .i64 (hiW x), .int .u64 (loW x)]); (try simp only [World.size_alloc] at h); exact h)
  go_enter Tryz.func26, Tryz.ntmps26
  go_upto_region 1 with fail
  generalize ((w.alloc (.cells #[.int .i64 q.c, .int .i64 q.t, .int .u64 q.k, .int .u64 q.s, .int .u64 q.o] 24)).alloc (.cells #[.int .i64 (hiW x), .int .u64 (loW x)] 26)) = W0 at HV0 ⊢
  obtain ⟨q0, q1, q2, q3, q4⟩ := Cf.at q (HV0.out.cs 0 rfl)
  go_wp2_with fail
  refine (Clamp.window n q.k HN.out HK.out _).mono ?_
  rw [HZ.out]
  rintro e w1 ⟨rfl, hb⟩
  have HV1 := hid (HV0.out.below hb)
  clear hb HV0 q0 q1 q2 q3 q4
  obtain ⟨x0, x1⟩ := (HV1.out.cs 1 rfl).two
  go_wp2_with fail
  refine (Clamp.clamp x z HX.out HV.out.1 HV.out.2 _).mono ?_
  rintro e w2 ⟨rfl, hb⟩
  have HV2 := hid (HV1.out.below hb)
  clear hb HV1 x0 x1
  go_wp2_with fail
  go_ret
  exact ⟨rfl, HV2.out.bel⟩
set_option maxRecDepth 100000 in
set_option maxHeartbeats 8000000 in
theorem Ref19.keep_no (q : Cf) (s0 : Bool) (A0 : Option Addr) (n0 c0 : Nat) (x n z : Int) (hz : winI n q.k = z) (hk : winOk n q.k = false) (w : World) (hB : IsB w 18 s0 A0 n0 c0 x) : Calls Tryz.prog 27 #[q.val, .agg #[.bool s0, .slice A0 n0 c0], .int .u64 n] w (BAns 18 (kpI q x n) w) := by
  have HZ0 : Hid (z = 0) := hid (by rw [← hz]; unfold winI; rw [hk]; rfl)
  have HQ : Hid (Cs (((w.alloc (.cells #[.int .i64 q.c, .int .i64 q.t, .int .u64 q.k, .int .u64 q.s, .int .u64 q.o] 28)).alloc (.cells #[.bool s0, .slice A0 n0 c0] 39)).alloc (.cells #[.bool false, .slice none 0 0] 39)) w.heap.size q.cells) := hid (((Cf.new w 28 q).below ((Below.refl _ _).alloc (Nat.le_refl _) _)).below ((Below.refl _ _).alloc (Nat.le_refl _) _))
  have HVx : Hid (Var (((w.alloc (.cells #[.int .i64 q.c, .int .i64 q.t, .int .u64 q.k, .int .u64 q.s, .int .u64 q.o] 28)).alloc (.cells #[.bool s0, .slice A0 n0 c0] 39)).alloc (.cells #[.bool false, .slice none 0 0] 39)) (w.heap.size + 1) s0 A0 n0 c0) := hid (by have := (Var.new (w.alloc (.cells #[.int .i64 q.c, .int .i64 q.t, .int .u64 q.k, .int .u64 q.s, .int .u64 q.o] 28)) 39 s0 A0 n0 c0).alloc (.cells #[.bool false, .slice none 0 0] 39); simpa using this)
  have HVr : Hid (Var (((w.alloc (.cells #[.int .i64 q.c, .int .i64 q.t, .int .u64 q.k, .int .u64 q.s, .int .u64 q.o] 28)).alloc (.cells #[.bool s0, .slice A0 n0 c0] 39)).alloc (.cells #[.bool false, .slice none 0 0] 39)) (w.heap.size + 1 + 1) false none 0 0) := hid (by have := Var.new ((w.alloc (.cells #[.int .i64 q.c, .int .i64 q.t, .int .u64 q.k, .int .u64 q.s, .int .u64 q.o] 28)).alloc (.cells #[.bool s0, .slice A0 n0 c0] 39)) 39 false none 0 0; simpa using this)
  have HBW := hid ((((Below.refl w.heap.size w).alloc (Nat.le_refl _) (.cells #[.int .i64 q.c, .int .i64 q.t, .int .u64 q.k, .int .u64 q.s, .int .u64 q.o] 28)).alloc (by simp) (.cells #[.bool s0, .slice A0 n0 c0] 39)).alloc (by simp; omega) (.cells #[.bool false, .slice none 0 0] 39))
  have H0 := hid (((hB.alloc (.cells #[.int .i64 q.c, .int .i64 q.t, .int .u64 q.k, .int .u64 q.s, .int .u64 q.o] 28)).alloc (.cells #[.bool s0, .slice A0 n0 c0] 39)).alloc (.cells #[.bool false, .slice none 0 0] 39))
  have HZ := hid hz
  have HK := hid hk
  have HR : Hid (kpI q x n = clI x z) := hid (by unfold kpI; rw [hz])
  rw [HR.out]
  clear hz hk hB
  unfold Cf.val
  go_enter Tryz.func27, Tryz.ntmps27
  go_upto_region 1 with fail
  have HLT : Hid (w.heap.size + 1 + 1 < (((w.alloc (.cells #[.int .i64 q.c, .int .i64 q.t, .int .u64 q.k, .int .u64 q.s, .int .u64 q.o] 28)).alloc (.cells #[.bool s0, .slice A0 n0 c0] 39)).alloc (.cells #[.bool false, .slice none 0 0] 39)).heap.size) := hid (by simp)
  generalize (((w.alloc (.cells #[.int .i64 q.c, .int .i64 q.t, .int .u64 q.k, .int .u64 q.s, .int .u64 q.o] 28)).alloc (.cells #[.bool s0, .slice A0 n0 c0] 39)).alloc (.cells #[.bool false, .slice none 0 0] 39)) = W0 at HQ HVx HVr H0 HBW HLT ⊢
  obtain ⟨q0, q1, q2, q3, q4⟩ := Cf.at q HQ.out
  go_wp2_with fail
  clear q0 q1 q2 q3 q4
  refine (Ref12.window n q.k _).mono ?_
  rw [HZ.out, HK.out]
  rintro e w1 ⟨s1, A1, n1, c1, rfl, hB1, hb⟩
  have ha := (Below.refl w1.heap.size w1).alloc (Nat.le_refl _) (.cells #[.bool s1, .slice A1 n1 c1] 39)
  replace HVx := hid ((HVx.out.below hb).below ha)
  replace HVr := hid ((HVr.out.below hb).below ha)
  replace H0 := hid ((H0.out.below hb).below ha)
  replace HBW := hid (below_keep (below_keep HBW.out hb) ha)
  have HVw := hid (Var.new w1 39 s1 A1 n1 c1)
  have H1 := hid ((hB1.mono (show 17 ≤ 18 by decide)).below ha)
  have HGE : Hid (w.heap.size + 1 + 1 < w1.heap.size) := hid (Nat.lt_of_lt_of_le (show w.heap.size + 1 + 1 < W0.heap.size from HLT.out) hb.size)
  clear hb ha hB1 HQ
  obtain ⟨x0, x1, x2, x3, _⟩ := HVx.out
  have xl := HVx.out.lt
  obtain ⟨r0, r1, r2, r3, _⟩ := HVr.out
  have rl := HVr.out.lt
  obtain ⟨u0, u1, u2, u3, _⟩ := HVw.out
  have ul := HVw.out.lt
  go_wp2_with fail
  clear x0 x1 x2 x3 xl r0 r1 r2 r3 rl u0 u1 u2 u3 ul
  replace HBW := hid (show Below w.heap.size w (((w1.alloc (.cells #[.bool s1, .slice A1 n1 c1] 39)).setCell ⟨w.heap.size + 1 + 1, 0, none⟩ (.bool false)).setCell ⟨w.heap.size + 1 + 1, 1, none⟩ (.slice none 0 0)) from (HBW.out.setCell (by simp; omega) _).setCell (by simp; omega) _)
  replace HVr := hid (HVr.out.store false none 0 0)
  generalize (((w1.alloc (.cells #[.bool s1, .slice A1 n1 c1] 39)).setCell ⟨w.heap.size + 1 + 1, 0, none⟩ (.bool false)).setCell ⟨w.heap.size + 1 + 1, 1, none⟩ (.slice none 0 0)) = W2 at *
  obtain ⟨r0, r1, r2, r3, _⟩ := HVr.out
  have rl := HVr.out.lt
  have e0 : clI x z = 0 := by rw [HZ0.out]; unfold clI; omega
  rw [e0]
  refine bodyPost_ret (v := .agg #[.bool false, .slice none 0 0]) (by simp [results, Tryz.results27, go_sem, r0, r1, rl]) rfl ⟨_, _, _, _, rfl, IsB.zero _ _, HBW.out⟩
set_option maxRecDepth 100000 in
set_option maxHeartbeats 8000000 in
theorem Ref19.keep_yes (q : Cf) (s0 : Bool) (A0 : Option Addr) (n0 c0 : Nat) (x n z : Int) (hz : winI n q.k = z) (hk : winOk n q.k = true) (w : World) (hB : IsB w 18 s0 A0 n0 c0 x) : Calls Tryz.prog 27 #[q.val, .agg #[.bool s0, .slice A0 n0 c0], .int .u64 n] w (BAns 18 (kpI q x n) w) := by
  have HQ : Hid (Cs (((w.alloc (.cells #[.int .i64 q.c, .int .i64 q.t, .int .u64 q.k, .int .u64 q.s, .int .u64 q.o] 28)).alloc (.cells #[.bool s0, .slice A0 n0 c0] 39)).alloc (.cells #[.bool false, .slice none 0 0] 39)) w.heap.size q.cells) := hid (((Cf.new w 28 q).below ((Below.refl _ _).alloc (Nat.le_refl _) _)).below ((Below.refl _ _).alloc (Nat.le_refl _) _))
  have HVx : Hid (Var (((w.alloc (.cells #[.int .i64 q.c, .int .i64 q.t, .int .u64 q.k, .int .u64 q.s, .int .u64 q.o] 28)).alloc (.cells #[.bool s0, .slice A0 n0 c0] 39)).alloc (.cells #[.bool false, .slice none 0 0] 39)) (w.heap.size + 1) s0 A0 n0 c0) := hid (by have := (Var.new (w.alloc (.cells #[.int .i64 q.c, .int .i64 q.t, .int .u64 q.k, .int .u64 q.s, .int .u64 q.o] 28)) 39 s0 A0 n0 c0).alloc (.cells #[.bool false, .slice none 0 0] 39); simpa using this)
  have HVr : Hid (Var (((w.alloc (.cells #[.int .i64 q.c, .int .i64 q.t, .int .u64 q.k, .int .u64 q.s, .int .u64 q.o] 28)).alloc (.cells #[.bool s0, .slice A0 n0 c0] 39)).alloc (.cells #[.bool false, .slice none 0 0] 39)) (w.heap.size + 1 + 1) false none 0 0) := hid (by have := Var.new ((w.alloc (.cells #[.int .i64 q.c, .int .i64 q.t, .int .u64 q.k, .int .u64 q.s, .int .u64 q.o] 28)).alloc (.cells #[.bool s0, .slice A0 n0 c0] 39)) 39 false none 0 0; simpa using this)
  have HBW := hid ((((Below.refl w.heap.size w).alloc (Nat.le_refl _) (.cells #[.int .i64 q.c, .int .i64 q.t, .int .u64 q.k, .int .u64 q.s, .int .u64 q.o] 28)).alloc (by simp) (.cells #[.bool s0, .slice A0 n0 c0] 39)).alloc (by simp; omega) (.cells #[.bool false, .slice none 0 0] 39))
  have H0 := hid (((hB.alloc (.cells #[.int .i64 q.c, .int .i64 q.t, .int .u64 q.k, .int .u64 q.s, .int .u64 q.o] 28)).alloc (.cells #[.bool s0, .slice A0 n0 c0] 39)).alloc (.cells #[.bool false, .slice none 0 0] 39))
  have HZ := hid hz
  have HK := hid hk
  have HR : Hid (kpI q x n = clI x z) := hid (by unfold kpI; rw [hz])
  rw [HR.out]
  clear hz hk hB
  unfold Cf.val
  go_enter Tryz.func27, Tryz.ntmps27
  go_upto_region 1 with fail
  have HLT : Hid (w.heap.size + 1 + 1 < (((w.alloc (.cells #[.int .i64 q.c, .int .i64 q.t, .int .u64 q.k, .int .u64 q.s, .int .u64 q.o] 28)).alloc (.cells #[.bool s0, .slice A0 n0 c0] 39)).alloc (.cells #[.bool false, .slice none 0 0] 39)).heap.size) := hid (by simp)
  generalize (((w.alloc (.cells #[.int .i64 q.c, .int .i64 q.t, .int .u64 q.k, .int .u64 q.s, .int .u64 q.o] 28)).alloc (.cells #[.bool s0, .slice A0 n0 c0] 39)).alloc (.cells #[.bool false, .slice none 0 0] 39)) = W0 at HQ HVx HVr H0 HBW HLT ⊢
  obtain ⟨q0, q1, q2, q3, q4⟩ := Cf.at q HQ.out
  go_wp2_with fail
  clear q0 q1 q2 q3 q4
  refine (Ref12.window n q.k _).mono ?_
  rw [HZ.out, HK.out]
  rintro e w1 ⟨s1, A1, n1, c1, rfl, hB1, hb⟩
  have ha := (Below.refl w1.heap.size w1).alloc (Nat.le_refl _) (.cells #[.bool s1, .slice A1 n1 c1] 39)
  replace HVx := hid ((HVx.out.below hb).below ha)
  replace HVr := hid ((HVr.out.below hb).below ha)
  replace H0 := hid ((H0.out.below hb).below ha)
  replace HBW := hid (below_keep (below_keep HBW.out hb) ha)
  have HVw := hid (Var.new w1 39 s1 A1 n1 c1)
  have H1 := hid ((hB1.mono (show 17 ≤ 18 by decide)).below ha)
  have HGE : Hid (w.heap.size + 1 + 1 < w1.heap.size) := hid (Nat.lt_of_lt_of_le (show w.heap.size + 1 + 1 < W0.heap.size from HLT.out) hb.size)
  clear hb ha hB1 HQ
  obtain ⟨x0, x1, x2, x3, _⟩ := HVx.out
  have xl := HVx.out.lt
  obtain ⟨r0, r1, r2, r3, _⟩ := HVr.out
  have rl := HVr.out.lt
  obtain ⟨u0, u1, u2, u3, _⟩ := HVw.out
  have ul := HVw.out.lt
  go_wp2_with fail
  clear x0 x1 x2 x3 xl r0 r1 r2 r3 rl u0 u1 u2 u3 ul
  refine (Ref12.clamp s0 s1 A0 A1 n0 c0 n1 c1 x z _ H0.out H1.out).mono ?_
  rintro e w2 ⟨s2, A2, n2, c2, rfl, hB2, hb⟩
  replace HVr := hid (HVr.out.below hb)
  have H2 := hid hB2
  replace HBW := hid (below_keep HBW.out hb)
  clear hb hB2 HVx HVw H0 H1
  obtain ⟨r0, r1, r2, r3, _⟩ := HVr.out
  have rl := HVr.out.lt
  go_wp2_with fail
  clear r0 r1 r2 r3 rl
  replace H2 := hid (H2.out.storeV HVr.out 0 1 (.bool s2) (.slice A2 n2 c2))
  replace HBW := hid (show Below w.heap.size w ((w2.setCell ⟨w.heap.size + 1 + 1, 0, none⟩ (.bool s2)).setCell ⟨w.heap.size + 1 + 1, 1, none⟩ (.slice A2 n2 c2)) from (HBW.out.setCell (by simp; omega) _).setCell (by simp; omega) _)
  replace HVr := hid (HVr.out.store s2 A2 n2 c2)
  generalize ((w2.setCell ⟨w.heap.size + 1 + 1, 0, none⟩ (.bool s2)).setCell ⟨w.heap.size + 1 + 1, 1, none⟩ (.slice A2 n2 c2)) = W2 at *
  obtain ⟨r0, r1, r2, r3, _⟩ := HVr.out
  have rl := HVr.out.lt
  refine bodyPost_ret (v := .agg #[.bool s2, .slice A2 n2 c2]) (by simp [results, Tryz.results27, go_sem, r0, r1, rl]) rfl ⟨_, _, _, _, rfl, H2.out, HBW.out⟩
theorem Ref19.keep (q : Cf) (s0 : Bool) (A0 : Option Addr) (n0 c0 : Nat) (x n : Int) (w : World) (hB : IsB w 18 s0 A0 n0 c0 x) : Calls Tryz.prog 27 #[q.val, .agg #[.bool s0, .slice A0 n0 c0], .int .u64 n] w (BAns 18 (kpI q x n) w) := by
  cases hk : winOk n q.k with
  | false => exact Ref19.keep_no q s0 A0 n0 c0 x n _ rfl hk w hB
  | true => exact Ref19.keep_yes q s0 A0 n0 c0 x n _ rfl hk w hB
def chkI (q : Cf) : Int := allI [upI q.c 8, upI q.t 32, upI q.k 1099511627776, upI q.s 1099511627776]
theorem chkI_eq (q : Cf) : chkI q = if (1 ≤ q.c ∧ q.c ≤ 8) ∧ (1 ≤ q.t ∧ q.t ≤ 32) ∧ (1 ≤ q.k ∧ q.k ≤ 1099511627776) ∧ (1 ≤ q.s ∧ q.s ≤ 1099511627776) then 0 else 3 := by
  unfold chkI allI upI
  by_cases h1 : 1 ≤ q.c ∧ q.c ≤ 8 <;> by_cases h2 : 1 ≤ q.t ∧ q.t ≤ 32 <;> by_cases h3 : 1 ≤ q.k ∧ q.k ≤ 1099511627776 <;> by_cases h4 : 1 ≤ q.s ∧ q.s ≤ 1099511627776 <;> simp [h1, h2, h3, h4, allI]
def CkQ (w : World) (q : Cf) (W : World) : Prop := Cs W w.heap.size q.cells ∧ Below w.heap.size w W
theorem CkQ.below {w W W' : World} {q : Cf} (h : CkQ w q W) (hb : Below W.heap.size W W') : CkQ w q W' := ⟨h.1.below hb, below_keep h.2 hb⟩
theorem CkQ.drew {w W : World} {q : Cf} (h : CkQ w q W) : CkQ w q W.drew := h.below (Below.refl _ _).drew
theorem CkQ.see {w W : World} {q : Cf} (h : CkQ w q W) : (W.cell? ⟨w.heap.size, 0, none⟩ = some (.int .i64 q.c) ∧ W.cell? ⟨w.heap.size, 1, none⟩ = some (.int .i64 q.t) ∧ W.cell? ⟨w.heap.size, 2, none⟩ = some (.int .u64 q.k) ∧ W.cell? ⟨w.heap.size, 3, none⟩ = some (.int .u64 q.s)) ∧ CkQ w q W := by
  obtain ⟨q0, q1, q2, q3, _⟩ := Cf.at q h.1
  exact ⟨⟨q0, q1, q2, q3⟩, h⟩
theorem RdU.new4 (w : World) (t : TypeId) (a b c d : Int) : RdU .i64 (w.alloc (.cells #[.int .i64 a, .int .i64 b, .int .i64 c, .int .i64 d] t)) (some ⟨w.heap.size, 0, none⟩) 4 [a, b, c, d] :=
  ⟨rfl, fun i _ => ⟨w.heap.size, 0, rfl, by simp, fun j hj => by
    have h := Cs.alloc_new w t [.int .i64 a, .int .i64 b, .int .i64 c, .int .i64 d]
    rw [Nat.zero_add]
    match j, hj with
    | 0, _ => exact (h 0 _ rfl).1
    | 1, _ => exact (h 1 _ rfl).1
    | 2, _ => exact (h 2 _ rfl).1
    | 3, _ => exact (h 3 _ rfl).1⟩⟩
set_option maxRecDepth 100000 in
set_option maxHeartbeats 8000000 in
theorem Limits.check (q : Cf) (w : World) : Calls Tryz.prog 16 #[q.val] w (Ans (.int .i64 (chkI q)) w) := by
  have HQ : Hid (CkQ w q (w.alloc (.cells #[.int .i64 q.c, .int .i64 q.t, .int .u64 q.k, .int .u64 q.s, .int .u64 q.o] 24))) := hid ⟨Cf.new w 24 q, (Below.refl w.heap.size w).alloc (Nat.le_refl _) _⟩
  unfold Cf.val
  unfold chkI
  obtain ⟨e1, h1⟩ : ∃ e1, upI q.c 8 = e1 := ⟨_, rfl⟩
  obtain ⟨e2, h2⟩ : ∃ e2, upI q.t 32 = e2 := ⟨_, rfl⟩
  obtain ⟨e3, h3⟩ : ∃ e3, upI q.k 1099511627776 = e3 := ⟨_, rfl⟩
  obtain ⟨e4, h4⟩ : ∃ e4, upI q.s 1099511627776 = e4 := ⟨_, rfl⟩
  rw [h1, h2, h3, h4]
  have H1 := hid h1
  have H2 := hid h2
  have H3 := hid h3
  have H4 := hid h4
  clear h1 h2 h3 h4
  go_enter Tryz.func16, Tryz.ntmps16
  go_upto_region 1 with fail
  generalize (w.alloc (.cells #[.int .i64 q.c, .int .i64 q.t, .int .u64 q.k, .int .u64 q.s, .int .u64 q.o] 24)) = W0 at HQ ⊢
  obtain ⟨q0, q1, q2, q3, q4⟩ := Cf.at q HQ.out.1
  go_region_held3 (fun w' => (w'.cell? ⟨w.heap.size, 0, none⟩ = some (.int .i64 q.c) ∧ w'.cell? ⟨w.heap.size, 1, none⟩ = some (.int .i64 q.t) ∧ w'.cell? ⟨w.heap.size, 2, none⟩ = some (.int .u64 q.k) ∧ w'.cell? ⟨w.heap.size, 3, none⟩ = some (.int .u64 q.s)) ∧ CkQ w q w')
    (first | with_reducible exact CkQ.see (CkQ.drew HQ.out) | with_reducible exact CkQ.see (CkQ.below (And.right (by assumption : _ ∧ CkQ w q _)) hb) | with_reducible exact CkQ.see (CkQ.below HF.out ((Below.refl _ _).alloc (Nat.le_refl _) _)))
    (first
      | (go_at_call_of 72 (Value.int .i64 q.c); refine (Limits.upInt q.c 8 _).mono ?_; rw [H1.out]; rintro e w1 ⟨rfl, hb⟩)
      | (go_at_call_of 72 (Value.int .i64 q.t); refine (Limits.upInt q.t 32 _).mono ?_; rw [H2.out]; rintro e w2 ⟨rfl, hb⟩)
      | (go_at_call_of 73 (Value.int .u64 q.k); refine (Limits.upU q.k 1099511627776 _).mono ?_; rw [H3.out]; rintro e w3 ⟨rfl, hb⟩)
      | (go_at_call_of 73 (Value.int .u64 q.s); refine (Limits.upU q.s 1099511627776 _).mono ?_; rw [H4.out]; rintro e w4 ⟨rfl, hb⟩; have HF := hid (CkQ.below (And.right (by assumption : _ ∧ CkQ w q _)) hb); have HR := hid (RdU.new4 w4 29 e1 e2 e3 e4))
      | (go_at_call 29; refine (Limits.all _ 4 4 [e1, e2, e3, e4] _ HR.out (by omega)).mono ?_; rintro e w5 ⟨rfl, hb⟩; have HL := hid hb))
  go_wp2_with fail
  go_ret
  exact ⟨rfl, below_on (below_on HF.out.2 ((Below.refl _ _).alloc (Nat.le_refl _) _)) HL.out⟩
set_option maxRecDepth 100000 in
set_option maxHeartbeats 8000000 in
theorem Ref19.check (q : Cf) (w : World) : Calls Tryz.prog 17 #[q.val] w (Ans (.int .i64 (chkI q)) w) := by
  rw [chkI_eq]
  have HQ : Hid (Cs (w.alloc (.cells #[.int .i64 q.c, .int .i64 q.t, .int .u64 q.k, .int .u64 q.s, .int .u64 q.o] 28)) w.heap.size q.cells ∧ Below w.heap.size w (w.alloc (.cells #[.int .i64 q.c, .int .i64 q.t, .int .u64 q.k, .int .u64 q.s, .int .u64 q.o] 28))) := hid ⟨Cf.new w 28 q, (Below.refl w.heap.size w).alloc (Nat.le_refl _) _⟩
  unfold Cf.val
  by_cases h1 : q.c < 1
  · rw [if_neg (by omega)]
    go_enter Tryz.func17, Tryz.ntmps17
    go_upto_region 1 with fail
    generalize (w.alloc (.cells #[.int .i64 q.c, .int .i64 q.t, .int .u64 q.k, .int .u64 q.s, .int .u64 q.o] 28)) = W0 at HQ ⊢
    obtain ⟨q0, q1, q2, q3, q4⟩ := Cf.at q HQ.out.1
    go_wp2_with fail
    go_ret
    exact ⟨rfl, HQ.out.2⟩
  by_cases h2 : 8 < q.c
  · rw [if_neg (by omega)]
    go_enter Tryz.func17, Tryz.ntmps17
    go_upto_region 1 with fail
    generalize (w.alloc (.cells #[.int .i64 q.c, .int .i64 q.t, .int .u64 q.k, .int .u64 q.s, .int .u64 q.o] 28)) = W0 at HQ ⊢
    obtain ⟨q0, q1, q2, q3, q4⟩ := Cf.at q HQ.out.1
    go_wp2_with fail
    go_ret
    exact ⟨rfl, HQ.out.2⟩
  by_cases h3 : q.t < 1
  · rw [if_neg (by omega)]
    go_enter Tryz.func17, Tryz.ntmps17
    go_upto_region 1 with fail
    generalize (w.alloc (.cells #[.int .i64 q.c, .int .i64 q.t, .int .u64 q.k, .int .u64 q.s, .int .u64 q.o] 28)) = W0 at HQ ⊢
    obtain ⟨q0, q1, q2, q3, q4⟩ := Cf.at q HQ.out.1
    go_wp2_with fail
    go_ret
    exact ⟨rfl, HQ.out.2⟩
  by_cases h4 : 32 < q.t
  · rw [if_neg (by omega)]
    go_enter Tryz.func17, Tryz.ntmps17
    go_upto_region 1 with fail
    generalize (w.alloc (.cells #[.int .i64 q.c, .int .i64 q.t, .int .u64 q.k, .int .u64 q.s, .int .u64 q.o] 28)) = W0 at HQ ⊢
    obtain ⟨q0, q1, q2, q3, q4⟩ := Cf.at q HQ.out.1
    go_wp2_with fail
    go_ret
    exact ⟨rfl, HQ.out.2⟩
  by_cases h5 : q.k < 1
  · rw [if_neg (by omega)]
    go_enter Tryz.func17, Tryz.ntmps17
    go_upto_region 1 with fail
    generalize (w.alloc (.cells #[.int .i64 q.c, .int .i64 q.t, .int .u64 q.k, .int .u64 q.s, .int .u64 q.o] 28)) = W0 at HQ ⊢
    obtain ⟨q0, q1, q2, q3, q4⟩ := Cf.at q HQ.out.1
    go_wp2_with fail
    go_ret
    exact ⟨rfl, HQ.out.2⟩
  by_cases h6 : 1099511627776 < q.k
  · rw [if_neg (by omega)]
    go_enter Tryz.func17, Tryz.ntmps17
    go_upto_region 1 with fail
    generalize (w.alloc (.cells #[.int .i64 q.c, .int .i64 q.t, .int .u64 q.k, .int .u64 q.s, .int .u64 q.o] 28)) = W0 at HQ ⊢
    obtain ⟨q0, q1, q2, q3, q4⟩ := Cf.at q HQ.out.1
    go_wp2_with fail
    go_ret
    exact ⟨rfl, HQ.out.2⟩
  by_cases h7 : q.s < 1
  · rw [if_neg (by omega)]
    go_enter Tryz.func17, Tryz.ntmps17
    go_upto_region 1 with fail
    generalize (w.alloc (.cells #[.int .i64 q.c, .int .i64 q.t, .int .u64 q.k, .int .u64 q.s, .int .u64 q.o] 28)) = W0 at HQ ⊢
    obtain ⟨q0, q1, q2, q3, q4⟩ := Cf.at q HQ.out.1
    go_wp2_with fail
    go_ret
    exact ⟨rfl, HQ.out.2⟩
  by_cases h8 : 1099511627776 < q.s
  · rw [if_neg (by omega)]
    go_enter Tryz.func17, Tryz.ntmps17
    go_upto_region 1 with fail
    generalize (w.alloc (.cells #[.int .i64 q.c, .int .i64 q.t, .int .u64 q.k, .int .u64 q.s, .int .u64 q.o] 28)) = W0 at HQ ⊢
    obtain ⟨q0, q1, q2, q3, q4⟩ := Cf.at q HQ.out.1
    go_wp2_with fail
    go_ret
    exact ⟨rfl, HQ.out.2⟩
  · rw [if_pos (by omega)]
    go_enter Tryz.func17, Tryz.ntmps17
    go_upto_region 1 with fail
    generalize (w.alloc (.cells #[.int .i64 q.c, .int .i64 q.t, .int .u64 q.k, .int .u64 q.s, .int .u64 q.o] 28)) = W0 at HQ ⊢
    obtain ⟨q0, q1, q2, q3, q4⟩ := Cf.at q HQ.out.1
    go_wp2_with fail
    go_ret
    exact ⟨rfl, HQ.out.2⟩
end

/- Configurations, and slices of errors' numbers: how they are opened, for the laws' frames. -/
section
open Go.ChangeShapes Go.WideShapes Go.ChangeAt Go.RowKit Go.Joins Go.Deep
theorem cellsIntL : Tryz.prog.cellsOf 3 = 1 := by kernel_rfl
theorem cellsU64L : Tryz.prog.cellsOf 22 = 1 := by kernel_rfl
theorem cellsCfgL : Tryz.prog.cellsOf 24 = 5 := by kernel_rfl
set_option maxRecDepth 100000 in
theorem open_cfg {H : Type} {enc : TypeId × Value → H} {W : World} {base b0 : Nat} {spare : Nat → Bool} {held : Bool} {r : Reach} {v : Value} {d : DataW H} {p : List MemPlace}
    (hv : Value.okWide Tryz.prog W r b0 24 v) (h : DataW.Trod enc Tryz.prog W base spare held 24 v d p) :
    ∃ q : Cf, v = q.val ∧ q.In := by
  obtain ⟨cs, rfl, hsz⟩ := okWide_struct Tryz.underlying24 hv
  obtain ⟨l⟩ := cs
  match l, hsz.trans cellsCfgL with
  | [u0, u1, u2, u3, u4], _ =>
    obtain ⟨fuel, hf⟩ := h
    obtain ⟨xs, k, hk, hxy, _, hxl, hf⟩ := DataW.trod_struct Tryz.underlying24 hf
    match xs, hxl with
    | [y0, y1, y2, y3, y4], _ =>
      have g0 := hf 0 _ rfl
      have g1 := hf 1 _ rfl
      have g2 := hf 2 _ rfl
      have g3 := hf 3 _ rfl
      have g4 := hf 4 _ rfl
      simp [Value.cells, cellsIntL, cellsU64L] at g0 g1 g2 g3 g4
      obtain ⟨c0, e0, _, w0⟩ := DataW.trod_int Tryz.underlying3 g0
      obtain ⟨c1, e1, _, w1⟩ := DataW.trod_int Tryz.underlying3 g1
      obtain ⟨c2, e2, _, w2⟩ := DataW.trod_int Tryz.underlying22 g2
      obtain ⟨c3, e3, _, w3⟩ := DataW.trod_int Tryz.underlying22 g3
      obtain ⟨c4, e4, _, w4⟩ := DataW.trod_int Tryz.underlying22 g4
      simp at e0 e1 e2 e3 e4
      subst e0 e1 e2 e3 e4
      exact ⟨⟨c0, c1, c2, c3, c4⟩, rfl, w0, w1, bounds_u64 w2, bounds_u64 w3, bounds_u64 w4⟩
end

end Go.Proofs.YtegohmeapamoaaaGreatDoor

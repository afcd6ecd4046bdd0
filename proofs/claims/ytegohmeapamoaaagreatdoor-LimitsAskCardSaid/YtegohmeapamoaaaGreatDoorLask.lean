/- LimitsAsk: the walk. -/
import Derived.Test.YtegohmeapamoaaaGreatDoorLimitsAskZ36
import Derived.Test.YtegohmeapamoaaaGreatDoorLimitsAskZ50
import Derived.Test.YtegohmeapamoaaaGreatDoorTxt
namespace Go.Proofs.YtegohmeapamoaaaGreatDoor
open Go.RowKit
theorem Ref.cmpE2 (K : Nat) (s t : Bool) (A B : Option Addr) (n c m d : Nat) (x : Int) (w : World) (hx : IsB w K s A n c x) (hy : IsB w K t B m d x) (hK : K ≤ 1000000) :
    Calls Tryz.prog 24 #[.agg #[.bool s, .slice A n c], .agg #[.bool t, .slice B m d]] w fun e w' => e = .returned (.int .i64 0) ∧ Below w.heap.size w w' := by
  have h := Ref.cmp K s t A B n c m d x x w hx hy hK
  rwa [(cmpI_zero x x).2 rfl] at h
def LA (w : World) (c : Cf) (x : Int) (gv : Nat) (W : World) : Prop := Cs W w.heap.size c.cells ∧ Cs W (w.heap.size + 1) [.int .i64 (hiW x), .int .u64 (loW x)] ∧ Cs W gv c.cells ∧ Below w.heap.size w W
theorem LA.below {w : World} {c : Cf} {x : Int} {gv : Nat} {W W' : World} (h : LA w c x gv W) (hb : Below W.heap.size W W') : LA w c x gv W' := ⟨h.1.below hb, h.2.1.below hb, h.2.2.1.below hb, below_keep h.2.2.2 hb⟩
theorem LA.drew {w : World} {c : Cf} {x : Int} {gv : Nat} {W : World} (h : LA w c x gv W) : LA w c x gv W.drew := h.below (Below.refl _ _).drew
theorem LA.see {w : World} {c : Cf} {x : Int} {gv : Nat} {W : World} (h : LA w c x gv W) : (W.cell? ⟨w.heap.size, 0, none⟩ = some (.int .i64 c.c) ∧ W.cell? ⟨w.heap.size, 1, none⟩ = some (.int .i64 c.t) ∧ W.cell? ⟨w.heap.size, 2, none⟩ = some (.int .u64 c.k) ∧ W.cell? ⟨w.heap.size, 3, none⟩ = some (.int .u64 c.s) ∧ W.cell? ⟨w.heap.size, 4, none⟩ = some (.int .u64 c.o) ∧ W.cell? ⟨w.heap.size + 1, 0, none⟩ = some (.int .i64 (hiW x)) ∧ W.cell? ⟨w.heap.size + 1, 1, none⟩ = some (.int .u64 (loW x)) ∧ W.cell? ⟨gv, 0, none⟩ = some (.int .i64 c.c) ∧ W.cell? ⟨gv, 1, none⟩ = some (.int .i64 c.t) ∧ W.cell? ⟨gv, 2, none⟩ = some (.int .u64 c.k) ∧ W.cell? ⟨gv, 3, none⟩ = some (.int .u64 c.s) ∧ W.cell? ⟨gv, 4, none⟩ = some (.int .u64 c.o)) ∧ LA w c x gv W := by
  obtain ⟨c0, c1, c2, c3, c4⟩ := Cf.at c h.1
  obtain ⟨d0, d1, d2, d3, d4⟩ := Cf.at c h.2.2.1
  exact ⟨⟨c0, c1, c2, c3, c4, h.2.1.at0, h.2.1.at1, d0, d1, d2, d3, d4⟩, h⟩
set_option maxRecDepth 100000 in
set_option maxHeartbeats 16000000 in
theorem Lask.core (c : Cf) (k n x : Int) (hk : IsT c.k) (hn : IsT n) (hx : WR x) (w : World) : Calls Tryz.prog 3 #[c.val, .int .i64 k, .int .u64 n, wv x] w (Ans (.bool true) w) := by
  have HX := hid hx
  have HN := hid hn
  have HK := hid hk
  have HKB := hid (kpI_bd c x n)
  obtain ⟨z, hz⟩ : ∃ z, kpI c x n = z := ⟨_, rfl⟩
  have HZ := hid hz
  rw [hz] at HKB
  have HQ : Hid (Cs ((w.alloc (.cells #[.int .i64 c.c, .int .i64 c.t, .int .u64 c.k, .int .u64 c.s, .int .u64 c.o] 24)).alloc (.cells #[.int .i64 (hiW x), .int .u64 (loW x)] 26)) w.heap.size c.cells ∧ Cs ((w.alloc (.cells #[.int .i64 c.c, .int .i64 c.t, .int .u64 c.k, .int .u64 c.s, .int .u64 c.o] 24)).alloc (.cells #[.int .i64 (hiW x), .int .u64 (loW x)] 26)) (w.heap.size + 1) [.int .i64 (hiW x), .int .u64 (loW x)] ∧ Below w.heap.size w ((w.alloc (.cells #[.int .i64 c.c, .int .i64 c.t, .int .u64 c.k, .int .u64 c.s, .int .u64 c.o] 24)).alloc (.cells #[.int .i64 (hiW x), .int .u64 (loW x)] 26))) := hid ⟨(Cf.new w 24 c).below ((Below.refl _ _).alloc (Nat.le_refl _) _), by have := Cs.new2 (w.alloc (.cells #[.int .i64 c.c, .int .i64 c.t, .int .u64 c.k, .int .u64 c.s, .int .u64 c.o] 24)) 26 (.int .i64 (hiW x)) (.int .u64 (loW x)); simpa using this, ((Below.refl w.heap.size w).alloc (Nat.le_refl _) _).alloc (by simp) _⟩
  clear hx hn hk hz
  unfold Cf.val
  go_enter Tryz.func3, Tryz.ntmps3
  go_upto_region 1 with fail
  generalize ((w.alloc (.cells #[.int .i64 c.c, .int .i64 c.t, .int .u64 c.k, .int .u64 c.s, .int .u64 c.o] 24)).alloc (.cells #[.int .i64 (hiW x), .int .u64 (loW x)] 26)) = W0 at HQ ⊢
  go_wp2_with fail
  refine (aw19a _).mono ?_
  rintro e w1 ⟨rfl, hb⟩
  have HQ1 := hid (And.intro (HQ.out.1.below hb) (And.intro (HQ.out.2.1.below hb) (below_on HQ.out.2.2 hb)))
  clear hb HQ
  obtain ⟨c0, c1, c2, c3, c4⟩ := Cf.at c HQ1.out.1
  have ha := (Below.refl w1.heap.size w1).alloc (Nat.le_refl _) (.cells #[.int .i64 c.c, .int .i64 c.t, .int .u64 c.k, .int .u64 c.s, .int .u64 c.o] 28)
  have HLA : Hid (LA w c x w1.heap.size (w1.alloc (.cells #[.int .i64 c.c, .int .i64 c.t, .int .u64 c.k, .int .u64 c.s, .int .u64 c.o] 28))) := hid ⟨HQ1.out.1.below ha, HQ1.out.2.1.below ha, Cf.new w1 28 c, below_on HQ1.out.2.2 ha⟩
  clear ha
  go_upto_region 4 with fail
  clear c0 c1 c2 c3 c4 HQ1
  generalize w1.alloc (.cells #[.int .i64 c.c, .int .i64 c.t, .int .u64 c.k, .int .u64 c.s, .int .u64 c.o] 28) = W3 at HLA ⊢
  generalize w1.heap.size = gv at HLA ⊢
  go_region_held3 (fun w' => (w'.cell? ⟨w.heap.size, 0, none⟩ = some (.int .i64 c.c) ∧ w'.cell? ⟨w.heap.size, 1, none⟩ = some (.int .i64 c.t) ∧ w'.cell? ⟨w.heap.size, 2, none⟩ = some (.int .u64 c.k) ∧ w'.cell? ⟨w.heap.size, 3, none⟩ = some (.int .u64 c.s) ∧ w'.cell? ⟨w.heap.size, 4, none⟩ = some (.int .u64 c.o) ∧ w'.cell? ⟨w.heap.size + 1, 0, none⟩ = some (.int .i64 (hiW x)) ∧ w'.cell? ⟨w.heap.size + 1, 1, none⟩ = some (.int .u64 (loW x)) ∧ w'.cell? ⟨gv, 0, none⟩ = some (.int .i64 c.c) ∧ w'.cell? ⟨gv, 1, none⟩ = some (.int .i64 c.t) ∧ w'.cell? ⟨gv, 2, none⟩ = some (.int .u64 c.k) ∧ w'.cell? ⟨gv, 3, none⟩ = some (.int .u64 c.s) ∧ w'.cell? ⟨gv, 4, none⟩ = some (.int .u64 c.o)) ∧ LA w c x gv w')
    (first | with_reducible exact LA.see HLA.out.drew | with_reducible exact LA.see (LA.below (And.right (by assumption : _ ∧ LA w c x gv _)) hb3) | with_reducible assumption | with_reducible exact LA.see (And.right (by assumption : _ ∧ LA w c x gv _)))
    (first
      | (go_at_call 16; refine (Limits.check c _).mono ?_; rintro e w4 ⟨rfl, hb3⟩)
      | (go_at_call 17; refine (Ref19.check c _).mono ?_; rintro e w5 ⟨rfl, hb3⟩)
      | (go_at_call 18; refine (Limits.core c k _).mono ?_; rintro e w6 ⟨rfl, hb3⟩)
      | (go_at_call 19; refine (Ref19.core c k _).mono ?_; rintro e w7 ⟨rfl, hb3⟩)
      | (go_at_call 20; refine (Limits.weight c n _).mono ?_; rintro e w8 ⟨rfl, hb3⟩)
      | (go_at_call_of 21 (Value.int .u64 1048576); refine (Ref19.within n 1048576 _).mono ?_; rintro e w9 ⟨rfl, hb3⟩)
      | (go_at_call 22; refine (Limits.request c n _).mono ?_; rintro e w10 ⟨rfl, hb3⟩)
      | (go_at_call_of 21 (Value.int .u64 (min c.s 1099511627776)); refine (Ref19.within n (min c.s 1099511627776) _).mono ?_; rintro e w11 ⟨rfl, hb3⟩)
      | (go_at_call 23; refine (Limits.time c n _).mono ?_; rintro e w12 ⟨rfl, hb3⟩)
      | (go_at_call_of 21 (Value.int .u64 (min c.k 1099511627776)); refine (Ref19.within n (min c.k 1099511627776) _).mono ?_; rintro e w13 ⟨rfl, hb3⟩)
      | (go_at_call 26; refine (Limits.keep c x n HK.out HX.out HN.out _).mono ?_; rw [HZ.out]; rintro e w14 ⟨rfl, hb3⟩)
      | (go_at_call 25; refine (Ref.N z (by have := HKB.out; omega) (by have := HKB.out; omega) _).mono ?_; rintro e w15 ⟨s15, A15, n15, c15, rfl, hB, hb3⟩; have H15 := hid (hB.mono (show 5 ≤ 18 by decide)); clear hB)
      | (go_at_call 28; refine (Law.of _ _ _ (isW_of HX.out) _).mono ?_; rintro e w16 ⟨s16, A16, n16, c16, rfl, hB, hb3⟩; have H16 := hid hB; have H15' := hid (H15.out.below hb3); clear hB)
      | (go_at_call 27; refine (Ref19.keep c s16 A16 n16 c16 x n _ H16.out).mono ?_; rw [HZ.out]; rintro e w17 ⟨s17, A17, n17, c17, rfl, hB, hb3⟩; have H17 := hid hB; have H15'' := hid (H15'.out.below hb3); clear hB)
      | (go_at_call 24; refine (Ref.cmpE2 18 s15 s17 A15 A17 n15 c15 n17 c17 z _ H15''.out H17.out (by decide)).mono ?_; rintro e w18 ⟨rfl, hb3⟩))
  all_goals
    have HFIN := hid (And.right (by assumption : _ ∧ LA w c x gv _)).2.2.2
    first
      | (go_ret; exact ⟨rfl, HFIN.out⟩)
      | (go_wp2_with fail; go_ret; exact ⟨rfl, HFIN.out⟩)
theorem Lask.law (c : Cf) (k n h l : Int) (w : World) (hc : c.In) (_ : (Lit.int .i64 k).wf = true) (wn : (Lit.int .u64 n).wf = true) (w2 : IsWd h l) (_ : Tab10 w.heap.size w) : Calls Tryz.prog 3 #[c.val, .int .i64 k, .int .u64 n, .agg #[.int .i64 h, .int .u64 l]] w (Ans (.bool true) w) := by
  obtain ⟨e1, e2⟩ := IsW.words w2
  have hx := w2.wr
  generalize h * 18446744073709551616 + l = x at *
  rw [e1, e2]
  exact Lask.core c k n x hc.2.2.1 (bounds_u64 wn) hx w
end Go.Proofs.YtegohmeapamoaaaGreatDoor

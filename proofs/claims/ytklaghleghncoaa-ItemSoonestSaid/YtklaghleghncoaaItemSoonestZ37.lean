/- Texts of ItemSoonest's proof, together. -/
import Derived.Test.YtklaghleghncoaaItemSoonestZ31
import Derived.Test.YtklaghleghncoaaPfloors
import Derived.Test.YtklaghleghncoaaReckons
import Derived.Test.YtklaghleghncoaaItemSoonestZ36
import Derived.Test.YtklaghleghncoaaItemSoonestZ28
import Derived.Test.YtklaghleghncoaaItemSoonestZ22
import Derived.Test.YtklaghleghncoaaItemSoonestZ13
import Derived.Test.YtklaghleghncoaaItemSoonestZ14
import Derived.Test.YtklaghleghncoaaBig
namespace Go.Proofs.Ytklaghleghncoaa
/- The document's spread of items. -/
section
open Go.RowKit
/-- The greatest of all times. -/
def hmI (b : Int) (l : List It) : Int := max (hiL b (l.map It.pp)) (hiL b (l.map It.dp))
theorem getD_map_pp {l : List It} {k : Nat} (hk : k < l.length) : ((l.map It.pp).getD k (0, 0, 0)).1 = (l.getD k It.zero).t := by simp [List.getD, hk]
theorem getD_map_dp {l : List It} {k : Nat} (hk : k < l.length) : ((l.map It.dp).getD k (0, 0, 0)).1 = (l.getD k It.zero).u := by simp [List.getD, hk]
theorem lo_stepI (b : Int) {l : List It} {k : Nat} (hk : k < l.length) : loL b ((l.take (k + 1)).map It.pp) = if k = 0 then dif (l.getD k It.zero).t b else min (loL b ((l.take k).map It.pp)) (dif (l.getD k It.zero).t b) := by
  have h := loL_step b (l.map It.pp) (k := k) (by simpa using hk)
  rw [getD_map_pp hk, ← List.map_take, ← List.map_take] at h
  exact h
theorem hm_stepI (b : Int) {l : List It} {k : Nat} (hk : k < l.length) : hmI b (l.take (k + 1)) = if k = 0 then max (dif (l.getD k It.zero).t b) (dif (l.getD k It.zero).u b) else max (max (hmI b (l.take k)) (dif (l.getD k It.zero).t b)) (dif (l.getD k It.zero).u b) := by
  have h := hiL_step b (l.map It.pp) (k := k) (by simpa using hk)
  have h2 := hiL_step b (l.map It.dp) (k := k) (by simpa using hk)
  rw [getD_map_pp hk, ← List.map_take, ← List.map_take] at h
  rw [getD_map_dp hk, ← List.map_take, ← List.map_take] at h2
  unfold hmI
  rw [h, h2]
  split
  · rfl
  · omega
/-- All variables of a round. -/
def SP (w0 : World) (gp gd : Nat) (s1 : Bool) (A1 : Option Addr) (n1 c1 : Nat) (u : Int) (s2 : Bool) (A2 : Option Addr) (n2 c2 : Nat) (v : Int) (s3 : Bool) (A3 : Option Addr) (n3 c3 : Nat) (p : Int) (s5 : Bool) (A5 : Option Addr) (n5 c5 : Nat) (d : Int) (w : World) : Prop :=
  LH w0 (w0.heap.size + 1) (w0.heap.size + 2) s1 A1 n1 c1 u s2 A2 n2 c2 v w ∧ Var w w0.heap.size false none 0 0 ∧ (Var w gp s3 A3 n3 c3 ∧ Var w gd s5 A5 n5 c5) ∧ (IsB w 70 s3 A3 n3 c3 p ∧ IsB w 70 s5 A5 n5 c5 d)
section
variable {w0 w : World} {gp gd : Nat} {s1 : Bool} {A1 : Option Addr} {n1 c1 : Nat} {u : Int} {s2 : Bool} {A2 : Option Addr} {n2 c2 : Nat} {v : Int} {s3 : Bool} {A3 : Option Addr} {n3 c3 : Nat} {p : Int} {s5 : Bool} {A5 : Option Addr} {n5 c5 : Nat} {d : Int}
theorem SP.below {w' : World} (h : SP w0 gp gd s1 A1 n1 c1 u s2 A2 n2 c2 v s3 A3 n3 c3 p s5 A5 n5 c5 d w) (hb : Below w.heap.size w w') : SP w0 gp gd s1 A1 n1 c1 u s2 A2 n2 c2 v s3 A3 n3 c3 p s5 A5 n5 c5 d w' :=
  ⟨h.1.below hb, h.2.1.below hb, ⟨h.2.2.1.1.below hb, h.2.2.1.2.below hb⟩, h.2.2.2.1.below hb, h.2.2.2.2.below hb⟩
theorem SP.lo3 (h : SP w0 gp gd s1 A1 n1 c1 u s2 A2 n2 c2 v s3 A3 n3 c3 p s5 A5 n5 c5 d w) (e1 : w0.heap.size + 2 < gp) (e2 : w0.heap.size + 2 < gd) :
    ∀ W, W = (w.setCell ⟨w0.heap.size + 1, 0, none⟩ (.bool s3)).setCell ⟨w0.heap.size + 1, 1, none⟩ (.slice A3 n3 c3) → SP w0 gp gd s3 A3 n3 c3 p s2 A2 n2 c2 v s3 A3 n3 c3 p s5 A5 n5 c5 d W := by
  rintro W rfl
  exact ⟨h.1.put1 (by omega) (by omega) h.2.2.2.1, h.2.1.far (by omega) _ _ _ _, ⟨h.2.2.1.1.far (by omega) _ _ _ _, h.2.2.1.2.far (by omega) _ _ _ _⟩, h.2.2.2.1.storeV h.1.1 _ _ _ _, h.2.2.2.2.storeV h.1.1 _ _ _ _⟩
theorem SP.hi3 (h : SP w0 gp gd s1 A1 n1 c1 u s2 A2 n2 c2 v s3 A3 n3 c3 p s5 A5 n5 c5 d w) (e1 : w0.heap.size + 2 < gp) (e2 : w0.heap.size + 2 < gd) :
    ∀ W, W = (w.setCell ⟨w0.heap.size + 2, 0, none⟩ (.bool s3)).setCell ⟨w0.heap.size + 2, 1, none⟩ (.slice A3 n3 c3) → SP w0 gp gd s1 A1 n1 c1 u s3 A3 n3 c3 p s3 A3 n3 c3 p s5 A5 n5 c5 d W := by
  rintro W rfl
  exact ⟨h.1.put2 (by omega) (by omega) h.2.2.2.1, h.2.1.far (by omega) _ _ _ _, ⟨h.2.2.1.1.far (by omega) _ _ _ _, h.2.2.1.2.far (by omega) _ _ _ _⟩, h.2.2.2.1.storeV h.1.2.1 _ _ _ _, h.2.2.2.2.storeV h.1.2.1 _ _ _ _⟩
theorem SP.hi5 (h : SP w0 gp gd s1 A1 n1 c1 u s2 A2 n2 c2 v s3 A3 n3 c3 p s5 A5 n5 c5 d w) (e1 : w0.heap.size + 2 < gp) (e2 : w0.heap.size + 2 < gd) :
    ∀ W, W = (w.setCell ⟨w0.heap.size + 2, 0, none⟩ (.bool s5)).setCell ⟨w0.heap.size + 2, 1, none⟩ (.slice A5 n5 c5) → SP w0 gp gd s1 A1 n1 c1 u s5 A5 n5 c5 d s3 A3 n3 c3 p s5 A5 n5 c5 d W := by
  rintro W rfl
  exact ⟨h.1.put2 (by omega) (by omega) h.2.2.2.2, h.2.1.far (by omega) _ _ _ _, ⟨h.2.2.1.1.far (by omega) _ _ _ _, h.2.2.1.2.far (by omega) _ _ _ _⟩, h.2.2.2.1.storeV h.1.2.1 _ _ _ _, h.2.2.2.2.storeV h.1.2.1 _ _ _ _⟩
end
theorem cmp_no {a b : Int} (h : ¬ a < b) : decide (cmpI a b < 0) = false := by
  rw [decide_eq_false_iff_not]
  rcases Int.lt_or_eq_of_le (show b ≤ a by omega) with h | h
  · rw [cmpI_gt h]; decide
  · rw [h, cmpI_eq]; decide
theorem cmp_no2 {a b : Int} (h : ¬ b < a) : decide (0 < cmpI a b) = false := by
  rw [decide_eq_false_iff_not]
  rcases Int.lt_or_eq_of_le (show a ≤ b by omega) with h | h
  · rw [cmpI_lt h]; decide
  · rw [h, cmpI_eq]; decide
set_option maxRecDepth 100000 in
set_option maxHeartbeats 20000000 in
theorem Ref5.spread (base : Int) (hb0 : IsT base) (A : Option Addr) (n c : Nat) (l : List It) (w : World) (hr : RdI w A n l) (hi : InI l) (hn : n ≤ 1000000) :
    Calls Try.prog 10 #[.int .u64 base, .slice A n c] w (BAns 71 (spreadI base l) w) := by
  have HR := hid hr
  have HL := hid hr.1
  have HI := hid hi
  have HB0 := hid hb0
  have hni : (n : Int) ≤ 1000000 := by omega
  clear hr hi hb0
  go_enter Try.func10, Try.ntmps10
  go_wp2_with fail
  go_loopg [13] n (fun g i wr => ∃ (k : Nat) (s1 : Bool) (A1 : Option Addr) (n1 c1 : Nat) (s2 : Bool) (A2 : Option Addr) (n2 c2 : Nat), i = .int .i64 k ∧ g = n - k ∧ k ≤ n ∧ LH w (w.heap.size + 1) (w.heap.size + 2) s1 A1 n1 c1 (loL base ((l.take k).map It.pp)) s2 A2 n2 c2 (hmI base (l.take k)) wr ∧ Var wr w.heap.size false none 0 0)
  case atStart =>
    have v0 := Var.new w 42 false none 0 0
    have v1 := Var.new (w.alloc (.cells #[.bool false, .slice none 0 0] 42)) 42 false none 0 0
    have v2 := Var.new ((w.alloc (.cells #[.bool false, .slice none 0 0] 42)).alloc (.cells #[.bool false, .slice none 0 0] 42)) 42 false none 0 0
    simp only [World.size_alloc] at v1 v2
    exact ⟨0, false, none, 0, 0, false, none, 0, 0, rfl, rfl, Nat.zero_le _, ⟨v1.alloc _, v2, IsB.zero _ _, IsB.zero _ _, (((Below.refl w.heap.size w).alloc (Nat.le_refl _) _).alloc (by simp) _).alloc (by simp; omega) _⟩, (v0.alloc _).alloc _⟩
  case round =>
    obtain ⟨k, s1, A1, n1, c1, s2, A2, n2, c2, rfl, hg, hk, hLH, hres⟩ := hrel
    have HG := hid hg
    have K0 := hid hLH
    have V0 := hid hres
    clear hg hLH hres
    by_cases hlt : k < n
    · obtain ⟨b, off, e2, _, hc⟩ := (HR.out.below K0.out.2.2.2.2).2 k hlt
      subst e2
      obtain ⟨p0, p1, p2, p3, p4, p5, p6⟩ := hc k hlt
      have HS := hid (And.intro (lo_stepI base (l := l) (k := k) (by have := HL.out; omega)) (hm_stepI base (l := l) (k := k) (by have := HL.out; omega)))
      have HQ := hid (HI.out.get (k := k) (by have := HL.out; omega))
      generalize l.getD k It.zero = x at *
      generalize loL base ((l.take k).map It.pp) = u at *
      generalize hmI base (l.take k) = v at *
      have hki : (k : Int) < n := by omega
      clear hc
      have HC0 := hid (Cs.new7 wr 36 x)
      have ha := (Below.refl wr.heap.size wr).alloc (Nat.le_refl _) (.cells #[.int .u64 x.t, .int .u32 x.r, .int .u32 x.v, .int .i64 x.i, .int .u64 x.u, .int .u32 x.s, .int .u32 x.y] 36)
      have K1 := hid (K0.out.below ha)
      have V1 := hid (V0.out.below ha)
      have HGA : Hid (wr.heap.size < (wr.alloc (.cells #[.int .u64 x.t, .int .u32 x.r, .int .u32 x.v, .int .i64 x.i, .int .u64 x.u, .int .u32 x.s, .int .u32 x.y] 36)).heap.size ∧ w.heap.size + 2 < wr.heap.size) := hid ⟨by simp, K0.out.2.1.lt⟩
      clear ha
      go_upto_region 5 with fail
      generalize wr.alloc (.cells #[.int .u64 x.t, .int .u32 x.r, .int .u32 x.v, .int .i64 x.i, .int .u64 x.u, .int .u32 x.s, .int .u32 x.y] 36) = w1 at *
      generalize wr.heap.size = ga at *
      have HC1 : Hid ((w1.cell? ⟨ga, 0, none⟩ = some (.int .u64 x.t) ∧ w1.cell? ⟨ga, 4, none⟩ = some (.int .u64 x.u) ∧ w1.cell? ⟨ga, 0, none⟩ = some (.int .u64 x.t) ∧ w1.cell? ⟨ga, 4, none⟩ = some (.int .u64 x.u))) := hid ⟨(It.at x HC0.out).1, (It.at x HC0.out).2.2.2.2.1, (It.at x HC0.out).1, (It.at x HC0.out).2.2.2.2.1⟩
      have HB1 : Hid (Below w1.heap.size w1 w1) := hid (Below.refl _ _)
      have hsz : ga < w1.heap.size := HGA.out.1
      have hgw : w.heap.size + 2 < w1.heap.size := by have := HGA.out; omega
      have K1a := hid K1.out.1
      have K1b := hid K1.out.2.1
      have K1c := hid K1.out.2.2.1
      have K1d := hid K1.out.2.2.2.1
      clear p0 p1 p2 p3 p4 p5 p6 HC0
      go_cut [9, 10] (fun pp qq wc => ∃ (gp gd : Nat) (s3 : Bool) (A3 : Option Addr) (n3 c3 : Nat) (s5 : Bool) (A5 : Option Addr) (n5 c5 : Nat), pp = .pointer (some ⟨gp, 0, none⟩) ∧ qq = .pointer (some ⟨gd, 0, none⟩) ∧ w1.heap.size ≤ gp ∧ w1.heap.size ≤ gd ∧
          Var wc gp s3 A3 n3 c3 ∧ Var wc gd s5 A5 n5 c5 ∧ IsB wc 70 s3 A3 n3 c3 (dif x.t base) ∧ IsB wc 70 s5 A5 n5 c5 (dif x.u base) ∧
          (Var wc (w.heap.size + 1) s1 A1 n1 c1 ∧ Var wc (w.heap.size + 2) s2 A2 n2 c2 ∧ Var wc w.heap.size false none 0 0) ∧ (IsB wc 70 s1 A1 n1 c1 u ∧ IsB wc 70 s2 A2 n2 c2 v) ∧ Below w1.heap.size w1 wc)
      case first =>
        go_region_held3 (fun w' => (w'.cell? ⟨ga, 0, none⟩ = some (.int .u64 x.t) ∧ w'.cell? ⟨ga, 4, none⟩ = some (.int .u64 x.u) ∧ w'.cell? ⟨ga, 0, none⟩ = some (.int .u64 x.t) ∧ w'.cell? ⟨ga, 4, none⟩ = some (.int .u64 x.u)) ∧ Below w1.heap.size w1 w')
          (first | ((repeat (first | with_reducible exact And.intro HC1.out HB1.out | with_reducible refine keepDr ?_ | with_reducible exact hS3 | with_reducible exact hS2 | with_reducible refine keepAl ?_ _ | with_reducible refine keepSt ?_ (by omega) (by omega) (by omega) (by omega) (by omega))); done) | exact ⟨HC1.out, HB1.out.drew⟩ | exact keepP (by assumption) hb2 (fun h => below_keep h hb2))
          (first
            | (go_at_call_of 17 (Value.int .u64 x.t); refine (Ref3.since x.t base HQ.out.1.1 HQ.out.1.2 HB0.out.1 HB0.out.2 _).mono ?_; rintro e w2 ⟨s3, A3, n3, c3, rfl, hB1, hb2⟩; have HBb := hid hb2; have H1 := hid hB1; clear hB1; have hle2 : w1.heap.size ≤ w2.heap.size := (by have := hb2.size; (try simp at this); omega); (try (have F := ((Fresh.ofVar (by first | with_reducible exact Var.drew (Var.new _ _ _ _ _ _) | with_reducible exact Var.drew (Var.alloc (Var.new _ _ _ _ _ _) _))).below hb2 : Fresh w2 (w1.heap.size)); have HFa := hid (Var.fresh F); have := Var.lt (Var.fresh F); obtain ⟨_, _, _, _, _⟩ := F)); (try (have F := ((Fresh.ofVar (by first | with_reducible exact Var.drew (Var.new1 _ _ _ _ _ _ _))).below hb2 : Fresh w2 (w1.heap.size + 1)); have HFb := hid (Var.fresh F); have := Var.lt (Var.fresh F); obtain ⟨_, _, _, _, _⟩ := F)); (have hS2 : (w2.cell? ⟨ga, 0, none⟩ = some (.int .u64 x.t) ∧ w2.cell? ⟨ga, 4, none⟩ = some (.int .u64 x.u) ∧ w2.cell? ⟨ga, 0, none⟩ = some (.int .u64 x.t) ∧ w2.cell? ⟨ga, 4, none⟩ = some (.int .u64 x.u)) ∧ Below w1.heap.size w1 w2 := keepP (by assumption) hb2 (fun h => below_keep h hb2)))
            | (go_at_call_of 17 (Value.int .u64 x.u); refine (Ref3.since x.u base HQ.out.2.2.2.2.1.1 HQ.out.2.2.2.2.1.2 HB0.out.1 HB0.out.2 _).mono ?_; rintro e w3 ⟨s5, A5, n5, c5, rfl, hB2, hb2⟩; have HBc := hid hb2; have H2 := hid hB2; clear hB2; have hle3 : w2.heap.size ≤ w3.heap.size := (by have := hb2.size; (try simp at this); omega); (try (have F := ((Fresh.ofVar (by first | with_reducible exact (Var.new _ _ _ _ _ _) | with_reducible exact Var.alloc (Var.new _ _ _ _ _ _) _)).below hb2 : Fresh w3 (w2.heap.size)); have HFc := hid (Var.fresh F); have := Var.lt (Var.fresh F); obtain ⟨_, _, _, _, _⟩ := F)); (try (have F := ((Fresh.ofVar (by first | with_reducible exact (Var.new1 _ _ _ _ _ _ _))).below hb2 : Fresh w3 (w2.heap.size + 1)); have HFd := hid (Var.fresh F); have := Var.lt (Var.fresh F); obtain ⟨_, _, _, _, _⟩ := F)); (try (have F := ((Fresh.ofVar (by first | with_reducible exact HFa.out | with_reducible exact Var.alloc HFa.out _ | with_reducible exact Var.alloc (Var.alloc HFa.out _) _)).below hb2 : Fresh w3 (w1.heap.size)); have HFe := hid (Var.fresh F); have := Var.lt (Var.fresh F); obtain ⟨_, _, _, _, _⟩ := F)); (try (have F := ((Fresh.ofVar (by first | with_reducible exact HFb.out | with_reducible exact Var.alloc HFb.out _ | with_reducible exact Var.alloc (Var.alloc HFb.out _) _)).below hb2 : Fresh w3 (w1.heap.size + 1)); have HFf := hid (Var.fresh F); have := Var.lt (Var.fresh F); obtain ⟨_, _, _, _, _⟩ := F)); (have hS3 : (w3.cell? ⟨ga, 0, none⟩ = some (.int .u64 x.t) ∧ w3.cell? ⟨ga, 4, none⟩ = some (.int .u64 x.u) ∧ w3.cell? ⟨ga, 0, none⟩ = some (.int .u64 x.t) ∧ w3.cell? ⟨ga, 4, none⟩ = some (.int .u64 x.u)) ∧ Below w1.heap.size w1 w3 := keepP (by assumption) hb2 (fun h => below_keep h hb2))))
        all_goals
          go_wp2_with fail
          go_meet
          refine ⟨_, _, s3, A3, n3, c3, s5, A5, n5, c5, rfl, rfl, (by omega), (by omega), ?_, ?_, ?_, ?_, ⟨?_, ?_, ?_⟩, ⟨?_, ?_⟩, And.right (by assumption : (_ ∧ _ ∧ _ ∧ _) ∧ Below w1.heap.size w1 _)⟩
          all_goals (repeat (first
            | with_reducible exact H1.out
            | with_reducible exact H2.out
            | with_reducible exact K1a.out
            | with_reducible exact K1b.out
            | with_reducible exact V1.out
            | with_reducible exact K1c.out
            | with_reducible exact K1d.out
            | with_reducible exact Var.new _ _ _ _ _ _
            | with_reducible exact Var.new1 _ _ _ _ _ _ _
            | with_reducible exact HFc.out
            | with_reducible exact HFd.out
            | with_reducible exact HFe.out
            | with_reducible exact HFf.out
            | with_reducible exact Var.newS _ _ _ _ _ _ _ _ _ _ _ _
            | with_reducible refine Var.store (s := false) (A := none) (n := 0) (c := 0) ?_ _ _ _ _
            | with_reducible refine IsB.storeV (s0 := false) (A0 := none) (n0 := 0) (c0 := 0) ?_ ?_ _ _ _ _
            | with_reducible refine Var.far ?_ (by omega) _ _ _ _
            | with_reducible refine Var.alloc ?_ _
            | with_reducible refine IsB.alloc ?_ _
            | with_reducible refine Var.drew ?_
            | with_reducible refine IsB.drew ?_
            | with_reducible refine Var.below ?_ HBc.out
            | with_reducible refine IsB.below ?_ HBc.out
            | with_reducible refine Var.below ?_ HBb.out
            | with_reducible refine IsB.below ?_ HBb.out))
      case rest =>
        obtain ⟨gp, gd, s3, A3, n3, c3, s5, A5, n5, c5, rfl, rfl, hgp, hgd, q1, q2, q3, q4, ⟨q5, q6, q7⟩, ⟨q8, q9⟩, q10⟩ := hcut
        have HG2 : Hid (w.heap.size + 2 < gp ∧ w.heap.size + 2 < gd) := hid (by have := HGA.out; omega)
        have K2 : Hid (SP w gp gd s1 A1 n1 c1 u s2 A2 n2 c2 v s3 A3 n3 c3 (dif x.t base) s5 A5 n5 c5 (dif x.u base) wc) := hid ⟨⟨q5, q6, q8, q9, below_keep K1.out.2.2.2.2 q10⟩, q7, ⟨q1, q2⟩, q3, q4⟩
        clear q1 q2 q3 q4 q5 q6 q7 q8 q9 q10 hgp hgd hgw K1a K1b K1c K1d K1 V1 HC1 HB1 hsz HGA K0 V0
        by_cases hk0 : k = 0
        · subst hk0
          rw [if_pos rfl, if_pos rfl] at HS
          have HLO := hid HS.out.1
          go_upto_region 7 with fail
          have HP := hid (K2.out.lo3 HG2.out.1 HG2.out.2)
          obtain ⟨v0, v1, v2, v3, _⟩ := K2.out.1.1
          have vl := K2.out.1.1.lt
          obtain ⟨d0, d1, _, _, _⟩ := K2.out.2.2.1.1
          go_upto_region 9 with fail
          have K3 := hid (HP.out _ rfl)
          clear v0 v1 v2 v3 vl d0 d1 HP
          generalize (wc.setCell ⟨w.heap.size + 1, 0, none⟩ (.bool s3)).setCell ⟨w.heap.size + 1, 1, none⟩ (.slice A3 n3 c3) = w4 at *
          have HP := hid (K3.out.hi3 HG2.out.1 HG2.out.2)
          obtain ⟨v0, v1, v2, v3, _⟩ := K3.out.1.2.1
          have vl := K3.out.1.2.1.lt
          obtain ⟨d0, d1, _, _, _⟩ := K3.out.2.2.1.1
          go_upto_region 10 with fail
          have K8 := hid (HP.out _ rfl)
          clear v0 v1 v2 v3 vl d0 d1 HP
          generalize (w4.setCell ⟨w.heap.size + 2, 0, none⟩ (.bool s3)).setCell ⟨w.heap.size + 2, 1, none⟩ (.slice A3 n3 c3) = w8 at *
          obtain ⟨v0, v1, v2, v3, _⟩ := K8.out.1.2.1
          have vl := K8.out.1.2.1.lt
          obtain ⟨d0, d1, _, _, _⟩ := K8.out.2.2.1.2
          go_wp2_with fail
          refine (Ref.cmp 70 s5 s3 A5 A3 n5 c5 n3 c3 (dif x.u base) (dif x.t base) _ K8.out.2.2.2.2 K8.out.1.2.2.2.1 (by decide)).mono ?_
          rintro e w7 ⟨rfl, hb7⟩
          have K7 := hid (K8.out.below hb7)
          clear hb7 v0 v1 v2 v3 vl d0 d1
          by_cases g3 : dif x.t base < dif x.u base
          · have f3 : decide (0 < cmpI (dif x.u base) (dif x.t base)) = true := by rw [decide_eq_true_eq, cmpI_gt g3]; decide
            have EHI := hid (show hmI base (l.take (0 + 1)) = dif x.u base by rw [HS.out.2]; omega)
            have HP := hid (K7.out.hi5 HG2.out.1 HG2.out.2)
            obtain ⟨v0, v1, v2, v3, _⟩ := K7.out.1.2.1
            have vl := K7.out.1.2.1.lt
            obtain ⟨d0, d1, _, _, _⟩ := K7.out.2.2.1.2
            clear g3
            go_wp2_with fail
            go_roundg (n - (0 + 1))
            case measure => have := HG.out; omega
            case rel => exact ⟨0 + 1, s3, A3, n3, c3, s5, A5, n5, c5, by go_num, rfl, by omega, by rw [HLO.out, EHI.out]; exact (HP.out _ rfl).1, (HP.out _ rfl).2.1⟩
          · have f3 : decide (0 < cmpI (dif x.u base) (dif x.t base)) = false := cmp_no2 g3
            have EHI := hid (show hmI base (l.take (0 + 1)) = dif x.t base by rw [HS.out.2]; omega)
            clear g3
            go_wp2_with fail
            go_roundg (n - (0 + 1))
            case measure => have := HG.out; omega
            case rel => exact ⟨0 + 1, s3, A3, n3, c3, s3, A3, n3, c3, by go_num, rfl, by omega, by rw [HLO.out, EHI.out]; exact K7.out.1, K7.out.2.1⟩
        · have ck : ((k : Int) == 0) = false := by rw [beq_eq_false_iff_ne]; omega
          rw [if_neg hk0, if_neg hk0] at HS
          obtain ⟨v0, v1, v2, v3, _⟩ := K2.out.1.1
          have vl := K2.out.1.1.lt
          obtain ⟨d0, d1, _, _, _⟩ := K2.out.2.2.1.1
          go_wp2_with fail
          refine (Ref.cmp 70 s3 s1 A3 A1 n3 c3 n1 c1 (dif x.t base) u _ K2.out.2.2.2.1 K2.out.1.2.2.1 (by decide)).mono ?_
          rintro e w5 ⟨rfl, hb5⟩
          have K3 := hid (K2.out.below hb5)
          clear hb5 v0 v1 v2 v3 vl d0 d1
          by_cases g1 : dif x.t base < u
          · have f1 : decide (cmpI (dif x.t base) u < 0) = true := by rw [decide_eq_true_eq, cmpI_lt g1]; decide
            have HLO := hid (show loL base ((l.take (k + 1)).map It.pp) = dif x.t base by rw [HS.out.1]; omega)
            have HP := hid (K3.out.lo3 HG2.out.1 HG2.out.2)
            obtain ⟨v0, v1, v2, v3, _⟩ := K3.out.1.1
            have vl := K3.out.1.1.lt
            obtain ⟨d0, d1, _, _, _⟩ := K3.out.2.2.1.1
            go_upto_region 8 with fail
            have K4 := hid (HP.out _ rfl)
            clear v0 v1 v2 v3 vl d0 d1 HP
            generalize (w5.setCell ⟨w.heap.size + 1, 0, none⟩ (.bool s3)).setCell ⟨w.heap.size + 1, 1, none⟩ (.slice A3 n3 c3) = w4 at *
            obtain ⟨v0, v1, v2, v3, _⟩ := K4.out.1.2.1
            have vl := K4.out.1.2.1.lt
            obtain ⟨d0, d1, _, _, _⟩ := K4.out.2.2.1.1
            go_wp2_with fail
            refine (Ref.cmp 70 s3 s2 A3 A2 n3 c3 n2 c2 (dif x.t base) v _ K4.out.2.2.2.1 K4.out.1.2.2.2.1 (by decide)).mono ?_
            rintro e w6 ⟨rfl, hb7⟩
            have K6 := hid (K4.out.below hb7)
            clear hb7 v0 v1 v2 v3 vl d0 d1
            by_cases g2 : v < dif x.t base
            · have f2 : decide (0 < cmpI (dif x.t base) v) = true := by rw [decide_eq_true_eq, cmpI_gt g2]; decide
              have HP := hid (K6.out.hi3 HG2.out.1 HG2.out.2)
              obtain ⟨v0, v1, v2, v3, _⟩ := K6.out.1.2.1
              have vl := K6.out.1.2.1.lt
              obtain ⟨d0, d1, _, _, _⟩ := K6.out.2.2.1.1
              go_upto_region 10 with fail
              have K8 := hid (HP.out _ rfl)
              clear v0 v1 v2 v3 vl d0 d1 HP
              generalize (w6.setCell ⟨w.heap.size + 2, 0, none⟩ (.bool s3)).setCell ⟨w.heap.size + 2, 1, none⟩ (.slice A3 n3 c3) = w8 at *
              obtain ⟨v0, v1, v2, v3, _⟩ := K8.out.1.2.1
              have vl := K8.out.1.2.1.lt
              obtain ⟨d0, d1, _, _, _⟩ := K8.out.2.2.1.2
              go_wp2_with fail
              refine (Ref.cmp 70 s5 s3 A5 A3 n5 c5 n3 c3 (dif x.u base) (dif x.t base) _ K8.out.2.2.2.2 K8.out.1.2.2.2.1 (by decide)).mono ?_
              rintro e w7 ⟨rfl, hb7⟩
              have K7 := hid (K8.out.below hb7)
              clear hb7 v0 v1 v2 v3 vl d0 d1
              by_cases g3 : dif x.t base < dif x.u base
              · have f3 : decide (0 < cmpI (dif x.u base) (dif x.t base)) = true := by rw [decide_eq_true_eq, cmpI_gt g3]; decide
                have EHI := hid (show hmI base (l.take (k + 1)) = dif x.u base by rw [HS.out.2]; omega)
                have HP := hid (K7.out.hi5 HG2.out.1 HG2.out.2)
                obtain ⟨v0, v1, v2, v3, _⟩ := K7.out.1.2.1
                have vl := K7.out.1.2.1.lt
                obtain ⟨d0, d1, _, _, _⟩ := K7.out.2.2.1.2
                clear g3
                go_wp2_with fail
                go_roundg (n - (k + 1))
                case measure => have := HG.out; omega
                case rel => exact ⟨k + 1, s3, A3, n3, c3, s5, A5, n5, c5, by go_num, rfl, by omega, by rw [HLO.out, EHI.out]; exact (HP.out _ rfl).1, (HP.out _ rfl).2.1⟩
              · have f3 : decide (0 < cmpI (dif x.u base) (dif x.t base)) = false := cmp_no2 g3
                have EHI := hid (show hmI base (l.take (k + 1)) = dif x.t base by rw [HS.out.2]; omega)
                clear g3
                go_wp2_with fail
                go_roundg (n - (k + 1))
                case measure => have := HG.out; omega
                case rel => exact ⟨k + 1, s3, A3, n3, c3, s3, A3, n3, c3, by go_num, rfl, by omega, by rw [HLO.out, EHI.out]; exact K7.out.1, K7.out.2.1⟩
            · have f2 : decide (0 < cmpI (dif x.t base) v) = false := cmp_no2 g2
              go_upto_region 10 with fail
              obtain ⟨v0, v1, v2, v3, _⟩ := K6.out.1.2.1
              have vl := K6.out.1.2.1.lt
              obtain ⟨d0, d1, _, _, _⟩ := K6.out.2.2.1.2
              go_wp2_with fail
              refine (Ref.cmp 70 s5 s2 A5 A2 n5 c5 n2 c2 (dif x.u base) (v) _ K6.out.2.2.2.2 K6.out.1.2.2.2.1 (by decide)).mono ?_
              rintro e w7 ⟨rfl, hb7⟩
              have K7 := hid (K6.out.below hb7)
              clear hb7 v0 v1 v2 v3 vl d0 d1
              by_cases g3 : v < dif x.u base
              · have f3 : decide (0 < cmpI (dif x.u base) (v)) = true := by rw [decide_eq_true_eq, cmpI_gt g3]; decide
                have EHI := hid (show hmI base (l.take (k + 1)) = dif x.u base by rw [HS.out.2]; omega)
                have HP := hid (K7.out.hi5 HG2.out.1 HG2.out.2)
                obtain ⟨v0, v1, v2, v3, _⟩ := K7.out.1.2.1
                have vl := K7.out.1.2.1.lt
                obtain ⟨d0, d1, _, _, _⟩ := K7.out.2.2.1.2
                clear g3
                go_wp2_with fail
                go_roundg (n - (k + 1))
                case measure => have := HG.out; omega
                case rel => exact ⟨k + 1, s3, A3, n3, c3, s5, A5, n5, c5, by go_num, rfl, by omega, by rw [HLO.out, EHI.out]; exact (HP.out _ rfl).1, (HP.out _ rfl).2.1⟩
              · have f3 : decide (0 < cmpI (dif x.u base) (v)) = false := cmp_no2 g3
                have EHI := hid (show hmI base (l.take (k + 1)) = v by rw [HS.out.2]; omega)
                clear g3
                go_wp2_with fail
                go_roundg (n - (k + 1))
                case measure => have := HG.out; omega
                case rel => exact ⟨k + 1, s3, A3, n3, c3, s2, A2, n2, c2, by go_num, rfl, by omega, by rw [HLO.out, EHI.out]; exact K7.out.1, K7.out.2.1⟩
          · have f1 : decide (cmpI (dif x.t base) u < 0) = false := cmp_no g1
            have HLO := hid (show loL base ((l.take (k + 1)).map It.pp) = u by rw [HS.out.1]; omega)
            go_upto_region 8 with fail
            obtain ⟨v0, v1, v2, v3, _⟩ := K3.out.1.2.1
            have vl := K3.out.1.2.1.lt
            obtain ⟨d0, d1, _, _, _⟩ := K3.out.2.2.1.1
            go_wp2_with fail
            refine (Ref.cmp 70 s3 s2 A3 A2 n3 c3 n2 c2 (dif x.t base) v _ K3.out.2.2.2.1 K3.out.1.2.2.2.1 (by decide)).mono ?_
            rintro e w6 ⟨rfl, hb7⟩
            have K6 := hid (K3.out.below hb7)
            clear hb7 v0 v1 v2 v3 vl d0 d1
            by_cases g2 : v < dif x.t base
            · have f2 : decide (0 < cmpI (dif x.t base) v) = true := by rw [decide_eq_true_eq, cmpI_gt g2]; decide
              have HP := hid (K6.out.hi3 HG2.out.1 HG2.out.2)
              obtain ⟨v0, v1, v2, v3, _⟩ := K6.out.1.2.1
              have vl := K6.out.1.2.1.lt
              obtain ⟨d0, d1, _, _, _⟩ := K6.out.2.2.1.1
              go_upto_region 10 with fail
              have K8 := hid (HP.out _ rfl)
              clear v0 v1 v2 v3 vl d0 d1 HP
              generalize (w6.setCell ⟨w.heap.size + 2, 0, none⟩ (.bool s3)).setCell ⟨w.heap.size + 2, 1, none⟩ (.slice A3 n3 c3) = w8 at *
              obtain ⟨v0, v1, v2, v3, _⟩ := K8.out.1.2.1
              have vl := K8.out.1.2.1.lt
              obtain ⟨d0, d1, _, _, _⟩ := K8.out.2.2.1.2
              go_wp2_with fail
              refine (Ref.cmp 70 s5 s3 A5 A3 n5 c5 n3 c3 (dif x.u base) (dif x.t base) _ K8.out.2.2.2.2 K8.out.1.2.2.2.1 (by decide)).mono ?_
              rintro e w7 ⟨rfl, hb7⟩
              have K7 := hid (K8.out.below hb7)
              clear hb7 v0 v1 v2 v3 vl d0 d1
              by_cases g3 : dif x.t base < dif x.u base
              · have f3 : decide (0 < cmpI (dif x.u base) (dif x.t base)) = true := by rw [decide_eq_true_eq, cmpI_gt g3]; decide
                have EHI := hid (show hmI base (l.take (k + 1)) = dif x.u base by rw [HS.out.2]; omega)
                have HP := hid (K7.out.hi5 HG2.out.1 HG2.out.2)
                obtain ⟨v0, v1, v2, v3, _⟩ := K7.out.1.2.1
                have vl := K7.out.1.2.1.lt
                obtain ⟨d0, d1, _, _, _⟩ := K7.out.2.2.1.2
                clear g3
                go_wp2_with fail
                go_roundg (n - (k + 1))
                case measure => have := HG.out; omega
                case rel => exact ⟨k + 1, s1, A1, n1, c1, s5, A5, n5, c5, by go_num, rfl, by omega, by rw [HLO.out, EHI.out]; exact (HP.out _ rfl).1, (HP.out _ rfl).2.1⟩
              · have f3 : decide (0 < cmpI (dif x.u base) (dif x.t base)) = false := cmp_no2 g3
                have EHI := hid (show hmI base (l.take (k + 1)) = dif x.t base by rw [HS.out.2]; omega)
                clear g3
                go_wp2_with fail
                go_roundg (n - (k + 1))
                case measure => have := HG.out; omega
                case rel => exact ⟨k + 1, s1, A1, n1, c1, s3, A3, n3, c3, by go_num, rfl, by omega, by rw [HLO.out, EHI.out]; exact K7.out.1, K7.out.2.1⟩
            · have f2 : decide (0 < cmpI (dif x.t base) v) = false := cmp_no2 g2
              go_upto_region 10 with fail
              obtain ⟨v0, v1, v2, v3, _⟩ := K6.out.1.2.1
              have vl := K6.out.1.2.1.lt
              obtain ⟨d0, d1, _, _, _⟩ := K6.out.2.2.1.2
              go_wp2_with fail
              refine (Ref.cmp 70 s5 s2 A5 A2 n5 c5 n2 c2 (dif x.u base) (v) _ K6.out.2.2.2.2 K6.out.1.2.2.2.1 (by decide)).mono ?_
              rintro e w7 ⟨rfl, hb7⟩
              have K7 := hid (K6.out.below hb7)
              clear hb7 v0 v1 v2 v3 vl d0 d1
              by_cases g3 : v < dif x.u base
              · have f3 : decide (0 < cmpI (dif x.u base) (v)) = true := by rw [decide_eq_true_eq, cmpI_gt g3]; decide
                have EHI := hid (show hmI base (l.take (k + 1)) = dif x.u base by rw [HS.out.2]; omega)
                have HP := hid (K7.out.hi5 HG2.out.1 HG2.out.2)
                obtain ⟨v0, v1, v2, v3, _⟩ := K7.out.1.2.1
                have vl := K7.out.1.2.1.lt
                obtain ⟨d0, d1, _, _, _⟩ := K7.out.2.2.1.2
                clear g3
                go_wp2_with fail
                go_roundg (n - (k + 1))
                case measure => have := HG.out; omega
                case rel => exact ⟨k + 1, s1, A1, n1, c1, s5, A5, n5, c5, by go_num, rfl, by omega, by rw [HLO.out, EHI.out]; exact (HP.out _ rfl).1, (HP.out _ rfl).2.1⟩
              · have f3 : decide (0 < cmpI (dif x.u base) (v)) = false := cmp_no2 g3
                have EHI := hid (show hmI base (l.take (k + 1)) = v by rw [HS.out.2]; omega)
                clear g3
                go_wp2_with fail
                go_roundg (n - (k + 1))
                case measure => have := HG.out; omega
                case rel => exact ⟨k + 1, s1, A1, n1, c1, s2, A2, n2, c2, by go_num, rfl, by omega, by rw [HLO.out, EHI.out]; exact K7.out.1, K7.out.2.1⟩
    · have e : l.take k = l := List.take_of_length_le (by have := HL.out; omega)
      have hki : ¬ (k : Int) < n := by omega
      rw [e] at K0
      clear e
      have E := hid (spreadI_eq base l).1
      obtain ⟨v0, v1, v2, v3, _⟩ := K0.out.1
      have vl := K0.out.1.lt
      obtain ⟨d0, d1, d2, d3, _⟩ := K0.out.2.1
      have dl := K0.out.2.1.lt
      go_wp2_with fail
      clear v0 v1 v2 v3 vl d0 d1 d2 d3 dl
      refine (Ref.sub 70 s2 s1 A2 A1 n2 c2 n1 c1 (hmI base l) (loL base (l.map It.pp)) _ K0.out.2.2.2.1 K0.out.2.2.1 (by decide)).mono ?_
      rintro e w7 ⟨s7, A7, n7, c7, rfl, hB, hb⟩
      have V7 := hid (V0.out.below hb)
      have B7 := hid (below_on K0.out.2.2.2.2 hb)
      have H7 := hid hB
      clear hB hb K0 V0
      obtain ⟨r0, r1, r2, r3, _⟩ := V7.out
      have rl := V7.out.lt
      go_wp2_with fail
      have HFN := Var.finB V7.out B7.out (Nat.le_refl _) H7.out
      refine bodyPost_ret (v := .agg #[.bool s7, .slice A7 n7 c7]) (by simp [results, Try.results10, go_sem, r0, r1, rl]) rfl ⟨s7, A7, n7, c7, rfl, ?_, HFN.2⟩
      rw [E.out]
      exact HFN.1
end

/- ItemSoonest: the walk. -/
section
open Go.RowKit
theorem take_itS {l : List It} {k : Nat} (hk : k < l.length) : l.take (k + 1) = l.take k ++ [l.getD k It.zero] := by
  have e : l.getD k It.zero = l[k] := by simp [List.getD, hk]
  rw [List.take_succ_eq_append_getElem hk, e]
theorem RdI.tail {w : World} {b off : Nat} {n : Nat} {a : It} {l : List It} (h : RdI w (some ⟨b, off, none⟩) (n + 1) (a :: l)) : RdI w (some ⟨b, off + 7, none⟩) n l := by
  refine ⟨by have := h.1; simpa using this, fun i hi => ?_⟩
  obtain ⟨b', off', e, hb, hc⟩ := h.2 0 (by omega)
  injection e with e
  injection e with e1 e2
  subst e1 e2
  refine ⟨b, off + 7, rfl, hb, fun j hj => ?_⟩
  have := hc (j + 1) (by omega)
  rw [show off + (j + 1) * 7 = off + 7 + j * 7 by omega, show (a :: l).getD (j + 1) It.zero = l.getD j It.zero by simp] at this
  exact this
set_option maxRecDepth 100000 in
set_option maxHeartbeats 4000000 in
theorem Iso.few (b : Int) (A : Option Addr) (n c : Nat) (w : World) (h : n = 0 ∨ 100 < n) : Calls Try.prog 3 #[.int .u64 b, .slice A n c] w (Ans (.bool true) w) := by
  have E : spreadI 0 [] = 0 := by decide
  have HR0 : Hid (∀ wq, Calls Try.prog 5 #[.int .u64 0, .slice none 0 0] wq (Ans (.int .u64 0) wq)) := hid (fun wq => by
    have := Item.spread 0 none 0 0 [] wq ⟨rfl, fun i hi => absurd hi (by omega)⟩ (by omega)
    rwa [E] at this)
  clear E
  rcases h with h | h
  · subst h
    go_enter Try.func3, Try.ntmps3
    go_wp2_with fail
    refine (Law5.awake _).mono ?_
    rintro e w1 ⟨rfl, hb⟩
    have HB1 := hid hb
    clear hb
    go_wp2_with fail
    refine (HR0.out _).mono ?_
    rintro e w2 ⟨rfl, hb⟩
    have HB2 := hid (below_on HB1.out hb)
    clear hb HB1
    go_wp2_with fail
    go_ret
    exact ⟨rfl, HB2.out⟩
  · have h2 : (100 : Int) < (n : Int) := by omega
    go_enter Try.func3, Try.ntmps3
    go_wp2_with fail
    refine (Law5.awake _).mono ?_
    rintro e w1 ⟨rfl, hb⟩
    have HB1 := hid hb
    clear hb
    go_wp2_with fail
    refine (HR0.out _).mono ?_
    rintro e w2 ⟨rfl, hb⟩
    have HB2 := hid (below_on HB1.out hb)
    clear hb HB1
    go_wp2_with fail
    go_ret
    exact ⟨rfl, HB2.out⟩
set_option maxRecDepth 100000 in
set_option maxHeartbeats 16000000 in
theorem Iso.core (b : Int) (hb0 : IsT b) (bb off n c : Nat) (a : It) (l : List It) (w : World) (hr : RdI w (some ⟨bb, off, none⟩) (n + 1) (a :: l)) (hi : InI (a :: l)) (hn : n + 1 ≤ 100) (hc : n + 1 ≤ c) : Calls Try.prog 3 #[.int .u64 b, .slice (some ⟨bb, off, none⟩) (n + 1) c] w (Ans (.bool true) w) := by
  have HR := hid hr
  have HI := hid hi
  have HB0 := hid hb0
  have HLN := hid hr.1
  have h2 : ¬ (100 : Int) < ((n + 1 : Nat) : Int) := by omega
  have h3 : (((n + 1 : Nat) : Int) == 0) = false := by rw [beq_eq_false_iff_ne]; omega
  have HSP := hid (spreadI_eq b (a :: l))
  clear hr hi hb0
  obtain ⟨m, hm⟩ : ∃ m, m = n + 1 := ⟨_, rfl⟩
  have HM := hid hm
  rw [← hm] at h2 h3 hn hc HR ⊢
  clear hm
  go_enter Try.func3, Try.ntmps3
  go_wp2_with fail
  refine (Law5.awake _).mono ?_
  rintro e w1 ⟨rfl, hb⟩
  have HB1 := hid hb
  clear hb
  go_wp2_with fail
  go_loopg [5, 6, 23] m (fun s z u i wr => ∃ (k : Nat) (A1 : Option Addr) (c1 : Nat), z = .slice A1 k c1 ∧ u = .bool (((a :: l).take k).all It.right) ∧ i = .int .i64 k ∧ k ≤ m ∧ s = m - k ∧ OwnR wr w.heap.size A1 k c1 ((a :: l).take k) ∧ Below w.heap.size w wr)
  case atStart => exact ⟨0, none, 0, rfl, rfl, rfl, Nat.zero_le _, by omega, by simpa using OwnR.nil _ _, HB1.out⟩
  case round =>
    obtain ⟨k, A1, c1, rfl, rfl, rfl, hk, hs, ho, hb⟩ := hrel
    have HS := hid hs
    have HO := hid ho
    have HB := hid hb
    clear hs ho hb HB1
    by_cases hkn : k < m
    · obtain ⟨bb', off', hA, _, hcc⟩ := (HR.out.below HB.out).2 0 (by omega)
      injection hA with hA
      injection hA with hA1 hA2
      subst hA1 hA2
      obtain ⟨p0, p1, p2, p3, p4, p5, p6⟩ := hcc k hkn
      have hkl : k < (a :: l).length := by have := HLN.out; have := HM.out; omega
      have HTK := hid (take_itS hkl)
      have HX := hid (HI.out.get hkl)
      have HAL : Hid (((a :: l).take (k + 1)).all It.right = (((a :: l).take k).all It.right && It.right ((a :: l).getD k It.zero))) := hid (by rw [HTK.out, List.all_append]; simp)
      generalize (a :: l).getD k It.zero = x at *
      have hki : (k : Int) < m := by omega
      clear hcc hkl
      have HXc := hid (show Cs (wr.alloc (.cells #[.int .u64 x.t, .int .u32 x.r, .int .u32 x.v, .int .i64 x.i, .int .u64 x.u, .int .u32 x.s, .int .u32 x.y] 32)) wr.heap.size x.cells from Cs.alloc_new6 wr 32 x.cells)
      have HOa := hid (HO.out.alloc (.cells #[.int .u64 x.t, .int .u32 x.r, .int .u32 x.v, .int .i64 x.i, .int .u64 x.u, .int .u32 x.s, .int .u32 x.y] 32))
      have HBa := hid (HB.out.alloc HB.out.size (.cells #[.int .u64 x.t, .int .u32 x.r, .int .u32 x.v, .int .i64 x.i, .int .u64 x.u, .int .u32 x.s, .int .u32 x.y] 32))
      have HNR : Hid (wr.heap.size ∉ rowOf A1) := hid (fun h => Nat.lt_irrefl _ (HO.out.rowGe _ h).2)
      go_upto_region 10 with fail
      clear p0 p1 p2 p3 p4 p5 p6 HO HB
      generalize (wr.alloc (.cells #[.int .u64 x.t, .int .u32 x.r, .int .u32 x.v, .int .i64 x.i, .int .u64 x.u, .int .u32 x.s, .int .u32 x.y] 32)) = Wa at HXc HOa HBa ⊢
      generalize wr.heap.size = gp at HXc HNR ⊢
      obtain ⟨q0, q1, q2, q3, q4, q5, q6⟩ := It.at x HXc.out
      go_wp2_with fail
      clear q0 q1 q2 q3 q4 q5 q6
      refine (Law5.of x _).mono ?_
      rintro e w3 ⟨rfl, hb⟩
      have HXd := hid ((HXc.out.below hb).alloc (.cells #[.int .u64 x.t, .int .u32 x.r, .int .u32 x.v, .int .i64 x.i, .int .u64 x.u, .int .u32 x.s, .int .u32 x.y] 36))
      have HO3 := hid (HOa.out.below hb)
      have HB3 := hid (below_on HBa.out hb)
      have hOW := HO3.out.alloc (.cells #[.int .u64 x.t, .int .u32 x.r, .int .u32 x.v, .int .i64 x.i, .int .u64 x.u, .int .u32 x.s, .int .u32 x.y] 36)
      have hTP : Th (w3.alloc (.cells #[.int .u64 x.t, .int .u32 x.r, .int .u32 x.v, .int .i64 x.i, .int .u64 x.u, .int .u32 x.s, .int .u32 x.y] 36)) w3.heap.size x := It.at x (Cs.new7 w3 36 x)
      have HB4 := hid (HB3.out.alloc HB3.out.size (.cells #[.int .u64 x.t, .int .u32 x.r, .int .u32 x.v, .int .i64 x.i, .int .u64 x.u, .int .u32 x.s, .int .u32 x.y] 36))
      have hbs := HB4.out.size
      have hk1 : k ≤ 1000000 := by omega
      clear hb HOa HBa HO3 HB3 HXc
      unfold It.val
      cases rt : ((a :: l).take k).all It.right with
      | true =>
        rw [rt] at HAL
        go_wp2_with (first
          | (at_builtin; (with_reducible refine wpList_append_ref _ rfl (.tmp 27) (.tmp 30) rfl w.heap.size A1 k c1 ((a :: l).take k) ?a1 hOW w3.heap.size x ?a2 hTP hk1 hbs ?a3); (case a1 => rfl); (case a2 => rfl); (intro A4 c4 w4 ho4 hc4 hr4); (have HO4 := hid ho4); (have HX4 := hid (HXd.out.chg hc4 HNR.out)); (have HB5 := hid (Below.chg HB4.out hc4 (fun q hq => (hOW.rowGe q hq).1))); (clear ho4 hc4 hr4 hOW hTP hbs); (obtain ⟨q0, q1, q2, q3, q4, q5, q6⟩ := It.at x HX4.out))
          | fail)
        clear q0 q1 q2 q3 q4 q5 q6
        refine (Law5.of x _).mono ?_
        rintro e w5 ⟨rfl, hb⟩
        have HO5 := hid (HO4.out.below hb)
        have HB6 := hid (below_on HB5.out hb)
        clear hb HO4 HB5 HX4
        go_wp2_with fail
        refine (Ref5.right x HX.out _).mono ?_
        rintro e w6 ⟨rfl, hb⟩
        have HO6 := hid (HO5.out.below hb)
        have HB7 := hid (below_on HB6.out hb)
        clear hb HO5 HB6
        go_wp2_with fail
        go_roundg (m - (k + 1))
        case measure => have := HS.out; omega
        case rel => exact ⟨k + 1, A4, c4, rfl, by rw [HAL.out, Bool.true_and], by go_num, by omega, rfl, by rw [HTK.out]; exact HO6.out, HB7.out⟩
      | false =>
        rw [rt] at HAL
        go_wp2_with (first
          | (at_builtin; (with_reducible refine wpList_append_ref _ rfl (.tmp 27) (.tmp 30) rfl w.heap.size A1 k c1 ((a :: l).take k) ?b1 hOW w3.heap.size x ?b2 hTP hk1 hbs ?b3); (case b1 => rfl); (case b2 => rfl); (intro A4 c4 w4 ho4 hc4 hr4); (have HO4 := hid ho4); (have HB5 := hid (Below.chg HB4.out hc4 (fun q hq => (hOW.rowGe q hq).1))); (clear ho4 hc4 hr4 hOW hTP hbs))
          | fail)
        go_roundg (m - (k + 1))
        case measure => have := HS.out; omega
        case rel => exact ⟨k + 1, A4, c4, rfl, by rw [HAL.out, Bool.false_and], by go_num, by omega, rfl, by rw [HTK.out]; exact HO4.out, HB5.out⟩
    · obtain rfl : k = m := by omega
      have hki : ¬ (k : Int) < k := by omega
      have HO1 : Hid (OwnR wr w.heap.size A1 k c1 (a :: l)) := hid (by have := HO.out; rwa [List.take_of_length_le (by have := HLN.out; have := HM.out; omega)] at this)
      have e : (a :: l).take k = a :: l := List.take_of_length_le (by have := HLN.out; have := HM.out; omega)
      rw [e]
      clear e HO
      generalize (a :: l).all It.right = rt
      have HK := hid (show k ≤ 1000000 by omega)
      go_wp2_with fail
      refine (Item.spread b (some ⟨bb, off, Option.none⟩) k c (a :: l) _ (HR.out.below HB.out) HK.out).mono ?_
      rintro e w2 ⟨rfl, hb⟩
      have HO2 := hid (HO1.out.below hb)
      have HB2 := hid (below_on HB.out hb)
      clear hb HO1 HB
      go_wp2_with fail
      refine (Ref.U (spreadI b (a :: l)) HSP.out.2.1 HSP.out.2.2 _).mono ?_
      rintro e w3 ⟨s3, A3, n3, c3, rfl, hB, hb⟩
      have HU := hid (hB.mono (show 5 ≤ 71 by decide))
      have HO3 := hid (HO2.out.below hb)
      have HB3 := hid (below_on HB2.out hb)
      clear hb hB HO2 HB2
      go_wp2_with fail
      refine (Ref5.spread b HB0.out A1 k c1 (a :: l) _ HO3.out.rdi HI.out HK.out).mono ?_
      rintro e w4 ⟨s4, A4, n4, c4, rfl, hB, hb⟩
      have HU4 := hid (HU.out.below hb)
      have HV4 := hid hB
      have HO4 := hid (HO3.out.below hb)
      have HB4 := hid (below_on HB3.out hb)
      clear hb hB HO3 HB3 HU
      go_wp2_with fail
      refine (Ref.cmp 71 s3 s4 A3 A4 n3 c3 n4 c4 _ _ _ HU4.out HV4.out (by decide)).mono ?_
      rw [cmpI_eq]
      rintro e w5 ⟨rfl, hb⟩
      have HO5 := hid (HO4.out.below hb)
      have HB5 := hid (below_on HB4.out hb)
      clear hb HO4 HB4 HU4 HV4
      have HQ : Hid ((RdI w5 (some ⟨bb, off, Option.none⟩) k (a :: l) ∧ RdI w5 A1 k (a :: l)) ∧ Below w.heap.size w w5) := hid ⟨⟨HR.out.below HB5.out, HO5.out.rdi⟩, HB5.out⟩
      clear HO5 HB5
      cases rt with
      | false =>
        go_wp2_with fail
        have hsT1 : Stays (fun wx => (RdI wx (some ⟨bb, off, Option.none⟩) k (a :: l) ∧ RdI wx A1 k (a :: l)) ∧ Below w.heap.size w wx) := fun _ _ h hb => ⟨⟨h.1.1.below hb, h.1.2.below hb⟩, below_on h.2 hb⟩
        refine wp_region_grow (S := fun wx => (RdI wx (some ⟨bb, off, Option.none⟩) k (a :: l) ∧ RdI wx A1 k (a :: l)) ∧ Below w.heap.size w wx) 15 (by kernel_rfl) (hsT1 _ _ (HQ.out) (Below.refl _ _).drew) ?_
        refine wpAnyE_take (i := 0) (v := ?_) (hsT1) (fun _ h => h) rfl (by kernel_rfl) (by kernel_rfl) (by kernel_rfl) (by kernel_rfl) (fun _ _ _ h => h) (SteadyB.of_yields (Or.inl ⟨by rfl, ?_⟩)) ?_
        rotate_left
        · intro wq hSw
          go_simp
          (try with_reducible rfl)
        try simp only [List.getElem_toArray, List.getElem_cons_zero, List.getElem_cons_succ, Act.put, List.setIfInBounds_toArray, List.set_cons_zero, List.set_cons_succ]
        refine wpAnyE_take (i := 1) (v := ?_) (hsT1) (fun _ h => h) rfl (by kernel_rfl) (by kernel_rfl) (by kernel_rfl) (by kernel_rfl) (fun _ _ _ h => h) (SteadyB.of_yields (Or.inl ⟨by rfl, ?_⟩)) ?_
        rotate_left
        · intro wq hSw
          go_simp
          (try with_reducible rfl)
        try simp only [List.getElem_toArray, List.getElem_cons_zero, List.getElem_cons_succ, Act.put, List.setIfInBounds_toArray, List.set_cons_zero, List.set_cons_succ]
        refine wpAnyE_take (i := 2) (v := ?_) (hsT1) (fun _ h => h) rfl (by kernel_rfl) (by kernel_rfl) (by kernel_rfl) (by kernel_rfl) (fun _ _ _ h => h) (SteadyB.of_yields (Or.inl ⟨by rfl, ?_⟩)) ?_
        rotate_left
        · intro wq hSw
          go_simp
          (try with_reducible rfl)
        try simp only [List.getElem_toArray, List.getElem_cons_zero, List.getElem_cons_succ, Act.put, List.setIfInBounds_toArray, List.set_cons_zero, List.set_cons_succ]
        refine wpAnyE_take (i := 3) (v := undef) (hsT1) (fun _ h => h) rfl (by kernel_rfl) (by kernel_rfl) (by kernel_rfl) (by kernel_rfl) (fun _ _ _ h => h) (Or.inr ⟨by rfl, rfl⟩) ?_
        try simp only [List.getElem_toArray, List.getElem_cons_zero, List.getElem_cons_succ, Act.put, List.setIfInBounds_toArray, List.set_cons_zero, List.set_cons_succ]
        refine wpAnyE_take (i := 4) (v := undef) (hsT1) (fun _ h => h) rfl (by kernel_rfl) (by kernel_rfl) (by kernel_rfl) (by kernel_rfl) (fun _ _ _ h => h) (Or.inr ⟨by rfl, rfl⟩) ?_
        try simp only [List.getElem_toArray, List.getElem_cons_zero, List.getElem_cons_succ, Act.put, List.setIfInBounds_toArray, List.set_cons_zero, List.set_cons_succ]
        refine wpAnyE_take (i := 5) (v := undef) (hsT1) (fun _ h => h) rfl (by kernel_rfl) (by kernel_rfl) (by kernel_rfl) (by kernel_rfl) (fun _ _ _ h => h) (Or.inr ⟨by rfl, rfl⟩) ?_
        try simp only [List.getElem_toArray, List.getElem_cons_zero, List.getElem_cons_succ, Act.put, List.setIfInBounds_toArray, List.set_cons_zero, List.set_cons_succ]
        refine wpAnyE_take (i := 6) (v := undef) (hsT1) (fun _ h => h) rfl (by kernel_rfl) (by kernel_rfl) (by kernel_rfl) (by kernel_rfl) (fun _ _ _ h => h) (Or.inr ⟨by rfl, rfl⟩) ?_
        try simp only [List.getElem_toArray, List.getElem_cons_zero, List.getElem_cons_succ, Act.put, List.setIfInBounds_toArray, List.set_cons_zero, List.set_cons_succ]
        refine wpAnyE_take (i := 7) (v := undef) (hsT1) (fun _ h => h) rfl (by kernel_rfl) (by kernel_rfl) (by kernel_rfl) (by kernel_rfl) (fun _ _ _ h => h) (Or.inr ⟨by rfl, rfl⟩) ?_
        try simp only [List.getElem_toArray, List.getElem_cons_zero, List.getElem_cons_succ, Act.put, List.setIfInBounds_toArray, List.set_cons_zero, List.set_cons_succ]
        refine wpAnyE_take (i := 8) (v := undef) (hsT1) (fun _ h => h) rfl (by kernel_rfl) (by kernel_rfl) (by kernel_rfl) (by kernel_rfl) (fun _ _ _ h => h) (Or.inr ⟨by rfl, rfl⟩) ?_
        try simp only [List.getElem_toArray, List.getElem_cons_zero, List.getElem_cons_succ, Act.put, List.setIfInBounds_toArray, List.set_cons_zero, List.set_cons_succ]
        refine wpAnyE_take (i := 9) (v := undef) (hsT1) (fun _ h => h) rfl (by kernel_rfl) (by kernel_rfl) (by kernel_rfl) (by kernel_rfl) (fun _ _ _ h => h) (Or.inr ⟨by rfl, rfl⟩) ?_
        try simp only [List.getElem_toArray, List.getElem_cons_zero, List.getElem_cons_succ, Act.put, List.setIfInBounds_toArray, List.set_cons_zero, List.set_cons_succ]
        refine wpAnyE_take (i := 10) (v := undef) (hsT1) (fun _ h => h) rfl (by kernel_rfl) (by kernel_rfl) (by kernel_rfl) (by kernel_rfl) (fun _ _ _ h => h) (Or.inr ⟨by rfl, rfl⟩) ?_
        try simp only [List.getElem_toArray, List.getElem_cons_zero, List.getElem_cons_succ, Act.put, List.setIfInBounds_toArray, List.set_cons_zero, List.set_cons_succ]
        refine wpAnyE_take (i := 11) (v := undef) (hsT1) (fun _ h => h) rfl (by kernel_rfl) (by kernel_rfl) (by kernel_rfl) (by kernel_rfl) (fun _ _ _ h => h) (Or.inr ⟨by rfl, rfl⟩) ?_
        try simp only [List.getElem_toArray, List.getElem_cons_zero, List.getElem_cons_succ, Act.put, List.setIfInBounds_toArray, List.set_cons_zero, List.set_cons_succ]
        refine wpAnyE_take (i := 12) (v := undef) (hsT1) (fun _ h => h) rfl (by kernel_rfl) (by kernel_rfl) (by kernel_rfl) (by kernel_rfl) (fun _ _ _ h => h) (Or.inr ⟨by rfl, rfl⟩) ?_
        try simp only [List.getElem_toArray, List.getElem_cons_zero, List.getElem_cons_succ, Act.put, List.setIfInBounds_toArray, List.set_cons_zero, List.set_cons_succ]
        refine wpAnyE_take (i := 13) (v := ?_) (hsT1) (fun _ h => h) rfl (by kernel_rfl) (by kernel_rfl) (by kernel_rfl) (by kernel_rfl) (fun _ _ _ h => h) (SteadyB.of_yields (Or.inl ⟨by rfl, ?_⟩)) ?_
        rotate_left
        · intro wq hSw
          go_simp
          (try with_reducible rfl)
        try simp only [List.getElem_toArray, List.getElem_cons_zero, List.getElem_cons_succ, Act.put, List.setIfInBounds_toArray, List.set_cons_zero, List.set_cons_succ]
        refine wpAnyE_take (i := 14) (v := ?_) (hsT1) (fun _ h => h) rfl (by kernel_rfl) (by kernel_rfl) (by kernel_rfl) (by kernel_rfl) (fun _ _ _ h => h) (SteadyB.of_yields (Or.inl ⟨by rfl, ?_⟩)) ?_
        rotate_left
        · intro wq hSw
          go_simp
          (try with_reducible rfl)
        try simp only [List.getElem_toArray, List.getElem_cons_zero, List.getElem_cons_succ, Act.put, List.setIfInBounds_toArray, List.set_cons_zero, List.set_cons_succ]
        refine wpAnyE_done (by kernel_rfl) (fun wz hSz => ?_) _
        have HQ9 := hid hSz.2
        clear hSz HQ
        go_wp2_with fail
        go_ret
        exact ⟨by first | rfl | simp, HQ9.out⟩
      | true =>
        have hk0 : 0 < k := by have := HM.out; omega
        have hk1 : 1 ≤ k := hk0
        have hki1 : (1 : Int) ≤ k := by omega
        have hkm : k - 1 = n := by have := HM.out; omega
        have HIA : Hid a.In := hid (HI.out a (by simp))
        have HIL : Hid (InI l) := hid (fun x hx => HI.out x (by simp [hx]))
        have HRS : Hid (∀ wq, RdI wq A1 k (a :: l) → Calls Try.prog 12 #[.slice A1 k c1] wq (Ans (It.val (l.foldl sooner a)) wq)) := hid (fun wq hq => by
          have := Ref5.soonest A1 k c1 (a :: l) wq hq HI.out hk0 HK.out
          rwa [fold_first] at this)
        by_cases hc1 : c = 1
        · skip
          have HSO : Hid (∀ wq, RdI wq (some ⟨bb, off, Option.none⟩) k (a :: l) → Calls Try.prog 11 #[a.val, .slice (some ⟨bb, off, Option.none⟩) (k - 1) (c - 1)] wq (Ans (It.val (l.foldl sooner a)) wq)) := hid (fun wq hq => by
            rw [hkm]
            exact Item.soonest a _ n (c - 1) l wq HIA.out (⟨by have h1 := HLN.out; simpa using h1, fun i hi => absurd hi (by have := HM.out; omega)⟩) HIL.out (by have := HM.out; omega))
          go_wp2_with fail
          have hsT2 : Stays (fun wx => (RdI wx (some ⟨bb, off, Option.none⟩) k (a :: l) ∧ RdI wx A1 k (a :: l)) ∧ Below w.heap.size w wx) := fun _ _ h hb => ⟨⟨h.1.1.below hb, h.1.2.below hb⟩, below_on h.2 hb⟩
          refine wp_region_grow (S := fun wx => (RdI wx (some ⟨bb, off, Option.none⟩) k (a :: l) ∧ RdI wx A1 k (a :: l)) ∧ Below w.heap.size w wx) 15 (by kernel_rfl) (hsT2 _ _ (HQ.out) (Below.refl _ _).drew) ?_
          refine wpAnyE_take (i := 0) (v := ?_) (hsT2) (fun _ h => h) rfl (by kernel_rfl) (by kernel_rfl) (by kernel_rfl) (by kernel_rfl) (fun _ _ _ h => h) (SteadyB.of_yields (Or.inl ⟨by rfl, ?_⟩)) ?_
          rotate_left
          · intro wq hSw
            go_simp
            (try with_reducible rfl)
          try simp only [List.getElem_toArray, List.getElem_cons_zero, List.getElem_cons_succ, Act.put, List.setIfInBounds_toArray, List.set_cons_zero, List.set_cons_succ]
          refine wpAnyE_take (i := 1) (v := ?_) (hsT2) (fun _ h => h) rfl (by kernel_rfl) (by kernel_rfl) (by kernel_rfl) (by kernel_rfl) (fun _ _ _ h => h) (SteadyB.of_yields (Or.inl ⟨by rfl, ?_⟩)) ?_
          rotate_left
          · intro wq hSw
            go_simp
            (try with_reducible rfl)
          try simp only [List.getElem_toArray, List.getElem_cons_zero, List.getElem_cons_succ, Act.put, List.setIfInBounds_toArray, List.set_cons_zero, List.set_cons_succ]
          refine wpAnyE_take (i := 2) (v := ?_) (hsT2) (fun _ h => h) rfl (by kernel_rfl) (by kernel_rfl) (by kernel_rfl) (by kernel_rfl) (fun _ _ _ h => h) (SteadyB.of_yields (Or.inl ⟨by rfl, ?_⟩)) ?_
          rotate_left
          · intro wq hSw
            go_simp
            (try with_reducible rfl)
          try simp only [List.getElem_toArray, List.getElem_cons_zero, List.getElem_cons_succ, Act.put, List.setIfInBounds_toArray, List.set_cons_zero, List.set_cons_succ]
          refine wpAnyE_take (i := 3) (v := ?_) (hsT2) (fun _ h => h) rfl (by kernel_rfl) (by kernel_rfl) (by kernel_rfl) (by kernel_rfl) (fun _ _ _ h => h) (SteadyB.of_yields (Or.inl ⟨by rfl, ?_⟩)) ?_
          rotate_left
          · intro wq hSw
            go_simp
            (try with_reducible rfl)
          try simp only [List.getElem_toArray, List.getElem_cons_zero, List.getElem_cons_succ, Act.put, List.setIfInBounds_toArray, List.set_cons_zero, List.set_cons_succ]
          refine wpAnyE_take (i := 4) (v := ?_) (hsT2) (fun _ h => h) rfl (by kernel_rfl) (by kernel_rfl) (by kernel_rfl) (by kernel_rfl) (fun _ _ _ h => h) (SteadyB.of_yields (Or.inl ⟨by rfl, ?_⟩)) ?_
          rotate_left
          · intro wq hSw
            go_simp
            (try with_reducible rfl)
          try simp only [List.getElem_toArray, List.getElem_cons_zero, List.getElem_cons_succ, Act.put, List.setIfInBounds_toArray, List.set_cons_zero, List.set_cons_succ]
          refine wpAnyE_take (i := 5) (v := ?_) (hsT2) (fun _ h => h) rfl (by kernel_rfl) (by kernel_rfl) (by kernel_rfl) (by kernel_rfl) (fun _ _ _ h => h) (SteadyB.of_yields (Or.inl ⟨by rfl, ?_⟩)) ?_
          rotate_left
          · intro wq hSw
            obtain ⟨_, _, eA, _, hcc⟩ := hSw.1.1.2 0 hk0
            injection eA with eA
            injection eA with eA1 eA2
            subst eA1 eA2
            obtain ⟨p0, p1, p2, p3, p4, p5, p6⟩ := hcc 0 hk0
            rw [show off + 0 * 7 = off by omega] at p0 p1 p2 p3 p4 p5 p6
            rw [show (a :: l).getD 0 It.zero = a from rfl] at p0 p1 p2 p3 p4 p5 p6
            go_simp
            (try with_reducible rfl)
          try simp only [List.getElem_toArray, List.getElem_cons_zero, List.getElem_cons_succ, Act.put, List.setIfInBounds_toArray, List.set_cons_zero, List.set_cons_succ]
          refine wpAnyE_take (i := 6) (v := ?_) (hsT2) (fun _ h => h) rfl (by kernel_rfl) (by kernel_rfl) (by kernel_rfl) (by kernel_rfl) (fun _ _ _ h => h) (SteadyB.of_yields (Or.inl ⟨by rfl, ?_⟩)) ?_
          rotate_left
          · intro wq hSw
            go_simp
            (try with_reducible rfl)
          try simp only [List.getElem_toArray, List.getElem_cons_zero, List.getElem_cons_succ, Act.put, List.setIfInBounds_toArray, List.set_cons_zero, List.set_cons_succ]
          refine wpAnyE_take (i := 7) (v := ?_) (hsT2) (fun _ h => h) rfl (by kernel_rfl) (by kernel_rfl) (by kernel_rfl) (by kernel_rfl) (fun _ _ _ h => h) (SteadyB.of_yields (Or.inl ⟨by rfl, ?_⟩)) ?_
          rotate_left
          · intro wq hSw
            go_simp
            (try with_reducible rfl)
          try simp only [List.getElem_toArray, List.getElem_cons_zero, List.getElem_cons_succ, Act.put, List.setIfInBounds_toArray, List.set_cons_zero, List.set_cons_succ]
          refine wpAnyE_take (i := 8) (v := It.val (l.foldl sooner a)) (hsT2) (fun _ h => h) rfl (by kernel_rfl) (by kernel_rfl) (by kernel_rfl) (by kernel_rfl) (fun _ _ _ h => h) (Or.inl ⟨by rfl, fun wq hSw => ?_⟩) ?_
          · refine RunB.of_calls (HSO.out wq hSw.1.1) (by go_simp) ?_
            rintro e wr ⟨rfl, hb⟩
            exact ⟨rfl, hb⟩
          try simp only [List.getElem_toArray, List.getElem_cons_zero, List.getElem_cons_succ, Act.put, List.setIfInBounds_toArray, List.set_cons_zero, List.set_cons_succ]
          refine wpAnyE_take (i := 9) (v := It.val (l.foldl sooner a)) (hsT2) (fun _ h => h) rfl (by kernel_rfl) (by kernel_rfl) (by kernel_rfl) (by kernel_rfl) (fun _ _ _ h => h) (Or.inl ⟨by rfl, fun wq hSw => ?_⟩) ?_
          · refine RunB.of_calls (Law5.of (l.foldl sooner a) wq) (by go_simp) ?_
            rintro e wr ⟨rfl, hb⟩
            exact ⟨rfl, hb⟩
          try simp only [List.getElem_toArray, List.getElem_cons_zero, List.getElem_cons_succ, Act.put, List.setIfInBounds_toArray, List.set_cons_zero, List.set_cons_succ]
          refine wpAnyE_take (i := 10) (v := ?_) (hsT2) (fun _ h => h) rfl (by kernel_rfl) (by kernel_rfl) (by kernel_rfl) (by kernel_rfl) (fun _ _ _ h => h) (SteadyB.of_yields (Or.inl ⟨by rfl, ?_⟩)) ?_
          rotate_left
          · intro wq hSw
            go_simp
            (try with_reducible rfl)
          try simp only [List.getElem_toArray, List.getElem_cons_zero, List.getElem_cons_succ, Act.put, List.setIfInBounds_toArray, List.set_cons_zero, List.set_cons_succ]
          refine wpAnyE_take (i := 11) (v := It.val (l.foldl sooner a)) (hsT2) (fun _ h => h) rfl (by kernel_rfl) (by kernel_rfl) (by kernel_rfl) (by kernel_rfl) (fun _ _ _ h => h) (Or.inl ⟨by rfl, fun wq hSw => ?_⟩) ?_
          · refine RunB.of_calls (HRS.out wq hSw.1.2) (by go_simp) ?_
            rintro e wr ⟨rfl, hb⟩
            exact ⟨rfl, hb⟩
          try simp only [List.getElem_toArray, List.getElem_cons_zero, List.getElem_cons_succ, Act.put, List.setIfInBounds_toArray, List.set_cons_zero, List.set_cons_succ]
          refine wpAnyE_take (i := 12) (v := ?_) (hsT2) (fun _ h => h) rfl (by kernel_rfl) (by kernel_rfl) (by kernel_rfl) (by kernel_rfl) (fun _ _ _ h => h) (SteadyB.of_yields (Or.inl ⟨by rfl, ?_⟩)) ?_
          rotate_left
          · intro wq hSw
            go_simp
            (try with_reducible rfl)
          try simp only [List.getElem_toArray, List.getElem_cons_zero, List.getElem_cons_succ, Act.put, List.setIfInBounds_toArray, List.set_cons_zero, List.set_cons_succ]
          refine wpAnyE_take (i := 13) (v := ?_) (hsT2) (fun _ h => h) rfl (by kernel_rfl) (by kernel_rfl) (by kernel_rfl) (by kernel_rfl) (fun _ _ _ h => h) (SteadyB.of_yields (Or.inl ⟨by rfl, ?_⟩)) ?_
          rotate_left
          · intro wq hSw
            go_simp
            (try with_reducible rfl)
          try simp only [List.getElem_toArray, List.getElem_cons_zero, List.getElem_cons_succ, Act.put, List.setIfInBounds_toArray, List.set_cons_zero, List.set_cons_succ]
          refine wpAnyE_take (i := 14) (v := ?_) (hsT2) (fun _ h => h) rfl (by kernel_rfl) (by kernel_rfl) (by kernel_rfl) (by kernel_rfl) (fun _ _ _ h => h) (SteadyB.of_yields (Or.inl ⟨by rfl, ?_⟩)) ?_
          rotate_left
          · intro wq hSw
            go_simp
            (try with_reducible rfl)
          try simp only [List.getElem_toArray, List.getElem_cons_zero, List.getElem_cons_succ, Act.put, List.setIfInBounds_toArray, List.set_cons_zero, List.set_cons_succ]
          refine wpAnyE_done (by kernel_rfl) (fun wz hSz => ?_) _
          have HQ9 := hid hSz.2
          clear hSz HQ
          go_wp2_with fail
          go_ret
          exact ⟨by first | rfl | simp, HQ9.out⟩
        · skip
          have HSO : Hid (∀ wq, RdI wq (some ⟨bb, off, Option.none⟩) k (a :: l) → Calls Try.prog 11 #[a.val, .slice (some ⟨bb, off + 7, Option.none⟩) (k - 1) (c - 1)] wq (Ans (It.val (l.foldl sooner a)) wq)) := hid (fun wq hq => by
            rw [hkm]
            exact Item.soonest a _ n (c - 1) l wq HIA.out (RdI.tail (by rwa [HM.out] at hq)) HIL.out (by have := HM.out; omega))
          go_wp2_with fail
          have hsT3 : Stays (fun wx => (RdI wx (some ⟨bb, off, Option.none⟩) k (a :: l) ∧ RdI wx A1 k (a :: l)) ∧ Below w.heap.size w wx) := fun _ _ h hb => ⟨⟨h.1.1.below hb, h.1.2.below hb⟩, below_on h.2 hb⟩
          refine wp_region_grow (S := fun wx => (RdI wx (some ⟨bb, off, Option.none⟩) k (a :: l) ∧ RdI wx A1 k (a :: l)) ∧ Below w.heap.size w wx) 15 (by kernel_rfl) (hsT3 _ _ (HQ.out) (Below.refl _ _).drew) ?_
          refine wpAnyE_take (i := 0) (v := ?_) (hsT3) (fun _ h => h) rfl (by kernel_rfl) (by kernel_rfl) (by kernel_rfl) (by kernel_rfl) (fun _ _ _ h => h) (SteadyB.of_yields (Or.inl ⟨by rfl, ?_⟩)) ?_
          rotate_left
          · intro wq hSw
            go_simp
            (try with_reducible rfl)
          try simp only [List.getElem_toArray, List.getElem_cons_zero, List.getElem_cons_succ, Act.put, List.setIfInBounds_toArray, List.set_cons_zero, List.set_cons_succ]
          refine wpAnyE_take (i := 1) (v := ?_) (hsT3) (fun _ h => h) rfl (by kernel_rfl) (by kernel_rfl) (by kernel_rfl) (by kernel_rfl) (fun _ _ _ h => h) (SteadyB.of_yields (Or.inl ⟨by rfl, ?_⟩)) ?_
          rotate_left
          · intro wq hSw
            go_simp
            (try with_reducible rfl)
          try simp only [List.getElem_toArray, List.getElem_cons_zero, List.getElem_cons_succ, Act.put, List.setIfInBounds_toArray, List.set_cons_zero, List.set_cons_succ]
          refine wpAnyE_take (i := 2) (v := ?_) (hsT3) (fun _ h => h) rfl (by kernel_rfl) (by kernel_rfl) (by kernel_rfl) (by kernel_rfl) (fun _ _ _ h => h) (SteadyB.of_yields (Or.inl ⟨by rfl, ?_⟩)) ?_
          rotate_left
          · intro wq hSw
            go_simp
            (try with_reducible rfl)
          try simp only [List.getElem_toArray, List.getElem_cons_zero, List.getElem_cons_succ, Act.put, List.setIfInBounds_toArray, List.set_cons_zero, List.set_cons_succ]
          refine wpAnyE_take (i := 3) (v := ?_) (hsT3) (fun _ h => h) rfl (by kernel_rfl) (by kernel_rfl) (by kernel_rfl) (by kernel_rfl) (fun _ _ _ h => h) (SteadyB.of_yields (Or.inl ⟨by rfl, ?_⟩)) ?_
          rotate_left
          · intro wq hSw
            go_simp
            (try with_reducible rfl)
          try simp only [List.getElem_toArray, List.getElem_cons_zero, List.getElem_cons_succ, Act.put, List.setIfInBounds_toArray, List.set_cons_zero, List.set_cons_succ]
          refine wpAnyE_take (i := 4) (v := ?_) (hsT3) (fun _ h => h) rfl (by kernel_rfl) (by kernel_rfl) (by kernel_rfl) (by kernel_rfl) (fun _ _ _ h => h) (SteadyB.of_yields (Or.inl ⟨by rfl, ?_⟩)) ?_
          rotate_left
          · intro wq hSw
            go_simp
            (try with_reducible rfl)
          try simp only [List.getElem_toArray, List.getElem_cons_zero, List.getElem_cons_succ, Act.put, List.setIfInBounds_toArray, List.set_cons_zero, List.set_cons_succ]
          refine wpAnyE_take (i := 5) (v := ?_) (hsT3) (fun _ h => h) rfl (by kernel_rfl) (by kernel_rfl) (by kernel_rfl) (by kernel_rfl) (fun _ _ _ h => h) (SteadyB.of_yields (Or.inl ⟨by rfl, ?_⟩)) ?_
          rotate_left
          · intro wq hSw
            obtain ⟨_, _, eA, _, hcc⟩ := hSw.1.1.2 0 hk0
            injection eA with eA
            injection eA with eA1 eA2
            subst eA1 eA2
            obtain ⟨p0, p1, p2, p3, p4, p5, p6⟩ := hcc 0 hk0
            rw [show off + 0 * 7 = off by omega] at p0 p1 p2 p3 p4 p5 p6
            rw [show (a :: l).getD 0 It.zero = a from rfl] at p0 p1 p2 p3 p4 p5 p6
            go_simp
            (try with_reducible rfl)
          try simp only [List.getElem_toArray, List.getElem_cons_zero, List.getElem_cons_succ, Act.put, List.setIfInBounds_toArray, List.set_cons_zero, List.set_cons_succ]
          refine wpAnyE_take (i := 6) (v := ?_) (hsT3) (fun _ h => h) rfl (by kernel_rfl) (by kernel_rfl) (by kernel_rfl) (by kernel_rfl) (fun _ _ _ h => h) (SteadyB.of_yields (Or.inl ⟨by rfl, ?_⟩)) ?_
          rotate_left
          · intro wq hSw
            go_simp
            (try with_reducible rfl)
          try simp only [List.getElem_toArray, List.getElem_cons_zero, List.getElem_cons_succ, Act.put, List.setIfInBounds_toArray, List.set_cons_zero, List.set_cons_succ]
          refine wpAnyE_take (i := 7) (v := ?_) (hsT3) (fun _ h => h) rfl (by kernel_rfl) (by kernel_rfl) (by kernel_rfl) (by kernel_rfl) (fun _ _ _ h => h) (SteadyB.of_yields (Or.inl ⟨by rfl, ?_⟩)) ?_
          rotate_left
          · intro wq hSw
            go_simp
            (try with_reducible rfl)
          try simp only [List.getElem_toArray, List.getElem_cons_zero, List.getElem_cons_succ, Act.put, List.setIfInBounds_toArray, List.set_cons_zero, List.set_cons_succ]
          refine wpAnyE_take (i := 8) (v := It.val (l.foldl sooner a)) (hsT3) (fun _ h => h) rfl (by kernel_rfl) (by kernel_rfl) (by kernel_rfl) (by kernel_rfl) (fun _ _ _ h => h) (Or.inl ⟨by rfl, fun wq hSw => ?_⟩) ?_
          · refine RunB.of_calls (HSO.out wq hSw.1.1) (by go_simp) ?_
            rintro e wr ⟨rfl, hb⟩
            exact ⟨rfl, hb⟩
          try simp only [List.getElem_toArray, List.getElem_cons_zero, List.getElem_cons_succ, Act.put, List.setIfInBounds_toArray, List.set_cons_zero, List.set_cons_succ]
          refine wpAnyE_take (i := 9) (v := It.val (l.foldl sooner a)) (hsT3) (fun _ h => h) rfl (by kernel_rfl) (by kernel_rfl) (by kernel_rfl) (by kernel_rfl) (fun _ _ _ h => h) (Or.inl ⟨by rfl, fun wq hSw => ?_⟩) ?_
          · refine RunB.of_calls (Law5.of (l.foldl sooner a) wq) (by go_simp) ?_
            rintro e wr ⟨rfl, hb⟩
            exact ⟨rfl, hb⟩
          try simp only [List.getElem_toArray, List.getElem_cons_zero, List.getElem_cons_succ, Act.put, List.setIfInBounds_toArray, List.set_cons_zero, List.set_cons_succ]
          refine wpAnyE_take (i := 10) (v := ?_) (hsT3) (fun _ h => h) rfl (by kernel_rfl) (by kernel_rfl) (by kernel_rfl) (by kernel_rfl) (fun _ _ _ h => h) (SteadyB.of_yields (Or.inl ⟨by rfl, ?_⟩)) ?_
          rotate_left
          · intro wq hSw
            go_simp
            (try with_reducible rfl)
          try simp only [List.getElem_toArray, List.getElem_cons_zero, List.getElem_cons_succ, Act.put, List.setIfInBounds_toArray, List.set_cons_zero, List.set_cons_succ]
          refine wpAnyE_take (i := 11) (v := It.val (l.foldl sooner a)) (hsT3) (fun _ h => h) rfl (by kernel_rfl) (by kernel_rfl) (by kernel_rfl) (by kernel_rfl) (fun _ _ _ h => h) (Or.inl ⟨by rfl, fun wq hSw => ?_⟩) ?_
          · refine RunB.of_calls (HRS.out wq hSw.1.2) (by go_simp) ?_
            rintro e wr ⟨rfl, hb⟩
            exact ⟨rfl, hb⟩
          try simp only [List.getElem_toArray, List.getElem_cons_zero, List.getElem_cons_succ, Act.put, List.setIfInBounds_toArray, List.set_cons_zero, List.set_cons_succ]
          refine wpAnyE_take (i := 12) (v := ?_) (hsT3) (fun _ h => h) rfl (by kernel_rfl) (by kernel_rfl) (by kernel_rfl) (by kernel_rfl) (fun _ _ _ h => h) (SteadyB.of_yields (Or.inl ⟨by rfl, ?_⟩)) ?_
          rotate_left
          · intro wq hSw
            go_simp
            (try with_reducible rfl)
          try simp only [List.getElem_toArray, List.getElem_cons_zero, List.getElem_cons_succ, Act.put, List.setIfInBounds_toArray, List.set_cons_zero, List.set_cons_succ]
          refine wpAnyE_take (i := 13) (v := ?_) (hsT3) (fun _ h => h) rfl (by kernel_rfl) (by kernel_rfl) (by kernel_rfl) (by kernel_rfl) (fun _ _ _ h => h) (SteadyB.of_yields (Or.inl ⟨by rfl, ?_⟩)) ?_
          rotate_left
          · intro wq hSw
            go_simp
            (try with_reducible rfl)
          try simp only [List.getElem_toArray, List.getElem_cons_zero, List.getElem_cons_succ, Act.put, List.setIfInBounds_toArray, List.set_cons_zero, List.set_cons_succ]
          refine wpAnyE_take (i := 14) (v := ?_) (hsT3) (fun _ h => h) rfl (by kernel_rfl) (by kernel_rfl) (by kernel_rfl) (by kernel_rfl) (fun _ _ _ h => h) (SteadyB.of_yields (Or.inl ⟨by rfl, ?_⟩)) ?_
          rotate_left
          · intro wq hSw
            go_simp
            (try with_reducible rfl)
          try simp only [List.getElem_toArray, List.getElem_cons_zero, List.getElem_cons_succ, Act.put, List.setIfInBounds_toArray, List.set_cons_zero, List.set_cons_succ]
          refine wpAnyE_done (by kernel_rfl) (fun wz hSz => ?_) _
          have HQ9 := hid hSz.2
          clear hSz HQ
          go_wp2_with fail
          go_ret
          exact ⟨by first | rfl | simp, HQ9.out⟩
theorem Iso.law (b : Int) (A : Option Addr) (n c : Nat) (l : List It) (w : World) (w0 : (Lit.int .u64 b).wf = true) (h1 : (RdI w A n l ∧ InI l) ∧ n ≤ 9223372036854775807 ∧ n ≤ c) : Calls Try.prog 3 #[.int .u64 b, .slice A n c] w fun e w' => e = .returned (.bool true) ∧ Below w.heap.size w w' := by
  by_cases hn : n = 0 ∨ 100 < n
  · exact Iso.few b A n c w hn
  · obtain ⟨m, rfl⟩ : ∃ m, n = m + 1 := ⟨n - 1, by omega⟩
    obtain ⟨bb, off, rfl, _, _⟩ := h1.1.1.2 0 (by omega)
    match l, h1 with
    | [], h1 => exact absurd h1.1.1.1 (by simp)
    | a :: l, h1 => exact Iso.core b (bounds_u64 w0) bb off m c a l w h1.1.1 h1.1.2 (by omega) h1.2.2
end

end Go.Proofs.Ytklaghleghncoaa

/- WideReckons: the walk. -/
import Derived.Test.YtiiabmfhhahloaaTold
import Derived.Test.YtiiabmfhhahloaaFind
import Derived.Test.YtiiabmfhhahloaaWideC
import Derived.Test.YtiiabmfhhahloaaOpen
namespace Go.Proofs.Ytiiabmfhhahloaa
open Go.RowKit

theorem keepAl {w0 w : World} {b0 o0 b1 o1 b2 o2 b3 o3 : Nat} {v0 v1 v2 v3 : Value}
    (h : (w.cell? ⟨b0, o0, none⟩ = some v0 ∧ w.cell? ⟨b1, o1, none⟩ = some v1 ∧ w.cell? ⟨b2, o2, none⟩ = some v2 ∧ w.cell? ⟨b3, o3, none⟩ = some v3) ∧ Below w0.heap.size w0 w) (o : Obj) :
    ((w.alloc o).cell? ⟨b0, o0, none⟩ = some v0 ∧ (w.alloc o).cell? ⟨b1, o1, none⟩ = some v1 ∧ (w.alloc o).cell? ⟨b2, o2, none⟩ = some v2 ∧ (w.alloc o).cell? ⟨b3, o3, none⟩ = some v3) ∧ Below w0.heap.size w0 (w.alloc o) :=
  ⟨⟨cell_alloc o h.1.1, cell_alloc o h.1.2.1, cell_alloc o h.1.2.2.1, cell_alloc o h.1.2.2.2⟩, h.2.alloc h.2.size o⟩

theorem IsB.storeV {w : World} {L : Nat} {s : Bool} {A : Option Addr} {n c : Nat} {z : Int} {g : Nat} {s0 : Bool} {A0 : Option Addr} {n0 c0 : Nat} (h : IsB w L s A n c z) (hv : Var w g s0 A0 n0 c0) (o o' : Nat) (u v : Value) :
    IsB ((w.setCell ⟨g, o, none⟩ u).setCell ⟨g, o', none⟩ v) L s A n c z := h.store hv.2.2.2.2 _ _ _ _
theorem Var.newS (w : World) (b o b' o' : Nat) (u v : Value) (t : TypeId) (s : Bool) (A : Option Addr) (n c : Nat) : Var (((w.setCell ⟨b, o, none⟩ u).setCell ⟨b', o', none⟩ v).alloc (.cells #[.bool s, .slice A n c] t)) w.heap.size s A n c := by
  have h := Var.new ((w.setCell ⟨b, o, none⟩ u).setCell ⟨b', o', none⟩ v) t s A n c
  simpa using h
theorem Var.new1 (w : World) (o : Obj) (t : TypeId) (s : Bool) (A : Option Addr) (n c : Nat) : Var ((w.alloc o).alloc (.cells #[.bool s, .slice A n c] t)) (w.heap.size + 1) s A n c := by
  have h := Var.new (w.alloc o) t s A n c
  simpa using h
theorem Fresh.ofVar {w : World} {g : Nat} (h : Var w g false none 0 0) : Fresh w g := h
theorem keepDr {w0 w : World} {b0 o0 b1 o1 b2 o2 b3 o3 : Nat} {v0 v1 v2 v3 : Value}
    (h : (w.cell? ⟨b0, o0, none⟩ = some v0 ∧ w.cell? ⟨b1, o1, none⟩ = some v1 ∧ w.cell? ⟨b2, o2, none⟩ = some v2 ∧ w.cell? ⟨b3, o3, none⟩ = some v3) ∧ Below w0.heap.size w0 w) :
    (w.drew.cell? ⟨b0, o0, none⟩ = some v0 ∧ w.drew.cell? ⟨b1, o1, none⟩ = some v1 ∧ w.drew.cell? ⟨b2, o2, none⟩ = some v2 ∧ w.drew.cell? ⟨b3, o3, none⟩ = some v3) ∧ Below w0.heap.size w0 w.drew :=
  ⟨h.1, h.2.drew⟩

theorem keepQ {w w' : World} {Q : World → Prop} {b0 o0 b1 o1 b2 o2 b3 o3 b4 o4 b5 o5 b6 o6 b7 o7 b8 o8 b9 o9 b10 o10 b11 o11 b12 o12 b13 o13 b14 o14 b15 o15 : Nat} {v0 v1 v2 v3 v4 v5 v6 v7 v8 v9 v10 v11 v12 v13 v14 v15 : Value}
    (h : ((w.cell? ⟨b0, o0, none⟩ = some v0 ∧ w.cell? ⟨b1, o1, none⟩ = some v1 ∧ w.cell? ⟨b2, o2, none⟩ = some v2 ∧ w.cell? ⟨b3, o3, none⟩ = some v3) ∧ (w.cell? ⟨b4, o4, none⟩ = some v4 ∧ w.cell? ⟨b5, o5, none⟩ = some v5 ∧ w.cell? ⟨b6, o6, none⟩ = some v6 ∧ w.cell? ⟨b7, o7, none⟩ = some v7) ∧ (w.cell? ⟨b8, o8, none⟩ = some v8 ∧ w.cell? ⟨b9, o9, none⟩ = some v9 ∧ w.cell? ⟨b10, o10, none⟩ = some v10 ∧ w.cell? ⟨b11, o11, none⟩ = some v11) ∧ (w.cell? ⟨b12, o12, none⟩ = some v12 ∧ w.cell? ⟨b13, o13, none⟩ = some v13 ∧ w.cell? ⟨b14, o14, none⟩ = some v14 ∧ w.cell? ⟨b15, o15, none⟩ = some v15)) ∧ Q w) (hb : Below w.heap.size w w') (hq : Q w → Q w') :
    ((w'.cell? ⟨b0, o0, none⟩ = some v0 ∧ w'.cell? ⟨b1, o1, none⟩ = some v1 ∧ w'.cell? ⟨b2, o2, none⟩ = some v2 ∧ w'.cell? ⟨b3, o3, none⟩ = some v3) ∧ (w'.cell? ⟨b4, o4, none⟩ = some v4 ∧ w'.cell? ⟨b5, o5, none⟩ = some v5 ∧ w'.cell? ⟨b6, o6, none⟩ = some v6 ∧ w'.cell? ⟨b7, o7, none⟩ = some v7) ∧ (w'.cell? ⟨b8, o8, none⟩ = some v8 ∧ w'.cell? ⟨b9, o9, none⟩ = some v9 ∧ w'.cell? ⟨b10, o10, none⟩ = some v10 ∧ w'.cell? ⟨b11, o11, none⟩ = some v11) ∧ (w'.cell? ⟨b12, o12, none⟩ = some v12 ∧ w'.cell? ⟨b13, o13, none⟩ = some v13 ∧ w'.cell? ⟨b14, o14, none⟩ = some v14 ∧ w'.cell? ⟨b15, o15, none⟩ = some v15)) ∧ Q w' :=
  ⟨⟨keep4 h.1.1 hb, keep4 h.1.2.1 hb, keep4 h.1.2.2.1 hb, keep4 h.1.2.2.2 hb⟩, hq h.2⟩

/-- What stands in memory while all is told. -/
def RQ (w0 : World) (a b : Int) (s1 : Bool) (A1 : Option Addr) (n1 d1 : Nat) (s2 : Bool) (A2 : Option Addr) (n2 d2 : Nat) (w : World) : Prop := Below w0.heap.size w0 w ∧ IsB w 18 s1 A1 n1 d1 a ∧ IsB w 18 s2 A2 n2 d2 b
theorem RQ.below {w0 : World} {a b : Int} {s1 : Bool} {A1 : Option Addr} {n1 d1 : Nat} {s2 : Bool} {A2 : Option Addr} {n2 d2 : Nat} {w w' : World} (h : RQ w0 a b s1 A1 n1 d1 s2 A2 n2 d2 w) (hb : Below w.heap.size w w') : RQ w0 a b s1 A1 n1 d1 s2 A2 n2 d2 w' :=
  ⟨below_keep h.1 hb, h.2.1.below hb, h.2.2.below hb⟩

set_option maxRecDepth 100000 in
set_option maxHeartbeats 20000000 in
theorem Reckons.walk (ah al bh bl c a b : Int) (ha : IsW ah al a) (hb : IsW bh bl b) (c0 : -9223372036854775808 ≤ c) (c1 : c ≤ 9223372036854775807) (w : World) :
    Calls Try.prog 3 #[.agg #[.int .i64 ah, .int .u64 al], .agg #[.int .i64 bh, .int .u64 bl], .int .i64 c] w fun e w' => e = .returned (.bool true) ∧ Below w.heap.size w w' := by
  go_enter Try.func3, Try.ntmps3
  go_wp2_with fail
  refine (Law1.awake _).mono ?_
  rintro e w1 ⟨rfl, hb1⟩
  have HC1 := hid (keep4 (w := (w.alloc (.cells #[.int .i64 ah, .int .u64 al] 24)).alloc (.cells #[.int .i64 bh, .int .u64 bl] 24)) (b0 := w.heap.size) (o0 := 0) (v0 := .int .i64 ah) (b1 := w.heap.size) (o1 := 1) (v1 := .int .u64 al) (b2 := w.heap.size + 1) (o2 := 0) (v2 := .int .i64 bh) (b3 := w.heap.size + 1) (o3 := 1) (v3 := .int .u64 bl) ⟨by simp [go_sem], by simp [go_sem], by simp [go_sem], by simp [go_sem]⟩ hb1)
  have HB1 := hid ((((Below.refl _ w).alloc (Nat.le_refl _) (.cells #[.int .i64 ah, .int .u64 al] 24)).alloc (by simp) (.cells #[.int .i64 bh, .int .u64 bl] 24)).trans (hb1.mono (by simp; omega)))
  have hsz : w.heap.size + 1 < w1.heap.size := World.block_lt_of_cell? w1 _ HC1.out.2.2.1
  clear hb1
  go_upto_region 3 with fail
  go_cut [7, 8] (fun p q wc => ∃ (g k : Nat) (s1 : Bool) (A1 : Option Addr) (n1 d1 : Nat) (s2 : Bool) (A2 : Option Addr) (n2 d2 : Nat), p = .pointer (some ⟨g, 0, none⟩) ∧ q = .pointer (some ⟨k, 0, none⟩) ∧
      Var wc g s1 A1 n1 d1 ∧ Var wc k s2 A2 n2 d2 ∧ IsB wc 18 s1 A1 n1 d1 a ∧ IsB wc 18 s2 A2 n2 d2 b ∧
      (wc.cell? ⟨w.heap.size, 0, none⟩ = some (.int .i64 ah) ∧ wc.cell? ⟨w.heap.size, 1, none⟩ = some (.int .u64 al) ∧ wc.cell? ⟨w.heap.size + 1, 0, none⟩ = some (.int .i64 bh) ∧ wc.cell? ⟨w.heap.size + 1, 1, none⟩ = some (.int .u64 bl)) ∧ Below w.heap.size w wc)
  case first =>
    go_region_held3 (fun w' => (w'.cell? ⟨w.heap.size, 0, none⟩ = some (.int .i64 ah) ∧ w'.cell? ⟨w.heap.size, 1, none⟩ = some (.int .u64 al) ∧ w'.cell? ⟨w.heap.size + 1, 0, none⟩ = some (.int .i64 bh) ∧ w'.cell? ⟨w.heap.size + 1, 1, none⟩ = some (.int .u64 bl)) ∧ Below w.heap.size w w')
      (first | ((repeat (first | with_reducible exact And.intro HC1.out HB1.out | with_reducible refine keepDr ?_ | with_reducible exact hS3 | with_reducible exact hS2 | with_reducible refine keepAl ?_ _ | with_reducible refine keepSt ?_ (by omega) (by omega) (by omega) (by omega) (by omega))); done) | exact ⟨HC1.out, HB1.out.drew⟩ | exact keepP (by assumption) hb2 (fun h => below_keep h hb2))
      (first
        | (go_at_call_of 14 (Value.agg #[.int .i64 ah, .int .u64 al]); refine (Law.of ah al a ha _).mono ?_; rintro e w2 ⟨s1, A1, n1, d1, rfl, hB1, hb2⟩; have HBb := hid hb2; have H1 := hid hB1; clear hB1; (try (have F := ((Fresh.ofVar (by first | with_reducible exact Var.drew (Var.new _ _ _ _ _ _) | with_reducible exact Var.drew (Var.alloc (Var.new _ _ _ _ _ _) _))).below hb2 : Fresh w2 (w1.heap.size)); have HFa := hid (Var.fresh F); have := Var.lt (Var.fresh F); obtain ⟨_, _, _, _, _⟩ := F)); (try (have F := ((Fresh.ofVar (by first | with_reducible exact Var.drew (Var.new1 _ _ _ _ _ _ _))).below hb2 : Fresh w2 (w1.heap.size + 1)); have HFb := hid (Var.fresh F); have := Var.lt (Var.fresh F); obtain ⟨_, _, _, _, _⟩ := F)); (have hS2 : (w2.cell? ⟨w.heap.size, 0, none⟩ = some (.int .i64 ah) ∧ w2.cell? ⟨w.heap.size, 1, none⟩ = some (.int .u64 al) ∧ w2.cell? ⟨w.heap.size + 1, 0, none⟩ = some (.int .i64 bh) ∧ w2.cell? ⟨w.heap.size + 1, 1, none⟩ = some (.int .u64 bl)) ∧ Below w.heap.size w w2 := keepP (by assumption) hb2 (fun h => below_keep h hb2)); have hszb : w.heap.size + 1 < w2.heap.size := World.block_lt_of_cell? w2 _ hS2.1.2.2.1)
        | (go_at_call_of 14 (Value.agg #[.int .i64 bh, .int .u64 bl]); refine (Law.of bh bl b hb _).mono ?_; rintro e w3 ⟨s2, A2, n2, d2, rfl, hB2, hb2⟩; have HBc := hid hb2; have H2 := hid hB2; clear hB2; (try (have F := ((Fresh.ofVar (by first | with_reducible exact (Var.new _ _ _ _ _ _) | with_reducible exact Var.alloc (Var.new _ _ _ _ _ _) _)).below hb2 : Fresh w3 (w2.heap.size)); have HFc := hid (Var.fresh F); have := Var.lt (Var.fresh F); obtain ⟨_, _, _, _, _⟩ := F)); (try (have F := ((Fresh.ofVar (by first | with_reducible exact (Var.new1 _ _ _ _ _ _ _))).below hb2 : Fresh w3 (w2.heap.size + 1)); have HFd := hid (Var.fresh F); have := Var.lt (Var.fresh F); obtain ⟨_, _, _, _, _⟩ := F)); (try (have F := ((Fresh.ofVar (by first | with_reducible exact HFa.out | with_reducible exact Var.alloc HFa.out _ | with_reducible exact Var.alloc (Var.alloc HFa.out _) _)).below hb2 : Fresh w3 (w1.heap.size)); have HFe := hid (Var.fresh F); have := Var.lt (Var.fresh F); obtain ⟨_, _, _, _, _⟩ := F)); (try (have F := ((Fresh.ofVar (by first | with_reducible exact HFb.out | with_reducible exact Var.alloc HFb.out _ | with_reducible exact Var.alloc (Var.alloc HFb.out _) _)).below hb2 : Fresh w3 (w1.heap.size + 1)); have HFf := hid (Var.fresh F); have := Var.lt (Var.fresh F); obtain ⟨_, _, _, _, _⟩ := F)); (have hS3 : (w3.cell? ⟨w.heap.size, 0, none⟩ = some (.int .i64 ah) ∧ w3.cell? ⟨w.heap.size, 1, none⟩ = some (.int .u64 al) ∧ w3.cell? ⟨w.heap.size + 1, 0, none⟩ = some (.int .i64 bh) ∧ w3.cell? ⟨w.heap.size + 1, 1, none⟩ = some (.int .u64 bl)) ∧ Below w.heap.size w w3 := keepP (by assumption) hb2 (fun h => below_keep h hb2)); have hszc : w.heap.size + 1 < w3.heap.size := World.block_lt_of_cell? w3 _ hS3.1.2.2.1))
    all_goals
      go_wp2_with fail
      go_meet
      refine ⟨_, _, s1, A1, n1, d1, s2, A2, n2, d2, rfl, rfl, ?_, ?_, ?_, ?_, And.left (by assumption : (_ ∧ _ ∧ _ ∧ _) ∧ Below w.heap.size w _), And.right (by assumption : (_ ∧ _ ∧ _ ∧ _) ∧ Below w.heap.size w _)⟩
      all_goals (repeat (first
        | with_reducible exact H1.out
        | with_reducible exact H2.out
        | with_reducible exact Var.new _ _ _ _ _ _
        | with_reducible exact Var.new1 _ _ _ _ _ _ _
        | with_reducible exact HFc.out
        | with_reducible exact HFd.out
        | with_reducible exact HFe.out
        | with_reducible exact HFf.out
        | with_reducible exact Var.newS _ _ _ _ _ _ _ _ _ _ _ _
        | with_reducible refine Var.store (s := false) (A := none) (n := 0) (c := 0) ?_ _ _ _ _
        | with_reducible refine IsB.storeV (s0 := false) (A0 := none) (n0 := 0) (c0 := 0) ?_ ?_ _ _ _ _
        | with_reducible refine Var.far ?_ (by omega) _ _ _ _
        | with_reducible refine Var.alloc ?_ _
        | with_reducible refine IsB.alloc ?_ _
        | with_reducible refine Var.drew ?_
        | with_reducible refine IsB.drew ?_
        | with_reducible refine Var.below ?_ HBc.out
        | with_reducible refine IsB.below ?_ HBc.out
        | with_reducible refine Var.below ?_ HBb.out
        | with_reducible refine IsB.below ?_ HBb.out))
  case rest =>
    obtain ⟨g, k, s1, A1, n1, d1, s2, A2, n2, d2, rfl, rfl, hg, hk, h1, h2, hS, hB⟩ := hcut
    have HG := hid hg
    have HK := hid hk
    have H1 := hid h1
    have H2 := hid h2
    have HS := hid hS
    have HB := hid hB
    obtain ⟨x0, x1, y0, y1⟩ := hS
    clear hg hk h1 h2 hB HC1 HB1 hsz
    go_wp2_with fail
    refine (Wide.add ah al bh bl a b ha hb _).mono ?_
    rintro e w2 ⟨h2, l2, ok2, rfl, hr2, hb2⟩
    have HR2 := hid hr2
    have HT2 : Hid (RQ w a b s1 A1 n1 d1 s2 A2 n2 d2 w2) := hid (RQ.below ⟨HB.out, H1.out, H2.out⟩ hb2)
    have hs2 : (w2.cell? ⟨w.heap.size, 0, none⟩ = some (.int .i64 ah) ∧ w2.cell? ⟨w.heap.size, 1, none⟩ = some (.int .u64 al) ∧ w2.cell? ⟨w.heap.size + 1, 0, none⟩ = some (.int .i64 bh) ∧ w2.cell? ⟨w.heap.size + 1, 1, none⟩ = some (.int .u64 bl)) := keep4 ⟨x0, x1, y0, y1⟩ hb2
    have HV2 : Hid (w2.cell? ⟨g, 0, none⟩ = some (.bool s1) ∧ w2.cell? ⟨g, 1, none⟩ = some (.slice A1 n1 d1) ∧ w2.cell? ⟨k, 0, none⟩ = some (.bool s2) ∧ w2.cell? ⟨k, 1, none⟩ = some (.slice A2 n2 d2)) := hid (keep4 ⟨HG.out.1, HG.out.2.1, HK.out.1, HK.out.2.1⟩ hb2)
    have HC2 := hid hs2
    obtain ⟨x0, x1, y0, y1⟩ := hs2
    have hz2 : w.heap.size + 1 < w2.heap.size := World.block_lt_of_cell? w2 _ y0
    have hy2 : w.heap.size < w2.heap.size := by omega
    clear hr2 hb2
    go_wp2_with fail
    refine (Wide.sub ah al bh bl a b ha hb _).mono ?_
    rintro e w3 ⟨h3, l3, ok3, rfl, hr3, hb3⟩
    have HR3 := hid hr3
    have hba3 := (Below.refl _ w2).alloc (Nat.le_refl _) (.cells #[.int .i64 h2, .int .u64 l2] 24)
    have hbb3 := hba3.trans (hb3.mono hba3.size)
    have HT3 := hid (HT2.out.below hbb3)
    have hs3 : (w3.cell? ⟨w.heap.size, 0, none⟩ = some (.int .i64 ah) ∧ w3.cell? ⟨w.heap.size, 1, none⟩ = some (.int .u64 al) ∧ w3.cell? ⟨w.heap.size + 1, 0, none⟩ = some (.int .i64 bh) ∧ w3.cell? ⟨w.heap.size + 1, 1, none⟩ = some (.int .u64 bl)) := keep4 HC2.out hbb3
    have HV3 : Hid (w3.cell? ⟨g, 0, none⟩ = some (.bool s1) ∧ w3.cell? ⟨g, 1, none⟩ = some (.slice A1 n1 d1) ∧ w3.cell? ⟨k, 0, none⟩ = some (.bool s2) ∧ w3.cell? ⟨k, 1, none⟩ = some (.slice A2 n2 d2)) := hid (keep4 HV2.out hbb3)
    have HL2_3 : Hid (w3.cell? ⟨w2.heap.size, 0, none⟩ = some (.int .i64 h2) ∧ w3.cell? ⟨w2.heap.size, 1, none⟩ = some (.int .u64 l2)) := hid (keep2 (w := w2.alloc (.cells #[.int .i64 h2, .int .u64 l2] 24)) ⟨by simp [go_sem], by simp [go_sem]⟩ hb3)
    have HC3 := hid hs3
    obtain ⟨x0, x1, y0, y1⟩ := hs3
    have hz3 : w.heap.size + 1 < w3.heap.size := World.block_lt_of_cell? w3 _ y0
    have hy3 : w.heap.size < w3.heap.size := by omega
    clear hr3 hb3 hba3 hbb3
    go_wp2_with fail
    refine (Wide.neg ah al a ha _).mono ?_
    rintro e w4 ⟨h4, l4, ok4, rfl, hr4, hb4⟩
    have HR4 := hid hr4
    have hba4 := (Below.refl _ w3).alloc (Nat.le_refl _) (.cells #[.int .i64 h3, .int .u64 l3] 24)
    have hbb4 := hba4.trans (hb4.mono hba4.size)
    have HT4 := hid (HT3.out.below hbb4)
    have hs4 : (w4.cell? ⟨w.heap.size, 0, none⟩ = some (.int .i64 ah) ∧ w4.cell? ⟨w.heap.size, 1, none⟩ = some (.int .u64 al) ∧ w4.cell? ⟨w.heap.size + 1, 0, none⟩ = some (.int .i64 bh) ∧ w4.cell? ⟨w.heap.size + 1, 1, none⟩ = some (.int .u64 bl)) := keep4 HC3.out hbb4
    have HV4 : Hid (w4.cell? ⟨g, 0, none⟩ = some (.bool s1) ∧ w4.cell? ⟨g, 1, none⟩ = some (.slice A1 n1 d1) ∧ w4.cell? ⟨k, 0, none⟩ = some (.bool s2) ∧ w4.cell? ⟨k, 1, none⟩ = some (.slice A2 n2 d2)) := hid (keep4 HV3.out hbb4)
    have HL3_4 : Hid (w4.cell? ⟨w3.heap.size, 0, none⟩ = some (.int .i64 h3) ∧ w4.cell? ⟨w3.heap.size, 1, none⟩ = some (.int .u64 l3)) := hid (keep2 (w := w3.alloc (.cells #[.int .i64 h3, .int .u64 l3] 24)) ⟨by simp [go_sem], by simp [go_sem]⟩ hb4)
    have HL2_4 : Hid (w4.cell? ⟨w2.heap.size, 0, none⟩ = some (.int .i64 h2) ∧ w4.cell? ⟨w2.heap.size, 1, none⟩ = some (.int .u64 l2)) := hid (keep2 HL2_3.out hbb4)
    have HC4 := hid hs4
    obtain ⟨x0, x1, y0, y1⟩ := hs4
    have hz4 : w.heap.size + 1 < w4.heap.size := World.block_lt_of_cell? w4 _ y0
    have hy4 : w.heap.size < w4.heap.size := by omega
    clear hr4 hb4 hba4 hbb4
    go_wp2_with fail
    refine (Wide.mul ah al c a ha c0 c1 _).mono ?_
    rintro e w5 ⟨h5, l5, ok5, rfl, hr5, hb5⟩
    have HR5 := hid hr5
    have hba5 := (Below.refl _ w4).alloc (Nat.le_refl _) (.cells #[.int .i64 h4, .int .u64 l4] 24)
    have hbb5 := hba5.trans (hb5.mono hba5.size)
    have HT5 := hid (HT4.out.below hbb5)
    have hs5 : (w5.cell? ⟨w.heap.size, 0, none⟩ = some (.int .i64 ah) ∧ w5.cell? ⟨w.heap.size, 1, none⟩ = some (.int .u64 al) ∧ w5.cell? ⟨w.heap.size + 1, 0, none⟩ = some (.int .i64 bh) ∧ w5.cell? ⟨w.heap.size + 1, 1, none⟩ = some (.int .u64 bl)) := keep4 HC4.out hbb5
    have HV5 : Hid (w5.cell? ⟨g, 0, none⟩ = some (.bool s1) ∧ w5.cell? ⟨g, 1, none⟩ = some (.slice A1 n1 d1) ∧ w5.cell? ⟨k, 0, none⟩ = some (.bool s2) ∧ w5.cell? ⟨k, 1, none⟩ = some (.slice A2 n2 d2)) := hid (keep4 HV4.out hbb5)
    have HL4_5 : Hid (w5.cell? ⟨w4.heap.size, 0, none⟩ = some (.int .i64 h4) ∧ w5.cell? ⟨w4.heap.size, 1, none⟩ = some (.int .u64 l4)) := hid (keep2 (w := w4.alloc (.cells #[.int .i64 h4, .int .u64 l4] 24)) ⟨by simp [go_sem], by simp [go_sem]⟩ hb5)
    have HL2_5 : Hid (w5.cell? ⟨w2.heap.size, 0, none⟩ = some (.int .i64 h2) ∧ w5.cell? ⟨w2.heap.size, 1, none⟩ = some (.int .u64 l2)) := hid (keep2 HL2_4.out hbb5)
    have HL3_5 : Hid (w5.cell? ⟨w3.heap.size, 0, none⟩ = some (.int .i64 h3) ∧ w5.cell? ⟨w3.heap.size, 1, none⟩ = some (.int .u64 l3)) := hid (keep2 HL3_4.out hbb5)
    have HC5 := hid hs5
    obtain ⟨x0, x1, y0, y1⟩ := hs5
    have hz5 : w.heap.size + 1 < w5.heap.size := World.block_lt_of_cell? w5 _ y0
    have hy5 : w.heap.size < w5.heap.size := by omega
    clear hr5 hb5 hba5 hbb5
    go_wp2_with fail
    obtain ⟨W0, hW⟩ : ∃ W0, W0 = w5.alloc (.cells #[.int .i64 h5, .int .u64 l5] 24) := ⟨_, rfl⟩
    have hbw : Below w5.heap.size w5 W0 := by rw [hW]; exact (Below.refl _ w5).alloc (Nat.le_refl _) _
    have hl5 : W0.cell? ⟨w5.heap.size, 0, none⟩ = some (.int .i64 h5) ∧ W0.cell? ⟨w5.heap.size, 1, none⟩ = some (.int .u64 l5) := by rw [hW]; exact ⟨by simp [go_sem], by simp [go_sem]⟩
    rw [← hW]
    have hl2 := keep2 HL2_5.out hbw
    have hl3 := keep2 HL3_5.out hbw
    have hl4 := keep2 HL4_5.out hbw
    have HS0 : Hid (((W0.cell? ⟨w.heap.size, 0, none⟩ = some (.int .i64 ah) ∧ W0.cell? ⟨w.heap.size, 1, none⟩ = some (.int .u64 al) ∧ W0.cell? ⟨w.heap.size + 1, 0, none⟩ = some (.int .i64 bh) ∧ W0.cell? ⟨w.heap.size + 1, 1, none⟩ = some (.int .u64 bl)) ∧ (W0.cell? ⟨g, 0, none⟩ = some (.bool s1) ∧ W0.cell? ⟨g, 1, none⟩ = some (.slice A1 n1 d1) ∧ W0.cell? ⟨k, 0, none⟩ = some (.bool s2) ∧ W0.cell? ⟨k, 1, none⟩ = some (.slice A2 n2 d2)) ∧ (W0.cell? ⟨w2.heap.size, 0, none⟩ = some (.int .i64 h2) ∧ W0.cell? ⟨w2.heap.size, 1, none⟩ = some (.int .u64 l2) ∧ W0.cell? ⟨w3.heap.size, 0, none⟩ = some (.int .i64 h3) ∧ W0.cell? ⟨w3.heap.size, 1, none⟩ = some (.int .u64 l3)) ∧ (W0.cell? ⟨w4.heap.size, 0, none⟩ = some (.int .i64 h4) ∧ W0.cell? ⟨w4.heap.size, 1, none⟩ = some (.int .u64 l4) ∧ W0.cell? ⟨w5.heap.size, 0, none⟩ = some (.int .i64 h5) ∧ W0.cell? ⟨w5.heap.size, 1, none⟩ = some (.int .u64 l5))) ∧ RQ w a b s1 A1 n1 d1 s2 A2 n2 d2 W0) := hid ⟨⟨keep4 HC5.out hbw, keep4 HV5.out hbw, ⟨hl2.1, hl2.2, hl3.1, hl3.2⟩, ⟨hl4.1, hl4.2, hl5.1, hl5.2⟩⟩, HT5.out.below hbw⟩
    clear hW hbw hl2 hl3 hl4 hl5 x0 x1 y0 y1 hz2 hy2 hz3 hy3 hz4 hy4 hz5 hy5
    go_region_held3 (fun w' => ((w'.cell? ⟨w.heap.size, 0, none⟩ = some (.int .i64 ah) ∧ w'.cell? ⟨w.heap.size, 1, none⟩ = some (.int .u64 al) ∧ w'.cell? ⟨w.heap.size + 1, 0, none⟩ = some (.int .i64 bh) ∧ w'.cell? ⟨w.heap.size + 1, 1, none⟩ = some (.int .u64 bl)) ∧ (w'.cell? ⟨g, 0, none⟩ = some (.bool s1) ∧ w'.cell? ⟨g, 1, none⟩ = some (.slice A1 n1 d1) ∧ w'.cell? ⟨k, 0, none⟩ = some (.bool s2) ∧ w'.cell? ⟨k, 1, none⟩ = some (.slice A2 n2 d2)) ∧ (w'.cell? ⟨w2.heap.size, 0, none⟩ = some (.int .i64 h2) ∧ w'.cell? ⟨w2.heap.size, 1, none⟩ = some (.int .u64 l2) ∧ w'.cell? ⟨w3.heap.size, 0, none⟩ = some (.int .i64 h3) ∧ w'.cell? ⟨w3.heap.size, 1, none⟩ = some (.int .u64 l3)) ∧ (w'.cell? ⟨w4.heap.size, 0, none⟩ = some (.int .i64 h4) ∧ w'.cell? ⟨w4.heap.size, 1, none⟩ = some (.int .u64 l4) ∧ w'.cell? ⟨w5.heap.size, 0, none⟩ = some (.int .i64 h5) ∧ w'.cell? ⟨w5.heap.size, 1, none⟩ = some (.int .u64 l5))) ∧ RQ w a b s1 A1 n1 d1 s2 A2 n2 d2 w')
      (first | exact ⟨HS0.out.1, HS0.out.2.1.drew, HS0.out.2.2⟩ | exact keepQ (by assumption) hb2 (fun h => RQ.below h hb2))
      (first
        | (go_at_call 20; refine (Ref.add 18 s1 s2 A1 A2 n1 d1 n2 d2 a b _ (by assumption : (_ ∧ _ ∧ _ ∧ _) ∧ RQ w a b s1 A1 n1 d1 s2 A2 n2 d2 _).2.2.1 (by assumption : (_ ∧ _ ∧ _ ∧ _) ∧ RQ w a b s1 A1 n1 d1 s2 A2 n2 d2 _).2.2.2 (by decide)).mono ?_; rintro e w9 ⟨s6, A6, n6, d6, rfl, hB, hb2⟩; have H6 := hid hB; clear hB)
        | (go_at_call_of 19 (Value.agg #[.int .i64 h2, .int .u64 l2]); refine (Law.told 19 (by decide) h2 l2 (a + b) ok2 HR2.out s6 A6 n6 d6 _ H6.out).mono ?_; rintro e w9 ⟨rfl, hb2⟩)
        | (go_at_call 21; refine (Ref.sub 18 s1 s2 A1 A2 n1 d1 n2 d2 a b _ (by assumption : (_ ∧ _ ∧ _ ∧ _) ∧ RQ w a b s1 A1 n1 d1 s2 A2 n2 d2 _).2.2.1 (by assumption : (_ ∧ _ ∧ _ ∧ _) ∧ RQ w a b s1 A1 n1 d1 s2 A2 n2 d2 _).2.2.2 (by decide)).mono ?_; rintro e w9 ⟨s7, A7, n7, d7, rfl, hB, hb2⟩; have H7 := hid hB; clear hB)
        | (go_at_call_of 19 (Value.agg #[.int .i64 h3, .int .u64 l3]); refine (Law.told 19 (by decide) h3 l3 (a - b) ok3 HR3.out s7 A7 n7 d7 _ H7.out).mono ?_; rintro e w9 ⟨rfl, hb2⟩)
        | (go_at_call 22; refine (Ref.neg 18 s1 A1 n1 d1 a _ (by assumption : (_ ∧ _ ∧ _ ∧ _) ∧ RQ w a b s1 A1 n1 d1 s2 A2 n2 d2 _).2.2.1 (by decide)).mono ?_; rintro e w9 ⟨s8, A8, n8, d8, rfl, hB, hb2⟩; have H8 := hid hB; clear hB)
        | (go_at_call_of 19 (Value.agg #[.int .i64 h4, .int .u64 l4]); refine (Law.told 18 (by decide) h4 l4 (0 - a) ok4 HR4.out s8 A8 n8 d8 _ H8.out).mono ?_; rintro e w9 ⟨rfl, hb2⟩)
        | (go_at_call 24; refine (Ref.N c c0 c1 _).mono ?_; rintro e w9 ⟨s9, A9, n9, d9, rfl, hB, hb2⟩; have H9 := hid hB; clear hB; have H19 := hid (RQ.below (by assumption : (_ ∧ _ ∧ _ ∧ _) ∧ RQ w a b s1 A1 n1 d1 s2 A2 n2 d2 _).2 hb2).2.1)
        | (go_at_call 23; refine (Ref.mul 18 5 s1 s9 A1 A9 n1 d1 n9 d9 a c _ H19.out H9.out (by decide) (by decide)).mono ?_; rintro e w9 ⟨s10, A10, n10, d10, rfl, hB, hb2⟩; have H10 := hid hB; clear hB)
        | (go_at_call_of 19 (Value.agg #[.int .i64 h5, .int .u64 l5]); refine (Law.told 24 (by decide) h5 l5 (a * c) ok5 HR5.out s10 A10 n10 d10 _ H10.out).mono ?_; rintro e w9 ⟨rfl, hb2⟩)
        | (go_at_call 25; refine (Wide.cmpV ah al bh bl a b ha hb _).mono ?_; rintro e w9 ⟨rfl, hb2⟩)
        | (go_at_call 26; refine (Ref.cmp 18 s1 s2 A1 A2 n1 d1 n2 d2 a b _ (by assumption : (_ ∧ _ ∧ _ ∧ _) ∧ RQ w a b s1 A1 n1 d1 s2 A2 n2 d2 _).2.2.1 (by assumption : (_ ∧ _ ∧ _ ∧ _) ∧ RQ w a b s1 A1 n1 d1 s2 A2 n2 d2 _).2.2.2 (by decide)).mono ?_; rintro e w9 ⟨rfl, hb2⟩)
        | (go_at_call 27; refine (Wide.signV ah al a ha _).mono ?_; rintro e w9 ⟨rfl, hb2⟩)
        | (go_at_call 28; refine (Ref.sign 18 s1 A1 n1 d1 a _ (by assumption : (_ ∧ _ ∧ _ ∧ _) ∧ RQ w a b s1 A1 n1 d1 s2 A2 n2 d2 _).2.2.1).mono ?_; rintro e w9 ⟨rfl, hb2⟩))
    obtain ⟨_, hfin⟩ : (_ ∧ _ ∧ _ ∧ _) ∧ RQ w a b s1 A1 n1 d1 s2 A2 n2 d2 _ := by assumption
    have HFIN := hid hfin.1
    clear hfin
    go_wp2
    go_ret
    exact ⟨rfl, HFIN.out⟩

theorem Reckons.law (a0 b0 a1 b1 a2 : Int) (w : World) (w0 : IsWd a0 b0) (w1 : IsWd a1 b1) (w2 : (Lit.int .i64 a2).wf = true) :
    Calls Try.prog 3 #[.agg #[.int .i64 a0, .int .u64 b0], .agg #[.int .i64 a1, .int .u64 b1], .int .i64 a2] w fun e w' => e = .returned (.bool true) ∧ Below w.heap.size w w' :=
  Reckons.walk a0 b0 a1 b1 a2 _ _ w0 w1 (bounds_i64 w2).1 (bounds_i64 w2).2 w

end Go.Proofs.Ytiiabmfhhahloaa

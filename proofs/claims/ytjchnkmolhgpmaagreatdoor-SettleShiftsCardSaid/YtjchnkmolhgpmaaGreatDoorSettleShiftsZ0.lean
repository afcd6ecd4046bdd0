/- Texts of SettleShifts's proof, together. -/
import Derived.WalkKit
import Derived.Deep.Draws
namespace Go.Proofs.YtjchnkmolhgpmaaGreatDoor

section
open Go.RowKit
theorem tdy : (∀ {α : Type} (l : List α) (i : Nat) (h : i < l.toArray.size), l.toArray[i] = l[i]'(by simpa using h)) ∧ (∀ {α : Type} (a : α) (l : List α) (h : 0 < (a :: l).length), (a :: l)[0] = a) ∧ (∀ {α : Type} (a : α) (l : List α) (i : Nat) (h : i + 1 < (a :: l).length), (a :: l)[i + 1] = l[i]'(by simpa using h)) ∧ (∀ (a : Act) (d : Option Nat) (v : Value), Act.put a d v = (match d with | some n => { a with tmps := a.tmps.setIfInBounds n v } | none => a)) ∧ (∀ {α : Type} (l : List α) (i : Nat) (v : α), l.toArray.setIfInBounds i v = (l.set i v).toArray) ∧ (∀ {α : Type} (a : α) (l : List α) (v : α), (a :: l).set 0 v = v :: l) ∧ (∀ {α : Type} (a : α) (l : List α) (i : Nat) (v : α), (a :: l).set (i + 1) v = a :: l.set i v) :=
 ⟨fun _ _ _ => by simp, fun _ _ _ => rfl, fun _ _ _ _ => rfl, fun _ d _ => by cases d <;> rfl, fun _ _ _ => by simp, fun _ _ _ => rfl, fun _ _ _ _ => rfl⟩
theorem hid {p : Prop} (h : p) : RowKit.Hid p := h
theorem bcell {B : Nat} {W w1 : World} (hb : Below B W w1) : (∀ b o, b < B → w1.cell? ⟨b, o, none⟩ = W.cell? ⟨b, o, none⟩) ∧ (∀ b o, b < B → w1.frozen? ⟨b, o, none⟩ = W.frozen? ⟨b, o, none⟩) :=
 ⟨fun b o h => hb.cell (p := ⟨b, o, none⟩) h, fun b o h => hb.frozen (p := ⟨b, o, none⟩) h⟩
theorem keep1 {w w' : World} {b o : Nat} {v : Value} (hb : Below w.heap.size w w') (h : w.cell? ⟨b, o, none⟩ = some v) : w'.cell? ⟨b, o, none⟩ = some v :=
 (hb.cell (p := ⟨b, o, none⟩) (World.block_lt_of_cell? w _ h)).trans h
theorem keep2 {w w' : World} {b0 o0 b1 o1 : Nat} {v0 v1 : Value} (h : w.cell? ⟨b0, o0, none⟩ = some v0 ∧ w.cell? ⟨b1, o1, none⟩ = some v1) (hb : Below w.heap.size w w') : w'.cell? ⟨b0, o0, none⟩ = some v0 ∧ w'.cell? ⟨b1, o1, none⟩ = some v1 :=
 ⟨keep1 hb h.1, keep1 hb h.2⟩
theorem keep4 {w w' : World} {b0 o0 b1 o1 b2 o2 b3 o3 : Nat} {v0 v1 v2 v3 : Value} (h : w.cell? ⟨b0, o0, none⟩ = some v0 ∧ w.cell? ⟨b1, o1, none⟩ = some v1 ∧ w.cell? ⟨b2, o2, none⟩ = some v2 ∧ w.cell? ⟨b3, o3, none⟩ = some v3) (hb : Below w.heap.size w w') : w'.cell? ⟨b0, o0, none⟩ = some v0 ∧ w'.cell? ⟨b1, o1, none⟩ = some v1 ∧ w'.cell? ⟨b2, o2, none⟩ = some v2 ∧ w'.cell? ⟨b3, o3, none⟩ = some v3 :=
 ⟨keep1 hb h.1, keep1 hb h.2.1, keep1 hb h.2.2.1, keep1 hb h.2.2.2⟩
theorem belowN {B : Nat} {a w : World} (h : Below B a w) (n : Nat) : Below B a (w.drewN n) := ⟨h.os, h.tape, h.output, h.size, h.block⟩
def IsW (h l n : Int) : Prop := -9223372036854775808 ≤ h ∧ h ≤ 9223372036854775807 ∧ 0 ≤ l ∧ l ≤ 18446744073709551615 ∧ n = h * 18446744073709551616 + l
def WR (n : Int) : Prop := -170141183460469231731687303715884105728 ≤ n ∧ n ≤ 170141183460469231731687303715884105727
def WRes (h l : Int) (ok : Bool) (n : Int) : Prop := (ok = true ∧ WR n ∧ IsW h l n) ∨ (ok = false ∧ ¬ WR n ∧ h = 0 ∧ l = 0)
theorem wres_add {h1 l1 h2 l2 a b : Int} (ha : IsW h1 l1 a) (hb : IsW h2 l2 b) (s : Int) (hs : s = wrap64 ((IntKind.u64.wrap h1 + IntKind.u64.wrap h2 + (l1 + l2) / 18446744073709551616) % 18446744073709551616)) :
  (¬ ((h1 < 0 ↔ h2 < 0) ∧ ¬ (s < 0 ↔ h2 < 0)) → WRes s ((l1 + l2) % 18446744073709551616) true (a + b)) ∧
  ((h1 < 0 ↔ h2 < 0) → ¬ (s < 0 ↔ h2 < 0) → WRes 0 0 false (a + b)) := by
 obtain ⟨a1, a2, a3, a4, a5⟩ := ha;obtain ⟨b1, b2, b3, b4, b5⟩ := hb;rw [IntKind.wrap_u64, IntKind.wrap_u64] at hs;unfold wrap64 at hs;refine ⟨fun h => .inl ⟨rfl, ?_, ?_⟩, fun h h' => .inr ⟨rfl, ?_, rfl, rfl⟩⟩
 ·unfold WR; omega
 ·unfold IsW; omega
 ·unfold WR; omega
theorem wres_sub {h1 l1 h2 l2 a b : Int} (ha : IsW h1 l1 a) (hb : IsW h2 l2 b) (c : Int) (hc : (c = 1 ∧ l1 < l2) ∨ (c = 0 ∧ ¬ l1 < l2)) (s : Int) (hs : s = wrap64 ((IntKind.u64.wrap h1 - IntKind.u64.wrap h2 - c) % 18446744073709551616)) :
  (¬ (¬ (h1 < 0 ↔ h2 < 0) ∧ ¬ (s < 0 ↔ h1 < 0)) → WRes s ((l1 - l2) % 18446744073709551616) true (a - b)) ∧
  (¬ (h1 < 0 ↔ h2 < 0) → ¬ (s < 0 ↔ h1 < 0) → WRes 0 0 false (a - b)) := by
 obtain ⟨a1, a2, a3, a4, a5⟩ := ha;obtain ⟨b1, b2, b3, b4, b5⟩ := hb;rw [IntKind.wrap_u64, IntKind.wrap_u64] at hs;unfold wrap64 at hs;refine ⟨fun h => .inl ⟨rfl, ?_, ?_⟩, fun h h' => .inr ⟨rfl, ?_, rfl, rfl⟩⟩
 ·unfold WR; omega
 ·unfold IsW; omega
 ·unfold WR; omega
def IsCmp (c a b : Int) : Prop := (c = -1 ∧ a < b) ∨ (c = 0 ∧ a = b) ∨ (c = 1 ∧ b < a)
def cmpI (a b : Int) : Int := if a < b then -1 else if a = b then 0 else 1
theorem IsCmp.eq {c a b : Int} (h : IsCmp c a b) : c = cmpI a b := by
 unfold IsCmp at h; unfold cmpI;split
 ·omega
 ·split <;> omega
theorem cmpI_lt {a b : Int} (h : a < b) : cmpI a b = -1 := by unfold cmpI; rw [if_pos h]
theorem cmpI_eq (a : Int) : cmpI a a = 0 := by unfold cmpI; rw [if_neg (by omega), if_pos rfl]
theorem cmpI_gt {a b : Int} (h : b < a) : cmpI a b = 1 := by unfold cmpI; rw [if_neg (by omega), if_neg (by omega)]
theorem cmpI_anti (a b : Int) : cmpI a b = -cmpI b a := by unfold cmpI; split <;> split <;> (try split) <;> (try split) <;> omega
theorem isCmp_lt {h1 l1 h2 l2 a b : Int} (ha : IsW h1 l1 a) (hb : IsW h2 l2 b) (h : h1 < h2 ∨ h1 = h2 ∧ l1 < l2) : IsCmp (-1) a b := by
 obtain ⟨a1, a2, a3, a4, a5⟩ := ha;obtain ⟨b1, b2, b3, b4, b5⟩ := hb;unfold IsCmp;omega
theorem isCmp_gt {h1 l1 h2 l2 a b : Int} (ha : IsW h1 l1 a) (hb : IsW h2 l2 b) (h : h2 < h1 ∨ h1 = h2 ∧ l2 < l1) : IsCmp 1 a b := by
 obtain ⟨a1, a2, a3, a4, a5⟩ := ha;obtain ⟨b1, b2, b3, b4, b5⟩ := hb;unfold IsCmp;omega
theorem isCmp_eq {h1 l1 a b : Int} (ha : IsW h1 l1 a) (hb : IsW h1 l1 b) : IsCmp 0 a b := by
 obtain ⟨a1, a2, a3, a4, a5⟩ := ha;obtain ⟨b1, b2, b3, b4, b5⟩ := hb;unfold IsCmp;omega
theorem isW_0 : IsW 0 0 0 := by unfold IsW; omega
theorem IsW.inj {h1 l1 h2 l2 a : Int} (ha : IsW h1 l1 a) (hb : IsW h2 l2 a) : h1 = h2 ∧ l1 = l2 := by
 obtain ⟨a1, a2, a3, a4, a5⟩ := ha;obtain ⟨b1, b2, b3, b4, b5⟩ := hb;omega
theorem IsW.wr {h l a : Int} (ha : IsW h l a) : WR a := by
 obtain ⟨a1, a2, a3, a4, a5⟩ := ha;unfold WR;omega
def IsSz (h l n : Int) : Prop := 0 ≤ h ∧ h ≤ 18446744073709551615 ∧ 0 ≤ l ∧ l ≤ 18446744073709551615 ∧ h * 18446744073709551616 + l = n
def absI (n : Int) : Int := if n < 0 then 0 - n else n
theorem isSz_pos {h1 l1 a : Int} (ha : IsW h1 l1 a) (h : 0 ≤ h1) : IsSz h1 l1 (absI a) ∧ h1 ≤ 9223372036854775808 := by
 obtain ⟨a1, a2, a3, a4, a5⟩ := ha;unfold IsSz absI;refine ⟨⟨by omega, by omega, by omega, by omega, ?_⟩, by omega⟩;rw [if_neg (by omega)];omega
theorem isSz_neg {h1 l1 a : Int} (ha : IsW h1 l1 a) (h : h1 < 0) (c : Int) (hc : (c = 1 ∧ 0 < l1) ∨ (c = 0 ∧ ¬ 0 < l1)) :
  IsSz ((-IntKind.u64.wrap h1 - c) % 18446744073709551616) (-l1 % 18446744073709551616) (absI a) ∧ (-IntKind.u64.wrap h1 - c) % 18446744073709551616 ≤ 9223372036854775808 := by
 obtain ⟨a1, a2, a3, a4, a5⟩ := ha;rw [IntKind.wrap_u64];unfold IsSz absI;refine ⟨⟨by omega, by omega, by omega, by omega, ?_⟩, by omega⟩;rw [if_pos (by omega)];omega
def WAns (n : Int) (w : World) (e : Ending) (w' : World) : Prop :=
 ∃ (h l : Int) (ok : Bool), e = .returned (.tuple #[.agg #[.int .i64 h, .int .u64 l], .bool ok]) ∧ WRes h l ok n ∧ Below w.heap.size w w'
theorem wres_up {h l n : Int} (hn : IsSz h l n) (p : h ≤ 9223372036854775807) : WRes h l true n := by
 obtain ⟨n1, n2, n3, n4, n5⟩ := hn;refine .inl ⟨rfl, ?_, ?_⟩
 ·unfold WR; omega
 ·unfold IsW; omega
theorem wres_up_no {h l n : Int} (hn : IsSz h l n) (p : 9223372036854775807 < h) : WRes 0 0 false n := by
 obtain ⟨n1, n2, n3, n4, n5⟩ := hn;refine .inr ⟨rfl, ?_, rfl, rfl⟩;unfold WR; omega
theorem wres_down {h l n : Int} (hn : IsSz h l n) (c : Int) (hc : (c = 1 ∧ 0 < l) ∨ (c = 0 ∧ ¬ 0 < l)) (s : Int) (hs : s = wrap64 ((-h - c) % 18446744073709551616)) :
  (s < 0 ∨ (s = 0 ∧ -l % 18446744073709551616 = 0) → WRes s (-l % 18446744073709551616) true (-n)) ∧ (0 ≤ s → ¬ (s = 0 ∧ -l % 18446744073709551616 = 0) → WRes 0 0 false (-n)) := by
 obtain ⟨n1, n2, n3, n4, n5⟩ := hn;unfold wrap64 at hs;refine ⟨fun h => .inl ⟨rfl, ?_, ?_⟩, fun h h' => .inr ⟨rfl, ?_, rfl, rfl⟩⟩
 ·unfold WR; omega
 ·unfold IsW; omega
 ·unfold WR; omega
end


section
open Go.RowKit
def IsT (t : Int) : Prop := 0 ≤ t ∧ t ≤ 18446744073709551615
def dif (t u : Int) : Int := (t - u + 9223372036854775808) % 18446744073709551616 - 9223372036854775808
def adv (t d : Int) : Int := (t + d) % 18446744073709551616
theorem dif_bd (t u : Int) : -9223372036854775808 ≤ dif t u ∧ dif t u ≤ 9223372036854775807 := by unfold dif; omega
theorem adv_T (t d : Int) : IsT (adv t d) := by unfold IsT adv; omega
theorem dif_self (t : Int) : dif t t = 0 := by unfold dif; omega
theorem dif_adv (t : Int) {d : Int} (h0 : -9223372036854775808 ≤ d) (h1 : d ≤ 9223372036854775807) : dif (adv t d) t = d := by unfold dif adv; omega
theorem adv_zero {t : Int} (h : IsT t) : adv t 0 = t := by unfold IsT at h; unfold adv; omega
theorem dif_sum {t u v : Int} (h0 : -9223372036854775808 ≤ dif t u + dif u v) (h1 : dif t u + dif u v ≤ 9223372036854775807) : dif t v = dif t u + dif u v := by unfold dif at *; omega
def IsP (R W : Int) : Prop := 1 ≤ W ∧ W ≤ 1048576 ∧ 0 ≤ R ∧ R < W
def AtOk (d w : Int) : Prop := 1 ≤ w ∧ w ≤ 1048576 ∧ -9223372036854775808 ≤ d / w ∧ d / w ≤ 9223372036854775807
theorem div_uniq {q b r a : Int} (h : q * b + r = a) (r0 : 0 ≤ r) (r1 : r < b) : q = a / b ∧ r = a % b := by
 have hb : 0 < b := by omega
 have e : a = r + b * q := by rw [Int.mul_comm b q]; omega
 constructor
 ·rw [e, Int.add_mul_ediv_left _ _ (by omega), Int.ediv_eq_zero_of_lt r0 r1]; omega
 ·rw [e, Int.add_mul_emod_self_left, Int.emod_eq_of_lt r0 r1]
def posC (t r w u s v : Int) : Int := if dif u t ≠ 0 then cmpI 0 (dif u t) else cmpI (r * v) (s * w)
end


section
open Go.RowKit
theorem quot_bd {a R W : Int} (h : IsP R W) (a0 : 0 ≤ a) (a1 : a ≤ 4611686018427387904) : 0 ≤ (a + R) / W ∧ (a + R) / W ≤ a + R := by
 obtain ⟨h1, h2, h3, h4⟩ := h;exact ⟨Int.ediv_nonneg (by omega) (by omega), Int.ediv_le_self _ (by omega)⟩
theorem quot_le {a R W : Int} (h : IsP R W) (a0 : 0 ≤ a) : (a + R) / W ≤ a := by
 obtain ⟨h1, h2, h3, h4⟩ := h;have e := Int.emod_add_mul_ediv (a + R) W;have e2 := Int.emod_nonneg (a + R) (show W ≠ 0 by omega);have h0 : 0 ≤ (a + R) / W := Int.ediv_nonneg (by omega) (by omega);by_cases c : a < (a + R) / W
 ·exfalso;have : W * (a + 1) ≤ W * ((a + R) / W) := Int.mul_le_mul_of_nonneg_left (by omega) (by omega);rw [Int.mul_add, Int.mul_one] at this;have g : 1 * a ≤ W * a := Int.mul_le_mul_of_nonneg_right h1 a0;omega
 ·omega
theorem move_ok {a R W : Int} (h : IsP R W) (a0 : 0 ≤ a) (a1 : a ≤ 4611686018427387904) : AtOk (a + R) W := by
 have := quot_le h a0;have := (quot_bd h a0 a1).1;obtain ⟨h1, h2, h3, h4⟩ := h;exact ⟨h1, h2, by omega, by omega⟩
theorem move_P {a R W : Int} (h : IsP R W) : IsP ((a + R) % W) W := by
 obtain ⟨h1, h2, h3, h4⟩ := h;exact ⟨h1, h2, Int.emod_nonneg _ (by omega), Int.emod_lt_of_pos _ (by omega)⟩
theorem move_since {T R W a : Int} (h : IsP R W) (a0 : 0 ≤ a) (a1 : a ≤ 2305843009213693952) : dif (adv T ((a + R) / W)) T = (a + R) / W := by
 have := quot_le h a0;have := (quot_bd h a0 (by omega)).1;exact dif_adv T (by omega) (by omega)
end


section
open Go.RowKit
def hiW (a : Int) : Int := a / 18446744073709551616
def loW (a : Int) : Int := a % 18446744073709551616
theorem isW_of {a : Int} (h : WR a) : IsW (hiW a) (loW a) a := by unfold WR at h; unfold IsW hiW loW; omega
theorem IsW.words {h l a : Int} (hw : IsW h l a) : h = hiW a ∧ l = loW a := IsW.inj hw (isW_of hw.wr)
abbrev wv (a : Int) : Value := .agg #[.int .i64 (hiW a), .int .u64 (loW a)]
theorem hiW0 : hiW 0 = 0 := by decide
theorem loW0 : loW 0 = 0 := by decide
def okW (a : Int) : Bool := decide (-170141183460469231731687303715884105728 ≤ a ∧ a ≤ 170141183460469231731687303715884105727)
theorem okW_iff {a : Int} : okW a = true ↔ WR a := by unfold okW WR; rw [decide_eq_true_eq]
def clW (a : Int) : Int := if okW a = true then a else 0
theorem clW_ok {a : Int} (h : okW a = true) : clW a = a := by unfold clW; rw [if_pos h]
theorem clW_no {a : Int} (h : okW a = false) : clW a = 0 := by unfold clW; rw [if_neg (by rw [h]; decide)]
theorem wres_F {h l : Int} {ok : Bool} {n : Int} (hr : WRes h l ok n) : h = hiW (clW n) ∧ l = loW (clW n) ∧ ok = okW n := by
 rcases hr with ⟨rfl, h1, h2⟩ | ⟨rfl, h1, rfl, rfl⟩
 ·have hk := okW_iff.2 h1;rw [clW_ok hk, hk];exact ⟨h2.words.1, h2.words.2, rfl⟩
 ·have hk : okW n = false := by cases h : okW n; rfl; exact absurd (okW_iff.1 h) h1
  rw [clW_no hk, hk];exact ⟨hiW0.symm, loW0.symm, rfl⟩
abbrev P3 := Int × Int × Int
abbrev pv (p : P3) : Value := .agg #[.int .u64 p.1, .int .u32 p.2.1, .int .u32 p.2.2]
def pR (p : P3) : Bool := decide (1 ≤ p.2.2 ∧ p.2.2 ≤ 1048576) && decide (p.2.1 < p.2.2)
def PIn (p : P3) : Prop := (0 ≤ p.1 ∧ p.1 ≤ 18446744073709551615) ∧ (0 ≤ p.2.1 ∧ p.2.1 ≤ 4294967295) ∧ (0 ≤ p.2.2 ∧ p.2.2 ≤ 4294967295)
def pD (base : Int) (p : P3) : Int := dif p.1 base * p.2.2 + p.2.1
theorem pR_isP {p : P3} (hp : PIn p) (h : pR p = true) : IsP p.2.1 p.2.2 := by
 unfold pR at h;simp only [Bool.and_eq_true, decide_eq_true_eq] at h;exact ⟨h.1.1, h.1.2, hp.2.1.1, h.2⟩
theorem mulBd {d v M V : Int} (h0 : -M ≤ d) (h1 : d ≤ M) (v0 : 0 ≤ v) (v1 : v ≤ V) (hM : 0 ≤ M) : -(M * V) ≤ d * v ∧ d * v ≤ M * V := by
 have a := Int.mul_le_mul_of_nonneg_right h0 v0;have b := Int.mul_le_mul_of_nonneg_right h1 v0;have c := Int.mul_le_mul_of_nonneg_left v1 hM;rw [Int.neg_mul] at a;omega
theorem pD_bd (base : Int) {p : P3} (hp : PIn p) : -39614081257132168796771975168 ≤ pD base p ∧ pD base p ≤ 39614081257132168800000000000 := by
 obtain ⟨d0, d1⟩ := dif_bd p.1 base;have := mulBd (M := 9223372036854775808) (by omega) (by omega) hp.2.2.1 hp.2.2.2 (by decide);obtain ⟨r0, r1⟩ := hp.2.1;unfold pD; omega
theorem pD_bdR (base : Int) {p : P3} (hp : PIn p) (h : pR p = true) : -9671406556917033397649408 ≤ pD base p ∧ pD base p ≤ 9671406556917033397649408 + 1048576 := by
 obtain ⟨d0, d1⟩ := dif_bd p.1 base;obtain ⟨v0, v1, r0, r1⟩ := pR_isP hp h;have := mulBd (M := 9223372036854775808) (V := 1048576) (by omega) (by omega) (by omega) v1 (by decide);unfold pD; omega
structure Mu where
 (b a w n : Int)
abbrev Mu.val (m : Mu) : Value := .agg #[.int .u64 m.b, .int .i64 (hiW m.a), .int .u64 (loW m.a), .int .u64 m.w, .int .i64 m.n]
def Mu.cells (m : Mu) : List Value := [.int .u64 m.b, .int .i64 (hiW m.a), .int .u64 (loW m.a), .int .u64 m.w, .int .i64 m.n]
def Mu.In (m : Mu) : Prop := (0 ≤ m.b ∧ m.b ≤ 18446744073709551615) ∧ WR m.a ∧ (0 ≤ m.w ∧ m.w ≤ 18446744073709551615) ∧ (-9223372036854775808 ≤ m.n ∧ m.n ≤ 9223372036854775807)
def Mu.right (m : Mu) : Bool := if m.n = 0 then decide (m.a = 0) && decide (m.w = 0) else decide (1 ≤ m.n ∧ m.n ≤ 32) && decide (m.n ≤ m.w ∧ m.w ≤ m.n * 1048576)
abbrev Mu.no : Mu := ⟨0, 0, 0, 0⟩
theorem Mu.no_in : Mu.no.In := by unfold Mu.In WR; refine ⟨⟨?_, ?_⟩, ⟨?_, ?_⟩, ⟨?_, ?_⟩, ?_, ?_⟩ <;> decide
def Mu.addOk (m : Mu) (p : P3) : Bool := m.right && pR p && decide (m.n < 32) && okW (m.a + pD m.b p)
def Mu.add (m : Mu) (p : P3) : Bool × Mu := if m.addOk p = true then (true, ⟨m.b, m.a + pD m.b p, m.w + p.2.2, m.n + 1⟩) else (false, Mu.no)
def Mu.left (m : Mu) (p : P3) : Mu := ⟨m.b, if m.n = 1 then 0 else m.a - pD m.b p, m.w - p.2.2, m.n - 1⟩
def Mu.takeOk (m : Mu) (p : P3) : Bool := m.right && pR p && decide (m.n ≠ 0) && (decide (m.n = 1) || okW (m.a - pD m.b p)) && decide (p.2.2 ≤ m.w) && (m.left p).right
def Mu.take (m : Mu) (p : P3) : Bool × Mu := if m.takeOk p = true then (true, m.left p) else (false, Mu.no)
def Mu.rebOk (m : Mu) (t : Int) : Bool := m.right && okW (m.a - dif t m.b * m.w)
def Mu.reb (m : Mu) (t : Int) : Bool × Mu := if m.rebOk t = true then (true, ⟨t, m.a - dif t m.b * m.w, m.w, m.n⟩) else (false, Mu.no)
def smI (x : Int) : Bool := decide (-9223372036854775808 ≤ x ∧ x ≤ 9223372036854775807)
def Mu.flOk (m : Mu) : Bool := m.right && decide (m.n ≠ 0) && smI (m.a / m.w)
def Mu.fl (m : Mu) : Bool × Int := if m.flOk = true then (true, adv m.b (m.a / m.w)) else (false, 0)
def sumD (base : Int) (l : List P3) : Int := (l.map (pD base)).sum
def sumW (l : List P3) : Int := (l.map fun p => p.2.2).sum
theorem sumD_cons (base : Int) (p : P3) (l : List P3) : sumD base (p :: l) = pD base p + sumD base l := by simp [sumD]
theorem sumW_cons (p : P3) (l : List P3) : sumW (p :: l) = p.2.2 + sumW l := by simp [sumW]
theorem sumD_app (base : Int) (l k : List P3) : sumD base (l ++ k) = sumD base l + sumD base k := by simp [sumD]
theorem sumW_app (l k : List P3) : sumW (l ++ k) = sumW l + sumW k := by simp [sumW]
theorem sumD_nil (base : Int) : sumD base [] = 0 := rfl
theorem sumW_nil : sumW [] = 0 := rfl
theorem sumW_bd {l : List P3} (hr : ∀ p ∈ l, IsP p.2.1 p.2.2) : (l.length : Int) ≤ sumW l ∧ sumW l ≤ l.length * 1048576 := by
 induction l with
 | nil => exact ⟨by decide, by decide⟩
 | cons p l ih =>
  obtain ⟨h0, h1⟩ := ih (fun q hq => hr q (by simp [hq]));obtain ⟨v0, v1, _, _⟩ := hr p (by simp);rw [sumW_cons, List.length_cons]
  push_cast
  omega
theorem sumD_bd (base : Int) {l : List P3} (hr : ∀ p ∈ l, pR p = true ∧ PIn p) : -(l.length * 9671406556917033397649408) ≤ sumD base l ∧ sumD base l ≤ l.length * 9671406556917033398697984 := by
 induction l with
 | nil => rw [sumD_nil]; exact ⟨by simp, by simp⟩
 | cons p l ih =>
  obtain ⟨h0, h1⟩ := ih (fun q hq => hr q (by simp [hq]));obtain ⟨v0, v1⟩ := pD_bdR base (hr p (by simp)).2 (hr p (by simp)).1;rw [sumD_cons, List.length_cons]
  push_cast
  omega
def Mu.sums (base : Int) (l : List P3) : Mu := ⟨base, sumD base l, sumW l, l.length⟩
theorem sums_wr (base : Int) {l : List P3} (hr : ∀ p ∈ l, pR p = true ∧ PIn p) (hn : l.length ≤ 40) : WR (sumD base l) := by
 have := sumD_bd base hr;unfold WR; omega
theorem sums_right (base : Int) {l : List P3} (hr : ∀ p ∈ l, pR p = true ∧ PIn p) (hn : l.length ≤ 32) : (Mu.sums base l).right = true := by
 have hw := sumW_bd (l := l) (fun p hp => pR_isP (hr p hp).2 (hr p hp).1);unfold Mu.right Mu.sums;split
 ·rename_i h
  have : l = [] := List.eq_nil_of_length_eq_zero (by simpa using h);subst this;rfl
 ·rename_i h
  simp only at h ⊢;simp only [Bool.and_eq_true, decide_eq_true_eq];omega
theorem sums_add (base : Int) {l : List P3} {p : P3} (hr : ∀ q ∈ l, pR q = true ∧ PIn q) (hp : pR p = true ∧ PIn p) (hn : l.length < 32) : (Mu.sums base l).add p = (true, Mu.sums base (l ++ [p])) := by
 have hr2 : ∀ q ∈ l ++ [p], pR q = true ∧ PIn q := fun q hq => by
  rcases List.mem_append.1 hq with h | h
  ·exact hr q h
  ·simp at h; subst h; exact hp
 have h1 := sums_right base hr (by omega);have h2 := sums_wr base hr2 (by simp; omega);have e : sumD base (l ++ [p]) = sumD base l + pD base p := by rw [sumD_app, sumD_cons, sumD_nil]; omega
 have e2 : sumW (l ++ [p]) = sumW l + p.2.2 := by rw [sumW_app, sumW_cons, sumW_nil]; omega
 rw [e] at h2;have hok : (Mu.sums base l).addOk p = true := by
  unfold Mu.addOk;rw [h1, hp.1];simp only [Bool.true_and, Bool.and_eq_true, decide_eq_true_eq];exact ⟨by unfold Mu.sums; simp; omega, okW_iff.2 h2⟩
 unfold Mu.add;rw [if_pos hok];unfold Mu.sums;rw [e, e2];simp
def Mu.ovOk (m : Mu) (p : P3) : Bool := m.right && decide (m.n ≠ 0) && pR p && okW (m.a * p.2.2) && okW (m.a * p.2.2 - pD m.b p * m.w)
def Mu.ov (m : Mu) (p : P3) : Int := m.a * p.2.2 - pD m.b p * m.w
def Mu.over (m : Mu) (p : P3) : Bool × Int := if m.ovOk p = true then (true, m.ov p) else (false, 0)
def Mu.lag (m : Mu) (p : P3) : Bool × Int := if m.ovOk p = true then (true, m.ov p / m.w) else (false, 0)
def Mu.elig (m : Mu) (p : P3) : Bool := (m.over p).1 && decide (0 ≤ cmpI (m.over p).2 0)
end


section
open Go.RowKit
theorem dif_adv_r {x t b : Int} (h0 : -9223372036854775808 ≤ dif x t - b) (h1 : dif x t - b ≤ 9223372036854775807) : dif x (adv t b) = dif x t - b := by unfold dif adv at *; omega
theorem sum_lo {t lo : Int} {l : List P3} (h : ∀ p ∈ l, pR p = true ∧ PIn p) (hl : ∀ p ∈ l, lo ≤ dif p.1 t) : lo * sumW l ≤ sumD t l := by
 induction l with
 | nil => simp [sumW, sumD]
 | cons p l ih =>
  have h1 := ih (fun q hq => h q (by simp [hq])) (fun q hq => hl q (by simp [hq]));obtain ⟨v0, v1, r0, r1⟩ := pR_isP (h p (by simp)).2 (h p (by simp)).1;have h2 := Int.mul_le_mul_of_nonneg_right (hl p (by simp)) (show 0 ≤ p.2.2 by omega);rw [sumW_cons, sumD_cons, Int.mul_add];unfold pD;omega
theorem sum_hi {t hi : Int} {l : List P3} (h : ∀ p ∈ l, pR p = true ∧ PIn p) (hl : ∀ p ∈ l, dif p.1 t ≤ hi) : sumD t l + l.length ≤ (hi + 1) * sumW l := by
 induction l with
 | nil => simp [sumW, sumD]
 | cons p l ih =>
  have h1 := ih (fun q hq => h q (by simp [hq])) (fun q hq => hl q (by simp [hq]));obtain ⟨v0, v1, r0, r1⟩ := pR_isP (h p (by simp)).2 (h p (by simp)).1;have h2 := Int.mul_le_mul_of_nonneg_right (hl p (by simp)) (show 0 ≤ p.2.2 by omega);rw [sumW_cons, sumD_cons, Int.mul_add, List.length_cons, Int.add_mul hi 1 p.2.2];unfold pD
  push_cast
  omega
theorem fl_lo {lo A W : Int} (hW : 0 < W) (h : lo * W ≤ A) : lo ≤ A / W := Int.le_ediv_of_mul_le hW h
theorem fl_hi {hi A W : Int} (hW : 0 < W) (h : A < hi * W) : A / W < hi := Int.ediv_lt_of_lt_mul hW h
theorem sumW_pos {l : List P3} (h : ∀ p ∈ l, pR p = true ∧ PIn p) (hn : 0 < l.length) : 0 < sumW l := by
 have := sumW_bd (l := l) (fun p hp => pR_isP (h p hp).2 (h p hp).1); omega
theorem fl_near {t lo hi : Int} {l : List P3} (h : ∀ p ∈ l, pR p = true ∧ PIn p) (hn : 0 < l.length) (h0 : ∀ p ∈ l, lo ≤ dif p.1 t) (h1 : ∀ p ∈ l, dif p.1 t ≤ hi) : lo ≤ sumD t l / sumW l ∧ sumD t l / sumW l ≤ hi := by
 have hW := sumW_pos h hn;have a := fl_lo hW (sum_lo h h0);have b := fl_hi (A := sumD t l) (hi := hi + 1) hW (by have := sum_hi (t := t) (hi := hi) h h1; omega);exact ⟨a, by omega⟩
theorem div_less (A b : Int) {W : Int} (hW : 0 < W) : (A - b * W) / W = A / W - b := by
 rw [Int.sub_eq_add_neg, ← Int.neg_mul, Int.add_mul_ediv_right _ _ (by omega)]; omega
def shP (d : Int) (p : P3) : P3 := (IntKind.u64.wrap (p.1 + d), p.2.1, p.2.2)
theorem dif_wrapM (t u d : Int) : dif (IntKind.u64.wrap (t + d)) (IntKind.u64.wrap (u + d)) = dif t u := by
 rw [IntKind.wrap_u64, IntKind.wrap_u64]; unfold dif; omega
theorem pD_sh (base d : Int) (p : P3) : pD (IntKind.u64.wrap (base + d)) (shP d p) = pD base p := by unfold pD shP; rw [dif_wrapM]
theorem sumD_sh (base d : Int) : ∀ l : List P3, sumD (IntKind.u64.wrap (base + d)) (l.map (shP d)) = sumD base l
 | [] => rfl
 | p :: l => by rw [List.map_cons, sumD_cons, sumD_cons, pD_sh, sumD_sh base d l]
theorem sumW_sh (d : Int) : ∀ l : List P3, sumW (l.map (shP d)) = sumW l
 | [] => rfl
 | p :: l => by rw [List.map_cons, sumW_cons, sumW_cons, sumW_sh d l]; rfl
theorem adv_wrapM (b d q : Int) : adv (IntKind.u64.wrap (b + d)) q = IntKind.u64.wrap (adv b q + d) := by
 rw [IntKind.wrap_u64, IntKind.wrap_u64]; unfold adv; omega
end


section
open Go.RowKit
theorem okW_bd {a : Int} (h0 : -170141183460469231731687303715884105728 ≤ a) (h1 : a ≤ 170141183460469231731687303715884105727) : okW a = true := okW_iff.2 ⟨h0, h1⟩
theorem right_w {m : Mu} (h : m.right = true) (hn : m.n ≠ 0) : (1 ≤ m.n ∧ m.n ≤ 32) ∧ m.n ≤ m.w ∧ m.w ≤ 33554432 := by
 unfold Mu.right at h;rw [if_neg hn] at h;simp only [Bool.and_eq_true, decide_eq_true_eq] at h;omega
theorem right_bd {m : Mu} (h : m.right = true) : (0 ≤ m.n ∧ m.n ≤ 32) ∧ 0 ≤ m.w ∧ m.w ≤ 33554432 := by
 unfold Mu.right at h;split at h
 ·simp only [Bool.and_eq_true, decide_eq_true_eq] at h; omega
 ·simp only [Bool.and_eq_true, decide_eq_true_eq] at h; omega
theorem ov_yes {m : Mu} {p : P3} (hm : m.right = true) (hn : m.n ≠ 0) (hp : pR p = true ∧ PIn p) (a0 : -1267650600228229401496703205376 ≤ m.a) (a1 : m.a ≤ 1267650600228229401496703205376) : m.ovOk p = true := by
 obtain ⟨v0, v1, r0, r1⟩ := pR_isP hp.2 hp.1;obtain ⟨_, w0, w1⟩ := right_w hm hn;have e1 := mulBd (V := 1048576) a0 a1 (show 0 ≤ p.2.2 by omega) v1 (by decide);have e2 := pD_bdR m.b hp.2 hp.1;have e3 := mulBd (d := pD m.b p) (M := 9671406556917033398697984) (V := 33554432) (by omega) (by omega) (show 0 ≤ m.w by omega) w1 (by decide);unfold Mu.ovOk;rw [hm, hp.1];simp only [Bool.true_and, Bool.and_true, Bool.and_eq_true, decide_eq_true_eq];exact ⟨⟨hn, okW_bd (by omega) (by omega)⟩, okW_bd (by omega) (by omega)⟩
theorem sums_a (t : Int) {l : List P3} (hr : ∀ p ∈ l, pR p = true ∧ PIn p) (hn : l.length ≤ 40) : -1267650600228229401496703205376 ≤ sumD t l ∧ sumD t l ≤ 1267650600228229401496703205376 := by
 have := sumD_bd t hr; omega
theorem sums_n {t : Int} {l : List P3} (h0 : 0 < l.length) : (Mu.sums t l).n ≠ 0 := by
 show ((l.length : Nat) : Int) ≠ 0
 omega
theorem sums_ov {t : Int} {l : List P3} {p : P3} (hr : ∀ p ∈ l, pR p = true ∧ PIn p) (hn : l.length ≤ 32) (h0 : 0 < l.length) (hp : pR p = true ∧ PIn p) : (Mu.sums t l).ovOk p = true :=
 ov_yes (sums_right t hr hn) (sums_n h0) hp (sums_a t hr (by omega)).1 (sums_a t hr (by omega)).2
def atOk (d v : Int) : Bool := decide (1 ≤ v ∧ v ≤ 1048576) && smI (d / v)
def atP (base d v : Int) : P3 := if atOk d v = true then (adv base (d / v), d % v, v) else (0, 0, 0)
theorem atOk_iff {d v : Int} : atOk d v = true ↔ AtOk d v := by
 unfold atOk AtOk smI;simp only [Bool.and_eq_true, decide_eq_true_eq]
 constructor
 ·intro h; exact ⟨h.1.1, h.1.2, h.2⟩
 ·intro h; exact ⟨⟨h.1, h.2.1⟩, h.2.2⟩
end


section
open Go.RowKit
theorem split_at {l : List P3} {k : Nat} (hk : k < l.length) : l = l.take k ++ l.getD k (0, 0, 0) :: l.drop (k + 1) := by
 have e : l.getD k (0, 0, 0) = l[k] := by simp [List.getD, hk]
 rw [e, List.getElem_cons_drop hk, List.take_append_drop]
theorem sumD_split (t : Int) {l : List P3} {k : Nat} (hk : k < l.length) : sumD t l = sumD t (l.take k ++ l.drop (k + 1)) + pD t (l.getD k (0, 0, 0)) := by
 have := congrArg (sumD t) (split_at hk);rw [sumD_app, sumD_cons] at this;rw [sumD_app]; omega
theorem sumW_split {l : List P3} {k : Nat} (hk : k < l.length) : sumW l = sumW (l.take k ++ l.drop (k + 1)) + (l.getD k (0, 0, 0)).2.2 := by
 have := congrArg sumW (split_at hk);rw [sumW_app, sumW_cons] at this;rw [sumW_app]; omega
theorem len_split {l : List P3} {k : Nat} (hk : k < l.length) : (l.take k ++ l.drop (k + 1)).length = l.length - 1 := by simp; omega
theorem mem_split {l : List P3} {k : Nat} {q : P3} (h : q ∈ l.take k ++ l.drop (k + 1)) : q ∈ l := by
 rcases List.mem_append.1 h with h | h
 ·exact List.mem_of_mem_take h
 ·exact List.mem_of_mem_drop h
theorem getD_mem {l : List P3} {k : Nat} (hk : k < l.length) : l.getD k (0, 0, 0) ∈ l := by
 have e : l.getD k (0, 0, 0) = l[k] := by simp [List.getD, hk]
 rw [e]; exact List.getElem_mem hk
theorem sums_take (t : Int) {l : List P3} {k : Nat} (hr : ∀ p ∈ l, pR p = true ∧ PIn p) (hk : k < l.length) (hn : l.length ≤ 32) :
  (Mu.sums t l).take (l.getD k (0, 0, 0)) = (true, Mu.sums t (l.take k ++ l.drop (k + 1))) := by
 have hr2 : ∀ p ∈ l.take k ++ l.drop (k + 1), pR p = true ∧ PIn p := fun q hq => hr q (mem_split hq)
 have hp := hr _ (getD_mem hk);have e1 := sumD_split t hk;have e2 := sumW_split hk;have e3 := len_split hk;have h1 := sums_right t hr hn;have h2 := sums_right t hr2 (by omega);have h3 := sums_wr t hr2 (by omega);have hw := sumW_bd (l := l.take k ++ l.drop (k + 1)) (fun p hp => pR_isP (hr2 p hp).2 (hr2 p hp).1);have hl : (Mu.sums t l).left (l.getD k (0, 0, 0)) = Mu.sums t (l.take k ++ l.drop (k + 1)) := by
  unfold Mu.left Mu.sums;simp only;have hn1 : (l.length : Int) - 1 = ((l.take k ++ l.drop (k + 1)).length : Nat) := by omega
  rw [hn1];have hd : (if (l.length : Int) = 1 then 0 else sumD t l - pD t (l.getD k (0, 0, 0))) = sumD t (l.take k ++ l.drop (k + 1)) := by
   split
   ·have : l.take k ++ l.drop (k + 1) = [] := List.eq_nil_of_length_eq_zero (by omega);rw [this]; rfl
   ·omega
  rw [hd, show sumW l - (l.getD k (0, 0, 0)).2.2 = sumW (l.take k ++ l.drop (k + 1)) by omega]
 have hok : (Mu.sums t l).takeOk (l.getD k (0, 0, 0)) = true := by
  unfold Mu.takeOk;rw [hl, h1, h2, hp.1];have ea : (Mu.sums t l).a - pD (Mu.sums t l).b (l.getD k (0, 0, 0)) = sumD t (l.take k ++ l.drop (k + 1)) := by
   show sumD t l - pD t _ = _
   omega
  rw [ea, okW_iff.2 h3];simp only [Bool.true_and, Bool.and_true, Bool.or_true, Bool.and_eq_true, decide_eq_true_eq];refine ⟨?_, ?_⟩
  ·show ((l.length : Nat) : Int) ≠ 0
   omega
  ·show (l.getD k (0, 0, 0)).2.2 ≤ sumW l
   omega
 unfold Mu.take;rw [if_pos hok, hl]
def sumO (m : Mu) (l : List P3) : Int := (l.map m.ov).sum
theorem sumO_eq (m : Mu) : ∀ l : List P3, sumO m l = m.a * sumW l - sumD m.b l * m.w
 | [] => by simp [sumO, sumW, sumD]
 | p :: l => by
  have := sumO_eq m l;have e : sumO m (p :: l) = m.ov p + sumO m l := by simp [sumO]
  rw [e, this, sumW_cons, sumD_cons];unfold Mu.ov;rw [Int.mul_add, Int.add_mul];omega
theorem sumO_zero (t : Int) (l : List P3) : sumO (Mu.sums t l) l = 0 := by
 rw [sumO_eq]
 show sumD t l * sumW l - sumD t l * sumW l = 0
 omega
theorem some_up {m : Mu} : ∀ {l : List P3}, 0 < l.length → 0 ≤ sumO m l → ∃ p ∈ l, 0 ≤ m.ov p
 | [p], _, h => ⟨p, by simp, by simpa [sumO] using h⟩
 | p :: q :: l, _, h => by
  by_cases c : 0 ≤ m.ov p
  ·exact ⟨p, by simp, c⟩
  ·have e : sumO m (p :: q :: l) = m.ov p + sumO m (q :: l) := by simp [sumO]
   obtain ⟨r, hr, h2⟩ := some_up (m := m) (l := q :: l) (by simp) (by omega);exact ⟨r, by simp at hr ⊢; exact Or.inr hr, h2⟩
theorem sums_in {base : Int} {l : List P3} (hb : IsT base) (hr : ∀ p ∈ l, pR p = true ∧ PIn p) (hn : l.length ≤ 32) : (Mu.sums base l).In := by
 have h1 := sums_wr base hr (by omega);have h2 := sumW_bd (l := l) (fun p hp => pR_isP (hr p hp).2 (hr p hp).1);refine ⟨hb, h1, ⟨?_, ?_⟩, ?_, ?_⟩
 ·show 0 ≤ sumW l; omega
 ·show sumW l ≤ _; omega
 ·show _ ≤ ((l.length : Nat) : Int); omega
 ·show ((l.length : Nat) : Int) ≤ _; omega
end

end Go.Proofs.YtjchnkmolhgpmaaGreatDoor

/- Texts of AccountNone's proof, together. -/
import Derived.WalkKit
import Derived.Deep.Draws
namespace Go.Proofs.YtlkhkhdacgeicaaGreatDoor
/- Plain facts on wide numbers: nothing of the program. -/
section
open Go.RowKit
theorem hid {p : Prop} (h : p) : RowKit.Hid p := h
/-- What was there reads as it did, in the walk's own spelling. -/
theorem bcell {B : Nat} {W w1 : World} (hb : Below B W w1) : (∀ b o, b < B → w1.cell? ⟨b, o, none⟩ = W.cell? ⟨b, o, none⟩) ∧ (∀ b o, b < B → w1.frozen? ⟨b, o, none⟩ = W.frozen? ⟨b, o, none⟩) :=
  ⟨fun b o h => hb.cell (p := ⟨b, o, none⟩) h, fun b o h => hb.frozen (p := ⟨b, o, none⟩) h⟩
/-- A cell that is there is there behind a call that writes nothing that was there. -/
theorem keep1 {w w' : World} {b o : Nat} {v : Value} (hb : Below w.heap.size w w') (h : w.cell? ⟨b, o, none⟩ = some v) : w'.cell? ⟨b, o, none⟩ = some v :=
  (hb.cell (p := ⟨b, o, none⟩) (World.block_lt_of_cell? w _ h)).trans h
theorem keep2 {w w' : World} {b0 o0 b1 o1 : Nat} {v0 v1 : Value} (h : w.cell? ⟨b0, o0, none⟩ = some v0 ∧ w.cell? ⟨b1, o1, none⟩ = some v1) (hb : Below w.heap.size w w') : w'.cell? ⟨b0, o0, none⟩ = some v0 ∧ w'.cell? ⟨b1, o1, none⟩ = some v1 :=
  ⟨keep1 hb h.1, keep1 hb h.2⟩
theorem keep4 {w w' : World} {b0 o0 b1 o1 b2 o2 b3 o3 : Nat} {v0 v1 v2 v3 : Value} (h : w.cell? ⟨b0, o0, none⟩ = some v0 ∧ w.cell? ⟨b1, o1, none⟩ = some v1 ∧ w.cell? ⟨b2, o2, none⟩ = some v2 ∧ w.cell? ⟨b3, o3, none⟩ = some v3) (hb : Below w.heap.size w w') : w'.cell? ⟨b0, o0, none⟩ = some v0 ∧ w'.cell? ⟨b1, o1, none⟩ = some v1 ∧ w'.cell? ⟨b2, o2, none⟩ = some v2 ∧ w'.cell? ⟨b3, o3, none⟩ = some v3 :=
  ⟨keep1 hb h.1, keep1 hb h.2.1, keep1 hb h.2.2.1, keep1 hb h.2.2.2⟩
theorem belowN {B : Nat} {a w : World} (h : Below B a w) (n : Nat) : Below B a (w.drewN n) := ⟨h.os, h.tape, h.output, h.size, h.block⟩
/-- Two words that are the number n. -/
def IsW (h l n : Int) : Prop := -9223372036854775808 ≤ h ∧ h ≤ 9223372036854775807 ∧ 0 ≤ l ∧ l ≤ 18446744073709551615 ∧ n = h * 18446744073709551616 + l
/-- In the range of the wide numbers. -/
def WR (n : Int) : Prop := -170141183460469231731687303715884105728 ≤ n ∧ n ≤ 170141183460469231731687303715884105727
/-- An answer: the number n, true; or nothing, false, where n is no wide number. -/
def WRes (h l : Int) (ok : Bool) (n : Int) : Prop := (ok = true ∧ WR n ∧ IsW h l n) ∨ (ok = false ∧ ¬ WR n ∧ h = 0 ∧ l = 0)
/-- The sum of two: its words; whether it is a wide number is told by the signs. -/
theorem wres_add {h1 l1 h2 l2 a b : Int} (ha : IsW h1 l1 a) (hb : IsW h2 l2 b) (s : Int) (hs : s = wrap64 ((IntKind.u64.wrap h1 + IntKind.u64.wrap h2 + (l1 + l2) / 18446744073709551616) % 18446744073709551616)) :
    (¬ ((h1 < 0 ↔ h2 < 0) ∧ ¬ (s < 0 ↔ h2 < 0)) → WRes s ((l1 + l2) % 18446744073709551616) true (a + b)) ∧
    ((h1 < 0 ↔ h2 < 0) → ¬ (s < 0 ↔ h2 < 0) → WRes 0 0 false (a + b)) := by
  obtain ⟨a1, a2, a3, a4, a5⟩ := ha
  obtain ⟨b1, b2, b3, b4, b5⟩ := hb
  rw [IntKind.wrap_u64, IntKind.wrap_u64] at hs
  unfold wrap64 at hs
  refine ⟨fun h => .inl ⟨rfl, ?_, ?_⟩, fun h h' => .inr ⟨rfl, ?_, rfl, rfl⟩⟩
  · unfold WR; omega
  · unfold IsW; omega
  · unfold WR; omega
/-- The difference of two. -/
theorem wres_sub {h1 l1 h2 l2 a b : Int} (ha : IsW h1 l1 a) (hb : IsW h2 l2 b) (c : Int) (hc : (c = 1 ∧ l1 < l2) ∨ (c = 0 ∧ ¬ l1 < l2)) (s : Int) (hs : s = wrap64 ((IntKind.u64.wrap h1 - IntKind.u64.wrap h2 - c) % 18446744073709551616)) :
    (¬ (¬ (h1 < 0 ↔ h2 < 0) ∧ ¬ (s < 0 ↔ h1 < 0)) → WRes s ((l1 - l2) % 18446744073709551616) true (a - b)) ∧
    (¬ (h1 < 0 ↔ h2 < 0) → ¬ (s < 0 ↔ h1 < 0) → WRes 0 0 false (a - b)) := by
  obtain ⟨a1, a2, a3, a4, a5⟩ := ha
  obtain ⟨b1, b2, b3, b4, b5⟩ := hb
  rw [IntKind.wrap_u64, IntKind.wrap_u64] at hs
  unfold wrap64 at hs
  refine ⟨fun h => .inl ⟨rfl, ?_, ?_⟩, fun h h' => .inr ⟨rfl, ?_, rfl, rfl⟩⟩
  · unfold WR; omega
  · unfold IsW; omega
  · unfold WR; omega
/-- -1, 0, 1: below, the same, above. -/
def IsCmp (c a b : Int) : Prop := (c = -1 ∧ a < b) ∨ (c = 0 ∧ a = b) ∨ (c = 1 ∧ b < a)
/-- -1, 0, 1, as a function. -/
def cmpI (a b : Int) : Int := if a < b then -1 else if a = b then 0 else 1
theorem IsCmp.eq {c a b : Int} (h : IsCmp c a b) : c = cmpI a b := by
  unfold IsCmp at h; unfold cmpI
  split
  · omega
  · split <;> omega
theorem cmpI_lt {a b : Int} (h : a < b) : cmpI a b = -1 := by unfold cmpI; rw [if_pos h]
theorem cmpI_eq (a : Int) : cmpI a a = 0 := by unfold cmpI; rw [if_neg (by omega), if_pos rfl]
theorem cmpI_gt {a b : Int} (h : b < a) : cmpI a b = 1 := by unfold cmpI; rw [if_neg (by omega), if_neg (by omega)]
theorem isCmp_lt {h1 l1 h2 l2 a b : Int} (ha : IsW h1 l1 a) (hb : IsW h2 l2 b) (h : h1 < h2 ∨ h1 = h2 ∧ l1 < l2) : IsCmp (-1) a b := by
  obtain ⟨a1, a2, a3, a4, a5⟩ := ha
  obtain ⟨b1, b2, b3, b4, b5⟩ := hb
  unfold IsCmp
  omega
theorem isCmp_gt {h1 l1 h2 l2 a b : Int} (ha : IsW h1 l1 a) (hb : IsW h2 l2 b) (h : h2 < h1 ∨ h1 = h2 ∧ l2 < l1) : IsCmp 1 a b := by
  obtain ⟨a1, a2, a3, a4, a5⟩ := ha
  obtain ⟨b1, b2, b3, b4, b5⟩ := hb
  unfold IsCmp
  omega
theorem isCmp_eq {h1 l1 a b : Int} (ha : IsW h1 l1 a) (hb : IsW h1 l1 b) : IsCmp 0 a b := by
  obtain ⟨a1, a2, a3, a4, a5⟩ := ha
  obtain ⟨b1, b2, b3, b4, b5⟩ := hb
  unfold IsCmp
  omega
theorem isW_0 : IsW 0 0 0 := by unfold IsW; omega
/-- The words are told by the number. -/
theorem IsW.inj {h1 l1 h2 l2 a : Int} (ha : IsW h1 l1 a) (hb : IsW h2 l2 a) : h1 = h2 ∧ l1 = l2 := by
  obtain ⟨a1, a2, a3, a4, a5⟩ := ha
  obtain ⟨b1, b2, b3, b4, b5⟩ := hb
  omega
theorem IsW.wr {h l a : Int} (ha : IsW h l a) : WR a := by
  obtain ⟨a1, a2, a3, a4, a5⟩ := ha
  unfold WR
  omega
/-- Two pairs of words are the same just if the numbers are. -/
theorem IsW.same {h1 l1 h2 l2 a b : Int} (ha : IsW h1 l1 a) (hb : IsW h2 l2 b) : (h1 = h2 ∧ l1 = l2) ↔ a = b := by
  obtain ⟨a1, a2, a3, a4, a5⟩ := ha
  obtain ⟨b1, b2, b3, b4, b5⟩ := hb
  omega
/-- The size of a number: two words without a sign. -/
def IsSz (h l n : Int) : Prop := 0 ≤ h ∧ h ≤ 18446744073709551615 ∧ 0 ≤ l ∧ l ≤ 18446744073709551615 ∧ h * 18446744073709551616 + l = n
def absI (n : Int) : Int := if n < 0 then 0 - n else n
theorem isSz_pos {h1 l1 a : Int} (ha : IsW h1 l1 a) (h : 0 ≤ h1) : IsSz h1 l1 (absI a) ∧ h1 ≤ 9223372036854775808 := by
  obtain ⟨a1, a2, a3, a4, a5⟩ := ha
  unfold IsSz absI
  refine ⟨⟨by omega, by omega, by omega, by omega, ?_⟩, by omega⟩
  rw [if_neg (by omega)]
  omega
theorem isSz_neg {h1 l1 a : Int} (ha : IsW h1 l1 a) (h : h1 < 0) (c : Int) (hc : (c = 1 ∧ 0 < l1) ∨ (c = 0 ∧ ¬ 0 < l1)) :
    IsSz ((-IntKind.u64.wrap h1 - c) % 18446744073709551616) (-l1 % 18446744073709551616) (absI a) ∧ (-IntKind.u64.wrap h1 - c) % 18446744073709551616 ≤ 9223372036854775808 := by
  obtain ⟨a1, a2, a3, a4, a5⟩ := ha
  rw [IntKind.wrap_u64]
  unfold IsSz absI
  refine ⟨⟨by omega, by omega, by omega, by omega, ?_⟩, by omega⟩
  rw [if_pos (by omega)]
  omega
/-- What a call that answers a wide number and a bool leaves. -/
def WAns (n : Int) (w : World) (e : Ending) (w' : World) : Prop :=
  ∃ (h l : Int) (ok : Bool), e = .returned (.tuple #[.agg #[.int .i64 h, .int .u64 l], .bool ok]) ∧ WRes h l ok n ∧ Below w.heap.size w w'
theorem wres_up {h l n : Int} (hn : IsSz h l n) (p : h ≤ 9223372036854775807) : WRes h l true n := by
  obtain ⟨n1, n2, n3, n4, n5⟩ := hn
  refine .inl ⟨rfl, ?_, ?_⟩
  · unfold WR; omega
  · unfold IsW; omega
theorem wres_up_no {h l n : Int} (hn : IsSz h l n) (p : 9223372036854775807 < h) : WRes 0 0 false n := by
  obtain ⟨n1, n2, n3, n4, n5⟩ := hn
  refine .inr ⟨rfl, ?_, rfl, rfl⟩
  unfold WR; omega
theorem wres_down {h l n : Int} (hn : IsSz h l n) (c : Int) (hc : (c = 1 ∧ 0 < l) ∨ (c = 0 ∧ ¬ 0 < l)) (s : Int) (hs : s = wrap64 ((-h - c) % 18446744073709551616)) :
    (s < 0 ∨ (s = 0 ∧ -l % 18446744073709551616 = 0) → WRes s (-l % 18446744073709551616) true (-n)) ∧ (0 ≤ s → ¬ (s = 0 ∧ -l % 18446744073709551616 = 0) → WRes 0 0 false (-n)) := by
  obtain ⟨n1, n2, n3, n4, n5⟩ := hn
  unfold wrap64 at hs
  refine ⟨fun h => .inl ⟨rfl, ?_, ?_⟩, fun h h' => .inr ⟨rfl, ?_, rfl, rfl⟩⟩
  · unfold WR; omega
  · unfold IsW; omega
  · unfold WR; omega
end

/- Plain facts on times that go round, and on positions: nothing of the program. -/
section
open Go.RowKit
/-- A time. -/
def IsT (t : Int) : Prop := 0 ≤ t ∧ t ≤ 18446744073709551615
/-- The difference of two times. -/
def dif (t u : Int) : Int := (t - u + 9223372036854775808) % 18446744073709551616 - 9223372036854775808
/-- A time so much later. -/
def adv (t d : Int) : Int := (t + d) % 18446744073709551616
theorem dif_bd (t u : Int) : -9223372036854775808 ≤ dif t u ∧ dif t u ≤ 9223372036854775807 := by unfold dif; omega
theorem adv_T (t d : Int) : IsT (adv t d) := by unfold IsT adv; omega
/-- A position that may be. -/
def IsP (R W : Int) : Prop := 1 ≤ W ∧ W ≤ 1048576 ∧ 0 ≤ R ∧ R < W
/-- Is there the position of the distance d, and the weight w? -/
def AtOk (d w : Int) : Prop := 1 ≤ w ∧ w ≤ 1048576 ∧ -9223372036854775808 ≤ d / w ∧ d / w ≤ 9223372036854775807
theorem div_uniq {q b r a : Int} (h : q * b + r = a) (r0 : 0 ≤ r) (r1 : r < b) : q = a / b ∧ r = a % b := by
  have hb : 0 < b := by omega
  have e : a = r + b * q := by rw [Int.mul_comm b q]; omega
  constructor
  · rw [e, Int.add_mul_ediv_left _ _ (by omega), Int.ediv_eq_zero_of_lt r0 r1]; omega
  · rw [e, Int.add_mul_emod_self_left, Int.emod_eq_of_lt r0 r1]
/-- Which is ahead, of two at the times t, u from one base. -/
def posC (t r w u s v : Int) : Int := if dif u t ≠ 0 then cmpI 0 (dif u t) else cmpI (r * v) (s * w)
end

/- Means of positions, lags and places, as numbers: nothing of the program. -/
section
open Go.RowKit
/-- A wide number's words. -/
def hiW (a : Int) : Int := a / 18446744073709551616
def loW (a : Int) : Int := a % 18446744073709551616
theorem isW_of {a : Int} (h : WR a) : IsW (hiW a) (loW a) a := by unfold WR at h; unfold IsW hiW loW; omega
theorem IsW.words {h l a : Int} (hw : IsW h l a) : h = hiW a ∧ l = loW a := IsW.inj hw (isW_of hw.wr)
abbrev wv (a : Int) : Value := .agg #[.int .i64 (hiW a), .int .u64 (loW a)]
theorem hiW0 : hiW 0 = 0 := by decide
theorem loW0 : loW 0 = 0 := by decide
/-- Is it a wide number? -/
def okW (a : Int) : Bool := decide (-170141183460469231731687303715884105728 ≤ a ∧ a ≤ 170141183460469231731687303715884105727)
theorem okW_iff {a : Int} : okW a = true ↔ WR a := by unfold okW WR; rw [decide_eq_true_eq]
theorem okW_no {a : Int} (h : okW a = false) : ¬ WR a := fun h2 => by rw [okW_iff.2 h2] at h; cases h
def clW (a : Int) : Int := if okW a = true then a else 0
theorem clW_ok {a : Int} (h : okW a = true) : clW a = a := by unfold clW; rw [if_pos h]
theorem clW_no {a : Int} (h : okW a = false) : clW a = 0 := by unfold clW; rw [if_neg (by rw [h]; decide)]
theorem wres_F {h l : Int} {ok : Bool} {n : Int} (hr : WRes h l ok n) : h = hiW (clW n) ∧ l = loW (clW n) ∧ ok = okW n := by
  rcases hr with ⟨rfl, h1, h2⟩ | ⟨rfl, h1, rfl, rfl⟩
  · have hk := okW_iff.2 h1
    rw [clW_ok hk, hk]
    exact ⟨h2.words.1, h2.words.2, rfl⟩
  · have hk : okW n = false := by cases h : okW n; rfl; exact absurd (okW_iff.1 h) h1
    rw [clW_no hk, hk]
    exact ⟨hiW0.symm, loW0.symm, rfl⟩
/-- A position: its time, R and W. -/
abbrev P3 := Int × Int × Int
abbrev pv (p : P3) : Value := .agg #[.int .u64 p.1, .int .u32 p.2.1, .int .u32 p.2.2]
def pR (p : P3) : Bool := decide (1 ≤ p.2.2 ∧ p.2.2 ≤ 1048576) && decide (p.2.1 < p.2.2)
def PIn (p : P3) : Prop := (0 ≤ p.1 ∧ p.1 ≤ 18446744073709551615) ∧ (0 ≤ p.2.1 ∧ p.2.1 ≤ 4294967295) ∧ (0 ≤ p.2.2 ∧ p.2.2 ≤ 4294967295)
def pD (base : Int) (p : P3) : Int := dif p.1 base * p.2.2 + p.2.1
theorem pR_isP {p : P3} (hp : PIn p) (h : pR p = true) : IsP p.2.1 p.2.2 := by
  unfold pR at h
  simp only [Bool.and_eq_true, decide_eq_true_eq] at h
  exact ⟨h.1.1, h.1.2, hp.2.1.1, h.2⟩
theorem mulBd {d v M V : Int} (h0 : -M ≤ d) (h1 : d ≤ M) (v0 : 0 ≤ v) (v1 : v ≤ V) (hM : 0 ≤ M) : -(M * V) ≤ d * v ∧ d * v ≤ M * V := by
  have a := Int.mul_le_mul_of_nonneg_right h0 v0
  have b := Int.mul_le_mul_of_nonneg_right h1 v0
  have c := Int.mul_le_mul_of_nonneg_left v1 hM
  rw [Int.neg_mul] at a
  omega
theorem pD_bd (base : Int) {p : P3} (hp : PIn p) : -39614081257132168796771975168 ≤ pD base p ∧ pD base p ≤ 39614081257132168800000000000 := by
  obtain ⟨d0, d1⟩ := dif_bd p.1 base
  have := mulBd (M := 9223372036854775808) (by omega) (by omega) hp.2.2.1 hp.2.2.2 (by decide)
  obtain ⟨r0, r1⟩ := hp.2.1
  unfold pD; omega
theorem pD_bdR (base : Int) {p : P3} (hp : PIn p) (h : pR p = true) : -9671406556917033397649408 ≤ pD base p ∧ pD base p ≤ 9671406556917033397649408 + 1048576 := by
  obtain ⟨d0, d1⟩ := dif_bd p.1 base
  obtain ⟨v0, v1, r0, r1⟩ := pR_isP hp h
  have := mulBd (M := 9223372036854775808) (V := 1048576) (by omega) (by omega) (by omega) v1 (by decide)
  unfold pD; omega
/-- A mean. -/
structure Mu where
  (b a w n : Int)
abbrev Mu.val (m : Mu) : Value := .agg #[.int .u64 m.b, .int .i64 (hiW m.a), .int .u64 (loW m.a), .int .u64 m.w, .int .i64 m.n]
def Mu.cells (m : Mu) : List Value := [.int .u64 m.b, .int .i64 (hiW m.a), .int .u64 (loW m.a), .int .u64 m.w, .int .i64 m.n]
def Mu.In (m : Mu) : Prop := (0 ≤ m.b ∧ m.b ≤ 18446744073709551615) ∧ WR m.a ∧ (0 ≤ m.w ∧ m.w ≤ 18446744073709551615) ∧ (-9223372036854775808 ≤ m.n ∧ m.n ≤ 9223372036854775807)
def Mu.right (m : Mu) : Bool := if m.n = 0 then decide (m.a = 0) && decide (m.w = 0) else decide (1 ≤ m.n ∧ m.n ≤ 32) && decide (m.n ≤ m.w ∧ m.w ≤ m.n * 1048576)
abbrev Mu.no : Mu := ⟨0, 0, 0, 0⟩
theorem Mu.no_in : Mu.no.In := by unfold Mu.In WR; refine ⟨⟨?_, ?_⟩, ⟨?_, ?_⟩, ⟨?_, ?_⟩, ?_, ?_⟩ <;> decide
def Mu.addOk (m : Mu) (p : P3) : Bool := m.right && pR p && decide (m.n < 32) && okW (m.a + pD m.b p)
def Mu.add (m : Mu) (p : P3) : Bool × Mu := if m.addOk p = true then (true, ⟨m.b, m.a + pD m.b p, m.w + p.2.2, m.n + 1⟩) else (false, Mu.no)
def Mu.left (m : Mu) (p : P3) : Mu := ⟨m.b, if m.n = 1 then 0 else m.a - pD m.b p, m.w - p.2.2, m.n - 1⟩
def Mu.takeOk (m : Mu) (p : P3) : Bool := m.right && pR p && decide (m.n ≠ 0) && (decide (m.n = 1) || okW (m.a - pD m.b p)) && decide (p.2.2 ≤ m.w) && (m.left p).right
def Mu.take (m : Mu) (p : P3) : Bool × Mu := if m.takeOk p = true then (true, m.left p) else (false, Mu.no)
def Mu.rebOk (m : Mu) (t : Int) : Bool := m.right && okW (m.a - dif t m.b * m.w)
def Mu.reb (m : Mu) (t : Int) : Bool × Mu := if m.rebOk t = true then (true, ⟨t, m.a - dif t m.b * m.w, m.w, m.n⟩) else (false, Mu.no)
def smI (x : Int) : Bool := decide (-9223372036854775808 ≤ x ∧ x ≤ 9223372036854775807)
def Mu.flOk (m : Mu) : Bool := m.right && decide (m.n ≠ 0) && smI (m.a / m.w)
def Mu.fl (m : Mu) : Bool × Int := if m.flOk = true then (true, adv m.b (m.a / m.w)) else (false, 0)
def ofStep (s : Bool × Mu) (p : P3) : Bool × Mu := if s.1 = true then s.2.add p else s
def Mu.of (base : Int) (l : List P3) : Bool × Mu := l.foldl ofStep (true, ⟨base, 0, 0, 0⟩)
def sumD (base : Int) (l : List P3) : Int := (l.map (pD base)).sum
def sumW (l : List P3) : Int := (l.map fun p => p.2.2).sum
theorem sumD_cons (base : Int) (p : P3) (l : List P3) : sumD base (p :: l) = pD base p + sumD base l := by simp [sumD]
theorem sumW_cons (p : P3) (l : List P3) : sumW (p :: l) = p.2.2 + sumW l := by simp [sumW]
theorem sumD_app (base : Int) (l k : List P3) : sumD base (l ++ k) = sumD base l + sumD base k := by simp [sumD]
theorem sumW_app (l k : List P3) : sumW (l ++ k) = sumW l + sumW k := by simp [sumW]
theorem sumD_nil (base : Int) : sumD base [] = 0 := rfl
theorem sumW_nil : sumW [] = 0 := rfl
theorem sumW_bd {l : List P3} (hr : ∀ p ∈ l, IsP p.2.1 p.2.2) : (l.length : Int) ≤ sumW l ∧ sumW l ≤ l.length * 1048576 := by
  induction l with
  | nil => exact ⟨by decide, by decide⟩
  | cons p l ih =>
    obtain ⟨h0, h1⟩ := ih (fun q hq => hr q (by simp [hq]))
    obtain ⟨v0, v1, _, _⟩ := hr p (by simp)
    rw [sumW_cons, List.length_cons]
    push_cast
    omega
theorem sumD_bd (base : Int) {l : List P3} (hr : ∀ p ∈ l, pR p = true ∧ PIn p) : -(l.length * 9671406556917033397649408) ≤ sumD base l ∧ sumD base l ≤ l.length * 9671406556917033398697984 := by
  induction l with
  | nil => rw [sumD_nil]; exact ⟨by simp, by simp⟩
  | cons p l ih =>
    obtain ⟨h0, h1⟩ := ih (fun q hq => hr q (by simp [hq]))
    obtain ⟨v0, v1⟩ := pD_bdR base (hr p (by simp)).2 (hr p (by simp)).1
    rw [sumD_cons, List.length_cons]
    push_cast
    omega
/-- The sums of positions that may be. -/
def Mu.sums (base : Int) (l : List P3) : Mu := ⟨base, sumD base l, sumW l, l.length⟩
theorem sums_wr (base : Int) {l : List P3} (hr : ∀ p ∈ l, pR p = true ∧ PIn p) (hn : l.length ≤ 40) : WR (sumD base l) := by
  have := sumD_bd base hr
  unfold WR; omega
theorem sums_right (base : Int) {l : List P3} (hr : ∀ p ∈ l, pR p = true ∧ PIn p) (hn : l.length ≤ 32) : (Mu.sums base l).right = true := by
  have hw := sumW_bd (l := l) (fun p hp => pR_isP (hr p hp).2 (hr p hp).1)
  unfold Mu.right Mu.sums
  split
  · rename_i h
    have : l = [] := List.eq_nil_of_length_eq_zero (by simpa using h)
    subst this
    rfl
  · rename_i h
    simp only at h ⊢
    simp only [Bool.and_eq_true, decide_eq_true_eq]
    omega
theorem sums_add (base : Int) {l : List P3} {p : P3} (hr : ∀ q ∈ l, pR q = true ∧ PIn q) (hp : pR p = true ∧ PIn p) (hn : l.length < 32) : (Mu.sums base l).add p = (true, Mu.sums base (l ++ [p])) := by
  have hr2 : ∀ q ∈ l ++ [p], pR q = true ∧ PIn q := fun q hq => by
    rcases List.mem_append.1 hq with h | h
    · exact hr q h
    · simp at h; subst h; exact hp
  have h1 := sums_right base hr (by omega)
  have h2 := sums_wr base hr2 (by simp; omega)
  have e : sumD base (l ++ [p]) = sumD base l + pD base p := by rw [sumD_app, sumD_cons, sumD_nil]; omega
  have e2 : sumW (l ++ [p]) = sumW l + p.2.2 := by rw [sumW_app, sumW_cons, sumW_nil]; omega
  rw [e] at h2
  have hok : (Mu.sums base l).addOk p = true := by
    unfold Mu.addOk
    rw [h1, hp.1]
    simp only [Bool.true_and, Bool.and_eq_true, decide_eq_true_eq]
    exact ⟨by unfold Mu.sums; simp; omega, okW_iff.2 h2⟩
  unfold Mu.add
  rw [if_pos hok]
  unfold Mu.sums
  rw [e, e2]
  simp
theorem fold_false (l : List P3) (m : Mu) : l.foldl ofStep (false, m) = (false, m) := by
  induction l with
  | nil => rfl
  | cons p l ih => rw [List.foldl_cons]; unfold ofStep; rw [if_neg (by simp)]; exact ih
theorem of_go (base : Int) : ∀ (k l : List P3), (∀ q ∈ l, pR q = true ∧ PIn q) → (∀ q ∈ k, PIn q) → l.length ≤ 32 →
    k.foldl ofStep (true, Mu.sums base l) = if (l ++ k).length ≤ 32 ∧ (∀ q ∈ k, pR q = true) then (true, Mu.sums base (l ++ k)) else (false, Mu.no)
  | [], l, hl, _, hn => by rw [if_pos ⟨by simpa using hn, by simp⟩]; simp
  | p :: k, l, hl, hk, hn => by
    rw [List.foldl_cons]
    have hs : ofStep (true, Mu.sums base l) p = (Mu.sums base l).add p := by unfold ofStep; rw [if_pos rfl]
    rw [hs]
    by_cases c : l.length < 32 ∧ pR p = true
    · have hp := hk p (by simp)
      rw [sums_add base hl ⟨c.2, hp⟩ c.1]
      rw [of_go base k (l ++ [p]) (fun q hq => by
        rcases List.mem_append.1 hq with h | h
        · exact hl q h
        · simp at h; subst h; exact ⟨c.2, hp⟩) (fun q hq => hk q (by simp [hq])) (by simp; omega)]
      rw [List.append_assoc, List.singleton_append]
      by_cases d : (l ++ p :: k).length ≤ 32 ∧ (∀ q ∈ k, pR q = true)
      · rw [if_pos d, if_pos ⟨d.1, fun q hq => by
          rcases List.mem_cons.1 hq with rfl | h
          · exact c.2
          · exact d.2 q h⟩]
      · rw [if_neg d, if_neg (fun h => d ⟨h.1, fun q hq => h.2 q (by simp [hq])⟩)]
    · have hno : (Mu.sums base l).add p = (false, Mu.no) := by
        unfold Mu.add
        rw [if_neg]
        unfold Mu.addOk
        simp only [Bool.and_eq_true, decide_eq_true_eq]
        intro h
        exact c ⟨by have := h.1.2; unfold Mu.sums at this; simp at this; omega, h.1.1.2⟩
      rw [hno, fold_false, if_neg]
      intro h
      have h1 := h.1
      simp at h1
      exact c ⟨by omega, h.2 p (by simp)⟩
/-- The mean of positions. -/
theorem of_eq (base : Int) (l : List P3) (hl : ∀ q ∈ l, PIn q) : Mu.of base l = if l.length ≤ 32 ∧ (∀ q ∈ l, pR q = true) then (true, Mu.sums base l) else (false, Mu.no) := by
  have := of_go base l [] (by simp) hl (by simp)
  simpa [Mu.of, Mu.sums, sumD, sumW] using this
theorem of_take (base : Int) {l : List P3} {k : Nat} (hk : k < l.length) : Mu.of base (l.take (k + 1)) = ofStep (Mu.of base (l.take k)) (l.getD k (0, 0, 0)) := by
  have e : l.getD k (0, 0, 0) = l[k] := by simp [List.getD, hk]
  unfold Mu.of
  rw [e, List.take_succ_eq_append_getElem hk, List.foldl_append]; rfl
/-- The lag, times all weights. -/
def Mu.ovOk (m : Mu) (p : P3) : Bool := m.right && decide (m.n ≠ 0) && pR p && okW (m.a * p.2.2) && okW (m.a * p.2.2 - pD m.b p * m.w)
def Mu.ov (m : Mu) (p : P3) : Int := m.a * p.2.2 - pD m.b p * m.w
def Mu.over (m : Mu) (p : P3) : Bool × Int := if m.ovOk p = true then (true, m.ov p) else (false, 0)
def Mu.lag (m : Mu) (p : P3) : Bool × Int := if m.ovOk p = true then (true, m.ov p / m.w) else (false, 0)
def Mu.elig (m : Mu) (p : P3) : Bool := (m.over p).1 && decide (0 ≤ cmpI (m.over p).2 0)
end

/- Means of positions near a time: sums, virtual times, lags, as numbers. -/
section
open Go.RowKit
theorem fl_lo {lo A W : Int} (hW : 0 < W) (h : lo * W ≤ A) : lo ≤ A / W := Int.le_ediv_of_mul_le hW h
theorem fl_hi {hi A W : Int} (hW : 0 < W) (h : A < hi * W) : A / W < hi := Int.ediv_lt_of_lt_mul hW h
/-- The first one of positions. -/
def cmpP (p q : P3) : Int := posC p.1 p.2.1 p.2.2 q.1 q.2.1 q.2.2
end

/- Lags and places, as numbers. -/
section
open Go.RowKit
theorem okW_bd {a : Int} (h0 : -170141183460469231731687303715884105728 ≤ a) (h1 : a ≤ 170141183460469231731687303715884105727) : okW a = true := okW_iff.2 ⟨h0, h1⟩
theorem right_w {m : Mu} (h : m.right = true) (hn : m.n ≠ 0) : (1 ≤ m.n ∧ m.n ≤ 32) ∧ m.n ≤ m.w ∧ m.w ≤ 33554432 := by
  unfold Mu.right at h
  rw [if_neg hn] at h
  simp only [Bool.and_eq_true, decide_eq_true_eq] at h
  omega
theorem right_bd {m : Mu} (h : m.right = true) : (0 ≤ m.n ∧ m.n ≤ 32) ∧ 0 ≤ m.w ∧ m.w ≤ 33554432 := by
  unfold Mu.right at h
  split at h
  · simp only [Bool.and_eq_true, decide_eq_true_eq] at h; omega
  · simp only [Bool.and_eq_true, decide_eq_true_eq] at h; omega
/-- One that comes in: the distance. -/
def Mu.plD (m : Mu) (w o : Int) : Int := (m.a * w - o * (m.w + w)) / m.w
def Mu.plOk1 (m : Mu) (w o : Int) : Bool := okW (m.a * w) && okW (m.a * w - o * (m.w + w))
/-- Where a distance leads. -/
def atOk (d v : Int) : Bool := decide (1 ≤ v ∧ v ≤ 1048576) && smI (d / v)
def atP (base d v : Int) : P3 := if atOk d v = true then (adv base (d / v), d % v, v) else (0, 0, 0)
theorem atOk_iff {d v : Int} : atOk d v = true ↔ AtOk d v := by
  unfold atOk AtOk smI
  simp only [Bool.and_eq_true, decide_eq_true_eq]
  constructor
  · intro h; exact ⟨h.1.1, h.1.2, h.2⟩
  · intro h; exact ⟨⟨h.1, h.2.1⟩, h.2.2⟩
end

/- Plain facts on digits of base 10000, the lowest first: nothing of the program. -/
section
open Go.RowKit
def val : List Int → Int
  | [] => 0
  | d :: ds => d + 10000 * val ds
end

/- Who comes in among positions near a time, as numbers. -/
section
open Go.RowKit
/-- The mean with it. -/
def Mu.more (m : Mu) (w o : Int) : Mu := ⟨m.b, m.a + m.plD w o, m.w + w, m.n + 1⟩
end

/- Somebody is served; all lags together: as numbers. -/
section
open Go.RowKit
theorem getD_mem {l : List P3} {k : Nat} (hk : k < l.length) : l.getD k (0, 0, 0) ∈ l := by
  have e : l.getD k (0, 0, 0) = l[k] := by simp [List.getD, hk]
  rw [e]; exact List.getElem_mem hk
theorem sums_in {base : Int} {l : List P3} (hb : IsT base) (hr : ∀ p ∈ l, pR p = true ∧ PIn p) (hn : l.length ≤ 32) : (Mu.sums base l).In := by
  have h1 := sums_wr base hr (by omega)
  have h2 := sumW_bd (l := l) (fun p hp => pR_isP (hr p hp).2 (hr p hp).1)
  refine ⟨hb, h1, ⟨?_, ?_⟩, ?_, ?_⟩
  · show 0 ≤ sumW l; omega
  · show sumW l ≤ _; omega
  · show _ ≤ ((l.length : Nat) : Int); omega
  · show ((l.length : Nat) : Int) ≤ _; omega
theorem of_in {base : Int} {l : List P3} (hb : IsT base) (hl : ∀ q ∈ l, PIn q) : (Mu.of base l).2.In := by
  rw [of_eq base l hl]
  split
  · rename_i h
    exact sums_in hb (fun p hp => ⟨h.2 p hp, hl p hp⟩) h.1
  · exact Mu.no_in
theorem fold_step_no : ∀ (l : List P3) {s : Bool × Mu}, s.1 = false → l.foldl ofStep s = s
  | [], _, _ => rfl
  | p :: l, s, h => by
    rw [List.foldl_cons]
    have : ofStep s p = s := by unfold ofStep; rw [h, if_neg (by decide)]
    rw [this]
    exact fold_step_no l h
/-- Where one of them fails all fail. -/
theorem of_fails {base : Int} {l : List P3} {k : Nat} (hk : k < l.length) (h1 : (Mu.of base (l.take k)).1 = true) (h2 : ((Mu.of base (l.take k)).2.add (l.getD k (0, 0, 0))).1 = false) : Mu.of base l = (false, Mu.no) := by
  have e : l = l.take (k + 1) ++ l.drop (k + 1) := (List.take_append_drop _ _).symm
  have h3 : Mu.of base (l.take (k + 1)) = (false, Mu.no) := by
    rw [of_take base hk]
    unfold ofStep
    rw [if_pos h1]
    unfold Mu.add at *
    by_cases c : (Mu.of base (l.take k)).2.addOk (l.getD k (0, 0, 0)) = true
    · rw [if_pos c] at h2; cases h2
    · rw [if_neg c]
  unfold Mu.of at *
  rw [e, List.foldl_append, h3]
  exact fold_step_no _ rfl
theorem of_goes {base : Int} {l : List P3} {k : Nat} (hk : k < l.length) (h1 : (Mu.of base (l.take k)).1 = true) (h2 : ((Mu.of base (l.take k)).2.add (l.getD k (0, 0, 0))).1 = true) : (Mu.of base (l.take (k + 1))).1 = true ∧ (Mu.of base (l.take (k + 1))).2 = ((Mu.of base (l.take k)).2.add (l.getD k (0, 0, 0))).2 := by
  rw [of_take base hk]
  unfold ofStep
  rw [if_pos h1]
  exact ⟨h2, rfl⟩
end

/- How much of a lag is kept: as numbers. -/
section
open Go.RowKit
/-- How far from 0. -/
def mxW : Int := 170141183460469231731687303715884105727
def szI (x : Int) : Int := if 0 ≤ x then x else if x = -170141183460469231731687303715884105728 then mxW else -x
end

end Go.Proofs.YtlkhkhdacgeicaaGreatDoor

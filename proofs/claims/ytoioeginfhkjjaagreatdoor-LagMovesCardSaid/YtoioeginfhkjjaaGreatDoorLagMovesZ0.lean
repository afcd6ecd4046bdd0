/- Texts of LagMoves's proof, together. -/
import Derived.WalkKit
import Derived.Deep.Draws
namespace Go.Proofs.YtoioeginfhkjjaaGreatDoor
/- Plain facts on wide numbers: nothing of the program. -/
section
open Go.RowKit

theorem hid {p : Prop} (h : p) : RowKit.Hid p := h

/-- What was there reads as it did, in the walk's own spelling. -/
theorem bcell {B : Nat} {W w1 : World} (hb : Below B W w1) : (∀ b o, b < B → w1.cell? ⟨b, o, none⟩ = W.cell? ⟨b, o, none⟩) ∧ (∀ b o, b < B → w1.frozen? ⟨b, o, none⟩ = W.frozen? ⟨b, o, none⟩) :=
  ⟨fun b o h => hb.cell (p := ⟨b, o, none⟩) h, fun b o h => hb.frozen (p := ⟨b, o, none⟩) h⟩

/-- A cell that is there is there behind a call that writes nothing that was there. -/
theorem keep1 {w w' : World} {b o : Nat} {v : Value} (hb : Below w.heap.size w w') (h : w.cell? ⟨b, o, none⟩ = some v) : w'.cell? ⟨b, o, none⟩ = some v :=
  (hb.cell (p := ⟨b, o, none⟩) (World.block_lt_of_cell? w _ h)).trans h
theorem keep2 {w w' : World} {b0 o0 b1 o1 : Nat} {v0 v1 : Value} (h : w.cell? ⟨b0, o0, none⟩ = some v0 ∧ w.cell? ⟨b1, o1, none⟩ = some v1) (hb : Below w.heap.size w w') : w'.cell? ⟨b0, o0, none⟩ = some v0 ∧ w'.cell? ⟨b1, o1, none⟩ = some v1 :=
  ⟨keep1 hb h.1, keep1 hb h.2⟩
theorem keep3 {w w' : World} {b0 o0 b1 o1 b2 o2 : Nat} {v0 v1 v2 : Value} (h : w.cell? ⟨b0, o0, none⟩ = some v0 ∧ w.cell? ⟨b1, o1, none⟩ = some v1 ∧ w.cell? ⟨b2, o2, none⟩ = some v2) (hb : Below w.heap.size w w') : w'.cell? ⟨b0, o0, none⟩ = some v0 ∧ w'.cell? ⟨b1, o1, none⟩ = some v1 ∧ w'.cell? ⟨b2, o2, none⟩ = some v2 :=
  ⟨keep1 hb h.1, keep1 hb h.2.1, keep1 hb h.2.2⟩
theorem keep4 {w w' : World} {b0 o0 b1 o1 b2 o2 b3 o3 : Nat} {v0 v1 v2 v3 : Value} (h : w.cell? ⟨b0, o0, none⟩ = some v0 ∧ w.cell? ⟨b1, o1, none⟩ = some v1 ∧ w.cell? ⟨b2, o2, none⟩ = some v2 ∧ w.cell? ⟨b3, o3, none⟩ = some v3) (hb : Below w.heap.size w w') : w'.cell? ⟨b0, o0, none⟩ = some v0 ∧ w'.cell? ⟨b1, o1, none⟩ = some v1 ∧ w'.cell? ⟨b2, o2, none⟩ = some v2 ∧ w'.cell? ⟨b3, o3, none⟩ = some v3 :=
  ⟨keep1 hb h.1, keep1 hb h.2.1, keep1 hb h.2.2.1, keep1 hb h.2.2.2⟩
theorem keep6 {w w' : World} {b0 o0 b1 o1 b2 o2 b3 o3 b4 o4 b5 o5 : Nat} {v0 v1 v2 v3 v4 v5 : Value} (h : w.cell? ⟨b0, o0, none⟩ = some v0 ∧ w.cell? ⟨b1, o1, none⟩ = some v1 ∧ w.cell? ⟨b2, o2, none⟩ = some v2 ∧ w.cell? ⟨b3, o3, none⟩ = some v3 ∧ w.cell? ⟨b4, o4, none⟩ = some v4 ∧ w.cell? ⟨b5, o5, none⟩ = some v5) (hb : Below w.heap.size w w') : w'.cell? ⟨b0, o0, none⟩ = some v0 ∧ w'.cell? ⟨b1, o1, none⟩ = some v1 ∧ w'.cell? ⟨b2, o2, none⟩ = some v2 ∧ w'.cell? ⟨b3, o3, none⟩ = some v3 ∧ w'.cell? ⟨b4, o4, none⟩ = some v4 ∧ w'.cell? ⟨b5, o5, none⟩ = some v5 :=
  ⟨keep1 hb h.1, keep1 hb h.2.1, keep1 hb h.2.2.1, keep1 hb h.2.2.2.1, keep1 hb h.2.2.2.2.1, keep1 hb h.2.2.2.2.2⟩
theorem keep8 {w w' : World} {b0 o0 b1 o1 b2 o2 b3 o3 b4 o4 b5 o5 b6 o6 b7 o7 : Nat} {v0 v1 v2 v3 v4 v5 v6 v7 : Value} (h : w.cell? ⟨b0, o0, none⟩ = some v0 ∧ w.cell? ⟨b1, o1, none⟩ = some v1 ∧ w.cell? ⟨b2, o2, none⟩ = some v2 ∧ w.cell? ⟨b3, o3, none⟩ = some v3 ∧ w.cell? ⟨b4, o4, none⟩ = some v4 ∧ w.cell? ⟨b5, o5, none⟩ = some v5 ∧ w.cell? ⟨b6, o6, none⟩ = some v6 ∧ w.cell? ⟨b7, o7, none⟩ = some v7) (hb : Below w.heap.size w w') : w'.cell? ⟨b0, o0, none⟩ = some v0 ∧ w'.cell? ⟨b1, o1, none⟩ = some v1 ∧ w'.cell? ⟨b2, o2, none⟩ = some v2 ∧ w'.cell? ⟨b3, o3, none⟩ = some v3 ∧ w'.cell? ⟨b4, o4, none⟩ = some v4 ∧ w'.cell? ⟨b5, o5, none⟩ = some v5 ∧ w'.cell? ⟨b6, o6, none⟩ = some v6 ∧ w'.cell? ⟨b7, o7, none⟩ = some v7 :=
  ⟨keep1 hb h.1, keep1 hb h.2.1, keep1 hb h.2.2.1, keep1 hb h.2.2.2.1, keep1 hb h.2.2.2.2.1, keep1 hb h.2.2.2.2.2.1, keep1 hb h.2.2.2.2.2.2.1, keep1 hb h.2.2.2.2.2.2.2⟩

theorem belowN {B : Nat} {a w : World} (h : Below B a w) (n : Nat) : Below B a (w.drewN n) := ⟨h.os, h.tape, h.output, h.size, h.block⟩

/-- Two words that are the number n. -/
def IsW (h l n : Int) : Prop := -9223372036854775808 ≤ h ∧ h ≤ 9223372036854775807 ∧ 0 ≤ l ∧ l ≤ 18446744073709551615 ∧ n = h * 18446744073709551616 + l
/-- In the range of the wide numbers. -/
def WR (n : Int) : Prop := -170141183460469231731687303715884105728 ≤ n ∧ n ≤ 170141183460469231731687303715884105727
/-- An answer: the number n, true; or nothing, false, where n is no wide number. -/
def WRes (h l : Int) (ok : Bool) (n : Int) : Prop := (ok = true ∧ WR n ∧ IsW h l n) ∨ (ok = false ∧ ¬ WR n ∧ h = 0 ∧ l = 0)

/-- The sum of two: its words; whether it is a wide number is told by the signs. -/
theorem wres_add {h1 l1 h2 l2 a b : Int} (ha : IsW h1 l1 a) (hb : IsW h2 l2 b) (s : Int) (hs : s = wrap64 ((IntKind.u64.wrap h1 + IntKind.u64.wrap h2 + (l1 + l2) / 18446744073709551616) % 18446744073709551616)) :
    (¬ ((h1 < 0 ↔ h2 < 0) ∧ ¬ (s < 0 ↔ h2 < 0)) → WRes s ((l1 + l2) % 18446744073709551616) true (a + b)) ∧
    ((h1 < 0 ↔ h2 < 0) → ¬ (s < 0 ↔ h2 < 0) → WRes 0 0 false (a + b)) := by
  obtain ⟨a1, a2, a3, a4, a5⟩ := ha
  obtain ⟨b1, b2, b3, b4, b5⟩ := hb
  rw [IntKind.wrap_u64, IntKind.wrap_u64] at hs
  unfold wrap64 at hs
  refine ⟨fun h => .inl ⟨rfl, ?_, ?_⟩, fun h h' => .inr ⟨rfl, ?_, rfl, rfl⟩⟩
  · unfold WR; omega
  · unfold IsW; omega
  · unfold WR; omega

/-- The difference of two. -/
theorem wres_sub {h1 l1 h2 l2 a b : Int} (ha : IsW h1 l1 a) (hb : IsW h2 l2 b) (c : Int) (hc : (c = 1 ∧ l1 < l2) ∨ (c = 0 ∧ ¬ l1 < l2)) (s : Int) (hs : s = wrap64 ((IntKind.u64.wrap h1 - IntKind.u64.wrap h2 - c) % 18446744073709551616)) :
    (¬ (¬ (h1 < 0 ↔ h2 < 0) ∧ ¬ (s < 0 ↔ h1 < 0)) → WRes s ((l1 - l2) % 18446744073709551616) true (a - b)) ∧
    (¬ (h1 < 0 ↔ h2 < 0) → ¬ (s < 0 ↔ h1 < 0) → WRes 0 0 false (a - b)) := by
  obtain ⟨a1, a2, a3, a4, a5⟩ := ha
  obtain ⟨b1, b2, b3, b4, b5⟩ := hb
  rw [IntKind.wrap_u64, IntKind.wrap_u64] at hs
  unfold wrap64 at hs
  refine ⟨fun h => .inl ⟨rfl, ?_, ?_⟩, fun h h' => .inr ⟨rfl, ?_, rfl, rfl⟩⟩
  · unfold WR; omega
  · unfold IsW; omega
  · unfold WR; omega

/-- -1, 0, 1: below, the same, above. -/
def IsCmp (c a b : Int) : Prop := (c = -1 ∧ a < b) ∨ (c = 0 ∧ a = b) ∨ (c = 1 ∧ b < a)

theorem IsCmp.bd {c a b : Int} (h : IsCmp c a b) : -1 ≤ c ∧ c ≤ 1 := by unfold IsCmp at h; omega

/-- -1, 0, 1, as a function. -/
def cmpI (a b : Int) : Int := if a < b then -1 else if a = b then 0 else 1
theorem IsCmp.eq {c a b : Int} (h : IsCmp c a b) : c = cmpI a b := by
  unfold IsCmp at h; unfold cmpI
  split
  · omega
  · split <;> omega
theorem cmpI_lt {a b : Int} (h : a < b) : cmpI a b = -1 := by unfold cmpI; rw [if_pos h]
theorem cmpI_eq (a : Int) : cmpI a a = 0 := by unfold cmpI; rw [if_neg (by omega), if_pos rfl]
theorem cmpI_gt {a b : Int} (h : b < a) : cmpI a b = 1 := by unfold cmpI; rw [if_neg (by omega), if_neg (by omega)]
theorem cmpI_add (a b c : Int) : cmpI (a + c) (b + c) = cmpI a b := by
  rcases Int.lt_trichotomy a b with h | h | h
  · rw [cmpI_lt h, cmpI_lt (by omega)]
  · subst h; rw [cmpI_eq, cmpI_eq]
  · rw [cmpI_gt h, cmpI_gt (by omega)]
theorem cmpI_le {a b : Int} (h : ¬ b < a) : ¬ 0 < cmpI a b := by
  unfold cmpI; split
  · decide
  · split
    · decide
    · omega

theorem cmpI_bd (a b : Int) : -1 ≤ cmpI a b ∧ cmpI a b ≤ 1 := by unfold cmpI; split <;> (try split) <;> omega
theorem cmpI_anti (a b : Int) : cmpI a b = -cmpI b a := by unfold cmpI; split <;> split <;> (try split) <;> (try split) <;> omega
theorem cmpI_zero (a b : Int) : cmpI a b = 0 ↔ a = b := by unfold cmpI; split <;> (try split) <;> omega
theorem cmpI_pos (a b : Int) : 0 < cmpI a b ↔ b < a := by unfold cmpI; split <;> (try split) <;> omega

theorem isCmp_lt {h1 l1 h2 l2 a b : Int} (ha : IsW h1 l1 a) (hb : IsW h2 l2 b) (h : h1 < h2 ∨ h1 = h2 ∧ l1 < l2) : IsCmp (-1) a b := by
  obtain ⟨a1, a2, a3, a4, a5⟩ := ha
  obtain ⟨b1, b2, b3, b4, b5⟩ := hb
  unfold IsCmp
  omega
theorem isCmp_gt {h1 l1 h2 l2 a b : Int} (ha : IsW h1 l1 a) (hb : IsW h2 l2 b) (h : h2 < h1 ∨ h1 = h2 ∧ l2 < l1) : IsCmp 1 a b := by
  obtain ⟨a1, a2, a3, a4, a5⟩ := ha
  obtain ⟨b1, b2, b3, b4, b5⟩ := hb
  unfold IsCmp
  omega
theorem isCmp_eq {h1 l1 a b : Int} (ha : IsW h1 l1 a) (hb : IsW h1 l1 b) : IsCmp 0 a b := by
  obtain ⟨a1, a2, a3, a4, a5⟩ := ha
  obtain ⟨b1, b2, b3, b4, b5⟩ := hb
  unfold IsCmp
  omega
theorem isW_0 : IsW 0 0 0 := by unfold IsW; omega
/-- The words are told by the number. -/
theorem IsW.inj {h1 l1 h2 l2 a : Int} (ha : IsW h1 l1 a) (hb : IsW h2 l2 a) : h1 = h2 ∧ l1 = l2 := by
  obtain ⟨a1, a2, a3, a4, a5⟩ := ha
  obtain ⟨b1, b2, b3, b4, b5⟩ := hb
  omega
theorem IsW.wr {h l a : Int} (ha : IsW h l a) : WR a := by
  obtain ⟨a1, a2, a3, a4, a5⟩ := ha
  unfold WR
  omega
/-- Two pairs of words are the same just if the numbers are. -/
theorem IsW.same {h1 l1 h2 l2 a b : Int} (ha : IsW h1 l1 a) (hb : IsW h2 l2 b) : (h1 = h2 ∧ l1 = l2) ↔ a = b := by
  obtain ⟨a1, a2, a3, a4, a5⟩ := ha
  obtain ⟨b1, b2, b3, b4, b5⟩ := hb
  omega

/-- The size of a number: two words without a sign. -/
def IsSz (h l n : Int) : Prop := 0 ≤ h ∧ h ≤ 18446744073709551615 ∧ 0 ≤ l ∧ l ≤ 18446744073709551615 ∧ h * 18446744073709551616 + l = n
def absI (n : Int) : Int := if n < 0 then 0 - n else n

theorem isSz_pos {h1 l1 a : Int} (ha : IsW h1 l1 a) (h : 0 ≤ h1) : IsSz h1 l1 (absI a) ∧ h1 ≤ 9223372036854775808 := by
  obtain ⟨a1, a2, a3, a4, a5⟩ := ha
  unfold IsSz absI
  refine ⟨⟨by omega, by omega, by omega, by omega, ?_⟩, by omega⟩
  rw [if_neg (by omega)]
  omega
theorem isSz_neg {h1 l1 a : Int} (ha : IsW h1 l1 a) (h : h1 < 0) (c : Int) (hc : (c = 1 ∧ 0 < l1) ∨ (c = 0 ∧ ¬ 0 < l1)) :
    IsSz ((-IntKind.u64.wrap h1 - c) % 18446744073709551616) (-l1 % 18446744073709551616) (absI a) ∧ (-IntKind.u64.wrap h1 - c) % 18446744073709551616 ≤ 9223372036854775808 := by
  obtain ⟨a1, a2, a3, a4, a5⟩ := ha
  rw [IntKind.wrap_u64]
  unfold IsSz absI
  refine ⟨⟨by omega, by omega, by omega, by omega, ?_⟩, by omega⟩
  rw [if_pos (by omega)]
  omega

/-- What a call that answers a wide number and a bool leaves. -/
def WAns (n : Int) (w : World) (e : Ending) (w' : World) : Prop :=
  ∃ (h l : Int) (ok : Bool), e = .returned (.tuple #[.agg #[.int .i64 h, .int .u64 l], .bool ok]) ∧ WRes h l ok n ∧ Below w.heap.size w w'

theorem wres_up {h l n : Int} (hn : IsSz h l n) (p : h ≤ 9223372036854775807) : WRes h l true n := by
  obtain ⟨n1, n2, n3, n4, n5⟩ := hn
  refine .inl ⟨rfl, ?_, ?_⟩
  · unfold WR; omega
  · unfold IsW; omega
theorem wres_up_no {h l n : Int} (hn : IsSz h l n) (p : 9223372036854775807 < h) : WRes 0 0 false n := by
  obtain ⟨n1, n2, n3, n4, n5⟩ := hn
  refine .inr ⟨rfl, ?_, rfl, rfl⟩
  unfold WR; omega
theorem wres_down {h l n : Int} (hn : IsSz h l n) (c : Int) (hc : (c = 1 ∧ 0 < l) ∨ (c = 0 ∧ ¬ 0 < l)) (s : Int) (hs : s = wrap64 ((-h - c) % 18446744073709551616)) :
    (s < 0 ∨ (s = 0 ∧ -l % 18446744073709551616 = 0) → WRes s (-l % 18446744073709551616) true (-n)) ∧ (0 ≤ s → ¬ (s = 0 ∧ -l % 18446744073709551616 = 0) → WRes 0 0 false (-n)) := by
  obtain ⟨n1, n2, n3, n4, n5⟩ := hn
  unfold wrap64 at hs
  refine ⟨fun h => .inl ⟨rfl, ?_, ?_⟩, fun h h' => .inr ⟨rfl, ?_, rfl, rfl⟩⟩
  · unfold WR; omega
  · unfold IsW; omega
  · unfold WR; omega
end

/- Plain facts on times that go round, and on positions: nothing of the program. -/
section
open Go.RowKit

/-- A time. -/
def IsT (t : Int) : Prop := 0 ≤ t ∧ t ≤ 18446744073709551615
/-- The difference of two times. -/
def dif (t u : Int) : Int := (t - u + 9223372036854775808) % 18446744073709551616 - 9223372036854775808
/-- A time so much later. -/
def adv (t d : Int) : Int := (t + d) % 18446744073709551616
theorem dif_bd (t u : Int) : -9223372036854775808 ≤ dif t u ∧ dif t u ≤ 9223372036854775807 := by unfold dif; omega
theorem adv_T (t d : Int) : IsT (adv t d) := by unfold IsT adv; omega
theorem dif_self (t : Int) : dif t t = 0 := by unfold dif; omega
theorem dif_adv (t : Int) {d : Int} (h0 : -9223372036854775808 ≤ d) (h1 : d ≤ 9223372036854775807) : dif (adv t d) t = d := by unfold dif adv; omega
theorem dif_near (t : Int) {d e : Int} (h0 : -9223372036854775808 ≤ d - e) (h1 : d - e ≤ 9223372036854775807) : dif (adv t d) (adv t e) = d - e := by unfold dif adv; omega
theorem adv_adv (t d e : Int) : adv (adv t d) e = adv t (d + e) := by unfold adv; omega
theorem adv_comm (t d e : Int) : adv (adv t d) e = adv (adv t e) d := by unfold adv; omega
theorem adv_zero {t : Int} (h : IsT t) : adv t 0 = t := by unfold IsT at h; unfold adv; omega
theorem adv_dif {t u : Int} (h : IsT t) : adv u (dif t u) = t := by unfold IsT at h; unfold adv dif; omega
theorem dif_anti {t u : Int} (h : dif t u ≠ -9223372036854775808) : dif u t = -dif t u := by unfold dif at *; omega
theorem dif_sum {t u v : Int} (h0 : -9223372036854775808 ≤ dif t u + dif u v) (h1 : dif t u + dif u v ≤ 9223372036854775807) : dif t v = dif t u + dif u v := by unfold dif at *; omega

/-- The first of several: one by one. -/
def fstep (t u : Int) : Int := if dif u t < 0 then u else t
def lstep (t u : Int) : Int := if dif t u < 0 then u else t
def firstL (t : Int) (zs : List Int) : Int := zs.foldl fstep t
def lastL (t : Int) (zs : List Int) : Int := zs.foldl lstep t
theorem take_step {f : Int → Int → Int} {t : Int} {zs : List Int} {k : Nat} (hk : k < zs.length) : (zs.take (k + 1)).foldl f t = f ((zs.take k).foldl f t) (zs.getD k 0) := by
  have e : zs.getD k 0 = zs[k] := by simp [List.getD, hk]
  rw [List.take_succ_eq_append_getElem hk, List.foldl_append, e]; rfl
theorem fstep_T {t u : Int} (h : IsT t) (g : IsT u) : IsT (fstep t u) := by unfold fstep; split <;> assumption
theorem lstep_T {t u : Int} (h : IsT t) (g : IsT u) : IsT (lstep t u) := by unfold lstep; split <;> assumption
theorem fold_T {f : Int → Int → Int} (hf : ∀ {t u}, IsT t → IsT u → IsT (f t u)) : ∀ (zs : List Int) {t : Int}, IsT t → (∀ z ∈ zs, 0 ≤ z ∧ z ≤ 18446744073709551615) → IsT (zs.foldl f t)
  | [], _, h, _ => h
  | z :: zs, _, h, hz => fold_T hf zs (hf h (hz z (by simp))) (fun x hx => hz x (by simp [hx]))

/-- A position that may be. -/
def IsP (R W : Int) : Prop := 1 ≤ W ∧ W ≤ 1048576 ∧ 0 ≤ R ∧ R < W
/-- Is there the position of the distance d, and the weight w? -/
def AtOk (d w : Int) : Prop := 1 ≤ w ∧ w ≤ 1048576 ∧ -9223372036854775808 ≤ d / w ∧ d / w ≤ 9223372036854775807
theorem div_uniq {q b r a : Int} (h : q * b + r = a) (r0 : 0 ≤ r) (r1 : r < b) : q = a / b ∧ r = a % b := by
  have hb : 0 < b := by omega
  have e : a = r + b * q := by rw [Int.mul_comm b q]; omega
  constructor
  · rw [e, Int.add_mul_ediv_left _ _ (by omega), Int.ediv_eq_zero_of_lt r0 r1]; omega
  · rw [e, Int.add_mul_emod_self_left, Int.emod_eq_of_lt r0 r1]
/-- Moved in two parts, or at once. -/
theorem move_twice (a b R : Int) {W : Int} (hW : 0 < W) : (a + b + R) / W = (a + R) / W + (b + (a + R) % W) / W ∧ (a + b + R) % W = (b + (a + R) % W) % W := by
  have h1 := Int.emod_add_mul_ediv (a + R) W
  have h2 := Int.emod_add_mul_ediv (b + (a + R) % W) W
  have h3 := Int.emod_nonneg (b + (a + R) % W) (show W ≠ 0 by omega)
  have h4 := Int.emod_lt_of_pos (b + (a + R) % W) hW
  have := div_uniq (q := (a + R) / W + (b + (a + R) % W) / W) (b := W) (r := (b + (a + R) % W) % W) (a := a + b + R) (by rw [Int.add_mul, Int.mul_comm ((a + R) / W) W, Int.mul_comm ((b + (a + R) % W) / W) W]; omega) h3 h4
  exact ⟨this.1.symm, this.2.symm⟩
/-- Which is ahead, of two at the times t, u from one base. -/
def posC (t r w u s v : Int) : Int := if dif u t ≠ 0 then cmpI 0 (dif u t) else cmpI (r * v) (s * w)
theorem cmpI_less (a b : Int) : cmpI a b = cmpI (a - b) 0 := by
  unfold cmpI; split <;> split <;> (try split) <;> (try split) <;> omega
/-- Of one weight the order is that of the distances. -/
theorem posC_eq {t u r s w : Int} (hr : IsP r w) (hs : IsP s w) : posC t r w u s w = cmpI (r - s) (w * dif u t) := by
  obtain ⟨h1, h2, h3, h4⟩ := hr
  obtain ⟨g1, g2, g3, g4⟩ := hs
  unfold posC
  generalize dif u t = d
  by_cases h : d = 0
  · subst h
    rw [if_neg (by omega), Int.mul_zero]
    rcases Int.lt_trichotomy r s with h | h | h
    · rw [cmpI_lt (Int.mul_lt_mul_of_pos_right h (by omega)), cmpI_lt (by omega)]
    · subst h; rw [cmpI_eq, Int.sub_self, cmpI_eq]
    · rw [cmpI_gt (Int.mul_lt_mul_of_pos_right h (by omega)), cmpI_gt (by omega)]
  · rw [if_pos h]
    rcases Int.lt_trichotomy d 0 with h | h | h
    · have : w * d ≤ w * -1 := Int.mul_le_mul_of_nonneg_left (by omega) (by omega)
      rw [cmpI_gt h, cmpI_gt (by omega)]
    · contradiction
    · have : w * 1 ≤ w * d := Int.mul_le_mul_of_nonneg_left (by omega) (by omega)
      rw [cmpI_lt h, cmpI_lt (by omega)]
end

/- Plain facts on positions that move: nothing of the program. -/
section
open Go.RowKit

theorem quot_bd {a R W : Int} (h : IsP R W) (a0 : 0 ≤ a) (a1 : a ≤ 4611686018427387904) : 0 ≤ (a + R) / W ∧ (a + R) / W ≤ a + R := by
  obtain ⟨h1, h2, h3, h4⟩ := h
  exact ⟨Int.ediv_nonneg (by omega) (by omega), Int.ediv_le_self _ (by omega)⟩
theorem quot_le {a R W : Int} (h : IsP R W) (a0 : 0 ≤ a) : (a + R) / W ≤ a := by
  obtain ⟨h1, h2, h3, h4⟩ := h
  have e := Int.emod_add_mul_ediv (a + R) W
  have e2 := Int.emod_nonneg (a + R) (show W ≠ 0 by omega)
  have h0 : 0 ≤ (a + R) / W := Int.ediv_nonneg (by omega) (by omega)
  by_cases c : a < (a + R) / W
  · exfalso
    have : W * (a + 1) ≤ W * ((a + R) / W) := Int.mul_le_mul_of_nonneg_left (by omega) (by omega)
    rw [Int.mul_add, Int.mul_one] at this
    have g : 1 * a ≤ W * a := Int.mul_le_mul_of_nonneg_right h1 a0
    omega
  · omega
theorem move_ok {a R W : Int} (h : IsP R W) (a0 : 0 ≤ a) (a1 : a ≤ 4611686018427387904) : AtOk (a + R) W := by
  have := quot_le h a0
  have := (quot_bd h a0 a1).1
  obtain ⟨h1, h2, h3, h4⟩ := h
  exact ⟨h1, h2, by omega, by omega⟩
theorem move_P {a R W : Int} (h : IsP R W) : IsP ((a + R) % W) W := by
  obtain ⟨h1, h2, h3, h4⟩ := h
  exact ⟨h1, h2, Int.emod_nonneg _ (by omega), Int.emod_lt_of_pos _ (by omega)⟩
theorem move_again {T R W a b : Int} (h : IsP R W) : adv (adv T ((a + R) / W)) ((b + (a + R) % W) / W) = adv T ((a + b + R) / W) ∧ (b + (a + R) % W) % W = (a + b + R) % W := by
  have := move_twice a b R (W := W) (by have := h.1; omega)
  rw [adv_adv, this.1, this.2]
  exact ⟨rfl, rfl⟩
theorem move_since {T R W a : Int} (h : IsP R W) (a0 : 0 ≤ a) (a1 : a ≤ 2305843009213693952) : dif (adv T ((a + R) / W)) T = (a + R) / W := by
  have := quot_le h a0
  have := (quot_bd h a0 (by omega)).1
  exact dif_adv T (by omega) (by omega)
theorem dist_split (a R : Int) (W : Int) : (a + R) % W = a + R - W * ((a + R) / W) := by
  have := Int.emod_add_mul_ediv (a + R) W; omega
theorem move_cmp {T R S W U a : Int} (h : IsP R W) (g : IsP S W) (a0 : 0 ≤ a) (a1 : a ≤ 2305843009213693952) (d0 : -2305843009213693952 < dif U T) (d1 : dif U T < 2305843009213693952) :
    posC (adv U ((a + S) / W)) ((a + S) % W) W (adv T ((a + R) / W)) ((a + R) % W) W = posC U S W T R W := by
  have q0 := quot_le h a0
  have q1 := (quot_bd h a0 (by omega)).1
  have p0 := quot_le g a0
  have p1 := (quot_bd g a0 (by omega)).1
  rw [posC_eq (move_P g) (move_P h), posC_eq g h]
  have e1 : dif T U = -dif U T := dif_anti (by omega)
  have e2 : dif (adv T ((a + R) / W)) (adv U ((a + S) / W)) = dif T U + (a + R) / W - (a + S) / W := by
    have : dif T U = (T - U + 9223372036854775808) % 18446744073709551616 - 9223372036854775808 := rfl
    unfold dif adv
    unfold dif at e1 d0 d1
    omega
  rw [e2, dist_split a R W, dist_split a S W, Int.mul_sub, Int.mul_add]
  generalize W * dif T U = x at *
  generalize W * ((a + R) / W) = y at *
  generalize W * ((a + S) / W) = z at *
  rw [cmpI_less, cmpI_less (S - R)]
  congr 1; omega
theorem move_ahead {T R W a : Int} (h : IsP R W) (a0 : 0 ≤ a) (a1 : a ≤ 2305843009213693952) :
    posC (adv T ((a + R) / W)) ((a + R) % W) W T R W = if 1 ≤ a then 1 else a := by
  rw [posC_eq (move_P h) h]
  have q0 := quot_le h a0
  have q1 := (quot_bd h a0 (by omega)).1
  have e1 : dif T (adv T ((a + R) / W)) = - ((a + R) / W) := by unfold dif adv; omega
  rw [e1, dist_split a R W, cmpI_less, Int.mul_neg]
  generalize W * ((a + R) / W) = y at *
  rw [show a + R - y - R - -y = a by omega]
  by_cases c : 1 ≤ a
  · rw [if_pos c, cmpI_gt (by omega)]
  · rw [if_neg c, show a = 0 by omega, cmpI_eq]

/-- A position is where its distance tells. -/
theorem back_div {d R W : Int} (h : IsP R W) : (d * W + R) / W = d ∧ (d * W + R) % W = R := by
  obtain ⟨h1, h2, h3, h4⟩ := h
  obtain ⟨e1, e2⟩ := div_uniq (q := d) (b := W) (r := R) rfl h3 h4
  exact ⟨e1.symm, e2.symm⟩
theorem back_ok {d R W : Int} (h : IsP R W) (d0 : -9223372036854775808 ≤ d) (d1 : d ≤ 9223372036854775807) : AtOk (d * W + R) W := by
  unfold AtOk; rw [(back_div h).1]; exact ⟨h.1, h.2.1, d0, d1⟩
theorem one_div {R W : Int} (h : IsP R W) : (W + R) / W = 1 ∧ (W + R) % W = R := by
  have := back_div (d := 1) h
  rwa [Int.one_mul] at this
theorem posC_self (t r w : Int) : posC t r w t r w = 0 := by
  unfold posC; rw [dif_self, if_neg (by omega), cmpI_eq]
theorem posC_next (t r w s v : Int) : posC t r w (adv t 1) s v = -1 := by
  unfold posC
  rw [dif_adv t (by omega) (by omega), if_pos (by omega), cmpI_lt (by omega)]
end

/- Means of positions, lags and places, as numbers: nothing of the program. -/
section
open Go.RowKit

/-- A wide number's words. -/
def hiW (a : Int) : Int := a / 18446744073709551616
def loW (a : Int) : Int := a % 18446744073709551616
theorem isW_of {a : Int} (h : WR a) : IsW (hiW a) (loW a) a := by unfold WR at h; unfold IsW hiW loW; omega
theorem IsW.words {h l a : Int} (hw : IsW h l a) : h = hiW a ∧ l = loW a := IsW.inj hw (isW_of hw.wr)
abbrev wv (a : Int) : Value := .agg #[.int .i64 (hiW a), .int .u64 (loW a)]
theorem hiW0 : hiW 0 = 0 := by decide
theorem loW0 : loW 0 = 0 := by decide
/-- Is it a wide number? -/
def okW (a : Int) : Bool := decide (-170141183460469231731687303715884105728 ≤ a ∧ a ≤ 170141183460469231731687303715884105727)
theorem okW_iff {a : Int} : okW a = true ↔ WR a := by unfold okW WR; rw [decide_eq_true_eq]
theorem okW_no {a : Int} (h : okW a = false) : ¬ WR a := fun h2 => by rw [okW_iff.2 h2] at h; cases h
def clW (a : Int) : Int := if okW a = true then a else 0
theorem clW_ok {a : Int} (h : okW a = true) : clW a = a := by unfold clW; rw [if_pos h]
theorem clW_no {a : Int} (h : okW a = false) : clW a = 0 := by unfold clW; rw [if_neg (by rw [h]; decide)]
theorem clW_wr (a : Int) : WR (clW a) := by
  unfold clW; split
  · exact okW_iff.1 ‹_›
  · unfold WR; omega
theorem wres_F {h l : Int} {ok : Bool} {n : Int} (hr : WRes h l ok n) : h = hiW (clW n) ∧ l = loW (clW n) ∧ ok = okW n := by
  rcases hr with ⟨rfl, h1, h2⟩ | ⟨rfl, h1, rfl, rfl⟩
  · have hk := okW_iff.2 h1
    rw [clW_ok hk, hk]
    exact ⟨h2.words.1, h2.words.2, rfl⟩
  · have hk : okW n = false := by cases h : okW n; rfl; exact absurd (okW_iff.1 h) h1
    rw [clW_no hk, hk]
    exact ⟨hiW0.symm, loW0.symm, rfl⟩

/-- A position: its time, R and W. -/
abbrev P3 := Int × Int × Int
abbrev pv (p : P3) : Value := .agg #[.int .u64 p.1, .int .u32 p.2.1, .int .u32 p.2.2]
def pR (p : P3) : Bool := decide (1 ≤ p.2.2 ∧ p.2.2 ≤ 1048576) && decide (p.2.1 < p.2.2)
def PIn (p : P3) : Prop := (0 ≤ p.1 ∧ p.1 ≤ 18446744073709551615) ∧ (0 ≤ p.2.1 ∧ p.2.1 ≤ 4294967295) ∧ (0 ≤ p.2.2 ∧ p.2.2 ≤ 4294967295)
def pD (base : Int) (p : P3) : Int := dif p.1 base * p.2.2 + p.2.1
theorem pR_isP {p : P3} (hp : PIn p) (h : pR p = true) : IsP p.2.1 p.2.2 := by
  unfold pR at h
  simp only [Bool.and_eq_true, decide_eq_true_eq] at h
  exact ⟨h.1.1, h.1.2, hp.2.1.1, h.2⟩
theorem mulBd {d v M V : Int} (h0 : -M ≤ d) (h1 : d ≤ M) (v0 : 0 ≤ v) (v1 : v ≤ V) (hM : 0 ≤ M) : -(M * V) ≤ d * v ∧ d * v ≤ M * V := by
  have a := Int.mul_le_mul_of_nonneg_right h0 v0
  have b := Int.mul_le_mul_of_nonneg_right h1 v0
  have c := Int.mul_le_mul_of_nonneg_left v1 hM
  rw [Int.neg_mul] at a
  omega
theorem pD_bd (base : Int) {p : P3} (hp : PIn p) : -39614081257132168796771975168 ≤ pD base p ∧ pD base p ≤ 39614081257132168800000000000 := by
  obtain ⟨d0, d1⟩ := dif_bd p.1 base
  have := mulBd (M := 9223372036854775808) (by omega) (by omega) hp.2.2.1 hp.2.2.2 (by decide)
  obtain ⟨r0, r1⟩ := hp.2.1
  unfold pD; omega
theorem pD_bdR (base : Int) {p : P3} (hp : PIn p) (h : pR p = true) : -9671406556917033397649408 ≤ pD base p ∧ pD base p ≤ 9671406556917033397649408 + 1048576 := by
  obtain ⟨d0, d1⟩ := dif_bd p.1 base
  obtain ⟨v0, v1, r0, r1⟩ := pR_isP hp h
  have := mulBd (M := 9223372036854775808) (V := 1048576) (by omega) (by omega) (by omega) v1 (by decide)
  unfold pD; omega

/-- A mean. -/
structure Mu where
  (b a w n : Int)
abbrev Mu.val (m : Mu) : Value := .agg #[.int .u64 m.b, .int .i64 (hiW m.a), .int .u64 (loW m.a), .int .u64 m.w, .int .i64 m.n]
def Mu.cells (m : Mu) : List Value := [.int .u64 m.b, .int .i64 (hiW m.a), .int .u64 (loW m.a), .int .u64 m.w, .int .i64 m.n]
def Mu.In (m : Mu) : Prop := (0 ≤ m.b ∧ m.b ≤ 18446744073709551615) ∧ WR m.a ∧ (0 ≤ m.w ∧ m.w ≤ 18446744073709551615) ∧ (-9223372036854775808 ≤ m.n ∧ m.n ≤ 9223372036854775807)
def Mu.right (m : Mu) : Bool := if m.n = 0 then decide (m.a = 0) && decide (m.w = 0) else decide (1 ≤ m.n ∧ m.n ≤ 32) && decide (m.n ≤ m.w ∧ m.w ≤ m.n * 1048576)
abbrev Mu.no : Mu := ⟨0, 0, 0, 0⟩
theorem Mu.no_in : Mu.no.In := by unfold Mu.In WR; refine ⟨⟨?_, ?_⟩, ⟨?_, ?_⟩, ⟨?_, ?_⟩, ?_, ?_⟩ <;> decide
def Mu.addOk (m : Mu) (p : P3) : Bool := m.right && pR p && decide (m.n < 32) && okW (m.a + pD m.b p)
def Mu.add (m : Mu) (p : P3) : Bool × Mu := if m.addOk p = true then (true, ⟨m.b, m.a + pD m.b p, m.w + p.2.2, m.n + 1⟩) else (false, Mu.no)
def Mu.left (m : Mu) (p : P3) : Mu := ⟨m.b, if m.n = 1 then 0 else m.a - pD m.b p, m.w - p.2.2, m.n - 1⟩
def Mu.takeOk (m : Mu) (p : P3) : Bool := m.right && pR p && decide (m.n ≠ 0) && (decide (m.n = 1) || okW (m.a - pD m.b p)) && decide (p.2.2 ≤ m.w) && (m.left p).right
def Mu.take (m : Mu) (p : P3) : Bool × Mu := if m.takeOk p = true then (true, m.left p) else (false, Mu.no)
def Mu.rebOk (m : Mu) (t : Int) : Bool := m.right && okW (m.a - dif t m.b * m.w)
def Mu.reb (m : Mu) (t : Int) : Bool × Mu := if m.rebOk t = true then (true, ⟨t, m.a - dif t m.b * m.w, m.w, m.n⟩) else (false, Mu.no)
def smI (x : Int) : Bool := decide (-9223372036854775808 ≤ x ∧ x ≤ 9223372036854775807)
def Mu.flOk (m : Mu) : Bool := m.right && decide (m.n ≠ 0) && smI (m.a / m.w)
def Mu.fl (m : Mu) : Bool × Int := if m.flOk = true then (true, adv m.b (m.a / m.w)) else (false, 0)
def ofStep (s : Bool × Mu) (p : P3) : Bool × Mu := if s.1 = true then s.2.add p else s
def Mu.of (base : Int) (l : List P3) : Bool × Mu := l.foldl ofStep (true, ⟨base, 0, 0, 0⟩)

def sumD (base : Int) (l : List P3) : Int := (l.map (pD base)).sum
def sumW (l : List P3) : Int := (l.map fun p => p.2.2).sum
theorem sumD_cons (base : Int) (p : P3) (l : List P3) : sumD base (p :: l) = pD base p + sumD base l := by simp [sumD]
theorem sumW_cons (p : P3) (l : List P3) : sumW (p :: l) = p.2.2 + sumW l := by simp [sumW]
theorem sumD_app (base : Int) (l k : List P3) : sumD base (l ++ k) = sumD base l + sumD base k := by simp [sumD]
theorem sumW_app (l k : List P3) : sumW (l ++ k) = sumW l + sumW k := by simp [sumW]
theorem sumD_nil (base : Int) : sumD base [] = 0 := rfl
theorem sumW_nil : sumW [] = 0 := rfl
theorem sumW_bd {l : List P3} (hr : ∀ p ∈ l, IsP p.2.1 p.2.2) : (l.length : Int) ≤ sumW l ∧ sumW l ≤ l.length * 1048576 := by
  induction l with
  | nil => exact ⟨by decide, by decide⟩
  | cons p l ih =>
    obtain ⟨h0, h1⟩ := ih (fun q hq => hr q (by simp [hq]))
    obtain ⟨v0, v1, _, _⟩ := hr p (by simp)
    rw [sumW_cons, List.length_cons]
    push_cast
    omega
theorem sumD_bd (base : Int) {l : List P3} (hr : ∀ p ∈ l, pR p = true ∧ PIn p) : -(l.length * 9671406556917033397649408) ≤ sumD base l ∧ sumD base l ≤ l.length * 9671406556917033398697984 := by
  induction l with
  | nil => rw [sumD_nil]; exact ⟨by simp, by simp⟩
  | cons p l ih =>
    obtain ⟨h0, h1⟩ := ih (fun q hq => hr q (by simp [hq]))
    obtain ⟨v0, v1⟩ := pD_bdR base (hr p (by simp)).2 (hr p (by simp)).1
    rw [sumD_cons, List.length_cons]
    push_cast
    omega
/-- The sums of positions that may be. -/
def Mu.sums (base : Int) (l : List P3) : Mu := ⟨base, sumD base l, sumW l, l.length⟩
theorem sums_wr (base : Int) {l : List P3} (hr : ∀ p ∈ l, pR p = true ∧ PIn p) (hn : l.length ≤ 40) : WR (sumD base l) := by
  have := sumD_bd base hr
  unfold WR; omega
theorem sums_right (base : Int) {l : List P3} (hr : ∀ p ∈ l, pR p = true ∧ PIn p) (hn : l.length ≤ 32) : (Mu.sums base l).right = true := by
  have hw := sumW_bd (l := l) (fun p hp => pR_isP (hr p hp).2 (hr p hp).1)
  unfold Mu.right Mu.sums
  split
  · rename_i h
    have : l = [] := List.eq_nil_of_length_eq_zero (by simpa using h)
    subst this
    rfl
  · rename_i h
    simp only at h ⊢
    simp only [Bool.and_eq_true, decide_eq_true_eq]
    omega
theorem sums_add (base : Int) {l : List P3} {p : P3} (hr : ∀ q ∈ l, pR q = true ∧ PIn q) (hp : pR p = true ∧ PIn p) (hn : l.length < 32) : (Mu.sums base l).add p = (true, Mu.sums base (l ++ [p])) := by
  have hr2 : ∀ q ∈ l ++ [p], pR q = true ∧ PIn q := fun q hq => by
    rcases List.mem_append.1 hq with h | h
    · exact hr q h
    · simp at h; subst h; exact hp
  have h1 := sums_right base hr (by omega)
  have h2 := sums_wr base hr2 (by simp; omega)
  have e : sumD base (l ++ [p]) = sumD base l + pD base p := by rw [sumD_app, sumD_cons, sumD_nil]; omega
  have e2 : sumW (l ++ [p]) = sumW l + p.2.2 := by rw [sumW_app, sumW_cons, sumW_nil]; omega
  rw [e] at h2
  have hok : (Mu.sums base l).addOk p = true := by
    unfold Mu.addOk
    rw [h1, hp.1]
    simp only [Bool.true_and, Bool.and_eq_true, decide_eq_true_eq]
    exact ⟨by unfold Mu.sums; simp; omega, okW_iff.2 h2⟩
  unfold Mu.add
  rw [if_pos hok]
  unfold Mu.sums
  rw [e, e2]
  simp
theorem fold_false (l : List P3) (m : Mu) : l.foldl ofStep (false, m) = (false, m) := by
  induction l with
  | nil => rfl
  | cons p l ih => rw [List.foldl_cons]; unfold ofStep; rw [if_neg (by simp)]; exact ih
theorem of_go (base : Int) : ∀ (k l : List P3), (∀ q ∈ l, pR q = true ∧ PIn q) → (∀ q ∈ k, PIn q) → l.length ≤ 32 →
    k.foldl ofStep (true, Mu.sums base l) = if (l ++ k).length ≤ 32 ∧ (∀ q ∈ k, pR q = true) then (true, Mu.sums base (l ++ k)) else (false, Mu.no)
  | [], l, hl, _, hn => by rw [if_pos ⟨by simpa using hn, by simp⟩]; simp
  | p :: k, l, hl, hk, hn => by
    rw [List.foldl_cons]
    have hs : ofStep (true, Mu.sums base l) p = (Mu.sums base l).add p := by unfold ofStep; rw [if_pos rfl]
    rw [hs]
    by_cases c : l.length < 32 ∧ pR p = true
    · have hp := hk p (by simp)
      rw [sums_add base hl ⟨c.2, hp⟩ c.1]
      rw [of_go base k (l ++ [p]) (fun q hq => by
        rcases List.mem_append.1 hq with h | h
        · exact hl q h
        · simp at h; subst h; exact ⟨c.2, hp⟩) (fun q hq => hk q (by simp [hq])) (by simp; omega)]
      rw [List.append_assoc, List.singleton_append]
      by_cases d : (l ++ p :: k).length ≤ 32 ∧ (∀ q ∈ k, pR q = true)
      · rw [if_pos d, if_pos ⟨d.1, fun q hq => by
          rcases List.mem_cons.1 hq with rfl | h
          · exact c.2
          · exact d.2 q h⟩]
      · rw [if_neg d, if_neg (fun h => d ⟨h.1, fun q hq => h.2 q (by simp [hq])⟩)]
    · have hno : (Mu.sums base l).add p = (false, Mu.no) := by
        unfold Mu.add
        rw [if_neg]
        unfold Mu.addOk
        simp only [Bool.and_eq_true, decide_eq_true_eq]
        intro h
        exact c ⟨by have := h.1.2; unfold Mu.sums at this; simp at this; omega, h.1.1.2⟩
      rw [hno, fold_false, if_neg]
      intro h
      have h1 := h.1
      simp at h1
      exact c ⟨by omega, h.2 p (by simp)⟩
/-- The mean of positions. -/
theorem of_eq (base : Int) (l : List P3) (hl : ∀ q ∈ l, PIn q) : Mu.of base l = if l.length ≤ 32 ∧ (∀ q ∈ l, pR q = true) then (true, Mu.sums base l) else (false, Mu.no) := by
  have := of_go base l [] (by simp) hl (by simp)
  simpa [Mu.of, Mu.sums, sumD, sumW] using this
theorem of_yes (base : Int) {l : List P3} (hr : ∀ p ∈ l, pR p = true ∧ PIn p) (hn : l.length ≤ 32) : Mu.of base l = (true, Mu.sums base l) := by
  rw [of_eq base l (fun q hq => (hr q hq).2), if_pos ⟨hn, fun q hq => (hr q hq).1⟩]
theorem of_take (base : Int) {l : List P3} {k : Nat} (hk : k < l.length) : Mu.of base (l.take (k + 1)) = ofStep (Mu.of base (l.take k)) (l.getD k (0, 0, 0)) := by
  have e : l.getD k (0, 0, 0) = l[k] := by simp [List.getD, hk]
  unfold Mu.of
  rw [e, List.take_succ_eq_append_getElem hk, List.foldl_append]; rfl

/-- The lag, times all weights. -/
def Mu.ovOk (m : Mu) (p : P3) : Bool := m.right && decide (m.n ≠ 0) && pR p && okW (m.a * p.2.2) && okW (m.a * p.2.2 - pD m.b p * m.w)
def Mu.ov (m : Mu) (p : P3) : Int := m.a * p.2.2 - pD m.b p * m.w
def Mu.over (m : Mu) (p : P3) : Bool × Int := if m.ovOk p = true then (true, m.ov p) else (false, 0)
def Mu.lag (m : Mu) (p : P3) : Bool × Int := if m.ovOk p = true then (true, m.ov p / m.w) else (false, 0)
def Mu.elig (m : Mu) (p : P3) : Bool := (m.over p).1 && decide (0 ≤ cmpI (m.over p).2 0)
end

/- Means of positions near a time: sums, virtual times, lags, as numbers. -/
section
open Go.RowKit

theorem dif_adv_r {x t b : Int} (h0 : -9223372036854775808 ≤ dif x t - b) (h1 : dif x t - b ≤ 9223372036854775807) : dif x (adv t b) = dif x t - b := by unfold dif adv at *; omega
theorem dif_adv_l {t d x : Int} (h0 : -9223372036854775808 ≤ d - dif x t) (h1 : d - dif x t ≤ 9223372036854775807) : dif (adv t d) x = d - dif x t := by unfold dif adv at *; omega
theorem dif_near2 {x y t : Int} (h0 : -9223372036854775808 ≤ dif x t - dif y t) (h1 : dif x t - dif y t ≤ 9223372036854775807) : dif x y = dif x t - dif y t := by unfold dif at *; omega

/-- Nearer than B to t, and one that may be. -/
def NrP (B t : Int) (p : P3) : Prop := (pR p = true ∧ PIn p) ∧ -B < dif p.1 t ∧ dif p.1 t < B
theorem sum_lo {t lo : Int} {l : List P3} (h : ∀ p ∈ l, pR p = true ∧ PIn p) (hl : ∀ p ∈ l, lo ≤ dif p.1 t) : lo * sumW l ≤ sumD t l := by
  induction l with
  | nil => simp [sumW, sumD]
  | cons p l ih =>
    have h1 := ih (fun q hq => h q (by simp [hq])) (fun q hq => hl q (by simp [hq]))
    obtain ⟨v0, v1, r0, r1⟩ := pR_isP (h p (by simp)).2 (h p (by simp)).1
    have h2 := Int.mul_le_mul_of_nonneg_right (hl p (by simp)) (show 0 ≤ p.2.2 by omega)
    rw [sumW_cons, sumD_cons, Int.mul_add]
    unfold pD
    omega
theorem sum_hi {t hi : Int} {l : List P3} (h : ∀ p ∈ l, pR p = true ∧ PIn p) (hl : ∀ p ∈ l, dif p.1 t ≤ hi) : sumD t l + l.length ≤ (hi + 1) * sumW l := by
  induction l with
  | nil => simp [sumW, sumD]
  | cons p l ih =>
    have h1 := ih (fun q hq => h q (by simp [hq])) (fun q hq => hl q (by simp [hq]))
    obtain ⟨v0, v1, r0, r1⟩ := pR_isP (h p (by simp)).2 (h p (by simp)).1
    have h2 := Int.mul_le_mul_of_nonneg_right (hl p (by simp)) (show 0 ≤ p.2.2 by omega)
    rw [sumW_cons, sumD_cons, Int.mul_add, List.length_cons, Int.add_mul hi 1 p.2.2]
    unfold pD
    push_cast
    omega
theorem fl_lo {lo A W : Int} (hW : 0 < W) (h : lo * W ≤ A) : lo ≤ A / W := Int.le_ediv_of_mul_le hW h
theorem fl_hi {hi A W : Int} (hW : 0 < W) (h : A < hi * W) : A / W < hi := Int.ediv_lt_of_lt_mul hW h
theorem sumW_pos {l : List P3} (h : ∀ p ∈ l, pR p = true ∧ PIn p) (hn : 0 < l.length) : 0 < sumW l := by
  have := sumW_bd (l := l) (fun p hp => pR_isP (h p hp).2 (h p hp).1); omega
theorem fl_near {t lo hi : Int} {l : List P3} (h : ∀ p ∈ l, pR p = true ∧ PIn p) (hn : 0 < l.length) (h0 : ∀ p ∈ l, lo ≤ dif p.1 t) (h1 : ∀ p ∈ l, dif p.1 t ≤ hi) : lo ≤ sumD t l / sumW l ∧ sumD t l / sumW l ≤ hi := by
  have hW := sumW_pos h hn
  have a := fl_lo hW (sum_lo h h0)
  have b := fl_hi (A := sumD t l) (hi := hi + 1) hW (by have := sum_hi (t := t) (hi := hi) h h1; omega)
  exact ⟨a, by omega⟩
theorem pD_adv {t b : Int} {p : P3} (h0 : -9223372036854775808 ≤ dif p.1 t - b) (h1 : dif p.1 t - b ≤ 9223372036854775807) : pD (adv t b) p = pD t p - b * p.2.2 := by
  unfold pD; rw [dif_adv_r h0 h1, Int.sub_mul]; omega
theorem sumD_adv {t b : Int} : ∀ {l : List P3}, (∀ p ∈ l, -9223372036854775808 ≤ dif p.1 t - b ∧ dif p.1 t - b ≤ 9223372036854775807) → sumD (adv t b) l = sumD t l - b * sumW l
  | [], _ => by simp [sumD, sumW]
  | p :: l, h => by
    rw [sumD_cons, sumD_cons, sumW_cons, sumD_adv (fun q hq => h q (by simp [hq])), pD_adv (h p (by simp)).1 (h p (by simp)).2, Int.mul_add]
    omega
theorem div_less (A b : Int) {W : Int} (hW : 0 < W) : (A - b * W) / W = A / W - b := by
  rw [Int.sub_eq_add_neg, ← Int.neg_mul, Int.add_mul_ediv_right _ _ (by omega)]; omega

/-- From another base near the time: the mean is the first one, rebased; the virtual time is the same. -/
theorem base_reb {t b : Int} {l : List P3} (hl : ∀ p ∈ l, NrP 1152921504606846976 t p) (b0 : -1152921504606846976 < b) (b1 : b < 1152921504606846976) (hn : l.length ≤ 32) : (Mu.sums t l).reb (adv t b) = (true, Mu.sums (adv t b) l) := by
  have hr : ∀ p ∈ l, pR p = true ∧ PIn p := fun p hp => (hl p hp).1
  have h1 := sums_right t hr hn
  have e1 : dif (adv t b) t = b := dif_adv t (by omega) (by omega)
  have e2 := sumD_adv (t := t) (b := b) (l := l) (fun p hp => by have := (hl p hp).2; omega)
  have h2 := sums_wr (adv t b) hr (by omega)
  rw [e2] at h2
  unfold Mu.reb Mu.rebOk
  rw [h1]
  have e3 : (Mu.sums t l).b = t := rfl
  have e4 : (Mu.sums t l).a = sumD t l := rfl
  have e5 : (Mu.sums t l).w = sumW l := rfl
  rw [e3, e4, e5, e1, okW_iff.2 h2]
  rw [if_pos (by rfl), ← e2]
  rfl
theorem base_fl {t b : Int} {l : List P3} (hl : ∀ p ∈ l, NrP 1152921504606846976 t p) (b0 : -1152921504606846976 < b) (b1 : b < 1152921504606846976) (h0 : 0 < l.length) (hn : l.length ≤ 32) : (Mu.sums (adv t b) l).fl = (true, adv t (sumD t l / sumW l)) := by
  have hr : ∀ p ∈ l, pR p = true ∧ PIn p := fun p hp => (hl p hp).1
  have h1 := sums_right (adv t b) hr hn
  have hW := sumW_pos hr h0
  have e2 := sumD_adv (t := t) (b := b) (l := l) (fun p hp => by have := (hl p hp).2; omega)
  have hf := fl_near (t := t) (lo := -1152921504606846976) (hi := 1152921504606846976) hr h0 (fun p hp => by have := (hl p hp).2; omega) (fun p hp => by have := (hl p hp).2; omega)
  have e3 : (Mu.sums (adv t b) l).a / (Mu.sums (adv t b) l).w = sumD t l / sumW l - b := by
    show sumD (adv t b) l / sumW l = _
    rw [e2, div_less _ _ hW]
  have hok : (Mu.sums (adv t b) l).flOk = true := by
    unfold Mu.flOk
    rw [h1, e3]
    simp only [Bool.true_and, Bool.and_eq_true, decide_eq_true_eq, smI]
    refine ⟨?_, by omega, by omega⟩
    show ((l.length : Nat) : Int) ≠ 0
    omega
  unfold Mu.fl
  rw [if_pos hok, e3]
  show (true, adv (adv t b) _) = _
  rw [adv_adv]
  congr 2
  omega
theorem adv_wrap0 {t : Int} (h : IsT t) : adv t 0 = t := adv_zero h
theorem near_fl {t : Int} {l : List P3} (ht : IsT t) (hl : ∀ p ∈ l, NrP 1152921504606846976 t p) (h0 : 0 < l.length) (hn : l.length ≤ 32) : (Mu.sums t l).fl = (true, adv t (sumD t l / sumW l)) := by
  have := base_fl (b := 0) hl (by decide) (by decide) h0 hn
  rwa [adv_zero ht] at this

/-- The first one of positions. -/
def cmpP (p q : P3) : Int := posC p.1 p.2.1 p.2.2 q.1 q.2.1 q.2.2
def firP (f p : P3) : P3 := if cmpP p f < 0 then p else f
def lasP (f p : P3) : P3 := if 0 < cmpP p f then p else f
theorem cmpP_lt {t : Int} {p q : P3} (hp : -2305843009213693952 < dif p.1 t ∧ dif p.1 t < 2305843009213693952) (hq : -2305843009213693952 < dif q.1 t ∧ dif q.1 t < 2305843009213693952) :
    (cmpP p q < 0 → dif p.1 t ≤ dif q.1 t) ∧ (¬ cmpP p q < 0 → dif q.1 t ≤ dif p.1 t) ∧ (0 < cmpP p q → dif q.1 t ≤ dif p.1 t) ∧ (¬ 0 < cmpP p q → dif p.1 t ≤ dif q.1 t) := by
  have e : dif q.1 p.1 = dif q.1 t - dif p.1 t := dif_near2 (by omega) (by omega)
  unfold cmpP posC
  by_cases h : dif q.1 p.1 = 0
  · rw [if_neg (by omega)]
    exact ⟨fun _ => by omega, fun _ => by omega, fun _ => by omega, fun _ => by omega⟩
  · rw [if_pos h, e]
    unfold cmpI
    split
    · exact ⟨fun _ => by omega, fun _ => by omega, fun _ => by omega, fun _ => by omega⟩
    · split
      · exact ⟨fun _ => by omega, fun _ => by omega, fun _ => by omega, fun _ => by omega⟩
      · exact ⟨fun _ => by omega, fun _ => by omega, fun _ => by omega, fun _ => by omega⟩
theorem ends_fold {t : Int} : ∀ (l : List P3) (f g : P3), NrP 1152921504606846976 t f → NrP 1152921504606846976 t g → (∀ p ∈ l, NrP 1152921504606846976 t p) →
    (NrP 1152921504606846976 t (l.foldl firP f) ∧ dif (l.foldl firP f).1 t ≤ dif f.1 t ∧ ∀ p ∈ l, dif (l.foldl firP f).1 t ≤ dif p.1 t) ∧
    (NrP 1152921504606846976 t (l.foldl lasP g) ∧ dif g.1 t ≤ dif (l.foldl lasP g).1 t ∧ ∀ p ∈ l, dif p.1 t ≤ dif (l.foldl lasP g).1 t)
  | [], f, g, hf, hg, _ => ⟨⟨hf, by simp, by simp⟩, hg, by simp, by simp⟩
  | p :: l, f, g, hf, hg, hl => by
    have hp := hl p (by simp)
    have c1 := cmpP_lt (t := t) (p := p) (q := f) (by have := hp.2; omega) (by have := hf.2; omega)
    have c2 := cmpP_lt (t := t) (p := p) (q := g) (by have := hp.2; omega) (by have := hg.2; omega)
    have hf2 : NrP 1152921504606846976 t (firP f p) ∧ dif (firP f p).1 t ≤ dif f.1 t ∧ dif (firP f p).1 t ≤ dif p.1 t := by
      unfold firP; split
      · exact ⟨hp, c1.1 ‹_›, Int.le_refl _⟩
      · exact ⟨hf, Int.le_refl _, c1.2.1 ‹_›⟩
    have hg2 : NrP 1152921504606846976 t (lasP g p) ∧ dif g.1 t ≤ dif (lasP g p).1 t ∧ dif p.1 t ≤ dif (lasP g p).1 t := by
      unfold lasP; split
      · exact ⟨hp, c2.2.2.1 ‹_›, Int.le_refl _⟩
      · exact ⟨hg, Int.le_refl _, c2.2.2.2 ‹_›⟩
    obtain ⟨⟨i1, i2, i3⟩, j1, j2, j3⟩ := ends_fold l _ _ hf2.1 hg2.1 (fun q hq => hl q (by simp [hq]))
    rw [List.foldl_cons, List.foldl_cons]
    refine ⟨⟨i1, by omega, fun q hq => ?_⟩, j1, by omega, fun q hq => ?_⟩
    · rcases List.mem_cons.1 hq with rfl | h
      · omega
      · exact i3 q h
    · rcases List.mem_cons.1 hq with rfl | h
      · omega
      · exact j3 q h
/-- Where all are together lies between the first and the last of them. -/
theorem between {t : Int} {p0 : P3} {l : List P3} (hl : ∀ p ∈ p0 :: l, NrP 1152921504606846976 t p) :
    0 ≤ dif (adv t (sumD t (p0 :: l) / sumW (p0 :: l))) ((p0 :: l).foldl firP p0).1 ∧ 0 ≤ dif ((p0 :: l).foldl lasP p0).1 (adv t (sumD t (p0 :: l) / sumW (p0 :: l))) := by
  have h0 := hl p0 (by simp)
  obtain ⟨⟨i1, i2, i3⟩, j1, j2, j3⟩ := ends_fold (p0 :: l) p0 p0 h0 h0 hl
  have hf := fl_near (fun p hp => (hl p hp).1) (by simp) i3 j3
  have a := i1.2
  have b := j1.2
  rw [dif_adv_l (by omega) (by omega), dif_adv_r (by omega) (by omega)]
  omega

/-- Positions that are shifted. -/
def shP (d : Int) (p : P3) : P3 := (IntKind.u64.wrap (p.1 + d), p.2.1, p.2.2)
theorem dif_wrapM (t u d : Int) : dif (IntKind.u64.wrap (t + d)) (IntKind.u64.wrap (u + d)) = dif t u := by
  rw [IntKind.wrap_u64, IntKind.wrap_u64]; unfold dif; omega
theorem pD_sh (base d : Int) (p : P3) : pD (IntKind.u64.wrap (base + d)) (shP d p) = pD base p := by unfold pD shP; rw [dif_wrapM]
theorem pR_sh (d : Int) (p : P3) : pR (shP d p) = pR p := rfl
theorem shP_in (d : Int) {p : P3} (h : PIn p) : PIn (shP d p) := ⟨by unfold shP; simp only; rw [IntKind.wrap_u64]; omega, h.2⟩
theorem sumD_sh (base d : Int) : ∀ l : List P3, sumD (IntKind.u64.wrap (base + d)) (l.map (shP d)) = sumD base l
  | [] => rfl
  | p :: l => by rw [List.map_cons, sumD_cons, sumD_cons, pD_sh, sumD_sh base d l]
theorem sumW_sh (d : Int) : ∀ l : List P3, sumW (l.map (shP d)) = sumW l
  | [] => rfl
  | p :: l => by rw [List.map_cons, sumW_cons, sumW_cons, sumW_sh d l]; rfl
theorem of_sh (base d : Int) {l : List P3} (hl : ∀ q ∈ l, PIn q) :
    (Mu.of base l).1 = (Mu.of (IntKind.u64.wrap (base + d)) (l.map (shP d))).1 ∧ (Mu.of base l).2.a = (Mu.of (IntKind.u64.wrap (base + d)) (l.map (shP d))).2.a ∧
    (Mu.of base l).2.w = (Mu.of (IntKind.u64.wrap (base + d)) (l.map (shP d))).2.w ∧ (Mu.of base l).2.n = (Mu.of (IntKind.u64.wrap (base + d)) (l.map (shP d))).2.n ∧
    ((Mu.of base l).1 = true → (Mu.of base l).2.b = base ∧ (Mu.of (IntKind.u64.wrap (base + d)) (l.map (shP d))).2.b = IntKind.u64.wrap (base + d)) ∧
    ((Mu.of base l).1 = false → (Mu.of base l).2 = Mu.no ∧ (Mu.of (IntKind.u64.wrap (base + d)) (l.map (shP d))).2 = Mu.no) := by
  rw [of_eq base l hl, of_eq (IntKind.u64.wrap (base + d)) (l.map (shP d)) (fun q hq => by
    obtain ⟨p, hp, rfl⟩ := List.mem_map.1 hq
    exact shP_in d (hl p hp))]
  have e : ((l.map (shP d)).length ≤ 32 ∧ ∀ q ∈ l.map (shP d), pR q = true) ↔ (l.length ≤ 32 ∧ ∀ q ∈ l, pR q = true) := by
    rw [List.length_map]
    constructor
    · intro h
      exact ⟨h.1, fun q hq => by have := h.2 (shP d q) (List.mem_map.2 ⟨q, hq, rfl⟩); rwa [pR_sh] at this⟩
    · intro h
      exact ⟨h.1, fun q hq => by
        obtain ⟨p, hp, rfl⟩ := List.mem_map.1 hq
        rw [pR_sh]; exact h.2 p hp⟩
  by_cases c : l.length ≤ 32 ∧ ∀ q ∈ l, pR q = true
  · rw [if_pos c, if_pos (e.2 c)]
    simp [Mu.sums, sumD_sh, sumW_sh]
  · rw [if_neg c, if_neg (fun h => c (e.1 h))]
    simp
theorem adv_wrapM (b d q : Int) : adv (IntKind.u64.wrap (b + d)) q = IntKind.u64.wrap (adv b q + d) := by
  rw [IntKind.wrap_u64, IntKind.wrap_u64]; unfold adv; omega
/-- What the law asks of positions that are shifted. -/
theorem fl_sh (base d : Int) {l : List P3} (hl : ∀ q ∈ l, PIn q) :
    (Mu.of base l).2.fl.1 = (Mu.of (IntKind.u64.wrap (base + d)) (l.map (shP d))).2.fl.1 ∧
    ((Mu.of base l).2.fl.1 = true → (Mu.of (IntKind.u64.wrap (base + d)) (l.map (shP d))).2.fl.2 = IntKind.u64.wrap ((Mu.of base l).2.fl.2 + d)) := by
  obtain ⟨h1, h2, h3, h4, h5, h6⟩ := of_sh base d hl
  generalize Mu.of base l = A at *
  generalize Mu.of (IntKind.u64.wrap (base + d)) (l.map (shP d)) = B at *
  obtain ⟨oa, ma⟩ := A
  obtain ⟨ob, mb⟩ := B
  simp only at *
  cases oa with
  | true =>
    obtain ⟨e1, e2⟩ := h5 rfl
    have hf : ma.flOk = mb.flOk := by unfold Mu.flOk Mu.right; rw [h2, h3, h4]
    unfold Mu.fl
    rw [← hf]
    cases ma.flOk with
    | true =>
      rw [if_pos rfl, if_pos rfl]
      refine ⟨rfl, fun _ => ?_⟩
      simp only
      rw [e1, e2, h2, h3, adv_wrapM]
    | false =>
      rw [if_neg (by decide), if_neg (by decide)]
      exact ⟨rfl, fun h => by cases h⟩
  | false =>
    obtain ⟨e1, e2⟩ := h6 rfl
    rw [e1, e2]
    exact ⟨rfl, fun h => by cases h⟩
end

/- Lags and places, as numbers. -/
section
open Go.RowKit

theorem okW_bd {a : Int} (h0 : -170141183460469231731687303715884105728 ≤ a) (h1 : a ≤ 170141183460469231731687303715884105727) : okW a = true := okW_iff.2 ⟨h0, h1⟩
theorem right_w {m : Mu} (h : m.right = true) (hn : m.n ≠ 0) : (1 ≤ m.n ∧ m.n ≤ 32) ∧ m.n ≤ m.w ∧ m.w ≤ 33554432 := by
  unfold Mu.right at h
  rw [if_neg hn] at h
  simp only [Bool.and_eq_true, decide_eq_true_eq] at h
  omega
theorem right_bd {m : Mu} (h : m.right = true) : (0 ≤ m.n ∧ m.n ≤ 32) ∧ 0 ≤ m.w ∧ m.w ≤ 33554432 := by
  unfold Mu.right at h
  split at h
  · simp only [Bool.and_eq_true, decide_eq_true_eq] at h; omega
  · simp only [Bool.and_eq_true, decide_eq_true_eq] at h; omega
/-- Where a mean's sum isn't too great there is a lag. -/
theorem ov_yes {m : Mu} {p : P3} (hm : m.right = true) (hn : m.n ≠ 0) (hp : pR p = true ∧ PIn p) (a0 : -1267650600228229401496703205376 ≤ m.a) (a1 : m.a ≤ 1267650600228229401496703205376) : m.ovOk p = true := by
  obtain ⟨v0, v1, r0, r1⟩ := pR_isP hp.2 hp.1
  obtain ⟨_, w0, w1⟩ := right_w hm hn
  have e1 := mulBd (V := 1048576) a0 a1 (show 0 ≤ p.2.2 by omega) v1 (by decide)
  have e2 := pD_bdR m.b hp.2 hp.1
  have e3 := mulBd (d := pD m.b p) (M := 9671406556917033398697984) (V := 33554432) (by omega) (by omega) (show 0 ≤ m.w by omega) w1 (by decide)
  unfold Mu.ovOk
  rw [hm, hp.1]
  simp only [Bool.true_and, Bool.and_true, Bool.and_eq_true, decide_eq_true_eq]
  exact ⟨⟨hn, okW_bd (by omega) (by omega)⟩, okW_bd (by omega) (by omega)⟩
theorem sums_a (t : Int) {l : List P3} (hr : ∀ p ∈ l, pR p = true ∧ PIn p) (hn : l.length ≤ 40) : -1267650600228229401496703205376 ≤ sumD t l ∧ sumD t l ≤ 1267650600228229401496703205376 := by
  have := sumD_bd t hr; omega
theorem sums_n {t : Int} {l : List P3} (h0 : 0 < l.length) : (Mu.sums t l).n ≠ 0 := by
  show ((l.length : Nat) : Int) ≠ 0
  omega
theorem sums_ov {t : Int} {l : List P3} {p : P3} (hr : ∀ p ∈ l, pR p = true ∧ PIn p) (hn : l.length ≤ 32) (h0 : 0 < l.length) (hp : pR p = true ∧ PIn p) : (Mu.sums t l).ovOk p = true :=
  ov_yes (sums_right t hr hn) (sums_n h0) hp (sums_a t hr (by omega)).1 (sums_a t hr (by omega)).2

/-- The lag hangs on no base. -/
theorem ov_base {t b : Int} {l : List P3} {p : P3} (hl : ∀ p ∈ l, NrP 1152921504606846976 t p) (hp : p ∈ l) (b0 : -1152921504606846976 < b) (b1 : b < 1152921504606846976) : (Mu.sums (adv t b) l).ov p = (Mu.sums t l).ov p := by
  have e2 := sumD_adv (t := t) (b := b) (l := l) (fun p hp => by have := (hl p hp).2; omega)
  have e3 := pD_adv (t := t) (b := b) (p := p) (by have := (hl p hp).2; omega) (by have := (hl p hp).2; omega)
  show sumD (adv t b) l * p.2.2 - pD (adv t b) p * sumW l = sumD t l * p.2.2 - pD t p * sumW l
  rw [e2, e3]
  grind

/-- Between two quotients: what two numbers lie apart. -/
theorem quo_le {x y W k : Int} (hW : 0 < W) (h : y ≤ x + k * W) : y / W ≤ x / W + k := by
  have e := Int.add_mul_ediv_right x k (c := W) (by omega)
  rw [← e]
  exact Int.ediv_le_ediv hW h
theorem quo_ge {x y W k : Int} (hW : 0 < W) (h : x + k * W ≤ y) : x / W + k ≤ y / W := by
  have e := Int.add_mul_ediv_right x k (c := W) (by omega)
  rw [← e]
  exact Int.ediv_le_ediv hW h

/-- Somebody is served: its own lag. -/
theorem move_own {a D v W g : Int} (hW : 0 < W) (v0 : 0 ≤ v) (v1 : v ≤ W) (g0 : 0 ≤ g) :
    -g ≤ ((a + g) * v - (D + g) * W) / W - (a * v - D * W) / W ∧ ((a + g) * v - (D + g) * W) / W - (a * v - D * W) / W ≤ 0 := by
  have e : (a + g) * v - (D + g) * W = (a * v - D * W) + g * v - g * W := by grind
  have h1 : 0 ≤ g * v := Int.mul_nonneg g0 v0
  have h2 : g * v ≤ g * W := Int.mul_le_mul_of_nonneg_left v1 g0
  have a1 := quo_le (x := a * v - D * W) (y := (a + g) * v - (D + g) * W) (k := 0) hW (by rw [e]; omega)
  have a2 := quo_ge (x := a * v - D * W) (y := (a + g) * v - (D + g) * W) (k := -g) hW (by rw [e, Int.neg_mul]; omega)
  omega
/-- And another one's. -/
theorem move_other {a D v W g : Int} (hW : 0 < W) (v0 : 0 ≤ v) (v1 : v ≤ W) (g0 : 0 ≤ g) :
    0 ≤ ((a + g) * v - D * W) / W - (a * v - D * W) / W ∧ ((a + g) * v - D * W) / W - (a * v - D * W) / W ≤ g + 1 := by
  have e : (a + g) * v - D * W = (a * v - D * W) + g * v := by grind
  have h1 : 0 ≤ g * v := Int.mul_nonneg g0 v0
  have h2 : g * v ≤ g * W := Int.mul_le_mul_of_nonneg_left v1 g0
  have a1 := quo_le (x := a * v - D * W) (y := (a + g) * v - D * W) (k := g) hW (by rw [e]; omega)
  have a2 := quo_ge (x := a * v - D * W) (y := (a + g) * v - D * W) (k := 0) hW (by rw [e]; omega)
  omega
theorem w_le_sum {l : List P3} (h : ∀ p ∈ l, pR p = true ∧ PIn p) {p : P3} (hp : p ∈ l) : p.2.2 ≤ sumW l := by
  induction l with
  | nil => cases hp
  | cons q l ih =>
    rw [sumW_cons]
    have hb := sumW_bd (l := l) (fun p hp => pR_isP (h p (by simp [hp])).2 (h p (by simp [hp])).1)
    obtain ⟨v0, _⟩ := pR_isP (h q (by simp)).2 (h q (by simp)).1
    rcases List.mem_cons.1 hp with rfl | h1
    · omega
    · have := ih (fun q hq => h q (by simp [hq])) h1; omega

/-- One that comes in: the distance. -/
def Mu.plD (m : Mu) (w o : Int) : Int := (m.a * w - o * (m.w + w)) / m.w
def Mu.plOk1 (m : Mu) (w o : Int) : Bool := okW (m.a * w) && okW (m.a * w - o * (m.w + w))
/-- Of what is put in so far the parts. -/
theorem place_own {a W w o : Int} (hW : 0 < W) (hw : 0 < w) : ((a + (a * w - o * (W + w)) / W) * w - (a * w - o * (W + w)) / W * (W + w)) / (W + w) = o := by
  have h1 := Int.emod_add_mul_ediv (a * w - o * (W + w)) W
  have h2 := Int.emod_nonneg (a * w - o * (W + w)) (show W ≠ 0 by omega)
  have h3 := Int.emod_lt_of_pos (a * w - o * (W + w)) hW
  generalize (a * w - o * (W + w)) / W = D at *
  generalize (a * w - o * (W + w)) % W = e at *
  have h4 : (a + D) * w - D * (W + w) = e + o * (W + w) := by grind
  rw [h4, Int.add_mul_ediv_right _ _ (by omega), Int.ediv_eq_zero_of_lt h2 (by omega)]
  omega
/-- What another one's lag moves by, in whole numbers. -/
theorem place_eq {a W w o v d : Int} (hW : 0 < W) (hw : 0 < w) :
    ∃ e x y : Int, (0 ≤ e ∧ e < W) ∧ (0 ≤ x ∧ x < W) ∧ (0 ≤ y ∧ y < W + w) ∧
      W * (W + w) * (((a + (a * w - o * (W + w)) / W) * v - d * (W + w)) / (W + w) - (a * v - d * W) / W) = (W + w) * x - W * y - v * o * (W + w) - v * e := by
  have h1 := Int.emod_add_mul_ediv (a * w - o * (W + w)) W
  have h2 := Int.emod_nonneg (a * w - o * (W + w)) (show W ≠ 0 by omega)
  have h3 := Int.emod_lt_of_pos (a * w - o * (W + w)) hW
  generalize (a * w - o * (W + w)) / W = D at *
  generalize (a * w - o * (W + w)) % W = e at *
  have i1 := Int.emod_add_mul_ediv (a * v - d * W) W
  have i2 := Int.emod_nonneg (a * v - d * W) (show W ≠ 0 by omega)
  have i3 := Int.emod_lt_of_pos (a * v - d * W) hW
  have j1 := Int.emod_add_mul_ediv ((a + D) * v - d * (W + w)) (W + w)
  have j2 := Int.emod_nonneg ((a + D) * v - d * (W + w)) (show W + w ≠ 0 by omega)
  have j3 := Int.emod_lt_of_pos ((a + D) * v - d * (W + w)) (show 0 < W + w by omega)
  refine ⟨e, _, _, ⟨h2, h3⟩, ⟨i2, i3⟩, ⟨j2, j3⟩, ?_⟩
  generalize ((a + D) * v - d * (W + w)) / (W + w) = qb at *
  generalize (a * v - d * W) / W = qa at *
  generalize ((a + D) * v - d * (W + w)) % (W + w) = y at *
  generalize (a * v - d * W) % W = x at *
  grind
/-- The virtual time, in whole numbers. -/
theorem place_fl {a W w : Int} (hW : 0 < W) (hw : 0 < w) : 0 ≤ a / W - (a + a * w / W) / (W + w) ∧ a / W - (a + a * w / W) / (W + w) ≤ 1 := by
  have h1 := Int.emod_add_mul_ediv (a * w) W
  have h2 := Int.emod_nonneg (a * w) (show W ≠ 0 by omega)
  have h3 := Int.emod_lt_of_pos (a * w) hW
  generalize a * w / W = D at *
  generalize a * w % W = e at *
  have i1 := Int.emod_add_mul_ediv a W
  have i2 := Int.emod_nonneg a (show W ≠ 0 by omega)
  have i3 := Int.emod_lt_of_pos a hW
  have j1 := Int.emod_add_mul_ediv (a + D) (W + w)
  have j2 := Int.emod_nonneg (a + D) (show W + w ≠ 0 by omega)
  have j3 := Int.emod_lt_of_pos (a + D) (show 0 < W + w by omega)
  generalize (a + D) / (W + w) = q' at *
  generalize a / W = q at *
  generalize (a + D) % (W + w) = r' at *
  generalize a % W = r at *
  have key : W * (W + w) * (q - q') = W * r' + e - r * (W + w) := by grind
  have u1 : W * r' ≤ W * (W + w - 1) := Int.mul_le_mul_of_nonneg_left (by omega) (by omega)
  have u2 : 0 ≤ W * r' := Int.mul_nonneg (by omega) j2
  have u3 : 0 ≤ r * (W + w) := Int.mul_nonneg i2 (by omega)
  have u4 : r * (W + w) ≤ (W - 1) * (W + w) := Int.mul_le_mul_of_nonneg_right (by omega) (by omega)
  have u5 : W * (W + w - 1) = W * (W + w) - W := by grind
  have u6 : (W - 1) * (W + w) = W * (W + w) - (W + w) := by grind
  have hN : 0 < W * (W + w) := Int.mul_pos hW (by omega)
  refine ⟨?_, ?_⟩
  · have h : W * (W + w) * (-1) < W * (W + w) * (q - q') := by rw [key]; omega
    have := Int.lt_of_mul_lt_mul_left h (by omega)
    omega
  · have h : W * (W + w) * (q - q') < W * (W + w) * 2 := by rw [key]; omega
    have := Int.lt_of_mul_lt_mul_left h (by omega)
    omega
/-- The bounds of what another one's lag moves by. -/
theorem place_bd {N W v o e x y k : Int} (hW : 0 < W) (hWN : W < N) (v0 : 0 ≤ v) (v1 : v ≤ W) (he : 0 ≤ e ∧ e < W) (hx : 0 ≤ x ∧ x < W) (hy : 0 ≤ y ∧ y < N)
    (h : W * N * k = N * x - W * y - v * o * N - v * e) : (0 ≤ o → k ≤ 0 ∧ -(o + 2) < k) ∧ (o ≤ 0 → -2 < k ∧ k ≤ -o) := by
  have hN : 0 < W * N := Int.mul_pos hW (by omega)
  have a1 : N * x ≤ N * (W - 1) := Int.mul_le_mul_of_nonneg_left (by omega) (by omega)
  have a1' : N * (W - 1) = W * N - N := by grind
  have a2 : 0 ≤ N * x := Int.mul_nonneg (by omega) hx.1
  have b1 : W * y ≤ W * (N - 1) := Int.mul_le_mul_of_nonneg_left (by omega) (by omega)
  have b1' : W * (N - 1) = W * N - W := by grind
  have b2 : 0 ≤ W * y := Int.mul_nonneg (by omega) hy.1
  have c1 : v * e ≤ W * e := Int.mul_le_mul_of_nonneg_right v1 he.1
  have c1' : W * e ≤ W * (W - 1) := Int.mul_le_mul_of_nonneg_left (by omega) (by omega)
  have c1'' : W * (W - 1) ≤ W * (N - 2) := Int.mul_le_mul_of_nonneg_left (by omega) (by omega)
  have c1''' : W * (N - 2) = W * N - 2 * W := by grind
  have c2 : 0 ≤ v * e := Int.mul_nonneg v0 he.1
  refine ⟨fun ho => ⟨?_, ?_⟩, fun ho => ⟨?_, ?_⟩⟩
  · have d : 0 ≤ v * o * N := Int.mul_nonneg (Int.mul_nonneg v0 ho) (by omega)
    have g : W * N * k < W * N * 1 := by rw [h]; omega
    have := Int.lt_of_mul_lt_mul_left g (by omega)
    omega
  · have d : v * o * N ≤ W * o * N := Int.mul_le_mul_of_nonneg_right (Int.mul_le_mul_of_nonneg_right v1 ho) (by omega)
    have d' : W * N * (-(o + 2)) = -(W * o * N) - 2 * (W * N) := by grind
    have g : W * N * (-(o + 2)) < W * N * k := by rw [h, d']; omega
    exact Int.lt_of_mul_lt_mul_left g (by omega)
  · have d : v * o * N ≤ 0 := by
      have : 0 ≤ v * (-o) * N := Int.mul_nonneg (Int.mul_nonneg v0 (by omega)) (by omega)
      have e2 : v * (-o) * N = -(v * o * N) := by grind
      omega
    have g : W * N * (-2) < W * N * k := by rw [h]; omega
    exact Int.lt_of_mul_lt_mul_left g (by omega)
  · have d : -(v * o * N) ≤ -(W * o * N) := by
      have e1 : v * (-o) * N ≤ W * (-o) * N := Int.mul_le_mul_of_nonneg_right (Int.mul_le_mul_of_nonneg_right v1 (by omega)) (by omega)
      have e2 : v * (-o) * N = -(v * o * N) := by grind
      have e3 : W * (-o) * N = -(W * o * N) := by grind
      omega
    have d' : W * N * (-o + 1) = -(W * o * N) + W * N := by grind
    have g : W * N * k < W * N * (-o + 1) := by rw [h, d']; omega
    have := Int.lt_of_mul_lt_mul_left g (by omega)
    omega

/-- Where a distance leads. -/
def atOk (d v : Int) : Bool := decide (1 ≤ v ∧ v ≤ 1048576) && smI (d / v)
def atP (base d v : Int) : P3 := if atOk d v = true then (adv base (d / v), d % v, v) else (0, 0, 0)
theorem atOk_iff {d v : Int} : atOk d v = true ↔ AtOk d v := by
  unfold atOk AtOk smI
  simp only [Bool.and_eq_true, decide_eq_true_eq]
  constructor
  · intro h; exact ⟨h.1.1, h.1.2, h.2⟩
  · intro h; exact ⟨⟨h.1, h.2.1⟩, h.2.2⟩
end

/- Who comes in among positions near a time, as numbers. -/
section
open Go.RowKit

theorem atP_yes {b d v : Int} (h : AtOk d v) : atP b d v = (adv b (d / v), d % v, v) := by unfold atP; rw [if_pos (atOk_iff.2 h)]
theorem atP_right {b d v : Int} (h : AtOk d v) : pR (atP b d v) = true ∧ PIn (atP b d v) := by
  rw [atP_yes h]
  obtain ⟨v0, v1, q0, q1⟩ := h
  have r0 := Int.emod_nonneg d (show v ≠ 0 by omega)
  have r1 := Int.emod_lt_of_pos d (show 0 < v by omega)
  refine ⟨?_, adv_T _ _, ?_, ?_⟩
  · unfold pR; simp only [Bool.and_eq_true, decide_eq_true_eq]; omega
  · simp only; omega
  · simp only; omega
theorem atP_D {b d v : Int} (h : AtOk d v) : pD b (atP b d v) = d := by
  rw [atP_yes h]
  obtain ⟨v0, v1, q0, q1⟩ := h
  show dif (adv b (d / v)) b * v + d % v = d
  rw [dif_adv b q0 q1]
  have := Int.emod_add_mul_ediv d v
  rw [Int.mul_comm] at this
  omega
theorem atP_w {b d v : Int} (h : AtOk d v) : (atP b d v).2.2 = v := by rw [atP_yes h]
theorem cmp_mono {b v D1 D2 : Int} (h1 : AtOk D1 v) (h2 : AtOk D2 v) (n1 : -2305843009213693952 ≤ D1 / v ∧ D1 / v ≤ 2305843009213693952) (n2 : -2305843009213693952 ≤ D2 / v ∧ D2 / v ≤ 2305843009213693952) (h : D1 ≤ D2) : ¬ 0 < cmpP (atP b D1 v) (atP b D2 v) := by
  rw [atP_yes h1, atP_yes h2]
  have v0 := h1.1
  have p1 : IsP (D1 % v) v := ⟨h1.1, h1.2.1, Int.emod_nonneg _ (by omega), Int.emod_lt_of_pos _ (by omega)⟩
  have p2 : IsP (D2 % v) v := ⟨h2.1, h2.2.1, Int.emod_nonneg _ (by omega), Int.emod_lt_of_pos _ (by omega)⟩
  unfold cmpP
  simp only
  rw [posC_eq p1 p2, dif_near b (by omega) (by omega)]
  have e1 := Int.emod_add_mul_ediv D1 v
  have e2 := Int.emod_add_mul_ediv D2 v
  rw [Int.mul_sub, cmpI_pos]
  omega

/-- What is known of positions around a time. -/
structure Ring (t : Int) (l : List P3) : Prop where
  near : ∀ p ∈ l, NrP 576460752303423488 t p
  some : 0 < l.length
  few : l.length ≤ 31
theorem Ring.ok {t : Int} {l : List P3} (h : Ring t l) : ∀ p ∈ l, pR p = true ∧ PIn p := fun p hp => (h.near p hp).1
theorem Ring.W {t : Int} {l : List P3} (h : Ring t l) : 0 < sumW l := sumW_pos h.ok h.some
theorem Ring.right {t : Int} {l : List P3} (h : Ring t l) : (Mu.sums t l).right = true := sums_right t h.ok (by have := h.few; omega)
theorem Ring.n {t : Int} {l : List P3} (h : Ring t l) : (Mu.sums t l).n ≠ 0 := sums_n h.some
theorem Ring.lo {t : Int} {l : List P3} (h : Ring t l) : -576460752303423488 * sumW l ≤ sumD t l := sum_lo h.ok (fun p hp => by have := (h.near p hp).2; omega)
theorem Ring.hi {t : Int} {l : List P3} (h : Ring t l) : sumD t l ≤ 576460752303423489 * sumW l := by
  have := sum_hi (t := t) (hi := 576460752303423488) h.ok (fun p hp => by have := (h.near p hp).2; omega)
  omega
/-- Where one comes in. -/
theorem Ring.in_ {t : Int} {l : List P3} (h : Ring t l) {w o : Int} (w0 : 1 ≤ w) (w1 : w ≤ 1048576) (o0 : -1125899906842624 < o) (o1 : o < 1125899906842624) :
    (-1152921504606846976 ≤ (Mu.sums t l).plD w o / w ∧ (Mu.sums t l).plD w o / w ≤ 1152921504606846976) ∧ AtOk ((Mu.sums t l).plD w o) w ∧ (Mu.sums t l).plOk1 w o = true := by
  have hW := h.W
  have hWb := (right_w h.right h.n).2.2
  have hlo := h.lo
  have hhi := h.hi
  have e1 : (Mu.sums t l).a = sumD t l := rfl
  have e2 : (Mu.sums t l).w = sumW l := rfl
  rw [e2] at hWb
  unfold Mu.plD Mu.plOk1
  rw [e1, e2]
  generalize sumD t l = a at *
  generalize sumW l = W at *
  have x1 : -576460752303423488 * W * w ≤ a * w := Int.mul_le_mul_of_nonneg_right hlo (by omega)
  have x2 : a * w ≤ 576460752303423489 * W * w := Int.mul_le_mul_of_nonneg_right hhi (by omega)
  have y1 : o * (W + w) ≤ 1125899906842624 * (W + w) := Int.mul_le_mul_of_nonneg_right (by omega) (by omega)
  have y2 : -1125899906842624 * (W + w) ≤ o * (W + w) := Int.mul_le_mul_of_nonneg_right (by omega) (by omega)
  have z1 : W ≤ W * w := by have := Int.mul_le_mul_of_nonneg_left w0 (show 0 ≤ W by omega); omega
  have z2 : w ≤ W * w := by have := Int.mul_le_mul_of_nonneg_right (show 1 ≤ W by omega) (show 0 ≤ w by omega); omega
  have z3 : W * w ≤ 33554432 * 1048576 := by
    have a1 := Int.mul_le_mul_of_nonneg_right hWb (show 0 ≤ w by omega)
    have a2 := Int.mul_le_mul_of_nonneg_left w1 (show (0 : Int) ≤ 33554432 by decide)
    omega
  have k1 : -576460752303423488 * W * w = -576460752303423488 * (W * w) := Int.mul_assoc _ _ _
  have k2 : 576460752303423489 * W * w = 576460752303423489 * (W * w) := Int.mul_assoc _ _ _
  have m1 : -1152921504606846976 * (W * w) ≤ a * w - o * (W + w) := by omega
  have m2 : a * w - o * (W + w) ≤ 1152921504606846976 * (W * w) := by omega
  have ok1 : okW (a * w) = true := okW_bd (by omega) (by omega)
  have ok2 : okW (a * w - o * (W + w)) = true := okW_bd (by omega) (by omega)
  have d1 : -1152921504606846976 * w ≤ (a * w - o * (W + w)) / W := fl_lo hW (by
    have : -1152921504606846976 * w * W = -1152921504606846976 * (W * w) := by grind
    omega)
  have d2 : (a * w - o * (W + w)) / W ≤ 1152921504606846976 * w := by
    have := Int.ediv_le_ediv hW m2
    have e : 1152921504606846976 * (W * w) = 1152921504606846976 * w * W := by grind
    rw [e, Int.mul_ediv_cancel _ (by omega)] at this
    exact this
  have q1 : -1152921504606846976 ≤ (a * w - o * (W + w)) / W / w := fl_lo (by omega) d1
  have q2 : (a * w - o * (W + w)) / W / w ≤ 1152921504606846976 := by
    have := Int.ediv_le_ediv (show 0 < w by omega) d2
    rw [Int.mul_ediv_cancel _ (by omega)] at this
    exact this
  refine ⟨⟨q1, q2⟩, ⟨w0, w1, by omega, by omega⟩, ?_⟩
  rw [ok1, ok2]; rfl
/-- The mean with it. -/
def Mu.more (m : Mu) (w o : Int) : Mu := ⟨m.b, m.a + m.plD w o, m.w + w, m.n + 1⟩
theorem Ring.add {t : Int} {l : List P3} (h : Ring t l) {w o : Int} (w0 : 1 ≤ w) (w1 : w ≤ 1048576) (o0 : -1125899906842624 < o) (o1 : o < 1125899906842624) :
    (Mu.sums t l).add (atP t ((Mu.sums t l).plD w o) w) = (true, (Mu.sums t l).more w o) ∧ ((Mu.sums t l).more w o).right = true ∧ ((Mu.sums t l).more w o).n ≠ 0 ∧ -1267650600228229401496703205376 ≤ ((Mu.sums t l).more w o).a ∧ ((Mu.sums t l).more w o).a ≤ 1267650600228229401496703205376 := by
  obtain ⟨_, hok, _⟩ := h.in_ w0 w1 o0 o1
  have hr := h.right
  have hn := h.n
  obtain ⟨n0, n1, n2⟩ := right_w hr hn
  have hw : (Mu.sums t l).w = sumW l := rfl
  have hnn : (Mu.sums t l).n = l.length := rfl
  have ha := sums_a t h.ok (by have := h.few; omega)
  have hfew := h.few
  have hd := pD_bdR t (atP_right (b := t) hok).2 (atP_right (b := t) hok).1
  rw [atP_D hok] at hd
  have hwb := sumW_bd (l := l) (fun p hp => pR_isP (h.ok p hp).2 (h.ok p hp).1)
  have hsA : (Mu.sums t l).a = sumD t l := rfl
  have hsB : (Mu.sums t l).b = t := rfl
  have hsd := sumD_bd t h.ok
  have hA : (Mu.sums t l).addOk (atP t ((Mu.sums t l).plD w o) w) = true := by
    unfold Mu.addOk
    rw [hr, (atP_right hok).1, hsB, atP_D hok]
    simp only [Bool.true_and, Bool.and_eq_true, decide_eq_true_eq]
    refine ⟨by rw [hnn]; omega, okW_bd ?_ ?_⟩ <;> rw [hsA] <;> omega
  refine ⟨?_, ?_, ?_, ?_, ?_⟩
  · unfold Mu.add
    rw [if_pos hA, hsB, atP_D hok, atP_w hok]
    rfl
  · unfold Mu.right Mu.more
    rw [if_neg (by simp only; rw [hnn]; omega)]
    simp only [Bool.and_eq_true, decide_eq_true_eq]
    rw [hnn, hw]
    omega
  · unfold Mu.more; simp only; rw [hnn]; omega
  · unfold Mu.more; simp only; rw [hsA]; omega
  · unfold Mu.more; simp only; rw [hsA]; omega
/-- Its own lag. -/
theorem Ring.own {t : Int} {l : List P3} (h : Ring t l) {w o : Int} (w0 : 1 ≤ w) (w1 : w ≤ 1048576) (o0 : -1125899906842624 < o) (o1 : o < 1125899906842624) :
    ((Mu.sums t l).more w o).lag (atP t ((Mu.sums t l).plD w o) w) = (true, o) := by
  obtain ⟨_, hok, _⟩ := h.in_ w0 w1 o0 o1
  obtain ⟨_, hr, hn, a0, a1⟩ := h.add w0 w1 o0 o1
  have hv := ov_yes hr hn (atP_right (b := t) hok) a0 a1
  unfold Mu.lag
  rw [if_pos hv]
  have hb : ((Mu.sums t l).more w o).b = t := rfl
  have hw : ((Mu.sums t l).more w o).w = sumW l + w := rfl
  have ha : ((Mu.sums t l).more w o).a = sumD t l + (sumD t l * w - o * (sumW l + w)) / sumW l := rfl
  have hp : (Mu.sums t l).plD w o = (sumD t l * w - o * (sumW l + w)) / sumW l := rfl
  unfold Mu.ov
  rw [hb, atP_D hok, atP_w hok, hw, ha, hp, place_own h.W (by omega)]
/-- All others' lags. -/
theorem Ring.other {t : Int} {l : List P3} (h : Ring t l) {w o : Int} (w0 : 1 ≤ w) (w1 : w ≤ 1048576) (o0 : -1125899906842624 < o) (o1 : o < 1125899906842624) {q : P3} (hq : q ∈ l) :
    ∃ a b : Int, (Mu.sums t l).lag q = (true, a) ∧ ((Mu.sums t l).more w o).lag q = (true, b) ∧ (0 ≤ o → b - a ≤ 0 ∧ -(o + 2) < b - a) ∧ (o ≤ 0 → -2 < b - a ∧ b - a ≤ -o) := by
  obtain ⟨_, hr, hn, a0, a1⟩ := h.add w0 w1 o0 o1
  have hv := ov_yes hr hn (h.ok q hq) a0 a1
  have hv2 := sums_ov (t := t) h.ok (by have := h.few; omega) h.some (h.ok q hq)
  have hb : ((Mu.sums t l).more w o).b = t := rfl
  have hw : ((Mu.sums t l).more w o).w = sumW l + w := rfl
  have ha : ((Mu.sums t l).more w o).a = sumD t l + (sumD t l * w - o * (sumW l + w)) / sumW l := rfl
  refine ⟨(sumD t l * q.2.2 - pD t q * sumW l) / sumW l, ((sumD t l + (sumD t l * w - o * (sumW l + w)) / sumW l) * q.2.2 - pD t q * (sumW l + w)) / (sumW l + w), ?_, ?_, ?_⟩
  · unfold Mu.lag; rw [if_pos hv2]; rfl
  · unfold Mu.lag; rw [if_pos hv]; unfold Mu.ov; rw [hb, hw, ha]
  · obtain ⟨e, x, y, he, hx, hy, key⟩ := place_eq (a := sumD t l) (o := o) (v := q.2.2) (d := pD t q) h.W (show 0 < w by omega)
    obtain ⟨v0, _, _, _⟩ := pR_isP (h.ok q hq).2 (h.ok q hq).1
    exact place_bd h.W (by omega) (by omega) (w_le_sum h.ok hq) he hx hy key
/-- The virtual time. -/
theorem Ring.time {t : Int} {l : List P3} (ht : IsT t) (h : Ring t l) {w : Int} (w0 : 1 ≤ w) (w1 : w ≤ 1048576) :
    ∃ x y : Int, (Mu.sums t l).fl = (true, x) ∧ ((Mu.sums t l).more w 0).fl = (true, y) ∧ 0 ≤ dif x y ∧ dif x y ≤ 1 := by
  have hx := near_fl ht (fun p hp => ⟨(h.near p hp).1, by have := (h.near p hp).2; omega, by have := (h.near p hp).2; omega⟩) h.some (by have := h.few; omega)
  obtain ⟨_, hr, hn, a0, a1⟩ := h.add (o := 0) w0 w1 (by decide) (by decide)
  have hq := place_fl (a := sumD t l) h.W (show 0 < w by omega)
  have hlo := fl_lo h.W h.lo
  have hhi : sumD t l / sumW l ≤ 576460752303423489 := by
    have := Int.ediv_le_ediv h.W h.hi
    rw [Int.mul_ediv_cancel _ (by have := h.W; omega)] at this
    exact this
  have e : ((Mu.sums t l).more w 0).a / ((Mu.sums t l).more w 0).w = (sumD t l + sumD t l * w / sumW l) / (sumW l + w) := by
    show (sumD t l + (sumD t l * w - 0 * (sumW l + w)) / sumW l) / (sumW l + w) = _
    rw [Int.zero_mul, Int.sub_zero]
  have hy : ((Mu.sums t l).more w 0).flOk = true := by
    unfold Mu.flOk
    rw [hr, e]
    simp only [Bool.true_and, Bool.and_eq_true, decide_eq_true_eq, smI]
    exact ⟨hn, by omega, by omega⟩
  refine ⟨_, adv t ((sumD t l + sumD t l * w / sumW l) / (sumW l + w)), hx, ?_, ?_⟩
  · unfold Mu.fl
    rw [if_pos hy, e]
    rfl
  · rw [dif_near t (by omega) (by omega)]
    exact hq
/-- Who is owed more comes in no further behind. -/
theorem Ring.order {t : Int} {l : List P3} (h : Ring t l) {w o o' : Int} (w0 : 1 ≤ w) (w1 : w ≤ 1048576) (o0 : -1125899906842624 < o) (o1 : o < 1125899906842624) (p0 : -1125899906842624 < o') (p1 : o' < 1125899906842624) (ho : o' ≤ o) :
    ¬ 0 < cmpP (atP t ((Mu.sums t l).plD w o) w) (atP t ((Mu.sums t l).plD w o') w) := by
  obtain ⟨h1, h2, _⟩ := h.in_ w0 w1 o0 o1
  obtain ⟨g1, g2, _⟩ := h.in_ w0 w1 p0 p1
  refine cmp_mono h2 g2 ⟨by omega, by omega⟩ ⟨by omega, by omega⟩ ?_
  have hW := h.W
  show (sumD t l * w - o * (sumW l + w)) / sumW l ≤ (sumD t l * w - o' * (sumW l + w)) / sumW l
  refine Int.ediv_le_ediv hW ?_
  have := Int.mul_le_mul_of_nonneg_right ho (show 0 ≤ sumW l + w by omega)
  omega
end

/- Somebody is served; all lags together: as numbers. -/
section
open Go.RowKit

theorem split_at {l : List P3} {k : Nat} (hk : k < l.length) : l = l.take k ++ l.getD k (0, 0, 0) :: l.drop (k + 1) := by
  have e : l.getD k (0, 0, 0) = l[k] := by simp [List.getD, hk]
  rw [e, List.getElem_cons_drop hk, List.take_append_drop]
theorem sumD_split (t : Int) {l : List P3} {k : Nat} (hk : k < l.length) : sumD t l = sumD t (l.take k ++ l.drop (k + 1)) + pD t (l.getD k (0, 0, 0)) := by
  have := congrArg (sumD t) (split_at hk)
  rw [sumD_app, sumD_cons] at this
  rw [sumD_app]; omega
theorem sumW_split {l : List P3} {k : Nat} (hk : k < l.length) : sumW l = sumW (l.take k ++ l.drop (k + 1)) + (l.getD k (0, 0, 0)).2.2 := by
  have := congrArg sumW (split_at hk)
  rw [sumW_app, sumW_cons] at this
  rw [sumW_app]; omega
theorem len_split {l : List P3} {k : Nat} (hk : k < l.length) : (l.take k ++ l.drop (k + 1)).length = l.length - 1 := by simp; omega
theorem mem_split {l : List P3} {k : Nat} {q : P3} (h : q ∈ l.take k ++ l.drop (k + 1)) : q ∈ l := by
  rcases List.mem_append.1 h with h | h
  · exact List.mem_of_mem_take h
  · exact List.mem_of_mem_drop h
theorem getD_mem {l : List P3} {k : Nat} (hk : k < l.length) : l.getD k (0, 0, 0) ∈ l := by
  have e : l.getD k (0, 0, 0) = l[k] := by simp [List.getD, hk]
  rw [e]; exact List.getElem_mem hk
/-- One less. -/
theorem sums_take (t : Int) {l : List P3} {k : Nat} (hr : ∀ p ∈ l, pR p = true ∧ PIn p) (hk : k < l.length) (hn : l.length ≤ 32) :
    (Mu.sums t l).take (l.getD k (0, 0, 0)) = (true, Mu.sums t (l.take k ++ l.drop (k + 1))) := by
  have hr2 : ∀ p ∈ l.take k ++ l.drop (k + 1), pR p = true ∧ PIn p := fun q hq => hr q (mem_split hq)
  have hp := hr _ (getD_mem hk)
  have e1 := sumD_split t hk
  have e2 := sumW_split hk
  have e3 := len_split hk
  have h1 := sums_right t hr hn
  have h2 := sums_right t hr2 (by omega)
  have h3 := sums_wr t hr2 (by omega)
  have hw := sumW_bd (l := l.take k ++ l.drop (k + 1)) (fun p hp => pR_isP (hr2 p hp).2 (hr2 p hp).1)
  have hl : (Mu.sums t l).left (l.getD k (0, 0, 0)) = Mu.sums t (l.take k ++ l.drop (k + 1)) := by
    unfold Mu.left Mu.sums
    simp only
    have hn1 : (l.length : Int) - 1 = ((l.take k ++ l.drop (k + 1)).length : Nat) := by omega
    rw [hn1]
    have hd : (if (l.length : Int) = 1 then 0 else sumD t l - pD t (l.getD k (0, 0, 0))) = sumD t (l.take k ++ l.drop (k + 1)) := by
      split
      · have : l.take k ++ l.drop (k + 1) = [] := List.eq_nil_of_length_eq_zero (by omega)
        rw [this]; rfl
      · omega
    rw [hd, show sumW l - (l.getD k (0, 0, 0)).2.2 = sumW (l.take k ++ l.drop (k + 1)) by omega]
  have hok : (Mu.sums t l).takeOk (l.getD k (0, 0, 0)) = true := by
    unfold Mu.takeOk
    rw [hl, h1, h2, hp.1]
    have ea : (Mu.sums t l).a - pD (Mu.sums t l).b (l.getD k (0, 0, 0)) = sumD t (l.take k ++ l.drop (k + 1)) := by
      show sumD t l - pD t _ = _
      omega
    rw [ea, okW_iff.2 h3]
    simp only [Bool.true_and, Bool.and_true, Bool.or_true, Bool.and_eq_true, decide_eq_true_eq]
    refine ⟨?_, ?_⟩
    · show ((l.length : Nat) : Int) ≠ 0
      omega
    · show (l.getD k (0, 0, 0)).2.2 ≤ sumW l
      omega
  unfold Mu.take
  rw [if_pos hok, hl]
theorem put_back (t : Int) {l : List P3} {k : Nat} {q : P3} (hr : ∀ p ∈ l, pR p = true ∧ PIn p) (hq : pR q = true ∧ PIn q) (hw : q.2.2 = (l.getD k (0, 0, 0)).2.2) {g : Int} (hg : pD t q = pD t (l.getD k (0, 0, 0)) + g) (hk : k < l.length) (hn : l.length ≤ 32) :
    (Mu.sums t (l.take k ++ l.drop (k + 1))).add q = (true, ⟨t, sumD t l + g, sumW l, l.length⟩) := by
  have hr2 : ∀ p ∈ l.take k ++ l.drop (k + 1), pR p = true ∧ PIn p := fun q hq => hr q (mem_split hq)
  have e3 := len_split hk
  rw [sums_add t hr2 hq (by omega)]
  unfold Mu.sums
  rw [sumD_app, sumW_app, sumD_split t hk, sumW_split hk, sumD_cons, sumW_cons, sumD_nil, sumW_nil, hg, hw, List.length_append, e3]
  simp only [List.length_singleton]
  congr 2
  · omega
  · omega
  · omega
theorem pD_base (t : Int) (p : P3) : pD t p = dif p.1 t * p.2.2 + p.2.1 := rfl
/-- Where one is that is served. -/
theorem moved {t : Int} {p : P3} {g : Int} (hp : NrP 576460752303423488 t p) (g0 : 0 ≤ g) (g1 : g ≤ 288230376151711744) :
    AtOk (g + p.2.1) p.2.2 ∧ pR (atP p.1 (g + p.2.1) p.2.2) = true ∧ PIn (atP p.1 (g + p.2.1) p.2.2) ∧ (atP p.1 (g + p.2.1) p.2.2).2.2 = p.2.2 ∧ pD t (atP p.1 (g + p.2.1) p.2.2) = pD t p + g := by
  have hip := pR_isP hp.1.2 hp.1.1
  have hok : AtOk (g + p.2.1) p.2.2 := move_ok hip g0 (by omega)
  have h1 := atP_right (b := p.1) hok
  refine ⟨hok, h1.1, h1.2, atP_w hok, ?_⟩
  have q0 := quot_le hip g0
  have q1 := (quot_bd hip g0 (by omega)).1
  have hd := hp.2
  rw [atP_yes hok]
  show dif (adv p.1 ((g + p.2.1) / p.2.2)) t * p.2.2 + (g + p.2.1) % p.2.2 = dif p.1 t * p.2.2 + p.2.1 + g
  have e : dif (adv p.1 ((g + p.2.1) / p.2.2)) t = dif p.1 t + (g + p.2.1) / p.2.2 := by
    unfold dif adv at *; omega
  have e2 := Int.emod_add_mul_ediv (g + p.2.1) p.2.2
  rw [e, Int.add_mul, Int.mul_comm ((g + p.2.1) / p.2.2)]
  omega
/-- The mean behind it. -/
def Mu.served (t : Int) (l : List P3) (g : Int) : Mu := ⟨t, sumD t l + g, sumW l, l.length⟩
theorem served_ov {t : Int} {l : List P3} {g : Int} {q : P3} (hr : ∀ p ∈ l, pR p = true ∧ PIn p) (h0 : 0 < l.length) (hn : l.length ≤ 32) (g0 : 0 ≤ g) (g1 : g ≤ 288230376151711744) (hq : pR q = true ∧ PIn q) : (Mu.served t l g).ovOk q = true := by
  have h1 := sums_right t hr hn
  have h2 := sumD_bd t hr
  refine ov_yes ?_ ?_ hq ?_ ?_
  · have : (Mu.served t l g).right = (Mu.sums t l).right := by
      unfold Mu.right Mu.served Mu.sums
      simp only
      rw [if_neg (by omega), if_neg (by omega)]
    rw [this, h1]
  · show ((l.length : Nat) : Int) ≠ 0
    omega
  · show _ ≤ sumD t l + g
    omega
  · show sumD t l + g ≤ _
    omega
/-- How the lags move. -/
theorem lag_moves {t : Int} {l : List P3} {k : Nat} {g : Int} (hl : ∀ p ∈ l, NrP 576460752303423488 t p) (hk : k < l.length) (hn : l.length ≤ 32) (g0 : 0 ≤ g) (g1 : g ≤ 288230376151711744) :
    (∃ a b, (Mu.sums t l).lag (l.getD k (0, 0, 0)) = (true, a) ∧ (Mu.served t l g).lag (atP (l.getD k (0, 0, 0)).1 (g + (l.getD k (0, 0, 0)).2.1) (l.getD k (0, 0, 0)).2.2) = (true, b) ∧ -g ≤ b - a ∧ b - a ≤ 0) ∧
    (∀ p ∈ l, ∃ a b, (Mu.sums t l).lag p = (true, a) ∧ (Mu.served t l g).lag p = (true, b) ∧ 0 ≤ b - a ∧ b - a ≤ g + 1) := by
  have hr : ∀ p ∈ l, pR p = true ∧ PIn p := fun p hp => (hl p hp).1
  have hW := sumW_pos hr (by omega)
  refine ⟨?_, fun p hp => ?_⟩
  · have hm := getD_mem hk
    generalize l.getD k (0, 0, 0) = p at *
    obtain ⟨_, m1, m2, m3, m4⟩ := moved (hl p hm) g0 g1
    have hv := sums_ov (t := t) hr hn (by omega) (hr p hm)
    have hv2 := served_ov (t := t) (g := g) hr (by omega) hn g0 g1 ⟨m1, m2⟩
    obtain ⟨v0, _, _, _⟩ := pR_isP (hr p hm).2 (hr p hm).1
    refine ⟨_, _, by unfold Mu.lag; rw [if_pos hv], by unfold Mu.lag; rw [if_pos hv2], ?_⟩
    have := move_own (a := sumD t l) (D := pD t p) (v := p.2.2) hW (by omega) (w_le_sum hr hm) g0
    unfold Mu.ov
    have e1 : (Mu.served t l g).b = t := rfl
    have e2 : (Mu.served t l g).a = sumD t l + g := rfl
    have e3 : (Mu.served t l g).w = sumW l := rfl
    rw [e1, e2, e3, m3, m4]
    exact this
  · have hv := sums_ov (t := t) hr hn (by omega) (hr p hp)
    have hv2 := served_ov (t := t) (g := g) hr (by omega) hn g0 g1 (hr p hp)
    obtain ⟨v0, _, _, _⟩ := pR_isP (hr p hp).2 (hr p hp).1
    refine ⟨_, _, by unfold Mu.lag; rw [if_pos hv], by unfold Mu.lag; rw [if_pos hv2], ?_⟩
    exact move_other (a := sumD t l) (D := pD t p) (v := p.2.2) hW (by omega) (w_le_sum hr hp) g0

/-- All lags, times all weights, together. -/
def sumO (m : Mu) (l : List P3) : Int := (l.map m.ov).sum
def sumL (m : Mu) (l : List P3) : Int := (l.map fun p => m.ov p / m.w).sum
theorem sumO_app (m : Mu) (l k : List P3) : sumO m (l ++ k) = sumO m l + sumO m k := by simp [sumO]
theorem sumL_app (m : Mu) (l k : List P3) : sumL m (l ++ k) = sumL m l + sumL m k := by simp [sumL]
theorem sumO_eq (m : Mu) : ∀ l : List P3, sumO m l = m.a * sumW l - sumD m.b l * m.w
  | [] => by simp [sumO, sumW, sumD]
  | p :: l => by
    have := sumO_eq m l
    have e : sumO m (p :: l) = m.ov p + sumO m l := by simp [sumO]
    rw [e, this, sumW_cons, sumD_cons]
    unfold Mu.ov
    rw [Int.mul_add, Int.add_mul]
    omega
theorem sumO_zero (t : Int) (l : List P3) : sumO (Mu.sums t l) l = 0 := by
  rw [sumO_eq]
  show sumD t l * sumW l - sumD t l * sumW l = 0
  omega
theorem some_up {m : Mu} : ∀ {l : List P3}, 0 < l.length → 0 ≤ sumO m l → ∃ p ∈ l, 0 ≤ m.ov p
  | [p], _, h => ⟨p, by simp, by simpa [sumO] using h⟩
  | p :: q :: l, _, h => by
    by_cases c : 0 ≤ m.ov p
    · exact ⟨p, by simp, c⟩
    · have e : sumO m (p :: q :: l) = m.ov p + sumO m (q :: l) := by simp [sumO]
      obtain ⟨r, hr, h2⟩ := some_up (m := m) (l := q :: l) (by simp) (by omega)
      exact ⟨r, by simp at hr ⊢; exact Or.inr hr, h2⟩
theorem some_down {m : Mu} : ∀ {l : List P3}, 0 < l.length → sumO m l ≤ 0 → ∃ p ∈ l, m.ov p ≤ 0
  | [p], _, h => ⟨p, by simp, by simpa [sumO] using h⟩
  | p :: q :: l, _, h => by
    by_cases c : m.ov p ≤ 0
    · exact ⟨p, by simp, c⟩
    · have e : sumO m (p :: q :: l) = m.ov p + sumO m (q :: l) := by simp [sumO]
      obtain ⟨r, hr, h2⟩ := some_down (m := m) (l := q :: l) (by simp) (by omega)
      exact ⟨r, by simp at hr ⊢; exact Or.inr hr, h2⟩
theorem sumL_bd {m : Mu} (hW : 0 < m.w) : ∀ l : List P3, m.w * sumL m l ≤ sumO m l ∧ sumO m l ≤ m.w * sumL m l + l.length * (m.w - 1)
  | [] => by simp [sumL, sumO]
  | p :: l => by
    have ih := sumL_bd hW l
    have e1 : sumO m (p :: l) = m.ov p + sumO m l := by simp [sumO]
    have e2 : sumL m (p :: l) = m.ov p / m.w + sumL m l := by simp [sumL]
    have h1 := Int.emod_add_mul_ediv (m.ov p) m.w
    have h2 := Int.emod_nonneg (m.ov p) (show m.w ≠ 0 by omega)
    have h3 := Int.emod_lt_of_pos (m.ov p) hW
    rw [e1, e2, Int.mul_add, List.length_cons]
    push_cast
    rw [Int.add_mul]
    omega
theorem sumL_zero {m : Mu} {l : List P3} (hW : 0 < m.w) (h : sumO m l = 0) (h0 : 0 < l.length) : sumL m l ≤ 0 ∧ -(l.length : Int) < sumL m l := by
  obtain ⟨a, b⟩ := sumL_bd hW l
  rw [h] at a b
  refine ⟨?_, ?_⟩
  · have : m.w * sumL m l < m.w * 1 := by omega
    have := Int.lt_of_mul_lt_mul_left this (by omega)
    omega
  · have e : (l.length : Int) * (m.w - 1) = m.w * l.length - l.length := by grind
    have : m.w * (-(l.length : Int)) < m.w * sumL m l := by rw [Int.mul_neg]; omega
    exact Int.lt_of_mul_lt_mul_left this (by omega)
/-- How many have a lag that isn't below 0, or isn't above. -/
def upN (m : Mu) (l : List P3) : Nat := l.countP fun p => decide (0 ≤ m.ov p)
def dnN (m : Mu) (l : List P3) : Nat := l.countP fun p => decide (m.ov p ≤ 0)
theorem upN_pos {m : Mu} {l : List P3} (h0 : 0 < l.length) (h : sumO m l = 0) : 0 < upN m l := by
  obtain ⟨p, hp, h1⟩ := some_up (m := m) h0 (by omega)
  exact List.countP_pos_iff.2 ⟨p, hp, by simpa using h1⟩
theorem dnN_pos {m : Mu} {l : List P3} (h0 : 0 < l.length) (h : sumO m l = 0) : 0 < dnN m l := by
  obtain ⟨p, hp, h1⟩ := some_down (m := m) h0 (by omega)
  exact List.countP_pos_iff.2 ⟨p, hp, by simpa using h1⟩

theorem sums_in {base : Int} {l : List P3} (hb : IsT base) (hr : ∀ p ∈ l, pR p = true ∧ PIn p) (hn : l.length ≤ 32) : (Mu.sums base l).In := by
  have h1 := sums_wr base hr (by omega)
  have h2 := sumW_bd (l := l) (fun p hp => pR_isP (hr p hp).2 (hr p hp).1)
  refine ⟨hb, h1, ⟨?_, ?_⟩, ?_, ?_⟩
  · show 0 ≤ sumW l; omega
  · show sumW l ≤ _; omega
  · show _ ≤ ((l.length : Nat) : Int); omega
  · show ((l.length : Nat) : Int) ≤ _; omega
theorem of_in {base : Int} {l : List P3} (hb : IsT base) (hl : ∀ q ∈ l, PIn q) : (Mu.of base l).2.In := by
  rw [of_eq base l hl]
  split
  · rename_i h
    exact sums_in hb (fun p hp => ⟨h.2 p hp, hl p hp⟩) h.1
  · exact Mu.no_in
theorem fold_step_no : ∀ (l : List P3) {s : Bool × Mu}, s.1 = false → l.foldl ofStep s = s
  | [], _, _ => rfl
  | p :: l, s, h => by
    rw [List.foldl_cons]
    have : ofStep s p = s := by unfold ofStep; rw [h, if_neg (by decide)]
    rw [this]
    exact fold_step_no l h
/-- Where one of them fails all fail. -/
theorem of_fails {base : Int} {l : List P3} {k : Nat} (hk : k < l.length) (h1 : (Mu.of base (l.take k)).1 = true) (h2 : ((Mu.of base (l.take k)).2.add (l.getD k (0, 0, 0))).1 = false) : Mu.of base l = (false, Mu.no) := by
  have e : l = l.take (k + 1) ++ l.drop (k + 1) := (List.take_append_drop _ _).symm
  have h3 : Mu.of base (l.take (k + 1)) = (false, Mu.no) := by
    rw [of_take base hk]
    unfold ofStep
    rw [if_pos h1]
    unfold Mu.add at *
    by_cases c : (Mu.of base (l.take k)).2.addOk (l.getD k (0, 0, 0)) = true
    · rw [if_pos c] at h2; cases h2
    · rw [if_neg c]
  unfold Mu.of at *
  rw [e, List.foldl_append, h3]
  exact fold_step_no _ rfl
theorem of_goes {base : Int} {l : List P3} {k : Nat} (hk : k < l.length) (h1 : (Mu.of base (l.take k)).1 = true) (h2 : ((Mu.of base (l.take k)).2.add (l.getD k (0, 0, 0))).1 = true) : (Mu.of base (l.take (k + 1))).1 = true ∧ (Mu.of base (l.take (k + 1))).2 = ((Mu.of base (l.take k)).2.add (l.getD k (0, 0, 0))).2 := by
  rw [of_take base hk]
  unfold ofStep
  rw [if_pos h1]
  exact ⟨h2, rfl⟩
end

/- Plain facts on digits of base 10000, the lowest first: nothing of the program. -/
section
open Go.RowKit

def val : List Int → Int
  | [] => 0
  | d :: ds => d + 10000 * val ds
def Dg (zs : List Int) : Prop := ∀ z ∈ zs, 0 ≤ z ∧ z ≤ 9999

theorem Dg.nil : Dg [] := fun _ h => by cases h
theorem Dg.cons {z : Int} {zs : List Int} (h0 : 0 ≤ z) (h1 : z ≤ 9999) (h : Dg zs) : Dg (z :: zs) := fun x hx => by
  rcases List.mem_cons.1 hx with rfl | hx
  · exact ⟨h0, h1⟩
  · exact h x hx
theorem Dg.tail {z : Int} {zs : List Int} (h : Dg (z :: zs)) : Dg zs := fun x hx => h x (List.mem_cons_of_mem _ hx)
theorem Dg.head {z : Int} {zs : List Int} (h : Dg (z :: zs)) : 0 ≤ z ∧ z ≤ 9999 := h z List.mem_cons_self
theorem Dg.append {xs ys : List Int} (h : Dg xs) (g : Dg ys) : Dg (xs ++ ys) := fun x hx => by
  rcases List.mem_append.1 hx with hx | hx
  · exact h x hx
  · exact g x hx
theorem Dg.take {zs : List Int} (h : Dg zs) (k : Nat) : Dg (zs.take k) := fun x hx => h x (List.mem_of_mem_take hx)
theorem Dg.one {z : Int} (h0 : 0 ≤ z) (h1 : z ≤ 9999) : Dg [z] := Dg.cons h0 h1 Dg.nil
theorem Dg.getD {zs : List Int} (h : Dg zs) (k : Nat) : 0 ≤ zs.getD k 0 ∧ zs.getD k 0 ≤ 9999 := by
  by_cases hk : k < zs.length
  · have : zs.getD k 0 = zs[k] := by simp [List.getD, hk]
    rw [this]; exact h _ (List.getElem_mem hk)
  · have : zs.getD k 0 = 0 := by simp [List.getD, List.getElem?_eq_none (by omega : zs.length ≤ k)]
    rw [this]; decide

theorem val_nonneg : ∀ {zs : List Int}, Dg zs → 0 ≤ val zs
  | [], _ => by simp [val]
  | z :: zs, h => by have := val_nonneg h.tail; have := h.head; simp only [val]; omega
theorem val_append : ∀ (xs ys : List Int), val (xs ++ ys) = val xs + 10000 ^ xs.length * val ys
  | [], ys => by simp [val]
  | x :: xs, ys => by
    simp only [List.cons_append, val, List.length_cons, val_append xs ys, Int.pow_succ]
    rw [Int.mul_add, ← Int.add_assoc, Int.mul_comm (10000 ^ xs.length) 10000, Int.mul_assoc]
theorem val_snoc (xs : List Int) (d : Int) : val (xs ++ [d]) = val xs + 10000 ^ xs.length * d := by
  rw [val_append]; simp [val]
theorem val_lt : ∀ {zs : List Int}, Dg zs → val zs < 10000 ^ zs.length
  | [], _ => by simp [val]
  | z :: zs, h => by
    have h1 := val_lt h.tail
    have h2 := h.head
    simp only [val, List.length_cons, Int.pow_succ]
    omega
/-- Without noughts ahead of the highest digit. -/
def Nm (zs : List Int) : Prop := zs.getLast? ≠ some 0
theorem Nm.nil : Nm [] := by simp [Nm]
theorem getLast?_getD {zs : List Int} {k : Nat} (hl : zs.length = k + 1) : zs.getLast? = some (zs.getD k 0) := by
  rw [List.getLast?_eq_getElem?, hl]
  simp [List.getD, show k < zs.length by omega]
theorem Nm.of_ne {zs : List Int} {k : Nat} (hl : zs.length = k + 1) (h : zs.getD k 0 ≠ 0) : Nm zs := by
  unfold Nm; rw [getLast?_getD hl]; simpa using h
theorem Nm.ne {zs : List Int} {k : Nat} (hl : zs.length = k + 1) (h : Nm zs) : zs.getD k 0 ≠ 0 := by
  unfold Nm at h; rw [getLast?_getD hl] at h; simpa using h
/-- A nought at the end is nothing. -/
theorem val_take_nought {zs : List Int} {k : Nat} (hk : k < zs.length) (h : zs.getD k 0 = 0) : val (zs.take (k + 1)) = val (zs.take k) := by
  have e : zs.getD k 0 = zs[k] := by simp [List.getD, hk]
  rw [List.take_succ_eq_append_getElem hk, val_snoc, ← e, h]; simp
theorem take_snocD {zs : List Int} {k : Nat} (hk : k < zs.length) : zs.take (k + 1) = zs.take k ++ [zs.getD k 0] := by
  have e : zs.getD k 0 = zs[k] := by simp [List.getD, hk]
  rw [List.take_succ_eq_append_getElem hk, e]
theorem take_getD {zs : List Int} {k j : Nat} (hj : j < k) : (zs.take k).getD j 0 = zs.getD j 0 := by
  simp [List.getD, List.getElem?_take_of_lt hj]
/-- A digit is above 0: so is the number. -/
theorem val_pos {zs : List Int} (h : Dg zs) (hn : Nm zs) (hne : zs ≠ []) : 0 < val zs := by
  obtain ⟨k, hl⟩ : ∃ k, zs.length = k + 1 := ⟨zs.length - 1, by have := List.length_pos_iff.2 hne; omega⟩
  have h0 := hn.ne hl
  have h1 := h.getD k
  have e := take_snocD (zs := zs) (k := k) (by omega)
  rw [List.take_of_length_le (by omega)] at e
  rw [e, val_snoc]
  have h2 := val_nonneg (h.take k)
  have h3 : 0 < (10000 : Int) ^ (zs.take k).length * zs.getD k 0 := Int.mul_pos (Int.pow_pos (by decide)) (by omega)
  omega
theorem val_zero {zs : List Int} (h : Dg zs) (hn : Nm zs) : val zs = 0 ↔ zs = [] := by
  constructor
  · intro h0
    by_cases hne : zs = []
    · exact hne
    · have := val_pos h hn hne; omega
  · rintro rfl; rfl
end

end Go.Proofs.YtoioeginfhkjjaaGreatDoor

/- Texts of DtreePlays's proof, together. -/
import Derived.WalkKit
import Derived.Deep.Draws
namespace Go.Proofs.YtbcepkfdlaioaaaGreat

section
open Go.RowKit
theorem tdy : (∀ {α : Type} (l : List α) (i : Nat) (h : i < l.toArray.size), l.toArray[i] = l[i]'(by simpa using h)) ∧ (∀ {α : Type} (a : α) (l : List α) (h : 0 < (a :: l).length), (a :: l)[0] = a) ∧ (∀ {α : Type} (a : α) (l : List α) (i : Nat) (h : i + 1 < (a :: l).length), (a :: l)[i + 1] = l[i]'(by simpa using h)) ∧ (∀ (a : Act) (d : Option Nat) (v : Value), Act.put a d v = (match d with | some n => { a with tmps := a.tmps.setIfInBounds n v } | none => a)) ∧ (∀ {α : Type} (l : List α) (i : Nat) (v : α), l.toArray.setIfInBounds i v = (l.set i v).toArray) ∧ (∀ {α : Type} (a : α) (l : List α) (v : α), (a :: l).set 0 v = v :: l) ∧ (∀ {α : Type} (a : α) (l : List α) (i : Nat) (v : α), (a :: l).set (i + 1) v = a :: l.set i v) :=
 ⟨fun _ _ _ => by simp, fun _ _ _ => rfl, fun _ _ _ _ => rfl, fun _ d _ => by cases d <;> rfl, fun _ _ _ => by simp, fun _ _ _ => rfl, fun _ _ _ _ => rfl⟩
theorem hid {p : Prop} (h : p) : RowKit.Hid p := h
theorem bcell {B : Nat} {W w1 : World} (hb : Below B W w1) : (∀ b o, b < B → w1.cell? ⟨b, o, none⟩ = W.cell? ⟨b, o, none⟩) ∧ (∀ b o, b < B → w1.frozen? ⟨b, o, none⟩ = W.frozen? ⟨b, o, none⟩) :=
 ⟨fun b o h => hb.cell (p := ⟨b, o, none⟩) h, fun b o h => hb.frozen (p := ⟨b, o, none⟩) h⟩
theorem keep1 {w w' : World} {b o : Nat} {v : Value} (hb : Below w.heap.size w w') (h : w.cell? ⟨b, o, none⟩ = some v) : w'.cell? ⟨b, o, none⟩ = some v :=
 (hb.cell (p := ⟨b, o, none⟩) (World.block_lt_of_cell? w _ h)).trans h
theorem keep2 {w w' : World} {b0 o0 b1 o1 : Nat} {v0 v1 : Value} (h : w.cell? ⟨b0, o0, none⟩ = some v0 ∧ w.cell? ⟨b1, o1, none⟩ = some v1) (hb : Below w.heap.size w w') : w'.cell? ⟨b0, o0, none⟩ = some v0 ∧ w'.cell? ⟨b1, o1, none⟩ = some v1 :=
 ⟨keep1 hb h.1, keep1 hb h.2⟩
theorem keep4 {w w' : World} {b0 o0 b1 o1 b2 o2 b3 o3 : Nat} {v0 v1 v2 v3 : Value} (h : w.cell? ⟨b0, o0, none⟩ = some v0 ∧ w.cell? ⟨b1, o1, none⟩ = some v1 ∧ w.cell? ⟨b2, o2, none⟩ = some v2 ∧ w.cell? ⟨b3, o3, none⟩ = some v3) (hb : Below w.heap.size w w') : w'.cell? ⟨b0, o0, none⟩ = some v0 ∧ w'.cell? ⟨b1, o1, none⟩ = some v1 ∧ w'.cell? ⟨b2, o2, none⟩ = some v2 ∧ w'.cell? ⟨b3, o3, none⟩ = some v3 :=
 ⟨keep1 hb h.1, keep1 hb h.2.1, keep1 hb h.2.2.1, keep1 hb h.2.2.2⟩
theorem belowN {B : Nat} {a w : World} (h : Below B a w) (n : Nat) : Below B a (w.drewN n) := ⟨h.os, h.tape, h.output, h.size, h.block⟩
def IsW (h l n : Int) : Prop := -9223372036854775808 ≤ h ∧ h ≤ 9223372036854775807 ∧ 0 ≤ l ∧ l ≤ 18446744073709551615 ∧ n = h * 18446744073709551616 + l
def WR (n : Int) : Prop := -170141183460469231731687303715884105728 ≤ n ∧ n ≤ 170141183460469231731687303715884105727
def WRes (h l : Int) (ok : Bool) (n : Int) : Prop := (ok = true ∧ WR n ∧ IsW h l n) ∨ (ok = false ∧ ¬ WR n ∧ h = 0 ∧ l = 0)
theorem wres_add {h1 l1 h2 l2 a b : Int} (ha : IsW h1 l1 a) (hb : IsW h2 l2 b) (s : Int) (hs : s = wrap64 ((IntKind.u64.wrap h1 + IntKind.u64.wrap h2 + (l1 + l2) / 18446744073709551616) % 18446744073709551616)) :
  (¬ ((h1 < 0 ↔ h2 < 0) ∧ ¬ (s < 0 ↔ h2 < 0)) → WRes s ((l1 + l2) % 18446744073709551616) true (a + b)) ∧
  ((h1 < 0 ↔ h2 < 0) → ¬ (s < 0 ↔ h2 < 0) → WRes 0 0 false (a + b)) := by
 obtain ⟨a1, a2, a3, a4, a5⟩ := ha
 obtain ⟨b1, b2, b3, b4, b5⟩ := hb
 rw [IntKind.wrap_u64, IntKind.wrap_u64] at hs
 unfold wrap64 at hs
 refine ⟨fun h => .inl ⟨rfl, ?_, ?_⟩, fun h h' => .inr ⟨rfl, ?_, rfl, rfl⟩⟩
 ·unfold WR; omega
 ·unfold IsW; omega
 ·unfold WR; omega
def cmpI (a b : Int) : Int := if a < b then -1 else if a = b then 0 else 1
theorem cmpI_lt {a b : Int} (h : a < b) : cmpI a b = -1 := by unfold cmpI; rw [if_pos h]
theorem cmpI_eq (a : Int) : cmpI a a = 0 := by unfold cmpI; rw [if_neg (by omega), if_pos rfl]
theorem cmpI_gt {a b : Int} (h : b < a) : cmpI a b = 1 := by unfold cmpI; rw [if_neg (by omega), if_neg (by omega)]
theorem cmpI_bd (a b : Int) : -1 ≤ cmpI a b ∧ cmpI a b ≤ 1 := by unfold cmpI; split <;> (try split) <;> omega
theorem cmpI_anti (a b : Int) : cmpI a b = -cmpI b a := by unfold cmpI; split <;> split <;> (try split) <;> (try split) <;> omega
theorem cmpI_zero (a b : Int) : cmpI a b = 0 ↔ a = b := by unfold cmpI; split <;> (try split) <;> omega
theorem cmpI_pos (a b : Int) : 0 < cmpI a b ↔ b < a := by unfold cmpI; split <;> (try split) <;> omega
theorem IsW.inj {h1 l1 h2 l2 a : Int} (ha : IsW h1 l1 a) (hb : IsW h2 l2 a) : h1 = h2 ∧ l1 = l2 := by
 obtain ⟨a1, a2, a3, a4, a5⟩ := ha
 obtain ⟨b1, b2, b3, b4, b5⟩ := hb
 omega
theorem IsW.wr {h l a : Int} (ha : IsW h l a) : WR a := by
 obtain ⟨a1, a2, a3, a4, a5⟩ := ha
 unfold WR
 omega
def IsSz (h l n : Int) : Prop := 0 ≤ h ∧ h ≤ 18446744073709551615 ∧ 0 ≤ l ∧ l ≤ 18446744073709551615 ∧ h * 18446744073709551616 + l = n
def absI (n : Int) : Int := if n < 0 then 0 - n else n
theorem isSz_pos {h1 l1 a : Int} (ha : IsW h1 l1 a) (h : 0 ≤ h1) : IsSz h1 l1 (absI a) ∧ h1 ≤ 9223372036854775808 := by
 obtain ⟨a1, a2, a3, a4, a5⟩ := ha
 unfold IsSz absI
 refine ⟨⟨by omega, by omega, by omega, by omega, ?_⟩, by omega⟩
 rw [if_neg (by omega)]
 omega
theorem isSz_neg {h1 l1 a : Int} (ha : IsW h1 l1 a) (h : h1 < 0) (c : Int) (hc : (c = 1 ∧ 0 < l1) ∨ (c = 0 ∧ ¬ 0 < l1)) :
  IsSz ((-IntKind.u64.wrap h1 - c) % 18446744073709551616) (-l1 % 18446744073709551616) (absI a) ∧ (-IntKind.u64.wrap h1 - c) % 18446744073709551616 ≤ 9223372036854775808 := by
 obtain ⟨a1, a2, a3, a4, a5⟩ := ha
 rw [IntKind.wrap_u64]
 unfold IsSz absI
 refine ⟨⟨by omega, by omega, by omega, by omega, ?_⟩, by omega⟩
 rw [if_pos (by omega)]
 omega
def WAns (n : Int) (w : World) (e : Ending) (w' : World) : Prop :=
 ∃ (h l : Int) (ok : Bool), e = .returned (.tuple #[.agg #[.int .i64 h, .int .u64 l], .bool ok]) ∧ WRes h l ok n ∧ Below w.heap.size w w'
theorem wres_up {h l n : Int} (hn : IsSz h l n) (p : h ≤ 9223372036854775807) : WRes h l true n := by
 obtain ⟨n1, n2, n3, n4, n5⟩ := hn
 refine .inl ⟨rfl, ?_, ?_⟩
 ·unfold WR; omega
 ·unfold IsW; omega
theorem wres_up_no {h l n : Int} (hn : IsSz h l n) (p : 9223372036854775807 < h) : WRes 0 0 false n := by
 obtain ⟨n1, n2, n3, n4, n5⟩ := hn
 refine .inr ⟨rfl, ?_, rfl, rfl⟩
 unfold WR; omega
theorem wres_down {h l n : Int} (hn : IsSz h l n) (c : Int) (hc : (c = 1 ∧ 0 < l) ∨ (c = 0 ∧ ¬ 0 < l)) (s : Int) (hs : s = wrap64 ((-h - c) % 18446744073709551616)) :
  (s < 0 ∨ (s = 0 ∧ -l % 18446744073709551616 = 0) → WRes s (-l % 18446744073709551616) true (-n)) ∧ (0 ≤ s → ¬ (s = 0 ∧ -l % 18446744073709551616 = 0) → WRes 0 0 false (-n)) := by
 obtain ⟨n1, n2, n3, n4, n5⟩ := hn
 unfold wrap64 at hs
 refine ⟨fun h => .inl ⟨rfl, ?_, ?_⟩, fun h h' => .inr ⟨rfl, ?_, rfl, rfl⟩⟩
 ·unfold WR; omega
 ·unfold IsW; omega
 ·unfold WR; omega
end


section
open Go.RowKit
def dif (t u : Int) : Int := (t - u + 9223372036854775808) % 18446744073709551616 - 9223372036854775808
def adv (t d : Int) : Int := (t + d) % 18446744073709551616
def AtOk (d w : Int) : Prop := 1 ≤ w ∧ w ≤ 1048576 ∧ -9223372036854775808 ≤ d / w ∧ d / w ≤ 9223372036854775807
theorem div_uniq {q b r a : Int} (h : q * b + r = a) (r0 : 0 ≤ r) (r1 : r < b) : q = a / b ∧ r = a % b := by
 have hb : 0 < b := by omega
 have e : a = r + b * q := by rw [Int.mul_comm b q]; omega
 constructor
 ·rw [e, Int.add_mul_ediv_left _ _ (by omega), Int.ediv_eq_zero_of_lt r0 r1]; omega
 ·rw [e, Int.add_mul_emod_self_left, Int.emod_eq_of_lt r0 r1]
def posC (t r w u s v : Int) : Int := if dif u t ≠ 0 then cmpI 0 (dif u t) else cmpI (r * v) (s * w)
end


section
open Go.RowKit
def val : List Int → Int
 | [] => 0
 | d :: ds => d + 10000 * val ds
def Dg (zs : List Int) : Prop := ∀ z ∈ zs, 0 ≤ z ∧ z ≤ 9999
theorem Dg.nil : Dg [] := fun _ h => by cases h
theorem Dg.cons {z : Int} {zs : List Int} (h0 : 0 ≤ z) (h1 : z ≤ 9999) (h : Dg zs) : Dg (z :: zs) := fun x hx => by
 rcases List.mem_cons.1 hx with rfl | hx
 ·exact ⟨h0, h1⟩
 ·exact h x hx
theorem Dg.tail {z : Int} {zs : List Int} (h : Dg (z :: zs)) : Dg zs := fun x hx => h x (List.mem_cons_of_mem _ hx)
theorem Dg.head {z : Int} {zs : List Int} (h : Dg (z :: zs)) : 0 ≤ z ∧ z ≤ 9999 := h z List.mem_cons_self
theorem Dg.append {xs ys : List Int} (h : Dg xs) (g : Dg ys) : Dg (xs ++ ys) := fun x hx => by
 rcases List.mem_append.1 hx with hx | hx
 ·exact h x hx
 ·exact g x hx
theorem Dg.take {zs : List Int} (h : Dg zs) (k : Nat) : Dg (zs.take k) := fun x hx => h x (List.mem_of_mem_take hx)
theorem Dg.one {z : Int} (h0 : 0 ≤ z) (h1 : z ≤ 9999) : Dg [z] := Dg.cons h0 h1 Dg.nil
theorem Dg.getD {zs : List Int} (h : Dg zs) (k : Nat) : 0 ≤ zs.getD k 0 ∧ zs.getD k 0 ≤ 9999 := by
 by_cases hk : k < zs.length
 ·have : zs.getD k 0 = zs[k] := by simp [List.getD, hk]
  rw [this]; exact h _ (List.getElem_mem hk)
 ·have : zs.getD k 0 = 0 := by simp [List.getD, List.getElem?_eq_none (by omega : zs.length ≤ k)]
  rw [this]; decide
theorem val_nonneg : ∀ {zs : List Int}, Dg zs → 0 ≤ val zs
 | [], _ => by simp [val]
 | z :: zs, h => by have := val_nonneg h.tail; have := h.head; simp only [val]; omega
theorem val_append : ∀ (xs ys : List Int), val (xs ++ ys) = val xs + 10000 ^ xs.length * val ys
 | [], ys => by simp [val]
 | x :: xs, ys => by
  simp only [List.cons_append, val, List.length_cons, val_append xs ys, Int.pow_succ]
  rw [Int.mul_add, ← Int.add_assoc, Int.mul_comm (10000 ^ xs.length) 10000, Int.mul_assoc]
theorem val_snoc (xs : List Int) (d : Int) : val (xs ++ [d]) = val xs + 10000 ^ xs.length * d := by
 rw [val_append]; simp [val]
theorem val_lt : ∀ {zs : List Int}, Dg zs → val zs < 10000 ^ zs.length
 | [], _ => by simp [val]
 | z :: zs, h => by
  have h1 := val_lt h.tail
  have h2 := h.head
  simp only [val, List.length_cons, Int.pow_succ]
  omega
def Nm (zs : List Int) : Prop := zs.getLast? ≠ some 0
theorem Nm.nil : Nm [] := by simp [Nm]
theorem getLast?_getD {zs : List Int} {k : Nat} (hl : zs.length = k + 1) : zs.getLast? = some (zs.getD k 0) := by
 rw [List.getLast?_eq_getElem?, hl]
 simp [List.getD, show k < zs.length by omega]
theorem Nm.of_ne {zs : List Int} {k : Nat} (hl : zs.length = k + 1) (h : zs.getD k 0 ≠ 0) : Nm zs := by
 unfold Nm; rw [getLast?_getD hl]; simpa using h
theorem Nm.ne {zs : List Int} {k : Nat} (hl : zs.length = k + 1) (h : Nm zs) : zs.getD k 0 ≠ 0 := by
 unfold Nm at h; rw [getLast?_getD hl] at h; simpa using h
theorem val_take_nought {zs : List Int} {k : Nat} (hk : k < zs.length) (h : zs.getD k 0 = 0) : val (zs.take (k + 1)) = val (zs.take k) := by
 have e : zs.getD k 0 = zs[k] := by simp [List.getD, hk]
 rw [List.take_succ_eq_append_getElem hk, val_snoc, ← e, h]; simp
theorem take_snocD {zs : List Int} {k : Nat} (hk : k < zs.length) : zs.take (k + 1) = zs.take k ++ [zs.getD k 0] := by
 have e : zs.getD k 0 = zs[k] := by simp [List.getD, hk]
 rw [List.take_succ_eq_append_getElem hk, e]
theorem take_getD {zs : List Int} {k j : Nat} (hj : j < k) : (zs.take k).getD j 0 = zs.getD j 0 := by
 simp [List.getD, List.getElem?_take_of_lt hj]
theorem val_pos {zs : List Int} (h : Dg zs) (hn : Nm zs) (hne : zs ≠ []) : 0 < val zs := by
 obtain ⟨k, hl⟩ : ∃ k, zs.length = k + 1 := ⟨zs.length - 1, by have := List.length_pos_iff.2 hne; omega⟩
 have h0 := hn.ne hl
 have h1 := h.getD k
 have e := take_snocD (zs := zs) (k := k) (by omega)
 rw [List.take_of_length_le (by omega)] at e
 rw [e, val_snoc]
 have h2 := val_nonneg (h.take k)
 have h3 : 0 < (10000 : Int) ^ (zs.take k).length * zs.getD k 0 := Int.mul_pos (Int.pow_pos (by decide)) (by omega)
 omega
end

end Go.Proofs.YtbcepkfdlaioaaaGreat

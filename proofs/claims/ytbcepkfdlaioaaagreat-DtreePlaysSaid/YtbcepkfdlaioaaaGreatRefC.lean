import Derived.Test.YtbcepkfdlaioaaaGreatDtreePlaysZ17
import Derived.OwnWalk
namespace Go.Proofs.YtbcepkfdlaioaaaGreat
open Go.RowKit
theorem infoInt : (Tryz.prog.info? 3).map (fun i => (i.zero, i.size, i.bytes)) = some (some (.int .i64 0), 1, 8) := by kernel_rfl
def Own (w : World) (base : Nat) (A : Option Addr) (n c : Nat) (zs : List Int) : Prop := w.ownsRow base 3 1 (.slice A n c) n (zs.map (Value.int .i64))
theorem Own.nil (w : World) (base : Nat) : Own w base none 0 0 [] := World.ownsRow_nil _ _ _ _
theorem Own.len {w : World} {base : Nat} {A : Option Addr} {n c : Nat} {zs : List Int} (h : Own w base A n c zs) : zs.length = n := by have := h.1; simpa using this
theorem Own.rd {w : World} {base : Nat} {A : Option Addr} {n c : Nat} {zs : List Int} (h : Own w base A n c zs) : Rd w A n zs := Rd.of_own h.len h
theorem Own.cap {w : World} {base : Nat} {A : Option Addr} {n c : Nat} {zs : List Int} (h : Own w base A n c zs) : n ≤ c := by
 rcases h.2 with ⟨hv, h0⟩ | ⟨g, cap, cur, hv, _, _, h1, _⟩
 ·omega
 ·injection hv with _ _ h3; omega
theorem Own.row {w : World} {base : Nat} {A : Option Addr} {n c : Nat} {zs : List Int} (h : Own w base A n c zs) {k : Nat} (hk : k < base) : some k ≠ (Value.slice A n c).ownBlock := by
 rcases h.2 with ⟨hv, _⟩ | ⟨g, cap, cur, hv, hb, _⟩
 ·rw [hv]; simp [Value.ownBlock]
 ·rw [hv]; simp only [Value.ownBlock]; intro e; injection e with e; omega
theorem Own.rowGe {w : World} {base : Nat} {A : Option Addr} {n c : Nat} {zs : List Int} (h : Own w base A n c zs) : ∀ k, (Value.slice A n c).ownBlock = some k → base ≤ k := by
 intro k hk
 rcases Nat.lt_or_ge k base with h1 | h1
 ·exact absurd hk.symm (h.row h1)
 ·exact h1
theorem wpList_append_int {ops : Array Oper} {rest : List Oper} {o : Oper} {a : Act} {Q : Exit → Act → World → Prop} (w : World) (hgd : o.guard = none) (s x : Operand)
  (ho : o.op = .call { callee := .builtin .append, args := #[s, x], argTypes := #[89, 89] })
  (base : Nat) (A : Option Addr) (n c : Nat) (zs : List Int) (hs : a.eval s = .slice A n c) (hown : Own w base A n c zs) (b : Nat) (d : Int) (hx : a.eval x = .slice (some ⟨b, 0, none⟩) 1 1)
  (hcell : w.cell? ⟨b, 0, none⟩ = some (.int .i64 d)) (hn : n ≤ 4000000) (hbase : base ≤ w.heap.size)
  (h : ∀ A' c' w', Own w' base A' (n + 1) c' (zs ++ [d]) → w.grownBy w' (Value.slice A n c).ownBlock → wpList Tryz.prog ops Q rest (a.put o.dst (.slice A' (n + 1) c')) w') : wpList Tryz.prog ops Q (o :: rest) a w := by
 obtain ⟨i0, hi, hz0, hz1, hz2⟩ := info_parts infoInt
 refine wpList_append_lies w hgd s x 89 ho base 3 i0 (.int .i64 0) 1 8 Tryz.underlying89 hi hz0 hz1 hz2 rfl (by decide) (.slice A n c) n (zs.map (Value.int .i64)) hs hown
  ⟨b, 0, none⟩ 1 1 [.int .i64 d] hx rfl ?_ ?_ (by decide) (by unfold maxLen; omega) (by omega) hbase _ rfl ?_
 ·intro j u hj
  match j, hj with
  | 0, hj => simp at hj; subst hj; simpa [Addr.add] using hcell
 ·intro u hu; simp at hu; subst hu; rfl
 ·intro g cap w' h2 h3 _ _
  exact h _ _ w' (by unfold Own; simpa using h2) h3
theorem far1 {w w1 : World} {b o : Nat} {v : Value} {obj : Obj} {row : Option Nat} (h : w.cell? ⟨b, o, none⟩ = some v) (hg : (w.alloc obj).grownBy w1 row) (hne : some b ≠ row) : w1.cell? ⟨b, o, none⟩ = some v :=
 (hg.cell_far ⟨b, o, none⟩ (Nat.lt_of_lt_of_le (World.block_lt_of_cell? w _ h) (by simp)) hne).trans (cell_alloc obj h)
theorem far1f {w w1 : World} {b o : Nat} {obj : Obj} {row : Option Nat} (h : w.frozen? ⟨b, o, none⟩ = false) (hb : b < w.heap.size) (hg : (w.alloc obj).grownBy w1 row) (hne : some b ≠ row) : w1.frozen? ⟨b, o, none⟩ = false :=
 (hg.frozen_far ⟨b, o, none⟩ (Nat.lt_of_lt_of_le hb (by simp)) hne).trans ((World.frozen?_alloc_old w obj ⟨b, o, none⟩ (by simp; omega)).trans h)
theorem Own.setCell {w : World} {base : Nat} {A : Option Addr} {n c : Nat} {zs : List Int} (h : Own w base A n c zs) {b : Nat} (hb : b < base) (o : Nat) (v : Value) : Own (w.setCell ⟨b, o, none⟩ v) base A n c zs :=
 ownsRow_setCell_below h hb v
theorem pow_le_of {n : Nat} {x X v : Int} (hx : x ≤ 18446744073709551615) (e : x = v + 10000 ^ n * X) (hv : 0 ≤ v) (hX : 0 < X) : n ≤ 4 := by
 rcases Nat.lt_or_ge 4 n with h | h
 ·obtain ⟨m, rfl⟩ : ∃ m, n = 5 + m := ⟨n - 5, by omega⟩
  have h1 : (1 : Int) ≤ 10000 ^ m := Int.pow_pos (by decide)
  have h2 : (10000 : Int) ^ (5 + m) = 100000000000000000000 * 10000 ^ m := by rw [Int.pow_add]; rfl
  have h3 : (100000000000000000000 * 10000 ^ m) * 1 ≤ (100000000000000000000 * 10000 ^ m) * X := Int.mul_le_mul_of_nonneg_left (by omega) (by omega)
  rw [h2] at e
  omega
 ·exact h
set_option maxHeartbeats 2000000 in
theorem Ref.U (x : Int) (x0 : 0 ≤ x) (x1 : x ≤ 18446744073709551615) (w : World) :
  Calls Tryz.prog 76 #[.int .u64 x] w (BAns 5 x w) := by
 go_enter Tryz.func76, Tryz.ntmps76
 go_wp2_with fail
 go_loopg [0] x.toNat (fun g a wr => ∃ (X : Int) (A : Option Addr) (n c : Nat) (zs : List Int), a = .int .u64 X ∧ g = X.toNat ∧ 0 ≤ X ∧ X ≤ x ∧ (x = val zs + 10000 ^ n * X ∧ n ≤ 5 ∧ Dg zs ∧ (X = 0 → Nm zs)) ∧
   wr.cell? ⟨w.heap.size, 0, none⟩ = some (.bool false) ∧ wr.cell? ⟨w.heap.size, 1, none⟩ = some (.slice none 0 0) ∧ wr.frozen? ⟨w.heap.size, 0, none⟩ = false ∧ wr.frozen? ⟨w.heap.size, 1, none⟩ = false ∧
   wr.cell? ⟨w.heap.size + 1, 0, none⟩ = some (.bool false) ∧ wr.cell? ⟨w.heap.size + 1, 1, none⟩ = some (.slice A n c) ∧ wr.frozen? ⟨w.heap.size + 1, 1, none⟩ = false ∧ Own wr (w.heap.size + 2) A n c zs ∧ w.heap.size + 1 < wr.heap.size ∧ Below w.heap.size w wr)
 case atStart =>
  exact ⟨x, none, 0, 0, [], rfl, rfl, x0, Int.le_refl _, ⟨by simp [val], by decide, Dg.nil, fun _ => Nm.nil⟩, by simp [go_sem], by simp [go_sem], by simp [go_sem], by simp [go_sem], by simp [go_sem], by simp [go_sem], by simp [go_sem], Own.nil _ _, by simp, ((Below.refl _ _).alloc (Nat.le_refl _) _).alloc (by simp) _⟩
 case round =>
  obtain ⟨X, A, n, c, zs, rfl, hg, X0, X1, hv, r0, r1, f0, f1, o0, o1, of1, hown, hs, hb⟩ := hrel
  have HG := hid hg
  have HV := hid hv
  have HB := hid hb
  have HO := hid hown
  clear hg hv hb hown
  by_cases h : 0 < X
  ·have hn4 := pow_le_of x1 HV.out.1 (val_nonneg HV.out.2.2.1) h
   go_wp2_with (first | (at_builtin; refine wpList_append_int _ rfl (.tmp 7) (.tmp 11) rfl (w.heap.size + 2) A n c zs rfl (HO.out.alloc _) wr.heap.size (X % 10000) rfl (by simp) (by omega) (by simp; omega) ?_; intro A' c' w1 hown' hgrow; have HO2 := hid hown'; have HG2 := hid hgrow; have q0 := far1 r0 hgrow (HO.out.row (by omega)); have q1 := far1 r1 hgrow (HO.out.row (by omega)); have p0 := far1f f0 (by omega) hgrow (HO.out.row (by omega)); have p1 := far1f f1 (by omega) hgrow (HO.out.row (by omega)); have t0 := far1 o0 hgrow (HO.out.row (by omega)); have t1 := far1 o1 hgrow (HO.out.row (by omega)); have tf := far1f of1 (by omega) hgrow (HO.out.row (by omega)); clear hown' hgrow r0 r1 f0 f1 o0 o1 of1))
   have hs2 : wr.heap.size + 1 ≤ w1.heap.size := by have := HG2.out.size; simpa using this
   go_roundg (X / 10000).toNat
   case measure => have := HG.out; omega
   case rel =>
    refine ⟨X / 10000, A', n + 1, c', zs ++ [X % 10000], rfl, rfl, by omega, by omega, ⟨?_, by omega, HV.out.2.2.1.append (Dg.one (by omega) (by omega)), ?_⟩, by simp [go_sem, q0], by simp [go_sem, q1], by simp [go_sem, p0], by simp [go_sem, p1], by simp [go_sem, t0], by simp [go_sem, t1], by simp [go_sem, tf], HO2.out.setCell (by omega) _ _, by simp; omega, ?_⟩
    ·rw [val_snoc, HO.out.len, HV.out.1, Int.pow_succ, Int.mul_assoc, Int.add_assoc, ← Int.mul_add]
     congr 2
     omega
    ·intro hz
     refine Nm.of_ne (k := n) (by rw [List.length_append, HO.out.len]; rfl) ?_
     rw [show (zs ++ [X % 10000]).getD n 0 = X % 10000 by rw [← HO.out.len]; simp [List.getD]]
     omega
    ·exact ((HB.out.alloc (by omega) _).grown HG2.out (by simp; omega) (fun k hk => by have := HO.out.rowGe k hk; omega)).setCell (by simp) _
  ·obtain rfl : X = 0 := by omega
   go_wp2_with fail
   refine bodyPost_ret (v := .agg #[.bool false, .slice A n c]) (by simp [results, Tryz.results76, go_sem, r0, r1]) rfl ⟨_, _, _, _, rfl, ?_, ?_⟩
   ·have hl := HO.out.rowGe
    refine ⟨zs, ?_, HV.out.2.1, HO.out.cap, HV.out.2.2.1, HV.out.2.2.2 (by trivial), (by intro e; cases e), by have := HV.out.1; simpa using this⟩
    exact (HO.out.rd.setCell (g := w.heap.size) (fun b off e hn => by have := hl b (by rw [e]; rfl); omega) 0 _).setCell (g := w.heap.size) (fun b off e hn => by have := hl b (by rw [e]; rfl); omega) 1 _
   ·exact (HB.out.setCell (by simp) _).setCell (by simp) _
end Go.Proofs.YtbcepkfdlaioaaaGreat

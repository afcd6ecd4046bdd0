import Derived.Test.YtbcepkfdlaioaaaGreatRefC
import Derived.Test.YtbcepkfdlaioaaaGreatCs
import Derived.Test.YtbcepkfdlaioaaaGreatRdu
import Derived.Test.YtbcepkfdlaioaaaGreatDtreePlaysZ10
namespace Go.Proofs.YtbcepkfdlaioaaaGreat
open Go.RowKit
def Sl (w : World) (v : Value) (L : List Int) : Prop := ∃ (s cap : Nat), v = .slice (some ⟨s, 0, none⟩) L.length cap ∧ 0 < L.length ∧ s < w.heap.size ∧
 (∀ i, i < L.length → w.cell? ⟨s, i, none⟩ = some (.int .i64 (L.getD i 0))) ∧ (2 ≤ L.length ∨ w.cell? ⟨s, 1, none⟩ = none)
theorem Law6.less (a b : Int) (w : World) : Calls Tryz.prog 81 #[.int .i64 a, .int .i64 b] w fun e w' => e = .returned (.bool (decide (a < b))) ∧ w = w' := by
 go_enter Tryz.func81, Tryz.ntmps81
 go_wp2
 go_ret
 exact ⟨rfl, rfl⟩
theorem Law6.one (x : Int) (w : World) : Calls Tryz.prog 82 #[.int .i64 x] w fun e w' => ∃ v, e = .returned v ∧ Sl w' v [x] ∧ Below w.heap.size w w' := by
 go_enter Tryz.func82, Tryz.ntmps82
 go_wp2
 go_ret
 refine ⟨_, rfl, ⟨w.heap.size, 1, rfl, by simp, by simp, fun i hi => ?_, Or.inr ?_⟩, (Below.refl _ _).alloc (Nat.le_refl _) _⟩
 ·simp at hi; subst hi; simp
 ·simp [go_sem]
theorem wpList_append_sl {ops : Array Oper} {rest : List Oper} {o : Oper} {a : Act} {Q : Exit → Act → World → Prop} (w : World) (hgd : o.guard = none) (s x : Operand)
  (ho : o.op = .call { callee := .builtin .append, args := #[s, x], argTypes := #[89, 89] })
  (base : Nat) (A : Option Addr) (n c : Nat) (zs : List Int) (hs : a.eval s = .slice A n c) (hown : Own w base A n c zs) (v : Value) (L : List Int) (hx : a.eval x = v) (hv : Sl w v L)
  (hn : n + L.length ≤ 4000000) (hbase : base ≤ w.heap.size)
  (h : ∀ g c' w', Own w' base (some ⟨g, 0, none⟩) (n + L.length) c' (zs ++ L) → w.grownBy w' (Value.slice A n c).ownBlock → wpList Tryz.prog ops Q rest (a.put o.dst (.slice (some ⟨g, 0, none⟩) (n + L.length) c')) w') : wpList Tryz.prog ops Q (o :: rest) a w := by
 obtain ⟨i0, hi, hz0, hz1, hz2⟩ := info_parts infoInt
 obtain ⟨b, cap, rfl, hl, hb, hc, _⟩ := hv
 refine wpList_append_lies w hgd s x 89 ho base 3 i0 (.int .i64 0) 1 8 Tryz.underlying89 hi hz0 hz1 hz2 rfl (by decide) (.slice A n c) n (zs.map (Value.int .i64)) hs hown
  ⟨b, 0, none⟩ L.length cap (L.map (Value.int .i64)) hx (by simp) ?_ ?_ hl (by unfold maxLen; omega) (by omega) hbase _ rfl ?_
 ·intro j u hj
  have hj' : j < L.length := by
   rcases Nat.lt_or_ge j L.length with h1 | h1
   ·exact h1
   ·rw [List.getElem?_eq_none (by simpa using h1)] at hj; cases hj
  have := hc j hj'
  rw [List.getElem?_map] at hj
  have e : L[j]? = some L[j] := List.getElem?_eq_getElem hj'
  rw [e] at hj
  simp at hj
  subst hj
  have hadd : (⟨b, 0, none⟩ : Addr).add j = ⟨b, j, none⟩ := by unfold Addr.add; split <;> simp_all
  rw [hadd, this]
  simp [List.getD, e]
 ·intro u hu
  obtain ⟨z, _, rfl⟩ := List.mem_map.1 hu
  rfl
 ·intro g cap' w' h2 h3 _ _
  exact h g _ w' (by unfold Own; simpa using h2) h3
theorem Own.empty (w : World) : Own (w.alloc (.cells #[] 3)) w.heap.size (some ⟨w.heap.size, 0, none⟩) 0 0 [] :=
 ⟨rfl, .inr ⟨w.heap.size, 0, #[], rfl, Nat.le_refl _, heap_alloc_new w _, Nat.le_refl _, by unfold maxLen; omega, rfl, rfl⟩⟩
theorem Sl.below {w w' : World} {v : Value} {L : List Int} (h : Sl w v L) (hb : Below w.heap.size w w') : Sl w' v L := by
 obtain ⟨s, c, e, h1, h2, h3, h4⟩ := h
 refine ⟨s, c, e, h1, Nat.lt_of_lt_of_le h2 hb.size, fun i hi => keep1 hb (h3 i hi), h4.imp id (fun h => ?_)⟩
 rw [hb.cell (p := ⟨s, 1, none⟩) h2]; exact h
theorem Own.sl {w : World} {base g c : Nat} {L : List Int} (h : Own w base (some ⟨g, 0, none⟩) L.length c L) (h2 : 2 ≤ L.length) : Sl w (.slice (some ⟨g, 0, none⟩) L.length c) L := by
 have hc : ∀ i, i < L.length → w.cell? ⟨g, i, none⟩ = some (.int .i64 (L.getD i 0)) := fun i hi => by
  have hc := h.cells (g := g) rfl i (.int .i64 (L.getD i 0)) (by rw [List.getElem?_map]; simp [List.getD, hi])
  have hadd : (⟨g, 0, none⟩ : Addr).add i = ⟨g, i, none⟩ := by unfold Addr.add; split <;> simp_all
  rwa [hadd] at hc
 exact ⟨g, c, rfl, by omega, World.block_lt_of_cell? w _ (hc 0 (by omega)), hc, Or.inl h2⟩
set_option maxHeartbeats 1000000 in
theorem Law6.both (v u : Value) (L M : List Int) (w : World) (hv : Sl w v L) (hu : Sl w u M) (hn : L.length + M.length ≤ 1000000) :
  Calls Tryz.prog 83 #[v, u] w fun e w' => ∃ v, e = .returned v ∧ Sl w' v (L ++ M) ∧ Below w.heap.size w w' := by
 have l1 : 0 < L.length := hv.choose_spec.choose_spec.2.1
 have l2 : 0 < M.length := hu.choose_spec.choose_spec.2.1
 obtain ⟨A, n, c, rfl⟩ : ∃ A n c, v = .slice A n c := by obtain ⟨s, c, e, _⟩ := hv; exact ⟨_, _, _, e⟩
 obtain ⟨B, m, d, rfl⟩ : ∃ A n c, u = .slice A n c := by obtain ⟨s, c, e, _⟩ := hu; exact ⟨_, _, _, e⟩
 have HV := hid hv
 have HU := hid hu
 clear hv hu
 go_enter Tryz.func83, Tryz.ntmps83
 go_wp2_with (first
  | (at_builtin; (refine wpList_append_sl _ rfl (.tmp 5) (.tmp 6) rfl w.heap.size (some ⟨w.heap.size, 0, none⟩) 0 0 [] rfl (Own.empty w) _ L rfl (HV.out.below ((Below.refl _ _).alloc (Nat.le_refl _) _)) (by omega) (by simp) ?_; intro g c' w1 hown hgrow; have HB := hid (((Below.refl w.heap.size w).alloc (Nat.le_refl _) (.cells #[] 3)).grown hgrow (by simp) (fun k hk => by simp [Value.ownBlock] at hk; omega)); have HO := hid (show Own w1 w.heap.size (some ⟨g, 0, none⟩) L.length c' L by simpa using hown); have HG := hid (HO.out.rowGe); clear hown hgrow))
  | (at_builtin; (refine wpList_append_sl _ rfl (.tmp 7) (.tmp 8) rfl w.heap.size (some ⟨g, 0, none⟩) L.length c' L rfl HO.out _ M rfl (HU.out.below HB.out) (by omega) HB.out.size ?_; intro g2 c2 w2 hown hgrow; have HB2 := hid (HB.out.grown hgrow HB.out.size HG.out); have HO2 := hid hown; clear hown hgrow)))
 go_ret
 have e : L.length + M.length = (L ++ M).length := by simp
 refine ⟨_, rfl, ?_, HB2.out⟩
 have HO3 := HO2.out
 rw [e] at HO3
 rw [e]
 exact HO3.sl (by simp; omega)
end Go.Proofs.YtbcepkfdlaioaaaGreat

import Derived.Test.YtjchnkmolhgpmaaGreatDoorSettleShiftsZ18
import Derived.Test.YtjchnkmolhgpmaaGreatDoorMpA
namespace Go.Proofs.YtjchnkmolhgpmaaGreatDoor
open Go.RowKit
theorem zeroReq (w : World) : (zeroValue 59).run Tryz.prog w = .ok Rq.no.val w := by kernel_rfl
def MpR (w : World) (b : Nat) (l : List Rq) : Prop := ∃ D, w.ownsMap Tryz.prog 3 RqR b l.length D ∧ Maps.size D = l.length ∧ (∀ x ∈ l, Maps.has D (keyI x.a.i) = true ∧ ∀ z, D.atKey (keyI x.a.i) z = .held x) ∧ ∀ i, (∀ x ∈ l, x.a.i ≠ i) → Maps.has D (keyI i) = false
theorem owns_tightR {w : World} {b n : Nat} {D : DataW Rq} (h : w.ownsMap Tryz.prog 3 RqR b n D) : w.ownsMap Tryz.prog 3 RqR b (Maps.size D) D := by
 obtain ⟨es, clock, hb, F, hs, rfl⟩ := h;exact ⟨es, clock, hb, F, by rw [Maps.size_eq, length_sorted]; simp, rfl⟩
theorem MpR.made (w : World) : MpR (w.alloc (.map #[] 0)) w.heap.size [] := by
 refine ⟨.map [], World.ownsMap_made _ _ _ _, rfl, ?_, fun i _ => rfl⟩;intro x hx;simp at hx
theorem MpR.lt {w : World} {b : Nat} {l : List Rq} (h : MpR w b l) : b < w.heap.size := by obtain ⟨D, h, _⟩ := h; exact h.lt
theorem MpR.chg {F : List Nat} {w w' : World} {b : Nat} {l : List Rq} (h : MpR w b l) (hc : Chg F w w') (hb : b ∉ F) : MpR w' b l := by
 obtain ⟨D, ⟨es, clock, hh, r⟩, hr⟩ := h;exact ⟨D, ⟨es, clock, (hc.block b (Array.getElem?_eq_some_iff.1 hh).1 hb).trans hh, r⟩, hr⟩
theorem MpR.below {w w' : World} {b : Nat} {l : List Rq} (h : MpR w b l) (hb : Below w.heap.size w w') : MpR w' b l := h.chg (F := []) (Chg.below hb) (by simp)
theorem MpR.cell {w : World} {b : Nat} {l : List Rq} (h : MpR w b l) (o : Nat) : w.cell? ⟨b, o, none⟩ = none := by
 obtain ⟨D, ⟨es, clock, hh, _⟩, _⟩ := h;simp [World.cell?, hh]
theorem MpR.perm {w : World} {b : Nat} {l k : List Rq} (h : MpR w b l) (p : l.Perm k) : MpR w b k := by
 obtain ⟨D, h1, h2, h3, h4⟩ := h;exact ⟨D, by rw [← p.length_eq]; exact h1, by rw [← p.length_eq]; exact h2, fun x hx => h3 x (p.mem_iff.2 hx), fun i hi => h4 i (fun x hx => hi x (p.mem_iff.1 hx))⟩
theorem held_of {v : Value} {p : List MemPlace} {x : Rq} (h : RqR v = some (.held x, p)) : v = x.val := by
 obtain ⟨c, rfl, e⟩ := RqR_eq h;have e1 := congrArg Prod.fst e;simp only [DataW.held.injEq] at e1;rw [e1]
set_option maxRecDepth 100000 in
theorem MpR.yes {w : World} {b : Nat} {l : List Rq} (h : MpR w b l) {x : Rq} (hx : x ∈ l) (hi : x.a.In) : (Instr.lookup 47 (.map (some b)) (.int .i64 x.a.i) true).run Tryz.prog w = .ok (.tuple #[x.val, .bool true]) w := by
 obtain ⟨D, h1, _, h3, _⟩ := h;obtain ⟨v, ps, hr, hv⟩ := h1.look_ok keyedI Tryz.underlying47 (zeroReq w) (RqR_val Rq.no) (keyOfI (wfI hi.2.2.2.1));rw [(h3 x hx).1] at hr;rw [(h3 x hx).2] at hv;rw [held_of hv] at hr;exact hr
theorem MpR.put {w : World} {b : Nat} {l : List Rq} (h : MpR w b l) {x : Rq} (hi : x.a.In) (hx : ∀ y ∈ l, y.a.i ≠ x.a.i) (hn : l.length ≤ 1000000) :
  ∃ w', (Instr.mapUpdate 47 (.map (some b)) (.int .i64 x.a.i) x.val).run Tryz.prog w = .ok () w' ∧ MpR w' b (x :: l) ∧ Chg [b] w w' := by
 obtain ⟨D, h1, h2, h3, h4⟩ := h;obtain ⟨w', hr, g1, g2⟩ := h1.update keyedI Tryz.underlying47 (by unfold maxLen; omega) (keyOfI (wfI hi.2.2.2.1)) (RqR_val x);have hz : Maps.size (D.put (keyI x.a.i) (.held x)) = l.length + 1 := by
  rw [Maps.size_put (h1.tidy keyedI), h4 x.a.i hx, h2]; simp
 refine ⟨w', hr, ⟨_, by have := owns_tightR g1; rwa [hz] at this, hz, fun y hy => ?_, fun i hi' => ?_⟩, ⟨g2.os, g2.tape, g2.output, g2.size, fun k hk hk' => g2.block k hk (fun e => hk' (by injection e with e; simp [e]))⟩⟩
 ·rcases List.mem_cons.1 hy with rfl | hy
  ·exact ⟨Maps.has_put_same (k := keyI y.a.i) h1.isMap (by simp [WideAt.IsKeyLit]) _, fun z => Maps.atKey_put_same (k := keyI y.a.i) h1.isMap (by simp [WideAt.IsKeyLit]) _ z⟩
  ·have e := keyI_ne (hx y hy);exact ⟨by rw [Maps.has_put_other e]; exact (h3 y hy).1, fun z => by rw [Maps.atKey_put_other e]; exact (h3 y hy).2 z⟩
 ·rw [Maps.has_put_other (keyI_ne (fun e => hi' x (by simp) e.symm))];exact h4 i (fun y hy => hi' y (by simp [hy]))
theorem MpR.del {w : World} {b : Nat} {l k : List Rq} (h : MpR w b l) {x : Rq} (hi : x.a.In) (p : l.Perm (x :: k)) (hd : ∀ y ∈ k, y.a.i ≠ x.a.i) (ty : TypeId) :
  ∃ w', (Builtin.delete_ #[47, 3] ty #[.map (some b), .int .i64 x.a.i]).run Tryz.prog w = .ok (.tuple #[]) w' ∧ MpR w' b k ∧ Chg [b] w w' := by
 obtain ⟨D, h1, h2, h3, h4⟩ := h.perm p;obtain ⟨w', hr, g1, g2⟩ := h1.drop keyedI Tryz.underlying47 (keyOfI (wfI hi.2.2.2.1)) ty;have hz : Maps.size (D.del (keyI x.a.i)) = k.length := by
  have := Maps.size_del (k := keyI x.a.i) (h1.tidy keyedI);rw [(h3 x (by simp)).1, h2] at this;simp at this;exact this
 have gg := g2.grown;refine ⟨w', hr, ⟨_, by have := owns_tightR g1; rwa [hz] at this, hz, fun y hy => ?_, fun i hi' => ?_⟩, ⟨gg.os, gg.tape, gg.output, gg.size, fun j hj hj' => gg.block j hj (fun e => hj' (by injection e with e; simp [e]))⟩⟩
 ·have e := keyI_ne (hd y hy);exact ⟨by rw [Maps.has_del_other e]; exact (h3 y (by simp [hy])).1, fun z => by rw [Maps.atKey_del_other e]; exact (h3 y (by simp [hy])).2 z⟩
 ·by_cases e : i = x.a.i
  ·rw [e]; exact Maps.has_del_same
  ·rw [Maps.has_del_other (keyI_ne e)];exact h4 i (fun y hy => by
    rcases List.mem_cons.1 hy with rfl | hy
    ·exact fun e' => e e'.symm
    ·exact hi' y hy)
theorem perm_of_sub : ∀ {l s : List Rq}, (l.map (·.a.i)).Nodup → (∀ x ∈ l, x ∈ s) → s.length ≤ l.length → l.Perm s := by
 intro l
 induction l with
 | nil => intro s _ _ hl; rw [List.eq_nil_of_length_eq_zero (l := s) (by simpa using hl)]
 | cons x l ih =>
  intro s hn hs hl;obtain ⟨s1, s2, rfl⟩ := List.append_of_mem (hs x (by simp));rw [List.map_cons, List.nodup_cons] at hn;refine (List.Perm.cons x (ih (s := s1 ++ s2) hn.2 (fun y hy => ?_) ?_)).trans List.perm_middle.symm
  ·have h1 := hs y (by simp [hy]);rcases List.mem_append.1 h1 with h1 | h1
   ·exact List.mem_append_left _ h1
   ·rcases List.mem_cons.1 h1 with rfl | h1
    ·exact absurd (List.mem_map_of_mem (f := fun c : Rq => c.a.i) hy) hn.1
    ·exact List.mem_append_right _ h1
  ·simp at hl ⊢; omega
end Go.Proofs.YtjchnkmolhgpmaaGreatDoor

/- The tree of numbers: turning. -/
import Derived.Test.YtcnmobehamgmbaaRbB
import Derived.StillTailTactics
namespace Go.Proofs.Ytcnmobehamgmbaa
open Go.RowKit

theorem In.far {w : World} {t : Tr Int} (h : In w t) {g : Nat} (hn : Nl w g) (hg : g ∉ t.blocks) (o : Nat) (u : Value) : In (w.setCell ⟨g, o, none⟩ u) t :=
  h.chg (F := [g]) ((Chg.refl [g] w).set (Or.inl (by simp)) o u) (fun k hk => by simp at hk; subst hk; exact hn) (fun k hk hk' => by simp at hk'; subst hk'; exact hg hk)
theorem In.drew {w : World} {t : Tr Int} (h : In w t) : In w.drew t := h.below ((Below.refl _ _).drew)
theorem Sl.far {w : World} {v : Value} {L : List Int} (h : Sl w v L) {g : Nat} (hn : Nl w g) (o : Nat) (u : Value) : Sl (w.setCell ⟨g, o, none⟩ u) v L :=
  h.chg (F := [g]) ((Chg.refl [g] w).set (Or.inl (by simp)) o u) (fun k hk => by simp at hk; subst hk; exact hn)
theorem Nl.chg {F : List Nat} {w w' : World} {g : Nat} (h : Nl w g) (hc : Chg F w w') (hg : g ∉ F) : Nl w' g := by
  obtain ⟨A, n, c, e⟩ := h
  exact ⟨A, n, c, (hc.cell (p := ⟨g, 1, none⟩) (World.block_lt_of_cell? w _ e) hg).trans e⟩
/-- What a call answers that turns a tree. -/
def Turns (v : Value) (t' : Tr Int) (F : List Nat) (w : World) (e : Ending) (w' : World) : Prop := e = .returned v ∧ St w' t' ∧ Chg F w w'
/-- A node whose parts are told apart. -/
theorem nodup_node {g : Nat} {c : Bool} {l r : Tr Int} {x : Int} (h : (Tr.node g c l x r).blocks.Nodup) : g ∉ l.blocks ∧ g ∉ r.blocks ∧ l.blocks.Nodup ∧ r.blocks.Nodup ∧ (∀ a ∈ l.blocks, a ∉ r.blocks) := by
  simp only [Tr.blocks, List.nodup_cons, List.nodup_append, List.mem_append, not_or] at h
  exact ⟨h.1.1, h.1.2, h.2.1, h.2.2.1, fun a ha hb => h.2.2.2 a ha a hb rfl⟩
theorem In.paint {w : World} {g : Nat} {c d : Bool} {l r : Tr Int} {x : Int} (h : In w (.node g c l x r)) (hg : g ∉ l.blocks ∧ g ∉ r.blocks) : In (w.setCell ⟨g, 4, none⟩ (.bool d)) (.node g d l x r) := by
  have hn := h.nl g (by simp [Tr.blocks])
  obtain ⟨⟨v, hv, hc⟩, hl, hr⟩ := h
  exact ⟨⟨v, hv.far hn _ _, hc.set 4 (by simp) (.bool d)⟩, hl.far hn hg.1 _ _, hr.far hn hg.2 _ _⟩

set_option maxHeartbeats 1000000 in
set_option maxRecDepth 100000 in
theorem Rb.flip (g gl gr : Nat) (c cl cr : Bool) (x xl xr : Int) (ll rl lr rr : Tr Int) (w : World) (h : St w (.node g c (.node gl cl ll xl rl) x (.node gr cr lr xr rr)))
    (hd : (Tr.node g c (.node gl cl ll xl rl) x (.node gr cr lr xr rr)).blocks.Nodup) :
    Calls Try.prog 119 #[.pointer (some ⟨g, 0, none⟩)] w (Turns (.tuple #[]) (Tr.flip (.node g c (.node gl cl ll xl rl) x (.node gr cr lr xr rr))) (Tr.node g c (.node gl cl ll xl rl) x (.node gr cr lr xr rr)).blocks w) := by
  obtain ⟨d1, d2, d3, d4, d5⟩ := nodup_node hd
  obtain ⟨e1, e2, _⟩ := nodup_node d3
  obtain ⟨f1, f2, _⟩ := nodup_node d4
  have hgl : g ≠ gl := fun e => d1 (by simp [Tr.blocks, e])
  have hgr : g ≠ gr := fun e => d2 (by simp [Tr.blocks, e])
  have hlr : gl ≠ gr := fun e => d5 gl (by simp [Tr.blocks]) (by simp [Tr.blocks, e])
  have hn := h.nl g (by simp [Tr.blocks])
  have HN := hid (In.nl h.2.1)
  have HNr := hid (In.nl h.2.2)
  obtain ⟨⟨A, n, k, hc⟩, hl, hr⟩ := id h
  have HF := hid (show Cs (w.setCell ⟨g, 4, none⟩ (.bool !c)) g [.int .i64 x, .slice A n k, .pointer (some ⟨gl, 0, none⟩), .pointer (some ⟨gr, 0, none⟩), .bool !c] ∧ In (w.setCell ⟨g, 4, none⟩ (.bool !c)) (.node gl cl ll xl rl) ∧ In (w.setCell ⟨g, 4, none⟩ (.bool !c)) (.node gr cr lr xr rr) ∧ Chg (Tr.node g c (.node gl cl ll xl rl) x (.node gr cr lr xr rr)).blocks w (w.setCell ⟨g, 4, none⟩ (.bool !c)) from
    ⟨hc.set 4 (by simp) _, hl.far hn d1 _ _, hr.far hn d2 _ _, (Chg.refl _ _).set (Or.inl (by simp [Tr.blocks])) _ _⟩)
  have c4 := hc.at4
  have c5 := hc.fr4
  clear h hc hn hd hl hr
  go_enter Try.func119, Try.ntmps119
  go_wp2_with fail
  generalize w.setCell ⟨g, 4, none⟩ (.bool !c) = W1 at HF ⊢
  clear c4 c5
  have q2 := HF.out.1.at2
  obtain ⟨v1, _, k1⟩ := HF.out.2.1.1
  have q4 := k1.at4
  have q5 := k1.fr4
  clear k1
  go_still_tail 14, (by kernel_rfl)
  change wpList _ _ _ _ _ W1.drew
  have HF2 : Hid (∃ W2, W2 = W1.drew.setCell ⟨gl, 4, none⟩ (.bool !cl) ∧ Cs W2 g [.int .i64 x, .slice A n k, .pointer (some ⟨gl, 0, none⟩), .pointer (some ⟨gr, 0, none⟩), .bool !c] ∧ In W2 (.node gl (!cl) ll xl rl) ∧ In W2 (.node gr cr lr xr rr) ∧ Chg (Tr.node g c (.node gl cl ll xl rl) x (.node gr cr lr xr rr)).blocks w W2) := hid (by
    obtain ⟨z0, z1, z2, z3⟩ := HF.out
    have hn := z1.nl gl (by simp [Tr.blocks])
    refine ⟨_, rfl, z0.drew.far (Ne.symm hgl) _ _, z1.drew.paint ⟨e1, e2⟩, z2.drew.far hn (d5 gl (by simp [Tr.blocks])) _ _, ?_⟩
    exact (z3.trans (Chg.below ((Below.refl _ _).drew)) (G := []) (by simp)).set (Or.inl (by simp [Tr.blocks])) _ _)
  go_wp2_with fail
  obtain ⟨W2, hW, HF2⟩ := HF2
  rw [show (W1.setCell ⟨gl, 4, none⟩ (.bool !cl)).drew = W2 from hW.symm]
  clear q2 q4 q5 hW HF
  have HF := hid HF2
  clear HF2
  have q2 := HF.out.1.at3
  obtain ⟨v2, _, k1⟩ := HF.out.2.2.1.1
  have q4 := k1.at4
  have q5 := k1.fr4
  clear k1
  go_still_tail 14, (by kernel_rfl)
  change wpList _ _ _ _ _ W2.drew
  have HF2 : Hid (∃ W3, W3 = W2.drew.setCell ⟨gr, 4, none⟩ (.bool !cr) ∧ St W3 (Tr.node g (!c) (.node gl (!cl) ll xl rl) x (.node gr (!cr) lr xr rr)) ∧ Chg (Tr.node g c (.node gl cl ll xl rl) x (.node gr cr lr xr rr)).blocks w W3) := hid (by
    obtain ⟨z0, z1, z2, z3⟩ := HF.out
    have hn := z2.nl gr (by simp [Tr.blocks])
    refine ⟨_, rfl, ⟨⟨A, n, k, z0.drew.far (Ne.symm hgr) _ _⟩, z1.drew.far hn (fun h => d5 gr (by simpa [Tr.blocks] using h) (by simp [Tr.blocks])) _ _, z2.drew.paint ⟨f1, f2⟩⟩, ?_⟩
    exact (z3.trans (Chg.below ((Below.refl _ _).drew)) (G := []) (by simp)).set (Or.inl (by simp [Tr.blocks])) _ _)
  go_wp2_with fail
  obtain ⟨W3, hW, HF3⟩ := HF2
  rw [show (W2.setCell ⟨gr, 4, none⟩ (.bool !cr)).drew = W3 from hW.symm]
  go_ways
  exact bodyPost_ret (v := .tuple #[]) (by simp [results, Try.results119, go_sem]) rfl ⟨rfl, HF3.1, HF3.2⟩

end Go.Proofs.Ytcnmobehamgmbaa

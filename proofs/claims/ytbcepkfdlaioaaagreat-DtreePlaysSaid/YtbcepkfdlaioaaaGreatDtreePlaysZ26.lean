/- Texts of DtreePlays's proof, together. -/
import Derived.Test.YtbcepkfdlaioaaaGreatRbB
import Derived.StillTailTactics
import Derived.Test.YtbcepkfdlaioaaaGreatDtreePlaysZ24
import Derived.BigQuiet
import Derived.Deep.QuietTactic
namespace Go.Proofs.YtbcepkfdlaioaaaGreat

section
open Go.RowKit
theorem In.far {w : World} {t : Tr Int} (h : In w t) {g : Nat} (hn : Nl w g) (hg : g ∉ t.blocks) (o : Nat) (u : Value) : In (w.setCell ⟨g, o, none⟩ u) t :=
 h.chg (F := [g]) ((Chg.refl [g] w).set (Or.inl (by simp)) o u) (fun k hk => by simp at hk; subst hk; exact hn) (fun k hk hk' => by simp at hk'; subst hk'; exact hg hk)
theorem In.drew {w : World} {t : Tr Int} (h : In w t) : In w.drew t := h.below ((Below.refl _ _).drew)
theorem Sl.far {w : World} {v : Value} {L : List Int} (h : Sl w v L) {g : Nat} (hn : Nl w g) (o : Nat) (u : Value) : Sl (w.setCell ⟨g, o, none⟩ u) v L :=
 h.chg (F := [g]) ((Chg.refl [g] w).set (Or.inl (by simp)) o u) (fun k hk => by simp at hk; subst hk; exact hn)
theorem Nl.chg {F : List Nat} {w w' : World} {g : Nat} (h : Nl w g) (hc : Chg F w w') (hg : g ∉ F) : Nl w' g := by
 obtain ⟨A, n, c, e⟩ := h
 exact ⟨A, n, c, (hc.cell (p := ⟨g, 1, none⟩) (World.block_lt_of_cell? w _ e) hg).trans e⟩
def Turns (v : Value) (t' : Tr Int) (F : List Nat) (w : World) (e : Ending) (w' : World) : Prop := e = .returned v ∧ St w' t' ∧ Chg F w w'
theorem nodup_node {g : Nat} {c : Bool} {l r : Tr Int} {x : Int} (h : (Tr.node g c l x r).blocks.Nodup) : g ∉ l.blocks ∧ g ∉ r.blocks ∧ l.blocks.Nodup ∧ r.blocks.Nodup ∧ (∀ a ∈ l.blocks, a ∉ r.blocks) := by
 simp only [Tr.blocks, List.nodup_cons, List.nodup_append, List.mem_append, not_or] at h
 exact ⟨h.1.1, h.1.2, h.2.1, h.2.2.1, fun a ha hb => h.2.2.2 a ha a hb rfl⟩
theorem In.paint {w : World} {g : Nat} {c d : Bool} {l r : Tr Int} {x : Int} (h : In w (.node g c l x r)) (hg : g ∉ l.blocks ∧ g ∉ r.blocks) : In (w.setCell ⟨g, 4, none⟩ (.bool d)) (.node g d l x r) := by
 have hn := h.nl g (by simp [Tr.blocks])
 obtain ⟨⟨v, hv, hc⟩, hl, hr⟩ := h
 exact ⟨⟨v, hv.far hn _ _, hc.set 4 (by simp) (.bool d)⟩, hl.far hn hg.1 _ _, hr.far hn hg.2 _ _⟩
set_option maxHeartbeats 1000000 in
set_option maxRecDepth 100000 in
theorem Rb.flip (g gl gr : Nat) (c cl cr : Bool) (x xl xr : Int) (ll rl lr rr : Tr Int) (w : World) (h : St w (.node g c (.node gl cl ll xl rl) x (.node gr cr lr xr rr)))
  (hd : (Tr.node g c (.node gl cl ll xl rl) x (.node gr cr lr xr rr)).blocks.Nodup) :
  Calls Tryz.prog 113 #[.pointer (some ⟨g, 0, none⟩)] w (Turns (.tuple #[]) (Tr.flip (.node g c (.node gl cl ll xl rl) x (.node gr cr lr xr rr))) (Tr.node g c (.node gl cl ll xl rl) x (.node gr cr lr xr rr)).blocks w) := by
 obtain ⟨d1, d2, d3, d4, d5⟩ := nodup_node hd
 obtain ⟨e1, e2, _⟩ := nodup_node d3
 obtain ⟨f1, f2, _⟩ := nodup_node d4
 have hgl : g ≠ gl := fun e => d1 (by simp [Tr.blocks, e])
 have hgr : g ≠ gr := fun e => d2 (by simp [Tr.blocks, e])
 have hlr : gl ≠ gr := fun e => d5 gl (by simp [Tr.blocks]) (by simp [Tr.blocks, e])
 have hn := h.nl g (by simp [Tr.blocks])
 have HN := hid (In.nl h.2.1)
 have HNr := hid (In.nl h.2.2)
 obtain ⟨⟨A, n, k, hc⟩, hl, hr⟩ := id h
 have HF := hid (show Cs (w.setCell ⟨g, 4, none⟩ (.bool !c)) g [.int .i64 x, .slice A n k, .pointer (some ⟨gl, 0, none⟩), .pointer (some ⟨gr, 0, none⟩), .bool !c] ∧ In (w.setCell ⟨g, 4, none⟩ (.bool !c)) (.node gl cl ll xl rl) ∧ In (w.setCell ⟨g, 4, none⟩ (.bool !c)) (.node gr cr lr xr rr) ∧ Chg (Tr.node g c (.node gl cl ll xl rl) x (.node gr cr lr xr rr)).blocks w (w.setCell ⟨g, 4, none⟩ (.bool !c)) from
  ⟨hc.set 4 (by simp) _, hl.far hn d1 _ _, hr.far hn d2 _ _, (Chg.refl _ _).set (Or.inl (by simp [Tr.blocks])) _ _⟩)
 have c4 := hc.at4
 have c5 := hc.fr4
 clear h hc hn hd hl hr
 go_enter Tryz.func113, Tryz.ntmps113
 go_wp2_with fail
 generalize w.setCell ⟨g, 4, none⟩ (.bool !c) = W1 at HF ⊢
 clear c4 c5
 have q2 := HF.out.1.at2
 obtain ⟨v1, _, k1⟩ := HF.out.2.1.1
 have q4 := k1.at4
 have q5 := k1.fr4
 clear k1
 go_still_tail 14, (by kernel_rfl)
 change wpList _ _ _ _ _ W1.drew
 have HF2 : Hid (∃ W2, W2 = W1.drew.setCell ⟨gl, 4, none⟩ (.bool !cl) ∧ Cs W2 g [.int .i64 x, .slice A n k, .pointer (some ⟨gl, 0, none⟩), .pointer (some ⟨gr, 0, none⟩), .bool !c] ∧ In W2 (.node gl (!cl) ll xl rl) ∧ In W2 (.node gr cr lr xr rr) ∧ Chg (Tr.node g c (.node gl cl ll xl rl) x (.node gr cr lr xr rr)).blocks w W2) := hid (by
  obtain ⟨z0, z1, z2, z3⟩ := HF.out
  have hn := z1.nl gl (by simp [Tr.blocks])
  refine ⟨_, rfl, z0.drew.far (Ne.symm hgl) _ _, z1.drew.paint ⟨e1, e2⟩, z2.drew.far hn (d5 gl (by simp [Tr.blocks])) _ _, ?_⟩
  exact (z3.trans (Chg.below ((Below.refl _ _).drew)) (G := []) (by simp)).set (Or.inl (by simp [Tr.blocks])) _ _)
 go_wp2_with fail
 obtain ⟨W2, hW, HF2⟩ := HF2
 rw [show (W1.setCell ⟨gl, 4, none⟩ (.bool !cl)).drew = W2 from hW.symm]
 clear q2 q4 q5 hW HF
 have HF := hid HF2
 clear HF2
 have q2 := HF.out.1.at3
 obtain ⟨v2, _, k1⟩ := HF.out.2.2.1.1
 have q4 := k1.at4
 have q5 := k1.fr4
 clear k1
 go_still_tail 14, (by kernel_rfl)
 change wpList _ _ _ _ _ W2.drew
 have HF2 : Hid (∃ W3, W3 = W2.drew.setCell ⟨gr, 4, none⟩ (.bool !cr) ∧ St W3 (Tr.node g (!c) (.node gl (!cl) ll xl rl) x (.node gr (!cr) lr xr rr)) ∧ Chg (Tr.node g c (.node gl cl ll xl rl) x (.node gr cr lr xr rr)).blocks w W3) := hid (by
  obtain ⟨z0, z1, z2, z3⟩ := HF.out
  have hn := z2.nl gr (by simp [Tr.blocks])
  refine ⟨_, rfl, ⟨⟨A, n, k, z0.drew.far (Ne.symm hgr) _ _⟩, z1.drew.far hn (fun h => d5 gr (by simpa [Tr.blocks] using h) (by simp [Tr.blocks])) _ _, z2.drew.paint ⟨f1, f2⟩⟩, ?_⟩
  exact (z3.trans (Chg.below ((Below.refl _ _).drew)) (G := []) (by simp)).set (Or.inl (by simp [Tr.blocks])) _ _)
 go_wp2_with fail
 obtain ⟨W3, hW, HF3⟩ := HF2
 rw [show (W2.setCell ⟨gr, 4, none⟩ (.bool !cr)).drew = W3 from hW.symm]
 go_ways
 exact bodyPost_ret (v := .tuple #[]) (by simp [results, Tryz.results113, go_sem]) rfl ⟨rfl, HF3.1, HF3.2⟩
end


section
open Go.RowKit
set_option maxRecDepth 100000
set_option maxHeartbeats 32000000
def Gives (L : List Int) (w : World) (e : Ending) (w' : World) : Prop := ∃ A n c, e = .returned (.slice A n c) ∧ Sl w' (.slice A n c) L ∧ Below w.heap.size w w'
theorem Sl.form {w : World} {v : Value} {L : List Int} (h : Sl w v L) : ∃ A n c, v = .slice A n c := by obtain ⟨s, c, e, _⟩ := h; exact ⟨_, _, _, e⟩
theorem Rb.upTo0 (g b1 b2 : Nat) (x : Int) (v pr : Value) (c : Bool) (w : World) (hg : Cs w g [.int .i64 x, v, .pointer none, pr, .bool c]) (h1 : Cs w b1 [.func (.func 82) #[] #[]]) :
  Calls Tryz.prog 99 #[.pointer (some ⟨g, 0, none⟩), .pointer (some ⟨b1, 0, none⟩), .pointer (some ⟨b2, 0, none⟩)] w (Gives [x] w) := by
 have g0 := hg.at0
 have g2 := hg.at2
 have q1 := h1.at0
 clear hg h1
 go_enter Tryz.func99, Tryz.ntmps99
 go_wp2_with fail
 go_still_tail 5, (by kernel_rfl)
 change wpList _ _ _ _ _ w.drew
 go_wp2_with fail
 refine (Law6.one x _).mono ?_
 rintro e w1 ⟨v1, rfl, hs, hb⟩
 obtain ⟨A, n, k, rfl⟩ := hs.form
 have HS := hid hs
 have HB := hid hb
 clear hs hb
 go_wp2_with fail
 go_ret
 exact ⟨_, _, _, rfl, HS.out, (Below.refl _ _).drew.trans HB.out⟩
theorem Rb.upTo1 (g gl b1 b2 : Nat) (x : Int) (v pr : Value) (c : Bool) (L : List Int) (A : Option Addr) (n k : Nat) (w : World) (hg : Cs w g [.int .i64 x, v, .pointer (some ⟨gl, 0, none⟩), pr, .bool c]) (hl : w.cell? ⟨gl, 1, none⟩ = some (.slice A n k)) (hs : Sl w (.slice A n k) L)
  (hn : L.length ≤ 900000) (h1 : Cs w b1 [.func (.func 82) #[] #[]]) (h2 : Cs w b2 [.func (.func 83) #[] #[]]) :
  Calls Tryz.prog 99 #[.pointer (some ⟨g, 0, none⟩), .pointer (some ⟨b1, 0, none⟩), .pointer (some ⟨b2, 0, none⟩)] w (Gives (L ++ [x]) w) := by
 have g2 := hg.at2
 have HQ : Hid (∀ w', Below w.heap.size w w' → (w'.cell? ⟨b2, 0, none⟩ = some (.func (.func 83) #[] #[]) ∧ w'.cell? ⟨b1, 0, none⟩ = some (.func (.func 82) #[] #[]) ∧ w'.cell? ⟨g, 2, none⟩ = some (.pointer (some ⟨gl, 0, none⟩)) ∧ w'.cell? ⟨gl, 1, none⟩ = some (.slice A n k) ∧ w'.cell? ⟨g, 0, none⟩ = some (.int .i64 x)) ∧ Below w.heap.size w w') :=
  hid (fun w' hb => ⟨⟨keep1 hb h2.at0, keep1 hb h1.at0, keep1 hb g2, keep1 hb hl, keep1 hb hg.at0⟩, hb⟩)
 have HS := hid hs
 clear hg h1 h2 hs hl
 go_enter Tryz.func99, Tryz.ntmps99
 go_wp2_with fail
 go_region_held3 (fun w' => (w'.cell? ⟨b2, 0, none⟩ = some (.func (.func 83) #[] #[]) ∧ w'.cell? ⟨b1, 0, none⟩ = some (.func (.func 82) #[] #[]) ∧ w'.cell? ⟨g, 2, none⟩ = some (.pointer (some ⟨gl, 0, none⟩)) ∧ w'.cell? ⟨gl, 1, none⟩ = some (.slice A n k) ∧ w'.cell? ⟨g, 0, none⟩ = some (.int .i64 x)) ∧ Below w.heap.size w w')
  (first | with_reducible exact HQ.out _ (Below.refl _ _).drew | with_reducible exact HQ.out _ (below_on (And.right (by assumption : (_ ∧ _ ∧ _ ∧ _ ∧ _) ∧ Below w.heap.size w _)) hb2))
  (first
   | (go_at_call 82; refine (Law6.one x _).mono ?_; rintro e w2 ⟨v1, rfl, hs1, hb2⟩; obtain ⟨A1, n1, k1, rfl⟩ := hs1.form; have HS1 := hid hs1; clear hs1)
   | (go_at_call 83; refine (Law6.both _ _ L [x] _ (HS.out.below (And.right (by assumption : (_ ∧ _ ∧ _ ∧ _ ∧ _) ∧ Below w.heap.size w _))) HS1.out (by simp; omega)).mono ?_; rintro e w3 ⟨v2, rfl, hs2, hb2⟩; obtain ⟨A2, n2, k2, rfl⟩ := hs2.form; have HS2 := hid hs2; clear hs2))
 have HF := hid (And.right (by assumption : (_ ∧ _ ∧ _ ∧ _ ∧ _) ∧ Below w.heap.size w w3))
 go_wp2_with fail
 go_ret
 exact ⟨_, _, _, rfl, HS2.out, HF.out⟩
theorem Rb.upTo (g b1 b2 : Nat) (c : Bool) (l r : Tr Int) (x : Int) (w : World) (h : St w (.node g c l x r)) (hn : l.list.length ≤ 900000) (h1 : Cs w b1 [.func (.func 82) #[] #[]]) (h2 : Cs w b2 [.func (.func 83) #[] #[]]) :
  Calls Tryz.prog 99 #[.pointer (some ⟨g, 0, none⟩), .pointer (some ⟨b1, 0, none⟩), .pointer (some ⟨b2, 0, none⟩)] w (Gives (l.list ++ [x]) w) := by
 obtain ⟨⟨A, n, k, hc⟩, hl, hr⟩ := h
 cases l with
 | nil => exact Rb.upTo0 g b1 b2 x _ _ c w hc h1
 | node gl cl ll xl rl =>
  obtain ⟨⟨v, hv, hcl⟩, _⟩ := hl
  obtain ⟨A1, n1, k1, rfl⟩ := hv.form
  exact Rb.upTo1 g gl b1 b2 x _ _ c _ A1 n1 k1 w hc hcl.at1 hv hn h1 h2
def Cnt (w : World) (g : Nat) (x : Int) (pl pr : Value) (c : Bool) (w' : World) : Prop := ∃ A n k, Cs w' g [.int .i64 x, .slice A n k, pl, pr, .bool c] ∧ Chg [g] w w'
theorem Cnt.drew {w w' : World} {g : Nat} {x : Int} {pl pr : Value} {c : Bool} (h : Cnt w g x pl pr c w') : Cnt w g x pl pr c w'.drew := by
 obtain ⟨A, n, k, hc, hw⟩ := h
 exact ⟨A, n, k, hc.drew, hw.trans (G := []) (Chg.below (Below.refl _ _).drew) (by simp)⟩
theorem Cnt.below {w w1 w2 : World} {g : Nat} {x : Int} {pl pr : Value} {c : Bool} (h : Cnt w g x pl pr c w1) (hb : Below w1.heap.size w1 w2) : Cnt w g x pl pr c w2 := by
 obtain ⟨A, n, k, hc, hw⟩ := h
 exact ⟨A, n, k, hc.below hb, hw.trans (G := []) (Chg.below hb) (by simp)⟩
theorem Cnt.put {w w' : World} {g : Nat} {x : Int} {pl pr : Value} {c : Bool} (h : Cnt w g x pl pr c w') (A : Option Addr) (n k : Nat) : Cnt w g x pl pr c (w'.setCell ⟨g, 1, none⟩ (.slice A n k)) := by
 obtain ⟨A0, n0, k0, hc, hw⟩ := h
 exact ⟨A, n, k, hc.set 1 (by simp) _, hw.set (Or.inl (by simp)) _ _⟩
theorem Rb.count (th g : Nat) (c : Bool) (l r : Tr Int) (x : Int) (rt : Value) (n : Int) (w : World) (h : St w (.node g c l x r)) (hd : (Tr.node g c l x r).blocks.Nodup) (hn : (Tr.node g c l x r).list.length ≤ 900000) (he : Env w th rt n) :
  Calls Tryz.prog 114 #[.pointer (some ⟨th, 0, none⟩), .pointer (some ⟨g, 0, none⟩)] w fun e w' => e = .returned (.tuple #[]) ∧ In w' (.node g c l x r) ∧ Chg [g] w w' := by
 obtain ⟨d1, d2, d3, d4, d5⟩ := nodup_node hd
 have HNl := hid (h.nl)
 have HH := hid h
 have HE := hid he
 have hnl := h.nl g (by simp [Tr.blocks])
 have HN := hid hnl
 simp only [Tr.list, List.length_append, List.length_cons] at hn
 obtain ⟨b1, b2, t0, t1, t2, t3, t4⟩ := id he
 obtain ⟨⟨A, m, k, hc⟩, hl, hr⟩ := id h
 have HT := hid (And.intro t0 (And.intro t1 t2))
 have HC := hid (And.intro hc (And.intro hl hr))
 have g1 := hc.at1
 have g1f := hc.fr1
 have e2 := t0.at2
 clear t0 t1 t2 t3 t4 h he hnl hc hl hr hd
 go_enter Tryz.func114, Tryz.ntmps114
 go_wp2_with fail
 refine (Rb.upTo g b1 b2 c l r x _ HH.out (by omega) HT.out.2.1 HT.out.2.2).mono ?_
 rintro e w1 ⟨A1, m1, k1, rfl, hs, hb⟩
 have HS := hid hs
 -- behind the call, and the store
 have HW : Hid (∃ W, W = w1.setCell ⟨g, 1, none⟩ (.slice A1 m1 k1) ∧ Cs W g [.int .i64 x, .slice A1 m1 k1, ptr l, ptr r, .bool c] ∧ Sl W (.slice A1 m1 k1) (l.list ++ [x]) ∧ In W l ∧ In W r ∧ Env W th rt n ∧ Chg [g] w W) := hid (by
  have hn' : Nl w1 g := HN.out.chg (F := []) (Chg.below hb) (by simp)
  refine ⟨_, rfl, (HC.out.1.below hb).set 1 (by simp) _, HS.out.far hn' _ _, (HC.out.2.1.below hb).far hn' d1 _ _, (HC.out.2.2.below hb).far hn' d2 _ _, ?_, ?_⟩
  ·exact (HE.out.below hb).chg (F := [g]) ((Chg.refl _ _).set (Or.inl (by simp)) _ _) (fun j hj => by simp at hj; subst hj; exact hn')
  ·exact (Chg.below hb).set (Or.inl (by simp)) _ _)
 have q1 := keep1 hb g1
 have q2 := (hb.frozen (p := ⟨g, 1, none⟩) (World.block_lt_of_cell? w _ g1)).trans g1f
 clear hs hb g1 g1f e2
 have HW' : Hid (∃ W, W = w1.setCell ⟨g, 1, none⟩ (.slice A1 m1 k1)) := hid ⟨_, rfl⟩
 cases r with
 | nil =>
  have z3 : (w1.setCell ⟨g, 1, none⟩ (.slice A1 m1 k1)).cell? ⟨g, 3, none⟩ = some (.pointer none) := by obtain ⟨W, rfl, z, _⟩ := HW.out; exact z.at3
  go_wp2_with fail
  go_end0
  obtain ⟨W, rfl, z0, z1, z2, z3, z4, z5⟩ := HW.out
  exact ⟨rfl, ⟨⟨_, by simpa [Tr.list] using z1, z0⟩, z2, z3⟩, z5⟩
 | node gr cr lr xr rr =>
  have z3 : (w1.setCell ⟨g, 1, none⟩ (.slice A1 m1 k1)).cell? ⟨g, 3, none⟩ = some (.pointer (some ⟨gr, 0, none⟩)) := by obtain ⟨W, rfl, z, _⟩ := HW.out; exact z.at3
  go_wp2_with fail
  obtain ⟨W, hW, HF⟩ := HW
  rw [← hW]
  clear hW q1 q2 z3 HW'
  have HF := hid HF
  obtain ⟨v2, hv2, hc2⟩ := HF.out.2.2.2.1.1
  obtain ⟨A2, m2, k2, rfl⟩ := hv2.form
  have HR := hid hc2
  have HF2 := hid (HF.out.2.1.below (Below.refl _ W).drew)
  have HF3 := hid (hv2.below (Below.refl _ W).drew)
  clear hv2 hc2
  have HQ : Hid (∀ w', Cnt W g x (ptr l) (.pointer (some ⟨gr, 0, none⟩)) c w' → (w'.cell? ⟨th, 1, none⟩ = some (.func (.func 83) #[] #[]) ∧ w'.cell? ⟨g, 3, none⟩ = some (.pointer (some ⟨gr, 0, none⟩)) ∧ w'.cell? ⟨gr, 1, none⟩ = some (.slice A2 m2 k2)) ∧ Cnt W g x (ptr l) (.pointer (some ⟨gr, 0, none⟩)) c w') := hid (by
   rintro w' ⟨B, i, j, hc, hw⟩
   have hn' : ∀ j ∈ [g], Nl W j := fun j hj => by simp at hj; subst hj; exact ⟨_, _, _, HF.out.1.at1⟩
   obtain ⟨b1, b2, t0, _⟩ := HF.out.2.2.2.2.1.chg hw hn'
   refine ⟨⟨t0.at1, hc.at3, ?_⟩, B, i, j, hc, hw⟩
   exact (HR.out.chg hw (by simp; exact fun e => d2 (by simp [Tr.blocks, e]))).at1)
  have HC0 : Hid (Cnt W g x (ptr l) (.pointer (some ⟨gr, 0, none⟩)) c W) := hid ⟨_, _, _, HF.out.1, Chg.refl _ _⟩
  have q1 := HF.out.1.at1
  have q2 := HF.out.1.fr1
  refine wp_region_held_drew (S := (fun w' => (w'.cell? ⟨th, 1, none⟩ = some (.func (.func 83) #[] #[]) ∧ w'.cell? ⟨g, 3, none⟩ = some (.pointer (some ⟨gr, 0, none⟩)) ∧ w'.cell? ⟨gr, 1, none⟩ = some (.slice A2 m2 k2)) ∧ Cnt W g x (ptr l) (.pointer (some ⟨gr, 0, none⟩)) c w')) (by kernel_rfl) (HQ.out _ HC0.out.drew) (fun hHeld => ?_)
  refine tH 0 ?_
  try simp only [tdy]
  refine tH 1 ?_
  try simp only [tdy]
  refine tH 2 ?_
  try simp only [tdy]
  refine tH 3 ?_
  try simp only [tdy]
  refine tH 4 ?_
  try simp only [tdy]
  refine tH 5 ?_
  try simp only [tdy]
  refine tH 6 ?_
  try simp only [tdy]
  refine tH 7 ?_
  try simp only [tdy]
  refine tH 9 ?_
  try simp only [tdy]
  refine tH 10 ?_
  try simp only [tdy]
  refine tH 11 ?_
  try simp only [tdy]
  refine tH 12 ?_
  try simp only [tdy]
  refine tH 13 ?_
  try simp only [tdy]
  refine tH 14 ?_
  try simp only [tdy]
  refine tH 15 ?_
  try simp only [tdy]
  refine wpAnyH_ready (rs := [8]) (by kernel_rfl) (by simp) ?_
  refine AllReadyH.cons rfl (fun K hK => ?_) AllReadyH.nil
  go_simp
  refine hK.out _ _ ?_ (fun hHeld => ?_)
  ·(first | with_reducible exact hHeld | with_reducible exact HQ.out _ (Cnt.below hHeld.2 hb3) | exact HQ.out _ (Cnt.put hHeld.2 _ _ _))
  clear hK K
  try simp only [tdy]
  refine wpAnyH_ready (rs := [16]) (by kernel_rfl) (by simp) ?_
  refine AllReadyH.cons rfl (fun K hK => ?_) AllReadyH.nil
  go_simp
  refine (Law6.both _ _ (l.list ++ [x]) (lr.list ++ xr :: rr.list) _ HF2.out HF3.out (by simp; simp only [Tr.list, List.length_append, List.length_cons] at hn; omega)).mono ?_
  rintro e w3 ⟨v3, rfl, hs3, hb3⟩
  obtain ⟨A3, m3, k3, rfl⟩ := hs3.form
  have HS3 := hid hs3
  have HC3 := hid (Cnt.below hHeld.2 hb3)
  obtain ⟨_, _, _, hc3, _⟩ := HC3.out
  have y1 := hc3.at1
  have y2 := hc3.fr1
  clear hs3 hc3
  refine hK.out _ _ ?_ (fun hHeld => ?_)
  ·(first | with_reducible exact hHeld | with_reducible exact HQ.out _ (Cnt.below hHeld.2 hb3) | exact HQ.out _ (Cnt.put hHeld.2 _ _ _))
  clear hK K
  try simp only [tdy]
  refine tH 17 ?_
  try simp only [tdy]
  refine tH 18 ?_
  try simp only [tdy]
  refine wpAnyH_ready (rs := [19]) (by kernel_rfl) (by simp) ?_
  refine AllReadyH.cons rfl (fun K hK => ?_) AllReadyH.nil
  go_simp
  refine hK.out _ _ ?_ (fun hHeld => ?_)
  ·(first | with_reducible exact hHeld | with_reducible exact HQ.out _ (Cnt.below hHeld.2 hb3) | exact HQ.out _ (Cnt.put hHeld.2 _ _ _))
  clear hK K
  try simp only [tdy]
  refine wpAnyH_done (by kernel_rfl) ?_ _
  have HFIN : Hid (In (w3.setCell ⟨g, 1, none⟩ (.slice A3 m3 k3)) (.node g c l x (.node gr cr lr xr rr)) ∧ Chg [g] w (w3.setCell ⟨g, 1, none⟩ (.slice A3 m3 k3))) := hid (by
   obtain ⟨_, _, _, hc3, hw3⟩ := HC3.out
   have hn3 : Nl w3 g := ⟨_, _, _, hc3.at1⟩
   have hnW : ∀ j ∈ [g], Nl W j := fun j hj => by simp at hj; subst hj; exact ⟨_, _, _, HF.out.1.at1⟩
   have hl3 := HF.out.2.2.1.chg hw3 hnW (fun j hj hj' => by simp at hj'; subst hj'; exact d1 hj)
   have hr3 := HF.out.2.2.2.1.chg hw3 hnW (fun j hj hj' => by simp at hj'; subst hj'; exact d2 hj)
   refine ⟨⟨⟨.slice A3 m3 k3, ?_, hc3.set 1 (by simp) _⟩, hl3.far hn3 d1 _ _, hr3.far hn3 d2 _ _⟩, ?_⟩
   ·have := HS3.out.far hn3 1 (.slice A3 m3 k3)
    simpa [Tr.list] using this
   ·exact (HF.out.2.2.2.2.2.trans hw3 (by simp)).set (Or.inl (by simp)) _ _)
  go_wp2_with fail
  go_end0
  exact ⟨rfl, HFIN.out.1, HFIN.out.2⟩
end


section
open Go.RowKit
set_option maxRecDepth 100000
set_option maxHeartbeats 32000000
theorem ptr_form {α : Type} (t : Tr α) : ∃ u, ptr t = .pointer u := by cases t <;> exact ⟨_, rfl⟩
def StL (w : World) : Tr Int → Prop
 | .nil => True
 | .node g c l x r => (∃ A n k, Cs w g [.int .i64 x, .slice A n k, ptr l, ptr r, .bool c]) ∧ In w l ∧ St w r
theorem In.chg1 {w w' : World} {t : Tr Int} {g : Nat} (h : In w t) (hc : Chg [g] w w') (hn : Nl w g) (hg : g ∉ t.blocks) : In w' t :=
 h.chg hc (fun j hj => by simp at hj; subst hj; exact hn) (fun j hj hj' => by simp at hj'; subst hj'; exact hg hj)
theorem Rb.turnLeft (th g h : Nat) (c d : Bool) (a b e : Tr Int) (x y : Int) (rt : Value) (n : Int) (w : World) (hst : StL w (.node g c a x (.node h d b y e))) (hd : (Tr.node g c a x (.node h d b y e)).blocks.Nodup)
  (hn : (Tr.node g c a x (.node h d b y e)).list.length ≤ 900000) (he : Env w th rt n) :
  Calls Tryz.prog 111 #[.pointer (some ⟨th, 0, none⟩), .pointer (some ⟨g, 0, none⟩)] w
   (Turns (.pointer (some ⟨h, 0, none⟩)) (.node h c (.node g true a x b) y e) (Tr.node g c a x (.node h d b y e)).blocks w) := by
 obtain ⟨d1, d2, d3, d4, d5⟩ := nodup_node hd
 obtain ⟨f1, f2, f3, f4, f5⟩ := nodup_node d4
 simp only [Tr.blocks, List.mem_cons, List.mem_append, not_or] at d2 d5
 simp only [Tr.list, List.length_append, List.length_cons] at hn
 obtain ⟨dgh, dgb, dge⟩ := d2
 obtain ⟨⟨A, m, k, hc⟩, ha, ⟨⟨A2, m2, k2, hc2⟩, hb, hee⟩⟩ := hst
 have hng : Nl w g := ⟨_, _, _, hc.at1⟩
 have hnh : Nl w h := ⟨_, _, _, hc2.at1⟩
 obtain ⟨u, hu⟩ := ptr_form b
 rw [hu] at hc2
 have HD := hid d5
 have HW : Hid (∃ W, W = (((w.setCell ⟨g, 3, none⟩ (.pointer u)).setCell ⟨h, 2, none⟩ (.pointer (some ⟨g, 0, none⟩))).setCell ⟨h, 4, none⟩ (.bool c)).setCell ⟨g, 4, none⟩ (.bool true) ∧
   St W (.node g true a x b) ∧ Cs W h [.int .i64 y, .slice A2 m2 k2, .pointer (some ⟨g, 0, none⟩), ptr e, .bool c] ∧ In W e ∧ Env W th rt n ∧ Chg (Tr.node g c a x (.node h d b y e)).blocks w W) := hid (by
  have hch : Chg [g, h] w ((((w.setCell ⟨g, 3, none⟩ (.pointer u)).setCell ⟨h, 2, none⟩ (.pointer (some ⟨g, 0, none⟩))).setCell ⟨h, 4, none⟩ (.bool c)).setCell ⟨g, 4, none⟩ (.bool true)) :=
   ((((Chg.refl _ w).set (Or.inl (by simp)) _ _).set (Or.inl (by simp)) _ _).set (Or.inl (by simp)) _ _).set (Or.inl (by simp)) _ _
  have hnl : ∀ j ∈ [g, h], Nl w j := fun j hj => by simp at hj; rcases hj with rfl | rfl; exact hng; exact hnh
  have ap : ∀ t : Tr Int, g ∉ t.blocks → h ∉ t.blocks → ∀ j ∈ t.blocks, j ∉ [g, h] := fun t h1 h2 j hj hj' => by simp at hj'; rcases hj' with rfl | rfl; exact h1 hj; exact h2 hj
  refine ⟨_, rfl, ⟨⟨A, m, k, ?_⟩, ha.chg hch hnl (ap a d1 (fun hj => (d5 h hj).1 rfl)), hb.chg hch hnl (ap b dgb f1)⟩, ?_, hee.chg hch hnl (ap e dge f2), he.chg hch hnl, hch.mono (by simp [Tr.blocks])⟩
  ·rw [hu]
   exact (((hc.set 3 (by simp) _).far (Ne.symm dgh) _ _).far (Ne.symm dgh) _ _).set 4 (by simp) _
  ·exact ((((hc2.far dgh _ _).set 2 (by simp) _).set 4 (by simp) _)).far dgh _ _)
 have c2 := hc.at2
 have c3 := hc.at3
 have c4 := hc.at4
 have c5 := hc.fr3
 have c6 := hc.fr4
 have h2 := hc2.at2
 have h4 := hc2.at4
 have h5 := hc2.fr2
 have h6 := hc2.fr4
 simp only [ptr_node] at c3
 have HN := hid hn
 have HG := hid dge
 have HD' := hid (show g ∉ (a.blocks ++ b.blocks) ∧ (a.blocks ++ b.blocks).Nodup from ⟨by simp [d1, dgb], List.nodup_append.2 ⟨d3, f3, fun p hp q hq e => (HD.out p hp).2.1 (e ▸ hq)⟩⟩)
 clear hd hn he hc ha hc2 hb hee hng hnh d1 d3 d4 f1 f2 f3 f4 f5 dgb dge d5
 have ne1 : h ≠ g := Ne.symm dgh
 go_enter Tryz.func111, Tryz.ntmps111
 go_wp2_with fail
 obtain ⟨W, hW, HF⟩ := HW
 rw [← hW]
 clear hW
 have HF := hid HF
 go_ways
 refine (Rb.count th g true a b x rt n W HF.out.1 (List.nodup_cons.2 HD'.out) (by have := HN.out; simp only [Tr.list, List.length_append, List.length_cons]; omega) HF.out.2.2.2.1).mono ?_
 rintro e1 w2 ⟨rfl, hi, hw⟩
 have HI := hid hi
 have HC := hid hw
 clear hi hw
 go_wp2_with fail
 go_ret
 have hng : Nl W g := HF.out.1.nl g (by simp [Tr.blocks])
 refine ⟨rfl, ⟨⟨A2, m2, k2, HF.out.2.1.chg HC.out (by simp [ne1])⟩, HI.out, HF.out.2.2.1.chg1 HC.out hng HG.out⟩, HF.out.2.2.2.2.trans HC.out (by simp [Tr.blocks])⟩
theorem Rb.turnRight (th g h : Nat) (c d : Bool) (a b e : Tr Int) (x y : Int) (rt : Value) (n : Int) (w : World) (hst : St w (.node g c (.node h d a y b) x e)) (hd : (Tr.node g c (.node h d a y b) x e).blocks.Nodup)
  (hn : (Tr.node g c (.node h d a y b) x e).list.length ≤ 900000) (he : Env w th rt n) :
  Calls Tryz.prog 112 #[.pointer (some ⟨th, 0, none⟩), .pointer (some ⟨g, 0, none⟩)] w
   (Turns (.pointer (some ⟨h, 0, none⟩)) (.node h c a y (.node g true b x e)) (Tr.node g c (.node h d a y b) x e).blocks w) := by
 obtain ⟨d1, d2, d3, d4, d5⟩ := nodup_node hd
 obtain ⟨f1, f2, f3, f4, f5⟩ := nodup_node d3
 simp only [Tr.blocks, List.mem_cons, List.mem_append, not_or] at d1 d5
 simp only [Tr.list, List.length_append, List.length_cons] at hn
 obtain ⟨dgh, dga, dgb⟩ := d1
 obtain ⟨⟨A, m, k, hc⟩, hl, hee⟩ := hst
 obtain ⟨⟨A2, m2, k2, hc2⟩, ha, hb⟩ := hl.st
 have hng : Nl w g := ⟨_, _, _, hc.at1⟩
 have hnh : Nl w h := ⟨_, _, _, hc2.at1⟩
 obtain ⟨u, hu⟩ := ptr_form b
 rw [hu] at hc2
 have dhe : h ∉ e.blocks := d5 h (Or.inl rfl)
 have HD := hid d5
 have HW : Hid (∃ W, W = (((w.setCell ⟨g, 2, none⟩ (.pointer u)).setCell ⟨h, 3, none⟩ (.pointer (some ⟨g, 0, none⟩))).setCell ⟨h, 4, none⟩ (.bool c)).setCell ⟨g, 4, none⟩ (.bool true) ∧
   St W (.node g true b x e) ∧ Cs W h [.int .i64 y, .slice A2 m2 k2, ptr a, .pointer (some ⟨g, 0, none⟩), .bool c] ∧ In W a ∧ Env W th rt n ∧ Chg (Tr.node g c (.node h d a y b) x e).blocks w W) := hid (by
  have hch : Chg [g, h] w ((((w.setCell ⟨g, 2, none⟩ (.pointer u)).setCell ⟨h, 3, none⟩ (.pointer (some ⟨g, 0, none⟩))).setCell ⟨h, 4, none⟩ (.bool c)).setCell ⟨g, 4, none⟩ (.bool true)) :=
   ((((Chg.refl _ w).set (Or.inl (by simp)) _ _).set (Or.inl (by simp)) _ _).set (Or.inl (by simp)) _ _).set (Or.inl (by simp)) _ _
  have hnl : ∀ j ∈ [g, h], Nl w j := fun j hj => by simp at hj; rcases hj with rfl | rfl; exact hng; exact hnh
  have ap : ∀ t : Tr Int, g ∉ t.blocks → h ∉ t.blocks → ∀ j ∈ t.blocks, j ∉ [g, h] := fun t h1 h2 j hj hj' => by simp at hj'; rcases hj' with rfl | rfl; exact h1 hj; exact h2 hj
  refine ⟨_, rfl, ⟨⟨A, m, k, ?_⟩, hb.chg hch hnl (ap b dgb f2), hee.chg hch hnl (ap e d2 dhe)⟩, ?_, ha.chg hch hnl (ap a dga f1), he.chg hch hnl, hch.mono (by simp [Tr.blocks])⟩
  ·rw [hu]
   exact (((hc.set 2 (by simp) _).far (Ne.symm dgh) _ _).far (Ne.symm dgh) _ _).set 4 (by simp) _
  ·exact ((((hc2.far dgh _ _).set 3 (by simp) _).set 4 (by simp) _)).far dgh _ _)
 have c2 := hc.at2
 have c4 := hc.at4
 have c5 := hc.fr2
 have c6 := hc.fr4
 have h2 := hc2.at3
 have h4 := hc2.at4
 have h5 := hc2.fr3
 have h6 := hc2.fr4
 simp only [ptr_node] at c2
 have HN := hid hn
 have HG := hid dga
 have HD' := hid (show g ∉ (b.blocks ++ e.blocks) ∧ (b.blocks ++ e.blocks).Nodup from ⟨by simp [d2, dgb], List.nodup_append.2 ⟨f4, d4, fun p hp q hq e => HD.out p (Or.inr (Or.inr hp)) (e ▸ hq)⟩⟩)
 clear hd hn he hc ha hc2 hb hee hl hng hnh d2 d3 d4 f1 f2 f3 f4 f5 dga dgb d5 dhe
 have ne1 : h ≠ g := Ne.symm dgh
 go_enter Tryz.func112, Tryz.ntmps112
 go_wp2_with fail
 obtain ⟨W, hW, HF⟩ := HW
 rw [← hW]
 clear hW
 have HF := hid HF
 go_ways
 refine (Rb.count th g true b e x rt n W HF.out.1 (List.nodup_cons.2 HD'.out) (by have := HN.out; simp only [Tr.list, List.length_append, List.length_cons]; omega) HF.out.2.2.2.1).mono ?_
 rintro e1 w2 ⟨rfl, hi, hw⟩
 have HI := hid hi
 have HC := hid hw
 clear hi hw
 go_wp2_with fail
 go_ret
 have hng : Nl W g := HF.out.1.nl g (by simp [Tr.blocks])
 refine ⟨rfl, ⟨⟨A2, m2, k2, HF.out.2.1.chg HC.out (by simp [ne1])⟩, HF.out.2.2.1.chg1 HC.out hng HG.out, HI.out⟩, HF.out.2.2.2.2.trans HC.out (by simp [Tr.blocks])⟩
end


section
open Go.RowKit
set_option maxRecDepth 100000
set_option maxHeartbeats 32000000
def Turned (t' : Tr Int) (F : List Nat) (w : World) (e : Ending) (w' : World) : Prop := e = .returned (ptr t') ∧ In w' t' ∧ Chg F w w'
theorem Env.turned {w w' : World} {t : Tr Int} {th : Nat} {rt : Value} {n : Int} (he : Env w th rt n) (h : St w t) (hc : Chg t.blocks w w') : Env w' th rt n := he.chg hc h.nl
theorem Rb.bal_d (g : Nat) (c : Bool) (l r : Tr Int) (x : Int) (th : Nat) (rt : Value) (n : Int) (w : World) (hst : St w (.node g c l x r)) (hd : (Tr.node g c l x r).blocks.Nodup)
  (hn : (Tr.node g c l x r).list.length ≤ 900000) (he : Env w th rt n) (hlr : l.red = false) (hrr : r.red = false) :
  Calls Tryz.prog 100 #[.pointer (some ⟨th, 0, none⟩), .pointer (some ⟨g, 0, none⟩)] w (Turned (.node g c l x r) (Tr.node g c l x r).blocks w) := by
 have HS := hid hst
 have HE := hid he
 have HD := hid hd
 have HN := hid hn
 obtain ⟨⟨A, m, k, hc⟩, hl, hr⟩ := hst
 have c2 := hc.at2
 have c3 := hc.at3
 have HL := hid hl
 have HR := hid hr
 clear hc hl hr hd hn he
 try simp only [ptr_node] at c2 c3
 have HLR := hid hlr
 have HRR := hid hrr
 clear hlr hrr
 go_enter Tryz.func100, Tryz.ntmps100
 go_wp2_with fail
 refine (Rb.isRed (r) _ (HR.out.st)).mono ?_
 rintro e0 w0 ⟨rfl, rfl⟩
 rw [HRR.out]
 go_wp2_with fail
 refine (Rb.isRed (l) _ (HL.out.st)).mono ?_
 rintro e0 w0 ⟨rfl, rfl⟩
 rw [HLR.out]
 go_wp2_with fail
 refine (Rb.isRed (l) _ (HL.out.st)).mono ?_
 rintro e0 w0 ⟨rfl, rfl⟩
 rw [HLR.out]
 go_wp2_with fail
 refine (Rb.count th g c (l) (r) x rt n _ (HS.out) (HD.out) (HN.out) (HE.out)).mono ?_
 rintro e9 w9 ⟨rfl, hi9, hw9⟩
 have HI9 := hid hi9
 have HW9 := hid hw9
 clear hi9 hw9
 go_wp2_with fail
 go_ret
 exact ⟨rfl, HI9.out, HW9.out.mono (by simp [Tr.blocks])⟩
theorem Rb.bal_a1 (g h : Nat) (c : Bool) (l a b : Tr Int) (x y : Int) (th : Nat) (rt : Value) (n : Int) (w : World) (hst : St w (.node g c l x (.node h true a y b))) (hd : (Tr.node g c l x (.node h true a y b)).blocks.Nodup)
  (hn : (Tr.node g c l x (.node h true a y b)).list.length ≤ 900000) (he : Env w th rt n) (hlr : l.red = false) (hbr : b.red = false) :
  Calls Tryz.prog 100 #[.pointer (some ⟨th, 0, none⟩), .pointer (some ⟨g, 0, none⟩)] w (Turned (.node h c (.node g true l x a) y b) (Tr.node g c l x (.node h true a y b)).blocks w) := by
 have HS := hid hst
 have HE := hid he
 have HD := hid hd
 have HN := hid hn
 obtain ⟨⟨A, m, k, hc⟩, hl, hr⟩ := hst
 have c2 := hc.at2
 have c3 := hc.at3
 have HC := hid hc
 have HL := hid hl
 have HR := hid hr
 clear hc hl hr hd hn he
 try simp only [ptr_node] at c2 c3
 have HLR := hid hlr
 have HBR := hid hbr
 clear hlr hbr
 go_enter Tryz.func100, Tryz.ntmps100
 go_wp2_with fail
 refine (Rb.isRed (.node h true a y b) _ (HR.out.st)).mono ?_
 rintro e0 w0 ⟨rfl, rfl⟩
 simp only [Tr.red]
 go_wp2_with fail
 refine (Rb.isRed (l) _ (HL.out.st)).mono ?_
 rintro e0 w0 ⟨rfl, rfl⟩
 rw [HLR.out]
 go_wp2_with fail
 refine (Rb.turnLeft th g h c true l a b x y rt n _ ⟨⟨A, m, k, HC.out⟩, HL.out, HR.out.st⟩ HD.out HN.out HE.out).mono ?_
 rintro e1 w1 ⟨rfl, hs1, hw1⟩
 have HE1 := hid (HE.out.turned HS.out hw1)
 have HS1 := hid hs1
 have HW1 := hid hw1
 obtain ⟨⟨A1, m1, k1, hc1⟩, hl1, hr1⟩ := hs1
 have z2 := hc1.at2
 have z3 := hc1.at3
 have HL1 := hid hl1
 have HR1 := hid hr1
 obtain ⟨⟨v1, hv1, hcl1⟩, hll1, _⟩ := hl1
 have z4 := hcl1.at2
 have HLL1 := hid hll1
 clear hc1 hr1 hv1 hcl1 hll1 hw1 c2 c3
 try simp only [ptr_node] at z2 z3
 go_wp2_with fail
 refine (Rb.isRed (.node g true l x a) _ (HL1.out.st)).mono ?_
 rintro e0 w0 ⟨rfl, rfl⟩
 simp only [Tr.red]
 go_wp2_with fail
 refine (Rb.isRed (l) _ (HLL1.out.st)).mono ?_
 rintro e0 w0 ⟨rfl, rfl⟩
 rw [HLR.out]
 go_wp2_with fail
 refine (Rb.isRed (.node g true l x a) _ (HL1.out.st)).mono ?_
 rintro e0 w0 ⟨rfl, rfl⟩
 simp only [Tr.red]
 go_wp2_with fail
 refine (Rb.isRed (b) _ (HR1.out.st)).mono ?_
 rintro e0 w0 ⟨rfl, rfl⟩
 rw [HBR.out]
 go_wp2_with fail
 refine (Rb.count th h c (.node g true l x a) (b) y rt n _ (HS1.out) ((Tr.perm_turnLeft (Tr.node g c l x (.node h true a y b))).nodup_iff.2 HD.out) (Nat.le_trans (Nat.le_of_eq (congrArg List.length (Tr.list_turnLeft (Tr.node g c l x (.node h true a y b))))) HN.out) (HE1.out)).mono ?_
 rintro e9 w9 ⟨rfl, hi9, hw9⟩
 have HI9 := hid hi9
 have HW9 := hid hw9
 clear hi9 hw9
 go_wp2_with fail
 go_ret
 exact ⟨rfl, HI9.out, HW1.out.trans HW9.out (fun j hj => Or.inl ((Tr.perm_turnLeft (Tr.node g c l x (.node h true a y b))).mem_iff.1 (by simp at hj; subst hj; simp [Tr.turnLeft, Tr.blocks])))⟩
theorem Rb.bal_a2 (g h gb : Nat) (c : Bool) (l a lb rb : Tr Int) (x y z : Int) (th : Nat) (rt : Value) (n : Int) (w : World) (hst : St w (.node g c l x (.node h true a y (.node gb true lb z rb)))) (hd : (Tr.node g c l x (.node h true a y (.node gb true lb z rb))).blocks.Nodup)
  (hn : (Tr.node g c l x (.node h true a y (.node gb true lb z rb))).list.length ≤ 900000) (he : Env w th rt n) (hlr : l.red = false) :
  Calls Tryz.prog 100 #[.pointer (some ⟨th, 0, none⟩), .pointer (some ⟨g, 0, none⟩)] w (Turned (.node h (!c) (.node g false l x a) y (.node gb false lb z rb)) (Tr.node g c l x (.node h true a y (.node gb true lb z rb))).blocks w) := by
 have HS := hid hst
 have HE := hid he
 have HD := hid hd
 have HN := hid hn
 obtain ⟨⟨A, m, k, hc⟩, hl, hr⟩ := hst
 have c2 := hc.at2
 have c3 := hc.at3
 have HC := hid hc
 have HL := hid hl
 have HR := hid hr
 clear hc hl hr hd hn he
 try simp only [ptr_node] at c2 c3
 have HLR := hid hlr
 clear hlr
 go_enter Tryz.func100, Tryz.ntmps100
 go_wp2_with fail
 refine (Rb.isRed (.node h true a y (.node gb true lb z rb)) _ (HR.out.st)).mono ?_
 rintro e0 w0 ⟨rfl, rfl⟩
 simp only [Tr.red]
 go_wp2_with fail
 refine (Rb.isRed (l) _ (HL.out.st)).mono ?_
 rintro e0 w0 ⟨rfl, rfl⟩
 rw [HLR.out]
 go_wp2_with fail
 refine (Rb.turnLeft th g h c true l a (.node gb true lb z rb) x y rt n _ ⟨⟨A, m, k, HC.out⟩, HL.out, HR.out.st⟩ HD.out HN.out HE.out).mono ?_
 rintro e1 w1 ⟨rfl, hs1, hw1⟩
 have HE1 := hid (HE.out.turned HS.out hw1)
 have HS1 := hid hs1
 have HW1 := hid hw1
 obtain ⟨⟨A1, m1, k1, hc1⟩, hl1, hr1⟩ := hs1
 have z2 := hc1.at2
 have z3 := hc1.at3
 have HL1 := hid hl1
 have HR1 := hid hr1
 obtain ⟨⟨v1, hv1, hcl1⟩, hll1, _⟩ := hl1
 have z4 := hcl1.at2
 have HLL1 := hid hll1
 clear hc1 hr1 hv1 hcl1 hll1 hw1 c2 c3
 try simp only [ptr_node] at z2 z3
 go_wp2_with fail
 refine (Rb.isRed (.node g true l x a) _ (HL1.out.st)).mono ?_
 rintro e0 w0 ⟨rfl, rfl⟩
 simp only [Tr.red]
 go_wp2_with fail
 refine (Rb.isRed (l) _ (HLL1.out.st)).mono ?_
 rintro e0 w0 ⟨rfl, rfl⟩
 rw [HLR.out]
 go_wp2_with fail
 refine (Rb.isRed (.node g true l x a) _ (HL1.out.st)).mono ?_
 rintro e0 w0 ⟨rfl, rfl⟩
 simp only [Tr.red]
 go_wp2_with fail
 refine (Rb.isRed (.node gb true lb z rb) _ (HR1.out.st)).mono ?_
 rintro e0 w0 ⟨rfl, rfl⟩
 simp only [Tr.red]
 go_wp2_with fail
 refine (Rb.flip h g gb c true true y x z l a lb rb _ HS1.out ((Tr.perm_turnLeft (Tr.node g c l x (.node h true a y (.node gb true lb z rb)))).nodup_iff.2 HD.out)).mono ?_
 rintro e2 w2 ⟨rfl, hs2, hw2⟩
 have HS2 := hid hs2
 have HW2 := hid hw2
 have HE2 := hid (HE1.out.turned HS1.out hw2)
 clear hs2 hw2 z2 z3 z4
 go_wp2_with fail
 refine (Rb.count th h (!c) (.node g false l x a) (.node gb false lb z rb) y rt n _ (HS2.out) ((Tr.perm_turnLeft (Tr.node g c l x (.node h true a y (.node gb true lb z rb)))).nodup_iff.2 HD.out) (Nat.le_trans (Nat.le_of_eq (congrArg List.length (Tr.list_turnLeft (Tr.node g c l x (.node h true a y (.node gb true lb z rb)))))) HN.out) (HE2.out)).mono ?_
 rintro e9 w9 ⟨rfl, hi9, hw9⟩
 have HI9 := hid hi9
 have HW9 := hid hw9
 clear hi9 hw9
 go_wp2_with fail
 go_ret
 exact ⟨rfl, HI9.out, (HW1.out.trans HW2.out (fun j hj => Or.inl ((Tr.perm_turnLeft (Tr.node g c l x (.node h true a y (.node gb true lb z rb)))).mem_iff.1 hj))).trans HW9.out (fun j hj => Or.inl ((Tr.perm_turnLeft (Tr.node g c l x (.node h true a y (.node gb true lb z rb)))).mem_iff.1 (by simp at hj; subst hj; simp [Tr.turnLeft, Tr.blocks])))⟩
theorem Rb.bal_b (g h gb : Nat) (c : Bool) (lb rb a r : Tr Int) (x y z : Int) (th : Nat) (rt : Value) (n : Int) (w : World) (hst : St w (.node g c (.node h true (.node gb true lb z rb) y a) x r)) (hd : (Tr.node g c (.node h true (.node gb true lb z rb) y a) x r).blocks.Nodup)
  (hn : (Tr.node g c (.node h true (.node gb true lb z rb) y a) x r).list.length ≤ 900000) (he : Env w th rt n) (hrr : r.red = false) :
  Calls Tryz.prog 100 #[.pointer (some ⟨th, 0, none⟩), .pointer (some ⟨g, 0, none⟩)] w (Turned (.node h (!c) (.node gb false lb z rb) y (.node g false a x r)) (Tr.node g c (.node h true (.node gb true lb z rb) y a) x r).blocks w) := by
 have HS := hid hst
 have HE := hid he
 have HD := hid hd
 have HN := hid hn
 obtain ⟨⟨A, m, k, hc⟩, hl, hr⟩ := hst
 have c2 := hc.at2
 have c3 := hc.at3
 have HL := hid hl
 obtain ⟨⟨v1, _, hcl⟩, hll, _⟩ := hl
 have c4 := hcl.at2
 have HLL := hid hll
 simp only [ptr_node] at c4
 clear hcl hll
 have HR := hid hr
 clear hc hr hd hn he
 try simp only [ptr_node] at c2 c3
 have HRR := hid hrr
 clear hrr
 go_enter Tryz.func100, Tryz.ntmps100
 go_wp2_with fail
 refine (Rb.isRed (r) _ (HR.out.st)).mono ?_
 rintro e0 w0 ⟨rfl, rfl⟩
 rw [HRR.out]
 go_wp2_with fail
 refine (Rb.isRed (.node h true (.node gb true lb z rb) y a) _ (HL.out.st)).mono ?_
 rintro e0 w0 ⟨rfl, rfl⟩
 simp only [Tr.red]
 go_wp2_with fail
 refine (Rb.isRed (.node gb true lb z rb) _ (HLL.out.st)).mono ?_
 rintro e0 w0 ⟨rfl, rfl⟩
 simp only [Tr.red]
 go_wp2_with fail
 refine (Rb.turnRight th g h c true (.node gb true lb z rb) a r x y rt n _ HS.out HD.out HN.out HE.out).mono ?_
 rintro e1 w1 ⟨rfl, hs1, hw1⟩
 have HE1 := hid (HE.out.turned HS.out hw1)
 have HS1 := hid hs1
 have HW1 := hid hw1
 obtain ⟨⟨A1, m1, k1, hc1⟩, hl1, hr1⟩ := hs1
 have z2 := hc1.at2
 have z3 := hc1.at3
 have HL1 := hid hl1
 have HR1 := hid hr1
 clear hc1 hr1 hl1 hw1 c2 c3 c4
 try simp only [ptr_node] at z2 z3
 go_wp2_with fail
 refine (Rb.isRed (.node gb true lb z rb) _ (HL1.out.st)).mono ?_
 rintro e0 w0 ⟨rfl, rfl⟩
 simp only [Tr.red]
 go_wp2_with fail
 refine (Rb.isRed (.node g true a x r) _ (HR1.out.st)).mono ?_
 rintro e0 w0 ⟨rfl, rfl⟩
 simp only [Tr.red]
 go_wp2_with fail
 refine (Rb.flip h gb g c true true y z x lb rb a r _ HS1.out ((Tr.perm_turnRight (Tr.node g c (.node h true (.node gb true lb z rb) y a) x r)).nodup_iff.2 HD.out)).mono ?_
 rintro e2 w2 ⟨rfl, hs2, hw2⟩
 have HS2 := hid hs2
 have HW2 := hid hw2
 have HE2 := hid (HE1.out.turned HS1.out hw2)
 clear hs2 hw2 z2 z3
 go_wp2_with fail
 refine (Rb.count th h (!c) (.node gb false lb z rb) (.node g false a x r) y rt n _ (HS2.out) ((Tr.perm_turnRight (Tr.node g c (.node h true (.node gb true lb z rb) y a) x r)).nodup_iff.2 HD.out) (Nat.le_trans (Nat.le_of_eq (congrArg List.length (Tr.list_turnRight (Tr.node g c (.node h true (.node gb true lb z rb) y a) x r)))) HN.out) (HE2.out)).mono ?_
 rintro e9 w9 ⟨rfl, hi9, hw9⟩
 have HI9 := hid hi9
 have HW9 := hid hw9
 clear hi9 hw9
 go_wp2_with fail
 go_ret
 exact ⟨rfl, HI9.out, (HW1.out.trans HW2.out (fun j hj => Or.inl ((Tr.perm_turnRight (Tr.node g c (.node h true (.node gb true lb z rb) y a) x r)).mem_iff.1 hj))).trans HW9.out (fun j hj => Or.inl ((Tr.perm_turnRight (Tr.node g c (.node h true (.node gb true lb z rb) y a) x r)).mem_iff.1 (by simp at hj; subst hj; simp [Tr.turnRight, Tr.blocks])))⟩
theorem Rb.bal_b2 (g h gb : Nat) (c : Bool) (lb rb a r : Tr Int) (x y z : Int) (th : Nat) (rt : Value) (n : Int) (w : World) (hst : St w (.node g c (.node h true (.node gb true lb z rb) y a) x r)) (hd : (Tr.node g c (.node h true (.node gb true lb z rb) y a) x r).blocks.Nodup)
  (hn : (Tr.node g c (.node h true (.node gb true lb z rb) y a) x r).list.length ≤ 900000) (he : Env w th rt n) (hrr : r.red = true) :
  Calls Tryz.prog 100 #[.pointer (some ⟨th, 0, none⟩), .pointer (some ⟨g, 0, none⟩)] w (Turned (.node h (!c) (.node gb false lb z rb) y (.node g false a x r)) (Tr.node g c (.node h true (.node gb true lb z rb) y a) x r).blocks w) := by
 have HS := hid hst
 have HE := hid he
 have HD := hid hd
 have HN := hid hn
 obtain ⟨⟨A, m, k, hc⟩, hl, hr⟩ := hst
 have c2 := hc.at2
 have c3 := hc.at3
 have HL := hid hl
 obtain ⟨⟨v1, _, hcl⟩, hll, _⟩ := hl
 have c4 := hcl.at2
 have HLL := hid hll
 simp only [ptr_node] at c4
 clear hcl hll
 have HR := hid hr
 clear hc hr hd hn he
 try simp only [ptr_node] at c2 c3
 have HRR := hid hrr
 clear hrr
 go_enter Tryz.func100, Tryz.ntmps100
 go_wp2_with fail
 refine (Rb.isRed (r) _ (HR.out.st)).mono ?_
 rintro e0 w0 ⟨rfl, rfl⟩
 rw [HRR.out]
 go_wp2_with fail
 refine (Rb.isRed (.node h true (.node gb true lb z rb) y a) _ (HL.out.st)).mono ?_
 rintro e0 w0 ⟨rfl, rfl⟩
 simp only [Tr.red]
 go_wp2_with fail
 refine (Rb.isRed (.node h true (.node gb true lb z rb) y a) _ (HL.out.st)).mono ?_
 rintro e0 w0 ⟨rfl, rfl⟩
 simp only [Tr.red]
 go_wp2_with fail
 refine (Rb.isRed (.node gb true lb z rb) _ (HLL.out.st)).mono ?_
 rintro e0 w0 ⟨rfl, rfl⟩
 simp only [Tr.red]
 go_wp2_with fail
 refine (Rb.turnRight th g h c true (.node gb true lb z rb) a r x y rt n _ HS.out HD.out HN.out HE.out).mono ?_
 rintro e1 w1 ⟨rfl, hs1, hw1⟩
 have HE1 := hid (HE.out.turned HS.out hw1)
 have HS1 := hid hs1
 have HW1 := hid hw1
 obtain ⟨⟨A1, m1, k1, hc1⟩, hl1, hr1⟩ := hs1
 have z2 := hc1.at2
 have z3 := hc1.at3
 have HL1 := hid hl1
 have HR1 := hid hr1
 clear hc1 hr1 hl1 hw1 c2 c3 c4
 try simp only [ptr_node] at z2 z3
 go_wp2_with fail
 refine (Rb.isRed (.node gb true lb z rb) _ (HL1.out.st)).mono ?_
 rintro e0 w0 ⟨rfl, rfl⟩
 simp only [Tr.red]
 go_wp2_with fail
 refine (Rb.isRed (.node g true a x r) _ (HR1.out.st)).mono ?_
 rintro e0 w0 ⟨rfl, rfl⟩
 simp only [Tr.red]
 go_wp2_with fail
 refine (Rb.flip h gb g c true true y z x lb rb a r _ HS1.out ((Tr.perm_turnRight (Tr.node g c (.node h true (.node gb true lb z rb) y a) x r)).nodup_iff.2 HD.out)).mono ?_
 rintro e2 w2 ⟨rfl, hs2, hw2⟩
 have HS2 := hid hs2
 have HW2 := hid hw2
 have HE2 := hid (HE1.out.turned HS1.out hw2)
 clear hs2 hw2 z2 z3
 go_wp2_with fail
 refine (Rb.count th h (!c) (.node gb false lb z rb) (.node g false a x r) y rt n _ (HS2.out) ((Tr.perm_turnRight (Tr.node g c (.node h true (.node gb true lb z rb) y a) x r)).nodup_iff.2 HD.out) (Nat.le_trans (Nat.le_of_eq (congrArg List.length (Tr.list_turnRight (Tr.node g c (.node h true (.node gb true lb z rb) y a) x r)))) HN.out) (HE2.out)).mono ?_
 rintro e9 w9 ⟨rfl, hi9, hw9⟩
 have HI9 := hid hi9
 have HW9 := hid hw9
 clear hi9 hw9
 go_wp2_with fail
 go_ret
 exact ⟨rfl, HI9.out, (HW1.out.trans HW2.out (fun j hj => Or.inl ((Tr.perm_turnRight (Tr.node g c (.node h true (.node gb true lb z rb) y a) x r)).mem_iff.1 hj))).trans HW9.out (fun j hj => Or.inl ((Tr.perm_turnRight (Tr.node g c (.node h true (.node gb true lb z rb) y a) x r)).mem_iff.1 (by simp at hj; subst hj; simp [Tr.turnRight, Tr.blocks])))⟩
theorem Rb.bal_c1 (g h : Nat) (c : Bool) (a b r : Tr Int) (x y : Int) (th : Nat) (rt : Value) (n : Int) (w : World) (hst : St w (.node g c (.node h true b y a) x r)) (hd : (Tr.node g c (.node h true b y a) x r).blocks.Nodup)
  (hn : (Tr.node g c (.node h true b y a) x r).list.length ≤ 900000) (he : Env w th rt n) (hbr : b.red = false) (hrr : r.red = false) :
  Calls Tryz.prog 100 #[.pointer (some ⟨th, 0, none⟩), .pointer (some ⟨g, 0, none⟩)] w (Turned (.node g c (.node h true b y a) x r) (Tr.node g c (.node h true b y a) x r).blocks w) := by
 have HS := hid hst
 have HE := hid he
 have HD := hid hd
 have HN := hid hn
 obtain ⟨⟨A, m, k, hc⟩, hl, hr⟩ := hst
 have c2 := hc.at2
 have c3 := hc.at3
 have HL := hid hl
 obtain ⟨⟨v1, _, hcl⟩, hll, _⟩ := hl
 have c4 := hcl.at2
 have HLL := hid hll
 clear hcl hll
 have HR := hid hr
 clear hc hr hd hn he
 try simp only [ptr_node] at c2 c3
 have HBR := hid hbr
 have HRR := hid hrr
 clear hbr hrr
 go_enter Tryz.func100, Tryz.ntmps100
 go_wp2_with fail
 refine (Rb.isRed (r) _ (HR.out.st)).mono ?_
 rintro e0 w0 ⟨rfl, rfl⟩
 rw [HRR.out]
 go_wp2_with fail
 refine (Rb.isRed (.node h true b y a) _ (HL.out.st)).mono ?_
 rintro e0 w0 ⟨rfl, rfl⟩
 simp only [Tr.red]
 go_wp2_with fail
 refine (Rb.isRed (b) _ (HLL.out.st)).mono ?_
 rintro e0 w0 ⟨rfl, rfl⟩
 rw [HBR.out]
 go_wp2_with fail
 refine (Rb.isRed (.node h true b y a) _ (HL.out.st)).mono ?_
 rintro e0 w0 ⟨rfl, rfl⟩
 simp only [Tr.red]
 go_wp2_with fail
 refine (Rb.isRed (r) _ (HR.out.st)).mono ?_
 rintro e0 w0 ⟨rfl, rfl⟩
 rw [HRR.out]
 go_wp2_with fail
 refine (Rb.count th g c (.node h true b y a) (r) x rt n _ (HS.out) (HD.out) (HN.out) (HE.out)).mono ?_
 rintro e9 w9 ⟨rfl, hi9, hw9⟩
 have HI9 := hid hi9
 have HW9 := hid hw9
 clear hi9 hw9
 go_wp2_with fail
 go_ret
 exact ⟨rfl, HI9.out, HW9.out.mono (by simp [Tr.blocks])⟩
theorem Rb.bal_c2 (g h gb : Nat) (c : Bool) (lb rb a b : Tr Int) (x y z : Int) (th : Nat) (rt : Value) (n : Int) (w : World) (hst : St w (.node g c (.node h true b y a) x (.node gb true lb z rb))) (hd : (Tr.node g c (.node h true b y a) x (.node gb true lb z rb)).blocks.Nodup)
  (hn : (Tr.node g c (.node h true b y a) x (.node gb true lb z rb)).list.length ≤ 900000) (he : Env w th rt n) (hbr : b.red = false) :
  Calls Tryz.prog 100 #[.pointer (some ⟨th, 0, none⟩), .pointer (some ⟨g, 0, none⟩)] w (Turned (.node g (!c) (.node h false b y a) x (.node gb false lb z rb)) (Tr.node g c (.node h true b y a) x (.node gb true lb z rb)).blocks w) := by
 have HS := hid hst
 have HE := hid he
 have HD := hid hd
 have HN := hid hn
 obtain ⟨⟨A, m, k, hc⟩, hl, hr⟩ := hst
 have c2 := hc.at2
 have c3 := hc.at3
 have HL := hid hl
 obtain ⟨⟨v1, _, hcl⟩, hll, _⟩ := hl
 have c4 := hcl.at2
 have HLL := hid hll
 clear hcl hll
 have HR := hid hr
 clear hc hr hd hn he
 try simp only [ptr_node] at c2 c3
 have HBR := hid hbr
 clear hbr
 go_enter Tryz.func100, Tryz.ntmps100
 go_wp2_with fail
 refine (Rb.isRed (.node gb true lb z rb) _ (HR.out.st)).mono ?_
 rintro e0 w0 ⟨rfl, rfl⟩
 simp only [Tr.red]
 go_wp2_with fail
 refine (Rb.isRed (.node h true b y a) _ (HL.out.st)).mono ?_
 rintro e0 w0 ⟨rfl, rfl⟩
 simp only [Tr.red]
 go_wp2_with fail
 refine (Rb.isRed (.node h true b y a) _ (HL.out.st)).mono ?_
 rintro e0 w0 ⟨rfl, rfl⟩
 simp only [Tr.red]
 go_wp2_with fail
 refine (Rb.isRed (b) _ (HLL.out.st)).mono ?_
 rintro e0 w0 ⟨rfl, rfl⟩
 rw [HBR.out]
 go_wp2_with fail
 refine (Rb.isRed (.node h true b y a) _ (HL.out.st)).mono ?_
 rintro e0 w0 ⟨rfl, rfl⟩
 simp only [Tr.red]
 go_wp2_with fail
 refine (Rb.isRed (.node gb true lb z rb) _ (HR.out.st)).mono ?_
 rintro e0 w0 ⟨rfl, rfl⟩
 simp only [Tr.red]
 go_wp2_with fail
 refine (Rb.flip g h gb c true true x y z b a lb rb _ HS.out HD.out).mono ?_
 rintro e2 w2 ⟨rfl, hs2, hw2⟩
 have HS2 := hid hs2
 have HW2 := hid hw2
 have HE2 := hid (HE.out.turned HS.out hw2)
 clear hs2 hw2 c2 c3 c4
 go_wp2_with fail
 refine (Rb.count th g (!c) (.node h false b y a) (.node gb false lb z rb) x rt n _ (HS2.out) (HD.out) (HN.out) (HE2.out)).mono ?_
 rintro e9 w9 ⟨rfl, hi9, hw9⟩
 have HI9 := hid hi9
 have HW9 := hid hw9
 clear hi9 hw9
 go_wp2_with fail
 go_ret
 exact ⟨rfl, HI9.out, HW2.out.trans HW9.out (fun j hj => Or.inl (by simp at hj; subst hj; simp [Tr.blocks]))⟩
theorem Rb.balance (g : Nat) (c : Bool) (l r : Tr Int) (x : Int) (th : Nat) (rt : Value) (n : Int) (w : World) (hst : St w (.node g c l x r)) (hd : (Tr.node g c l x r).blocks.Nodup)
  (hn : (Tr.node g c l x r).list.length ≤ 900000) (he : Env w th rt n) :
  Calls Tryz.prog 100 #[.pointer (some ⟨th, 0, none⟩), .pointer (some ⟨g, 0, none⟩)] w (Turned (Tr.balance (.node g c l x r)) (Tr.node g c l x r).blocks w) := by
 cases hl : l.red with
 | false =>
  cases hr : r.red with
  | false =>
   rw [Tr.bal_same hl hr]
   exact Rb.bal_d g c l r x th rt n w hst hd hn he hl hr
  | true =>
   cases r with
   | nil => simp [Tr.red] at hr
   | node h d a y b =>
    simp only [Tr.red] at hr
    subst hr
    cases hb : b.red with
    | false =>
     have e : Tr.balance (.node g c l x (.node h true a y b)) = .node h c (.node g true l x a) y b := by simp [Tr.balance, Tr.bal1, Tr.bal2, Tr.bal3, Tr.red_node, Tr.left_node, Tr.right_node, Tr.turnLeft, hl, hb]
     rw [e]
     exact Rb.bal_a1 g h c l a b x y th rt n w hst hd hn he hl hb
    | true =>
     cases b with
     | nil => simp [Tr.red] at hb
     | node gb d lb z rb =>
      simp only [Tr.red] at hb
      subst hb
      have e : Tr.balance (.node g c l x (.node h true a y (.node gb true lb z rb))) = .node h (!c) (.node g false l x a) y (.node gb false lb z rb) := by simp [Tr.balance, Tr.bal1, Tr.bal2, Tr.bal3, Tr.red_node, Tr.left_node, Tr.right_node, Tr.turnLeft, Tr.flip, Tr.neg, hl]
      rw [e]
      exact Rb.bal_a2 g h gb c l a lb rb x y z th rt n w hst hd hn he hl
 | true =>
  cases l with
  | nil => simp [Tr.red] at hl
  | node h d b y a =>
   simp only [Tr.red] at hl
   subst hl
   cases hb : b.red with
   | false =>
    cases hr : r.red with
    | false =>
     have e : Tr.balance (.node g c (.node h true b y a) x r) = .node g c (.node h true b y a) x r := by simp [Tr.balance, Tr.bal1, Tr.bal2, Tr.bal3, Tr.red_node, Tr.left_node, Tr.right_node, hb, hr]
     rw [e]
     exact Rb.bal_c1 g h c a b r x y th rt n w hst hd hn he hb hr
    | true =>
     cases r with
     | nil => simp [Tr.red] at hr
     | node gb d lb z rb =>
      simp only [Tr.red] at hr
      subst hr
      have e : Tr.balance (.node g c (.node h true b y a) x (.node gb true lb z rb)) = .node g (!c) (.node h false b y a) x (.node gb false lb z rb) := by simp [Tr.balance, Tr.bal1, Tr.bal2, Tr.bal3, Tr.red_node, Tr.left_node, Tr.right_node, Tr.flip, Tr.neg, hb]
      rw [e]
      exact Rb.bal_c2 g h gb c lb rb a b x y z th rt n w hst hd hn he hb
   | true =>
    cases b with
    | nil => simp [Tr.red] at hb
    | node gb d lb z rb =>
     simp only [Tr.red] at hb
     subst hb
     have e : Tr.balance (.node g c (.node h true (.node gb true lb z rb) y a) x r) = .node h (!c) (.node gb false lb z rb) y (.node g false a x r) := by simp [Tr.balance, Tr.bal1, Tr.bal2, Tr.bal3, Tr.red_node, Tr.left_node, Tr.right_node, Tr.turnRight, Tr.flip, Tr.neg]
     rw [e]
     cases hr : r.red with
     | false => exact Rb.bal_b g h gb c lb rb a r x y z th rt n w hst hd hn he hr
     | true => exact Rb.bal_b2 g h gb c lb rb a r x y z th rt n w hst hd hn he hr
end


section
open Go.RowKit
theorem Law6.lessI (a b : Int) (w : World) : Calls Tryz.prog 81 #[.int .i64 a, .int .i64 b] w fun e w' => e = .returned (.bool (ltI a b)) ∧ w = w' := Law6.less a b w
def Puts (x : Int) (t : Tr Int) (w : World) (e : Ending) (w' : World) : Prop := ∃ k, w.heap.size ≤ k ∧ e = .returned (ptr (Tr.put ltI k x t)) ∧ In w' (Tr.put ltI k x t) ∧ Chg t.blocks w w'
theorem left_turned {w w1 : World} {g : Nat} {c : Bool} {l r l' : Tr Int} {y : Int} {A : Option Addr} {m k : Nat} {th : Nat} {rt : Value} {n : Int} (hc : Cs w g [.int .i64 y, .slice A m k, ptr l, ptr r, .bool c]) (hl : In w l) (hr : In w r) (he : Env w th rt n)
  (hd : (Tr.node g c l y r).blocks.Nodup) (hi : In w1 l') (hw : Chg l.blocks w w1) (hg : g ∉ l'.blocks) :
  Cs w1 g [.int .i64 y, .slice A m k, ptr l, ptr r, .bool c] ∧ St (w1.setCell ⟨g, 2, none⟩ (ptr l')) (.node g c l' y r) ∧ Env (w1.setCell ⟨g, 2, none⟩ (ptr l')) th rt n ∧ Chg (g :: l.blocks) w (w1.setCell ⟨g, 2, none⟩ (ptr l')) := by
 obtain ⟨d1, d2, d3, d4, d5⟩ := nodup_node hd
 have c1 := hc.chg hw d1
 have hn : Nl w1 g := ⟨_, _, _, c1.at1⟩
 have hr1 := hr.chg hw hl.nl (fun j hj hj' => d5 j hj' hj)
 have he1 := he.chg hw hl.nl
 refine ⟨c1, ⟨⟨A, m, k, c1.set 2 (by simp) _⟩, hi.far hn hg _ _, hr1.far hn d2 _ _⟩, ?_, ?_⟩
 ·exact he1.chg (F := [g]) ((Chg.refl _ _).set (Or.inl (by simp)) _ _) (fun j hj => by simp at hj; subst hj; exact hn)
 ·exact (hw.mono (fun j hj => by simp [hj])).set (Or.inl (by simp)) _ _
theorem right_turned {w w1 : World} {g : Nat} {c : Bool} {l r r' : Tr Int} {y : Int} {A : Option Addr} {m k : Nat} {th : Nat} {rt : Value} {n : Int} (hc : Cs w g [.int .i64 y, .slice A m k, ptr l, ptr r, .bool c]) (hl : In w l) (hr : In w r) (he : Env w th rt n)
  (hd : (Tr.node g c l y r).blocks.Nodup) (hi : In w1 r') (hw : Chg r.blocks w w1) (hg : g ∉ r'.blocks) :
  Cs w1 g [.int .i64 y, .slice A m k, ptr l, ptr r, .bool c] ∧ St (w1.setCell ⟨g, 3, none⟩ (ptr r')) (.node g c l y r') ∧ Env (w1.setCell ⟨g, 3, none⟩ (ptr r')) th rt n ∧ Chg (g :: r.blocks) w (w1.setCell ⟨g, 3, none⟩ (ptr r')) := by
 obtain ⟨d1, d2, d3, d4, d5⟩ := nodup_node hd
 have c1 := hc.chg hw d2
 have hn : Nl w1 g := ⟨_, _, _, c1.at1⟩
 have hl1 := hl.chg hw hr.nl (fun j hj hj' => d5 j hj hj')
 have he1 := he.chg hw hr.nl
 refine ⟨c1, ⟨⟨A, m, k, c1.set 3 (by simp) _⟩, hl1.far hn d1 _ _, hi.far hn hg _ _⟩, ?_, ?_⟩
 ·exact he1.chg (F := [g]) ((Chg.refl _ _).set (Or.inl (by simp)) _ _) (fun j hj => by simp at hj; subst hj; exact hn)
 ·exact (hw.mono (fun j hj => by simp [hj])).set (Or.inl (by simp)) _ _
theorem nodup_left {g : Nat} {c : Bool} {l r l' : Tr Int} {x : Int} (h : (Tr.node g c l x r).blocks.Nodup) (hl : l'.blocks.Nodup) (ho : ∀ j ∈ l'.blocks, j ∈ l.blocks ∨ (j ∉ (Tr.node g c l x r).blocks)) : (Tr.node g c l' x r).blocks.Nodup := by
 obtain ⟨d1, d2, d3, d4, d5⟩ := nodup_node h
 simp only [Tr.blocks, List.mem_cons, List.mem_append, not_or] at ho
 refine List.nodup_cons.2 ⟨fun hg => ?_, List.nodup_append.2 ⟨hl, d4, fun a ha b hb e => ?_⟩⟩
 ·rcases List.mem_append.1 hg with h1 | h1
  ·rcases ho g h1 with h2 | h2
   ·exact d1 h2
   ·exact h2.1 rfl
  ·exact d2 h1
 ·subst e
  rcases ho a ha with h2 | h2
  ·exact d5 a h2 hb
  ·exact h2.2.2 hb
theorem nodup_right {g : Nat} {c : Bool} {l r r' : Tr Int} {x : Int} (h : (Tr.node g c l x r).blocks.Nodup) (hl : r'.blocks.Nodup) (ho : ∀ j ∈ r'.blocks, j ∈ r.blocks ∨ (j ∉ (Tr.node g c l x r).blocks)) : (Tr.node g c l x r').blocks.Nodup := by
 obtain ⟨d1, d2, d3, d4, d5⟩ := nodup_node h
 simp only [Tr.blocks, List.mem_cons, List.mem_append, not_or] at ho
 refine List.nodup_cons.2 ⟨fun hg => ?_, List.nodup_append.2 ⟨d3, hl, fun a ha b hb e => ?_⟩⟩
 ·rcases List.mem_append.1 hg with h1 | h1
  ·exact d1 h1
  ·rcases ho g h1 with h2 | h2
   ·exact d2 h2
   ·exact h2.1 rfl
 ·subst e
  rcases ho a hb with h2 | h2
  ·exact d5 a ha h2
  ·exact h2.2.1 ha
set_option maxRecDepth 100000 in
set_option maxHeartbeats 1000000 in
theorem Rb.put (th : Nat) (rt : Value) (n x : Int) (t : Tr Int) : ∀ w, In w t → t.blocks.Nodup → t.list.length < 900000 → Env w th rt n →
  Calls Tryz.prog 85 #[.pointer (some ⟨th, 0, none⟩), ptr t, .int .i64 x] w (Puts x t w) := by
 induction t with
 | nil =>
  intro w _ _ _ he
  have HS : Hid (St (w.alloc (.cells #[.int .i64 x, .slice none 0 0, .pointer none, .pointer none, .bool true] 113)) (.node w.heap.size true .nil x .nil)) := hid ⟨⟨_, _, _, Cs.alloc_new w _ [.int .i64 x, .slice none 0 0, .pointer none, .pointer none, .bool true]⟩, trivial, trivial⟩
  have HE := hid (he.below ((Below.refl w.heap.size w).alloc (Nat.le_refl _) (.cells #[.int .i64 x, .slice none 0 0, .pointer none, .pointer none, .bool true] 113)))
  clear he
  simp only [ptr_nil]
  go_enter Tryz.func85, Tryz.ntmps85
  go_wp2_with fail
  refine (Rb.balance w.heap.size true .nil .nil x th rt n _ HS.out (by simp [Tr.blocks]) (by simp [Tr.list]) HE.out).mono ?_
  rintro e w1 ⟨rfl, hi, hw⟩
  have HI := hid hi
  have HW := hid hw
  clear hi hw
  have e : Tr.balance (.node w.heap.size true .nil x .nil) = Tr.put ltI w.heap.size x .nil := rfl
  rw [e] at HI ⊢
  go_wp2_with fail
  go_ret
  exact ⟨w.heap.size, Nat.le_refl _, rfl, HI.out, ((Chg.below ((Below.refl w.heap.size w).alloc (Nat.le_refl _) _)).trans HW.out (by simp [Tr.blocks]))⟩
 | node g c l y r ihl ihr =>
  intro w h hd hn he
  have HI := hid h
  have HD := hid hd
  have HE := hid he
  have HN := hid hn
  have IHL := hid ihl
  have IHR := hid ihr
  simp only [Tr.list, List.length_append, List.length_cons] at hn
  obtain ⟨⟨v, hv, hc⟩, hl, hr⟩ := id h
  obtain ⟨A, m, k, rfl⟩ := hv.form
  have HC := hid (And.intro hc (And.intro hl hr))
  obtain ⟨_, _, t0, _⟩ := id he
  have e0 := t0.at0
  have c0 := hc.at0
  have c2 := hc.at2
  have c3 := hc.at3
  have HLT : ∀ z ∈ (Tr.node g c l y r).blocks, z < w.heap.size := fun z hz => (h.nl z hz).lt
  have HLT := hid HLT
  clear h hd he hc hl hr hv t0 ihl ihr
  simp only [ptr_node]
  cases hlt : ltI x y with
  | true =>
   go_enter Tryz.func85, Tryz.ntmps85
   go_wp2_with fail
   go_still_tail 9, (by kernel_rfl)
   change wpList _ _ _ _ _ w.drew
   go_wp2_with fail
   refine (Law6.lessI x y _).mono ?_
   rintro e w1 ⟨rfl, rfl⟩
   rw [hlt]
   go_wp2_with fail
   have HCd := hid (And.intro HC.out.1.drew (And.intro HC.out.2.1.drew HC.out.2.2.drew))
   have HEd := hid (HE.out.below (Below.refl _ _).drew)
   obtain ⟨d1, d2, d3, d4, d5⟩ := nodup_node HD.out
   have HD3 := hid d3
   clear d1 d2 d3 d4 d5
   refine (IHL.out _ HCd.out.2.1 HD3.out (by omega) HEd.out).mono ?_
   rintro e w1 ⟨k', hk, rfl, hi, hw⟩
   have hp := Tr.perm_put ltI k' x l
   have HP := hid hp
   have hout : k' ∉ (Tr.node g c l y r).blocks := fun hm => by
    have h1 := HLT.out _ hm
    have h2 : w.heap.size ≤ k' := hk
    omega
   have hg : g ∉ (Tr.put ltI k' x l).blocks := fun hm => by
    rcases List.mem_cons.1 (hp.mem_iff.1 hm) with rfl | h1
    ·exact hout (by simp [Tr.blocks])
    ·have := nodup_node HD.out; exact this.1 h1
   have hnd : (Tr.put ltI k' x l).blocks.Nodup := hp.nodup_iff.2 (List.nodup_cons.2 ⟨fun hm => hout (by simp [Tr.blocks, hm]), HD3.out⟩)
   have HT := hid (left_turned HCd.out.1 HCd.out.2.1 HCd.out.2.2 HEd.out HD.out hi hw hg)
   have HND := hid (nodup_left (l' := Tr.put ltI k' x l) HD.out hnd (fun j hj => by
    rcases List.mem_cons.1 (hp.mem_iff.1 hj) with rfl | h1
    ·exact Or.inr hout
    ·exact Or.inl h1))
   have HLN := hid (Tr.blocks_length (Tr.put ltI k' x l))
   have HK := hid hk
   clear hi hw hp hout hg hnd hk
   have q2 := HT.out.1.at2
   have q3 := HT.out.1.fr2
   have HEQ : Hid (Tr.put ltI k' x (.node g c l y r) = Tr.balance (.node g c (Tr.put ltI k' x l) y r)) := hid (by simp [Tr.put, hlt])
   generalize Tr.put ltI k' x l = L' at *
   obtain ⟨u, hu⟩ := ptr_form L'
   have HU := hid hu
   rw [hu]
   clear hu
   go_wp2_with fail
   have HW : Hid (∃ W, W = w1.setCell ⟨g, 2, none⟩ (.pointer u) ∧ St W (.node g c L' y r) ∧ Env W th rt n ∧ Chg (g :: l.blocks) w W) := hid ⟨_, rfl, by rw [← HU.out]; exact HT.out.2.1, by rw [← HU.out]; exact HT.out.2.2.1, by rw [← HU.out]; exact (Chg.below (Below.refl _ _).drew).trans HT.out.2.2.2 (fun j hj => Or.inl hj)⟩
   obtain ⟨W, hW, HF⟩ := HW
   rw [← hW]
   clear hW q2 q3
   have HF := hid HF
   refine (Rb.balance g c L' r y th rt n W HF.out.1 HND.out (by
    have h1 := HLN.out
    rw [HP.out.length_eq, List.length_cons, Tr.blocks_length] at h1
    simp only [Tr.list, List.length_append, List.length_cons]
    omega) HF.out.2.1).mono ?_
   rintro e w2 ⟨rfl, hi, hw⟩
   have HI2 := hid hi
   have HW2 := hid hw
   clear hi hw
   go_wp2_with fail
   go_ret
   refine ⟨k', HK.out, by rw [HEQ.out]; rfl, by rw [HEQ.out]; exact HI2.out, (HF.out.2.2.mono (fun j hj => ?_)).trans HW2.out (fun j hj => ?_)⟩
   ·rcases List.mem_cons.1 hj with rfl | h1
    ·simp [Tr.blocks]
    ·simp [Tr.blocks, h1]
   ·simp only [Tr.blocks, List.mem_cons, List.mem_append] at hj ⊢
    rcases hj with h1 | h1 | h1
    ·exact Or.inl (Or.inl h1)
    ·rcases List.mem_cons.1 (HP.out.mem_iff.1 h1) with rfl | h2
     ·exact Or.inr HK.out
     ·exact Or.inl (Or.inr (Or.inl h2))
    ·exact Or.inl (Or.inr (Or.inr h1))
  | false =>
   go_enter Tryz.func85, Tryz.ntmps85
   go_wp2_with fail
   go_still_tail 9, (by kernel_rfl)
   change wpList _ _ _ _ _ w.drew
   go_wp2_with fail
   refine (Law6.lessI x y _).mono ?_
   rintro e w1 ⟨rfl, rfl⟩
   rw [hlt]
   go_wp2_with fail
   have HCd := hid (And.intro HC.out.1.drew (And.intro HC.out.2.1.drew HC.out.2.2.drew))
   have HEd := hid (HE.out.below (Below.refl _ _).drew)
   obtain ⟨d1, d2, d3, d4, d5⟩ := nodup_node HD.out
   have HD3 := hid d4
   clear d1 d2 d3 d4 d5
   refine (IHR.out _ HCd.out.2.2 HD3.out (by omega) HEd.out).mono ?_
   rintro e w1 ⟨k', hk, rfl, hi, hw⟩
   have hp := Tr.perm_put ltI k' x r
   have HP := hid hp
   have hout : k' ∉ (Tr.node g c l y r).blocks := fun hm => by
    have h1 := HLT.out _ hm
    have h2 : w.heap.size ≤ k' := hk
    omega
   have hg : g ∉ (Tr.put ltI k' x r).blocks := fun hm => by
    rcases List.mem_cons.1 (hp.mem_iff.1 hm) with rfl | h1
    ·exact hout (by simp [Tr.blocks])
    ·have := nodup_node HD.out; exact this.2.1 h1
   have hnd : (Tr.put ltI k' x r).blocks.Nodup := hp.nodup_iff.2 (List.nodup_cons.2 ⟨fun hm => hout (by simp [Tr.blocks, hm]), HD3.out⟩)
   have HT := hid (right_turned HCd.out.1 HCd.out.2.1 HCd.out.2.2 HEd.out HD.out hi hw hg)
   have HND := hid (nodup_right (r' := Tr.put ltI k' x r) HD.out hnd (fun j hj => by
    rcases List.mem_cons.1 (hp.mem_iff.1 hj) with rfl | h1
    ·exact Or.inr hout
    ·exact Or.inl h1))
   have HLN := hid (Tr.blocks_length (Tr.put ltI k' x r))
   have HK := hid hk
   clear hi hw hp hout hg hnd hk
   have q2 := HT.out.1.at3
   have q3 := HT.out.1.fr3
   have HEQ : Hid (Tr.put ltI k' x (.node g c l y r) = Tr.balance (.node g c l y (Tr.put ltI k' x r))) := hid (by simp [Tr.put, hlt])
   generalize Tr.put ltI k' x r = L' at *
   obtain ⟨u, hu⟩ := ptr_form L'
   have HU := hid hu
   rw [hu]
   clear hu
   go_wp2_with fail
   have HW : Hid (∃ W, W = w1.setCell ⟨g, 3, none⟩ (.pointer u) ∧ St W (.node g c l y L') ∧ Env W th rt n ∧ Chg (g :: r.blocks) w W) := hid ⟨_, rfl, by rw [← HU.out]; exact HT.out.2.1, by rw [← HU.out]; exact HT.out.2.2.1, by rw [← HU.out]; exact (Chg.below (Below.refl _ _).drew).trans HT.out.2.2.2 (fun j hj => Or.inl hj)⟩
   obtain ⟨W, hW, HF⟩ := HW
   rw [← hW]
   clear hW q2 q3
   have HF := hid HF
   refine (Rb.balance g c l L' y th rt n W HF.out.1 HND.out (by
    have h1 := HLN.out
    rw [HP.out.length_eq, List.length_cons, Tr.blocks_length] at h1
    simp only [Tr.list, List.length_append, List.length_cons]
    omega) HF.out.2.1).mono ?_
   rintro e w2 ⟨rfl, hi, hw⟩
   have HI2 := hid hi
   have HW2 := hid hw
   clear hi hw
   go_wp2_with fail
   go_ret
   refine ⟨k', HK.out, by rw [HEQ.out]; rfl, by rw [HEQ.out]; exact HI2.out, (HF.out.2.2.mono (fun j hj => ?_)).trans HW2.out (fun j hj => ?_)⟩
   ·rcases List.mem_cons.1 hj with rfl | h1
    ·simp [Tr.blocks]
    ·simp [Tr.blocks, h1]
   ·simp only [Tr.blocks, List.mem_cons, List.mem_append] at hj ⊢
    rcases hj with h1 | h1 | h1
    ·exact Or.inl (Or.inl h1)
    ·exact Or.inl (Or.inr (Or.inl h1))
    ·rcases List.mem_cons.1 (HP.out.mem_iff.1 h1) with rfl | h2
     ·exact Or.inr HK.out
     ·exact Or.inl (Or.inr (Or.inr h2))
end


section
open Go.RowKit
theorem Tr.right_ne {α : Type} {g : Nat} {c : Bool} {l r : Tr α} {x : α} {h : Nat} (hv : Tr.V (.node g c l x r) h) (hn : l ≠ .nil) : l.lend = false → r ≠ .nil := by
 intro hl
 cases c with
 | true =>
  rcases Tr.lendL (g := g) (c := true) (x := x) hv.1 hv.2.1 hn hv.2.2.2 with ⟨a, b⟩ | ⟨a, b, k, e, d, f, f2, f3, f4, f5, f6⟩ | ⟨a, b, k, e, g2, g3, a', z, b', y', e', er, f, f2, f3, f4, f5⟩
  ·rw [a] at hl; exact absurd hl (by simp)
  ·exact f6
  ·exact f5
 | false =>
  obtain ⟨k, rfl, v1, v2, v3⟩ := hv
  rcases Tr.lendL (g := g) (c := true) (x := x) v1 v2 hn v3 with ⟨a, b⟩ | ⟨a, b, k, e, d, f, f2, f3, f4, f5, f6⟩ | ⟨a, b, k, e, g2, g3, a', z, b', y', e', er, f, f2, f3, f4, f5⟩
  ·rw [a] at hl; exact absurd hl (by simp)
  ·exact f6
  ·exact f5
theorem Tr.left_pre' {α : Type} {g : Nat} {c : Bool} {l r : Tr α} {x : α} {h : Nat} (hv : Tr.V (.node g c l x r) h) (hn : l ≠ .nil) : ∃ k, Tr.V (Tr.node g c l x r).lendLeft.left k ∧ (Tr.node g c l x r).lendLeft.left.lend = true := by
 cases c with
 | true => exact Tr.left_pre hv.1 hv.2.1 hn hv.2.2.2
 | false => obtain ⟨k, rfl, v1, v2, v3⟩ := hv; exact Tr.left_pre v1 v2 hn v3
end


section
open Go.RowKit
theorem Tr.up1_red {α : Type} {g : Nat} {c : Bool} {l r : Tr α} {x : α} (h : l.red = true) : (Tr.node g c l x r).up1 = (Tr.node g c l x r).turnRight := by simp [Tr.up1, Tr.left_node, h]
theorem Tr.rem_left {α : Type} {lt : α → α → Bool} {N : Nat} {x y : α} {g : Nat} {c : Bool} {l r : Tr α} (h : lt x y = true) :
  Tr.rem lt (N + 1) x (.node g c l y r) = Tr.balance ((Tr.node g c l y r).lendLeft.setLeft (Tr.rem lt N x (Tr.node g c l y r).lendLeft.left)) := by simp only [Tr.rem, h, if_true]
theorem Tr.rem_nil {α : Type} {lt : α → α → Bool} {N : Nat} {x y : α} {g : Nat} {c : Bool} {l r : Tr α} (h : lt x y = false) (hn : (Tr.node g c l y r).up1.right = .nil) :
  Tr.rem lt (N + 1) x (.node g c l y r) = .nil := by simp [Tr.rem, h, hn, Tr.isNil]
theorem Tr.rem_right {α : Type} {lt : α → α → Bool} {N : Nat} {x y : α} {g : Nat} {c : Bool} {l r : Tr α} (h : lt x y = false) (hn : (Tr.node g c l y r).up1.right ≠ .nil) (h2 : lt ((Tr.node g c l y r).up1.lendRight.thing x) x = true) :
  Tr.rem lt (N + 1) x (.node g c l y r) = Tr.balance ((Tr.node g c l y r).up1.lendRight.setRight (Tr.rem lt N x (Tr.node g c l y r).up1.lendRight.right)) := by
 rw [← Tr.isNil_no] at hn
 simp only [Tr.rem, h, hn, h2, if_true, if_false, Bool.false_eq_true]
theorem Tr.rem_here {α : Type} {lt : α → α → Bool} {N : Nat} {x y : α} {g : Nat} {c : Bool} {l r : Tr α} (h : lt x y = false) (hn : (Tr.node g c l y r).up1.right ≠ .nil) (h2 : lt ((Tr.node g c l y r).up1.lendRight.thing x) x = false) :
  Tr.rem lt (N + 1) x (.node g c l y r) = Tr.balance (((Tr.node g c l y r).up1.lendRight.setRight (Tr.remL N (Tr.node g c l y r).up1.lendRight.right)).setThing ((Tr.node g c l y r).up1.lendRight.right.least ((Tr.node g c l y r).up1.lendRight.thing x))) := by
 rw [← Tr.isNil_no] at hn
 simp only [Tr.rem, h, hn, h2, if_false, Bool.false_eq_true]
theorem Has.len {α : Type} {A B : List α} {m : α} {t u : Tr α} (h : t.list = A ++ m :: B) (h' : u.list = A ++ B) : u.list.length ≤ t.list.length := by rw [h, h']; simp
end


section
open Go.RowKit
def TreeAt (w : World) (th : Nat) (t : Tr Int) : Prop := Env w th (ptr t) t.list.length ∧ In w t ∧ t.blocks.Nodup
theorem TreeAt.below {w w' : World} {th : Nat} {t : Tr Int} (h : TreeAt w th t) (hb : Below w.heap.size w w') : TreeAt w' th t := ⟨h.1.below hb, h.2.1.below hb, h.2.2⟩
set_option maxRecDepth 100000 in
set_option maxHeartbeats 1000000 in
theorem Rb.has (th : Nat) (t : Tr Int) (x : Int) (w : World) (h : TreeAt w th t) :
  Calls Tryz.prog 84 #[.pointer (some ⟨th, 0, none⟩), .int .i64 x] w (Ans (.bool (Tr.has ltI x t)) w) := by
 have HT := hid h
 obtain ⟨_, _, t0, _⟩ := h.1
 have e3 := t0.at3
 have HL := hid (t0.at0)
 clear t0 h
 go_enter Tryz.func84, Tryz.ntmps84
 go_wp2_with fail
 go_loopg [5] t.size (fun s a wr => Below w.heap.size w wr ∧ ∃ u : Tr Int, a = ptr u ∧ s = u.size ∧ In w u ∧ Tr.has ltI x u = Tr.has ltI x t)
 case atStart => exact ⟨Below.refl _ _, t, rfl, rfl, HT.out.2.1, rfl⟩
 case round =>
  obtain ⟨hb, u, rfl, hs, hi, he⟩ := hrel
  have HB := hid hb
  have HS := hid hs
  have HE := hid he
  have HI := hid (hi.below hb)
  have HIw := hid hi
  have e0 := keep1 hb HL.out
  clear hb hs he hi e3
  cases u with
  | nil =>
   simp only [ptr_nil]
   clear e0
   go_wp2_with fail
   go_ret
   exact ⟨by rw [← HE.out]; rfl, HB.out⟩
  | node g c l y r =>
   obtain ⟨⟨v, _, hc⟩, hl, hr⟩ := id HI.out
   have c0 := hc.at0
   have c2 := hc.at2
   have c3 := hc.at3
   clear hc hl hr
   simp only [ptr_node]
   have HQ : Hid (Tr.has ltI x (.node g c l y r) = if ltI x y then Tr.has ltI x l else if ltI y x then Tr.has ltI x r else true) := hid rfl
   cases h1 : ltI x y with
   | true =>
    have H1 := hid h1
    clear h1
    go_wp2_with fail
    go_still_tail 9, (by kernel_rfl)
    change wpList _ _ _ _ _ wr.drew
    go_wp2_with fail
    refine (Law6.lessI x y _).mono ?_
    rintro e w1 ⟨rfl, rfl⟩
    rw [H1.out]
    go_wp2_with fail
    go_roundg l.size
    case measure => have := HS.out; simp only [Tr.size] at this; omega
    case rel => exact ⟨HB.out.drew, l, rfl, rfl, HIw.out.2.1, by rw [← HE.out, HQ.out, if_pos H1.out]⟩
   | false =>
    have H1 := hid h1
    clear h1
    cases h2 : ltI y x with
    | true =>
     have H2 := hid h2
     clear h2
     go_wp2_with fail
     go_still_tail 9, (by kernel_rfl)
     change wpList _ _ _ _ _ wr.drew
     go_wp2_with fail
     refine (Law6.lessI x y _).mono ?_
     rintro e w1 ⟨rfl, rfl⟩
     rw [H1.out]
     go_wp2_with fail
     have X := hid (And.intro HB.out.drew (And.intro (show wr.drew.cell? ⟨g, 0, none⟩ = _ from c0) (And.intro (show wr.drew.cell? ⟨g, 3, none⟩ = _ from c3) (show wr.drew.cell? ⟨th, 0, none⟩ = _ from e0))))
     clear c0 c2 c3 e0 HI HB
     generalize wr.drew = w9 at X ⊢
     obtain ⟨hb9, c0, c3, e0⟩ := X
     have HB := hid hb9
     clear hb9
     go_still_tail 9, (by kernel_rfl)
     change wpList _ _ _ _ _ w9.drew
     go_wp2_with fail
     refine (Law6.lessI y x _).mono ?_
     rintro e w1 ⟨rfl, rfl⟩
     rw [H2.out]
     go_wp2_with fail
     go_roundg r.size
     case measure => have := HS.out; simp only [Tr.size] at this; omega
     case rel => exact ⟨HB.out.drew, r, rfl, rfl, HIw.out.2.2, by rw [← HE.out, HQ.out, if_neg (by rw [H1.out]; simp), if_pos H2.out]⟩
    | false =>
     have H2 := hid h2
     clear h2
     go_wp2_with fail
     go_still_tail 9, (by kernel_rfl)
     change wpList _ _ _ _ _ wr.drew
     go_wp2_with fail
     refine (Law6.lessI x y _).mono ?_
     rintro e w1 ⟨rfl, rfl⟩
     rw [H1.out]
     go_wp2_with fail
     have X := hid (And.intro HB.out.drew (And.intro (show wr.drew.cell? ⟨g, 0, none⟩ = _ from c0) (And.intro (show wr.drew.cell? ⟨g, 3, none⟩ = _ from c3) (show wr.drew.cell? ⟨th, 0, none⟩ = _ from e0))))
     clear c0 c2 c3 e0 HI HB
     generalize wr.drew = w9 at X ⊢
     obtain ⟨hb9, c0, c3, e0⟩ := X
     have HB := hid hb9
     clear hb9
     go_still_tail 9, (by kernel_rfl)
     change wpList _ _ _ _ _ w9.drew
     go_wp2_with fail
     refine (Law6.lessI y x _).mono ?_
     rintro e w1 ⟨rfl, rfl⟩
     rw [H2.out]
     go_wp2_with fail
     go_ret
     exact ⟨by rw [← HE.out, HQ.out, if_neg (by rw [H1.out]; simp), if_neg (by rw [H2.out]; simp)]; rfl, HB.out.drew⟩
end


section
open Go.RowKit
def Hd (w : World) (th : Nat) : Prop := ∃ f a c, w.cell? ⟨th, 0, none⟩ = some (.func f a c)
theorem Env.hd {w : World} {th : Nat} {rt : Value} {n : Int} (h : Env w th rt n) : Hd w th := by obtain ⟨_, _, t, _⟩ := h; exact ⟨_, _, _, t.at0⟩
theorem Sl.farT {w : World} {v : Value} {L : List Int} (h : Sl w v L) {th : Nat} (ht : Hd w th) (o : Nat) (u : Value) : Sl (w.setCell ⟨th, o, none⟩ u) v L := by
 obtain ⟨s, c, e, h1, h2, h3, h4⟩ := h
 have hs : th ≠ s := by
  rintro rfl
  obtain ⟨f, a, k, hk⟩ := ht
  rw [h3 0 h1] at hk; injection hk with hk; cases hk
 refine ⟨s, c, e, h1, by simpa [World.setCell] using h2, fun i hi => ?_, h4.imp id (fun h => ?_)⟩
 ·exact (World.cell?_setCell_other w ⟨th, o, none⟩ ⟨s, i, none⟩ u (fun e => by injection e with e1; exact hs e1)).trans (h3 i hi)
 ·exact (World.cell?_setCell_other w ⟨th, o, none⟩ ⟨s, 1, none⟩ u (fun e => by injection e with e1; exact hs e1)).trans h
theorem Cs.farT {w : World} {g : Nat} {x : Int} {vs : List Value} (h : Cs w g (.int .i64 x :: vs)) {th : Nat} (ht : Hd w th) (o : Nat) (u : Value) : Cs (w.setCell ⟨th, o, none⟩ u) g (.int .i64 x :: vs) :=
 h.far (fun e => by subst e; obtain ⟨f, a, k, hk⟩ := ht; rw [h.at0] at hk; injection hk with hk; cases hk) _ _
theorem In.farT {w : World} {t : Tr Int} {th : Nat} (ht : Hd w th) (o : Nat) (u : Value) : In w t → In (w.setCell ⟨th, o, none⟩ u) t := by
 induction t with
 | nil => intro _; trivial
 | node g c l x r ihl ihr =>
  intro h
  obtain ⟨⟨v, hv, hc⟩, hl, hr⟩ := h
  exact ⟨⟨v, hv.farT ht _ _, hc.farT ht _ _⟩, ihl hl, ihr hr⟩
theorem Env.root {w : World} {th : Nat} {rt : Value} {n : Int} (h : Env w th rt n) (u : Value) : Env (w.setCell ⟨th, 3, none⟩ u) th u n := by
 obtain ⟨b1, b2, h0, h1, h2, n1, n2⟩ := h
 have f1 : th ≠ b1 := by rintro rfl; rw [h0.at1] at n1; cases n1
 have f2 : th ≠ b2 := by rintro rfl; rw [h0.at1] at n2; cases n2
 refine ⟨b1, b2, h0.set 3 (by simp) u, h1.far f1 _ _, h2.far f2 _ _, ?_, ?_⟩
 ·exact (World.cell?_setCell_other w ⟨th, 3, none⟩ ⟨b1, 1, none⟩ u (fun e => by injection e with e1; exact f1 e1)).trans n1
 ·exact (World.cell?_setCell_other w ⟨th, 3, none⟩ ⟨b2, 1, none⟩ u (fun e => by injection e with e1; exact f2 e1)).trans n2
theorem Env.size {w : World} {th : Nat} {rt : Value} {n : Int} (h : Env w th rt n) (m : Int) : Env (w.setCell ⟨th, 4, none⟩ (.int .i64 m)) th rt m := by
 obtain ⟨b1, b2, h0, h1, h2, n1, n2⟩ := h
 have f1 : th ≠ b1 := by rintro rfl; rw [h0.at1] at n1; cases n1
 have f2 : th ≠ b2 := by rintro rfl; rw [h0.at1] at n2; cases n2
 refine ⟨b1, b2, h0.set 4 (by simp) _, h1.far f1 _ _, h2.far f2 _ _, ?_, ?_⟩
 ·exact (World.cell?_setCell_other w ⟨th, 4, none⟩ ⟨b1, 1, none⟩ _ (fun e => by injection e with e1; exact f1 e1)).trans n1
 ·exact (World.cell?_setCell_other w ⟨th, 4, none⟩ ⟨b2, 1, none⟩ _ (fun e => by injection e with e1; exact f2 e1)).trans n2
theorem Tr.put_ne {α : Type} (lt : α → α → Bool) (k : Nat) (x : α) (t : Tr α) : Tr.put lt k x t ≠ .nil := by
 intro e
 have := (Tr.perm_put lt k x t).length_eq
 rw [e] at this
 simp [Tr.blocks] at this
theorem Tr.length_put {α : Type} (lt : α → α → Bool) (k : Nat) (x : α) (t : Tr α) : (Tr.put lt k x t).list.length = t.list.length + 1 := by
 rw [← Tr.blocks_length, (Tr.perm_put lt k x t).length_eq, List.length_cons, Tr.blocks_length]
def Ins (x : Int) (t : Tr Int) (th : Nat) (w : World) (e : Ending) (w' : World) : Prop := ∃ k, w.heap.size ≤ k ∧ e = .returned (.bool true) ∧ TreeAt w' th ((Tr.put ltI k x t).paint false) ∧ Chg (th :: t.blocks) w w'
set_option maxRecDepth 100000 in
set_option maxHeartbeats 1000000 in
theorem Rb.insert (th : Nat) (t : Tr Int) (x : Int) (w : World) (h : TreeAt w th t) (hn : t.list.length < 900000) (hh : Tr.has ltI x t = false) :
  Calls Tryz.prog 62 #[.pointer (some ⟨th, 0, none⟩), .int .i64 x] w (Ins x t th w) := by
 have HT := hid h
 have HH := hid hh
 have HN := hid hn
 clear h hh hn
 go_enter Tryz.func62, Tryz.ntmps62
 go_wp2_with fail
 refine (Rb.has th t x _ HT.out).mono ?_
 rintro e w1 ⟨rfl, hb⟩
 rw [HH.out]
 have HT1 := hid (HT.out.below hb)
 have HB := hid hb
 obtain ⟨_, _, t0, _⟩ := HT1.out.1
 have e3 := t0.at3
 have e3f := t0.fr3
 clear hb t0
 go_wp2_with fail
 refine (Rb.put th (ptr t) t.list.length x t _ HT1.out.2.1 HT1.out.2.2 HN.out HT1.out.1).mono ?_
 rintro e w2 ⟨k, hk, rfl, hi, hw⟩
 have hk' : w.heap.size ≤ k := Nat.le_trans HB.out.size hk
 have HE2 := hid (HT1.out.1.chg hw HT1.out.2.1.nl)
 have hnd : (Tr.put ltI k x t).blocks.Nodup := (Tr.perm_put ltI k x t).nodup_iff.2 (List.nodup_cons.2 ⟨fun hm => by have := (HT1.out.2.1.nl k hm).lt; omega, HT1.out.2.2⟩)
 have HLEN := hid (Tr.length_put ltI k x t)
 have HP := hid (Tr.perm_put ltI k x t)
 have HPN := hid (Tr.put_ne ltI k x t)
 have HND := hid hnd
 have HI := hid hi
 have HW := hid hw
 have HK := hid hk'
 obtain ⟨_, _, t0, _⟩ := HE2.out
 have q3 := t0.at3
 have q3f := t0.fr3
 have hkw := hid hk
 clear hi hw hk hk' hnd t0 e3 e3f
 have HX : Hid (∀ w', TreeAt w' th ((Tr.put ltI k x t).paint false) → Chg (th :: t.blocks) w w' → Ins x t th w (.returned (.bool true)) w') := hid (fun w' h1 h2 => ⟨k, HK.out, rfl, h1, h2⟩)
 generalize Tr.put ltI k x t = T at *
 cases T with
 | nil => exact absurd rfl HPN.out
 | node g c l y r =>
  simp only [ptr_node]
  have hne : th ≠ g := fun e => by
   obtain ⟨f, a, k', hk⟩ := HE2.out.hd
   obtain ⟨⟨v, _, hc⟩, _⟩ := HI.out
   rw [e, hc.at0] at hk; injection hk with hk; cases hk
  have hne' : g ≠ th := Ne.symm hne
  have HW3 : Hid (∃ W, W = ((w2.setCell ⟨th, 3, none⟩ (.pointer (some ⟨g, 0, none⟩))).setCell ⟨g, 4, none⟩ (.bool false)).setCell ⟨th, 4, none⟩ (.int .i64 (t.list.length + 1)) ∧
    Env W th (.pointer (some ⟨g, 0, none⟩)) (t.list.length + 1) ∧ In W (.node g false l y r) ∧ Chg (th :: t.blocks) w W) := hid (by
   have e1 := HE2.out.root (.pointer (some ⟨g, 0, none⟩))
   have i1 := HI.out.farT HE2.out.hd 3 (.pointer (some ⟨g, 0, none⟩))
   have hd := nodup_node HND.out
   have hn1 : Nl (w2.setCell ⟨th, 3, none⟩ (.pointer (some ⟨g, 0, none⟩))) g := i1.nl g (by simp [Tr.blocks])
   have e2 := e1.chg (F := [g]) ((Chg.refl _ _).set (g := g) (Or.inl (by simp)) 4 (.bool false)) (fun j hj => by simp at hj; subst hj; exact hn1)
   have i2 := i1.paint (d := false) ⟨hd.1, hd.2.1⟩
   have hgk : g ∈ t.blocks ∨ w1.heap.size ≤ g := by
    rcases List.mem_cons.1 (HP.out.mem_iff.1 (show g ∈ (Tr.node g c l y r).blocks by simp [Tr.blocks])) with h1 | h1
    ·subst h1; exact Or.inr hkw.out
    ·exact Or.inl h1
   have c1 : Chg (th :: t.blocks) w1 w2 := HW.out.mono (fun j hj => by simp [hj])
   have c2 := ((c1.set (g := th) (Or.inl (by simp)) 3 (.pointer (some ⟨g, 0, none⟩))).set (g := g) (hgk.imp (fun h => by simp [h]) id) 4 (.bool false)).set (g := th) (Or.inl (by simp)) 4 (.int .i64 (t.list.length + 1))
   exact ⟨_, rfl, e2.size _, i2.farT e2.hd _ _, (Chg.below HB.out).trans c2 (fun j hj => Or.inl hj)⟩)
  obtain ⟨⟨v, _, hc⟩, _⟩ := HI.out
  obtain ⟨_, _, t0, _⟩ := HE2.out
  have c4 := hc.at4
  have c4f := hc.fr4
  have q4 := t0.at4
  have q4f := t0.fr4
  have hb := HN.out
  clear hc t0
  go_wp2_with fail
  obtain ⟨W, hW, HF⟩ := HW3
  rw [← hW]
  go_ret
  refine HX.out W ⟨?_, HF.2.1, ?_⟩ HF.2.2
  ·have := HF.1
   rw [Tr.list_paint, HLEN.out]
   exact this
  ·rw [Tr.blocks_paint]; exact HND.out
end

end Go.Proofs.YtbcepkfdlaioaaaGreat

/- Texts of RbtreeSorts's proof, together. -/
import Derived.Test.YtmomigklglnmkaaRbB
import Derived.StillTailTactics
import Derived.Test.YtmomigklglnmkaaRbtreeSortsZ7
import Derived.BigQuiet
import Derived.Deep.QuietTactic
namespace Go.Proofs.Ytmomigklglnmkaa
/- The tree of numbers: turning. -/
section
open Go.RowKit
theorem In.far {w : World} {t : Tr Int} (h : In w t) {g : Nat} (hn : Nl w g) (hg : g ∉ t.blocks) (o : Nat) (u : Value) : In (w.setCell ⟨g, o, none⟩ u) t :=
  h.chg (F := [g]) ((Chg.refl [g] w).set (Or.inl (by simp)) o u) (fun k hk => by simp at hk; subst hk; exact hn) (fun k hk hk' => by simp at hk'; subst hk'; exact hg hk)
theorem In.drew {w : World} {t : Tr Int} (h : In w t) : In w.drew t := h.below ((Below.refl _ _).drew)
theorem Sl.far {w : World} {v : Value} {L : List Int} (h : Sl w v L) {g : Nat} (hn : Nl w g) (o : Nat) (u : Value) : Sl (w.setCell ⟨g, o, none⟩ u) v L :=
  h.chg (F := [g]) ((Chg.refl [g] w).set (Or.inl (by simp)) o u) (fun k hk => by simp at hk; subst hk; exact hn)
theorem Nl.chg {F : List Nat} {w w' : World} {g : Nat} (h : Nl w g) (hc : Chg F w w') (hg : g ∉ F) : Nl w' g := by
  obtain ⟨A, n, c, e⟩ := h
  exact ⟨A, n, c, (hc.cell (p := ⟨g, 1, none⟩) (World.block_lt_of_cell? w _ e) hg).trans e⟩
/-- What a call answers that turns a tree. -/
def Turns (v : Value) (t' : Tr Int) (F : List Nat) (w : World) (e : Ending) (w' : World) : Prop := e = .returned v ∧ St w' t' ∧ Chg F w w'
/-- A node whose parts are told apart. -/
theorem nodup_node {g : Nat} {c : Bool} {l r : Tr Int} {x : Int} (h : (Tr.node g c l x r).blocks.Nodup) : g ∉ l.blocks ∧ g ∉ r.blocks ∧ l.blocks.Nodup ∧ r.blocks.Nodup ∧ (∀ a ∈ l.blocks, a ∉ r.blocks) := by
  simp only [Tr.blocks, List.nodup_cons, List.nodup_append, List.mem_append, not_or] at h
  exact ⟨h.1.1, h.1.2, h.2.1, h.2.2.1, fun a ha hb => h.2.2.2 a ha a hb rfl⟩
theorem In.paint {w : World} {g : Nat} {c d : Bool} {l r : Tr Int} {x : Int} (h : In w (.node g c l x r)) (hg : g ∉ l.blocks ∧ g ∉ r.blocks) : In (w.setCell ⟨g, 4, none⟩ (.bool d)) (.node g d l x r) := by
  have hn := h.nl g (by simp [Tr.blocks])
  obtain ⟨⟨v, hv, hc⟩, hl, hr⟩ := h
  exact ⟨⟨v, hv.far hn _ _, hc.set 4 (by simp) (.bool d)⟩, hl.far hn hg.1 _ _, hr.far hn hg.2 _ _⟩
set_option maxHeartbeats 1000000 in
set_option maxRecDepth 100000 in
theorem Rb.flip (g gl gr : Nat) (c cl cr : Bool) (x xl xr : Int) (ll rl lr rr : Tr Int) (w : World) (h : St w (.node g c (.node gl cl ll xl rl) x (.node gr cr lr xr rr)))
    (hd : (Tr.node g c (.node gl cl ll xl rl) x (.node gr cr lr xr rr)).blocks.Nodup) :
    Calls Try.prog 54 #[.pointer (some ⟨g, 0, none⟩)] w (Turns (.tuple #[]) (Tr.flip (.node g c (.node gl cl ll xl rl) x (.node gr cr lr xr rr))) (Tr.node g c (.node gl cl ll xl rl) x (.node gr cr lr xr rr)).blocks w) := by
  obtain ⟨d1, d2, d3, d4, d5⟩ := nodup_node hd
  obtain ⟨e1, e2, _⟩ := nodup_node d3
  obtain ⟨f1, f2, _⟩ := nodup_node d4
  have hgl : g ≠ gl := fun e => d1 (by simp [Tr.blocks, e])
  have hgr : g ≠ gr := fun e => d2 (by simp [Tr.blocks, e])
  have hlr : gl ≠ gr := fun e => d5 gl (by simp [Tr.blocks]) (by simp [Tr.blocks, e])
  have hn := h.nl g (by simp [Tr.blocks])
  have HN := hid (In.nl h.2.1)
  have HNr := hid (In.nl h.2.2)
  obtain ⟨⟨A, n, k, hc⟩, hl, hr⟩ := id h
  have HF := hid (show Cs (w.setCell ⟨g, 4, none⟩ (.bool !c)) g [.int .i64 x, .slice A n k, .pointer (some ⟨gl, 0, none⟩), .pointer (some ⟨gr, 0, none⟩), .bool !c] ∧ In (w.setCell ⟨g, 4, none⟩ (.bool !c)) (.node gl cl ll xl rl) ∧ In (w.setCell ⟨g, 4, none⟩ (.bool !c)) (.node gr cr lr xr rr) ∧ Chg (Tr.node g c (.node gl cl ll xl rl) x (.node gr cr lr xr rr)).blocks w (w.setCell ⟨g, 4, none⟩ (.bool !c)) from
    ⟨hc.set 4 (by simp) _, hl.far hn d1 _ _, hr.far hn d2 _ _, (Chg.refl _ _).set (Or.inl (by simp [Tr.blocks])) _ _⟩)
  have c4 := hc.at4
  have c5 := hc.fr4
  clear h hc hn hd hl hr
  go_enter Try.func54, Try.ntmps54
  go_wp2_with fail
  generalize w.setCell ⟨g, 4, none⟩ (.bool !c) = W1 at HF ⊢
  clear c4 c5
  have q2 := HF.out.1.at2
  obtain ⟨v1, _, k1⟩ := HF.out.2.1.1
  have q4 := k1.at4
  have q5 := k1.fr4
  clear k1
  go_still_tail 14, (by kernel_rfl)
  change wpList _ _ _ _ _ W1.drew
  have HF2 : Hid (∃ W2, W2 = W1.drew.setCell ⟨gl, 4, none⟩ (.bool !cl) ∧ Cs W2 g [.int .i64 x, .slice A n k, .pointer (some ⟨gl, 0, none⟩), .pointer (some ⟨gr, 0, none⟩), .bool !c] ∧ In W2 (.node gl (!cl) ll xl rl) ∧ In W2 (.node gr cr lr xr rr) ∧ Chg (Tr.node g c (.node gl cl ll xl rl) x (.node gr cr lr xr rr)).blocks w W2) := hid (by
    obtain ⟨z0, z1, z2, z3⟩ := HF.out
    have hn := z1.nl gl (by simp [Tr.blocks])
    refine ⟨_, rfl, z0.drew.far (Ne.symm hgl) _ _, z1.drew.paint ⟨e1, e2⟩, z2.drew.far hn (d5 gl (by simp [Tr.blocks])) _ _, ?_⟩
    exact (z3.trans (Chg.below ((Below.refl _ _).drew)) (G := []) (by simp)).set (Or.inl (by simp [Tr.blocks])) _ _)
  go_wp2_with fail
  obtain ⟨W2, hW, HF2⟩ := HF2
  rw [show (W1.setCell ⟨gl, 4, none⟩ (.bool !cl)).drew = W2 from hW.symm]
  clear q2 q4 q5 hW HF
  have HF := hid HF2
  clear HF2
  have q2 := HF.out.1.at3
  obtain ⟨v2, _, k1⟩ := HF.out.2.2.1.1
  have q4 := k1.at4
  have q5 := k1.fr4
  clear k1
  go_still_tail 14, (by kernel_rfl)
  change wpList _ _ _ _ _ W2.drew
  have HF2 : Hid (∃ W3, W3 = W2.drew.setCell ⟨gr, 4, none⟩ (.bool !cr) ∧ St W3 (Tr.node g (!c) (.node gl (!cl) ll xl rl) x (.node gr (!cr) lr xr rr)) ∧ Chg (Tr.node g c (.node gl cl ll xl rl) x (.node gr cr lr xr rr)).blocks w W3) := hid (by
    obtain ⟨z0, z1, z2, z3⟩ := HF.out
    have hn := z2.nl gr (by simp [Tr.blocks])
    refine ⟨_, rfl, ⟨⟨A, n, k, z0.drew.far (Ne.symm hgr) _ _⟩, z1.drew.far hn (fun h => d5 gr (by simpa [Tr.blocks] using h) (by simp [Tr.blocks])) _ _, z2.drew.paint ⟨f1, f2⟩⟩, ?_⟩
    exact (z3.trans (Chg.below ((Below.refl _ _).drew)) (G := []) (by simp)).set (Or.inl (by simp [Tr.blocks])) _ _)
  go_wp2_with fail
  obtain ⟨W3, hW, HF3⟩ := HF2
  rw [show (W2.setCell ⟨gr, 4, none⟩ (.bool !cr)).drew = W3 from hW.symm]
  go_ways
  exact bodyPost_ret (v := .tuple #[]) (by simp [results, Try.results54, go_sem]) rfl ⟨rfl, HF3.1, HF3.2⟩
end

/- The tree of numbers: counting. -/
section
open Go.RowKit
/-- What a thing, and all to the left of it, count. -/
def Gives (L : List Int) (w : World) (e : Ending) (w' : World) : Prop := ∃ A n c, e = .returned (.slice A n c) ∧ Sl w' (.slice A n c) L ∧ Below w.heap.size w w'
theorem Sl.form {w : World} {v : Value} {L : List Int} (h : Sl w v L) : ∃ A n c, v = .slice A n c := by obtain ⟨s, c, e, _⟩ := h; exact ⟨_, _, _, e⟩
set_option maxRecDepth 100000 in
set_option maxHeartbeats 1000000 in
theorem Rb.upTo0 (g b1 b2 : Nat) (x : Int) (v pr : Value) (c : Bool) (w : World) (hg : Cs w g [.int .i64 x, v, .pointer none, pr, .bool c]) (h1 : Cs w b1 [.func (.func 22) #[] #[]]) :
    Calls Try.prog 39 #[.pointer (some ⟨g, 0, none⟩), .pointer (some ⟨b1, 0, none⟩), .pointer (some ⟨b2, 0, none⟩)] w (Gives [x] w) := by
  have g0 := hg.at0
  have g2 := hg.at2
  have q1 := h1.at0
  clear hg h1
  go_enter Try.func39, Try.ntmps39
  go_wp2_with fail
  go_still_tail 5, (by kernel_rfl)
  change wpList _ _ _ _ _ w.drew
  go_wp2_with fail
  refine (Law6.one x _).mono ?_
  rintro e w1 ⟨v1, rfl, hs, hb⟩
  obtain ⟨A, n, k, rfl⟩ := hs.form
  have HS := hid hs
  have HB := hid hb
  clear hs hb
  go_wp2_with fail
  go_ret
  exact ⟨_, _, _, rfl, HS.out, (Below.refl _ _).drew.trans HB.out⟩
set_option maxRecDepth 100000 in
set_option maxHeartbeats 1000000 in
theorem Rb.upTo1 (g gl b1 b2 : Nat) (x : Int) (v pr : Value) (c : Bool) (L : List Int) (A : Option Addr) (n k : Nat) (w : World) (hg : Cs w g [.int .i64 x, v, .pointer (some ⟨gl, 0, none⟩), pr, .bool c]) (hl : w.cell? ⟨gl, 1, none⟩ = some (.slice A n k)) (hs : Sl w (.slice A n k) L)
    (hn : L.length ≤ 900000) (h1 : Cs w b1 [.func (.func 22) #[] #[]]) (h2 : Cs w b2 [.func (.func 23) #[] #[]]) :
    Calls Try.prog 39 #[.pointer (some ⟨g, 0, none⟩), .pointer (some ⟨b1, 0, none⟩), .pointer (some ⟨b2, 0, none⟩)] w (Gives (L ++ [x]) w) := by
  have g2 := hg.at2
  have HQ : Hid (∀ w', Below w.heap.size w w' → (w'.cell? ⟨b2, 0, none⟩ = some (.func (.func 23) #[] #[]) ∧ w'.cell? ⟨b1, 0, none⟩ = some (.func (.func 22) #[] #[]) ∧ w'.cell? ⟨g, 2, none⟩ = some (.pointer (some ⟨gl, 0, none⟩)) ∧ w'.cell? ⟨gl, 1, none⟩ = some (.slice A n k) ∧ w'.cell? ⟨g, 0, none⟩ = some (.int .i64 x)) ∧ Below w.heap.size w w') :=
    hid (fun w' hb => ⟨⟨keep1 hb h2.at0, keep1 hb h1.at0, keep1 hb g2, keep1 hb hl, keep1 hb hg.at0⟩, hb⟩)
  have HS := hid hs
  clear hg h1 h2 hs hl
  go_enter Try.func39, Try.ntmps39
  go_wp2_with fail
  go_region_held3 (fun w' => (w'.cell? ⟨b2, 0, none⟩ = some (.func (.func 23) #[] #[]) ∧ w'.cell? ⟨b1, 0, none⟩ = some (.func (.func 22) #[] #[]) ∧ w'.cell? ⟨g, 2, none⟩ = some (.pointer (some ⟨gl, 0, none⟩)) ∧ w'.cell? ⟨gl, 1, none⟩ = some (.slice A n k) ∧ w'.cell? ⟨g, 0, none⟩ = some (.int .i64 x)) ∧ Below w.heap.size w w')
    (first | with_reducible exact HQ.out _ (Below.refl _ _).drew | with_reducible exact HQ.out _ (below_on (And.right (by assumption : (_ ∧ _ ∧ _ ∧ _ ∧ _) ∧ Below w.heap.size w _)) hb2))
    (first
      | (go_at_call 22; refine (Law6.one x _).mono ?_; rintro e w2 ⟨v1, rfl, hs1, hb2⟩; obtain ⟨A1, n1, k1, rfl⟩ := hs1.form; have HS1 := hid hs1; clear hs1)
      | (go_at_call 23; refine (Law6.both _ _ L [x] _ (HS.out.below (And.right (by assumption : (_ ∧ _ ∧ _ ∧ _ ∧ _) ∧ Below w.heap.size w _))) HS1.out (by simp; omega)).mono ?_; rintro e w3 ⟨v2, rfl, hs2, hb2⟩; obtain ⟨A2, n2, k2, rfl⟩ := hs2.form; have HS2 := hid hs2; clear hs2))
  have HF := hid (And.right (by assumption : (_ ∧ _ ∧ _ ∧ _ ∧ _) ∧ Below w.heap.size w w3))
  go_wp2_with fail
  go_ret
  exact ⟨_, _, _, rfl, HS2.out, HF.out⟩
/-- Of a node whose left part counts. -/
theorem Rb.upTo (g b1 b2 : Nat) (c : Bool) (l r : Tr Int) (x : Int) (w : World) (h : St w (.node g c l x r)) (hn : l.list.length ≤ 900000) (h1 : Cs w b1 [.func (.func 22) #[] #[]]) (h2 : Cs w b2 [.func (.func 23) #[] #[]]) :
    Calls Try.prog 39 #[.pointer (some ⟨g, 0, none⟩), .pointer (some ⟨b1, 0, none⟩), .pointer (some ⟨b2, 0, none⟩)] w (Gives (l.list ++ [x]) w) := by
  obtain ⟨⟨A, n, k, hc⟩, hl, hr⟩ := h
  cases l with
  | nil => exact Rb.upTo0 g b1 b2 x _ _ c w hc h1
  | node gl cl ll xl rl =>
    obtain ⟨⟨v, hv, hcl⟩, _⟩ := hl
    obtain ⟨A1, n1, k1, rfl⟩ := hv.form
    exact Rb.upTo1 g gl b1 b2 x _ _ c _ A1 n1 k1 w hc hcl.at1 hv hn h1 h2
/-- A node while it is counted. -/
def Cnt (w : World) (g : Nat) (x : Int) (pl pr : Value) (c : Bool) (w' : World) : Prop := ∃ A n k, Cs w' g [.int .i64 x, .slice A n k, pl, pr, .bool c] ∧ Chg [g] w w'
theorem Cnt.drew {w w' : World} {g : Nat} {x : Int} {pl pr : Value} {c : Bool} (h : Cnt w g x pl pr c w') : Cnt w g x pl pr c w'.drew := by
  obtain ⟨A, n, k, hc, hw⟩ := h
  exact ⟨A, n, k, hc.drew, hw.trans (G := []) (Chg.below (Below.refl _ _).drew) (by simp)⟩
theorem Cnt.below {w w1 w2 : World} {g : Nat} {x : Int} {pl pr : Value} {c : Bool} (h : Cnt w g x pl pr c w1) (hb : Below w1.heap.size w1 w2) : Cnt w g x pl pr c w2 := by
  obtain ⟨A, n, k, hc, hw⟩ := h
  exact ⟨A, n, k, hc.below hb, hw.trans (G := []) (Chg.below hb) (by simp)⟩
theorem Cnt.put {w w' : World} {g : Nat} {x : Int} {pl pr : Value} {c : Bool} (h : Cnt w g x pl pr c w') (A : Option Addr) (n k : Nat) : Cnt w g x pl pr c (w'.setCell ⟨g, 1, none⟩ (.slice A n k)) := by
  obtain ⟨A0, n0, k0, hc, hw⟩ := h
  exact ⟨A, n, k, hc.set 1 (by simp) _, hw.set (Or.inl (by simp)) _ _⟩
set_option maxRecDepth 100000 in
set_option maxHeartbeats 2000000 in
theorem Rb.count (th g : Nat) (c : Bool) (l r : Tr Int) (x : Int) (rt : Value) (n : Int) (w : World) (h : St w (.node g c l x r)) (hd : (Tr.node g c l x r).blocks.Nodup) (hn : (Tr.node g c l x r).list.length ≤ 900000) (he : Env w th rt n) :
    Calls Try.prog 55 #[.pointer (some ⟨th, 0, none⟩), .pointer (some ⟨g, 0, none⟩)] w fun e w' => e = .returned (.tuple #[]) ∧ In w' (.node g c l x r) ∧ Chg [g] w w' := by
  obtain ⟨d1, d2, d3, d4, d5⟩ := nodup_node hd
  have HNl := hid (h.nl)
  have HH := hid h
  have HE := hid he
  have hnl := h.nl g (by simp [Tr.blocks])
  have HN := hid hnl
  simp only [Tr.list, List.length_append, List.length_cons] at hn
  obtain ⟨b1, b2, t0, t1, t2, t3, t4⟩ := id he
  obtain ⟨⟨A, m, k, hc⟩, hl, hr⟩ := id h
  have HT := hid (And.intro t0 (And.intro t1 t2))
  have HC := hid (And.intro hc (And.intro hl hr))
  have g1 := hc.at1
  have g1f := hc.fr1
  have e2 := t0.at2
  clear t0 t1 t2 t3 t4 h he hnl hc hl hr hd
  go_enter Try.func55, Try.ntmps55
  go_wp2_with fail
  refine (Rb.upTo g b1 b2 c l r x _ HH.out (by omega) HT.out.2.1 HT.out.2.2).mono ?_
  rintro e w1 ⟨A1, m1, k1, rfl, hs, hb⟩
  have HS := hid hs
  -- behind the call, and the store
  have HW : Hid (∃ W, W = w1.setCell ⟨g, 1, none⟩ (.slice A1 m1 k1) ∧ Cs W g [.int .i64 x, .slice A1 m1 k1, ptr l, ptr r, .bool c] ∧ Sl W (.slice A1 m1 k1) (l.list ++ [x]) ∧ In W l ∧ In W r ∧ Env W th rt n ∧ Chg [g] w W) := hid (by
    have hn' : Nl w1 g := HN.out.chg (F := []) (Chg.below hb) (by simp)
    refine ⟨_, rfl, (HC.out.1.below hb).set 1 (by simp) _, HS.out.far hn' _ _, (HC.out.2.1.below hb).far hn' d1 _ _, (HC.out.2.2.below hb).far hn' d2 _ _, ?_, ?_⟩
    · exact (HE.out.below hb).chg (F := [g]) ((Chg.refl _ _).set (Or.inl (by simp)) _ _) (fun j hj => by simp at hj; subst hj; exact hn')
    · exact (Chg.below hb).set (Or.inl (by simp)) _ _)
  have q1 := keep1 hb g1
  have q2 := (hb.frozen (p := ⟨g, 1, none⟩) (World.block_lt_of_cell? w _ g1)).trans g1f
  clear hs hb g1 g1f e2
  have HW' : Hid (∃ W, W = w1.setCell ⟨g, 1, none⟩ (.slice A1 m1 k1)) := hid ⟨_, rfl⟩
  cases r with
  | nil =>
    have z3 : (w1.setCell ⟨g, 1, none⟩ (.slice A1 m1 k1)).cell? ⟨g, 3, none⟩ = some (.pointer none) := by obtain ⟨W, rfl, z, _⟩ := HW.out; exact z.at3
    go_wp2_with fail
    go_end0
    obtain ⟨W, rfl, z0, z1, z2, z3, z4, z5⟩ := HW.out
    exact ⟨rfl, ⟨⟨_, by simpa [Tr.list] using z1, z0⟩, z2, z3⟩, z5⟩
  | node gr cr lr xr rr =>
    have z3 : (w1.setCell ⟨g, 1, none⟩ (.slice A1 m1 k1)).cell? ⟨g, 3, none⟩ = some (.pointer (some ⟨gr, 0, none⟩)) := by obtain ⟨W, rfl, z, _⟩ := HW.out; exact z.at3
    go_wp2_with fail
    obtain ⟨W, hW, HF⟩ := HW
    rw [← hW]
    clear hW q1 q2 z3 HW'
    have HF := hid HF
    obtain ⟨v2, hv2, hc2⟩ := HF.out.2.2.2.1.1
    obtain ⟨A2, m2, k2, rfl⟩ := hv2.form
    have HR := hid hc2
    have HF2 := hid (HF.out.2.1.below (Below.refl _ W).drew)
    have HF3 := hid (hv2.below (Below.refl _ W).drew)
    clear hv2 hc2
    have HQ : Hid (∀ w', Cnt W g x (ptr l) (.pointer (some ⟨gr, 0, none⟩)) c w' → (w'.cell? ⟨th, 1, none⟩ = some (.func (.func 23) #[] #[]) ∧ w'.cell? ⟨g, 3, none⟩ = some (.pointer (some ⟨gr, 0, none⟩)) ∧ w'.cell? ⟨gr, 1, none⟩ = some (.slice A2 m2 k2)) ∧ Cnt W g x (ptr l) (.pointer (some ⟨gr, 0, none⟩)) c w') := hid (by
      rintro w' ⟨B, i, j, hc, hw⟩
      have hn' : ∀ j ∈ [g], Nl W j := fun j hj => by simp at hj; subst hj; exact ⟨_, _, _, HF.out.1.at1⟩
      obtain ⟨b1, b2, t0, _⟩ := HF.out.2.2.2.2.1.chg hw hn'
      refine ⟨⟨t0.at1, hc.at3, ?_⟩, B, i, j, hc, hw⟩
      exact (HR.out.chg hw (by simp; exact fun e => d2 (by simp [Tr.blocks, e]))).at1)
    have HC0 : Hid (Cnt W g x (ptr l) (.pointer (some ⟨gr, 0, none⟩)) c W) := hid ⟨_, _, _, HF.out.1, Chg.refl _ _⟩
    have q1 := HF.out.1.at1
    have q2 := HF.out.1.fr1
    refine wp_region_held_drew (S := (fun w' => (w'.cell? ⟨th, 1, none⟩ = some (.func (.func 23) #[] #[]) ∧ w'.cell? ⟨g, 3, none⟩ = some (.pointer (some ⟨gr, 0, none⟩)) ∧ w'.cell? ⟨gr, 1, none⟩ = some (.slice A2 m2 k2)) ∧ Cnt W g x (ptr l) (.pointer (some ⟨gr, 0, none⟩)) c w')) (by kernel_rfl) (HQ.out _ HC0.out.drew) (fun hHeld => ?_)
    refine wpAnyH_take (i := 0) (v := ?_) rfl (by kernel_rfl) (by kernel_rfl) (by kernel_rfl) (fun _ _ _ h => h) (Or.inl ⟨by rfl, ?_⟩) (by assumption) ?_
    rotate_left
    · intro w hSw; (try dsimp only at hSw); go_simp; (try with_reducible rfl)
    try simp only [List.getElem_toArray, List.getElem_cons_zero, List.getElem_cons_succ, Act.put, List.setIfInBounds_toArray, List.set_cons_zero, List.set_cons_succ]
    refine wpAnyH_take (i := 1) (v := ?_) rfl (by kernel_rfl) (by kernel_rfl) (by kernel_rfl) (fun _ _ _ h => h) (Or.inl ⟨by rfl, ?_⟩) (by assumption) ?_
    rotate_left
    · intro w hSw; (try dsimp only at hSw); go_simp; (try with_reducible rfl)
    try simp only [List.getElem_toArray, List.getElem_cons_zero, List.getElem_cons_succ, Act.put, List.setIfInBounds_toArray, List.set_cons_zero, List.set_cons_succ]
    refine wpAnyH_take (i := 2) (v := ?_) rfl (by kernel_rfl) (by kernel_rfl) (by kernel_rfl) (fun _ _ _ h => h) (Or.inl ⟨by rfl, ?_⟩) (by assumption) ?_
    rotate_left
    · intro w hSw; (try dsimp only at hSw); go_simp; (try with_reducible rfl)
    try simp only [List.getElem_toArray, List.getElem_cons_zero, List.getElem_cons_succ, Act.put, List.setIfInBounds_toArray, List.set_cons_zero, List.set_cons_succ]
    refine wpAnyH_take (i := 3) (v := ?_) rfl (by kernel_rfl) (by kernel_rfl) (by kernel_rfl) (fun _ _ _ h => h) (Or.inl ⟨by rfl, ?_⟩) (by assumption) ?_
    rotate_left
    · intro w hSw; (try dsimp only at hSw); go_simp; (try with_reducible rfl)
    try simp only [List.getElem_toArray, List.getElem_cons_zero, List.getElem_cons_succ, Act.put, List.setIfInBounds_toArray, List.set_cons_zero, List.set_cons_succ]
    refine wpAnyH_take (i := 4) (v := ?_) rfl (by kernel_rfl) (by kernel_rfl) (by kernel_rfl) (fun _ _ _ h => h) (Or.inl ⟨by rfl, ?_⟩) (by assumption) ?_
    rotate_left
    · intro w hSw; (try dsimp only at hSw); go_simp; (try with_reducible rfl)
    try simp only [List.getElem_toArray, List.getElem_cons_zero, List.getElem_cons_succ, Act.put, List.setIfInBounds_toArray, List.set_cons_zero, List.set_cons_succ]
    refine wpAnyH_take (i := 5) (v := ?_) rfl (by kernel_rfl) (by kernel_rfl) (by kernel_rfl) (fun _ _ _ h => h) (Or.inl ⟨by rfl, ?_⟩) (by assumption) ?_
    rotate_left
    · intro w hSw; (try dsimp only at hSw); go_simp; (try with_reducible rfl)
    try simp only [List.getElem_toArray, List.getElem_cons_zero, List.getElem_cons_succ, Act.put, List.setIfInBounds_toArray, List.set_cons_zero, List.set_cons_succ]
    refine wpAnyH_take (i := 6) (v := ?_) rfl (by kernel_rfl) (by kernel_rfl) (by kernel_rfl) (fun _ _ _ h => h) (Or.inl ⟨by rfl, ?_⟩) (by assumption) ?_
    rotate_left
    · intro w hSw; (try dsimp only at hSw); go_simp; (try with_reducible rfl)
    try simp only [List.getElem_toArray, List.getElem_cons_zero, List.getElem_cons_succ, Act.put, List.setIfInBounds_toArray, List.set_cons_zero, List.set_cons_succ]
    refine wpAnyH_take (i := 7) (v := ?_) rfl (by kernel_rfl) (by kernel_rfl) (by kernel_rfl) (fun _ _ _ h => h) (Or.inl ⟨by rfl, ?_⟩) (by assumption) ?_
    rotate_left
    · intro w hSw; (try dsimp only at hSw); go_simp; (try with_reducible rfl)
    try simp only [List.getElem_toArray, List.getElem_cons_zero, List.getElem_cons_succ, Act.put, List.setIfInBounds_toArray, List.set_cons_zero, List.set_cons_succ]
    refine wpAnyH_take (i := 9) (v := ?_) rfl (by kernel_rfl) (by kernel_rfl) (by kernel_rfl) (fun _ _ _ h => h) (Or.inl ⟨by rfl, ?_⟩) (by assumption) ?_
    rotate_left
    · intro w hSw; (try dsimp only at hSw); go_simp; (try with_reducible rfl)
    try simp only [List.getElem_toArray, List.getElem_cons_zero, List.getElem_cons_succ, Act.put, List.setIfInBounds_toArray, List.set_cons_zero, List.set_cons_succ]
    refine wpAnyH_take (i := 10) (v := ?_) rfl (by kernel_rfl) (by kernel_rfl) (by kernel_rfl) (fun _ _ _ h => h) (Or.inl ⟨by rfl, ?_⟩) (by assumption) ?_
    rotate_left
    · intro w hSw; (try dsimp only at hSw); go_simp; (try with_reducible rfl)
    try simp only [List.getElem_toArray, List.getElem_cons_zero, List.getElem_cons_succ, Act.put, List.setIfInBounds_toArray, List.set_cons_zero, List.set_cons_succ]
    refine wpAnyH_take (i := 11) (v := ?_) rfl (by kernel_rfl) (by kernel_rfl) (by kernel_rfl) (fun _ _ _ h => h) (Or.inl ⟨by rfl, ?_⟩) (by assumption) ?_
    rotate_left
    · intro w hSw; (try dsimp only at hSw); go_simp; (try with_reducible rfl)
    try simp only [List.getElem_toArray, List.getElem_cons_zero, List.getElem_cons_succ, Act.put, List.setIfInBounds_toArray, List.set_cons_zero, List.set_cons_succ]
    refine wpAnyH_take (i := 12) (v := ?_) rfl (by kernel_rfl) (by kernel_rfl) (by kernel_rfl) (fun _ _ _ h => h) (Or.inl ⟨by rfl, ?_⟩) (by assumption) ?_
    rotate_left
    · intro w hSw; (try dsimp only at hSw); go_simp; (try with_reducible rfl)
    try simp only [List.getElem_toArray, List.getElem_cons_zero, List.getElem_cons_succ, Act.put, List.setIfInBounds_toArray, List.set_cons_zero, List.set_cons_succ]
    refine wpAnyH_take (i := 13) (v := ?_) rfl (by kernel_rfl) (by kernel_rfl) (by kernel_rfl) (fun _ _ _ h => h) (Or.inl ⟨by rfl, ?_⟩) (by assumption) ?_
    rotate_left
    · intro w hSw; (try dsimp only at hSw); go_simp; (try with_reducible rfl)
    try simp only [List.getElem_toArray, List.getElem_cons_zero, List.getElem_cons_succ, Act.put, List.setIfInBounds_toArray, List.set_cons_zero, List.set_cons_succ]
    refine wpAnyH_take (i := 14) (v := ?_) rfl (by kernel_rfl) (by kernel_rfl) (by kernel_rfl) (fun _ _ _ h => h) (Or.inl ⟨by rfl, ?_⟩) (by assumption) ?_
    rotate_left
    · intro w hSw; (try dsimp only at hSw); go_simp; (try with_reducible rfl)
    try simp only [List.getElem_toArray, List.getElem_cons_zero, List.getElem_cons_succ, Act.put, List.setIfInBounds_toArray, List.set_cons_zero, List.set_cons_succ]
    refine wpAnyH_take (i := 15) (v := ?_) rfl (by kernel_rfl) (by kernel_rfl) (by kernel_rfl) (fun _ _ _ h => h) (Or.inl ⟨by rfl, ?_⟩) (by assumption) ?_
    rotate_left
    · intro w hSw; (try dsimp only at hSw); go_simp; (try with_reducible rfl)
    try simp only [List.getElem_toArray, List.getElem_cons_zero, List.getElem_cons_succ, Act.put, List.setIfInBounds_toArray, List.set_cons_zero, List.set_cons_succ]
    refine wpAnyH_ready (rs := [8]) (by kernel_rfl) (by simp) ?_
    refine AllReadyH.cons rfl (fun K hK => ?_) AllReadyH.nil
    go_simp
    refine hK.out _ _ ?_ (fun hHeld => ?_)
    · (first | with_reducible exact hHeld | with_reducible exact HQ.out _ (Cnt.below hHeld.2 hb3) | exact HQ.out _ (Cnt.put hHeld.2 _ _ _))
    clear hK K
    try simp only [List.getElem_toArray, List.getElem_cons_zero, List.getElem_cons_succ, Act.put, List.setIfInBounds_toArray, List.set_cons_zero, List.set_cons_succ]
    refine wpAnyH_ready (rs := [16]) (by kernel_rfl) (by simp) ?_
    refine AllReadyH.cons rfl (fun K hK => ?_) AllReadyH.nil
    go_simp
    refine (Law6.both _ _ (l.list ++ [x]) (lr.list ++ xr :: rr.list) _ HF2.out HF3.out (by simp; simp only [Tr.list, List.length_append, List.length_cons] at hn; omega)).mono ?_
    rintro e w3 ⟨v3, rfl, hs3, hb3⟩
    obtain ⟨A3, m3, k3, rfl⟩ := hs3.form
    have HS3 := hid hs3
    have HC3 := hid (Cnt.below hHeld.2 hb3)
    obtain ⟨_, _, _, hc3, _⟩ := HC3.out
    have y1 := hc3.at1
    have y2 := hc3.fr1
    clear hs3 hc3
    refine hK.out _ _ ?_ (fun hHeld => ?_)
    · (first | with_reducible exact hHeld | with_reducible exact HQ.out _ (Cnt.below hHeld.2 hb3) | exact HQ.out _ (Cnt.put hHeld.2 _ _ _))
    clear hK K
    try simp only [List.getElem_toArray, List.getElem_cons_zero, List.getElem_cons_succ, Act.put, List.setIfInBounds_toArray, List.set_cons_zero, List.set_cons_succ]
    refine wpAnyH_take (i := 17) (v := ?_) rfl (by kernel_rfl) (by kernel_rfl) (by kernel_rfl) (fun _ _ _ h => h) (Or.inl ⟨by rfl, ?_⟩) (by assumption) ?_
    rotate_left
    · intro w hSw; (try dsimp only at hSw); go_simp; (try with_reducible rfl)
    try simp only [List.getElem_toArray, List.getElem_cons_zero, List.getElem_cons_succ, Act.put, List.setIfInBounds_toArray, List.set_cons_zero, List.set_cons_succ]
    refine wpAnyH_take (i := 18) (v := ?_) rfl (by kernel_rfl) (by kernel_rfl) (by kernel_rfl) (fun _ _ _ h => h) (Or.inl ⟨by rfl, ?_⟩) (by assumption) ?_
    rotate_left
    · intro w hSw; (try dsimp only at hSw); go_simp; (try with_reducible rfl)
    try simp only [List.getElem_toArray, List.getElem_cons_zero, List.getElem_cons_succ, Act.put, List.setIfInBounds_toArray, List.set_cons_zero, List.set_cons_succ]
    refine wpAnyH_ready (rs := [19]) (by kernel_rfl) (by simp) ?_
    refine AllReadyH.cons rfl (fun K hK => ?_) AllReadyH.nil
    go_simp
    refine hK.out _ _ ?_ (fun hHeld => ?_)
    · (first | with_reducible exact hHeld | with_reducible exact HQ.out _ (Cnt.below hHeld.2 hb3) | exact HQ.out _ (Cnt.put hHeld.2 _ _ _))
    clear hK K
    try simp only [List.getElem_toArray, List.getElem_cons_zero, List.getElem_cons_succ, Act.put, List.setIfInBounds_toArray, List.set_cons_zero, List.set_cons_succ]
    refine wpAnyH_done (by kernel_rfl) ?_ _
    have HFIN : Hid (In (w3.setCell ⟨g, 1, none⟩ (.slice A3 m3 k3)) (.node g c l x (.node gr cr lr xr rr)) ∧ Chg [g] w (w3.setCell ⟨g, 1, none⟩ (.slice A3 m3 k3))) := hid (by
      obtain ⟨_, _, _, hc3, hw3⟩ := HC3.out
      have hn3 : Nl w3 g := ⟨_, _, _, hc3.at1⟩
      have hnW : ∀ j ∈ [g], Nl W j := fun j hj => by simp at hj; subst hj; exact ⟨_, _, _, HF.out.1.at1⟩
      have hl3 := HF.out.2.2.1.chg hw3 hnW (fun j hj hj' => by simp at hj'; subst hj'; exact d1 hj)
      have hr3 := HF.out.2.2.2.1.chg hw3 hnW (fun j hj hj' => by simp at hj'; subst hj'; exact d2 hj)
      refine ⟨⟨⟨.slice A3 m3 k3, ?_, hc3.set 1 (by simp) _⟩, hl3.far hn3 d1 _ _, hr3.far hn3 d2 _ _⟩, ?_⟩
      · have := HS3.out.far hn3 1 (.slice A3 m3 k3)
        simpa [Tr.list] using this
      · exact (HF.out.2.2.2.2.2.trans hw3 (by simp)).set (Or.inl (by simp)) _ _)
    go_wp2_with fail
    go_end0
    exact ⟨rfl, HFIN.out.1, HFIN.out.2⟩
end

/- The tree of numbers: turning to the left and to the right. -/
section
open Go.RowKit
theorem ptr_form {α : Type} (t : Tr α) : ∃ u, ptr t = .pointer u := by cases t <;> exact ⟨_, rfl⟩
/-- A node whose right part's own count is not told. -/
def StL (w : World) : Tr Int → Prop
  | .nil => True
  | .node g c l x r => (∃ A n k, Cs w g [.int .i64 x, .slice A n k, ptr l, ptr r, .bool c]) ∧ In w l ∧ St w r
theorem In.chg1 {w w' : World} {t : Tr Int} {g : Nat} (h : In w t) (hc : Chg [g] w w') (hn : Nl w g) (hg : g ∉ t.blocks) : In w' t :=
  h.chg hc (fun j hj => by simp at hj; subst hj; exact hn) (fun j hj hj' => by simp at hj'; subst hj'; exact hg hj)
set_option maxRecDepth 100000 in
set_option maxHeartbeats 1000000 in
theorem Rb.turnLeft (th g h : Nat) (c d : Bool) (a b e : Tr Int) (x y : Int) (rt : Value) (n : Int) (w : World) (hst : StL w (.node g c a x (.node h d b y e))) (hd : (Tr.node g c a x (.node h d b y e)).blocks.Nodup)
    (hn : (Tr.node g c a x (.node h d b y e)).list.length ≤ 900000) (he : Env w th rt n) :
    Calls Try.prog 53 #[.pointer (some ⟨th, 0, none⟩), .pointer (some ⟨g, 0, none⟩)] w
      (Turns (.pointer (some ⟨h, 0, none⟩)) (.node h c (.node g true a x b) y e) (Tr.node g c a x (.node h d b y e)).blocks w) := by
  obtain ⟨d1, d2, d3, d4, d5⟩ := nodup_node hd
  obtain ⟨f1, f2, f3, f4, f5⟩ := nodup_node d4
  simp only [Tr.blocks, List.mem_cons, List.mem_append, not_or] at d2 d5
  simp only [Tr.list, List.length_append, List.length_cons] at hn
  obtain ⟨dgh, dgb, dge⟩ := d2
  obtain ⟨⟨A, m, k, hc⟩, ha, ⟨⟨A2, m2, k2, hc2⟩, hb, hee⟩⟩ := hst
  have hng : Nl w g := ⟨_, _, _, hc.at1⟩
  have hnh : Nl w h := ⟨_, _, _, hc2.at1⟩
  obtain ⟨u, hu⟩ := ptr_form b
  rw [hu] at hc2
  have HD := hid d5
  have HW : Hid (∃ W, W = (((w.setCell ⟨g, 3, none⟩ (.pointer u)).setCell ⟨h, 2, none⟩ (.pointer (some ⟨g, 0, none⟩))).setCell ⟨h, 4, none⟩ (.bool c)).setCell ⟨g, 4, none⟩ (.bool true) ∧
      St W (.node g true a x b) ∧ Cs W h [.int .i64 y, .slice A2 m2 k2, .pointer (some ⟨g, 0, none⟩), ptr e, .bool c] ∧ In W e ∧ Env W th rt n ∧ Chg (Tr.node g c a x (.node h d b y e)).blocks w W) := hid (by
    have hch : Chg [g, h] w ((((w.setCell ⟨g, 3, none⟩ (.pointer u)).setCell ⟨h, 2, none⟩ (.pointer (some ⟨g, 0, none⟩))).setCell ⟨h, 4, none⟩ (.bool c)).setCell ⟨g, 4, none⟩ (.bool true)) :=
      ((((Chg.refl _ w).set (Or.inl (by simp)) _ _).set (Or.inl (by simp)) _ _).set (Or.inl (by simp)) _ _).set (Or.inl (by simp)) _ _
    have hnl : ∀ j ∈ [g, h], Nl w j := fun j hj => by simp at hj; rcases hj with rfl | rfl; exact hng; exact hnh
    have ap : ∀ t : Tr Int, g ∉ t.blocks → h ∉ t.blocks → ∀ j ∈ t.blocks, j ∉ [g, h] := fun t h1 h2 j hj hj' => by simp at hj'; rcases hj' with rfl | rfl; exact h1 hj; exact h2 hj
    refine ⟨_, rfl, ⟨⟨A, m, k, ?_⟩, ha.chg hch hnl (ap a d1 (fun hj => (d5 h hj).1 rfl)), hb.chg hch hnl (ap b dgb f1)⟩, ?_, hee.chg hch hnl (ap e dge f2), he.chg hch hnl, hch.mono (by simp [Tr.blocks])⟩
    · rw [hu]
      exact (((hc.set 3 (by simp) _).far (Ne.symm dgh) _ _).far (Ne.symm dgh) _ _).set 4 (by simp) _
    · exact ((((hc2.far dgh _ _).set 2 (by simp) _).set 4 (by simp) _)).far dgh _ _)
  have c2 := hc.at2
  have c3 := hc.at3
  have c4 := hc.at4
  have c5 := hc.fr3
  have c6 := hc.fr4
  have h2 := hc2.at2
  have h4 := hc2.at4
  have h5 := hc2.fr2
  have h6 := hc2.fr4
  simp only [ptr_node] at c3
  have HN := hid hn
  have HG := hid dge
  have HD' := hid (show g ∉ (a.blocks ++ b.blocks) ∧ (a.blocks ++ b.blocks).Nodup from ⟨by simp [d1, dgb], List.nodup_append.2 ⟨d3, f3, fun p hp q hq e => (HD.out p hp).2.1 (e ▸ hq)⟩⟩)
  clear hd hn he hc ha hc2 hb hee hng hnh d1 d3 d4 f1 f2 f3 f4 f5 dgb dge d5
  have ne1 : h ≠ g := Ne.symm dgh
  go_enter Try.func53, Try.ntmps53
  go_wp2_with fail
  obtain ⟨W, hW, HF⟩ := HW
  rw [← hW]
  clear hW
  have HF := hid HF
  go_ways
  refine (Rb.count th g true a b x rt n W HF.out.1 (List.nodup_cons.2 HD'.out) (by have := HN.out; simp only [Tr.list, List.length_append, List.length_cons]; omega) HF.out.2.2.2.1).mono ?_
  rintro e1 w2 ⟨rfl, hi, hw⟩
  have HI := hid hi
  have HC := hid hw
  clear hi hw
  go_wp2_with fail
  go_ret
  have hng : Nl W g := HF.out.1.nl g (by simp [Tr.blocks])
  refine ⟨rfl, ⟨⟨A2, m2, k2, HF.out.2.1.chg HC.out (by simp [ne1])⟩, HI.out, HF.out.2.2.1.chg1 HC.out hng HG.out⟩, HF.out.2.2.2.2.trans HC.out (by simp [Tr.blocks])⟩
set_option maxRecDepth 100000 in
set_option maxHeartbeats 1000000 in
theorem Rb.turnRight (th g h : Nat) (c d : Bool) (a b e : Tr Int) (x y : Int) (rt : Value) (n : Int) (w : World) (hst : St w (.node g c (.node h d a y b) x e)) (hd : (Tr.node g c (.node h d a y b) x e).blocks.Nodup)
    (hn : (Tr.node g c (.node h d a y b) x e).list.length ≤ 900000) (he : Env w th rt n) :
    Calls Try.prog 43 #[.pointer (some ⟨th, 0, none⟩), .pointer (some ⟨g, 0, none⟩)] w
      (Turns (.pointer (some ⟨h, 0, none⟩)) (.node h c a y (.node g true b x e)) (Tr.node g c (.node h d a y b) x e).blocks w) := by
  obtain ⟨d1, d2, d3, d4, d5⟩ := nodup_node hd
  obtain ⟨f1, f2, f3, f4, f5⟩ := nodup_node d3
  simp only [Tr.blocks, List.mem_cons, List.mem_append, not_or] at d1 d5
  simp only [Tr.list, List.length_append, List.length_cons] at hn
  obtain ⟨dgh, dga, dgb⟩ := d1
  obtain ⟨⟨A, m, k, hc⟩, hl, hee⟩ := hst
  obtain ⟨⟨A2, m2, k2, hc2⟩, ha, hb⟩ := hl.st
  have hng : Nl w g := ⟨_, _, _, hc.at1⟩
  have hnh : Nl w h := ⟨_, _, _, hc2.at1⟩
  obtain ⟨u, hu⟩ := ptr_form b
  rw [hu] at hc2
  have dhe : h ∉ e.blocks := d5 h (Or.inl rfl)
  have HD := hid d5
  have HW : Hid (∃ W, W = (((w.setCell ⟨g, 2, none⟩ (.pointer u)).setCell ⟨h, 3, none⟩ (.pointer (some ⟨g, 0, none⟩))).setCell ⟨h, 4, none⟩ (.bool c)).setCell ⟨g, 4, none⟩ (.bool true) ∧
      St W (.node g true b x e) ∧ Cs W h [.int .i64 y, .slice A2 m2 k2, ptr a, .pointer (some ⟨g, 0, none⟩), .bool c] ∧ In W a ∧ Env W th rt n ∧ Chg (Tr.node g c (.node h d a y b) x e).blocks w W) := hid (by
    have hch : Chg [g, h] w ((((w.setCell ⟨g, 2, none⟩ (.pointer u)).setCell ⟨h, 3, none⟩ (.pointer (some ⟨g, 0, none⟩))).setCell ⟨h, 4, none⟩ (.bool c)).setCell ⟨g, 4, none⟩ (.bool true)) :=
      ((((Chg.refl _ w).set (Or.inl (by simp)) _ _).set (Or.inl (by simp)) _ _).set (Or.inl (by simp)) _ _).set (Or.inl (by simp)) _ _
    have hnl : ∀ j ∈ [g, h], Nl w j := fun j hj => by simp at hj; rcases hj with rfl | rfl; exact hng; exact hnh
    have ap : ∀ t : Tr Int, g ∉ t.blocks → h ∉ t.blocks → ∀ j ∈ t.blocks, j ∉ [g, h] := fun t h1 h2 j hj hj' => by simp at hj'; rcases hj' with rfl | rfl; exact h1 hj; exact h2 hj
    refine ⟨_, rfl, ⟨⟨A, m, k, ?_⟩, hb.chg hch hnl (ap b dgb f2), hee.chg hch hnl (ap e d2 dhe)⟩, ?_, ha.chg hch hnl (ap a dga f1), he.chg hch hnl, hch.mono (by simp [Tr.blocks])⟩
    · rw [hu]
      exact (((hc.set 2 (by simp) _).far (Ne.symm dgh) _ _).far (Ne.symm dgh) _ _).set 4 (by simp) _
    · exact ((((hc2.far dgh _ _).set 3 (by simp) _).set 4 (by simp) _)).far dgh _ _)
  have c2 := hc.at2
  have c4 := hc.at4
  have c5 := hc.fr2
  have c6 := hc.fr4
  have h2 := hc2.at3
  have h4 := hc2.at4
  have h5 := hc2.fr3
  have h6 := hc2.fr4
  simp only [ptr_node] at c2
  have HN := hid hn
  have HG := hid dga
  have HD' := hid (show g ∉ (b.blocks ++ e.blocks) ∧ (b.blocks ++ e.blocks).Nodup from ⟨by simp [d2, dgb], List.nodup_append.2 ⟨f4, d4, fun p hp q hq e => HD.out p (Or.inr (Or.inr hp)) (e ▸ hq)⟩⟩)
  clear hd hn he hc ha hc2 hb hee hl hng hnh d2 d3 d4 f1 f2 f3 f4 f5 dga dgb d5 dhe
  have ne1 : h ≠ g := Ne.symm dgh
  go_enter Try.func43, Try.ntmps43
  go_wp2_with fail
  obtain ⟨W, hW, HF⟩ := HW
  rw [← hW]
  clear hW
  have HF := hid HF
  go_ways
  refine (Rb.count th g true b e x rt n W HF.out.1 (List.nodup_cons.2 HD'.out) (by have := HN.out; simp only [Tr.list, List.length_append, List.length_cons]; omega) HF.out.2.2.2.1).mono ?_
  rintro e1 w2 ⟨rfl, hi, hw⟩
  have HI := hid hi
  have HC := hid hw
  clear hi hw
  go_wp2_with fail
  go_ret
  have hng : Nl W g := HF.out.1.nl g (by simp [Tr.blocks])
  refine ⟨rfl, ⟨⟨A2, m2, k2, HF.out.2.1.chg HC.out (by simp [ne1])⟩, HF.out.2.2.1.chg1 HC.out hng HG.out, HI.out⟩, HF.out.2.2.2.2.trans HC.out (by simp [Tr.blocks])⟩
end

/- The tree of numbers: balance. -/
section
open Go.RowKit
/-- What a call answers that turns a tree, and counts it. -/
def Turned (t' : Tr Int) (F : List Nat) (w : World) (e : Ending) (w' : World) : Prop := e = .returned (ptr t') ∧ In w' t' ∧ Chg F w w'
theorem Env.turned {w w' : World} {t : Tr Int} {th : Nat} {rt : Value} {n : Int} (he : Env w th rt n) (h : St w t) (hc : Chg t.blocks w w') : Env w' th rt n := he.chg hc h.nl
set_option maxRecDepth 100000 in
set_option maxHeartbeats 1000000 in
theorem Rb.bal_d (g : Nat) (c : Bool) (l r : Tr Int) (x : Int) (th : Nat) (rt : Value) (n : Int) (w : World) (hst : St w (.node g c l x r)) (hd : (Tr.node g c l x r).blocks.Nodup)
    (hn : (Tr.node g c l x r).list.length ≤ 900000) (he : Env w th rt n) (hlr : l.red = false) (hrr : r.red = false) :
    Calls Try.prog 40 #[.pointer (some ⟨th, 0, none⟩), .pointer (some ⟨g, 0, none⟩)] w (Turned (.node g c l x r) (Tr.node g c l x r).blocks w) := by
  have HS := hid hst
  have HE := hid he
  have HD := hid hd
  have HN := hid hn
  obtain ⟨⟨A, m, k, hc⟩, hl, hr⟩ := hst
  have c2 := hc.at2
  have c3 := hc.at3
  have HL := hid hl
  have HR := hid hr
  clear hc hl hr hd hn he
  try simp only [ptr_node] at c2 c3
  have HLR := hid hlr
  have HRR := hid hrr
  clear hlr hrr
  go_enter Try.func40, Try.ntmps40
  go_wp2_with fail
  refine (Rb.isRed (r) _ (HR.out.st)).mono ?_
  rintro e0 w0 ⟨rfl, rfl⟩
  rw [HRR.out]
  go_wp2_with fail
  refine (Rb.isRed (l) _ (HL.out.st)).mono ?_
  rintro e0 w0 ⟨rfl, rfl⟩
  rw [HLR.out]
  go_wp2_with fail
  refine (Rb.isRed (l) _ (HL.out.st)).mono ?_
  rintro e0 w0 ⟨rfl, rfl⟩
  rw [HLR.out]
  go_wp2_with fail
  refine (Rb.count th g c (l) (r) x rt n _ (HS.out) (HD.out) (HN.out) (HE.out)).mono ?_
  rintro e9 w9 ⟨rfl, hi9, hw9⟩
  have HI9 := hid hi9
  have HW9 := hid hw9
  clear hi9 hw9
  go_wp2_with fail
  go_ret
  exact ⟨rfl, HI9.out, HW9.out.mono (by simp [Tr.blocks])⟩
set_option maxRecDepth 100000 in
set_option maxHeartbeats 1000000 in
theorem Rb.bal_a1 (g h : Nat) (c : Bool) (l a b : Tr Int) (x y : Int) (th : Nat) (rt : Value) (n : Int) (w : World) (hst : St w (.node g c l x (.node h true a y b))) (hd : (Tr.node g c l x (.node h true a y b)).blocks.Nodup)
    (hn : (Tr.node g c l x (.node h true a y b)).list.length ≤ 900000) (he : Env w th rt n) (hlr : l.red = false) (hbr : b.red = false) :
    Calls Try.prog 40 #[.pointer (some ⟨th, 0, none⟩), .pointer (some ⟨g, 0, none⟩)] w (Turned (.node h c (.node g true l x a) y b) (Tr.node g c l x (.node h true a y b)).blocks w) := by
  have HS := hid hst
  have HE := hid he
  have HD := hid hd
  have HN := hid hn
  obtain ⟨⟨A, m, k, hc⟩, hl, hr⟩ := hst
  have c2 := hc.at2
  have c3 := hc.at3
  have HC := hid hc
  have HL := hid hl
  have HR := hid hr
  clear hc hl hr hd hn he
  try simp only [ptr_node] at c2 c3
  have HLR := hid hlr
  have HBR := hid hbr
  clear hlr hbr
  go_enter Try.func40, Try.ntmps40
  go_wp2_with fail
  refine (Rb.isRed (.node h true a y b) _ (HR.out.st)).mono ?_
  rintro e0 w0 ⟨rfl, rfl⟩
  simp only [Tr.red]
  go_wp2_with fail
  refine (Rb.isRed (l) _ (HL.out.st)).mono ?_
  rintro e0 w0 ⟨rfl, rfl⟩
  rw [HLR.out]
  go_wp2_with fail
  refine (Rb.turnLeft th g h c true l a b x y rt n _ ⟨⟨A, m, k, HC.out⟩, HL.out, HR.out.st⟩ HD.out HN.out HE.out).mono ?_
  rintro e1 w1 ⟨rfl, hs1, hw1⟩
  have HE1 := hid (HE.out.turned HS.out hw1)
  have HS1 := hid hs1
  have HW1 := hid hw1
  obtain ⟨⟨A1, m1, k1, hc1⟩, hl1, hr1⟩ := hs1
  have z2 := hc1.at2
  have z3 := hc1.at3
  have HL1 := hid hl1
  have HR1 := hid hr1
  obtain ⟨⟨v1, hv1, hcl1⟩, hll1, _⟩ := hl1
  have z4 := hcl1.at2
  have HLL1 := hid hll1
  clear hc1 hr1 hv1 hcl1 hll1 hw1 c2 c3
  try simp only [ptr_node] at z2 z3
  go_wp2_with fail
  refine (Rb.isRed (.node g true l x a) _ (HL1.out.st)).mono ?_
  rintro e0 w0 ⟨rfl, rfl⟩
  simp only [Tr.red]
  go_wp2_with fail
  refine (Rb.isRed (l) _ (HLL1.out.st)).mono ?_
  rintro e0 w0 ⟨rfl, rfl⟩
  rw [HLR.out]
  go_wp2_with fail
  refine (Rb.isRed (.node g true l x a) _ (HL1.out.st)).mono ?_
  rintro e0 w0 ⟨rfl, rfl⟩
  simp only [Tr.red]
  go_wp2_with fail
  refine (Rb.isRed (b) _ (HR1.out.st)).mono ?_
  rintro e0 w0 ⟨rfl, rfl⟩
  rw [HBR.out]
  go_wp2_with fail
  refine (Rb.count th h c (.node g true l x a) (b) y rt n _ (HS1.out) ((Tr.perm_turnLeft (Tr.node g c l x (.node h true a y b))).nodup_iff.2 HD.out) (Nat.le_trans (Nat.le_of_eq (congrArg List.length (Tr.list_turnLeft (Tr.node g c l x (.node h true a y b))))) HN.out) (HE1.out)).mono ?_
  rintro e9 w9 ⟨rfl, hi9, hw9⟩
  have HI9 := hid hi9
  have HW9 := hid hw9
  clear hi9 hw9
  go_wp2_with fail
  go_ret
  exact ⟨rfl, HI9.out, HW1.out.trans HW9.out (fun j hj => Or.inl ((Tr.perm_turnLeft (Tr.node g c l x (.node h true a y b))).mem_iff.1 (by simp at hj; subst hj; simp [Tr.turnLeft, Tr.blocks])))⟩
set_option maxRecDepth 100000 in
set_option maxHeartbeats 1000000 in
theorem Rb.bal_a2 (g h gb : Nat) (c : Bool) (l a lb rb : Tr Int) (x y z : Int) (th : Nat) (rt : Value) (n : Int) (w : World) (hst : St w (.node g c l x (.node h true a y (.node gb true lb z rb)))) (hd : (Tr.node g c l x (.node h true a y (.node gb true lb z rb))).blocks.Nodup)
    (hn : (Tr.node g c l x (.node h true a y (.node gb true lb z rb))).list.length ≤ 900000) (he : Env w th rt n) (hlr : l.red = false) :
    Calls Try.prog 40 #[.pointer (some ⟨th, 0, none⟩), .pointer (some ⟨g, 0, none⟩)] w (Turned (.node h (!c) (.node g false l x a) y (.node gb false lb z rb)) (Tr.node g c l x (.node h true a y (.node gb true lb z rb))).blocks w) := by
  have HS := hid hst
  have HE := hid he
  have HD := hid hd
  have HN := hid hn
  obtain ⟨⟨A, m, k, hc⟩, hl, hr⟩ := hst
  have c2 := hc.at2
  have c3 := hc.at3
  have HC := hid hc
  have HL := hid hl
  have HR := hid hr
  clear hc hl hr hd hn he
  try simp only [ptr_node] at c2 c3
  have HLR := hid hlr
  clear hlr
  go_enter Try.func40, Try.ntmps40
  go_wp2_with fail
  refine (Rb.isRed (.node h true a y (.node gb true lb z rb)) _ (HR.out.st)).mono ?_
  rintro e0 w0 ⟨rfl, rfl⟩
  simp only [Tr.red]
  go_wp2_with fail
  refine (Rb.isRed (l) _ (HL.out.st)).mono ?_
  rintro e0 w0 ⟨rfl, rfl⟩
  rw [HLR.out]
  go_wp2_with fail
  refine (Rb.turnLeft th g h c true l a (.node gb true lb z rb) x y rt n _ ⟨⟨A, m, k, HC.out⟩, HL.out, HR.out.st⟩ HD.out HN.out HE.out).mono ?_
  rintro e1 w1 ⟨rfl, hs1, hw1⟩
  have HE1 := hid (HE.out.turned HS.out hw1)
  have HS1 := hid hs1
  have HW1 := hid hw1
  obtain ⟨⟨A1, m1, k1, hc1⟩, hl1, hr1⟩ := hs1
  have z2 := hc1.at2
  have z3 := hc1.at3
  have HL1 := hid hl1
  have HR1 := hid hr1
  obtain ⟨⟨v1, hv1, hcl1⟩, hll1, _⟩ := hl1
  have z4 := hcl1.at2
  have HLL1 := hid hll1
  clear hc1 hr1 hv1 hcl1 hll1 hw1 c2 c3
  try simp only [ptr_node] at z2 z3
  go_wp2_with fail
  refine (Rb.isRed (.node g true l x a) _ (HL1.out.st)).mono ?_
  rintro e0 w0 ⟨rfl, rfl⟩
  simp only [Tr.red]
  go_wp2_with fail
  refine (Rb.isRed (l) _ (HLL1.out.st)).mono ?_
  rintro e0 w0 ⟨rfl, rfl⟩
  rw [HLR.out]
  go_wp2_with fail
  refine (Rb.isRed (.node g true l x a) _ (HL1.out.st)).mono ?_
  rintro e0 w0 ⟨rfl, rfl⟩
  simp only [Tr.red]
  go_wp2_with fail
  refine (Rb.isRed (.node gb true lb z rb) _ (HR1.out.st)).mono ?_
  rintro e0 w0 ⟨rfl, rfl⟩
  simp only [Tr.red]
  go_wp2_with fail
  refine (Rb.flip h g gb c true true y x z l a lb rb _ HS1.out ((Tr.perm_turnLeft (Tr.node g c l x (.node h true a y (.node gb true lb z rb)))).nodup_iff.2 HD.out)).mono ?_
  rintro e2 w2 ⟨rfl, hs2, hw2⟩
  have HS2 := hid hs2
  have HW2 := hid hw2
  have HE2 := hid (HE1.out.turned HS1.out hw2)
  clear hs2 hw2 z2 z3 z4
  go_wp2_with fail
  refine (Rb.count th h (!c) (.node g false l x a) (.node gb false lb z rb) y rt n _ (HS2.out) ((Tr.perm_turnLeft (Tr.node g c l x (.node h true a y (.node gb true lb z rb)))).nodup_iff.2 HD.out) (Nat.le_trans (Nat.le_of_eq (congrArg List.length (Tr.list_turnLeft (Tr.node g c l x (.node h true a y (.node gb true lb z rb)))))) HN.out) (HE2.out)).mono ?_
  rintro e9 w9 ⟨rfl, hi9, hw9⟩
  have HI9 := hid hi9
  have HW9 := hid hw9
  clear hi9 hw9
  go_wp2_with fail
  go_ret
  exact ⟨rfl, HI9.out, (HW1.out.trans HW2.out (fun j hj => Or.inl ((Tr.perm_turnLeft (Tr.node g c l x (.node h true a y (.node gb true lb z rb)))).mem_iff.1 hj))).trans HW9.out (fun j hj => Or.inl ((Tr.perm_turnLeft (Tr.node g c l x (.node h true a y (.node gb true lb z rb)))).mem_iff.1 (by simp at hj; subst hj; simp [Tr.turnLeft, Tr.blocks])))⟩
set_option maxRecDepth 100000 in
set_option maxHeartbeats 1000000 in
theorem Rb.bal_b (g h gb : Nat) (c : Bool) (lb rb a r : Tr Int) (x y z : Int) (th : Nat) (rt : Value) (n : Int) (w : World) (hst : St w (.node g c (.node h true (.node gb true lb z rb) y a) x r)) (hd : (Tr.node g c (.node h true (.node gb true lb z rb) y a) x r).blocks.Nodup)
    (hn : (Tr.node g c (.node h true (.node gb true lb z rb) y a) x r).list.length ≤ 900000) (he : Env w th rt n) (hrr : r.red = false) :
    Calls Try.prog 40 #[.pointer (some ⟨th, 0, none⟩), .pointer (some ⟨g, 0, none⟩)] w (Turned (.node h (!c) (.node gb false lb z rb) y (.node g false a x r)) (Tr.node g c (.node h true (.node gb true lb z rb) y a) x r).blocks w) := by
  have HS := hid hst
  have HE := hid he
  have HD := hid hd
  have HN := hid hn
  obtain ⟨⟨A, m, k, hc⟩, hl, hr⟩ := hst
  have c2 := hc.at2
  have c3 := hc.at3
  have HL := hid hl
  obtain ⟨⟨v1, _, hcl⟩, hll, _⟩ := hl
  have c4 := hcl.at2
  have HLL := hid hll
  simp only [ptr_node] at c4
  clear hcl hll
  have HR := hid hr
  clear hc hr hd hn he
  try simp only [ptr_node] at c2 c3
  have HRR := hid hrr
  clear hrr
  go_enter Try.func40, Try.ntmps40
  go_wp2_with fail
  refine (Rb.isRed (r) _ (HR.out.st)).mono ?_
  rintro e0 w0 ⟨rfl, rfl⟩
  rw [HRR.out]
  go_wp2_with fail
  refine (Rb.isRed (.node h true (.node gb true lb z rb) y a) _ (HL.out.st)).mono ?_
  rintro e0 w0 ⟨rfl, rfl⟩
  simp only [Tr.red]
  go_wp2_with fail
  refine (Rb.isRed (.node gb true lb z rb) _ (HLL.out.st)).mono ?_
  rintro e0 w0 ⟨rfl, rfl⟩
  simp only [Tr.red]
  go_wp2_with fail
  refine (Rb.turnRight th g h c true (.node gb true lb z rb) a r x y rt n _ HS.out HD.out HN.out HE.out).mono ?_
  rintro e1 w1 ⟨rfl, hs1, hw1⟩
  have HE1 := hid (HE.out.turned HS.out hw1)
  have HS1 := hid hs1
  have HW1 := hid hw1
  obtain ⟨⟨A1, m1, k1, hc1⟩, hl1, hr1⟩ := hs1
  have z2 := hc1.at2
  have z3 := hc1.at3
  have HL1 := hid hl1
  have HR1 := hid hr1
  clear hc1 hr1 hl1 hw1 c2 c3 c4
  try simp only [ptr_node] at z2 z3
  go_wp2_with fail
  refine (Rb.isRed (.node gb true lb z rb) _ (HL1.out.st)).mono ?_
  rintro e0 w0 ⟨rfl, rfl⟩
  simp only [Tr.red]
  go_wp2_with fail
  refine (Rb.isRed (.node g true a x r) _ (HR1.out.st)).mono ?_
  rintro e0 w0 ⟨rfl, rfl⟩
  simp only [Tr.red]
  go_wp2_with fail
  refine (Rb.flip h gb g c true true y z x lb rb a r _ HS1.out ((Tr.perm_turnRight (Tr.node g c (.node h true (.node gb true lb z rb) y a) x r)).nodup_iff.2 HD.out)).mono ?_
  rintro e2 w2 ⟨rfl, hs2, hw2⟩
  have HS2 := hid hs2
  have HW2 := hid hw2
  have HE2 := hid (HE1.out.turned HS1.out hw2)
  clear hs2 hw2 z2 z3
  go_wp2_with fail
  refine (Rb.count th h (!c) (.node gb false lb z rb) (.node g false a x r) y rt n _ (HS2.out) ((Tr.perm_turnRight (Tr.node g c (.node h true (.node gb true lb z rb) y a) x r)).nodup_iff.2 HD.out) (Nat.le_trans (Nat.le_of_eq (congrArg List.length (Tr.list_turnRight (Tr.node g c (.node h true (.node gb true lb z rb) y a) x r)))) HN.out) (HE2.out)).mono ?_
  rintro e9 w9 ⟨rfl, hi9, hw9⟩
  have HI9 := hid hi9
  have HW9 := hid hw9
  clear hi9 hw9
  go_wp2_with fail
  go_ret
  exact ⟨rfl, HI9.out, (HW1.out.trans HW2.out (fun j hj => Or.inl ((Tr.perm_turnRight (Tr.node g c (.node h true (.node gb true lb z rb) y a) x r)).mem_iff.1 hj))).trans HW9.out (fun j hj => Or.inl ((Tr.perm_turnRight (Tr.node g c (.node h true (.node gb true lb z rb) y a) x r)).mem_iff.1 (by simp at hj; subst hj; simp [Tr.turnRight, Tr.blocks])))⟩
set_option maxRecDepth 100000 in
set_option maxHeartbeats 1000000 in
theorem Rb.bal_b2 (g h gb : Nat) (c : Bool) (lb rb a r : Tr Int) (x y z : Int) (th : Nat) (rt : Value) (n : Int) (w : World) (hst : St w (.node g c (.node h true (.node gb true lb z rb) y a) x r)) (hd : (Tr.node g c (.node h true (.node gb true lb z rb) y a) x r).blocks.Nodup)
    (hn : (Tr.node g c (.node h true (.node gb true lb z rb) y a) x r).list.length ≤ 900000) (he : Env w th rt n) (hrr : r.red = true) :
    Calls Try.prog 40 #[.pointer (some ⟨th, 0, none⟩), .pointer (some ⟨g, 0, none⟩)] w (Turned (.node h (!c) (.node gb false lb z rb) y (.node g false a x r)) (Tr.node g c (.node h true (.node gb true lb z rb) y a) x r).blocks w) := by
  have HS := hid hst
  have HE := hid he
  have HD := hid hd
  have HN := hid hn
  obtain ⟨⟨A, m, k, hc⟩, hl, hr⟩ := hst
  have c2 := hc.at2
  have c3 := hc.at3
  have HL := hid hl
  obtain ⟨⟨v1, _, hcl⟩, hll, _⟩ := hl
  have c4 := hcl.at2
  have HLL := hid hll
  simp only [ptr_node] at c4
  clear hcl hll
  have HR := hid hr
  clear hc hr hd hn he
  try simp only [ptr_node] at c2 c3
  have HRR := hid hrr
  clear hrr
  go_enter Try.func40, Try.ntmps40
  go_wp2_with fail
  refine (Rb.isRed (r) _ (HR.out.st)).mono ?_
  rintro e0 w0 ⟨rfl, rfl⟩
  rw [HRR.out]
  go_wp2_with fail
  refine (Rb.isRed (.node h true (.node gb true lb z rb) y a) _ (HL.out.st)).mono ?_
  rintro e0 w0 ⟨rfl, rfl⟩
  simp only [Tr.red]
  go_wp2_with fail
  refine (Rb.isRed (.node h true (.node gb true lb z rb) y a) _ (HL.out.st)).mono ?_
  rintro e0 w0 ⟨rfl, rfl⟩
  simp only [Tr.red]
  go_wp2_with fail
  refine (Rb.isRed (.node gb true lb z rb) _ (HLL.out.st)).mono ?_
  rintro e0 w0 ⟨rfl, rfl⟩
  simp only [Tr.red]
  go_wp2_with fail
  refine (Rb.turnRight th g h c true (.node gb true lb z rb) a r x y rt n _ HS.out HD.out HN.out HE.out).mono ?_
  rintro e1 w1 ⟨rfl, hs1, hw1⟩
  have HE1 := hid (HE.out.turned HS.out hw1)
  have HS1 := hid hs1
  have HW1 := hid hw1
  obtain ⟨⟨A1, m1, k1, hc1⟩, hl1, hr1⟩ := hs1
  have z2 := hc1.at2
  have z3 := hc1.at3
  have HL1 := hid hl1
  have HR1 := hid hr1
  clear hc1 hr1 hl1 hw1 c2 c3 c4
  try simp only [ptr_node] at z2 z3
  go_wp2_with fail
  refine (Rb.isRed (.node gb true lb z rb) _ (HL1.out.st)).mono ?_
  rintro e0 w0 ⟨rfl, rfl⟩
  simp only [Tr.red]
  go_wp2_with fail
  refine (Rb.isRed (.node g true a x r) _ (HR1.out.st)).mono ?_
  rintro e0 w0 ⟨rfl, rfl⟩
  simp only [Tr.red]
  go_wp2_with fail
  refine (Rb.flip h gb g c true true y z x lb rb a r _ HS1.out ((Tr.perm_turnRight (Tr.node g c (.node h true (.node gb true lb z rb) y a) x r)).nodup_iff.2 HD.out)).mono ?_
  rintro e2 w2 ⟨rfl, hs2, hw2⟩
  have HS2 := hid hs2
  have HW2 := hid hw2
  have HE2 := hid (HE1.out.turned HS1.out hw2)
  clear hs2 hw2 z2 z3
  go_wp2_with fail
  refine (Rb.count th h (!c) (.node gb false lb z rb) (.node g false a x r) y rt n _ (HS2.out) ((Tr.perm_turnRight (Tr.node g c (.node h true (.node gb true lb z rb) y a) x r)).nodup_iff.2 HD.out) (Nat.le_trans (Nat.le_of_eq (congrArg List.length (Tr.list_turnRight (Tr.node g c (.node h true (.node gb true lb z rb) y a) x r)))) HN.out) (HE2.out)).mono ?_
  rintro e9 w9 ⟨rfl, hi9, hw9⟩
  have HI9 := hid hi9
  have HW9 := hid hw9
  clear hi9 hw9
  go_wp2_with fail
  go_ret
  exact ⟨rfl, HI9.out, (HW1.out.trans HW2.out (fun j hj => Or.inl ((Tr.perm_turnRight (Tr.node g c (.node h true (.node gb true lb z rb) y a) x r)).mem_iff.1 hj))).trans HW9.out (fun j hj => Or.inl ((Tr.perm_turnRight (Tr.node g c (.node h true (.node gb true lb z rb) y a) x r)).mem_iff.1 (by simp at hj; subst hj; simp [Tr.turnRight, Tr.blocks])))⟩
set_option maxRecDepth 100000 in
set_option maxHeartbeats 1000000 in
theorem Rb.bal_c1 (g h : Nat) (c : Bool) (a b r : Tr Int) (x y : Int) (th : Nat) (rt : Value) (n : Int) (w : World) (hst : St w (.node g c (.node h true b y a) x r)) (hd : (Tr.node g c (.node h true b y a) x r).blocks.Nodup)
    (hn : (Tr.node g c (.node h true b y a) x r).list.length ≤ 900000) (he : Env w th rt n) (hbr : b.red = false) (hrr : r.red = false) :
    Calls Try.prog 40 #[.pointer (some ⟨th, 0, none⟩), .pointer (some ⟨g, 0, none⟩)] w (Turned (.node g c (.node h true b y a) x r) (Tr.node g c (.node h true b y a) x r).blocks w) := by
  have HS := hid hst
  have HE := hid he
  have HD := hid hd
  have HN := hid hn
  obtain ⟨⟨A, m, k, hc⟩, hl, hr⟩ := hst
  have c2 := hc.at2
  have c3 := hc.at3
  have HL := hid hl
  obtain ⟨⟨v1, _, hcl⟩, hll, _⟩ := hl
  have c4 := hcl.at2
  have HLL := hid hll
  clear hcl hll
  have HR := hid hr
  clear hc hr hd hn he
  try simp only [ptr_node] at c2 c3
  have HBR := hid hbr
  have HRR := hid hrr
  clear hbr hrr
  go_enter Try.func40, Try.ntmps40
  go_wp2_with fail
  refine (Rb.isRed (r) _ (HR.out.st)).mono ?_
  rintro e0 w0 ⟨rfl, rfl⟩
  rw [HRR.out]
  go_wp2_with fail
  refine (Rb.isRed (.node h true b y a) _ (HL.out.st)).mono ?_
  rintro e0 w0 ⟨rfl, rfl⟩
  simp only [Tr.red]
  go_wp2_with fail
  refine (Rb.isRed (b) _ (HLL.out.st)).mono ?_
  rintro e0 w0 ⟨rfl, rfl⟩
  rw [HBR.out]
  go_wp2_with fail
  refine (Rb.isRed (.node h true b y a) _ (HL.out.st)).mono ?_
  rintro e0 w0 ⟨rfl, rfl⟩
  simp only [Tr.red]
  go_wp2_with fail
  refine (Rb.isRed (r) _ (HR.out.st)).mono ?_
  rintro e0 w0 ⟨rfl, rfl⟩
  rw [HRR.out]
  go_wp2_with fail
  refine (Rb.count th g c (.node h true b y a) (r) x rt n _ (HS.out) (HD.out) (HN.out) (HE.out)).mono ?_
  rintro e9 w9 ⟨rfl, hi9, hw9⟩
  have HI9 := hid hi9
  have HW9 := hid hw9
  clear hi9 hw9
  go_wp2_with fail
  go_ret
  exact ⟨rfl, HI9.out, HW9.out.mono (by simp [Tr.blocks])⟩
set_option maxRecDepth 100000 in
set_option maxHeartbeats 1000000 in
theorem Rb.bal_c2 (g h gb : Nat) (c : Bool) (lb rb a b : Tr Int) (x y z : Int) (th : Nat) (rt : Value) (n : Int) (w : World) (hst : St w (.node g c (.node h true b y a) x (.node gb true lb z rb))) (hd : (Tr.node g c (.node h true b y a) x (.node gb true lb z rb)).blocks.Nodup)
    (hn : (Tr.node g c (.node h true b y a) x (.node gb true lb z rb)).list.length ≤ 900000) (he : Env w th rt n) (hbr : b.red = false) :
    Calls Try.prog 40 #[.pointer (some ⟨th, 0, none⟩), .pointer (some ⟨g, 0, none⟩)] w (Turned (.node g (!c) (.node h false b y a) x (.node gb false lb z rb)) (Tr.node g c (.node h true b y a) x (.node gb true lb z rb)).blocks w) := by
  have HS := hid hst
  have HE := hid he
  have HD := hid hd
  have HN := hid hn
  obtain ⟨⟨A, m, k, hc⟩, hl, hr⟩ := hst
  have c2 := hc.at2
  have c3 := hc.at3
  have HL := hid hl
  obtain ⟨⟨v1, _, hcl⟩, hll, _⟩ := hl
  have c4 := hcl.at2
  have HLL := hid hll
  clear hcl hll
  have HR := hid hr
  clear hc hr hd hn he
  try simp only [ptr_node] at c2 c3
  have HBR := hid hbr
  clear hbr
  go_enter Try.func40, Try.ntmps40
  go_wp2_with fail
  refine (Rb.isRed (.node gb true lb z rb) _ (HR.out.st)).mono ?_
  rintro e0 w0 ⟨rfl, rfl⟩
  simp only [Tr.red]
  go_wp2_with fail
  refine (Rb.isRed (.node h true b y a) _ (HL.out.st)).mono ?_
  rintro e0 w0 ⟨rfl, rfl⟩
  simp only [Tr.red]
  go_wp2_with fail
  refine (Rb.isRed (.node h true b y a) _ (HL.out.st)).mono ?_
  rintro e0 w0 ⟨rfl, rfl⟩
  simp only [Tr.red]
  go_wp2_with fail
  refine (Rb.isRed (b) _ (HLL.out.st)).mono ?_
  rintro e0 w0 ⟨rfl, rfl⟩
  rw [HBR.out]
  go_wp2_with fail
  refine (Rb.isRed (.node h true b y a) _ (HL.out.st)).mono ?_
  rintro e0 w0 ⟨rfl, rfl⟩
  simp only [Tr.red]
  go_wp2_with fail
  refine (Rb.isRed (.node gb true lb z rb) _ (HR.out.st)).mono ?_
  rintro e0 w0 ⟨rfl, rfl⟩
  simp only [Tr.red]
  go_wp2_with fail
  refine (Rb.flip g h gb c true true x y z b a lb rb _ HS.out HD.out).mono ?_
  rintro e2 w2 ⟨rfl, hs2, hw2⟩
  have HS2 := hid hs2
  have HW2 := hid hw2
  have HE2 := hid (HE.out.turned HS.out hw2)
  clear hs2 hw2 c2 c3 c4
  go_wp2_with fail
  refine (Rb.count th g (!c) (.node h false b y a) (.node gb false lb z rb) x rt n _ (HS2.out) (HD.out) (HN.out) (HE2.out)).mono ?_
  rintro e9 w9 ⟨rfl, hi9, hw9⟩
  have HI9 := hid hi9
  have HW9 := hid hw9
  clear hi9 hw9
  go_wp2_with fail
  go_ret
  exact ⟨rfl, HI9.out, HW2.out.trans HW9.out (fun j hj => Or.inl (by simp at hj; subst hj; simp [Tr.blocks]))⟩
theorem Rb.balance (g : Nat) (c : Bool) (l r : Tr Int) (x : Int) (th : Nat) (rt : Value) (n : Int) (w : World) (hst : St w (.node g c l x r)) (hd : (Tr.node g c l x r).blocks.Nodup)
    (hn : (Tr.node g c l x r).list.length ≤ 900000) (he : Env w th rt n) :
    Calls Try.prog 40 #[.pointer (some ⟨th, 0, none⟩), .pointer (some ⟨g, 0, none⟩)] w (Turned (Tr.balance (.node g c l x r)) (Tr.node g c l x r).blocks w) := by
  cases hl : l.red with
  | false =>
    cases hr : r.red with
    | false =>
      rw [Tr.bal_same hl hr]
      exact Rb.bal_d g c l r x th rt n w hst hd hn he hl hr
    | true =>
      cases r with
      | nil => simp [Tr.red] at hr
      | node h d a y b =>
        simp only [Tr.red] at hr
        subst hr
        cases hb : b.red with
        | false =>
          have e : Tr.balance (.node g c l x (.node h true a y b)) = .node h c (.node g true l x a) y b := by simp [Tr.balance, Tr.bal1, Tr.bal2, Tr.bal3, Tr.red_node, Tr.left_node, Tr.right_node, Tr.turnLeft, hl, hb]
          rw [e]
          exact Rb.bal_a1 g h c l a b x y th rt n w hst hd hn he hl hb
        | true =>
          cases b with
          | nil => simp [Tr.red] at hb
          | node gb d lb z rb =>
            simp only [Tr.red] at hb
            subst hb
            have e : Tr.balance (.node g c l x (.node h true a y (.node gb true lb z rb))) = .node h (!c) (.node g false l x a) y (.node gb false lb z rb) := by simp [Tr.balance, Tr.bal1, Tr.bal2, Tr.bal3, Tr.red_node, Tr.left_node, Tr.right_node, Tr.turnLeft, Tr.flip, Tr.neg, hl]
            rw [e]
            exact Rb.bal_a2 g h gb c l a lb rb x y z th rt n w hst hd hn he hl
  | true =>
    cases l with
    | nil => simp [Tr.red] at hl
    | node h d b y a =>
      simp only [Tr.red] at hl
      subst hl
      cases hb : b.red with
      | false =>
        cases hr : r.red with
        | false =>
          have e : Tr.balance (.node g c (.node h true b y a) x r) = .node g c (.node h true b y a) x r := by simp [Tr.balance, Tr.bal1, Tr.bal2, Tr.bal3, Tr.red_node, Tr.left_node, Tr.right_node, hb, hr]
          rw [e]
          exact Rb.bal_c1 g h c a b r x y th rt n w hst hd hn he hb hr
        | true =>
          cases r with
          | nil => simp [Tr.red] at hr
          | node gb d lb z rb =>
            simp only [Tr.red] at hr
            subst hr
            have e : Tr.balance (.node g c (.node h true b y a) x (.node gb true lb z rb)) = .node g (!c) (.node h false b y a) x (.node gb false lb z rb) := by simp [Tr.balance, Tr.bal1, Tr.bal2, Tr.bal3, Tr.red_node, Tr.left_node, Tr.right_node, Tr.flip, Tr.neg, hb]
            rw [e]
            exact Rb.bal_c2 g h gb c lb rb a b x y z th rt n w hst hd hn he hb
      | true =>
        cases b with
        | nil => simp [Tr.red] at hb
        | node gb d lb z rb =>
          simp only [Tr.red] at hb
          subst hb
          have e : Tr.balance (.node g c (.node h true (.node gb true lb z rb) y a) x r) = .node h (!c) (.node gb false lb z rb) y (.node g false a x r) := by simp [Tr.balance, Tr.bal1, Tr.bal2, Tr.bal3, Tr.red_node, Tr.left_node, Tr.right_node, Tr.turnRight, Tr.flip, Tr.neg]
          rw [e]
          cases hr : r.red with
          | false => exact Rb.bal_b g h gb c lb rb a r x y z th rt n w hst hd hn he hr
          | true => exact Rb.bal_b2 g h gb c lb rb a r x y z th rt n w hst hd hn he hr
end

/- The tree of numbers: a thing comes. -/
section
open Go.RowKit
theorem Law6.lessI (a b : Int) (w : World) : Calls Try.prog 21 #[.int .i64 a, .int .i64 b] w fun e w' => e = .returned (.bool (ltI a b)) ∧ w = w' := Law6.less a b w
/-- What put answers. -/
def Puts (x : Int) (t : Tr Int) (w : World) (e : Ending) (w' : World) : Prop := ∃ k, w.heap.size ≤ k ∧ e = .returned (ptr (Tr.put ltI k x t)) ∧ In w' (Tr.put ltI k x t) ∧ Chg t.blocks w w'
/-- A node whose left part has turned. -/
theorem left_turned {w w1 : World} {g : Nat} {c : Bool} {l r l' : Tr Int} {y : Int} {A : Option Addr} {m k : Nat} {th : Nat} {rt : Value} {n : Int} (hc : Cs w g [.int .i64 y, .slice A m k, ptr l, ptr r, .bool c]) (hl : In w l) (hr : In w r) (he : Env w th rt n)
    (hd : (Tr.node g c l y r).blocks.Nodup) (hi : In w1 l') (hw : Chg l.blocks w w1) (hg : g ∉ l'.blocks) :
    Cs w1 g [.int .i64 y, .slice A m k, ptr l, ptr r, .bool c] ∧ St (w1.setCell ⟨g, 2, none⟩ (ptr l')) (.node g c l' y r) ∧ Env (w1.setCell ⟨g, 2, none⟩ (ptr l')) th rt n ∧ Chg (g :: l.blocks) w (w1.setCell ⟨g, 2, none⟩ (ptr l')) := by
  obtain ⟨d1, d2, d3, d4, d5⟩ := nodup_node hd
  have c1 := hc.chg hw d1
  have hn : Nl w1 g := ⟨_, _, _, c1.at1⟩
  have hr1 := hr.chg hw hl.nl (fun j hj hj' => d5 j hj' hj)
  have he1 := he.chg hw hl.nl
  refine ⟨c1, ⟨⟨A, m, k, c1.set 2 (by simp) _⟩, hi.far hn hg _ _, hr1.far hn d2 _ _⟩, ?_, ?_⟩
  · exact he1.chg (F := [g]) ((Chg.refl _ _).set (Or.inl (by simp)) _ _) (fun j hj => by simp at hj; subst hj; exact hn)
  · exact (hw.mono (fun j hj => by simp [hj])).set (Or.inl (by simp)) _ _
theorem right_turned {w w1 : World} {g : Nat} {c : Bool} {l r r' : Tr Int} {y : Int} {A : Option Addr} {m k : Nat} {th : Nat} {rt : Value} {n : Int} (hc : Cs w g [.int .i64 y, .slice A m k, ptr l, ptr r, .bool c]) (hl : In w l) (hr : In w r) (he : Env w th rt n)
    (hd : (Tr.node g c l y r).blocks.Nodup) (hi : In w1 r') (hw : Chg r.blocks w w1) (hg : g ∉ r'.blocks) :
    Cs w1 g [.int .i64 y, .slice A m k, ptr l, ptr r, .bool c] ∧ St (w1.setCell ⟨g, 3, none⟩ (ptr r')) (.node g c l y r') ∧ Env (w1.setCell ⟨g, 3, none⟩ (ptr r')) th rt n ∧ Chg (g :: r.blocks) w (w1.setCell ⟨g, 3, none⟩ (ptr r')) := by
  obtain ⟨d1, d2, d3, d4, d5⟩ := nodup_node hd
  have c1 := hc.chg hw d2
  have hn : Nl w1 g := ⟨_, _, _, c1.at1⟩
  have hl1 := hl.chg hw hr.nl (fun j hj hj' => d5 j hj hj')
  have he1 := he.chg hw hr.nl
  refine ⟨c1, ⟨⟨A, m, k, c1.set 3 (by simp) _⟩, hl1.far hn d1 _ _, hi.far hn hg _ _⟩, ?_, ?_⟩
  · exact he1.chg (F := [g]) ((Chg.refl _ _).set (Or.inl (by simp)) _ _) (fun j hj => by simp at hj; subst hj; exact hn)
  · exact (hw.mono (fun j hj => by simp [hj])).set (Or.inl (by simp)) _ _
theorem nodup_left {g : Nat} {c : Bool} {l r l' : Tr Int} {x : Int} (h : (Tr.node g c l x r).blocks.Nodup) (hl : l'.blocks.Nodup) (ho : ∀ j ∈ l'.blocks, j ∈ l.blocks ∨ (j ∉ (Tr.node g c l x r).blocks)) : (Tr.node g c l' x r).blocks.Nodup := by
  obtain ⟨d1, d2, d3, d4, d5⟩ := nodup_node h
  simp only [Tr.blocks, List.mem_cons, List.mem_append, not_or] at ho
  refine List.nodup_cons.2 ⟨fun hg => ?_, List.nodup_append.2 ⟨hl, d4, fun a ha b hb e => ?_⟩⟩
  · rcases List.mem_append.1 hg with h1 | h1
    · rcases ho g h1 with h2 | h2
      · exact d1 h2
      · exact h2.1 rfl
    · exact d2 h1
  · subst e
    rcases ho a ha with h2 | h2
    · exact d5 a h2 hb
    · exact h2.2.2 hb
theorem nodup_right {g : Nat} {c : Bool} {l r r' : Tr Int} {x : Int} (h : (Tr.node g c l x r).blocks.Nodup) (hl : r'.blocks.Nodup) (ho : ∀ j ∈ r'.blocks, j ∈ r.blocks ∨ (j ∉ (Tr.node g c l x r).blocks)) : (Tr.node g c l x r').blocks.Nodup := by
  obtain ⟨d1, d2, d3, d4, d5⟩ := nodup_node h
  simp only [Tr.blocks, List.mem_cons, List.mem_append, not_or] at ho
  refine List.nodup_cons.2 ⟨fun hg => ?_, List.nodup_append.2 ⟨d3, hl, fun a ha b hb e => ?_⟩⟩
  · rcases List.mem_append.1 hg with h1 | h1
    · exact d1 h1
    · rcases ho g h1 with h2 | h2
      · exact d2 h2
      · exact h2.1 rfl
  · subst e
    rcases ho a hb with h2 | h2
    · exact d5 a ha h2
    · exact h2.2.1 ha
set_option maxRecDepth 100000 in
set_option maxHeartbeats 1000000 in
theorem Rb.put (th : Nat) (rt : Value) (n x : Int) (t : Tr Int) : ∀ w, In w t → t.blocks.Nodup → t.list.length < 900000 → Env w th rt n →
    Calls Try.prog 24 #[.pointer (some ⟨th, 0, none⟩), ptr t, .int .i64 x] w (Puts x t w) := by
  induction t with
  | nil =>
    intro w _ _ _ he
    have HS : Hid (St (w.alloc (.cells #[.int .i64 x, .slice none 0 0, .pointer none, .pointer none, .bool true] 47)) (.node w.heap.size true .nil x .nil)) := hid ⟨⟨_, _, _, Cs.alloc_new w _ [.int .i64 x, .slice none 0 0, .pointer none, .pointer none, .bool true]⟩, trivial, trivial⟩
    have HE := hid (he.below ((Below.refl w.heap.size w).alloc (Nat.le_refl _) (.cells #[.int .i64 x, .slice none 0 0, .pointer none, .pointer none, .bool true] 47)))
    clear he
    simp only [ptr_nil]
    go_enter Try.func24, Try.ntmps24
    go_wp2_with fail
    refine (Rb.balance w.heap.size true .nil .nil x th rt n _ HS.out (by simp [Tr.blocks]) (by simp [Tr.list]) HE.out).mono ?_
    rintro e w1 ⟨rfl, hi, hw⟩
    have HI := hid hi
    have HW := hid hw
    clear hi hw
    have e : Tr.balance (.node w.heap.size true .nil x .nil) = Tr.put ltI w.heap.size x .nil := rfl
    rw [e] at HI ⊢
    go_wp2_with fail
    go_ret
    exact ⟨w.heap.size, Nat.le_refl _, rfl, HI.out, ((Chg.below ((Below.refl w.heap.size w).alloc (Nat.le_refl _) _)).trans HW.out (by simp [Tr.blocks]))⟩
  | node g c l y r ihl ihr =>
    intro w h hd hn he
    have HI := hid h
    have HD := hid hd
    have HE := hid he
    have HN := hid hn
    have IHL := hid ihl
    have IHR := hid ihr
    simp only [Tr.list, List.length_append, List.length_cons] at hn
    obtain ⟨⟨v, hv, hc⟩, hl, hr⟩ := id h
    obtain ⟨A, m, k, rfl⟩ := hv.form
    have HC := hid (And.intro hc (And.intro hl hr))
    obtain ⟨_, _, t0, _⟩ := id he
    have e0 := t0.at0
    have c0 := hc.at0
    have c2 := hc.at2
    have c3 := hc.at3
    have HLT : ∀ z ∈ (Tr.node g c l y r).blocks, z < w.heap.size := fun z hz => (h.nl z hz).lt
    have HLT := hid HLT
    clear h hd he hc hl hr hv t0 ihl ihr
    simp only [ptr_node]
    cases hlt : ltI x y with
    | true =>
      go_enter Try.func24, Try.ntmps24
      go_wp2_with fail
      go_still_tail 9, (by kernel_rfl)
      change wpList _ _ _ _ _ w.drew
      go_wp2_with fail
      refine (Law6.lessI x y _).mono ?_
      rintro e w1 ⟨rfl, rfl⟩
      rw [hlt]
      go_wp2_with fail
      have HCd := hid (And.intro HC.out.1.drew (And.intro HC.out.2.1.drew HC.out.2.2.drew))
      have HEd := hid (HE.out.below (Below.refl _ _).drew)
      obtain ⟨d1, d2, d3, d4, d5⟩ := nodup_node HD.out
      have HD3 := hid d3
      clear d1 d2 d3 d4 d5
      refine (IHL.out _ HCd.out.2.1 HD3.out (by omega) HEd.out).mono ?_
      rintro e w1 ⟨k', hk, rfl, hi, hw⟩
      have hp := Tr.perm_put ltI k' x l
      have HP := hid hp
      have hout : k' ∉ (Tr.node g c l y r).blocks := fun hm => by
        have h1 := HLT.out _ hm
        have h2 : w.heap.size ≤ k' := hk
        omega
      have hg : g ∉ (Tr.put ltI k' x l).blocks := fun hm => by
        rcases List.mem_cons.1 (hp.mem_iff.1 hm) with rfl | h1
        · exact hout (by simp [Tr.blocks])
        · have := nodup_node HD.out; exact this.1 h1
      have hnd : (Tr.put ltI k' x l).blocks.Nodup := hp.nodup_iff.2 (List.nodup_cons.2 ⟨fun hm => hout (by simp [Tr.blocks, hm]), HD3.out⟩)
      have HT := hid (left_turned HCd.out.1 HCd.out.2.1 HCd.out.2.2 HEd.out HD.out hi hw hg)
      have HND := hid (nodup_left (l' := Tr.put ltI k' x l) HD.out hnd (fun j hj => by
        rcases List.mem_cons.1 (hp.mem_iff.1 hj) with rfl | h1
        · exact Or.inr hout
        · exact Or.inl h1))
      have HLN := hid (Tr.blocks_length (Tr.put ltI k' x l))
      have HK := hid hk
      clear hi hw hp hout hg hnd hk
      have q2 := HT.out.1.at2
      have q3 := HT.out.1.fr2
      have HEQ : Hid (Tr.put ltI k' x (.node g c l y r) = Tr.balance (.node g c (Tr.put ltI k' x l) y r)) := hid (by simp [Tr.put, hlt])
      generalize Tr.put ltI k' x l = L' at *
      obtain ⟨u, hu⟩ := ptr_form L'
      have HU := hid hu
      rw [hu]
      clear hu
      go_wp2_with fail
      have HW : Hid (∃ W, W = w1.setCell ⟨g, 2, none⟩ (.pointer u) ∧ St W (.node g c L' y r) ∧ Env W th rt n ∧ Chg (g :: l.blocks) w W) := hid ⟨_, rfl, by rw [← HU.out]; exact HT.out.2.1, by rw [← HU.out]; exact HT.out.2.2.1, by rw [← HU.out]; exact (Chg.below (Below.refl _ _).drew).trans HT.out.2.2.2 (fun j hj => Or.inl hj)⟩
      obtain ⟨W, hW, HF⟩ := HW
      rw [← hW]
      clear hW q2 q3
      have HF := hid HF
      refine (Rb.balance g c L' r y th rt n W HF.out.1 HND.out (by
        have h1 := HLN.out
        rw [HP.out.length_eq, List.length_cons, Tr.blocks_length] at h1
        simp only [Tr.list, List.length_append, List.length_cons]
        omega) HF.out.2.1).mono ?_
      rintro e w2 ⟨rfl, hi, hw⟩
      have HI2 := hid hi
      have HW2 := hid hw
      clear hi hw
      go_wp2_with fail
      go_ret
      refine ⟨k', HK.out, by rw [HEQ.out]; rfl, by rw [HEQ.out]; exact HI2.out, (HF.out.2.2.mono (fun j hj => ?_)).trans HW2.out (fun j hj => ?_)⟩
      · rcases List.mem_cons.1 hj with rfl | h1
        · simp [Tr.blocks]
        · simp [Tr.blocks, h1]
      · simp only [Tr.blocks, List.mem_cons, List.mem_append] at hj ⊢
        rcases hj with h1 | h1 | h1
        · exact Or.inl (Or.inl h1)
        · rcases List.mem_cons.1 (HP.out.mem_iff.1 h1) with rfl | h2
          · exact Or.inr HK.out
          · exact Or.inl (Or.inr (Or.inl h2))
        · exact Or.inl (Or.inr (Or.inr h1))
    | false =>
      go_enter Try.func24, Try.ntmps24
      go_wp2_with fail
      go_still_tail 9, (by kernel_rfl)
      change wpList _ _ _ _ _ w.drew
      go_wp2_with fail
      refine (Law6.lessI x y _).mono ?_
      rintro e w1 ⟨rfl, rfl⟩
      rw [hlt]
      go_wp2_with fail
      have HCd := hid (And.intro HC.out.1.drew (And.intro HC.out.2.1.drew HC.out.2.2.drew))
      have HEd := hid (HE.out.below (Below.refl _ _).drew)
      obtain ⟨d1, d2, d3, d4, d5⟩ := nodup_node HD.out
      have HD3 := hid d4
      clear d1 d2 d3 d4 d5
      refine (IHR.out _ HCd.out.2.2 HD3.out (by omega) HEd.out).mono ?_
      rintro e w1 ⟨k', hk, rfl, hi, hw⟩
      have hp := Tr.perm_put ltI k' x r
      have HP := hid hp
      have hout : k' ∉ (Tr.node g c l y r).blocks := fun hm => by
        have h1 := HLT.out _ hm
        have h2 : w.heap.size ≤ k' := hk
        omega
      have hg : g ∉ (Tr.put ltI k' x r).blocks := fun hm => by
        rcases List.mem_cons.1 (hp.mem_iff.1 hm) with rfl | h1
        · exact hout (by simp [Tr.blocks])
        · have := nodup_node HD.out; exact this.2.1 h1
      have hnd : (Tr.put ltI k' x r).blocks.Nodup := hp.nodup_iff.2 (List.nodup_cons.2 ⟨fun hm => hout (by simp [Tr.blocks, hm]), HD3.out⟩)
      have HT := hid (right_turned HCd.out.1 HCd.out.2.1 HCd.out.2.2 HEd.out HD.out hi hw hg)
      have HND := hid (nodup_right (r' := Tr.put ltI k' x r) HD.out hnd (fun j hj => by
        rcases List.mem_cons.1 (hp.mem_iff.1 hj) with rfl | h1
        · exact Or.inr hout
        · exact Or.inl h1))
      have HLN := hid (Tr.blocks_length (Tr.put ltI k' x r))
      have HK := hid hk
      clear hi hw hp hout hg hnd hk
      have q2 := HT.out.1.at3
      have q3 := HT.out.1.fr3
      have HEQ : Hid (Tr.put ltI k' x (.node g c l y r) = Tr.balance (.node g c l y (Tr.put ltI k' x r))) := hid (by simp [Tr.put, hlt])
      generalize Tr.put ltI k' x r = L' at *
      obtain ⟨u, hu⟩ := ptr_form L'
      have HU := hid hu
      rw [hu]
      clear hu
      go_wp2_with fail
      have HW : Hid (∃ W, W = w1.setCell ⟨g, 3, none⟩ (.pointer u) ∧ St W (.node g c l y L') ∧ Env W th rt n ∧ Chg (g :: r.blocks) w W) := hid ⟨_, rfl, by rw [← HU.out]; exact HT.out.2.1, by rw [← HU.out]; exact HT.out.2.2.1, by rw [← HU.out]; exact (Chg.below (Below.refl _ _).drew).trans HT.out.2.2.2 (fun j hj => Or.inl hj)⟩
      obtain ⟨W, hW, HF⟩ := HW
      rw [← hW]
      clear hW q2 q3
      have HF := hid HF
      refine (Rb.balance g c l L' y th rt n W HF.out.1 HND.out (by
        have h1 := HLN.out
        rw [HP.out.length_eq, List.length_cons, Tr.blocks_length] at h1
        simp only [Tr.list, List.length_append, List.length_cons]
        omega) HF.out.2.1).mono ?_
      rintro e w2 ⟨rfl, hi, hw⟩
      have HI2 := hid hi
      have HW2 := hid hw
      clear hi hw
      go_wp2_with fail
      go_ret
      refine ⟨k', HK.out, by rw [HEQ.out]; rfl, by rw [HEQ.out]; exact HI2.out, (HF.out.2.2.mono (fun j hj => ?_)).trans HW2.out (fun j hj => ?_)⟩
      · rcases List.mem_cons.1 hj with rfl | h1
        · simp [Tr.blocks]
        · simp [Tr.blocks, h1]
      · simp only [Tr.blocks, List.mem_cons, List.mem_append] at hj ⊢
        rcases hj with h1 | h1 | h1
        · exact Or.inl (Or.inl h1)
        · exact Or.inl (Or.inr (Or.inl h1))
        · rcases List.mem_cons.1 (HP.out.mem_iff.1 h1) with rfl | h2
          · exact Or.inr HK.out
          · exact Or.inl (Or.inr (Or.inr h2))
end

/- The tree of numbers: lending. -/
section
open Go.RowKit
/-- A node's right part has turned by itself. -/
theorem StL.set {w w1 : World} {g : Nat} {c : Bool} {l r r' : Tr Int} {y : Int} {th : Nat} {rt : Value} {n : Int} (hst : St w (.node g c l y r)) (he : Env w th rt n)
    (hd : (Tr.node g c l y r).blocks.Nodup) (hi : St w1 r') (hw : Chg r.blocks w w1) (hp : r'.blocks.Perm r.blocks) (hr' : ∀ W, Nl w1 g → g ∉ r'.blocks → W = w1.setCell ⟨g, 3, none⟩ (ptr r') → St W r') :
    w1.cell? ⟨g, 3, none⟩ = some (ptr r) ∧ w1.frozen? ⟨g, 3, none⟩ = false ∧ StL (w1.setCell ⟨g, 3, none⟩ (ptr r')) (.node g c l y r') ∧ Env (w1.setCell ⟨g, 3, none⟩ (ptr r')) th rt n ∧ Chg (Tr.node g c l y r).blocks w (w1.setCell ⟨g, 3, none⟩ (ptr r')) := by
  obtain ⟨d1, d2, d3, d4, d5⟩ := nodup_node hd
  obtain ⟨⟨A, m, k, hc⟩, hl, hr⟩ := hst
  have c1 := hc.chg hw d2
  have hn : Nl w1 g := ⟨_, _, _, c1.at1⟩
  have hg : g ∉ r'.blocks := fun h => d2 (hp.mem_iff.1 h)
  have hl1 := hl.chg hw hr.nl (fun j hj hj' => d5 j hj hj')
  have he1 := he.chg hw hr.nl
  refine ⟨c1.at3, c1.fr3, ⟨⟨A, m, k, c1.set 3 (by simp) _⟩, hl1.far hn d1 _ _, hr' _ hn hg rfl⟩, ?_, ?_⟩
  · exact he1.chg (F := [g]) ((Chg.refl _ _).set (Or.inl (by simp)) _ _) (fun j hj => by simp at hj; subst hj; exact hn)
  · exact (hw.mono (fun j hj => by simp [Tr.blocks, hj])).set (Or.inl (by simp [Tr.blocks])) _ _
theorem St.far {w : World} {t : Tr Int} (h : St w t) {g : Nat} (hn : Nl w g) (hg : g ∉ t.blocks) (o : Nat) (u : Value) : St (w.setCell ⟨g, o, none⟩ u) t := by
  cases t with
  | nil => trivial
  | node g' c l x r =>
    simp only [Tr.blocks, List.mem_cons, List.mem_append, not_or] at hg
    obtain ⟨⟨A, m, k, hc⟩, hl, hr⟩ := h
    exact ⟨⟨A, m, k, hc.far hg.1 _ _⟩, hl.far hn hg.2.1 _ _, hr.far hn hg.2.2 _ _⟩
set_option maxRecDepth 100000 in
set_option maxHeartbeats 1000000 in
theorem Rb.lendLeft1 (g gl : Nat) (c cl : Bool) (ll rl r : Tr Int) (x xl : Int) (th : Nat) (rt : Value) (n : Int) (w : World) (hst : St w (.node g c (.node gl cl ll xl rl) x r)) (hd : (Tr.node g c (.node gl cl ll xl rl) x r).blocks.Nodup)
    (hn : (Tr.node g c (.node gl cl ll xl rl) x r).list.length ≤ 900000) (he : Env w th rt n) (hld : Tr.lend (.node gl cl ll xl rl) = true) :
    Calls Try.prog 41 #[.pointer (some ⟨th, 0, none⟩), .pointer (some ⟨g, 0, none⟩)] w (Turns (ptr (Tr.node g c (.node gl cl ll xl rl) x r)) (.node g c (.node gl cl ll xl rl) x r) (Tr.node g c (.node gl cl ll xl rl) x r).blocks w) := by
  have HS := hid hst
  have HE := hid he
  have HD := hid hd
  have HN := hid hn
  obtain ⟨⟨A, m, k, hc⟩, hl, hr⟩ := hst
  have c2 := hc.at2
  have c3 := hc.at3
  have HL := hid hl
  have HR := hid hr
  clear hc hl hr hd hn he
  try simp only [ptr_node] at c2 c3 ⊢
  have HLD := hid hld
  clear hld
  go_enter Try.func41, Try.ntmps41
  go_wp2_with fail
  refine (Rb.canLend gl cl (ll) (rl) xl _ (HL.out)).mono ?_
  rintro e0 w0 ⟨rfl, rfl⟩
  rw [HLD.out]
  go_wp2_with fail
  go_ret
  exact ⟨rfl, HS.out, Chg.refl _ _⟩
set_option maxRecDepth 100000 in
set_option maxHeartbeats 1000000 in
theorem Rb.lendRight1 (g gr : Nat) (c cr : Bool) (l lr rr : Tr Int) (x xr : Int) (th : Nat) (rt : Value) (n : Int) (w : World) (hst : St w (.node g c l x (.node gr cr lr xr rr))) (hd : (Tr.node g c l x (.node gr cr lr xr rr)).blocks.Nodup)
    (hn : (Tr.node g c l x (.node gr cr lr xr rr)).list.length ≤ 900000) (he : Env w th rt n) (hld : Tr.lend (.node gr cr lr xr rr) = true) :
    Calls Try.prog 44 #[.pointer (some ⟨th, 0, none⟩), .pointer (some ⟨g, 0, none⟩)] w (Turns (ptr (Tr.node g c l x (.node gr cr lr xr rr))) (.node g c l x (.node gr cr lr xr rr)) (Tr.node g c l x (.node gr cr lr xr rr)).blocks w) := by
  have HS := hid hst
  have HE := hid he
  have HD := hid hd
  have HN := hid hn
  obtain ⟨⟨A, m, k, hc⟩, hl, hr⟩ := hst
  have c2 := hc.at2
  have c3 := hc.at3
  have HL := hid hl
  have HR := hid hr
  clear hc hl hr hd hn he
  try simp only [ptr_node] at c2 c3 ⊢
  have HLD := hid hld
  clear hld
  go_enter Try.func44, Try.ntmps44
  go_wp2_with fail
  refine (Rb.canLend gr cr (lr) (rr) xr _ (HR.out)).mono ?_
  rintro e0 w0 ⟨rfl, rfl⟩
  rw [HLD.out]
  go_wp2_with fail
  go_ret
  exact ⟨rfl, HS.out, Chg.refl _ _⟩
set_option maxRecDepth 100000 in
set_option maxHeartbeats 1000000 in
theorem Rb.lendLeft2 (g gl gr : Nat) (c cl cr : Bool) (ll rl lr rr : Tr Int) (x xl xr : Int) (th : Nat) (rt : Value) (n : Int) (w : World) (hst : St w (.node g c (.node gl cl ll xl rl) x (.node gr cr lr xr rr))) (hd : (Tr.node g c (.node gl cl ll xl rl) x (.node gr cr lr xr rr)).blocks.Nodup)
    (hn : (Tr.node g c (.node gl cl ll xl rl) x (.node gr cr lr xr rr)).list.length ≤ 900000) (he : Env w th rt n) (hld : Tr.lend (.node gl cl ll xl rl) = false) (hb : lr.red = false) :
    Calls Try.prog 41 #[.pointer (some ⟨th, 0, none⟩), .pointer (some ⟨g, 0, none⟩)] w (Turns (ptr (Tr.node g (!c) (.node gl (!cl) ll xl rl) x (.node gr (!cr) lr xr rr))) (.node g (!c) (.node gl (!cl) ll xl rl) x (.node gr (!cr) lr xr rr)) (Tr.node g c (.node gl cl ll xl rl) x (.node gr cr lr xr rr)).blocks w) := by
  have HS := hid hst
  have HE := hid he
  have HD := hid hd
  have HN := hid hn
  obtain ⟨⟨A, m, k, hc⟩, hl, hr⟩ := hst
  have c2 := hc.at2
  have c3 := hc.at3
  have HL := hid hl
  have HR := hid hr
  clear hc hl hr hd hn he
  try simp only [ptr_node] at c2 c3 ⊢
  have HLD := hid hld
  have HB := hid hb
  clear hld hb
  go_enter Try.func41, Try.ntmps41
  go_wp2_with fail
  refine (Rb.canLend gl cl (ll) (rl) xl _ (HL.out)).mono ?_
  rintro e0 w0 ⟨rfl, rfl⟩
  rw [HLD.out]
  go_wp2_with fail
  refine (Rb.flip g gl gr c cl cr x xl xr ll rl lr rr _ (HS.out) (HD.out)).mono ?_
  rintro e1 w1 ⟨rfl, hs1, hw1⟩
  have HS1 := hid hs1
  have HW1 := hid hw1
  have HE1 := hid (HE.out.turned (HS.out) hw1)
  obtain ⟨⟨A1, m1, k1, hc1⟩, hl1, hr1⟩ := hs1
  have z2 := hc1.at2
  have z3 := hc1.at3
  have HL1 := hid hl1
  have HR1 := hid hr1
  obtain ⟨⟨v1, _, hc2⟩, hll1, _⟩ := hr1
  have z4 := hc2.at2
  have HLL1 := hid hll1
  clear hc1 hl1 hc2 hll1 hw1 c2 c3
  try simp only [Tr.neg, ptr_node] at z2
  try simp only [Tr.neg, ptr_node] at z3
  try simp only [Tr.neg, ptr_node] at z4
  go_wp2_with fail
  refine (Rb.isRed (lr) _ (HLL1.out.st)).mono ?_
  rintro e0 w0 ⟨rfl, rfl⟩
  rw [HB.out]
  go_wp2_with fail
  go_ret
  exact ⟨rfl, HS1.out, HW1.out⟩
set_option maxRecDepth 100000 in
set_option maxHeartbeats 1000000 in
theorem Rb.lendRight2 (g gl gr : Nat) (c cl cr : Bool) (ll rl lr rr : Tr Int) (x xl xr : Int) (th : Nat) (rt : Value) (n : Int) (w : World) (hst : St w (.node g c (.node gl cl ll xl rl) x (.node gr cr lr xr rr))) (hd : (Tr.node g c (.node gl cl ll xl rl) x (.node gr cr lr xr rr)).blocks.Nodup)
    (hn : (Tr.node g c (.node gl cl ll xl rl) x (.node gr cr lr xr rr)).list.length ≤ 900000) (he : Env w th rt n) (hld : Tr.lend (.node gr cr lr xr rr) = false) (hb : ll.red = false) :
    Calls Try.prog 44 #[.pointer (some ⟨th, 0, none⟩), .pointer (some ⟨g, 0, none⟩)] w (Turns (ptr (Tr.node g (!c) (.node gl (!cl) ll xl rl) x (.node gr (!cr) lr xr rr))) (.node g (!c) (.node gl (!cl) ll xl rl) x (.node gr (!cr) lr xr rr)) (Tr.node g c (.node gl cl ll xl rl) x (.node gr cr lr xr rr)).blocks w) := by
  have HS := hid hst
  have HE := hid he
  have HD := hid hd
  have HN := hid hn
  obtain ⟨⟨A, m, k, hc⟩, hl, hr⟩ := hst
  have c2 := hc.at2
  have c3 := hc.at3
  have HL := hid hl
  have HR := hid hr
  clear hc hl hr hd hn he
  try simp only [ptr_node] at c2 c3 ⊢
  have HLD := hid hld
  have HB := hid hb
  clear hld hb
  go_enter Try.func44, Try.ntmps44
  go_wp2_with fail
  refine (Rb.canLend gr cr (lr) (rr) xr _ (HR.out)).mono ?_
  rintro e0 w0 ⟨rfl, rfl⟩
  rw [HLD.out]
  go_wp2_with fail
  refine (Rb.flip g gl gr c cl cr x xl xr ll rl lr rr _ (HS.out) (HD.out)).mono ?_
  rintro e1 w1 ⟨rfl, hs1, hw1⟩
  have HS1 := hid hs1
  have HW1 := hid hw1
  have HE1 := hid (HE.out.turned (HS.out) hw1)
  obtain ⟨⟨A1, m1, k1, hc1⟩, hl1, hr1⟩ := hs1
  have z2 := hc1.at2
  have z3 := hc1.at3
  have HL1 := hid hl1
  have HR1 := hid hr1
  obtain ⟨⟨v1, _, hc2⟩, hll1, _⟩ := hl1
  have z4 := hc2.at2
  have HLL1 := hid hll1
  clear hc1 hr1 hc2 hll1 hw1 c2 c3
  try simp only [Tr.neg, ptr_node] at z2
  try simp only [Tr.neg, ptr_node] at z3
  try simp only [Tr.neg, ptr_node] at z4
  go_wp2_with fail
  refine (Rb.isRed (ll) _ (HLL1.out.st)).mono ?_
  rintro e0 w0 ⟨rfl, rfl⟩
  rw [HB.out]
  go_wp2_with fail
  go_ret
  exact ⟨rfl, HS1.out, HW1.out⟩
set_option maxRecDepth 100000 in
set_option maxHeartbeats 1000000 in
theorem Rb.lendRight3 (g gl gr h : Nat) (c cl cr : Bool) (a b rl lr rr : Tr Int) (x xl xr z : Int) (th : Nat) (rt : Value) (n : Int) (w : World) (hst : St w (.node g c (.node gl cl (.node h true a z b) xl rl) x (.node gr cr lr xr rr))) (hd : (Tr.node g c (.node gl cl (.node h true a z b) xl rl) x (.node gr cr lr xr rr)).blocks.Nodup)
    (hn : (Tr.node g c (.node gl cl (.node h true a z b) xl rl) x (.node gr cr lr xr rr)).list.length ≤ 900000) (he : Env w th rt n) (hld : Tr.lend (.node gr cr lr xr rr) = false) :
    Calls Try.prog 44 #[.pointer (some ⟨th, 0, none⟩), .pointer (some ⟨g, 0, none⟩)] w (Turns (ptr (Tr.node gl c (.node h false a z b) xl (.node g false rl x (.node gr (!cr) lr xr rr)))) (.node gl c (.node h false a z b) xl (.node g false rl x (.node gr (!cr) lr xr rr))) (Tr.node g c (.node gl cl (.node h true a z b) xl rl) x (.node gr cr lr xr rr)).blocks w) := by
  have HS := hid hst
  have HE := hid he
  have HD := hid hd
  have HN := hid hn
  obtain ⟨⟨A, m, k, hc⟩, hl, hr⟩ := hst
  have c2 := hc.at2
  have c3 := hc.at3
  have HL := hid hl
  have HR := hid hr
  clear hc hl hr hd hn he
  try simp only [ptr_node] at c2 c3 ⊢
  have HLD := hid hld
  clear hld
  go_enter Try.func44, Try.ntmps44
  go_wp2_with fail
  refine (Rb.canLend gr cr (lr) (rr) xr _ (HR.out)).mono ?_
  rintro e0 w0 ⟨rfl, rfl⟩
  rw [HLD.out]
  go_wp2_with fail
  refine (Rb.flip g gl gr c cl cr x xl xr (.node h true a z b) rl lr rr _ (HS.out) (HD.out)).mono ?_
  rintro e1 w1 ⟨rfl, hs1, hw1⟩
  have HS1 := hid hs1
  have HW1 := hid hw1
  have HE1 := hid (HE.out.turned (HS.out) hw1)
  obtain ⟨⟨A1, m1, k1, hc1⟩, hl1, hr1⟩ := hs1
  have z2 := hc1.at2
  have z3 := hc1.at3
  have HL1 := hid hl1
  have HR1 := hid hr1
  obtain ⟨⟨v1, _, hc2⟩, hll1, _⟩ := hl1
  have z4 := hc2.at2
  have HLL1 := hid hll1
  clear hc1 hr1 hc2 hll1 hw1 c2 c3
  try simp only [Tr.neg, ptr_node] at z2
  try simp only [Tr.neg, ptr_node] at z3
  try simp only [Tr.neg, ptr_node] at z4
  go_wp2_with fail
  refine (Rb.isRed (.node h true a z b) _ (HLL1.out.st)).mono ?_
  rintro e0 w0 ⟨rfl, rfl⟩
  simp only [Tr.red]
  go_wp2_with fail
  refine (Rb.turnRight th g gl (!c) (!cl) (.node h true a z b) rl (.node gr (!cr) lr xr rr) x xl rt n _ HS1.out HD.out HN.out HE1.out).mono ?_
  rintro e2 w2 ⟨rfl, hs2, hw2⟩
  have HS2 := hid hs2
  have HW2 := hid hw2
  clear hs2 hw2 z2 z3 z4
  have hp : (Tr.node gl (!c) (.node h true a z b) xl (.node g true rl x (.node gr (!cr) lr xr rr))).blocks.Perm (Tr.node g (!c) (.node gl (!cl) (.node h true a z b) xl rl) x (.node gr (!cr) lr xr rr)).blocks := Tr.perm_turnRight (Tr.node g (!c) (.node gl (!cl) (.node h true a z b) xl rl) x (.node gr (!cr) lr xr rr))
  have HP := hid hp
  clear hp
  go_wp2_with fail
  refine (Rb.flip gl h g (!c) true true xl z x a b rl (.node gr (!cr) lr xr rr) _ HS2.out (HP.out.nodup_iff.2 HD.out)).mono ?_
  rintro e3 w3 ⟨rfl, hs3, hw3⟩
  have HS3 := hid hs3
  have HW3 := hid hw3
  clear hs3 hw3
  go_wp2_with fail
  go_ret
  refine ⟨rfl, ?_, (HW1.out.trans HW2.out (fun j hj => Or.inl hj)).trans HW3.out (fun j hj => Or.inl (HP.out.mem_iff.1 hj))⟩
  have := HS3.out
  simpa [Tr.flip, Tr.neg] using this
set_option maxRecDepth 100000 in
set_option maxHeartbeats 1000000 in
theorem Rb.lendLeft3 (g gl gr h : Nat) (c cl cr : Bool) (ll rl a b rr : Tr Int) (x xl xr z : Int) (th : Nat) (rt : Value) (n : Int) (w : World) (hst : St w (.node g c (.node gl cl ll xl rl) x (.node gr cr (.node h true a z b) xr rr))) (hd : (Tr.node g c (.node gl cl ll xl rl) x (.node gr cr (.node h true a z b) xr rr)).blocks.Nodup)
    (hn : (Tr.node g c (.node gl cl ll xl rl) x (.node gr cr (.node h true a z b) xr rr)).list.length ≤ 900000) (he : Env w th rt n) (hld : Tr.lend (.node gl cl ll xl rl) = false) :
    Calls Try.prog 41 #[.pointer (some ⟨th, 0, none⟩), .pointer (some ⟨g, 0, none⟩)] w (Turns (ptr (Tr.node h c (.node g false (.node gl (!cl) ll xl rl) x a) z (.node gr false b xr rr))) (.node h c (.node g false (.node gl (!cl) ll xl rl) x a) z (.node gr false b xr rr)) (Tr.node g c (.node gl cl ll xl rl) x (.node gr cr (.node h true a z b) xr rr)).blocks w) := by
  have HS := hid hst
  have HE := hid he
  have HD := hid hd
  have HN := hid hn
  obtain ⟨⟨A, m, k, hc⟩, hl, hr⟩ := hst
  have c2 := hc.at2
  have c3 := hc.at3
  have HL := hid hl
  have HR := hid hr
  clear hc hl hr hd hn he
  try simp only [ptr_node] at c2 c3 ⊢
  have HLD := hid hld
  clear hld
  go_enter Try.func41, Try.ntmps41
  go_wp2_with fail
  refine (Rb.canLend gl cl (ll) (rl) xl _ (HL.out)).mono ?_
  rintro e0 w0 ⟨rfl, rfl⟩
  rw [HLD.out]
  go_wp2_with fail
  refine (Rb.flip g gl gr c cl cr x xl xr ll rl (.node h true a z b) rr _ (HS.out) (HD.out)).mono ?_
  rintro e1 w1 ⟨rfl, hs1, hw1⟩
  have HS1 := hid hs1
  have HW1 := hid hw1
  have HE1 := hid (HE.out.turned (HS.out) hw1)
  obtain ⟨⟨A1, m1, k1, hc1⟩, hl1, hr1⟩ := hs1
  have z2 := hc1.at2
  have z3 := hc1.at3
  have HL1 := hid hl1
  have HR1 := hid hr1
  obtain ⟨⟨v1, _, hc2⟩, hll1, _⟩ := hr1
  have z4 := hc2.at2
  have HLL1 := hid hll1
  clear hc1 hl1 hc2 hll1 hw1 c2 c3
  try simp only [Tr.neg, ptr_node] at z2
  try simp only [Tr.neg, ptr_node] at z3
  try simp only [Tr.neg, ptr_node] at z4
  go_wp2_with fail
  refine (Rb.isRed (.node h true a z b) _ (HLL1.out.st)).mono ?_
  rintro e0 w0 ⟨rfl, rfl⟩
  simp only [Tr.red]
  have HD4 := hid (nodup_node HD.out).2.2.2.1
  go_wp2_with fail
  refine (Rb.turnRight th gr h (!cr) true a b rr xr z rt n _ HR1.out.st HD4.out (by have := HN.out; simp only [Tr.list, List.length_append, List.length_cons] at this ⊢; omega) HE1.out).mono ?_
  rintro e2 w2 ⟨rfl, hs2, hw2⟩
  have hp : (Tr.node h (!cr) a z (.node gr true b xr rr)).blocks.Perm (Tr.node gr (!cr) (.node h true a z b) xr rr).blocks := Tr.perm_turnRight (Tr.node gr (!cr) (.node h true a z b) xr rr)
  have HP := hid hp
  have HX := hid (StL.set HS1.out HE1.out HD.out hs2 hw2 hp (fun W hn hg e => by rw [e]; exact hs2.far hn hg _ _))
  clear hs2 hw2 z2 z3 z4 hp
  have q2 := HX.out.1
  have q3 := HX.out.2.1
  try simp only [Tr.neg, ptr_node] at q2
  go_wp2_with fail
  have HW : Hid (∃ W, W = w2.setCell ⟨g, 3, none⟩ (.pointer (some ⟨h, 0, none⟩)) ∧ StL W (.node g (!c) (.node gl (!cl) ll xl rl) x (.node h (!cr) a z (.node gr true b xr rr))) ∧ Env W th rt n ∧ Chg (Tr.node g (!c) (.node gl (!cl) ll xl rl) x (.node gr (!cr) (.node h true a z b) xr rr)).blocks w1 W) := hid ⟨_, rfl, HX.out.2.2.1, HX.out.2.2.2.1, HX.out.2.2.2.2⟩
  obtain ⟨W, hW, HF⟩ := HW
  rw [← hW]
  clear hW q2 q3
  have HF := hid HF
  have HP2 : Hid ((Tr.node g (!c) (.node gl (!cl) ll xl rl) x (.node h (!cr) a z (.node gr true b xr rr))).blocks.Perm (Tr.node g c (.node gl cl ll xl rl) x (.node gr cr (.node h true a z b) xr rr)).blocks) := hid ((HP.out.append_left _).cons g)
  refine (Rb.turnLeft th g h (!c) (!cr) (.node gl (!cl) ll xl rl) a (.node gr true b xr rr) x z rt n W HF.out.1 (HP2.out.nodup_iff.2 HD.out) (by have := HN.out; simp only [Tr.list, List.length_append, List.length_cons] at this ⊢; omega) HF.out.2.1).mono ?_
  rintro e4 w4 ⟨rfl, hs4, hw4⟩
  have HS4 := hid hs4
  have HW4 := hid hw4
  clear hs4 hw4
  have HP3 : Hid ((Tr.node h (!c) (.node g true (.node gl (!cl) ll xl rl) x a) z (.node gr true b xr rr)).blocks.Perm (Tr.node g c (.node gl cl ll xl rl) x (.node gr cr (.node h true a z b) xr rr)).blocks) := hid ((Tr.perm_turnLeft (Tr.node g (!c) (.node gl (!cl) ll xl rl) x (.node h (!cr) a z (.node gr true b xr rr)))).trans HP2.out)
  go_wp2_with fail
  refine (Rb.flip h g gr (!c) true true z x xr (.node gl (!cl) ll xl rl) a b rr _ HS4.out (HP3.out.nodup_iff.2 HD.out)).mono ?_
  rintro e5 w5 ⟨rfl, hs5, hw5⟩
  have HS5 := hid hs5
  have HW5 := hid hw5
  clear hs5 hw5
  go_wp2_with fail
  go_ret
  refine ⟨rfl, ?_, ((HW1.out.trans HF.out.2.2 (fun j hj => Or.inl hj)).trans HW4.out (fun j hj => Or.inl (HP2.out.mem_iff.1 hj))).trans HW5.out (fun j hj => Or.inl (HP3.out.mem_iff.1 hj))⟩
  have := HS5.out
  simpa [Tr.flip, Tr.neg] using this
theorem Rb.lendLeft (g : Nat) (c : Bool) (l r : Tr Int) (x : Int) (th : Nat) (rt : Value) (n : Int) (w : World) (hst : St w (.node g c l x r)) (hd : (Tr.node g c l x r).blocks.Nodup)
    (hn : (Tr.node g c l x r).list.length ≤ 900000) (he : Env w th rt n) (hl : l ≠ .nil) (hr : l.lend = false → r ≠ .nil) :
    Calls Try.prog 41 #[.pointer (some ⟨th, 0, none⟩), .pointer (some ⟨g, 0, none⟩)] w (Turns (ptr (Tr.lendLeft (.node g c l x r))) (Tr.lendLeft (.node g c l x r)) (Tr.node g c l x r).blocks w) := by
  cases l with
  | nil => exact absurd rfl hl
  | node gl cl ll xl rl =>
    cases hld : Tr.lend (.node gl cl ll xl rl) with
    | true =>
      have e : Tr.lendLeft (.node g c (.node gl cl ll xl rl) x r) = .node g c (.node gl cl ll xl rl) x r := by simp [Tr.lendLeft, Tr.left_node, hld]
      rw [e]
      exact Rb.lendLeft1 g gl c cl ll rl r x xl th rt n w hst hd hn he hld
    | false =>
      cases r with
      | nil => exact absurd rfl (hr hld)
      | node gr cr lr xr rr =>
        cases hb : lr.red with
        | false =>
          have e : Tr.lendLeft (.node g c (.node gl cl ll xl rl) x (.node gr cr lr xr rr)) = .node g (!c) (.node gl (!cl) ll xl rl) x (.node gr (!cr) lr xr rr) := by simp [Tr.lendLeft, Tr.lendLeft2, Tr.left_node, Tr.right_node, hld, Tr.flip, Tr.neg, hb]
          rw [e]
          exact Rb.lendLeft2 g gl gr c cl cr ll rl lr rr x xl xr th rt n w hst hd hn he hld hb
        | true =>
          cases lr with
          | nil => simp [Tr.red] at hb
          | node h d a z b =>
            simp only [Tr.red] at hb
            subst hb
            have e : Tr.lendLeft (.node g c (.node gl cl ll xl rl) x (.node gr cr (.node h true a z b) xr rr)) = .node h c (.node g false (.node gl (!cl) ll xl rl) x a) z (.node gr false b xr rr) := by simp [Tr.lendLeft, Tr.lendLeft2, Tr.left_node, Tr.right_node, hld, Tr.flip, Tr.neg, Tr.red_node, Tr.turnLeft, Tr.turnRight, Tr.setRight]
            rw [e]
            exact Rb.lendLeft3 g gl gr h c cl cr ll rl a b rr x xl xr z th rt n w hst hd hn he hld
theorem Rb.lendRight (g : Nat) (c : Bool) (l r : Tr Int) (x : Int) (th : Nat) (rt : Value) (n : Int) (w : World) (hst : St w (.node g c l x r)) (hd : (Tr.node g c l x r).blocks.Nodup)
    (hn : (Tr.node g c l x r).list.length ≤ 900000) (he : Env w th rt n) (hr : r ≠ .nil) (hl : r.lend = false → l ≠ .nil) :
    Calls Try.prog 44 #[.pointer (some ⟨th, 0, none⟩), .pointer (some ⟨g, 0, none⟩)] w (Turns (ptr (Tr.lendRight (.node g c l x r))) (Tr.lendRight (.node g c l x r)) (Tr.node g c l x r).blocks w) := by
  cases r with
  | nil => exact absurd rfl hr
  | node gr cr lr xr rr =>
    cases hld : Tr.lend (.node gr cr lr xr rr) with
    | true =>
      have e : Tr.lendRight (.node g c l x (.node gr cr lr xr rr)) = .node g c l x (.node gr cr lr xr rr) := by simp [Tr.lendRight, Tr.right_node, hld]
      rw [e]
      exact Rb.lendRight1 g gr c cr l lr rr x xr th rt n w hst hd hn he hld
    | false =>
      cases l with
      | nil => exact absurd rfl (hl hld)
      | node gl cl ll xl rl =>
        cases hb : ll.red with
        | false =>
          have e : Tr.lendRight (.node g c (.node gl cl ll xl rl) x (.node gr cr lr xr rr)) = .node g (!c) (.node gl (!cl) ll xl rl) x (.node gr (!cr) lr xr rr) := by simp [Tr.lendRight, Tr.lendRight2, Tr.left_node, Tr.right_node, hld, Tr.flip, Tr.neg, hb]
          rw [e]
          exact Rb.lendRight2 g gl gr c cl cr ll rl lr rr x xl xr th rt n w hst hd hn he hld hb
        | true =>
          cases ll with
          | nil => simp [Tr.red] at hb
          | node h d a z b =>
            simp only [Tr.red] at hb
            subst hb
            have e : Tr.lendRight (.node g c (.node gl cl (.node h true a z b) xl rl) x (.node gr cr lr xr rr)) = .node gl c (.node h false a z b) xl (.node g false rl x (.node gr (!cr) lr xr rr)) := by simp [Tr.lendRight, Tr.lendRight2, Tr.left_node, Tr.right_node, hld, Tr.flip, Tr.neg, Tr.red_node, Tr.turnRight]
            rw [e]
            exact Rb.lendRight3 g gl gr h c cl cr a b rl lr rr x xl xr z th rt n w hst hd hn he hld
end

/- The tree of numbers: the least thing goes. -/
section
open Go.RowKit
set_option maxHeartbeats 1000000 in
theorem Rb.least (t : Tr Int) (w : World) (h : In w t) (hn : t ≠ .nil) (d : Int) : Calls Try.prog 45 #[ptr t] w fun e w' => e = .returned (.int .i64 (t.least d)) ∧ w = w' := by
  have HI := hid h
  have HN := hid hn
  clear h hn
  go_enter Try.func45, Try.ntmps45
  go_wp2_with fail
  go_loopg [0] t.size (fun s a wr => wr = w ∧ ∃ (g : Nat) (c : Bool) (l r : Tr Int) (y : Int), a = .pointer (some ⟨g, 0, none⟩) ∧ s = (Tr.node g c l y r).size ∧ In w (.node g c l y r) ∧ (Tr.node g c l y r).least d = t.least d)
  case atStart =>
    cases t with
    | nil => exact absurd rfl HN.out
    | node g c l y r => exact ⟨rfl, g, c, l, r, y, rfl, rfl, HI.out, rfl⟩
  case round =>
    obtain ⟨rfl, g, c, l, r, y, rfl, hs, hi, he⟩ := hrel
    have HS := hid hs
    have HIn := hid hi
    have HE := hid he
    obtain ⟨⟨v, _, hc⟩, hl, _⟩ := hi
    have c0 := hc.at0
    have c2 := hc.at2
    have HL := hid hl
    clear hs he hc hl
    cases l with
    | nil =>
      simp only [ptr_nil] at c2
      go_wp2_with fail
      go_ret
      exact ⟨by rw [← HE.out]; rfl, rfl⟩
    | node gl cl ll yl rl =>
      simp only [ptr_node] at c2
      go_wp2_with fail
      go_roundg (Tr.node gl cl ll yl rl).size
      case measure => have := HS.out; simp only [Tr.size] at this ⊢; omega
      case rel => exact ⟨rfl, gl, cl, ll, rl, yl, rfl, rfl, HL.out, by rw [← HE.out]; rfl⟩
theorem Tr.right_ne {α : Type} {g : Nat} {c : Bool} {l r : Tr α} {x : α} {h : Nat} (hv : Tr.V (.node g c l x r) h) (hn : l ≠ .nil) : l.lend = false → r ≠ .nil := by
  intro hl
  cases c with
  | true =>
    rcases Tr.lendL (g := g) (c := true) (x := x) hv.1 hv.2.1 hn hv.2.2.2 with ⟨a, b⟩ | ⟨a, b, k, e, d, f, f2, f3, f4, f5, f6⟩ | ⟨a, b, k, e, g2, g3, a', z, b', y', e', er, f, f2, f3, f4, f5⟩
    · rw [a] at hl; exact absurd hl (by simp)
    · exact f6
    · exact f5
  | false =>
    obtain ⟨k, rfl, v1, v2, v3⟩ := hv
    rcases Tr.lendL (g := g) (c := true) (x := x) v1 v2 hn v3 with ⟨a, b⟩ | ⟨a, b, k, e, d, f, f2, f3, f4, f5, f6⟩ | ⟨a, b, k, e, g2, g3, a', z, b', y', e', er, f, f2, f3, f4, f5⟩
    · rw [a] at hl; exact absurd hl (by simp)
    · exact f6
    · exact f5
theorem Tr.left_pre' {α : Type} {g : Nat} {c : Bool} {l r : Tr α} {x : α} {h : Nat} (hv : Tr.V (.node g c l x r) h) (hn : l ≠ .nil) : ∃ k, Tr.V (Tr.node g c l x r).lendLeft.left k ∧ (Tr.node g c l x r).lendLeft.left.lend = true := by
  cases c with
  | true => exact Tr.left_pre hv.1 hv.2.1 hn hv.2.2.2
  | false => obtain ⟨k, rfl, v1, v2, v3⟩ := hv; exact Tr.left_pre v1 v2 hn v3
set_option maxRecDepth 100000 in
set_option maxHeartbeats 2000000 in
theorem Rb.removeLeast (th : Nat) (rt : Value) (n : Int) (N : Nat) : ∀ (t : Tr Int) (w : World) (h : Nat), t.size ≤ N → In w t → t.blocks.Nodup → t.list.length ≤ 900000 → Env w th rt n → Tr.V t h → t.lend = true →
    Calls Try.prog 46 #[.pointer (some ⟨th, 0, none⟩), ptr t] w (Turned (Tr.remL N t) t.blocks w) := by
  induction N with
  | zero =>
    intro t w h hs _ _ _ _ _ hl
    cases t with
    | nil => simp [Tr.lend] at hl
    | node g c l x r => simp only [Tr.size] at hs; omega
  | succ N ih =>
    intro t w h hs hi hd hn he hv hle
    cases t with
    | nil => simp [Tr.lend] at hle
    | node g c l x r =>
      have IH := hid ih
      have HI := hid hi
      have HD := hid hd
      have HN := hid hn
      have HE := hid he
      have HV := hid hv
      have HS := hid hs
      obtain ⟨⟨v, hvs, hc⟩, hl, hr⟩ := hi
      have c2 := hc.at2
      clear ih hd hn he hv hs hvs hc hl hr hle
      simp only [ptr_node]
      cases hln : l.isNil with
      | true =>
        rw [Tr.isNil_iff] at hln
        subst hln
        simp only [ptr_nil] at c2
        go_enter Try.func46, Try.ntmps46
        go_wp2_with fail
        go_ret
        have e : Tr.remL (N + 1) (.node g c .nil x r) = .nil := by simp [Tr.remL, Tr.left_node, Tr.isNil]
        rw [e]
        exact ⟨rfl, trivial, Chg.refl _ _⟩
      | false =>
        rw [Tr.isNil_no] at hln
        have HLN := hid hln
        have HEQ : Hid (Tr.remL (N + 1) (.node g c l x r) = Tr.balance ((Tr.node g c l x r).lendLeft.setLeft (Tr.remL N (Tr.node g c l x r).lendLeft.left))) := hid (by
          rw [Tr.remL, Tr.left_node, (Tr.isNil_no l).2 hln]; rfl)
        have HPRE := hid (Tr.left_pre' HV.out hln)
        have HSZ : Hid ((Tr.node g c l x r).lendLeft.left.size ≤ N) := hid (by
          have := Tr.size_left_lt _ (Tr.ne_nil_of_list (Tr.list_lendLeft (Tr.node g c l x r)) (by simp))
          rw [Tr.size_of_list (Tr.list_lendLeft (Tr.node g c l x r))] at this
          have := HS.out
          omega)
        have HNE := hid (Tr.ne_nil_of_list (Tr.list_lendLeft (Tr.node g c l x r)) (by simp))
        have HPM := hid (Tr.perm_lendLeft (Tr.node g c l x r))
        have HLL := hid (Tr.list_lendLeft (Tr.node g c l x r))
        obtain ⟨gl, cl, ll, xl, rl, rfl⟩ : ∃ gl cl ll xl rl, l = .node gl cl ll xl rl := by cases l with
          | nil => exact absurd rfl hln
          | node gl cl ll xl rl => exact ⟨_, _, _, _, _, rfl⟩
        simp only [ptr_node] at c2
        clear hln
        go_enter Try.func46, Try.ntmps46
        go_wp2_with fail
        refine (Rb.lendLeft g c _ r x th rt n _ HI.out.st HD.out HN.out HE.out HLN.out (Tr.right_ne HV.out HLN.out)).mono ?_
        rintro e1 w1 ⟨rfl, hs1, hw1⟩
        have HE1 := hid (HE.out.turned HI.out.st hw1)
        have HW1 := hid hw1
        have HS1 := hid hs1
        clear hs1 hw1 c2
        generalize (Tr.node g c (.node gl cl ll xl rl) x r).lendLeft = T at *
        cases T with
        | nil => exact absurd rfl HNE.out
        | node g' c' l' y' r' =>
          obtain ⟨⟨A, m, k, hc⟩, hl, hr⟩ := id HS1.out
          have z2 := hc.at2
          have HC := hid (And.intro hc (And.intro hl hr))
          have HD1 := hid (HPM.out.nodup_iff.2 HD.out)
          have HN1 := hid (show l'.list.length + (r'.list.length + 1) ≤ 900000 from by
            have := HN.out; rw [← HLL.out] at this; simpa [Tr.list] using this)
          clear hc hl hr
          simp only [ptr_node]
          go_wp2_with fail
          obtain ⟨k', p1, p2⟩ := HPRE.out
          have HP := hid (And.intro p1 p2)
          clear p1 p2
          refine (IH.out l' _ k' HSZ.out HC.out.2.1 (nodup_node HD1.out).2.2.1 (by have := HN1.out; omega) HE1.out HP.out.1 HP.out.2).mono ?_
          rintro e2 w2 ⟨rfl, hi2, hw2⟩
          have hof := Tr.Of.remL N l'
          have hg : g' ∉ (Tr.remL N l').blocks := fun hm => (nodup_node HD1.out).1 (hof.2 _ hm)
          have HT := hid (left_turned HC.out.1 HC.out.2.1 HC.out.2.2 HE1.out HD1.out hi2 hw2 hg)
          have HND := hid (nodup_left (l' := Tr.remL N l') HD1.out (hof.1 (nodup_node HD1.out).2.2.1) (fun j hj => Or.inl (hof.2 j hj)))
          have HOF := hid hof
          have HLEN : Hid ((Tr.remL N l').list.length ≤ l'.list.length) := hid (by
            rw [((Tr.remL_main N l' HSZ.out) k' HP.out.1 HP.out.2).2.2]; simp)
          clear hi2 hw2 hof hg z2
          have q2 := HT.out.1.at2
          have q3 := HT.out.1.fr2
          have HEQ2 : Hid (Tr.remL (N + 1) (.node g c (.node gl cl ll xl rl) x r) = Tr.balance (.node g' c' (Tr.remL N l') y' r')) := HEQ
          generalize Tr.remL N l' = L' at *
          obtain ⟨u, hu⟩ := ptr_form L'
          have HU := hid hu
          rw [hu]
          clear hu
          go_wp2_with fail
          have HW : Hid (∃ W, W = w2.setCell ⟨g', 2, none⟩ (.pointer u) ∧ St W (.node g' c' L' y' r') ∧ Env W th rt n ∧ Chg (g' :: l'.blocks) w1 W) := hid ⟨_, rfl, by rw [← HU.out]; exact HT.out.2.1, by rw [← HU.out]; exact HT.out.2.2.1, by rw [← HU.out]; exact HT.out.2.2.2⟩
          obtain ⟨W, hW, HF⟩ := HW
          rw [← hW]
          clear hW q2 q3
          have HF := hid HF
          refine (Rb.balance g' c' L' r' y' th rt n W HF.out.1 HND.out (by have := HN1.out; have := HLEN.out; simp only [Tr.list, List.length_append, List.length_cons]; omega) HF.out.2.1).mono ?_
          rintro e3 w3 ⟨rfl, hi3, hw3⟩
          have HI3 := hid hi3
          have HW3 := hid hw3
          clear hi3 hw3
          go_wp2_with fail
          go_ret
          refine ⟨by rw [HEQ2.out]; rfl, by rw [HEQ2.out]; exact HI3.out, (HW1.out.trans HF.out.2.2 (fun j hj => Or.inl (HPM.out.mem_iff.1 ?_))).trans HW3.out (fun j hj => Or.inl (HPM.out.mem_iff.1 ?_))⟩
          · rcases List.mem_cons.1 hj with rfl | h1
            · simp [Tr.blocks]
            · simp [Tr.blocks, h1]
          · simp only [Tr.blocks, List.mem_cons, List.mem_append] at hj ⊢
            exact hj.imp id (Or.imp (HOF.out.2 j) id)
end

/- The tree of numbers: a thing goes. -/
section
open Go.RowKit
theorem Tr.up1_red {α : Type} {g : Nat} {c : Bool} {l r : Tr α} {x : α} (h : l.red = true) : (Tr.node g c l x r).up1 = (Tr.node g c l x r).turnRight := by simp [Tr.up1, Tr.left_node, h]
theorem Tr.rem_left {α : Type} {lt : α → α → Bool} {N : Nat} {x y : α} {g : Nat} {c : Bool} {l r : Tr α} (h : lt x y = true) :
    Tr.rem lt (N + 1) x (.node g c l y r) = Tr.balance ((Tr.node g c l y r).lendLeft.setLeft (Tr.rem lt N x (Tr.node g c l y r).lendLeft.left)) := by simp only [Tr.rem, h, if_true]
theorem Tr.rem_nil {α : Type} {lt : α → α → Bool} {N : Nat} {x y : α} {g : Nat} {c : Bool} {l r : Tr α} (h : lt x y = false) (hn : (Tr.node g c l y r).up1.right = .nil) :
    Tr.rem lt (N + 1) x (.node g c l y r) = .nil := by simp [Tr.rem, h, hn, Tr.isNil]
theorem Tr.rem_right {α : Type} {lt : α → α → Bool} {N : Nat} {x y : α} {g : Nat} {c : Bool} {l r : Tr α} (h : lt x y = false) (hn : (Tr.node g c l y r).up1.right ≠ .nil) (h2 : lt ((Tr.node g c l y r).up1.lendRight.thing x) x = true) :
    Tr.rem lt (N + 1) x (.node g c l y r) = Tr.balance ((Tr.node g c l y r).up1.lendRight.setRight (Tr.rem lt N x (Tr.node g c l y r).up1.lendRight.right)) := by
  rw [← Tr.isNil_no] at hn
  simp only [Tr.rem, h, hn, h2, if_true, if_false, Bool.false_eq_true]
theorem Tr.rem_here {α : Type} {lt : α → α → Bool} {N : Nat} {x y : α} {g : Nat} {c : Bool} {l r : Tr α} (h : lt x y = false) (hn : (Tr.node g c l y r).up1.right ≠ .nil) (h2 : lt ((Tr.node g c l y r).up1.lendRight.thing x) x = false) :
    Tr.rem lt (N + 1) x (.node g c l y r) = Tr.balance (((Tr.node g c l y r).up1.lendRight.setRight (Tr.remL N (Tr.node g c l y r).up1.lendRight.right)).setThing ((Tr.node g c l y r).up1.lendRight.right.least ((Tr.node g c l y r).up1.lendRight.thing x))) := by
  rw [← Tr.isNil_no] at hn
  simp only [Tr.rem, h, hn, h2, if_false, Bool.false_eq_true]
theorem Has.len {α : Type} {A B : List α} {m : α} {t u : Tr α} (h : t.list = A ++ m :: B) (h' : u.list = A ++ B) : u.list.length ≤ t.list.length := by rw [h, h']; simp
set_option maxRecDepth 100000 in
set_option maxHeartbeats 8000000 in
theorem Rb.remove (th : Nat) (rt : Value) (n x : Int) (N : Nat) : ∀ (t : Tr Int) (w : World) (A : List Int) (m : Int) (B : List Int), t.size ≤ N → In w t → t.blocks.Nodup → t.list.length ≤ 900000 → Env w th rt n → Tr.Pre ltI x t → Tr.Has ltI x A m B → t.list = A ++ m :: B →
    Calls Try.prog 26 #[.pointer (some ⟨th, 0, none⟩), ptr t, .int .i64 x] w (Turned (Tr.rem ltI N x t) t.blocks w) := by
  induction N with
  | zero =>
    intro t w A m B hs _ _ _ _ hp _ _
    have := Tr.ne_of_Pre hp
    cases t with
    | nil => exact absurd rfl this
    | node g c l y r => simp only [Tr.size] at hs; omega
  | succ N ih =>
    intro t w As ms Bs hs hi hd hn he hp hh hli
    cases t with
    | nil => exact absurd rfl (Tr.ne_of_Pre hp)
    | node g c l y r =>
      have IH := hid ih
      have HI := hid (show In w.drew (.node g c l y r) from hi.drew)
      have HD := hid hd
      have HN := hid hn
      have HE := hid (he.below (Below.refl _ _).drew)
      have HP := hid hp
      have HH := hid hh
      have HLI := hid hli
      have HS := hid hs
      obtain ⟨_, _, t0, _⟩ := id he
      have e0 := t0.at0
      obtain ⟨⟨v, hvs, hc⟩, hl, hr⟩ := hi
      have c0 := hc.at0
      have c2 := hc.at2
      have c3 := hc.at3
      clear ih hd hn he hs hvs hc hl hr hp hh hli t0
      simp only [ptr_node]
      cases hlt : ltI x y with
      | true =>
        have HLT := hid hlt
        obtain ⟨hln, hrn, hpre, hlend, B', hl1, hl2⟩ := Tr.go_left HP.out HH.out HLI.out HLT.out
        have HG := hid (And.intro hln (And.intro hrn (And.intro hpre (And.intro hlend (And.intro hl1 hl2)))))
        have HEQ : Hid (Tr.rem ltI (N + 1) x (.node g c l y r) = Tr.balance ((Tr.node g c l y r).lendLeft.setLeft (Tr.rem ltI N x (Tr.node g c l y r).lendLeft.left))) := hid (Tr.rem_left hlt)
        have HSZ : Hid ((Tr.node g c l y r).lendLeft.left.size ≤ N) := hid (by
          have := Tr.size_left_lt _ (Tr.ne_nil_of_list (Tr.list_lendLeft (Tr.node g c l y r)) (by simp))
          rw [Tr.size_of_list (Tr.list_lendLeft (Tr.node g c l y r))] at this
          have := HS.out
          omega)
        have HNE := hid (Tr.ne_nil_of_list (Tr.list_lendLeft (Tr.node g c l y r)) (by simp))
        have HPM := hid (Tr.perm_lendLeft (Tr.node g c l y r))
        have HLL := hid (Tr.list_lendLeft (Tr.node g c l y r))
        clear hln hrn hpre hlend hl1 hl2 hlt c2 c3
        go_enter Try.func26, Try.ntmps26
        go_wp2_with fail
        go_still_tail 9, (by kernel_rfl)
        change wpList _ _ _ _ _ w.drew
        go_wp2_with fail
        refine (Law6.lessI x y _).mono ?_
        rintro e w1 ⟨rfl, rfl⟩
        rw [HLT.out]
        go_wp2_with fail
        refine (Rb.lendLeft g c _ r y th rt n _ HI.out.st HD.out HN.out HE.out HG.out.1 HG.out.2.1).mono ?_
        rintro e1 w1 ⟨rfl, hs1, hw1⟩
        have HE1 := hid (HE.out.turned HI.out.st hw1)
        have HW1 := hid hw1
        have HS1 := hid hs1
        clear hs1 hw1 e0 c0
        generalize (Tr.node g c l y r).lendLeft = T at *
        cases T with
        | nil => exact absurd rfl HNE.out
        | node g' c' l' y' r' =>
          obtain ⟨⟨A, m, k, hc⟩, hl, hr⟩ := id HS1.out
          have z2 := hc.at2
          have HC := hid (And.intro hc (And.intro hl hr))
          have HD1 := hid (HPM.out.nodup_iff.2 HD.out)
          have HN1 := hid (show l'.list.length + (r'.list.length + 1) ≤ 900000 from by
            have := HN.out; rw [← HLL.out] at this; simpa [Tr.list] using this)
          clear hc hl hr
          simp only [ptr_node]
          go_wp2_with fail
          obtain ⟨k', p1⟩ := HG.out.2.2.1
          have HP1 := hid (And.intro p1 HG.out.2.2.2.1)
          clear p1
          obtain ⟨q1, q2⟩ := HG.out.2.2.2.2
          have HHas : Hid (Tr.Has ltI x As ms B') := hid ⟨HH.out.low, fun b hb => HH.out.high b (by rw [q2]; simp [hb]), HH.out.mid⟩
          have HL1 := hid q1
          clear q1 q2
          refine (IH.out l' _ As ms B' HSZ.out HC.out.2.1 (nodup_node HD1.out).2.2.1 (by have := HN1.out; omega) HE1.out (Or.inl ⟨k', HP1.out.1, HP1.out.2⟩) HHas.out HL1.out).mono ?_
          rintro e2 w2 ⟨rfl, hi2, hw2⟩
          have hof := Tr.Of.rem ltI x N l'
          have hg : g' ∉ (Tr.rem ltI N x l').blocks := fun hm => (nodup_node HD1.out).1 (hof.2 _ hm)
          have HT := hid (left_turned HC.out.1 HC.out.2.1 HC.out.2.2 HE1.out HD1.out hi2 hw2 hg)
          have HND := hid (nodup_left (l' := Tr.rem ltI N x l') HD1.out (hof.1 (nodup_node HD1.out).2.2.1) (fun j hj => Or.inl (hof.2 j hj)))
          have HOF := hid hof
          have HLEN : Hid ((Tr.rem ltI N x l').list.length ≤ l'.list.length) := hid (Has.len HL1.out (Tr.rem_main ltI x N l' As ms B' HSZ.out (Or.inl ⟨k', HP1.out.1, HP1.out.2⟩) HHas.out HL1.out).1)
          clear hi2 hw2 hof hg z2
          have q2 := HT.out.1.at2
          have q3 := HT.out.1.fr2
          have HEQ2 : Hid (Tr.rem ltI (N + 1) x (.node g c l y r) = Tr.balance (.node g' c' (Tr.rem ltI N x l') y' r')) := HEQ
          clear HEQ
          generalize Tr.rem ltI N x l' = L' at *
          obtain ⟨u, hu⟩ := ptr_form L'
          have HU := hid hu
          rw [hu]
          clear hu
          go_wp2_with fail
          have HW : Hid (∃ W, W = w2.setCell ⟨g', 2, none⟩ (.pointer u) ∧ St W (.node g' c' L' y' r') ∧ Env W th rt n ∧ Chg (g' :: l'.blocks) w1 W) := hid ⟨_, rfl, by rw [← HU.out]; exact HT.out.2.1, by rw [← HU.out]; exact HT.out.2.2.1, by rw [← HU.out]; exact HT.out.2.2.2⟩
          obtain ⟨W, hW, HF⟩ := HW
          rw [← hW]
          clear hW q2 q3
          have HF := hid HF
          refine (Rb.balance g' c' L' r' y' th rt n W HF.out.1 HND.out (by have := HN1.out; have := HLEN.out; simp only [Tr.list, List.length_append, List.length_cons]; omega) HF.out.2.1).mono ?_
          rintro e3 w3 ⟨rfl, hi3, hw3⟩
          have HI3 := hid hi3
          have HW3 := hid hw3
          clear hi3 hw3
          go_wp2_with fail
          go_ret
          refine ⟨by rw [HEQ2.out]; rfl, by rw [HEQ2.out]; exact HI3.out, (((Chg.below (Below.refl _ _).drew).trans HW1.out (fun j hj => Or.inl hj)).trans HF.out.2.2 (fun j hj => Or.inl (HPM.out.mem_iff.1 ?_))).trans HW3.out (fun j hj => Or.inl (HPM.out.mem_iff.1 ?_))⟩
          · rcases List.mem_cons.1 hj with rfl | h1
            · simp [Tr.blocks]
            · simp [Tr.blocks, h1]
          · simp only [Tr.blocks, List.mem_cons, List.mem_append] at hj ⊢
            exact hj.imp id (Or.imp (HOF.out.2 j) id)
      | false =>
        have HLT := hid hlt
        have HG := hid (Tr.go_right HP.out HH.out HLI.out HLT.out)
        have HPU := hid (Tr.perm_up1 (Tr.node g c l y r))
        have HLU := hid (Tr.list_up1 (Tr.node g c l y r))
        have HNEU := hid (Tr.ne_nil_of_list (Tr.list_up1 (Tr.node g c l y r)) (by simp))
        have HEQn : Hid ((Tr.node g c l y r).up1.right = .nil → Tr.rem ltI (N + 1) x (.node g c l y r) = .nil) := hid (Tr.rem_nil hlt)
        have HEQr := hid (fun h1 h2 => Tr.rem_right (lt := ltI) (N := N) (x := x) (y := y) (g := g) (c := c) (l := l) (r := r) hlt h1 h2)
        have HEQh := hid (fun h1 h2 => Tr.rem_here (lt := ltI) (N := N) (x := x) (y := y) (g := g) (c := c) (l := l) (r := r) hlt h1 h2)
        clear hlt
        cases hlr : l.red with
        | false =>
          have HLR := hid hlr
          rw [Tr.up1_same hlr] at HG HPU HLU HNEU HEQn HEQr HEQh
          clear hlr
          go_enter Try.func26, Try.ntmps26
          go_wp2_with fail
          go_still_tail 9, (by kernel_rfl)
          change wpList _ _ _ _ _ w.drew
          go_wp2_with fail
          refine (Law6.lessI x y _).mono ?_
          rintro e w1 ⟨rfl, rfl⟩
          rw [HLT.out]
          go_wp2_with fail
          refine (Rb.isRed l _ HI.out.2.1.st).mono ?_
          rintro e w1 ⟨rfl, rfl⟩
          rw [HLR.out]
          clear e0 c0 c2 c3
          have HSU := hid HI.out.st
          have HEU := HE
          have HLU := hid (show (Tr.node g c l y r).list = (Tr.node g c l y r).list from rfl)
          have HPU := hid (show (Tr.node g c l y r).blocks.Perm (Tr.node g c l y r).blocks from List.Perm.refl _)
          have HWU : Hid (Chg (Tr.node g c l y r).blocks w w.drew) := hid (Chg.below (Below.refl _ _).drew)
          have HEX : Hid (∃ wu gu cu lu yu ru, wu = w.drew ∧ gu = g ∧ cu = c ∧ lu = l ∧ yu = y ∧ ru = r) := hid ⟨_, _, _, _, _, _, rfl, rfl, rfl, rfl, rfl, rfl⟩
          obtain ⟨⟨A, m, k, hc⟩, hlu, hru⟩ := id HSU.out
          have z3 := hc.at3
          clear hc hlu hru
          have HDU := hid (HPU.out.nodup_iff.2 HD.out)
          have HNU := hid (show (Tr.node g c l y r).list.length ≤ 900000 from by have := HN.out; rw [← HLU.out] at this; exact this)
          rcases HG.out with ⟨hrn, _⟩ | hgo
          · simp only [Tr.right_node] at hrn
            have HRN := hid hrn
            subst hrn
            simp only [ptr_nil] at z3
            go_wp2_with fail
            go_ret
            rw [HEQn.out rfl]
            exact ⟨rfl, trivial, HWU.out⟩
          · have HGO := hid hgo
            clear hgo HG HEQn
            have HRN := hid HGO.out.1
            simp only [Tr.right_node] at HRN
            have HSZ : Hid ((Tr.node g c l y r).lendRight.right.size ≤ N) := hid (by
              have := Tr.size_right_lt _ HGO.out.2.2.1
              rw [Tr.size_of_list (Tr.list_lendRight (Tr.node g c l y r)), Tr.size_of_list HLU.out] at this
              have := HS.out
              omega)
            have HPM := hid ((Tr.perm_lendRight (Tr.node g c l y r)).trans HPU.out)
            have HLL := hid ((Tr.list_lendRight (Tr.node g c l y r)).trans HLU.out)
            obtain ⟨gr, cr, lr, xr, rr, hre⟩ : ∃ gl cl ll xl rl, r = .node gl cl ll xl rl := by
              cases hru : r with
              | nil => exact absurd hru HRN.out
              | node gl cl ll xl rl => exact ⟨_, _, _, _, _, rfl⟩
            have z4 : w.drew.cell? ⟨g, 3, none⟩ = some (.pointer (some ⟨gr, 0, none⟩)) := by rw [z3, hre]; rfl
            have HRE := hid hre
            clear hre z3
            go_wp2_with fail
            refine (Rb.lendRight g c l r y th rt n _ HSU.out HDU.out HNU.out HEU.out HRN.out HGO.out.2.1).mono ?_
            rintro e1 w1 ⟨rfl, hs1, hw1⟩
            have HE1 := hid (HEU.out.turned HSU.out hw1)
            have HW1 := hid (HWU.out.trans hw1 (fun j hj => Or.inl (HPU.out.mem_iff.1 hj)))
            have HS1 := hid hs1
            clear hs1 hw1 z4
            generalize (Tr.node g c l y r).lendRight = T at *
            cases T with
            | nil => exact absurd rfl HGO.out.2.2.1
            | node g' c' l' y' r' =>
              obtain ⟨⟨A, m, k, hc⟩, hl, hr⟩ := id HS1.out
              have z0 := hc.at0
              have z3 := hc.at3
              have HC := hid (And.intro hc.drew (And.intro hl.drew hr.drew))
              have HE1d := hid (HE1.out.below (Below.refl _ _).drew)
              obtain ⟨_, _, t0, _⟩ := id HE1.out
              have e0 := t0.at0
              have HD1 := hid (HPM.out.nodup_iff.2 HD.out)
              have HN1 := hid (show l'.list.length + (r'.list.length + 1) ≤ 900000 from by
                have := HN.out; rw [← HLL.out] at this; simpa [Tr.list] using this)
              clear hc hl hr t0
              simp only [ptr_node]
              simp only [Tr.right_node, Tr.left_node, Tr.thing_node] at HGO HEQr HEQh HSZ
              go_wp2_with fail
              go_still_tail 9, (by kernel_rfl)
              change wpList _ _ _ _ _ w1.drew
              cases hx : ltI y' x with
              | true =>
                obtain ⟨hpr, A', q1, q2⟩ := HGO.out.2.2.2.1 hx
                have HHas : Hid (Tr.Has ltI x A' ms Bs) := hid ⟨fun a ha => HH.out.low a (by rw [q2]; simp [ha]), HH.out.high, HH.out.mid⟩
                have HPR : Hid (Tr.Pre ltI x r') := hid (by
                  rcases hpr with h1 | h1
                  · exact Or.inl h1
                  · exact Or.inr (Or.inl h1))
                have HL1 := hid q1
                have HEQ := hid (HEQr.out HGO.out.1 hx)
                have HX := hid hx
                clear q1 q2 hx hpr
                go_wp2_with fail
                refine (Law6.lessI y' x _).mono ?_
                rintro e w2 ⟨rfl, rfl⟩
                rw [HX.out]
                clear z0 e0
                go_wp2_with fail
                refine (IH.out r' _ A' ms Bs HSZ.out HC.out.2.2 (nodup_node HD1.out).2.2.2.1 (by have := HN1.out; omega) HE1d.out HPR.out HHas.out HL1.out).mono ?_
                rintro e2 w2 ⟨rfl, hi2, hw2⟩
                have hof := Tr.Of.rem ltI x N r'
                have hg : g' ∉ (Tr.rem ltI N x r').blocks := fun hm => (nodup_node HD1.out).2.1 (hof.2 _ hm)
                have HT := hid (right_turned HC.out.1 HC.out.2.1 HC.out.2.2 HE1d.out HD1.out hi2 hw2 hg)
                have HND := hid (nodup_right (r' := Tr.rem ltI N x r') HD1.out (hof.1 (nodup_node HD1.out).2.2.2.1) (fun j hj => Or.inl (hof.2 j hj)))
                have HOF := hid hof
                have HLEN : Hid ((Tr.rem ltI N x r').list.length ≤ r'.list.length) := hid (Has.len HL1.out (Tr.rem_main ltI x N r' A' ms Bs HSZ.out HPR.out HHas.out HL1.out).1)
                clear hi2 hw2 hof hg z3
                have q2 := HT.out.1.at3
                have q3 := HT.out.1.fr3
                have HEQ2 : Hid (Tr.rem ltI (N + 1) x (.node g c l y r) = Tr.balance (.node g' c' l' y' (Tr.rem ltI N x r'))) := HEQ
                clear HEQ HEQr HEQh HGO
                generalize Tr.rem ltI N x r' = R' at *
                obtain ⟨u, hu⟩ := ptr_form R'
                have HU := hid hu
                rw [hu]
                clear hu
                go_wp2_with fail
                have HW : Hid (∃ W, W = w2.setCell ⟨g', 3, none⟩ (.pointer u) ∧ St W (.node g' c' l' y' R') ∧ Env W th rt n ∧ Chg (g' :: r'.blocks) w1.drew W) := hid ⟨_, rfl, by rw [← HU.out]; exact HT.out.2.1, by rw [← HU.out]; exact HT.out.2.2.1, by rw [← HU.out]; exact HT.out.2.2.2⟩
                obtain ⟨W, hW, HF⟩ := HW
                rw [← hW]
                clear hW q2 q3
                have HF := hid HF
                refine (Rb.balance g' c' l' R' y' th rt n W HF.out.1 HND.out (by have := HN1.out; have := HLEN.out; simp only [Tr.list, List.length_append, List.length_cons]; omega) HF.out.2.1).mono ?_
                rintro e3 w3 ⟨rfl, hi3, hw3⟩
                have HI3 := hid hi3
                have HW3 := hid hw3
                clear hi3 hw3
                go_wp2_with fail
                go_ret
                refine ⟨by rw [HEQ2.out]; rfl, by rw [HEQ2.out]; exact HI3.out, ((HW1.out.trans (G := []) (Chg.below (Below.refl _ _).drew) (by simp)).trans HF.out.2.2 (fun j hj => Or.inl (HPM.out.mem_iff.1 ?_))).trans HW3.out (fun j hj => Or.inl (HPM.out.mem_iff.1 ?_))⟩
                · rcases List.mem_cons.1 hj with rfl | h1
                  · simp [Tr.blocks]
                  · simp [Tr.blocks, h1]
                · simp only [Tr.blocks, List.mem_cons, List.mem_append] at hj ⊢
                  exact hj.imp id (Or.imp id (HOF.out.2 j))
              | false =>
                obtain ⟨⟨k', k1, k2⟩, q1, q2⟩ := HGO.out.2.2.2.2 hx
                have HK := hid (And.intro k1 k2)
                have HEQ := hid (HEQh.out HGO.out.1 hx)
                have HX := hid hx
                clear q1 q2 hx k1 k2
                have HNR : Hid (r' ≠ .nil) := hid (by intro e; have := HK.out.2; rw [e] at this; simp [Tr.lend] at this)
                go_wp2_with fail
                refine (Law6.lessI y' x _).mono ?_
                rintro e w2 ⟨rfl, rfl⟩
                rw [HX.out]
                clear e0
                go_wp2_with fail
                refine (Rb.least r' _ HC.out.2.2 HNR.out y').mono ?_
                rintro e w2 ⟨rfl, rfl⟩
                have HX2 := hid (HC.out.1.set 0 (by simp) (.int .i64 (r'.least y')))
                have hnl : Nl w1.drew g' := ⟨_, _, _, HC.out.1.at1⟩
                have HC2 : Hid (∃ W, W = w1.drew.setCell ⟨g', 0, none⟩ (.int .i64 (r'.least y')) ∧ Cs W g' [.int .i64 (r'.least y'), .slice A m k, ptr l', ptr r', .bool c'] ∧ In W l' ∧ In W r' ∧ Env W th rt n ∧ Chg [g'] w1.drew W) := hid (by
                  refine ⟨_, rfl, HX2.out, HC.out.2.1.far hnl (nodup_node HD1.out).1 _ _, HC.out.2.2.far hnl (nodup_node HD1.out).2.1 _ _, ?_, ?_⟩
                  · exact HE1d.out.chg (F := [g']) ((Chg.refl _ _).set (Or.inl (by simp)) _ _) (fun j hj => by simp at hj; subst hj; exact hnl)
                  · exact (Chg.refl _ _).set (Or.inl (by simp)) _ _)
                have z0f := HC.out.1.fr0
                have z0' := HC.out.1.at0
                clear hnl z0
                go_wp2_with fail
                obtain ⟨W0, hW0, HC2⟩ := HC2
                try rw [show (w1.setCell ⟨g', 0, none⟩ (.int .i64 (r'.least y'))).drew = W0 from hW0.symm]
                try rw [show w1.drew.setCell ⟨g', 0, none⟩ (.int .i64 (r'.least y')) = W0 from hW0.symm]
                have HC2 := hid HC2
                clear hW0 z0' z0f z3
                have z3 := HC2.out.1.at3
                go_wp2_with fail
                refine (Rb.removeLeast th rt n N r' _ k' HSZ.out HC2.out.2.2.1 (nodup_node HD1.out).2.2.2.1 (by have := HN1.out; omega) HC2.out.2.2.2.1 HK.out.1 HK.out.2).mono ?_
                rintro e2 w2 ⟨rfl, hi2, hw2⟩
                have hof := Tr.Of.remL N r'
                have hg : g' ∉ (Tr.remL N r').blocks := fun hm => (nodup_node HD1.out).2.1 (hof.2 _ hm)
                have HT := hid (right_turned (y := r'.least y') HC2.out.1 HC2.out.2.1 HC2.out.2.2.1 HC2.out.2.2.2.1 HD1.out hi2 hw2 hg)
                have HND := hid (nodup_right (r' := Tr.remL N r') HD1.out (hof.1 (nodup_node HD1.out).2.2.2.1) (fun j hj => Or.inl (hof.2 j hj)))
                have HOF := hid hof
                have HLEN : Hid ((Tr.remL N r').list.length ≤ r'.list.length) := hid (by
                  rw [((Tr.remL_main N r' HSZ.out) k' HK.out.1 HK.out.2).2.2]; simp)
                clear hi2 hw2 hof hg z3
                have q2 := HT.out.1.at3
                have q3 := HT.out.1.fr3
                have HEQ2 : Hid (Tr.rem ltI (N + 1) x (.node g c l y r) = Tr.balance (.node g' c' l' (r'.least y') (Tr.remL N r'))) := HEQ
                clear HEQ HEQr HEQh HGO
                generalize Tr.remL N r' = R' at *
                obtain ⟨u, hu⟩ := ptr_form R'
                have HU := hid hu
                rw [hu]
                clear hu
                go_wp2_with fail
                have HW : Hid (∃ W, W = w2.setCell ⟨g', 3, none⟩ (.pointer u) ∧ St W (.node g' c' l' (r'.least y') R') ∧ Env W th rt n ∧ Chg (g' :: r'.blocks) W0 W) := hid ⟨_, rfl, by rw [← HU.out]; exact HT.out.2.1, by rw [← HU.out]; exact HT.out.2.2.1, by rw [← HU.out]; exact HT.out.2.2.2⟩
                obtain ⟨W, hW, HF⟩ := HW
                rw [← hW]
                clear hW q2 q3
                have HF := hid HF
                refine (Rb.balance g' c' l' R' (r'.least y') th rt n W HF.out.1 HND.out (by have := HN1.out; have := HLEN.out; simp only [Tr.list, List.length_append, List.length_cons]; omega) HF.out.2.1).mono ?_
                rintro e3 w3 ⟨rfl, hi3, hw3⟩
                have HI3 := hid hi3
                have HW3 := hid hw3
                clear hi3 hw3
                go_wp2_with fail
                go_ret
                refine ⟨by rw [HEQ2.out]; rfl, by rw [HEQ2.out]; exact HI3.out, (((HW1.out.trans (G := []) (Chg.below (Below.refl _ _).drew) (by simp)).trans HC2.out.2.2.2.2 (fun j hj => Or.inl (HPM.out.mem_iff.1 (by simp at hj; subst hj; simp [Tr.blocks])))).trans HF.out.2.2 (fun j hj => Or.inl (HPM.out.mem_iff.1 ?_))).trans HW3.out (fun j hj => Or.inl (HPM.out.mem_iff.1 ?_))⟩
                · rcases List.mem_cons.1 hj with rfl | h1
                  · simp [Tr.blocks]
                  · simp [Tr.blocks, h1]
                · simp only [Tr.blocks, List.mem_cons, List.mem_append] at hj ⊢
                  exact hj.imp id (Or.imp id (HOF.out.2 j))
        | true =>
          have HLR := hid hlr
          cases l with
          | nil => simp [Tr.red] at hlr
          | node h d a z b =>
            simp only [Tr.red] at hlr
            subst hlr
            rw [Tr.up1_red HLR.out] at HG HPU HLU HNEU HEQn HEQr HEQh
            simp only [Tr.turnRight] at HG HPU HLU HNEU HEQn HEQr HEQh
            simp only [ptr_node] at c2
            go_enter Try.func26, Try.ntmps26
            go_wp2_with fail
            go_still_tail 9, (by kernel_rfl)
            change wpList _ _ _ _ _ w.drew
            go_wp2_with fail
            refine (Law6.lessI x y _).mono ?_
            rintro e w1 ⟨rfl, rfl⟩
            rw [HLT.out]
            go_wp2_with fail
            refine (Rb.isRed (.node h true a z b) _ HI.out.2.1.st).mono ?_
            rintro e w1 ⟨rfl, rfl⟩
            simp only [Tr.red]
            go_wp2_with fail
            refine (Rb.turnRight th g h c true a b r y z rt n _ HI.out.st HD.out HN.out HE.out).mono ?_
            rintro e wu ⟨rfl, hsu, hwu⟩
            have HSU := hid hsu
            have HEU := hid (HE.out.turned HI.out.st hwu)
            have HWU := hid ((Chg.below (Below.refl _ _).drew).trans hwu (fun j hj => Or.inl hj))
            clear hsu hwu e0 c0 c2 c3
            obtain ⟨⟨A, m, k, hc⟩, hlu, hru⟩ := id HSU.out
            have z3 := hc.at3
            clear hc hlu hru
            have HDU := hid (HPU.out.nodup_iff.2 HD.out)
            have HNU := hid (show (Tr.node h c a z (Tr.node g true b y r)).list.length ≤ 900000 from by have := HN.out; rw [← HLU.out] at this; exact this)
            rcases HG.out with ⟨hrn, _⟩ | hgo
            · simp only [Tr.right_node] at hrn
              cases hrn
            · have HGO := hid hgo
              clear hgo HG HEQn
              have HRN := hid HGO.out.1
              simp only [Tr.right_node] at HRN
              have HSZ : Hid ((Tr.node h c a z (Tr.node g true b y r)).lendRight.right.size ≤ N) := hid (by
                have := Tr.size_right_lt _ HGO.out.2.2.1
                rw [Tr.size_of_list (Tr.list_lendRight (Tr.node h c a z (Tr.node g true b y r))), Tr.size_of_list HLU.out] at this
                have := HS.out
                omega)
              have HPM := hid ((Tr.perm_lendRight (Tr.node h c a z (Tr.node g true b y r))).trans HPU.out)
              have HLL := hid ((Tr.list_lendRight (Tr.node h c a z (Tr.node g true b y r))).trans HLU.out)
              have z4 := z3
              simp only [ptr_node] at z4
              clear z3
              go_wp2_with fail
              refine (Rb.lendRight h c a (Tr.node g true b y r) z th rt n _ HSU.out HDU.out HNU.out HEU.out HRN.out HGO.out.2.1).mono ?_
              rintro e1 w1 ⟨rfl, hs1, hw1⟩
              have HE1 := hid (HEU.out.turned HSU.out hw1)
              have HW1 := hid (HWU.out.trans hw1 (fun j hj => Or.inl (HPU.out.mem_iff.1 hj)))
              have HS1 := hid hs1
              clear hs1 hw1 z4
              generalize (Tr.node h c a z (Tr.node g true b y r)).lendRight = T at *
              cases T with
              | nil => exact absurd rfl HGO.out.2.2.1
              | node g' c' l' y' r' =>
                obtain ⟨⟨A, m, k, hc⟩, hl, hr⟩ := id HS1.out
                have z0 := hc.at0
                have z3 := hc.at3
                have HC := hid (And.intro hc.drew (And.intro hl.drew hr.drew))
                have HE1d := hid (HE1.out.below (Below.refl _ _).drew)
                obtain ⟨_, _, t0, _⟩ := id HE1.out
                have e0 := t0.at0
                have HD1 := hid (HPM.out.nodup_iff.2 HD.out)
                have HN1 := hid (show l'.list.length + (r'.list.length + 1) ≤ 900000 from by
                  have := HN.out; rw [← HLL.out] at this; simpa [Tr.list] using this)
                clear hc hl hr t0
                simp only [ptr_node]
                simp only [Tr.right_node, Tr.left_node, Tr.thing_node] at HGO HEQr HEQh HSZ
                go_wp2_with fail
                go_still_tail 9, (by kernel_rfl)
                change wpList _ _ _ _ _ w1.drew
                cases hx : ltI y' x with
                | true =>
                  obtain ⟨hpr, A', q1, q2⟩ := HGO.out.2.2.2.1 hx
                  have HHas : Hid (Tr.Has ltI x A' ms Bs) := hid ⟨fun a ha => HH.out.low a (by rw [q2]; simp [ha]), HH.out.high, HH.out.mid⟩
                  have HPR : Hid (Tr.Pre ltI x r') := hid (by
                    rcases hpr with h1 | h1
                    · exact Or.inl h1
                    · exact Or.inr (Or.inl h1))
                  have HL1 := hid q1
                  have HEQ := hid (HEQr.out HGO.out.1 hx)
                  have HX := hid hx
                  clear q1 q2 hx hpr
                  go_wp2_with fail
                  refine (Law6.lessI y' x _).mono ?_
                  rintro e w2 ⟨rfl, rfl⟩
                  rw [HX.out]
                  clear z0 e0
                  go_wp2_with fail
                  refine (IH.out r' _ A' ms Bs HSZ.out HC.out.2.2 (nodup_node HD1.out).2.2.2.1 (by have := HN1.out; omega) HE1d.out HPR.out HHas.out HL1.out).mono ?_
                  rintro e2 w2 ⟨rfl, hi2, hw2⟩
                  have hof := Tr.Of.rem ltI x N r'
                  have hg : g' ∉ (Tr.rem ltI N x r').blocks := fun hm => (nodup_node HD1.out).2.1 (hof.2 _ hm)
                  have HT := hid (right_turned HC.out.1 HC.out.2.1 HC.out.2.2 HE1d.out HD1.out hi2 hw2 hg)
                  have HND := hid (nodup_right (r' := Tr.rem ltI N x r') HD1.out (hof.1 (nodup_node HD1.out).2.2.2.1) (fun j hj => Or.inl (hof.2 j hj)))
                  have HOF := hid hof
                  have HLEN : Hid ((Tr.rem ltI N x r').list.length ≤ r'.list.length) := hid (Has.len HL1.out (Tr.rem_main ltI x N r' A' ms Bs HSZ.out HPR.out HHas.out HL1.out).1)
                  clear hi2 hw2 hof hg z3
                  have q2 := HT.out.1.at3
                  have q3 := HT.out.1.fr3
                  have HEQ2 : Hid (Tr.rem ltI (N + 1) x (.node g c (.node h true a z b) y r) = Tr.balance (.node g' c' l' y' (Tr.rem ltI N x r'))) := HEQ
                  clear HEQ HEQr HEQh HGO
                  generalize Tr.rem ltI N x r' = R' at *
                  obtain ⟨u, hu⟩ := ptr_form R'
                  have HU := hid hu
                  rw [hu]
                  clear hu
                  go_wp2_with fail
                  have HW : Hid (∃ W, W = w2.setCell ⟨g', 3, none⟩ (.pointer u) ∧ St W (.node g' c' l' y' R') ∧ Env W th rt n ∧ Chg (g' :: r'.blocks) w1.drew W) := hid ⟨_, rfl, by rw [← HU.out]; exact HT.out.2.1, by rw [← HU.out]; exact HT.out.2.2.1, by rw [← HU.out]; exact HT.out.2.2.2⟩
                  obtain ⟨W, hW, HF⟩ := HW
                  rw [← hW]
                  clear hW q2 q3
                  have HF := hid HF
                  refine (Rb.balance g' c' l' R' y' th rt n W HF.out.1 HND.out (by have := HN1.out; have := HLEN.out; simp only [Tr.list, List.length_append, List.length_cons]; omega) HF.out.2.1).mono ?_
                  rintro e3 w3 ⟨rfl, hi3, hw3⟩
                  have HI3 := hid hi3
                  have HW3 := hid hw3
                  clear hi3 hw3
                  go_wp2_with fail
                  go_ret
                  refine ⟨by rw [HEQ2.out]; rfl, by rw [HEQ2.out]; exact HI3.out, ((HW1.out.trans (G := []) (Chg.below (Below.refl _ _).drew) (by simp)).trans HF.out.2.2 (fun j hj => Or.inl (HPM.out.mem_iff.1 ?_))).trans HW3.out (fun j hj => Or.inl (HPM.out.mem_iff.1 ?_))⟩
                  · rcases List.mem_cons.1 hj with rfl | h1
                    · simp [Tr.blocks]
                    · simp [Tr.blocks, h1]
                  · simp only [Tr.blocks, List.mem_cons, List.mem_append] at hj ⊢
                    exact hj.imp id (Or.imp id (HOF.out.2 j))
                | false =>
                  obtain ⟨⟨k', k1, k2⟩, q1, q2⟩ := HGO.out.2.2.2.2 hx
                  have HK := hid (And.intro k1 k2)
                  have HEQ := hid (HEQh.out HGO.out.1 hx)
                  have HX := hid hx
                  clear q1 q2 hx k1 k2
                  have HNR : Hid (r' ≠ .nil) := hid (by intro e; have := HK.out.2; rw [e] at this; simp [Tr.lend] at this)
                  go_wp2_with fail
                  refine (Law6.lessI y' x _).mono ?_
                  rintro e w2 ⟨rfl, rfl⟩
                  rw [HX.out]
                  clear e0
                  go_wp2_with fail
                  refine (Rb.least r' _ HC.out.2.2 HNR.out y').mono ?_
                  rintro e w2 ⟨rfl, rfl⟩
                  have HX2 := hid (HC.out.1.set 0 (by simp) (.int .i64 (r'.least y')))
                  have hnl : Nl w1.drew g' := ⟨_, _, _, HC.out.1.at1⟩
                  have HC2 : Hid (∃ W, W = w1.drew.setCell ⟨g', 0, none⟩ (.int .i64 (r'.least y')) ∧ Cs W g' [.int .i64 (r'.least y'), .slice A m k, ptr l', ptr r', .bool c'] ∧ In W l' ∧ In W r' ∧ Env W th rt n ∧ Chg [g'] w1.drew W) := hid (by
                    refine ⟨_, rfl, HX2.out, HC.out.2.1.far hnl (nodup_node HD1.out).1 _ _, HC.out.2.2.far hnl (nodup_node HD1.out).2.1 _ _, ?_, ?_⟩
                    · exact HE1d.out.chg (F := [g']) ((Chg.refl _ _).set (Or.inl (by simp)) _ _) (fun j hj => by simp at hj; subst hj; exact hnl)
                    · exact (Chg.refl _ _).set (Or.inl (by simp)) _ _)
                  have z0f := HC.out.1.fr0
                  have z0' := HC.out.1.at0
                  clear hnl z0
                  go_wp2_with fail
                  obtain ⟨W0, hW0, HC2⟩ := HC2
                  try rw [show (w1.setCell ⟨g', 0, none⟩ (.int .i64 (r'.least y'))).drew = W0 from hW0.symm]
                  try rw [show w1.drew.setCell ⟨g', 0, none⟩ (.int .i64 (r'.least y')) = W0 from hW0.symm]
                  have HC2 := hid HC2
                  clear hW0 z0' z0f z3
                  have z3 := HC2.out.1.at3
                  go_wp2_with fail
                  refine (Rb.removeLeast th rt n N r' _ k' HSZ.out HC2.out.2.2.1 (nodup_node HD1.out).2.2.2.1 (by have := HN1.out; omega) HC2.out.2.2.2.1 HK.out.1 HK.out.2).mono ?_
                  rintro e2 w2 ⟨rfl, hi2, hw2⟩
                  have hof := Tr.Of.remL N r'
                  have hg : g' ∉ (Tr.remL N r').blocks := fun hm => (nodup_node HD1.out).2.1 (hof.2 _ hm)
                  have HT := hid (right_turned (y := r'.least y') HC2.out.1 HC2.out.2.1 HC2.out.2.2.1 HC2.out.2.2.2.1 HD1.out hi2 hw2 hg)
                  have HND := hid (nodup_right (r' := Tr.remL N r') HD1.out (hof.1 (nodup_node HD1.out).2.2.2.1) (fun j hj => Or.inl (hof.2 j hj)))
                  have HOF := hid hof
                  have HLEN : Hid ((Tr.remL N r').list.length ≤ r'.list.length) := hid (by
                    rw [((Tr.remL_main N r' HSZ.out) k' HK.out.1 HK.out.2).2.2]; simp)
                  clear hi2 hw2 hof hg z3
                  have q2 := HT.out.1.at3
                  have q3 := HT.out.1.fr3
                  have HEQ2 : Hid (Tr.rem ltI (N + 1) x (.node g c (.node h true a z b) y r) = Tr.balance (.node g' c' l' (r'.least y') (Tr.remL N r'))) := HEQ
                  clear HEQ HEQr HEQh HGO
                  generalize Tr.remL N r' = R' at *
                  obtain ⟨u, hu⟩ := ptr_form R'
                  have HU := hid hu
                  rw [hu]
                  clear hu
                  go_wp2_with fail
                  have HW : Hid (∃ W, W = w2.setCell ⟨g', 3, none⟩ (.pointer u) ∧ St W (.node g' c' l' (r'.least y') R') ∧ Env W th rt n ∧ Chg (g' :: r'.blocks) W0 W) := hid ⟨_, rfl, by rw [← HU.out]; exact HT.out.2.1, by rw [← HU.out]; exact HT.out.2.2.1, by rw [← HU.out]; exact HT.out.2.2.2⟩
                  obtain ⟨W, hW, HF⟩ := HW
                  rw [← hW]
                  clear hW q2 q3
                  have HF := hid HF
                  refine (Rb.balance g' c' l' R' (r'.least y') th rt n W HF.out.1 HND.out (by have := HN1.out; have := HLEN.out; simp only [Tr.list, List.length_append, List.length_cons]; omega) HF.out.2.1).mono ?_
                  rintro e3 w3 ⟨rfl, hi3, hw3⟩
                  have HI3 := hid hi3
                  have HW3 := hid hw3
                  clear hi3 hw3
                  go_wp2_with fail
                  go_ret
                  refine ⟨by rw [HEQ2.out]; rfl, by rw [HEQ2.out]; exact HI3.out, (((HW1.out.trans (G := []) (Chg.below (Below.refl _ _).drew) (by simp)).trans HC2.out.2.2.2.2 (fun j hj => Or.inl (HPM.out.mem_iff.1 (by simp at hj; subst hj; simp [Tr.blocks])))).trans HF.out.2.2 (fun j hj => Or.inl (HPM.out.mem_iff.1 ?_))).trans HW3.out (fun j hj => Or.inl (HPM.out.mem_iff.1 ?_))⟩
                  · rcases List.mem_cons.1 hj with rfl | h1
                    · simp [Tr.blocks]
                    · simp [Tr.blocks, h1]
                  · simp only [Tr.blocks, List.mem_cons, List.mem_append] at hj ⊢
                    exact hj.imp id (Or.imp id (HOF.out.2 j))
end

/- The tree of numbers: is a thing there, a thing more, a thing less. -/
section
open Go.RowKit
/-- A whole tree lies here. -/
def TreeAt (w : World) (th : Nat) (t : Tr Int) : Prop := Env w th (ptr t) t.list.length ∧ In w t ∧ t.blocks.Nodup
theorem TreeAt.below {w w' : World} {th : Nat} {t : Tr Int} (h : TreeAt w th t) (hb : Below w.heap.size w w') : TreeAt w' th t := ⟨h.1.below hb, h.2.1.below hb, h.2.2⟩
set_option maxRecDepth 100000 in
set_option maxHeartbeats 1000000 in
theorem Rb.has (th : Nat) (t : Tr Int) (x : Int) (w : World) (h : TreeAt w th t) :
    Calls Try.prog 14 #[.pointer (some ⟨th, 0, none⟩), .int .i64 x] w (Ans (.bool (Tr.has ltI x t)) w) := by
  have HT := hid h
  obtain ⟨_, _, t0, _⟩ := h.1
  have e3 := t0.at3
  have HL := hid (t0.at0)
  clear t0 h
  go_enter Try.func14, Try.ntmps14
  go_wp2_with fail
  go_loopg [5] t.size (fun s a wr => Below w.heap.size w wr ∧ ∃ u : Tr Int, a = ptr u ∧ s = u.size ∧ In w u ∧ Tr.has ltI x u = Tr.has ltI x t)
  case atStart => exact ⟨Below.refl _ _, t, rfl, rfl, HT.out.2.1, rfl⟩
  case round =>
    obtain ⟨hb, u, rfl, hs, hi, he⟩ := hrel
    have HB := hid hb
    have HS := hid hs
    have HE := hid he
    have HI := hid (hi.below hb)
    have HIw := hid hi
    have e0 := keep1 hb HL.out
    clear hb hs he hi e3
    cases u with
    | nil =>
      simp only [ptr_nil]
      clear e0
      go_wp2_with fail
      go_ret
      exact ⟨by rw [← HE.out]; rfl, HB.out⟩
    | node g c l y r =>
      obtain ⟨⟨v, _, hc⟩, hl, hr⟩ := id HI.out
      have c0 := hc.at0
      have c2 := hc.at2
      have c3 := hc.at3
      clear hc hl hr
      simp only [ptr_node]
      have HQ : Hid (Tr.has ltI x (.node g c l y r) = if ltI x y then Tr.has ltI x l else if ltI y x then Tr.has ltI x r else true) := hid rfl
      cases h1 : ltI x y with
      | true =>
        have H1 := hid h1
        clear h1
        go_wp2_with fail
        go_still_tail 9, (by kernel_rfl)
        change wpList _ _ _ _ _ wr.drew
        go_wp2_with fail
        refine (Law6.lessI x y _).mono ?_
        rintro e w1 ⟨rfl, rfl⟩
        rw [H1.out]
        go_wp2_with fail
        go_roundg l.size
        case measure => have := HS.out; simp only [Tr.size] at this; omega
        case rel => exact ⟨HB.out.drew, l, rfl, rfl, HIw.out.2.1, by rw [← HE.out, HQ.out, if_pos H1.out]⟩
      | false =>
        have H1 := hid h1
        clear h1
        cases h2 : ltI y x with
        | true =>
          have H2 := hid h2
          clear h2
          go_wp2_with fail
          go_still_tail 9, (by kernel_rfl)
          change wpList _ _ _ _ _ wr.drew
          go_wp2_with fail
          refine (Law6.lessI x y _).mono ?_
          rintro e w1 ⟨rfl, rfl⟩
          rw [H1.out]
          go_wp2_with fail
          have X := hid (And.intro HB.out.drew (And.intro (show wr.drew.cell? ⟨g, 0, none⟩ = _ from c0) (And.intro (show wr.drew.cell? ⟨g, 3, none⟩ = _ from c3) (show wr.drew.cell? ⟨th, 0, none⟩ = _ from e0))))
          clear c0 c2 c3 e0 HI HB
          generalize wr.drew = w9 at X ⊢
          obtain ⟨hb9, c0, c3, e0⟩ := X
          have HB := hid hb9
          clear hb9
          go_still_tail 9, (by kernel_rfl)
          change wpList _ _ _ _ _ w9.drew
          go_wp2_with fail
          refine (Law6.lessI y x _).mono ?_
          rintro e w1 ⟨rfl, rfl⟩
          rw [H2.out]
          go_wp2_with fail
          go_roundg r.size
          case measure => have := HS.out; simp only [Tr.size] at this; omega
          case rel => exact ⟨HB.out.drew, r, rfl, rfl, HIw.out.2.2, by rw [← HE.out, HQ.out, if_neg (by rw [H1.out]; simp), if_pos H2.out]⟩
        | false =>
          have H2 := hid h2
          clear h2
          go_wp2_with fail
          go_still_tail 9, (by kernel_rfl)
          change wpList _ _ _ _ _ wr.drew
          go_wp2_with fail
          refine (Law6.lessI x y _).mono ?_
          rintro e w1 ⟨rfl, rfl⟩
          rw [H1.out]
          go_wp2_with fail
          have X := hid (And.intro HB.out.drew (And.intro (show wr.drew.cell? ⟨g, 0, none⟩ = _ from c0) (And.intro (show wr.drew.cell? ⟨g, 3, none⟩ = _ from c3) (show wr.drew.cell? ⟨th, 0, none⟩ = _ from e0))))
          clear c0 c2 c3 e0 HI HB
          generalize wr.drew = w9 at X ⊢
          obtain ⟨hb9, c0, c3, e0⟩ := X
          have HB := hid hb9
          clear hb9
          go_still_tail 9, (by kernel_rfl)
          change wpList _ _ _ _ _ w9.drew
          go_wp2_with fail
          refine (Law6.lessI y x _).mono ?_
          rintro e w1 ⟨rfl, rfl⟩
          rw [H2.out]
          go_wp2_with fail
          go_ret
          exact ⟨by rw [← HE.out, HQ.out, if_neg (by rw [H1.out]; simp), if_neg (by rw [H2.out]; simp)]; rfl, HB.out.drew⟩
end

/- The tree of numbers: Insert, Delete. -/
section
open Go.RowKit
/-- The tree's own variable is no node, and no list. -/
def Hd (w : World) (th : Nat) : Prop := ∃ f a c, w.cell? ⟨th, 0, none⟩ = some (.func f a c)
theorem Env.hd {w : World} {th : Nat} {rt : Value} {n : Int} (h : Env w th rt n) : Hd w th := by obtain ⟨_, _, t, _⟩ := h; exact ⟨_, _, _, t.at0⟩
theorem Sl.farT {w : World} {v : Value} {L : List Int} (h : Sl w v L) {th : Nat} (ht : Hd w th) (o : Nat) (u : Value) : Sl (w.setCell ⟨th, o, none⟩ u) v L := by
  obtain ⟨s, c, e, h1, h2, h3, h4⟩ := h
  have hs : th ≠ s := by
    rintro rfl
    obtain ⟨f, a, k, hk⟩ := ht
    rw [h3 0 h1] at hk; injection hk with hk; cases hk
  refine ⟨s, c, e, h1, by simpa [World.setCell] using h2, fun i hi => ?_, h4.imp id (fun h => ?_)⟩
  · exact (World.cell?_setCell_other w ⟨th, o, none⟩ ⟨s, i, none⟩ u (fun e => by injection e with e1; exact hs e1)).trans (h3 i hi)
  · exact (World.cell?_setCell_other w ⟨th, o, none⟩ ⟨s, 1, none⟩ u (fun e => by injection e with e1; exact hs e1)).trans h
theorem Cs.farT {w : World} {g : Nat} {x : Int} {vs : List Value} (h : Cs w g (.int .i64 x :: vs)) {th : Nat} (ht : Hd w th) (o : Nat) (u : Value) : Cs (w.setCell ⟨th, o, none⟩ u) g (.int .i64 x :: vs) :=
  h.far (fun e => by subst e; obtain ⟨f, a, k, hk⟩ := ht; rw [h.at0] at hk; injection hk with hk; cases hk) _ _
theorem In.farT {w : World} {t : Tr Int} {th : Nat} (ht : Hd w th) (o : Nat) (u : Value) : In w t → In (w.setCell ⟨th, o, none⟩ u) t := by
  induction t with
  | nil => intro _; trivial
  | node g c l x r ihl ihr =>
    intro h
    obtain ⟨⟨v, hv, hc⟩, hl, hr⟩ := h
    exact ⟨⟨v, hv.farT ht _ _, hc.farT ht _ _⟩, ihl hl, ihr hr⟩
theorem Env.root {w : World} {th : Nat} {rt : Value} {n : Int} (h : Env w th rt n) (u : Value) : Env (w.setCell ⟨th, 3, none⟩ u) th u n := by
  obtain ⟨b1, b2, h0, h1, h2, n1, n2⟩ := h
  have f1 : th ≠ b1 := by rintro rfl; rw [h0.at1] at n1; cases n1
  have f2 : th ≠ b2 := by rintro rfl; rw [h0.at1] at n2; cases n2
  refine ⟨b1, b2, h0.set 3 (by simp) u, h1.far f1 _ _, h2.far f2 _ _, ?_, ?_⟩
  · exact (World.cell?_setCell_other w ⟨th, 3, none⟩ ⟨b1, 1, none⟩ u (fun e => by injection e with e1; exact f1 e1)).trans n1
  · exact (World.cell?_setCell_other w ⟨th, 3, none⟩ ⟨b2, 1, none⟩ u (fun e => by injection e with e1; exact f2 e1)).trans n2
theorem Env.size {w : World} {th : Nat} {rt : Value} {n : Int} (h : Env w th rt n) (m : Int) : Env (w.setCell ⟨th, 4, none⟩ (.int .i64 m)) th rt m := by
  obtain ⟨b1, b2, h0, h1, h2, n1, n2⟩ := h
  have f1 : th ≠ b1 := by rintro rfl; rw [h0.at1] at n1; cases n1
  have f2 : th ≠ b2 := by rintro rfl; rw [h0.at1] at n2; cases n2
  refine ⟨b1, b2, h0.set 4 (by simp) _, h1.far f1 _ _, h2.far f2 _ _, ?_, ?_⟩
  · exact (World.cell?_setCell_other w ⟨th, 4, none⟩ ⟨b1, 1, none⟩ _ (fun e => by injection e with e1; exact f1 e1)).trans n1
  · exact (World.cell?_setCell_other w ⟨th, 4, none⟩ ⟨b2, 1, none⟩ _ (fun e => by injection e with e1; exact f2 e1)).trans n2
theorem Tr.put_ne {α : Type} (lt : α → α → Bool) (k : Nat) (x : α) (t : Tr α) : Tr.put lt k x t ≠ .nil := by
  intro e
  have := (Tr.perm_put lt k x t).length_eq
  rw [e] at this
  simp [Tr.blocks] at this
theorem Tr.length_put {α : Type} (lt : α → α → Bool) (k : Nat) (x : α) (t : Tr α) : (Tr.put lt k x t).list.length = t.list.length + 1 := by
  rw [← Tr.blocks_length, (Tr.perm_put lt k x t).length_eq, List.length_cons, Tr.blocks_length]
/-- What Insert answers that takes in. -/
def Ins (x : Int) (t : Tr Int) (th : Nat) (w : World) (e : Ending) (w' : World) : Prop := ∃ k, w.heap.size ≤ k ∧ e = .returned (.bool true) ∧ TreeAt w' th ((Tr.put ltI k x t).paint false) ∧ Chg (th :: t.blocks) w w'
set_option maxRecDepth 100000 in
set_option maxHeartbeats 1000000 in
theorem Rb.insert_no (th : Nat) (t : Tr Int) (x : Int) (w : World) (h : TreeAt w th t) (hh : Tr.has ltI x t = true) :
    Calls Try.prog 9 #[.pointer (some ⟨th, 0, none⟩), .int .i64 x] w (Ans (.bool false) w) := by
  have HT := hid h
  have HH := hid hh
  clear h hh
  go_enter Try.func9, Try.ntmps9
  go_wp2_with fail
  refine (Rb.has th t x _ HT.out).mono ?_
  rintro e w1 ⟨rfl, hb⟩
  rw [HH.out]
  have HB := hid hb
  clear hb
  go_wp2_with fail
  go_ret
  exact ⟨rfl, HB.out⟩
set_option maxRecDepth 100000 in
set_option maxHeartbeats 1000000 in
theorem Rb.insert (th : Nat) (t : Tr Int) (x : Int) (w : World) (h : TreeAt w th t) (hn : t.list.length < 900000) (hh : Tr.has ltI x t = false) :
    Calls Try.prog 9 #[.pointer (some ⟨th, 0, none⟩), .int .i64 x] w (Ins x t th w) := by
  have HT := hid h
  have HH := hid hh
  have HN := hid hn
  clear h hh hn
  go_enter Try.func9, Try.ntmps9
  go_wp2_with fail
  refine (Rb.has th t x _ HT.out).mono ?_
  rintro e w1 ⟨rfl, hb⟩
  rw [HH.out]
  have HT1 := hid (HT.out.below hb)
  have HB := hid hb
  obtain ⟨_, _, t0, _⟩ := HT1.out.1
  have e3 := t0.at3
  have e3f := t0.fr3
  clear hb t0
  go_wp2_with fail
  refine (Rb.put th (ptr t) t.list.length x t _ HT1.out.2.1 HT1.out.2.2 HN.out HT1.out.1).mono ?_
  rintro e w2 ⟨k, hk, rfl, hi, hw⟩
  have hk' : w.heap.size ≤ k := Nat.le_trans HB.out.size hk
  have HE2 := hid (HT1.out.1.chg hw HT1.out.2.1.nl)
  have hnd : (Tr.put ltI k x t).blocks.Nodup := (Tr.perm_put ltI k x t).nodup_iff.2 (List.nodup_cons.2 ⟨fun hm => by have := (HT1.out.2.1.nl k hm).lt; omega, HT1.out.2.2⟩)
  have HLEN := hid (Tr.length_put ltI k x t)
  have HP := hid (Tr.perm_put ltI k x t)
  have HPN := hid (Tr.put_ne ltI k x t)
  have HND := hid hnd
  have HI := hid hi
  have HW := hid hw
  have HK := hid hk'
  obtain ⟨_, _, t0, _⟩ := HE2.out
  have q3 := t0.at3
  have q3f := t0.fr3
  have hkw := hid hk
  clear hi hw hk hk' hnd t0 e3 e3f
  have HX : Hid (∀ w', TreeAt w' th ((Tr.put ltI k x t).paint false) → Chg (th :: t.blocks) w w' → Ins x t th w (.returned (.bool true)) w') := hid (fun w' h1 h2 => ⟨k, HK.out, rfl, h1, h2⟩)
  generalize Tr.put ltI k x t = T at *
  cases T with
  | nil => exact absurd rfl HPN.out
  | node g c l y r =>
    simp only [ptr_node]
    have hne : th ≠ g := fun e => by
      obtain ⟨f, a, k', hk⟩ := HE2.out.hd
      obtain ⟨⟨v, _, hc⟩, _⟩ := HI.out
      rw [e, hc.at0] at hk; injection hk with hk; cases hk
    have hne' : g ≠ th := Ne.symm hne
    have HW3 : Hid (∃ W, W = ((w2.setCell ⟨th, 3, none⟩ (.pointer (some ⟨g, 0, none⟩))).setCell ⟨g, 4, none⟩ (.bool false)).setCell ⟨th, 4, none⟩ (.int .i64 (t.list.length + 1)) ∧
        Env W th (.pointer (some ⟨g, 0, none⟩)) (t.list.length + 1) ∧ In W (.node g false l y r) ∧ Chg (th :: t.blocks) w W) := hid (by
      have e1 := HE2.out.root (.pointer (some ⟨g, 0, none⟩))
      have i1 := HI.out.farT HE2.out.hd 3 (.pointer (some ⟨g, 0, none⟩))
      have hd := nodup_node HND.out
      have hn1 : Nl (w2.setCell ⟨th, 3, none⟩ (.pointer (some ⟨g, 0, none⟩))) g := i1.nl g (by simp [Tr.blocks])
      have e2 := e1.chg (F := [g]) ((Chg.refl _ _).set (g := g) (Or.inl (by simp)) 4 (.bool false)) (fun j hj => by simp at hj; subst hj; exact hn1)
      have i2 := i1.paint (d := false) ⟨hd.1, hd.2.1⟩
      have hgk : g ∈ t.blocks ∨ w1.heap.size ≤ g := by
        rcases List.mem_cons.1 (HP.out.mem_iff.1 (show g ∈ (Tr.node g c l y r).blocks by simp [Tr.blocks])) with h1 | h1
        · subst h1; exact Or.inr hkw.out
        · exact Or.inl h1
      have c1 : Chg (th :: t.blocks) w1 w2 := HW.out.mono (fun j hj => by simp [hj])
      have c2 := ((c1.set (g := th) (Or.inl (by simp)) 3 (.pointer (some ⟨g, 0, none⟩))).set (g := g) (hgk.imp (fun h => by simp [h]) id) 4 (.bool false)).set (g := th) (Or.inl (by simp)) 4 (.int .i64 (t.list.length + 1))
      exact ⟨_, rfl, e2.size _, i2.farT e2.hd _ _, (Chg.below HB.out).trans c2 (fun j hj => Or.inl hj)⟩)
    obtain ⟨⟨v, _, hc⟩, _⟩ := HI.out
    obtain ⟨_, _, t0, _⟩ := HE2.out
    have c4 := hc.at4
    have c4f := hc.fr4
    have q4 := t0.at4
    have q4f := t0.fr4
    have hb := HN.out
    clear hc t0
    go_wp2_with fail
    obtain ⟨W, hW, HF⟩ := HW3
    rw [← hW]
    go_ret
    refine HX.out W ⟨?_, HF.2.1, ?_⟩ HF.2.2
    · have := HF.1
      rw [Tr.list_paint, HLEN.out]
      exact this
    · rw [Tr.blocks_paint]; exact HND.out
/-- What Delete answers that gives away. -/
def Del (x : Int) (t : Tr Int) (th : Nat) (w : World) (e : Ending) (w' : World) : Prop := e = .returned (.bool true) ∧ TreeAt w' th ((Tr.rem ltI t.size x t).paint false) ∧ Chg (th :: t.blocks) w w'
set_option maxRecDepth 100000 in
set_option maxHeartbeats 1000000 in
theorem Rb.delete_no (th : Nat) (t : Tr Int) (x : Int) (w : World) (h : TreeAt w th t) (hh : Tr.has ltI x t = false) :
    Calls Try.prog 13 #[.pointer (some ⟨th, 0, none⟩), .int .i64 x] w (Ans (.bool false) w) := by
  have HT := hid h
  have HH := hid hh
  clear h hh
  go_enter Try.func13, Try.ntmps13
  go_wp2_with fail
  refine (Rb.has th t x _ HT.out).mono ?_
  rintro e w1 ⟨rfl, hb⟩
  rw [HH.out]
  have HB := hid hb
  clear hb
  go_wp2_with fail
  go_ret
  exact ⟨rfl, HB.out⟩
set_option maxRecDepth 100000 in
set_option maxHeartbeats 1000000 in
theorem Rb.delete (th : Nat) (t : Tr Int) (x : Int) (w : World) (A : List Int) (m : Int) (B : List Int) (h : TreeAt w th t) (hn : t.list.length ≤ 900000) (hh : Tr.has ltI x t = true) (hp : Tr.Pre ltI x t) (hs : Tr.Has ltI x A m B) (hl : t.list = A ++ m :: B) :
    Calls Try.prog 13 #[.pointer (some ⟨th, 0, none⟩), .int .i64 x] w (Del x t th w) := by
  have HT := hid h
  have HH := hid hh
  have HN := hid hn
  have HPR := hid hp
  have HHAS := hid hs
  have HLI := hid hl
  clear h hh hn hp hs hl
  go_enter Try.func13, Try.ntmps13
  go_wp2_with fail
  refine (Rb.has th t x _ HT.out).mono ?_
  rintro e w1 ⟨rfl, hb⟩
  rw [HH.out]
  have HT1 := hid (HT.out.below hb)
  have HB := hid hb
  obtain ⟨_, _, t0, _⟩ := HT1.out.1
  have e3 := t0.at3
  have e3f := t0.fr3
  clear hb t0
  go_wp2_with fail
  refine (Rb.remove th (ptr t) t.list.length x t.size t _ A m B (Nat.le_refl _) HT1.out.2.1 HT1.out.2.2 HN.out HT1.out.1 HPR.out HHAS.out HLI.out).mono ?_
  rintro e w2 ⟨rfl, hi, hw⟩
  have HE2 := hid (HT1.out.1.chg hw HT1.out.2.1.nl)
  have HOF := hid (Tr.Of.rem ltI x t.size t)
  have HLEN : Hid ((Tr.rem ltI t.size x t).list.length + 1 = t.list.length) := hid (by
    rw [(Tr.rem_main ltI x t.size t A m B (Nat.le_refl _) HPR.out HHAS.out HLI.out).1, HLI.out]; simp; omega)
  have HI := hid hi
  have HW := hid hw
  obtain ⟨_, _, t0, _⟩ := HE2.out
  have q3 := t0.at3
  have q3f := t0.fr3
  have q4 := t0.at4
  have q4f := t0.fr4
  have HX : Hid (∀ w', TreeAt w' th ((Tr.rem ltI t.size x t).paint false) → Chg (th :: t.blocks) w w' → Del x t th w (.returned (.bool true)) w') := hid (fun w' h1 h2 => ⟨rfl, h1, h2⟩)
  clear hi hw t0 e3 e3f
  have hlen : (1 : Int) ≤ t.list.length := by have := HLEN.out; omega
  have hmax : (t.list.length : Int) ≤ 900000 := by have := HN.out; omega
  generalize Tr.rem ltI t.size x t = T at *
  cases T with
  | nil =>
    simp only [ptr_nil]
    have HW3 : Hid (∃ W, W = (w2.setCell ⟨th, 3, none⟩ (.pointer none)).setCell ⟨th, 4, none⟩ (.int .i64 (t.list.length - 1)) ∧
        Env W th (.pointer none) (t.list.length - 1) ∧ Chg (th :: t.blocks) w W) := hid (by
      have e1 := HE2.out.root (.pointer none)
      have c1 : Chg (th :: t.blocks) w1 w2 := HW.out.mono (fun j hj => by simp [hj])
      have c2 := (c1.set (g := th) (Or.inl (by simp)) 3 (.pointer none)).set (g := th) (Or.inl (by simp)) 4 (.int .i64 (t.list.length - 1))
      exact ⟨_, rfl, e1.size _, (Chg.below HB.out).trans c2 (fun j hj => Or.inl hj)⟩)
    go_wp2_with fail
    obtain ⟨W, hW, HF⟩ := HW3
    rw [← hW]
    go_ret
    refine HX.out W ⟨?_, trivial, by simp [Tr.paint, Tr.blocks]⟩ HF.2
    have h1 := HF.1
    have h2 : ((Tr.paint false (.nil : Tr Int)).list.length : Int) = t.list.length - 1 := by have := HLEN.out; simp [Tr.list, Tr.paint] at this ⊢; omega
    rw [h2]
    exact h1
  | node g c l y r =>
    simp only [ptr_node]
    have hne : th ≠ g := fun e => by
      obtain ⟨f, a, k', hk⟩ := HE2.out.hd
      obtain ⟨⟨v, _, hc⟩, _⟩ := HI.out
      rw [e, hc.at0] at hk; injection hk with hk; cases hk
    have hne' : g ≠ th := Ne.symm hne
    have HND := hid (HOF.out.1 HT1.out.2.2)
    have HW3 : Hid (∃ W, W = ((w2.setCell ⟨th, 3, none⟩ (.pointer (some ⟨g, 0, none⟩))).setCell ⟨g, 4, none⟩ (.bool false)).setCell ⟨th, 4, none⟩ (.int .i64 (t.list.length - 1)) ∧
        Env W th (.pointer (some ⟨g, 0, none⟩)) (t.list.length - 1) ∧ In W (.node g false l y r) ∧ Chg (th :: t.blocks) w W) := hid (by
      have e1 := HE2.out.root (.pointer (some ⟨g, 0, none⟩))
      have i1 := HI.out.farT HE2.out.hd 3 (.pointer (some ⟨g, 0, none⟩))
      have hd := nodup_node HND.out
      have hn1 : Nl (w2.setCell ⟨th, 3, none⟩ (.pointer (some ⟨g, 0, none⟩))) g := i1.nl g (by simp [Tr.blocks])
      have e2 := e1.chg (F := [g]) ((Chg.refl _ _).set (g := g) (Or.inl (by simp)) 4 (.bool false)) (fun j hj => by simp at hj; subst hj; exact hn1)
      have i2 := i1.paint (d := false) ⟨hd.1, hd.2.1⟩
      have hgk : g ∈ t.blocks := HOF.out.2 g (by simp [Tr.blocks])
      have c1 : Chg (th :: t.blocks) w1 w2 := HW.out.mono (fun j hj => by simp [hj])
      have c2 := ((c1.set (g := th) (Or.inl (by simp)) 3 (.pointer (some ⟨g, 0, none⟩))).set (g := g) (Or.inl (by simp [hgk])) 4 (.bool false)).set (g := th) (Or.inl (by simp)) 4 (.int .i64 (t.list.length - 1))
      exact ⟨_, rfl, e2.size _, i2.farT e2.hd _ _, (Chg.below HB.out).trans c2 (fun j hj => Or.inl hj)⟩)
    obtain ⟨⟨v, _, hc⟩, _⟩ := HI.out
    have c4 := hc.at4
    have c4f := hc.fr4
    clear hc
    go_wp2_with fail
    obtain ⟨W, hW, HF⟩ := HW3
    rw [← hW]
    go_ret
    refine HX.out W ⟨?_, HF.2.1, ?_⟩ HF.2.2
    · have h1 := HF.1
      have h2 : ((Tr.paint false (.node g c l y r)).list.length : Int) = t.list.length - 1 := by rw [Tr.list_paint]; have := HLEN.out; omega
      rw [h2]
      exact h1
    · rw [Tr.blocks_paint]; exact HND.out
end

end Go.Proofs.Ytmomigklglnmkaa

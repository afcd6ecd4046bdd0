/- The tree of numbers: lending. -/
import Derived.Test.YtcnmobehamgmbaaRbG
namespace Go.Proofs.Ytcnmobehamgmbaa
open Go.RowKit

/-- A node's right part has turned by itself. -/
theorem StL.set {w w1 : World} {g : Nat} {c : Bool} {l r r' : Tr Int} {y : Int} {th : Nat} {rt : Value} {n : Int} (hst : St w (.node g c l y r)) (he : Env w th rt n)
    (hd : (Tr.node g c l y r).blocks.Nodup) (hi : St w1 r') (hw : Chg r.blocks w w1) (hp : r'.blocks.Perm r.blocks) (hr' : ∀ W, Nl w1 g → g ∉ r'.blocks → W = w1.setCell ⟨g, 3, none⟩ (ptr r') → St W r') :
    w1.cell? ⟨g, 3, none⟩ = some (ptr r) ∧ w1.frozen? ⟨g, 3, none⟩ = false ∧ StL (w1.setCell ⟨g, 3, none⟩ (ptr r')) (.node g c l y r') ∧ Env (w1.setCell ⟨g, 3, none⟩ (ptr r')) th rt n ∧ Chg (Tr.node g c l y r).blocks w (w1.setCell ⟨g, 3, none⟩ (ptr r')) := by
  obtain ⟨d1, d2, d3, d4, d5⟩ := nodup_node hd
  obtain ⟨⟨A, m, k, hc⟩, hl, hr⟩ := hst
  have c1 := hc.chg hw d2
  have hn : Nl w1 g := ⟨_, _, _, c1.at1⟩
  have hg : g ∉ r'.blocks := fun h => d2 (hp.mem_iff.1 h)
  have hl1 := hl.chg hw hr.nl (fun j hj hj' => d5 j hj hj')
  have he1 := he.chg hw hr.nl
  refine ⟨c1.at3, c1.fr3, ⟨⟨A, m, k, c1.set 3 (by simp) _⟩, hl1.far hn d1 _ _, hr' _ hn hg rfl⟩, ?_, ?_⟩
  · exact he1.chg (F := [g]) ((Chg.refl _ _).set (Or.inl (by simp)) _ _) (fun j hj => by simp at hj; subst hj; exact hn)
  · exact (hw.mono (fun j hj => by simp [Tr.blocks, hj])).set (Or.inl (by simp [Tr.blocks])) _ _
theorem St.far {w : World} {t : Tr Int} (h : St w t) {g : Nat} (hn : Nl w g) (hg : g ∉ t.blocks) (o : Nat) (u : Value) : St (w.setCell ⟨g, o, none⟩ u) t := by
  cases t with
  | nil => trivial
  | node g' c l x r =>
    simp only [Tr.blocks, List.mem_cons, List.mem_append, not_or] at hg
    obtain ⟨⟨A, m, k, hc⟩, hl, hr⟩ := h
    exact ⟨⟨A, m, k, hc.far hg.1 _ _⟩, hl.far hn hg.2.1 _ _, hr.far hn hg.2.2 _ _⟩

set_option maxRecDepth 100000 in
set_option maxHeartbeats 1000000 in
theorem Rb.lendLeft1 (g gl : Nat) (c cl : Bool) (ll rl r : Tr Int) (x xl : Int) (th : Nat) (rt : Value) (n : Int) (w : World) (hst : St w (.node g c (.node gl cl ll xl rl) x r)) (hd : (Tr.node g c (.node gl cl ll xl rl) x r).blocks.Nodup)
    (hn : (Tr.node g c (.node gl cl ll xl rl) x r).list.length ≤ 900000) (he : Env w th rt n) (hld : Tr.lend (.node gl cl ll xl rl) = true) :
    Calls Try.prog 91 #[.pointer (some ⟨th, 0, none⟩), .pointer (some ⟨g, 0, none⟩)] w (Turns (ptr (Tr.node g c (.node gl cl ll xl rl) x r)) (.node g c (.node gl cl ll xl rl) x r) (Tr.node g c (.node gl cl ll xl rl) x r).blocks w) := by
  have HS := hid hst
  have HE := hid he
  have HD := hid hd
  have HN := hid hn
  obtain ⟨⟨A, m, k, hc⟩, hl, hr⟩ := hst
  have c2 := hc.at2
  have c3 := hc.at3
  have HL := hid hl
  have HR := hid hr
  clear hc hl hr hd hn he
  try simp only [ptr_node] at c2 c3 ⊢
  have HLD := hid hld
  clear hld
  go_enter Try.func91, Try.ntmps91
  go_wp2_with fail
  refine (Rb.canLend gl cl (ll) (rl) xl _ (HL.out)).mono ?_
  rintro e0 w0 ⟨rfl, rfl⟩
  rw [HLD.out]
  go_wp2_with fail
  go_ret
  exact ⟨rfl, HS.out, Chg.refl _ _⟩

set_option maxRecDepth 100000 in
set_option maxHeartbeats 1000000 in
theorem Rb.lendRight1 (g gr : Nat) (c cr : Bool) (l lr rr : Tr Int) (x xr : Int) (th : Nat) (rt : Value) (n : Int) (w : World) (hst : St w (.node g c l x (.node gr cr lr xr rr))) (hd : (Tr.node g c l x (.node gr cr lr xr rr)).blocks.Nodup)
    (hn : (Tr.node g c l x (.node gr cr lr xr rr)).list.length ≤ 900000) (he : Env w th rt n) (hld : Tr.lend (.node gr cr lr xr rr) = true) :
    Calls Try.prog 95 #[.pointer (some ⟨th, 0, none⟩), .pointer (some ⟨g, 0, none⟩)] w (Turns (ptr (Tr.node g c l x (.node gr cr lr xr rr))) (.node g c l x (.node gr cr lr xr rr)) (Tr.node g c l x (.node gr cr lr xr rr)).blocks w) := by
  have HS := hid hst
  have HE := hid he
  have HD := hid hd
  have HN := hid hn
  obtain ⟨⟨A, m, k, hc⟩, hl, hr⟩ := hst
  have c2 := hc.at2
  have c3 := hc.at3
  have HL := hid hl
  have HR := hid hr
  clear hc hl hr hd hn he
  try simp only [ptr_node] at c2 c3 ⊢
  have HLD := hid hld
  clear hld
  go_enter Try.func95, Try.ntmps95
  go_wp2_with fail
  refine (Rb.canLend gr cr (lr) (rr) xr _ (HR.out)).mono ?_
  rintro e0 w0 ⟨rfl, rfl⟩
  rw [HLD.out]
  go_wp2_with fail
  go_ret
  exact ⟨rfl, HS.out, Chg.refl _ _⟩

set_option maxRecDepth 100000 in
set_option maxHeartbeats 1000000 in
theorem Rb.lendLeft2 (g gl gr : Nat) (c cl cr : Bool) (ll rl lr rr : Tr Int) (x xl xr : Int) (th : Nat) (rt : Value) (n : Int) (w : World) (hst : St w (.node g c (.node gl cl ll xl rl) x (.node gr cr lr xr rr))) (hd : (Tr.node g c (.node gl cl ll xl rl) x (.node gr cr lr xr rr)).blocks.Nodup)
    (hn : (Tr.node g c (.node gl cl ll xl rl) x (.node gr cr lr xr rr)).list.length ≤ 900000) (he : Env w th rt n) (hld : Tr.lend (.node gl cl ll xl rl) = false) (hb : lr.red = false) :
    Calls Try.prog 91 #[.pointer (some ⟨th, 0, none⟩), .pointer (some ⟨g, 0, none⟩)] w (Turns (ptr (Tr.node g (!c) (.node gl (!cl) ll xl rl) x (.node gr (!cr) lr xr rr))) (.node g (!c) (.node gl (!cl) ll xl rl) x (.node gr (!cr) lr xr rr)) (Tr.node g c (.node gl cl ll xl rl) x (.node gr cr lr xr rr)).blocks w) := by
  have HS := hid hst
  have HE := hid he
  have HD := hid hd
  have HN := hid hn
  obtain ⟨⟨A, m, k, hc⟩, hl, hr⟩ := hst
  have c2 := hc.at2
  have c3 := hc.at3
  have HL := hid hl
  have HR := hid hr
  clear hc hl hr hd hn he
  try simp only [ptr_node] at c2 c3 ⊢
  have HLD := hid hld
  have HB := hid hb
  clear hld hb
  go_enter Try.func91, Try.ntmps91
  go_wp2_with fail
  refine (Rb.canLend gl cl (ll) (rl) xl _ (HL.out)).mono ?_
  rintro e0 w0 ⟨rfl, rfl⟩
  rw [HLD.out]
  go_wp2_with fail
  refine (Rb.flip g gl gr c cl cr x xl xr ll rl lr rr _ (HS.out) (HD.out)).mono ?_
  rintro e1 w1 ⟨rfl, hs1, hw1⟩
  have HS1 := hid hs1
  have HW1 := hid hw1
  have HE1 := hid (HE.out.turned (HS.out) hw1)
  obtain ⟨⟨A1, m1, k1, hc1⟩, hl1, hr1⟩ := hs1
  have z2 := hc1.at2
  have z3 := hc1.at3
  have HL1 := hid hl1
  have HR1 := hid hr1
  obtain ⟨⟨v1, _, hc2⟩, hll1, _⟩ := hr1
  have z4 := hc2.at2
  have HLL1 := hid hll1
  clear hc1 hl1 hc2 hll1 hw1 c2 c3
  try simp only [Tr.neg, ptr_node] at z2
  try simp only [Tr.neg, ptr_node] at z3
  try simp only [Tr.neg, ptr_node] at z4
  go_wp2_with fail
  refine (Rb.isRed (lr) _ (HLL1.out.st)).mono ?_
  rintro e0 w0 ⟨rfl, rfl⟩
  rw [HB.out]
  go_wp2_with fail
  go_ret
  exact ⟨rfl, HS1.out, HW1.out⟩

set_option maxRecDepth 100000 in
set_option maxHeartbeats 1000000 in
theorem Rb.lendRight2 (g gl gr : Nat) (c cl cr : Bool) (ll rl lr rr : Tr Int) (x xl xr : Int) (th : Nat) (rt : Value) (n : Int) (w : World) (hst : St w (.node g c (.node gl cl ll xl rl) x (.node gr cr lr xr rr))) (hd : (Tr.node g c (.node gl cl ll xl rl) x (.node gr cr lr xr rr)).blocks.Nodup)
    (hn : (Tr.node g c (.node gl cl ll xl rl) x (.node gr cr lr xr rr)).list.length ≤ 900000) (he : Env w th rt n) (hld : Tr.lend (.node gr cr lr xr rr) = false) (hb : ll.red = false) :
    Calls Try.prog 95 #[.pointer (some ⟨th, 0, none⟩), .pointer (some ⟨g, 0, none⟩)] w (Turns (ptr (Tr.node g (!c) (.node gl (!cl) ll xl rl) x (.node gr (!cr) lr xr rr))) (.node g (!c) (.node gl (!cl) ll xl rl) x (.node gr (!cr) lr xr rr)) (Tr.node g c (.node gl cl ll xl rl) x (.node gr cr lr xr rr)).blocks w) := by
  have HS := hid hst
  have HE := hid he
  have HD := hid hd
  have HN := hid hn
  obtain ⟨⟨A, m, k, hc⟩, hl, hr⟩ := hst
  have c2 := hc.at2
  have c3 := hc.at3
  have HL := hid hl
  have HR := hid hr
  clear hc hl hr hd hn he
  try simp only [ptr_node] at c2 c3 ⊢
  have HLD := hid hld
  have HB := hid hb
  clear hld hb
  go_enter Try.func95, Try.ntmps95
  go_wp2_with fail
  refine (Rb.canLend gr cr (lr) (rr) xr _ (HR.out)).mono ?_
  rintro e0 w0 ⟨rfl, rfl⟩
  rw [HLD.out]
  go_wp2_with fail
  refine (Rb.flip g gl gr c cl cr x xl xr ll rl lr rr _ (HS.out) (HD.out)).mono ?_
  rintro e1 w1 ⟨rfl, hs1, hw1⟩
  have HS1 := hid hs1
  have HW1 := hid hw1
  have HE1 := hid (HE.out.turned (HS.out) hw1)
  obtain ⟨⟨A1, m1, k1, hc1⟩, hl1, hr1⟩ := hs1
  have z2 := hc1.at2
  have z3 := hc1.at3
  have HL1 := hid hl1
  have HR1 := hid hr1
  obtain ⟨⟨v1, _, hc2⟩, hll1, _⟩ := hl1
  have z4 := hc2.at2
  have HLL1 := hid hll1
  clear hc1 hr1 hc2 hll1 hw1 c2 c3
  try simp only [Tr.neg, ptr_node] at z2
  try simp only [Tr.neg, ptr_node] at z3
  try simp only [Tr.neg, ptr_node] at z4
  go_wp2_with fail
  refine (Rb.isRed (ll) _ (HLL1.out.st)).mono ?_
  rintro e0 w0 ⟨rfl, rfl⟩
  rw [HB.out]
  go_wp2_with fail
  go_ret
  exact ⟨rfl, HS1.out, HW1.out⟩

set_option maxRecDepth 100000 in
set_option maxHeartbeats 1000000 in
theorem Rb.lendRight3 (g gl gr h : Nat) (c cl cr : Bool) (a b rl lr rr : Tr Int) (x xl xr z : Int) (th : Nat) (rt : Value) (n : Int) (w : World) (hst : St w (.node g c (.node gl cl (.node h true a z b) xl rl) x (.node gr cr lr xr rr))) (hd : (Tr.node g c (.node gl cl (.node h true a z b) xl rl) x (.node gr cr lr xr rr)).blocks.Nodup)
    (hn : (Tr.node g c (.node gl cl (.node h true a z b) xl rl) x (.node gr cr lr xr rr)).list.length ≤ 900000) (he : Env w th rt n) (hld : Tr.lend (.node gr cr lr xr rr) = false) :
    Calls Try.prog 95 #[.pointer (some ⟨th, 0, none⟩), .pointer (some ⟨g, 0, none⟩)] w (Turns (ptr (Tr.node gl c (.node h false a z b) xl (.node g false rl x (.node gr (!cr) lr xr rr)))) (.node gl c (.node h false a z b) xl (.node g false rl x (.node gr (!cr) lr xr rr))) (Tr.node g c (.node gl cl (.node h true a z b) xl rl) x (.node gr cr lr xr rr)).blocks w) := by
  have HS := hid hst
  have HE := hid he
  have HD := hid hd
  have HN := hid hn
  obtain ⟨⟨A, m, k, hc⟩, hl, hr⟩ := hst
  have c2 := hc.at2
  have c3 := hc.at3
  have HL := hid hl
  have HR := hid hr
  clear hc hl hr hd hn he
  try simp only [ptr_node] at c2 c3 ⊢
  have HLD := hid hld
  clear hld
  go_enter Try.func95, Try.ntmps95
  go_wp2_with fail
  refine (Rb.canLend gr cr (lr) (rr) xr _ (HR.out)).mono ?_
  rintro e0 w0 ⟨rfl, rfl⟩
  rw [HLD.out]
  go_wp2_with fail
  refine (Rb.flip g gl gr c cl cr x xl xr (.node h true a z b) rl lr rr _ (HS.out) (HD.out)).mono ?_
  rintro e1 w1 ⟨rfl, hs1, hw1⟩
  have HS1 := hid hs1
  have HW1 := hid hw1
  have HE1 := hid (HE.out.turned (HS.out) hw1)
  obtain ⟨⟨A1, m1, k1, hc1⟩, hl1, hr1⟩ := hs1
  have z2 := hc1.at2
  have z3 := hc1.at3
  have HL1 := hid hl1
  have HR1 := hid hr1
  obtain ⟨⟨v1, _, hc2⟩, hll1, _⟩ := hl1
  have z4 := hc2.at2
  have HLL1 := hid hll1
  clear hc1 hr1 hc2 hll1 hw1 c2 c3
  try simp only [Tr.neg, ptr_node] at z2
  try simp only [Tr.neg, ptr_node] at z3
  try simp only [Tr.neg, ptr_node] at z4
  go_wp2_with fail
  refine (Rb.isRed (.node h true a z b) _ (HLL1.out.st)).mono ?_
  rintro e0 w0 ⟨rfl, rfl⟩
  simp only [Tr.red]
  go_wp2_with fail
  refine (Rb.turnRight th g gl (!c) (!cl) (.node h true a z b) rl (.node gr (!cr) lr xr rr) x xl rt n _ HS1.out HD.out HN.out HE1.out).mono ?_
  rintro e2 w2 ⟨rfl, hs2, hw2⟩
  have HS2 := hid hs2
  have HW2 := hid hw2
  clear hs2 hw2 z2 z3 z4
  have hp : (Tr.node gl (!c) (.node h true a z b) xl (.node g true rl x (.node gr (!cr) lr xr rr))).blocks.Perm (Tr.node g (!c) (.node gl (!cl) (.node h true a z b) xl rl) x (.node gr (!cr) lr xr rr)).blocks := Tr.perm_turnRight (Tr.node g (!c) (.node gl (!cl) (.node h true a z b) xl rl) x (.node gr (!cr) lr xr rr))
  have HP := hid hp
  clear hp
  go_wp2_with fail
  refine (Rb.flip gl h g (!c) true true xl z x a b rl (.node gr (!cr) lr xr rr) _ HS2.out (HP.out.nodup_iff.2 HD.out)).mono ?_
  rintro e3 w3 ⟨rfl, hs3, hw3⟩
  have HS3 := hid hs3
  have HW3 := hid hw3
  clear hs3 hw3
  go_wp2_with fail
  go_ret
  refine ⟨rfl, ?_, (HW1.out.trans HW2.out (fun j hj => Or.inl hj)).trans HW3.out (fun j hj => Or.inl (HP.out.mem_iff.1 hj))⟩
  have := HS3.out
  simpa [Tr.flip, Tr.neg] using this

set_option maxRecDepth 100000 in
set_option maxHeartbeats 1000000 in
theorem Rb.lendLeft3 (g gl gr h : Nat) (c cl cr : Bool) (ll rl a b rr : Tr Int) (x xl xr z : Int) (th : Nat) (rt : Value) (n : Int) (w : World) (hst : St w (.node g c (.node gl cl ll xl rl) x (.node gr cr (.node h true a z b) xr rr))) (hd : (Tr.node g c (.node gl cl ll xl rl) x (.node gr cr (.node h true a z b) xr rr)).blocks.Nodup)
    (hn : (Tr.node g c (.node gl cl ll xl rl) x (.node gr cr (.node h true a z b) xr rr)).list.length ≤ 900000) (he : Env w th rt n) (hld : Tr.lend (.node gl cl ll xl rl) = false) :
    Calls Try.prog 91 #[.pointer (some ⟨th, 0, none⟩), .pointer (some ⟨g, 0, none⟩)] w (Turns (ptr (Tr.node h c (.node g false (.node gl (!cl) ll xl rl) x a) z (.node gr false b xr rr))) (.node h c (.node g false (.node gl (!cl) ll xl rl) x a) z (.node gr false b xr rr)) (Tr.node g c (.node gl cl ll xl rl) x (.node gr cr (.node h true a z b) xr rr)).blocks w) := by
  have HS := hid hst
  have HE := hid he
  have HD := hid hd
  have HN := hid hn
  obtain ⟨⟨A, m, k, hc⟩, hl, hr⟩ := hst
  have c2 := hc.at2
  have c3 := hc.at3
  have HL := hid hl
  have HR := hid hr
  clear hc hl hr hd hn he
  try simp only [ptr_node] at c2 c3 ⊢
  have HLD := hid hld
  clear hld
  go_enter Try.func91, Try.ntmps91
  go_wp2_with fail
  refine (Rb.canLend gl cl (ll) (rl) xl _ (HL.out)).mono ?_
  rintro e0 w0 ⟨rfl, rfl⟩
  rw [HLD.out]
  go_wp2_with fail
  refine (Rb.flip g gl gr c cl cr x xl xr ll rl (.node h true a z b) rr _ (HS.out) (HD.out)).mono ?_
  rintro e1 w1 ⟨rfl, hs1, hw1⟩
  have HS1 := hid hs1
  have HW1 := hid hw1
  have HE1 := hid (HE.out.turned (HS.out) hw1)
  obtain ⟨⟨A1, m1, k1, hc1⟩, hl1, hr1⟩ := hs1
  have z2 := hc1.at2
  have z3 := hc1.at3
  have HL1 := hid hl1
  have HR1 := hid hr1
  obtain ⟨⟨v1, _, hc2⟩, hll1, _⟩ := hr1
  have z4 := hc2.at2
  have HLL1 := hid hll1
  clear hc1 hl1 hc2 hll1 hw1 c2 c3
  try simp only [Tr.neg, ptr_node] at z2
  try simp only [Tr.neg, ptr_node] at z3
  try simp only [Tr.neg, ptr_node] at z4
  go_wp2_with fail
  refine (Rb.isRed (.node h true a z b) _ (HLL1.out.st)).mono ?_
  rintro e0 w0 ⟨rfl, rfl⟩
  simp only [Tr.red]
  have HD4 := hid (nodup_node HD.out).2.2.2.1
  go_wp2_with fail
  refine (Rb.turnRight th gr h (!cr) true a b rr xr z rt n _ HR1.out.st HD4.out (by have := HN.out; simp only [Tr.list, List.length_append, List.length_cons] at this ⊢; omega) HE1.out).mono ?_
  rintro e2 w2 ⟨rfl, hs2, hw2⟩
  have hp : (Tr.node h (!cr) a z (.node gr true b xr rr)).blocks.Perm (Tr.node gr (!cr) (.node h true a z b) xr rr).blocks := Tr.perm_turnRight (Tr.node gr (!cr) (.node h true a z b) xr rr)
  have HP := hid hp
  have HX := hid (StL.set HS1.out HE1.out HD.out hs2 hw2 hp (fun W hn hg e => by rw [e]; exact hs2.far hn hg _ _))
  clear hs2 hw2 z2 z3 z4 hp
  have q2 := HX.out.1
  have q3 := HX.out.2.1
  try simp only [Tr.neg, ptr_node] at q2
  go_wp2_with fail
  have HW : Hid (∃ W, W = w2.setCell ⟨g, 3, none⟩ (.pointer (some ⟨h, 0, none⟩)) ∧ StL W (.node g (!c) (.node gl (!cl) ll xl rl) x (.node h (!cr) a z (.node gr true b xr rr))) ∧ Env W th rt n ∧ Chg (Tr.node g (!c) (.node gl (!cl) ll xl rl) x (.node gr (!cr) (.node h true a z b) xr rr)).blocks w1 W) := hid ⟨_, rfl, HX.out.2.2.1, HX.out.2.2.2.1, HX.out.2.2.2.2⟩
  obtain ⟨W, hW, HF⟩ := HW
  rw [← hW]
  clear hW q2 q3
  have HF := hid HF
  have HP2 : Hid ((Tr.node g (!c) (.node gl (!cl) ll xl rl) x (.node h (!cr) a z (.node gr true b xr rr))).blocks.Perm (Tr.node g c (.node gl cl ll xl rl) x (.node gr cr (.node h true a z b) xr rr)).blocks) := hid ((HP.out.append_left _).cons g)
  refine (Rb.turnLeft th g h (!c) (!cr) (.node gl (!cl) ll xl rl) a (.node gr true b xr rr) x z rt n W HF.out.1 (HP2.out.nodup_iff.2 HD.out) (by have := HN.out; simp only [Tr.list, List.length_append, List.length_cons] at this ⊢; omega) HF.out.2.1).mono ?_
  rintro e4 w4 ⟨rfl, hs4, hw4⟩
  have HS4 := hid hs4
  have HW4 := hid hw4
  clear hs4 hw4
  have HP3 : Hid ((Tr.node h (!c) (.node g true (.node gl (!cl) ll xl rl) x a) z (.node gr true b xr rr)).blocks.Perm (Tr.node g c (.node gl cl ll xl rl) x (.node gr cr (.node h true a z b) xr rr)).blocks) := hid ((Tr.perm_turnLeft (Tr.node g (!c) (.node gl (!cl) ll xl rl) x (.node h (!cr) a z (.node gr true b xr rr)))).trans HP2.out)
  go_wp2_with fail
  refine (Rb.flip h g gr (!c) true true z x xr (.node gl (!cl) ll xl rl) a b rr _ HS4.out (HP3.out.nodup_iff.2 HD.out)).mono ?_
  rintro e5 w5 ⟨rfl, hs5, hw5⟩
  have HS5 := hid hs5
  have HW5 := hid hw5
  clear hs5 hw5
  go_wp2_with fail
  go_ret
  refine ⟨rfl, ?_, ((HW1.out.trans HF.out.2.2 (fun j hj => Or.inl hj)).trans HW4.out (fun j hj => Or.inl (HP2.out.mem_iff.1 hj))).trans HW5.out (fun j hj => Or.inl (HP3.out.mem_iff.1 hj))⟩
  have := HS5.out
  simpa [Tr.flip, Tr.neg] using this


theorem Rb.lendLeft (g : Nat) (c : Bool) (l r : Tr Int) (x : Int) (th : Nat) (rt : Value) (n : Int) (w : World) (hst : St w (.node g c l x r)) (hd : (Tr.node g c l x r).blocks.Nodup)
    (hn : (Tr.node g c l x r).list.length ≤ 900000) (he : Env w th rt n) (hl : l ≠ .nil) (hr : l.lend = false → r ≠ .nil) :
    Calls Try.prog 91 #[.pointer (some ⟨th, 0, none⟩), .pointer (some ⟨g, 0, none⟩)] w (Turns (ptr (Tr.lendLeft (.node g c l x r))) (Tr.lendLeft (.node g c l x r)) (Tr.node g c l x r).blocks w) := by
  cases l with
  | nil => exact absurd rfl hl
  | node gl cl ll xl rl =>
    cases hld : Tr.lend (.node gl cl ll xl rl) with
    | true =>
      have e : Tr.lendLeft (.node g c (.node gl cl ll xl rl) x r) = .node g c (.node gl cl ll xl rl) x r := by simp [Tr.lendLeft, Tr.left_node, hld]
      rw [e]
      exact Rb.lendLeft1 g gl c cl ll rl r x xl th rt n w hst hd hn he hld
    | false =>
      cases r with
      | nil => exact absurd rfl (hr hld)
      | node gr cr lr xr rr =>
        cases hb : lr.red with
        | false =>
          have e : Tr.lendLeft (.node g c (.node gl cl ll xl rl) x (.node gr cr lr xr rr)) = .node g (!c) (.node gl (!cl) ll xl rl) x (.node gr (!cr) lr xr rr) := by simp [Tr.lendLeft, Tr.lendLeft2, Tr.left_node, Tr.right_node, hld, Tr.flip, Tr.neg, hb]
          rw [e]
          exact Rb.lendLeft2 g gl gr c cl cr ll rl lr rr x xl xr th rt n w hst hd hn he hld hb
        | true =>
          cases lr with
          | nil => simp [Tr.red] at hb
          | node h d a z b =>
            simp only [Tr.red] at hb
            subst hb
            have e : Tr.lendLeft (.node g c (.node gl cl ll xl rl) x (.node gr cr (.node h true a z b) xr rr)) = .node h c (.node g false (.node gl (!cl) ll xl rl) x a) z (.node gr false b xr rr) := by simp [Tr.lendLeft, Tr.lendLeft2, Tr.left_node, Tr.right_node, hld, Tr.flip, Tr.neg, Tr.red_node, Tr.turnLeft, Tr.turnRight, Tr.setRight]
            rw [e]
            exact Rb.lendLeft3 g gl gr h c cl cr ll rl a b rr x xl xr z th rt n w hst hd hn he hld
theorem Rb.lendRight (g : Nat) (c : Bool) (l r : Tr Int) (x : Int) (th : Nat) (rt : Value) (n : Int) (w : World) (hst : St w (.node g c l x r)) (hd : (Tr.node g c l x r).blocks.Nodup)
    (hn : (Tr.node g c l x r).list.length ≤ 900000) (he : Env w th rt n) (hr : r ≠ .nil) (hl : r.lend = false → l ≠ .nil) :
    Calls Try.prog 95 #[.pointer (some ⟨th, 0, none⟩), .pointer (some ⟨g, 0, none⟩)] w (Turns (ptr (Tr.lendRight (.node g c l x r))) (Tr.lendRight (.node g c l x r)) (Tr.node g c l x r).blocks w) := by
  cases r with
  | nil => exact absurd rfl hr
  | node gr cr lr xr rr =>
    cases hld : Tr.lend (.node gr cr lr xr rr) with
    | true =>
      have e : Tr.lendRight (.node g c l x (.node gr cr lr xr rr)) = .node g c l x (.node gr cr lr xr rr) := by simp [Tr.lendRight, Tr.right_node, hld]
      rw [e]
      exact Rb.lendRight1 g gr c cr l lr rr x xr th rt n w hst hd hn he hld
    | false =>
      cases l with
      | nil => exact absurd rfl (hl hld)
      | node gl cl ll xl rl =>
        cases hb : ll.red with
        | false =>
          have e : Tr.lendRight (.node g c (.node gl cl ll xl rl) x (.node gr cr lr xr rr)) = .node g (!c) (.node gl (!cl) ll xl rl) x (.node gr (!cr) lr xr rr) := by simp [Tr.lendRight, Tr.lendRight2, Tr.left_node, Tr.right_node, hld, Tr.flip, Tr.neg, hb]
          rw [e]
          exact Rb.lendRight2 g gl gr c cl cr ll rl lr rr x xl xr th rt n w hst hd hn he hld hb
        | true =>
          cases ll with
          | nil => simp [Tr.red] at hb
          | node h d a z b =>
            simp only [Tr.red] at hb
            subst hb
            have e : Tr.lendRight (.node g c (.node gl cl (.node h true a z b) xl rl) x (.node gr cr lr xr rr)) = .node gl c (.node h false a z b) xl (.node g false rl x (.node gr (!cr) lr xr rr)) := by simp [Tr.lendRight, Tr.lendRight2, Tr.left_node, Tr.right_node, hld, Tr.flip, Tr.neg, Tr.red_node, Tr.turnRight]
            rw [e]
            exact Rb.lendRight3 g gl gr h c cl cr a b rl lr rr x xl xr z th rt n w hst hd hn he hld

end Go.Proofs.Ytcnmobehamgmbaa

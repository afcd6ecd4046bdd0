/- Texts of WeighAlone's proof, together. -/
import Derived.Test.YthmilhhihcmdhaaGreatDoorDtB
import Derived.StillTailTactics
namespace Go.Proofs.YthmilhhihcmdhaaGreatDoor
/- The tree of items: turning. -/
section
open Go.RowKit
theorem DIn.far {w : World} {t : Tr It} (h : DIn w t) {g : Nat} (hn : DNl w g) (hg : g ∉ t.blocks) (o : Nat) (u : Value) : DIn (w.setCell ⟨g, o, none⟩ u) t :=
  h.chg (F := [g]) ((Chg.refl [g] w).set (Or.inl (by simp)) o u) (fun k hk => by simp at hk; subst hk; exact hn) (fun k hk hk' => by simp at hk'; subst hk'; exact hg hk)
theorem DIn.drew {w : World} {t : Tr It} (h : DIn w t) : DIn w.drew t := h.below ((Below.refl _ _).drew)
theorem DNl.chg {F : List Nat} {w w' : World} {g : Nat} (h : DNl w g) (hc : Chg F w w') (hg : g ∉ F) : DNl w' g := by
  obtain ⟨u, e⟩ := h
  exact ⟨u, (hc.cell (p := ⟨g, 14, none⟩) (World.block_lt_of_cell? w _ e) hg).trans e⟩
/-- What a call answers that turns a tree. -/
def DTurns (v : Value) (t' : Tr It) (F : List Nat) (w : World) (e : Ending) (w' : World) : Prop := e = .returned v ∧ DSt w' t' ∧ Chg F w w'
/-- A node whose parts are told apart. -/
theorem Dnodup_node {g : Nat} {c : Bool} {l r : Tr It} {x : It} (h : (Tr.node g c l x r).blocks.Nodup) : g ∉ l.blocks ∧ g ∉ r.blocks ∧ l.blocks.Nodup ∧ r.blocks.Nodup ∧ (∀ a ∈ l.blocks, a ∉ r.blocks) := by
  simp only [Tr.blocks, List.nodup_cons, List.nodup_append, List.mem_append, not_or] at h
  exact ⟨h.1.1, h.1.2, h.2.1, h.2.2.1, fun a ha hb => h.2.2.2 a ha a hb rfl⟩
theorem DIn.paint {w : World} {g : Nat} {c d : Bool} {l r : Tr It} {x : It} (h : DIn w (.node g c l x r)) (hg : g ∉ l.blocks ∧ g ∉ r.blocks) : DIn (w.setCell ⟨g, 16, none⟩ (.bool d)) (.node g d l x r) := by
  have hn := h.nl g (by simp [Tr.blocks])
  obtain ⟨⟨v, hv, hc⟩, hl, hr⟩ := h
  exact ⟨⟨v, hv, hc.nds4 d⟩, hl.far hn hg.1 _ _, hr.far hn hg.2 _ _⟩
set_option maxHeartbeats 1000000 in
set_option maxRecDepth 100000 in
theorem Dt.flip (g gl gr : Nat) (c cl cr : Bool) (x xl xr : It) (ll rl lr rr : Tr It) (w : World) (h : DSt w (.node g c (.node gl cl ll xl rl) x (.node gr cr lr xr rr)))
    (hd : (Tr.node g c (.node gl cl ll xl rl) x (.node gr cr lr xr rr)).blocks.Nodup) :
    Calls Tryz.prog 183 #[.pointer (some ⟨g, 0, none⟩)] w (DTurns (.tuple #[]) (Tr.flip (.node g c (.node gl cl ll xl rl) x (.node gr cr lr xr rr))) (Tr.node g c (.node gl cl ll xl rl) x (.node gr cr lr xr rr)).blocks w) := by
  obtain ⟨d1, d2, d3, d4, d5⟩ := Dnodup_node hd
  obtain ⟨e1, e2, _⟩ := Dnodup_node d3
  obtain ⟨f1, f2, _⟩ := Dnodup_node d4
  have hgl : g ≠ gl := fun e => d1 (by simp [Tr.blocks, e])
  have hgr : g ≠ gr := fun e => d2 (by simp [Tr.blocks, e])
  have hlr : gl ≠ gr := fun e => d5 gl (by simp [Tr.blocks]) (by simp [Tr.blocks, e])
  have hn := h.nl g (by simp [Tr.blocks])
  have HN := hid (DIn.nl h.2.1)
  have HNr := hid (DIn.nl h.2.2)
  obtain ⟨⟨A, n, k, hc⟩, hl, hr⟩ := id h
  have HF := hid (show Cs (w.setCell ⟨g, 16, none⟩ (.bool !c)) g (nd x A (.pointer (some ⟨gl, 0, none⟩)) (.pointer (some ⟨gr, 0, none⟩)) (!c)) ∧ DIn (w.setCell ⟨g, 16, none⟩ (.bool !c)) (.node gl cl ll xl rl) ∧ DIn (w.setCell ⟨g, 16, none⟩ (.bool !c)) (.node gr cr lr xr rr) ∧ Chg (Tr.node g c (.node gl cl ll xl rl) x (.node gr cr lr xr rr)).blocks w (w.setCell ⟨g, 16, none⟩ (.bool !c)) from
    ⟨hc.nds4 _, hl.far hn d1 _ _, hr.far hn d2 _ _, (Chg.refl _ _).set (Or.inl (by simp [Tr.blocks])) _ _⟩)
  have c4 := hc.nd4
  have c5 := hc.ndf4
  clear h hc hn hd hl hr
  go_enter Tryz.func183, Tryz.ntmps183
  go_wp2_with fail
  generalize w.setCell ⟨g, 16, none⟩ (.bool !c) = W1 at HF ⊢
  clear c4 c5
  have q2 := HF.out.1.nd2
  obtain ⟨v1, _, k1⟩ := HF.out.2.1.1
  have q4 := k1.nd4
  have q5 := k1.ndf4
  clear k1
  go_still_tail 14, (by kernel_rfl)
  change wpList _ _ _ _ _ W1.drew
  have HF2 : Hid (∃ W2, W2 = W1.drew.setCell ⟨gl, 16, none⟩ (.bool !cl) ∧ Cs W2 g (nd x A (.pointer (some ⟨gl, 0, none⟩)) (.pointer (some ⟨gr, 0, none⟩)) (!c)) ∧ DIn W2 (.node gl (!cl) ll xl rl) ∧ DIn W2 (.node gr cr lr xr rr) ∧ Chg (Tr.node g c (.node gl cl ll xl rl) x (.node gr cr lr xr rr)).blocks w W2) := hid (by
    obtain ⟨z0, z1, z2, z3⟩ := HF.out
    have hn := z1.nl gl (by simp [Tr.blocks])
    refine ⟨_, rfl, z0.drew.far (Ne.symm hgl) _ _, z1.drew.paint ⟨e1, e2⟩, z2.drew.far hn (d5 gl (by simp [Tr.blocks])) _ _, ?_⟩
    exact (z3.trans (Chg.below ((Below.refl _ _).drew)) (G := []) (by simp)).set (Or.inl (by simp [Tr.blocks])) _ _)
  go_wp2_with fail
  obtain ⟨W2, hW, HF2⟩ := HF2
  rw [show (W1.setCell ⟨gl, 16, none⟩ (.bool !cl)).drew = W2 from hW.symm]
  clear q2 q4 q5 hW HF
  have HF := hid HF2
  clear HF2
  have q2 := HF.out.1.nd3
  obtain ⟨v2, _, k1⟩ := HF.out.2.2.1.1
  have q4 := k1.nd4
  have q5 := k1.ndf4
  clear k1
  go_still_tail 14, (by kernel_rfl)
  change wpList _ _ _ _ _ W2.drew
  have HF2 : Hid (∃ W3, W3 = W2.drew.setCell ⟨gr, 16, none⟩ (.bool !cr) ∧ DSt W3 (Tr.node g (!c) (.node gl (!cl) ll xl rl) x (.node gr (!cr) lr xr rr)) ∧ Chg (Tr.node g c (.node gl cl ll xl rl) x (.node gr cr lr xr rr)).blocks w W3) := hid (by
    obtain ⟨z0, z1, z2, z3⟩ := HF.out
    have hn := z2.nl gr (by simp [Tr.blocks])
    refine ⟨_, rfl, ⟨⟨A, n, k, z0.drew.far (Ne.symm hgr) _ _⟩, z1.drew.far hn (fun h => d5 gr (by simpa [Tr.blocks] using h) (by simp [Tr.blocks])) _ _, z2.drew.paint ⟨f1, f2⟩⟩, ?_⟩
    exact (z3.trans (Chg.below ((Below.refl _ _).drew)) (G := []) (by simp)).set (Or.inl (by simp [Tr.blocks])) _ _)
  go_wp2_with fail
  obtain ⟨W3, hW, HF3⟩ := HF2
  rw [show (W2.setCell ⟨gr, 16, none⟩ (.bool !cr)).drew = W3 from hW.symm]
  go_ways
  exact bodyPost_ret (v := .tuple #[]) (by simp [results, Tryz.results183, go_sem]) rfl ⟨rfl, HF3.1, HF3.2⟩
end

/- The tree of items: counting. -/
section
open Go.RowKit
set_option maxHeartbeats 1000000 in
theorem Dtree.itself (x : It) (w : World) : Calls Tryz.prog 130 #[x.val] w (Ans (It.val x) w) := by
  unfold It.val
  go_enter Tryz.func130, Tryz.ntmps130
  go_wp2_with fail
  refine bodyPost_ret (v := It.val x) (by simp [results, Tryz.results130, go_sem]) rfl ⟨rfl, ?_⟩
  exact ((Below.refl _ _).alloc (Nat.le_refl _) _).alloc (by simp) _
theorem RdI.new1 (w : World) (x : It) : RdI (w.alloc (.cells #[.int .u64 x.t, .int .u32 x.r, .int .u32 x.v, .int .i64 x.i, .int .u64 x.u, .int .u32 x.s, .int .u32 x.y] 143)) (some ⟨w.heap.size, 0, none⟩) 1 [x] :=
  ⟨rfl, fun i hi => ⟨w.heap.size, 0, rfl, by simp, fun j hj => by
    obtain rfl : j = 0 := by omega
    have h := (Cs.new7 w 143 x).th7
    exact h⟩⟩
/-- What is answered, stored. -/
theorem answer_it {w w1 : World} {b : Nat} (hb : w.heap.size ≤ b) (h : ∃ z : It, Cs w1 b z.cells) (hw : Below w.heap.size w w1) (k : It) : ∀ W, W = w1.setCells b 0 k.cells → Th W b k ∧ Below w.heap.size w W := fun W e => by
  obtain ⟨z, hc⟩ := h
  rw [e]
  exact ⟨(hc.stored k).th7, below_sets hb _ _ hw⟩
theorem there_it {w1 : World} {b : Nat} (h : ∃ z : It, Cs w1 b z.cells) : w1.there b 0 7 := by obtain ⟨z, hc⟩ := h; exact hc.there7
set_option maxRecDepth 100000 in
set_option maxHeartbeats 1000000 in
theorem Dtree.join (a b : It) (ha : a.In) (hb : b.In) (w : World) : Calls Tryz.prog 131 #[a.val, b.val] w (Ans (It.val (sooner a b)) w) := by
  have HA := hid ha
  have HB := hid hb
  have HS0 : Hid (Cs (((w.alloc (.cells #[.int .u64 a.t, .int .u32 a.r, .int .u32 a.v, .int .i64 a.i, .int .u64 a.u, .int .u32 a.s, .int .u32 a.y] 143)).alloc (.cells #[.int .u64 b.t, .int .u32 b.r, .int .u32 b.v, .int .i64 b.i, .int .u64 b.u, .int .u32 b.s, .int .u32 b.y] 143)).alloc (.cells #[.int .u64 0, .int .u32 0, .int .u32 0, .int .i64 0, .int .u64 0, .int .u32 0, .int .u32 0] 143)) (w.heap.size + 2) It.zero.cells ∧ Below w.heap.size w (((w.alloc (.cells #[.int .u64 a.t, .int .u32 a.r, .int .u32 a.v, .int .i64 a.i, .int .u64 a.u, .int .u32 a.s, .int .u32 a.y] 143)).alloc (.cells #[.int .u64 b.t, .int .u32 b.r, .int .u32 b.v, .int .i64 b.i, .int .u64 b.u, .int .u32 b.s, .int .u32 b.y] 143)).alloc (.cells #[.int .u64 0, .int .u32 0, .int .u32 0, .int .i64 0, .int .u64 0, .int .u32 0, .int .u32 0] 143))) := hid
    ⟨by have := Cs.new7 ((w.alloc (.cells #[.int .u64 a.t, .int .u32 a.r, .int .u32 a.v, .int .i64 a.i, .int .u64 a.u, .int .u32 a.s, .int .u32 a.y] 143)).alloc (.cells #[.int .u64 b.t, .int .u32 b.r, .int .u32 b.v, .int .i64 b.i, .int .u64 b.u, .int .u32 b.s, .int .u32 b.y] 143)) 143 It.zero; simp only [World.size_alloc] at this; exact this, (((Below.refl _ _).alloc (Nat.le_refl _) _).alloc (by simp) _).alloc (by simp; omega) _⟩
  have HR0 : Hid (RdI ((((w.alloc (.cells #[.int .u64 a.t, .int .u32 a.r, .int .u32 a.v, .int .i64 a.i, .int .u64 a.u, .int .u32 a.s, .int .u32 a.y] 143)).alloc (.cells #[.int .u64 b.t, .int .u32 b.r, .int .u32 b.v, .int .i64 b.i, .int .u64 b.u, .int .u32 b.s, .int .u32 b.y] 143)).alloc (.cells #[.int .u64 0, .int .u32 0, .int .u32 0, .int .i64 0, .int .u64 0, .int .u32 0, .int .u32 0] 143)).alloc (.cells #[.int .u64 b.t, .int .u32 b.r, .int .u32 b.v, .int .i64 b.i, .int .u64 b.u, .int .u32 b.s, .int .u32 b.y] 143)) (some ⟨w.heap.size + 3, 0, none⟩) 1 [b]) := hid (by
    have := RdI.new1 (((w.alloc (.cells #[.int .u64 a.t, .int .u32 a.r, .int .u32 a.v, .int .i64 a.i, .int .u64 a.u, .int .u32 a.s, .int .u32 a.y] 143)).alloc (.cells #[.int .u64 b.t, .int .u32 b.r, .int .u32 b.v, .int .i64 b.i, .int .u64 b.u, .int .u32 b.s, .int .u32 b.y] 143)).alloc (.cells #[.int .u64 0, .int .u32 0, .int .u32 0, .int .i64 0, .int .u64 0, .int .u32 0, .int .u32 0] 143)) b; simp only [World.size_alloc] at this; exact this)
  have HS1 : Hid (Cs ((((w.alloc (.cells #[.int .u64 a.t, .int .u32 a.r, .int .u32 a.v, .int .i64 a.i, .int .u64 a.u, .int .u32 a.s, .int .u32 a.y] 143)).alloc (.cells #[.int .u64 b.t, .int .u32 b.r, .int .u32 b.v, .int .i64 b.i, .int .u64 b.u, .int .u32 b.s, .int .u32 b.y] 143)).alloc (.cells #[.int .u64 0, .int .u32 0, .int .u32 0, .int .i64 0, .int .u64 0, .int .u32 0, .int .u32 0] 143)).alloc (.cells #[.int .u64 b.t, .int .u32 b.r, .int .u32 b.v, .int .i64 b.i, .int .u64 b.u, .int .u32 b.s, .int .u32 b.y] 143)) (w.heap.size + 2) It.zero.cells ∧ Below w.heap.size w ((((w.alloc (.cells #[.int .u64 a.t, .int .u32 a.r, .int .u32 a.v, .int .i64 a.i, .int .u64 a.u, .int .u32 a.s, .int .u32 a.y] 143)).alloc (.cells #[.int .u64 b.t, .int .u32 b.r, .int .u32 b.v, .int .i64 b.i, .int .u64 b.u, .int .u32 b.s, .int .u32 b.y] 143)).alloc (.cells #[.int .u64 0, .int .u32 0, .int .u32 0, .int .i64 0, .int .u64 0, .int .u32 0, .int .u32 0] 143)).alloc (.cells #[.int .u64 b.t, .int .u32 b.r, .int .u32 b.v, .int .i64 b.i, .int .u64 b.u, .int .u32 b.s, .int .u32 b.y] 143))) := hid
    ⟨HS0.out.1.alloc _, HS0.out.2.alloc (by simp; omega) _⟩
  clear ha hb HS0
  unfold It.val
  go_enter Tryz.func131, Tryz.ntmps131
  go_wp2_with fail
  refine (Item.soonest a (some ⟨w.heap.size + 3, 0, none⟩) 1 1 [b] _ HA.out HR0.out (fun x hx => by simp at hx; subst hx; exact HB.out) (by decide)).mono ?_
  rintro e w1 ⟨rfl, hb1⟩
  have HZ : Hid (∃ z : It, Cs w1 (w.heap.size + 2) z.cells) := hid ⟨It.zero, HS1.out.1.below hb1⟩
  have HAN := hid (answer_it (b := w.heap.size + 2) (by omega) HZ.out (below_on HS1.out.2 hb1) (sooner a b))
  have hth := there_it HZ.out
  have hev : [b].foldl sooner a = sooner a b := rfl
  rw [hev]
  clear hb1 hev
  go_wp2_with ((with_reducible refine wpList_put_it 143 infoItem rfl (.tmp 4) (.tmp 8) rfl (w.heap.size + 2) 0 (sooner a b) hth ?u1 ?u2 ?u3); (case u1 => rfl); (case u2 => rfl); (intro W2 hW2); (have HW := hid (HAN.out W2 hW2)); (clear hW2 hth); (obtain ⟨z0, z1, z2, z3, z4, z5, z6⟩ := HW.out.1))
  refine bodyPost_ret (v := It.val (sooner a b)) (by simp [results, Tryz.results131, go_sem, z0, z1, z2, z3, z4, z5, z6]) rfl ⟨rfl, HW.out.2⟩
set_option maxRecDepth 100000 in
set_option maxHeartbeats 2000000 in
theorem Dt.upTo0 (g b1 b2 : Nat) (x : It) (w : World) (hg : Th w g x) (h2 : w.cell? ⟨g, 14, none⟩ = some (.pointer none)) (h1 : Cs w b1 [(.func (.func 130) #[] #[])]) :
    Calls Tryz.prog 149 #[.pointer (some ⟨g, 0, none⟩), .pointer (some ⟨b1, 0, none⟩), .pointer (some ⟨b2, 0, none⟩)] w (Ans (It.val x) w) := by
  have hb0 := (Below.refl w.heap.size w).alloc (Nat.le_refl _) (.cells #[.int .u64 0, .int .u32 0, .int .u32 0, .int .i64 0, .int .u64 0, .int .u32 0, .int .u32 0] 143)
  have HG := hid (hg.below hb0)
  have HQ1 := hid (keep1 hb0 h1.at0)
  have q2 := keep1 hb0 h2
  have HZ : Hid (Cs (w.alloc (.cells #[.int .u64 0, .int .u32 0, .int .u32 0, .int .i64 0, .int .u64 0, .int .u32 0, .int .u32 0] 143)) w.heap.size It.zero.cells) := hid (Cs.new7 _ _ It.zero)
  have HB0 := hid hb0
  clear hg h2 h1 hb0
  unfold It.val
  go_enter Tryz.func149, Tryz.ntmps149
  go_wp2_with fail
  generalize (w.alloc (.cells #[.int .u64 0, .int .u32 0, .int .u32 0, .int .i64 0, .int .u64 0, .int .u32 0, .int .u32 0] 143)) = W0 at HG HQ1 q2 HZ HB0 ⊢
  refine wp_region_steady (S := Bl W0) 6 (by kernel_rfl) (Bl.drew W0) ?_
  refine wpAnyU_take (i := 0) (v := ?_) rfl (by kernel_rfl) (by kernel_rfl) (by kernel_rfl) (by kernel_rfl) (fun _ _ _ h => h) (Steady.of_yields (Or.inl ⟨by rfl, ?_⟩)) ?_
  rotate_left
  · intro wq hSw
    have hSB : Below _ _ _ := hSw
    obtain ⟨p0, p1, p2, p3, p4, p5, p6⟩ := HG.out.below hSB
    have q1 := keep1 hSB HQ1.out
    go_simp
    (try with_reducible rfl)
  try simp only [List.getElem_toArray, List.getElem_cons_zero, List.getElem_cons_succ, Act.put, List.setIfInBounds_toArray, List.set_cons_zero, List.set_cons_succ]
  refine wpAnyU_take (i := 1) (v := ?_) rfl (by kernel_rfl) (by kernel_rfl) (by kernel_rfl) (by kernel_rfl) (fun _ _ _ h => h) (Steady.of_yields (Or.inl ⟨by rfl, ?_⟩)) ?_
  rotate_left
  · intro wq hSw
    go_simp
    (try with_reducible rfl)
  try simp only [List.getElem_toArray, List.getElem_cons_zero, List.getElem_cons_succ, Act.put, List.setIfInBounds_toArray, List.set_cons_zero, List.set_cons_succ]
  refine wpAnyU_take (i := 2) (v := ?_) rfl (by kernel_rfl) (by kernel_rfl) (by kernel_rfl) (by kernel_rfl) (fun _ _ _ h => h) (Steady.of_yields (Or.inl ⟨by rfl, ?_⟩)) ?_
  rotate_left
  · intro wq hSw
    go_simp
    (try with_reducible rfl)
  try simp only [List.getElem_toArray, List.getElem_cons_zero, List.getElem_cons_succ, Act.put, List.setIfInBounds_toArray, List.set_cons_zero, List.set_cons_succ]
  refine wpAnyU_take (i := 3) (v := ?_) rfl (by kernel_rfl) (by kernel_rfl) (by kernel_rfl) (by kernel_rfl) (fun _ _ _ h => h) (Steady.of_yields (Or.inl ⟨by rfl, ?_⟩)) ?_
  rotate_left
  · intro wq hSw
    go_simp
    (try with_reducible rfl)
  try simp only [List.getElem_toArray, List.getElem_cons_zero, List.getElem_cons_succ, Act.put, List.setIfInBounds_toArray, List.set_cons_zero, List.set_cons_succ]
  refine wpAnyU_take (i := 4) (v := ?_) rfl (by kernel_rfl) (by kernel_rfl) (by kernel_rfl) (by kernel_rfl) (fun _ _ _ h => h) (Steady.of_yields (Or.inl ⟨by rfl, ?_⟩)) ?_
  rotate_left
  · intro wq hSw
    have hSB : Below _ _ _ := hSw
    obtain ⟨p0, p1, p2, p3, p4, p5, p6⟩ := HG.out.below hSB
    have q1 := keep1 hSB HQ1.out
    go_simp
    (try with_reducible rfl)
  try simp only [List.getElem_toArray, List.getElem_cons_zero, List.getElem_cons_succ, Act.put, List.setIfInBounds_toArray, List.set_cons_zero, List.set_cons_succ]
  refine wpAnyU_take (i := 5) (v := It.val x) rfl (by kernel_rfl) (by kernel_rfl) (by kernel_rfl) (by kernel_rfl) (fun _ _ _ h => h) (Or.inl ⟨by rfl, fun wq hSw => ?_⟩) ?_
  · refine SteadyRun.of_calls (Dtree.itself x wq) (by go_simp) ?_
    rintro e wr ⟨rfl, hb⟩
    exact ⟨rfl, hSw.on hb⟩
  try simp only [List.getElem_toArray, List.getElem_cons_zero, List.getElem_cons_succ, Act.put, List.setIfInBounds_toArray, List.set_cons_zero, List.set_cons_succ]
  refine wpAnyU_last rfl rfl (by kernel_rfl) (fun wz hSz => ?_)
  have HZ2 : Hid (∃ z : It, Cs wz w.heap.size z.cells) := hid ⟨It.zero, HZ.out.below hSz⟩
  have HAN := hid (answer_it (Nat.le_refl _) HZ2.out (below_on HB0.out hSz) x)
  have hth := there_it HZ2.out
  clear hSz q2
  go_wp2_with ((with_reducible refine wpList_put_it 143 infoItem rfl (.tmp 4) (.tmp 15) rfl w.heap.size 0 x hth ?u1 ?u2 ?u3); (case u1 => rfl); (case u2 => rfl); (intro W2 hW2); (have HW := hid (HAN.out W2 hW2)); (clear hW2 hth); (obtain ⟨z0, z1, z2, z3, z4, z5, z6⟩ := HW.out.1))
  refine bodyPost_ret (v := It.val x) (by simp [results, Tryz.results149, go_sem, z0, z1, z2, z3, z4, z5, z6]) rfl ⟨rfl, HW.out.2⟩
set_option maxRecDepth 100000 in
set_option maxHeartbeats 4000000 in
theorem Dt.upTo1 (g gl b1 b2 : Nat) (x k : It) (hx : x.In) (hk : k.In) (w : World) (hg : Th w g x) (h2 : w.cell? ⟨g, 14, none⟩ = some (.pointer (some ⟨gl, 0, none⟩))) (hm : Wh w gl k) (h1 : Cs w b1 [(.func (.func 130) #[] #[])]) (h3 : Cs w b2 [(.func (.func 131) #[] #[])]) :
    Calls Tryz.prog 149 #[.pointer (some ⟨g, 0, none⟩), .pointer (some ⟨b1, 0, none⟩), .pointer (some ⟨b2, 0, none⟩)] w (Ans (It.val (sooner k x)) w) := by
  have hb0 := (Below.refl w.heap.size w).alloc (Nat.le_refl _) (.cells #[.int .u64 0, .int .u32 0, .int .u32 0, .int .i64 0, .int .u64 0, .int .u32 0, .int .u32 0] 143)
  have HG := hid (hg.below hb0)
  have HM := hid (hm.below hb0)
  have HQ1 := hid (keep1 hb0 h1.at0)
  have HQ2 := hid (keep1 hb0 h3.at0)
  have HQ3 := hid (keep1 hb0 h2)
  have q3 := HQ3.out
  have HXI := hid hx
  have HKI := hid hk
  have HZ : Hid (Cs (w.alloc (.cells #[.int .u64 0, .int .u32 0, .int .u32 0, .int .i64 0, .int .u64 0, .int .u32 0, .int .u32 0] 143)) w.heap.size It.zero.cells) := hid (Cs.new7 _ _ It.zero)
  have HB0 := hid hb0
  clear hg h2 h1 h3 hm hb0 hx hk
  unfold It.val
  go_enter Tryz.func149, Tryz.ntmps149
  go_wp2_with fail
  generalize (w.alloc (.cells #[.int .u64 0, .int .u32 0, .int .u32 0, .int .i64 0, .int .u64 0, .int .u32 0, .int .u32 0] 143)) = W0 at HG HM HQ1 HQ2 HQ3 q3 HZ HB0 ⊢
  refine wp_region_steady (S := Bl W0) 15 (by kernel_rfl) (Bl.drew W0) ?_
  refine wpAnyU_take (i := 0) (v := ?_) rfl (by kernel_rfl) (by kernel_rfl) (by kernel_rfl) (by kernel_rfl) (fun _ _ _ h => h) (Steady.of_yields (Or.inl ⟨by rfl, ?_⟩)) ?_
  rotate_left
  · intro wq hSw
    have hSB : Below _ _ _ := hSw
    obtain ⟨p0, p1, p2, p3, p4, p5, p6⟩ := HG.out.below hSB
    obtain ⟨m0, m1, m2, m3, m4, m5, m6⟩ := HM.out.below hSB
    have q1 := keep1 hSB HQ1.out
    have q2 := keep1 hSB HQ2.out
    have q3 := keep1 hSB HQ3.out
    go_simp
    (try with_reducible rfl)
  try simp only [List.getElem_toArray, List.getElem_cons_zero, List.getElem_cons_succ, Act.put, List.setIfInBounds_toArray, List.set_cons_zero, List.set_cons_succ]
  refine wpAnyU_take (i := 1) (v := ?_) rfl (by kernel_rfl) (by kernel_rfl) (by kernel_rfl) (by kernel_rfl) (fun _ _ _ h => h) (Steady.of_yields (Or.inl ⟨by rfl, ?_⟩)) ?_
  rotate_left
  · intro wq hSw
    go_simp
    (try with_reducible rfl)
  try simp only [List.getElem_toArray, List.getElem_cons_zero, List.getElem_cons_succ, Act.put, List.setIfInBounds_toArray, List.set_cons_zero, List.set_cons_succ]
  refine wpAnyU_take (i := 2) (v := ?_) rfl (by kernel_rfl) (by kernel_rfl) (by kernel_rfl) (by kernel_rfl) (fun _ _ _ h => h) (Steady.of_yields (Or.inl ⟨by rfl, ?_⟩)) ?_
  rotate_left
  · intro wq hSw
    go_simp
    (try with_reducible rfl)
  try simp only [List.getElem_toArray, List.getElem_cons_zero, List.getElem_cons_succ, Act.put, List.setIfInBounds_toArray, List.set_cons_zero, List.set_cons_succ]
  refine wpAnyU_take (i := 3) (v := ?_) rfl (by kernel_rfl) (by kernel_rfl) (by kernel_rfl) (by kernel_rfl) (fun _ _ _ h => h) (Steady.of_yields (Or.inl ⟨by rfl, ?_⟩)) ?_
  rotate_left
  · intro wq hSw
    go_simp
    (try with_reducible rfl)
  try simp only [List.getElem_toArray, List.getElem_cons_zero, List.getElem_cons_succ, Act.put, List.setIfInBounds_toArray, List.set_cons_zero, List.set_cons_succ]
  refine wpAnyU_take (i := 4) (v := ?_) rfl (by kernel_rfl) (by kernel_rfl) (by kernel_rfl) (by kernel_rfl) (fun _ _ _ h => h) (Steady.of_yields (Or.inl ⟨by rfl, ?_⟩)) ?_
  rotate_left
  · intro wq hSw
    have hSB : Below _ _ _ := hSw
    obtain ⟨p0, p1, p2, p3, p4, p5, p6⟩ := HG.out.below hSB
    obtain ⟨m0, m1, m2, m3, m4, m5, m6⟩ := HM.out.below hSB
    have q1 := keep1 hSB HQ1.out
    have q2 := keep1 hSB HQ2.out
    have q3 := keep1 hSB HQ3.out
    go_simp
    (try with_reducible rfl)
  try simp only [List.getElem_toArray, List.getElem_cons_zero, List.getElem_cons_succ, Act.put, List.setIfInBounds_toArray, List.set_cons_zero, List.set_cons_succ]
  refine wpAnyU_take (i := 5) (v := ?_) rfl (by kernel_rfl) (by kernel_rfl) (by kernel_rfl) (by kernel_rfl) (fun _ _ _ h => h) (Steady.of_yields (Or.inl ⟨by rfl, ?_⟩)) ?_
  rotate_left
  · intro wq hSw
    go_simp
    (try with_reducible rfl)
  try simp only [List.getElem_toArray, List.getElem_cons_zero, List.getElem_cons_succ, Act.put, List.setIfInBounds_toArray, List.set_cons_zero, List.set_cons_succ]
  refine wpAnyU_take (i := 6) (v := ?_) rfl (by kernel_rfl) (by kernel_rfl) (by kernel_rfl) (by kernel_rfl) (fun _ _ _ h => h) (Steady.of_yields (Or.inl ⟨by rfl, ?_⟩)) ?_
  rotate_left
  · intro wq hSw
    go_simp
    (try with_reducible rfl)
  try simp only [List.getElem_toArray, List.getElem_cons_zero, List.getElem_cons_succ, Act.put, List.setIfInBounds_toArray, List.set_cons_zero, List.set_cons_succ]
  refine wpAnyU_take (i := 7) (v := ?_) rfl (by kernel_rfl) (by kernel_rfl) (by kernel_rfl) (by kernel_rfl) (fun _ _ _ h => h) (Steady.of_yields (Or.inl ⟨by rfl, ?_⟩)) ?_
  rotate_left
  · intro wq hSw
    have hSB : Below _ _ _ := hSw
    obtain ⟨p0, p1, p2, p3, p4, p5, p6⟩ := HG.out.below hSB
    obtain ⟨m0, m1, m2, m3, m4, m5, m6⟩ := HM.out.below hSB
    have q1 := keep1 hSB HQ1.out
    have q2 := keep1 hSB HQ2.out
    have q3 := keep1 hSB HQ3.out
    go_simp
    (try with_reducible rfl)
  try simp only [List.getElem_toArray, List.getElem_cons_zero, List.getElem_cons_succ, Act.put, List.setIfInBounds_toArray, List.set_cons_zero, List.set_cons_succ]
  refine wpAnyU_take (i := 8) (v := ?_) rfl (by kernel_rfl) (by kernel_rfl) (by kernel_rfl) (by kernel_rfl) (fun _ _ _ h => h) (Steady.of_yields (Or.inl ⟨by rfl, ?_⟩)) ?_
  rotate_left
  · intro wq hSw
    have hSB : Below _ _ _ := hSw
    obtain ⟨p0, p1, p2, p3, p4, p5, p6⟩ := HG.out.below hSB
    obtain ⟨m0, m1, m2, m3, m4, m5, m6⟩ := HM.out.below hSB
    have q1 := keep1 hSB HQ1.out
    have q2 := keep1 hSB HQ2.out
    have q3 := keep1 hSB HQ3.out
    go_simp
    (try with_reducible rfl)
  try simp only [List.getElem_toArray, List.getElem_cons_zero, List.getElem_cons_succ, Act.put, List.setIfInBounds_toArray, List.set_cons_zero, List.set_cons_succ]
  refine wpAnyU_take (i := 9) (v := ?_) rfl (by kernel_rfl) (by kernel_rfl) (by kernel_rfl) (by kernel_rfl) (fun _ _ _ h => h) (Steady.of_yields (Or.inl ⟨by rfl, ?_⟩)) ?_
  rotate_left
  · intro wq hSw
    go_simp
    (try with_reducible rfl)
  try simp only [List.getElem_toArray, List.getElem_cons_zero, List.getElem_cons_succ, Act.put, List.setIfInBounds_toArray, List.set_cons_zero, List.set_cons_succ]
  refine wpAnyU_take (i := 10) (v := ?_) rfl (by kernel_rfl) (by kernel_rfl) (by kernel_rfl) (by kernel_rfl) (fun _ _ _ h => h) (Steady.of_yields (Or.inl ⟨by rfl, ?_⟩)) ?_
  rotate_left
  · intro wq hSw
    go_simp
    (try with_reducible rfl)
  try simp only [List.getElem_toArray, List.getElem_cons_zero, List.getElem_cons_succ, Act.put, List.setIfInBounds_toArray, List.set_cons_zero, List.set_cons_succ]
  refine wpAnyU_take (i := 11) (v := ?_) rfl (by kernel_rfl) (by kernel_rfl) (by kernel_rfl) (by kernel_rfl) (fun _ _ _ h => h) (Steady.of_yields (Or.inl ⟨by rfl, ?_⟩)) ?_
  rotate_left
  · intro wq hSw
    go_simp
    (try with_reducible rfl)
  try simp only [List.getElem_toArray, List.getElem_cons_zero, List.getElem_cons_succ, Act.put, List.setIfInBounds_toArray, List.set_cons_zero, List.set_cons_succ]
  refine wpAnyU_take (i := 12) (v := ?_) rfl (by kernel_rfl) (by kernel_rfl) (by kernel_rfl) (by kernel_rfl) (fun _ _ _ h => h) (Steady.of_yields (Or.inl ⟨by rfl, ?_⟩)) ?_
  rotate_left
  · intro wq hSw
    have hSB : Below _ _ _ := hSw
    obtain ⟨p0, p1, p2, p3, p4, p5, p6⟩ := HG.out.below hSB
    obtain ⟨m0, m1, m2, m3, m4, m5, m6⟩ := HM.out.below hSB
    have q1 := keep1 hSB HQ1.out
    have q2 := keep1 hSB HQ2.out
    have q3 := keep1 hSB HQ3.out
    go_simp
    (try with_reducible rfl)
  try simp only [List.getElem_toArray, List.getElem_cons_zero, List.getElem_cons_succ, Act.put, List.setIfInBounds_toArray, List.set_cons_zero, List.set_cons_succ]
  refine wpAnyU_take (i := 13) (v := It.val x) rfl (by kernel_rfl) (by kernel_rfl) (by kernel_rfl) (by kernel_rfl) (fun _ _ _ h => h) (Or.inl ⟨by rfl, fun wq hSw => ?_⟩) ?_
  · refine SteadyRun.of_calls (Dtree.itself x wq) (by go_simp) ?_
    rintro e wr ⟨rfl, hb⟩
    exact ⟨rfl, hSw.on hb⟩
  try simp only [List.getElem_toArray, List.getElem_cons_zero, List.getElem_cons_succ, Act.put, List.setIfInBounds_toArray, List.set_cons_zero, List.set_cons_succ]
  refine wpAnyU_take (i := 14) (v := It.val (sooner k x)) rfl (by kernel_rfl) (by kernel_rfl) (by kernel_rfl) (by kernel_rfl) (fun _ _ _ h => h) (Or.inl ⟨by rfl, fun wq hSw => ?_⟩) ?_
  · refine SteadyRun.of_calls (Dtree.join k x HKI.out HXI.out wq) (by go_simp) ?_
    rintro e wr ⟨rfl, hb⟩
    exact ⟨rfl, hSw.on hb⟩
  try simp only [List.getElem_toArray, List.getElem_cons_zero, List.getElem_cons_succ, Act.put, List.setIfInBounds_toArray, List.set_cons_zero, List.set_cons_succ]
  refine wpAnyU_last rfl rfl (by kernel_rfl) (fun wz hSz => ?_)
  have HZ2 : Hid (∃ z : It, Cs wz w.heap.size z.cells) := hid ⟨It.zero, HZ.out.below hSz⟩
  have HAN := hid (answer_it (Nat.le_refl _) HZ2.out (below_on HB0.out hSz) (sooner k x))
  have hth := there_it HZ2.out
  clear hSz q3
  go_wp2_with ((with_reducible refine wpList_put_it 143 infoItem rfl (.tmp 4) (.tmp 30) rfl w.heap.size 0 (sooner k x) hth ?u1 ?u2 ?u3); (case u1 => rfl); (case u2 => rfl); (intro W2 hW2); (have HW := hid (HAN.out W2 hW2)); (clear hW2 hth); (obtain ⟨z0, z1, z2, z3, z4, z5, z6⟩ := HW.out.1))
  refine bodyPost_ret (v := It.val (sooner k x)) (by simp [results, Tryz.results149, go_sem, z0, z1, z2, z3, z4, z5, z6]) rfl ⟨rfl, HW.out.2⟩
/-- Of a node whose left part counts. -/
theorem Dt.upTo (g b1 b2 : Nat) (c : Bool) (l r : Tr It) (x : It) (w : World) (h : DSt w (.node g c l x r)) (h1 : Cs w b1 [(.func (.func 130) #[] #[])]) (h2 : Cs w b2 [(.func (.func 131) #[] #[])]) :
    Calls Tryz.prog 149 #[.pointer (some ⟨g, 0, none⟩), .pointer (some ⟨b1, 0, none⟩), .pointer (some ⟨b2, 0, none⟩)] w (Ans (It.val (bestL l x)) w) := by
  obtain ⟨⟨A, n, k, hc⟩, hl, hr⟩ := h
  cases l with
  | nil => exact Dt.upTo0 g b1 b2 x w hc.th hc.nd2 h1
  | node gl cl ll xl rl =>
    have hb := hl.best
    obtain ⟨⟨v, hv, hcl⟩, _⟩ := hl
    have e : bestL (.node gl cl ll xl rl) x = sooner v x := by
      show sooner (Tr.best (.node gl cl ll xl rl)) x = _
      rw [show Tr.best (.node gl cl ll xl rl) = v from hv.1.symm]
    rw [e]
    exact Dt.upTo1 g gl b1 b2 x v k hv.2.1 w hc.th hc.nd2 hcl.wh h1 h2
theorem bestL_in {w : World} {l : Tr It} {x : It} (hl : DIn w l) (hx : x.In) : (bestL l x).In := by
  unfold bestL; split; exact hx; exact sooner_in hl.best hx
set_option maxRecDepth 100000 in
set_option maxHeartbeats 4000000 in
theorem Dt.count (th g : Nat) (c : Bool) (l r : Tr It) (x : It) (rt : Value) (n : Int) (w : World) (h : DSt w (.node g c l x r)) (hd : (Tr.node g c l x r).blocks.Nodup) (_ : (Tr.node g c l x r).list.length ≤ 900000) (he : DEnv w th rt n) :
    Calls Tryz.prog 184 #[.pointer (some ⟨th, 0, none⟩), .pointer (some ⟨g, 0, none⟩)] w fun e w' => e = .returned (.tuple #[]) ∧ DIn w' (.node g c l x r) ∧ Chg [g] w w' := by
  obtain ⟨d1, d2, d3, d4, d5⟩ := Dnodup_node hd
  have HH := hid h
  have HE := hid he
  have hnl := h.nl g (by simp [Tr.blocks])
  have HN := hid hnl
  obtain ⟨b1, b2, t0, t1, t2, _⟩ := id he
  obtain ⟨⟨A, m, k, hc⟩, hl, hr⟩ := id h
  have HT := hid (And.intro t0 (And.intro t1 t2))
  have HC := hid (And.intro hc (And.intro hl hr))
  have HXI := hid k
  have HBI := hid (bestL_in hl k)
  have e2 := t0.at2
  clear t0 t1 t2 h he hnl hc hl hr hd
  go_enter Tryz.func184, Tryz.ntmps184
  go_wp2_with fail
  refine (Dt.upTo g b1 b2 c l r x _ HH.out HT.out.2.1 HT.out.2.2).mono ?_
  rintro e w1 ⟨rfl, hb⟩
  have HW : Hid (∀ W, W = w1.setCells g 7 (bestL l x).cells → Cs W g (nd x (bestL l x) (ptr l) (ptr r) c) ∧ DIn W l ∧ DIn W r ∧ DEnv W th rt n ∧ Chg [g] w W) := hid (by
    intro W e
    have hn' : DNl w1 g := HN.out.chg (F := []) (Chg.below hb) (by simp)
    have hF : ∀ j ∈ [g], DNl w1 j := fun j hj => by simp at hj; subst hj; exact hn'
    have hch : Chg [g] w1 W := by rw [e]; exact Chg.sets _ _ (Chg.refl _ _) (Or.inl (by simp))
    refine ⟨by rw [e]; exact (HC.out.1.below hb).putW _, (HC.out.2.1.below hb).chg hch hF (fun j hj hj' => by simp at hj'; subst hj'; exact d1 hj), (HC.out.2.2.below hb).chg hch hF (fun j hj hj' => by simp at hj'; subst hj'; exact d2 hj), (HE.out.below hb).chg hch hF, ?_⟩
    exact (Chg.below hb).trans hch (fun j hj => Or.inl hj))
  have hth := (HC.out.1.below hb).thereW
  clear hb e2
  cases r with
  | nil =>
    go_wp2_with ((with_reducible refine wpList_put_it 143 infoItem rfl (.tmp 12) (.tmp 10) rfl g 7 (bestL l x) hth ?u1 ?u2 ?u3); (case u1 => rfl); (case u2 => rfl); (intro W hW2); (have HF := hid (HW.out W hW2)); (clear hW2 hth); (have z3 := HF.out.1.nd3); (simp only [ptr_nil] at z3))
    go_end0
    obtain ⟨z0, z2, z3, z4, z5⟩ := HF.out
    exact ⟨rfl, ⟨⟨bestL l x, ⟨rfl, HBI.out, HXI.out⟩, z0⟩, z2, z3⟩, z5⟩
  | node gr cr lr xr rr =>
    go_wp2_with ((with_reducible refine wpList_put_it 143 infoItem rfl (.tmp 12) (.tmp 10) rfl g 7 (bestL l x) hth ?v1 ?v2 ?v3); (case v1 => rfl); (case v2 => rfl); (intro W hW2); (have HF := hid (HW.out W hW2)); (clear hW2 hth HW); (have z3 := HF.out.1.nd3); (simp only [ptr_node] at z3))
    clear z3
    obtain ⟨⟨k, hv2, hc2⟩, _⟩ := id HF.out.2.2.1
    obtain ⟨_, _, t0, _⟩ := id HF.out.2.2.2.1
    have HKI := hid hv2.2.1
    have HKE := hid hv2.1
    have HQ1 := hid t0.at1
    have HP := hid HF.out.1.wh
    have HQ2 := hid (show W.cell? ⟨g, 15, none⟩ = some (.pointer (some ⟨gr, 0, none⟩)) from HF.out.1.nd3)
    have HM := hid hc2.wh
    clear hv2 hc2 t0
    refine wp_region_steady (S := Bl W) 19 (by kernel_rfl) (Bl.drew W) ?_
    refine wpAnyU_take (i := 0) (v := ?_) rfl (by kernel_rfl) (by kernel_rfl) (by kernel_rfl) (by kernel_rfl) (fun _ _ _ h => h) (Steady.of_yields (Or.inl ⟨by rfl, ?_⟩)) ?_
    rotate_left
    · intro wq hSw
      go_simp
      (try with_reducible rfl)
    try simp only [List.getElem_toArray, List.getElem_cons_zero, List.getElem_cons_succ, Act.put, List.setIfInBounds_toArray, List.set_cons_zero, List.set_cons_succ]
    refine wpAnyU_take (i := 1) (v := ?_) rfl (by kernel_rfl) (by kernel_rfl) (by kernel_rfl) (by kernel_rfl) (fun _ _ _ h => h) (Steady.of_yields (Or.inl ⟨by rfl, ?_⟩)) ?_
    rotate_left
    · intro wq hSw
      go_simp
      (try with_reducible rfl)
    try simp only [List.getElem_toArray, List.getElem_cons_zero, List.getElem_cons_succ, Act.put, List.setIfInBounds_toArray, List.set_cons_zero, List.set_cons_succ]
    refine wpAnyU_take (i := 2) (v := ?_) rfl (by kernel_rfl) (by kernel_rfl) (by kernel_rfl) (by kernel_rfl) (fun _ _ _ h => h) (Steady.of_yields (Or.inl ⟨by rfl, ?_⟩)) ?_
    rotate_left
    · intro wq hSw
      go_simp
      (try with_reducible rfl)
    try simp only [List.getElem_toArray, List.getElem_cons_zero, List.getElem_cons_succ, Act.put, List.setIfInBounds_toArray, List.set_cons_zero, List.set_cons_succ]
    refine wpAnyU_take (i := 3) (v := ?_) rfl (by kernel_rfl) (by kernel_rfl) (by kernel_rfl) (by kernel_rfl) (fun _ _ _ h => h) (Steady.of_yields (Or.inl ⟨by rfl, ?_⟩)) ?_
    rotate_left
    · intro wq hSw
      go_simp
      (try with_reducible rfl)
    try simp only [List.getElem_toArray, List.getElem_cons_zero, List.getElem_cons_succ, Act.put, List.setIfInBounds_toArray, List.set_cons_zero, List.set_cons_succ]
    refine wpAnyU_take (i := 4) (v := ?_) rfl (by kernel_rfl) (by kernel_rfl) (by kernel_rfl) (by kernel_rfl) (fun _ _ _ h => h) (Steady.of_yields (Or.inl ⟨by rfl, ?_⟩)) ?_
    rotate_left
    · intro wq hSw
      have hSB : Below _ _ _ := hSw
      have q1 := keep1 hSB HQ1.out
      obtain ⟨p0, p1, p2, p3, p4, p5, p6⟩ := HP.out.below hSB
      have q2 := keep1 hSB HQ2.out
      obtain ⟨m0, m1, m2, m3, m4, m5, m6⟩ := HM.out.below hSB
      go_simp
      (try with_reducible rfl)
    try simp only [List.getElem_toArray, List.getElem_cons_zero, List.getElem_cons_succ, Act.put, List.setIfInBounds_toArray, List.set_cons_zero, List.set_cons_succ]
    refine wpAnyU_take (i := 5) (v := ?_) rfl (by kernel_rfl) (by kernel_rfl) (by kernel_rfl) (by kernel_rfl) (fun _ _ _ h => h) (Steady.of_yields (Or.inl ⟨by rfl, ?_⟩)) ?_
    rotate_left
    · intro wq hSw
      go_simp
      (try with_reducible rfl)
    try simp only [List.getElem_toArray, List.getElem_cons_zero, List.getElem_cons_succ, Act.put, List.setIfInBounds_toArray, List.set_cons_zero, List.set_cons_succ]
    refine wpAnyU_take (i := 6) (v := ?_) rfl (by kernel_rfl) (by kernel_rfl) (by kernel_rfl) (by kernel_rfl) (fun _ _ _ h => h) (Steady.of_yields (Or.inl ⟨by rfl, ?_⟩)) ?_
    rotate_left
    · intro wq hSw
      go_simp
      (try with_reducible rfl)
    try simp only [List.getElem_toArray, List.getElem_cons_zero, List.getElem_cons_succ, Act.put, List.setIfInBounds_toArray, List.set_cons_zero, List.set_cons_succ]
    refine wpAnyU_take (i := 7) (v := ?_) rfl (by kernel_rfl) (by kernel_rfl) (by kernel_rfl) (by kernel_rfl) (fun _ _ _ h => h) (Steady.of_yields (Or.inl ⟨by rfl, ?_⟩)) ?_
    rotate_left
    · intro wq hSw
      go_simp
      (try with_reducible rfl)
    try simp only [List.getElem_toArray, List.getElem_cons_zero, List.getElem_cons_succ, Act.put, List.setIfInBounds_toArray, List.set_cons_zero, List.set_cons_succ]
    refine wpAnyU_take (i := 8) (v := ?_) rfl (by kernel_rfl) (by kernel_rfl) (by kernel_rfl) (by kernel_rfl) (fun _ _ _ h => h) (Steady.of_yields (Or.inl ⟨by rfl, ?_⟩)) ?_
    rotate_left
    · intro wq hSw
      have hSB : Below _ _ _ := hSw
      have q1 := keep1 hSB HQ1.out
      obtain ⟨p0, p1, p2, p3, p4, p5, p6⟩ := HP.out.below hSB
      have q2 := keep1 hSB HQ2.out
      obtain ⟨m0, m1, m2, m3, m4, m5, m6⟩ := HM.out.below hSB
      go_simp
      (try with_reducible rfl)
    try simp only [List.getElem_toArray, List.getElem_cons_zero, List.getElem_cons_succ, Act.put, List.setIfInBounds_toArray, List.set_cons_zero, List.set_cons_succ]
    refine wpAnyU_take (i := 9) (v := ?_) rfl (by kernel_rfl) (by kernel_rfl) (by kernel_rfl) (by kernel_rfl) (fun _ _ _ h => h) (Steady.of_yields (Or.inl ⟨by rfl, ?_⟩)) ?_
    rotate_left
    · intro wq hSw
      go_simp
      (try with_reducible rfl)
    try simp only [List.getElem_toArray, List.getElem_cons_zero, List.getElem_cons_succ, Act.put, List.setIfInBounds_toArray, List.set_cons_zero, List.set_cons_succ]
    refine wpAnyU_take (i := 10) (v := ?_) rfl (by kernel_rfl) (by kernel_rfl) (by kernel_rfl) (by kernel_rfl) (fun _ _ _ h => h) (Steady.of_yields (Or.inl ⟨by rfl, ?_⟩)) ?_
    rotate_left
    · intro wq hSw
      go_simp
      (try with_reducible rfl)
    try simp only [List.getElem_toArray, List.getElem_cons_zero, List.getElem_cons_succ, Act.put, List.setIfInBounds_toArray, List.set_cons_zero, List.set_cons_succ]
    refine wpAnyU_take (i := 11) (v := ?_) rfl (by kernel_rfl) (by kernel_rfl) (by kernel_rfl) (by kernel_rfl) (fun _ _ _ h => h) (Steady.of_yields (Or.inl ⟨by rfl, ?_⟩)) ?_
    rotate_left
    · intro wq hSw
      go_simp
      (try with_reducible rfl)
    try simp only [List.getElem_toArray, List.getElem_cons_zero, List.getElem_cons_succ, Act.put, List.setIfInBounds_toArray, List.set_cons_zero, List.set_cons_succ]
    refine wpAnyU_take (i := 12) (v := ?_) rfl (by kernel_rfl) (by kernel_rfl) (by kernel_rfl) (by kernel_rfl) (fun _ _ _ h => h) (Steady.of_yields (Or.inl ⟨by rfl, ?_⟩)) ?_
    rotate_left
    · intro wq hSw
      have hSB : Below _ _ _ := hSw
      have q1 := keep1 hSB HQ1.out
      obtain ⟨p0, p1, p2, p3, p4, p5, p6⟩ := HP.out.below hSB
      have q2 := keep1 hSB HQ2.out
      obtain ⟨m0, m1, m2, m3, m4, m5, m6⟩ := HM.out.below hSB
      go_simp
      (try with_reducible rfl)
    try simp only [List.getElem_toArray, List.getElem_cons_zero, List.getElem_cons_succ, Act.put, List.setIfInBounds_toArray, List.set_cons_zero, List.set_cons_succ]
    refine wpAnyU_take (i := 13) (v := ?_) rfl (by kernel_rfl) (by kernel_rfl) (by kernel_rfl) (by kernel_rfl) (fun _ _ _ h => h) (Steady.of_yields (Or.inl ⟨by rfl, ?_⟩)) ?_
    rotate_left
    · intro wq hSw
      go_simp
      (try with_reducible rfl)
    try simp only [List.getElem_toArray, List.getElem_cons_zero, List.getElem_cons_succ, Act.put, List.setIfInBounds_toArray, List.set_cons_zero, List.set_cons_succ]
    refine wpAnyU_take (i := 14) (v := ?_) rfl (by kernel_rfl) (by kernel_rfl) (by kernel_rfl) (by kernel_rfl) (fun _ _ _ h => h) (Steady.of_yields (Or.inl ⟨by rfl, ?_⟩)) ?_
    rotate_left
    · intro wq hSw
      go_simp
      (try with_reducible rfl)
    try simp only [List.getElem_toArray, List.getElem_cons_zero, List.getElem_cons_succ, Act.put, List.setIfInBounds_toArray, List.set_cons_zero, List.set_cons_succ]
    refine wpAnyU_take (i := 15) (v := ?_) rfl (by kernel_rfl) (by kernel_rfl) (by kernel_rfl) (by kernel_rfl) (fun _ _ _ h => h) (Steady.of_yields (Or.inl ⟨by rfl, ?_⟩)) ?_
    rotate_left
    · intro wq hSw
      have hSB : Below _ _ _ := hSw
      have q1 := keep1 hSB HQ1.out
      obtain ⟨p0, p1, p2, p3, p4, p5, p6⟩ := HP.out.below hSB
      have q2 := keep1 hSB HQ2.out
      obtain ⟨m0, m1, m2, m3, m4, m5, m6⟩ := HM.out.below hSB
      go_simp
      (try with_reducible rfl)
    try simp only [List.getElem_toArray, List.getElem_cons_zero, List.getElem_cons_succ, Act.put, List.setIfInBounds_toArray, List.set_cons_zero, List.set_cons_succ]
    refine wpAnyU_take (i := 16) (v := It.val (sooner (bestL l x) k)) rfl (by kernel_rfl) (by kernel_rfl) (by kernel_rfl) (by kernel_rfl) (fun _ _ _ h => h) (Or.inl ⟨by rfl, fun wq hSw => ?_⟩) ?_
    · refine SteadyRun.of_calls (Dtree.join (bestL l x) k HBI.out HKI.out wq) (by go_simp) ?_
      rintro e wr ⟨rfl, hb⟩
      exact ⟨rfl, hSw.on hb⟩
    try simp only [List.getElem_toArray, List.getElem_cons_zero, List.getElem_cons_succ, Act.put, List.setIfInBounds_toArray, List.set_cons_zero, List.set_cons_succ]
    refine wpAnyU_take (i := 17) (v := ?_) rfl (by kernel_rfl) (by kernel_rfl) (by kernel_rfl) (by kernel_rfl) (fun _ _ _ h => h) (Steady.of_yields (Or.inl ⟨by rfl, ?_⟩)) ?_
    rotate_left
    · intro wq hSw
      go_simp
      (try with_reducible rfl)
    try simp only [List.getElem_toArray, List.getElem_cons_zero, List.getElem_cons_succ, Act.put, List.setIfInBounds_toArray, List.set_cons_zero, List.set_cons_succ]
    refine wpAnyU_take (i := 18) (v := ?_) rfl (by kernel_rfl) (by kernel_rfl) (by kernel_rfl) (by kernel_rfl) (fun _ _ _ h => h) (Steady.of_yields (Or.inl ⟨by rfl, ?_⟩)) ?_
    rotate_left
    · intro wq hSw
      go_simp
      (try with_reducible rfl)
    try simp only [List.getElem_toArray, List.getElem_cons_zero, List.getElem_cons_succ, Act.put, List.setIfInBounds_toArray, List.set_cons_zero, List.set_cons_succ]
    refine wpAnyU_last rfl rfl (by kernel_rfl) (fun wz hSz => ?_)
    have hth := (HF.out.1.below hSz).thereW
    have HW3 : Hid (∀ W', W' = wz.setCells g 7 (sooner (bestL l x) k).cells → DIn W' (.node g c l x (.node gr cr lr xr rr)) ∧ Chg [g] w W') := hid (by
      intro W' e
      have hn' : DNl wz g := (HF.out.1.below hSz).dnl
      have hF : ∀ j ∈ [g], DNl wz j := fun j hj => by simp at hj; subst hj; exact hn'
      have hch : Chg [g] wz W' := by rw [e]; exact Chg.sets _ _ (Chg.refl _ _) (Or.inl (by simp))
      refine ⟨⟨⟨sooner (bestL l x) k, ⟨?_, sooner_in HBI.out HKI.out, HXI.out⟩, by rw [e]; exact (HF.out.1.below hSz).putW _⟩, (HF.out.2.1.below hSz).chg hch hF (fun j hj hj' => by simp at hj'; subst hj'; exact d1 hj), (HF.out.2.2.1.below hSz).chg hch hF (fun j hj hj' => by simp at hj'; subst hj'; exact d2 hj)⟩, ?_⟩
      · show _ = sooner (bestL l x) (Tr.best (.node gr cr lr xr rr))
        rw [show Tr.best (.node gr cr lr xr rr) = k from HKE.out.symm]
      · exact (HF.out.2.2.2.2.trans (Chg.below hSz) (G := []) (by simp)).trans hch (fun j hj => Or.inl hj))
    clear hSz
    go_wp2_with ((with_reducible refine wpList_put_it 143 infoItem rfl (.tmp 36) (.tmp 34) rfl g 7 (sooner (bestL l x) k) hth ?w1 ?w2 ?w3); (case w1 => rfl); (case w2 => rfl); (intro W9 hW9); (have HX := hid (HW3.out W9 hW9)); (clear hW9 hth))
    go_end0
    exact ⟨rfl, HX.out.1, HX.out.2⟩
end

end Go.Proofs.YthmilhhihcmdhaaGreatDoor

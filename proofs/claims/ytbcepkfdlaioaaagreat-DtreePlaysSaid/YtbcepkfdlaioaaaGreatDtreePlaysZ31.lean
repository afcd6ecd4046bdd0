/- Texts of DtreePlays's proof, together. -/
import Derived.Test.YtbcepkfdlaioaaaGreatDtB
import Derived.StillTailTactics
import Derived.Test.YtbcepkfdlaioaaaGreatDtreePlaysZ26
import Derived.Test.YtbcepkfdlaioaaaGreatDtreePlaysZ24
import Derived.Test.YtbcepkfdlaioaaaGreatDtreePlaysZ15
import Derived.Test.YtbcepkfdlaioaaaGreatOrdG
namespace Go.Proofs.YtbcepkfdlaioaaaGreat

section
open Go.RowKit
theorem DIn.far {w : World} {t : Tr It} (h : DIn w t) {g : Nat} (hn : DNl w g) (hg : g ∉ t.blocks) (o : Nat) (u : Value) : DIn (w.setCell ⟨g, o, none⟩ u) t :=
 h.chg (F := [g]) ((Chg.refl [g] w).set (Or.inl (by simp)) o u) (fun k hk => by simp at hk; subst hk; exact hn) (fun k hk hk' => by simp at hk'; subst hk'; exact hg hk)
theorem DIn.drew {w : World} {t : Tr It} (h : DIn w t) : DIn w.drew t := h.below ((Below.refl _ _).drew)
theorem DNl.chg {F : List Nat} {w w' : World} {g : Nat} (h : DNl w g) (hc : Chg F w w') (hg : g ∉ F) : DNl w' g := by
 obtain ⟨u, e⟩ := h
 exact ⟨u, (hc.cell (p := ⟨g, 14, none⟩) (World.block_lt_of_cell? w _ e) hg).trans e⟩
def DTurns (v : Value) (t' : Tr It) (F : List Nat) (w : World) (e : Ending) (w' : World) : Prop := e = .returned v ∧ DSt w' t' ∧ Chg F w w'
theorem Dnodup_node {g : Nat} {c : Bool} {l r : Tr It} {x : It} (h : (Tr.node g c l x r).blocks.Nodup) : g ∉ l.blocks ∧ g ∉ r.blocks ∧ l.blocks.Nodup ∧ r.blocks.Nodup ∧ (∀ a ∈ l.blocks, a ∉ r.blocks) := by
 simp only [Tr.blocks, List.nodup_cons, List.nodup_append, List.mem_append, not_or] at h
 exact ⟨h.1.1, h.1.2, h.2.1, h.2.2.1, fun a ha hb => h.2.2.2 a ha a hb rfl⟩
theorem DIn.paint {w : World} {g : Nat} {c d : Bool} {l r : Tr It} {x : It} (h : DIn w (.node g c l x r)) (hg : g ∉ l.blocks ∧ g ∉ r.blocks) : DIn (w.setCell ⟨g, 16, none⟩ (.bool d)) (.node g d l x r) := by
 have hn := h.nl g (by simp [Tr.blocks])
 obtain ⟨⟨v, hv, hc⟩, hl, hr⟩ := h
 exact ⟨⟨v, hv, hc.nds4 d⟩, hl.far hn hg.1 _ _, hr.far hn hg.2 _ _⟩
set_option maxHeartbeats 1000000 in
set_option maxRecDepth 100000 in
theorem Dt.flip (g gl gr : Nat) (c cl cr : Bool) (x xl xr : It) (ll rl lr rr : Tr It) (w : World) (h : DSt w (.node g c (.node gl cl ll xl rl) x (.node gr cr lr xr rr)))
  (hd : (Tr.node g c (.node gl cl ll xl rl) x (.node gr cr lr xr rr)).blocks.Nodup) :
  Calls Tryz.prog 70 #[.pointer (some ⟨g, 0, none⟩)] w (DTurns (.tuple #[]) (Tr.flip (.node g c (.node gl cl ll xl rl) x (.node gr cr lr xr rr))) (Tr.node g c (.node gl cl ll xl rl) x (.node gr cr lr xr rr)).blocks w) := by
 obtain ⟨d1, d2, d3, d4, d5⟩ := Dnodup_node hd
 obtain ⟨e1, e2, _⟩ := Dnodup_node d3
 obtain ⟨f1, f2, _⟩ := Dnodup_node d4
 have hgl : g ≠ gl := fun e => d1 (by simp [Tr.blocks, e])
 have hgr : g ≠ gr := fun e => d2 (by simp [Tr.blocks, e])
 have hlr : gl ≠ gr := fun e => d5 gl (by simp [Tr.blocks]) (by simp [Tr.blocks, e])
 have hn := h.nl g (by simp [Tr.blocks])
 have HN := hid (DIn.nl h.2.1)
 have HNr := hid (DIn.nl h.2.2)
 obtain ⟨⟨A, n, k, hc⟩, hl, hr⟩ := id h
 have HF := hid (show Cs (w.setCell ⟨g, 16, none⟩ (.bool !c)) g (nd x A (.pointer (some ⟨gl, 0, none⟩)) (.pointer (some ⟨gr, 0, none⟩)) (!c)) ∧ DIn (w.setCell ⟨g, 16, none⟩ (.bool !c)) (.node gl cl ll xl rl) ∧ DIn (w.setCell ⟨g, 16, none⟩ (.bool !c)) (.node gr cr lr xr rr) ∧ Chg (Tr.node g c (.node gl cl ll xl rl) x (.node gr cr lr xr rr)).blocks w (w.setCell ⟨g, 16, none⟩ (.bool !c)) from
  ⟨hc.nds4 _, hl.far hn d1 _ _, hr.far hn d2 _ _, (Chg.refl _ _).set (Or.inl (by simp [Tr.blocks])) _ _⟩)
 have c4 := hc.nd4
 have c5 := hc.ndf4
 clear h hc hn hd hl hr
 go_enter Tryz.func70, Tryz.ntmps70
 go_wp2_with fail
 generalize w.setCell ⟨g, 16, none⟩ (.bool !c) = W1 at HF ⊢
 clear c4 c5
 have q2 := HF.out.1.nd2
 obtain ⟨v1, _, k1⟩ := HF.out.2.1.1
 have q4 := k1.nd4
 have q5 := k1.ndf4
 clear k1
 go_still_tail 14, (by kernel_rfl)
 change wpList _ _ _ _ _ W1.drew
 have HF2 : Hid (∃ W2, W2 = W1.drew.setCell ⟨gl, 16, none⟩ (.bool !cl) ∧ Cs W2 g (nd x A (.pointer (some ⟨gl, 0, none⟩)) (.pointer (some ⟨gr, 0, none⟩)) (!c)) ∧ DIn W2 (.node gl (!cl) ll xl rl) ∧ DIn W2 (.node gr cr lr xr rr) ∧ Chg (Tr.node g c (.node gl cl ll xl rl) x (.node gr cr lr xr rr)).blocks w W2) := hid (by
  obtain ⟨z0, z1, z2, z3⟩ := HF.out
  have hn := z1.nl gl (by simp [Tr.blocks])
  refine ⟨_, rfl, z0.drew.far (Ne.symm hgl) _ _, z1.drew.paint ⟨e1, e2⟩, z2.drew.far hn (d5 gl (by simp [Tr.blocks])) _ _, ?_⟩
  exact (z3.trans (Chg.below ((Below.refl _ _).drew)) (G := []) (by simp)).set (Or.inl (by simp [Tr.blocks])) _ _)
 go_wp2_with fail
 obtain ⟨W2, hW, HF2⟩ := HF2
 rw [show (W1.setCell ⟨gl, 16, none⟩ (.bool !cl)).drew = W2 from hW.symm]
 clear q2 q4 q5 hW HF
 have HF := hid HF2
 clear HF2
 have q2 := HF.out.1.nd3
 obtain ⟨v2, _, k1⟩ := HF.out.2.2.1.1
 have q4 := k1.nd4
 have q5 := k1.ndf4
 clear k1
 go_still_tail 14, (by kernel_rfl)
 change wpList _ _ _ _ _ W2.drew
 have HF2 : Hid (∃ W3, W3 = W2.drew.setCell ⟨gr, 16, none⟩ (.bool !cr) ∧ DSt W3 (Tr.node g (!c) (.node gl (!cl) ll xl rl) x (.node gr (!cr) lr xr rr)) ∧ Chg (Tr.node g c (.node gl cl ll xl rl) x (.node gr cr lr xr rr)).blocks w W3) := hid (by
  obtain ⟨z0, z1, z2, z3⟩ := HF.out
  have hn := z2.nl gr (by simp [Tr.blocks])
  refine ⟨_, rfl, ⟨⟨A, n, k, z0.drew.far (Ne.symm hgr) _ _⟩, z1.drew.far hn (fun h => d5 gr (by simpa [Tr.blocks] using h) (by simp [Tr.blocks])) _ _, z2.drew.paint ⟨f1, f2⟩⟩, ?_⟩
  exact (z3.trans (Chg.below ((Below.refl _ _).drew)) (G := []) (by simp)).set (Or.inl (by simp [Tr.blocks])) _ _)
 go_wp2_with fail
 obtain ⟨W3, hW, HF3⟩ := HF2
 rw [show (W2.setCell ⟨gr, 16, none⟩ (.bool !cr)).drew = W3 from hW.symm]
 go_ways
 exact bodyPost_ret (v := .tuple #[]) (by simp [results, Tryz.results70, go_sem]) rfl ⟨rfl, HF3.1, HF3.2⟩
end


section
open Go.RowKit
set_option maxRecDepth 100000
set_option maxHeartbeats 32000000
theorem Dtree.itself (x : It) (w : World) : Calls Tryz.prog 25 #[x.val] w (Ans (It.val x) w) := by
 unfold It.val
 go_enter Tryz.func25, Tryz.ntmps25
 go_wp2_with fail
 refine bodyPost_ret (v := It.val x) (by simp [results, Tryz.results25, go_sem]) rfl ⟨rfl, ?_⟩
 exact ((Below.refl _ _).alloc (Nat.le_refl _) _).alloc (by simp) _
theorem RdI.new1 (w : World) (x : It) : RdI (w.alloc (.cells #[.int .u64 x.t, .int .u32 x.r, .int .u32 x.v, .int .i64 x.i, .int .u64 x.u, .int .u32 x.s, .int .u32 x.y] 35)) (some ⟨w.heap.size, 0, none⟩) 1 [x] :=
 ⟨rfl, fun i hi => ⟨w.heap.size, 0, rfl, by simp, fun j hj => by
  obtain rfl : j = 0 := by omega
  have h := (Cs.new7 w 35 x).th7
  exact h⟩⟩
theorem answer_it {w w1 : World} {b : Nat} (hb : w.heap.size ≤ b) (h : ∃ z : It, Cs w1 b z.cells) (hw : Below w.heap.size w w1) (k : It) : ∀ W, W = w1.setCells b 0 k.cells → Th W b k ∧ Below w.heap.size w W := fun W e => by
 obtain ⟨z, hc⟩ := h
 rw [e]
 exact ⟨(hc.stored k).th7, below_sets hb _ _ hw⟩
theorem there_it {w1 : World} {b : Nat} (h : ∃ z : It, Cs w1 b z.cells) : w1.there b 0 7 := by obtain ⟨z, hc⟩ := h; exact hc.there7
theorem Dtree.join (a b : It) (ha : a.In) (hb : b.In) (w : World) : Calls Tryz.prog 26 #[a.val, b.val] w (Ans (It.val (sooner a b)) w) := by
 have HA := hid ha
 have HB := hid hb
 have HS0 : Hid (Cs (((w.alloc (.cells #[.int .u64 a.t, .int .u32 a.r, .int .u32 a.v, .int .i64 a.i, .int .u64 a.u, .int .u32 a.s, .int .u32 a.y] 35)).alloc (.cells #[.int .u64 b.t, .int .u32 b.r, .int .u32 b.v, .int .i64 b.i, .int .u64 b.u, .int .u32 b.s, .int .u32 b.y] 35)).alloc (.cells #[.int .u64 0, .int .u32 0, .int .u32 0, .int .i64 0, .int .u64 0, .int .u32 0, .int .u32 0] 35)) (w.heap.size + 2) It.zero.cells ∧ Below w.heap.size w (((w.alloc (.cells #[.int .u64 a.t, .int .u32 a.r, .int .u32 a.v, .int .i64 a.i, .int .u64 a.u, .int .u32 a.s, .int .u32 a.y] 35)).alloc (.cells #[.int .u64 b.t, .int .u32 b.r, .int .u32 b.v, .int .i64 b.i, .int .u64 b.u, .int .u32 b.s, .int .u32 b.y] 35)).alloc (.cells #[.int .u64 0, .int .u32 0, .int .u32 0, .int .i64 0, .int .u64 0, .int .u32 0, .int .u32 0] 35))) := hid
  ⟨by have := Cs.new7 ((w.alloc (.cells #[.int .u64 a.t, .int .u32 a.r, .int .u32 a.v, .int .i64 a.i, .int .u64 a.u, .int .u32 a.s, .int .u32 a.y] 35)).alloc (.cells #[.int .u64 b.t, .int .u32 b.r, .int .u32 b.v, .int .i64 b.i, .int .u64 b.u, .int .u32 b.s, .int .u32 b.y] 35)) 35 It.zero; simp only [World.size_alloc] at this; exact this, (((Below.refl _ _).alloc (Nat.le_refl _) _).alloc (by simp) _).alloc (by simp; omega) _⟩
 have HR0 : Hid (RdI ((((w.alloc (.cells #[.int .u64 a.t, .int .u32 a.r, .int .u32 a.v, .int .i64 a.i, .int .u64 a.u, .int .u32 a.s, .int .u32 a.y] 35)).alloc (.cells #[.int .u64 b.t, .int .u32 b.r, .int .u32 b.v, .int .i64 b.i, .int .u64 b.u, .int .u32 b.s, .int .u32 b.y] 35)).alloc (.cells #[.int .u64 0, .int .u32 0, .int .u32 0, .int .i64 0, .int .u64 0, .int .u32 0, .int .u32 0] 35)).alloc (.cells #[.int .u64 b.t, .int .u32 b.r, .int .u32 b.v, .int .i64 b.i, .int .u64 b.u, .int .u32 b.s, .int .u32 b.y] 35)) (some ⟨w.heap.size + 3, 0, none⟩) 1 [b]) := hid (by
  have := RdI.new1 (((w.alloc (.cells #[.int .u64 a.t, .int .u32 a.r, .int .u32 a.v, .int .i64 a.i, .int .u64 a.u, .int .u32 a.s, .int .u32 a.y] 35)).alloc (.cells #[.int .u64 b.t, .int .u32 b.r, .int .u32 b.v, .int .i64 b.i, .int .u64 b.u, .int .u32 b.s, .int .u32 b.y] 35)).alloc (.cells #[.int .u64 0, .int .u32 0, .int .u32 0, .int .i64 0, .int .u64 0, .int .u32 0, .int .u32 0] 35)) b; simp only [World.size_alloc] at this; exact this)
 have HS1 : Hid (Cs ((((w.alloc (.cells #[.int .u64 a.t, .int .u32 a.r, .int .u32 a.v, .int .i64 a.i, .int .u64 a.u, .int .u32 a.s, .int .u32 a.y] 35)).alloc (.cells #[.int .u64 b.t, .int .u32 b.r, .int .u32 b.v, .int .i64 b.i, .int .u64 b.u, .int .u32 b.s, .int .u32 b.y] 35)).alloc (.cells #[.int .u64 0, .int .u32 0, .int .u32 0, .int .i64 0, .int .u64 0, .int .u32 0, .int .u32 0] 35)).alloc (.cells #[.int .u64 b.t, .int .u32 b.r, .int .u32 b.v, .int .i64 b.i, .int .u64 b.u, .int .u32 b.s, .int .u32 b.y] 35)) (w.heap.size + 2) It.zero.cells ∧ Below w.heap.size w ((((w.alloc (.cells #[.int .u64 a.t, .int .u32 a.r, .int .u32 a.v, .int .i64 a.i, .int .u64 a.u, .int .u32 a.s, .int .u32 a.y] 35)).alloc (.cells #[.int .u64 b.t, .int .u32 b.r, .int .u32 b.v, .int .i64 b.i, .int .u64 b.u, .int .u32 b.s, .int .u32 b.y] 35)).alloc (.cells #[.int .u64 0, .int .u32 0, .int .u32 0, .int .i64 0, .int .u64 0, .int .u32 0, .int .u32 0] 35)).alloc (.cells #[.int .u64 b.t, .int .u32 b.r, .int .u32 b.v, .int .i64 b.i, .int .u64 b.u, .int .u32 b.s, .int .u32 b.y] 35))) := hid
  ⟨HS0.out.1.alloc _, HS0.out.2.alloc (by simp; omega) _⟩
 clear ha hb HS0
 unfold It.val
 go_enter Tryz.func26, Tryz.ntmps26
 go_wp2_with fail
 refine (Item.soonest a (some ⟨w.heap.size + 3, 0, none⟩) 1 1 [b] _ HA.out HR0.out (fun x hx => by simp at hx; subst hx; exact HB.out) (by decide)).mono ?_
 rintro e w1 ⟨rfl, hb1⟩
 have HZ : Hid (∃ z : It, Cs w1 (w.heap.size + 2) z.cells) := hid ⟨It.zero, HS1.out.1.below hb1⟩
 have HAN := hid (answer_it (b := w.heap.size + 2) (by omega) HZ.out (below_on HS1.out.2 hb1) (sooner a b))
 have hth := there_it HZ.out
 have hev : [b].foldl sooner a = sooner a b := rfl
 rw [hev]
 clear hb1 hev
 go_wp2_with ((with_reducible refine wpList_put_it 35 infoItem rfl (.tmp 4) (.tmp 8) rfl (w.heap.size + 2) 0 (sooner a b) hth ?u1 ?u2 ?u3); (case u1 => rfl); (case u2 => rfl); (intro W2 hW2); (have HW := hid (HAN.out W2 hW2)); (clear hW2 hth); (obtain ⟨z0, z1, z2, z3, z4, z5, z6⟩ := HW.out.1))
 refine bodyPost_ret (v := It.val (sooner a b)) (by simp [results, Tryz.results26, go_sem, z0, z1, z2, z3, z4, z5, z6]) rfl ⟨rfl, HW.out.2⟩
theorem Dt.upTo0 (g b1 b2 : Nat) (x : It) (w : World) (hg : Th w g x) (h2 : w.cell? ⟨g, 14, none⟩ = some (.pointer none)) (h1 : Cs w b1 [(.func (.func 25) #[] #[])]) :
  Calls Tryz.prog 47 #[.pointer (some ⟨g, 0, none⟩), .pointer (some ⟨b1, 0, none⟩), .pointer (some ⟨b2, 0, none⟩)] w (Ans (It.val x) w) := by
 have hb0 := (Below.refl w.heap.size w).alloc (Nat.le_refl _) (.cells #[.int .u64 0, .int .u32 0, .int .u32 0, .int .i64 0, .int .u64 0, .int .u32 0, .int .u32 0] 35)
 have HG := hid (hg.below hb0)
 have HQ1 := hid (keep1 hb0 h1.at0)
 have q2 := keep1 hb0 h2
 have HZ : Hid (Cs (w.alloc (.cells #[.int .u64 0, .int .u32 0, .int .u32 0, .int .i64 0, .int .u64 0, .int .u32 0, .int .u32 0] 35)) w.heap.size It.zero.cells) := hid (Cs.new7 _ _ It.zero)
 have HB0 := hid hb0
 clear hg h2 h1 hb0
 unfold It.val
 go_enter Tryz.func47, Tryz.ntmps47
 go_wp2_with fail
 generalize (w.alloc (.cells #[.int .u64 0, .int .u32 0, .int .u32 0, .int .i64 0, .int .u64 0, .int .u32 0, .int .u32 0] 35)) = W0 at HG HQ1 q2 HZ HB0 ⊢
 refine wp_region_steady (S := Bl W0) 6 (by kernel_rfl) (Bl.drew W0) ?_
 refine tU 0 (v := ?_) rfl (by kernel_rfl) (fun _ _ _ h => h) (by rfl) ?_ ?_
 rotate_left
 ·intro wq hSw
  have hSB : Below _ _ _ := hSw
  obtain ⟨p0, p1, p2, p3, p4, p5, p6⟩ := HG.out.below hSB
  have q1 := keep1 hSB HQ1.out
  go_simp; try with_reducible rfl
 try simp only [tdy]
 refine tV 1 ?_
 try simp only [tdy]
 refine tV 2 ?_
 try simp only [tdy]
 refine tV 3 ?_
 try simp only [tdy]
 refine tU 4 (v := ?_) rfl (by kernel_rfl) (fun _ _ _ h => h) (by rfl) ?_ ?_
 rotate_left
 ·intro wq hSw
  have hSB : Below _ _ _ := hSw
  obtain ⟨p0, p1, p2, p3, p4, p5, p6⟩ := HG.out.below hSB
  have q1 := keep1 hSB HQ1.out
  go_simp; try with_reducible rfl
 try simp only [tdy]
 refine wpAnyU_take (i := 5) (v := It.val x) rfl (by kernel_rfl) (by kernel_rfl) (by kernel_rfl) (by kernel_rfl) (fun _ _ _ h => h) (Or.inl ⟨by rfl, fun wq hSw => ?_⟩) ?_
 ·refine SteadyRun.of_calls (Dtree.itself x wq) (by go_simp) ?_
  rintro e wr ⟨rfl, hb⟩
  exact ⟨rfl, hSw.on hb⟩
 try simp only [tdy]
 refine wpAnyU_last rfl rfl (by kernel_rfl) (fun wz hSz => ?_)
 have HZ2 : Hid (∃ z : It, Cs wz w.heap.size z.cells) := hid ⟨It.zero, HZ.out.below hSz⟩
 have HAN := hid (answer_it (Nat.le_refl _) HZ2.out (below_on HB0.out hSz) x)
 have hth := there_it HZ2.out
 clear hSz q2
 go_wp2_with ((with_reducible refine wpList_put_it 35 infoItem rfl (.tmp 4) (.tmp 15) rfl w.heap.size 0 x hth ?u1 ?u2 ?u3); (case u1 => rfl); (case u2 => rfl); (intro W2 hW2); (have HW := hid (HAN.out W2 hW2)); (clear hW2 hth); (obtain ⟨z0, z1, z2, z3, z4, z5, z6⟩ := HW.out.1))
 refine bodyPost_ret (v := It.val x) (by simp [results, Tryz.results47, go_sem, z0, z1, z2, z3, z4, z5, z6]) rfl ⟨rfl, HW.out.2⟩
theorem Dt.upTo1 (g gl b1 b2 : Nat) (x k : It) (hx : x.In) (hk : k.In) (w : World) (hg : Th w g x) (h2 : w.cell? ⟨g, 14, none⟩ = some (.pointer (some ⟨gl, 0, none⟩))) (hm : Wh w gl k) (h1 : Cs w b1 [(.func (.func 25) #[] #[])]) (h3 : Cs w b2 [(.func (.func 26) #[] #[])]) :
  Calls Tryz.prog 47 #[.pointer (some ⟨g, 0, none⟩), .pointer (some ⟨b1, 0, none⟩), .pointer (some ⟨b2, 0, none⟩)] w (Ans (It.val (sooner k x)) w) := by
 have hb0 := (Below.refl w.heap.size w).alloc (Nat.le_refl _) (.cells #[.int .u64 0, .int .u32 0, .int .u32 0, .int .i64 0, .int .u64 0, .int .u32 0, .int .u32 0] 35)
 have HG := hid (hg.below hb0)
 have HM := hid (hm.below hb0)
 have HQ1 := hid (keep1 hb0 h1.at0)
 have HQ2 := hid (keep1 hb0 h3.at0)
 have HQ3 := hid (keep1 hb0 h2)
 have q3 := HQ3.out
 have HXI := hid hx
 have HKI := hid hk
 have HZ : Hid (Cs (w.alloc (.cells #[.int .u64 0, .int .u32 0, .int .u32 0, .int .i64 0, .int .u64 0, .int .u32 0, .int .u32 0] 35)) w.heap.size It.zero.cells) := hid (Cs.new7 _ _ It.zero)
 have HB0 := hid hb0
 clear hg h2 h1 h3 hm hb0 hx hk
 unfold It.val
 go_enter Tryz.func47, Tryz.ntmps47
 go_wp2_with fail
 generalize (w.alloc (.cells #[.int .u64 0, .int .u32 0, .int .u32 0, .int .i64 0, .int .u64 0, .int .u32 0, .int .u32 0] 35)) = W0 at HG HM HQ1 HQ2 HQ3 q3 HZ HB0 ⊢
 refine wp_region_steady (S := Bl W0) 15 (by kernel_rfl) (Bl.drew W0) ?_
 refine tU 0 (v := ?_) rfl (by kernel_rfl) (fun _ _ _ h => h) (by rfl) ?_ ?_
 rotate_left
 ·intro wq hSw
  have hSB : Below _ _ _ := hSw
  obtain ⟨p0, p1, p2, p3, p4, p5, p6⟩ := HG.out.below hSB
  obtain ⟨m0, m1, m2, m3, m4, m5, m6⟩ := HM.out.below hSB
  have q1 := keep1 hSB HQ1.out
  have q2 := keep1 hSB HQ2.out
  have q3 := keep1 hSB HQ3.out
  go_simp; try with_reducible rfl
 try simp only [tdy]
 refine tV 1 ?_
 try simp only [tdy]
 refine tV 2 ?_
 try simp only [tdy]
 refine tV 3 ?_
 try simp only [tdy]
 refine tU 4 (v := ?_) rfl (by kernel_rfl) (fun _ _ _ h => h) (by rfl) ?_ ?_
 rotate_left
 ·intro wq hSw
  have hSB : Below _ _ _ := hSw
  obtain ⟨p0, p1, p2, p3, p4, p5, p6⟩ := HG.out.below hSB
  obtain ⟨m0, m1, m2, m3, m4, m5, m6⟩ := HM.out.below hSB
  have q1 := keep1 hSB HQ1.out
  have q2 := keep1 hSB HQ2.out
  have q3 := keep1 hSB HQ3.out
  go_simp; try with_reducible rfl
 try simp only [tdy]
 refine tV 5 ?_
 try simp only [tdy]
 refine tV 6 ?_
 try simp only [tdy]
 refine tU 7 (v := ?_) rfl (by kernel_rfl) (fun _ _ _ h => h) (by rfl) ?_ ?_
 rotate_left
 ·intro wq hSw
  have hSB : Below _ _ _ := hSw
  obtain ⟨p0, p1, p2, p3, p4, p5, p6⟩ := HG.out.below hSB
  obtain ⟨m0, m1, m2, m3, m4, m5, m6⟩ := HM.out.below hSB
  have q1 := keep1 hSB HQ1.out
  have q2 := keep1 hSB HQ2.out
  have q3 := keep1 hSB HQ3.out
  go_simp; try with_reducible rfl
 try simp only [tdy]
 refine tU 8 (v := ?_) rfl (by kernel_rfl) (fun _ _ _ h => h) (by rfl) ?_ ?_
 rotate_left
 ·intro wq hSw
  have hSB : Below _ _ _ := hSw
  obtain ⟨p0, p1, p2, p3, p4, p5, p6⟩ := HG.out.below hSB
  obtain ⟨m0, m1, m2, m3, m4, m5, m6⟩ := HM.out.below hSB
  have q1 := keep1 hSB HQ1.out
  have q2 := keep1 hSB HQ2.out
  have q3 := keep1 hSB HQ3.out
  go_simp; try with_reducible rfl
 try simp only [tdy]
 refine tV 9 ?_
 try simp only [tdy]
 refine tV 10 ?_
 try simp only [tdy]
 refine tV 11 ?_
 try simp only [tdy]
 refine tU 12 (v := ?_) rfl (by kernel_rfl) (fun _ _ _ h => h) (by rfl) ?_ ?_
 rotate_left
 ·intro wq hSw
  have hSB : Below _ _ _ := hSw
  obtain ⟨p0, p1, p2, p3, p4, p5, p6⟩ := HG.out.below hSB
  obtain ⟨m0, m1, m2, m3, m4, m5, m6⟩ := HM.out.below hSB
  have q1 := keep1 hSB HQ1.out
  have q2 := keep1 hSB HQ2.out
  have q3 := keep1 hSB HQ3.out
  go_simp; try with_reducible rfl
 try simp only [tdy]
 refine wpAnyU_take (i := 13) (v := It.val x) rfl (by kernel_rfl) (by kernel_rfl) (by kernel_rfl) (by kernel_rfl) (fun _ _ _ h => h) (Or.inl ⟨by rfl, fun wq hSw => ?_⟩) ?_
 ·refine SteadyRun.of_calls (Dtree.itself x wq) (by go_simp) ?_
  rintro e wr ⟨rfl, hb⟩
  exact ⟨rfl, hSw.on hb⟩
 try simp only [tdy]
 refine wpAnyU_take (i := 14) (v := It.val (sooner k x)) rfl (by kernel_rfl) (by kernel_rfl) (by kernel_rfl) (by kernel_rfl) (fun _ _ _ h => h) (Or.inl ⟨by rfl, fun wq hSw => ?_⟩) ?_
 ·refine SteadyRun.of_calls (Dtree.join k x HKI.out HXI.out wq) (by go_simp) ?_
  rintro e wr ⟨rfl, hb⟩
  exact ⟨rfl, hSw.on hb⟩
 try simp only [tdy]
 refine wpAnyU_last rfl rfl (by kernel_rfl) (fun wz hSz => ?_)
 have HZ2 : Hid (∃ z : It, Cs wz w.heap.size z.cells) := hid ⟨It.zero, HZ.out.below hSz⟩
 have HAN := hid (answer_it (Nat.le_refl _) HZ2.out (below_on HB0.out hSz) (sooner k x))
 have hth := there_it HZ2.out
 clear hSz q3
 go_wp2_with ((with_reducible refine wpList_put_it 35 infoItem rfl (.tmp 4) (.tmp 30) rfl w.heap.size 0 (sooner k x) hth ?u1 ?u2 ?u3); (case u1 => rfl); (case u2 => rfl); (intro W2 hW2); (have HW := hid (HAN.out W2 hW2)); (clear hW2 hth); (obtain ⟨z0, z1, z2, z3, z4, z5, z6⟩ := HW.out.1))
 refine bodyPost_ret (v := It.val (sooner k x)) (by simp [results, Tryz.results47, go_sem, z0, z1, z2, z3, z4, z5, z6]) rfl ⟨rfl, HW.out.2⟩
theorem Dt.upTo (g b1 b2 : Nat) (c : Bool) (l r : Tr It) (x : It) (w : World) (h : DSt w (.node g c l x r)) (h1 : Cs w b1 [(.func (.func 25) #[] #[])]) (h2 : Cs w b2 [(.func (.func 26) #[] #[])]) :
  Calls Tryz.prog 47 #[.pointer (some ⟨g, 0, none⟩), .pointer (some ⟨b1, 0, none⟩), .pointer (some ⟨b2, 0, none⟩)] w (Ans (It.val (bestL l x)) w) := by
 obtain ⟨⟨A, n, k, hc⟩, hl, hr⟩ := h
 cases l with
 | nil => exact Dt.upTo0 g b1 b2 x w hc.th hc.nd2 h1
 | node gl cl ll xl rl =>
  have hb := hl.best
  obtain ⟨⟨v, hv, hcl⟩, _⟩ := hl
  have e : bestL (.node gl cl ll xl rl) x = sooner v x := by
   show sooner (Tr.best (.node gl cl ll xl rl)) x = _
   rw [show Tr.best (.node gl cl ll xl rl) = v from hv.1.symm]
  rw [e]
  exact Dt.upTo1 g gl b1 b2 x v k hv.2.1 w hc.th hc.nd2 hcl.wh h1 h2
theorem bestL_in {w : World} {l : Tr It} {x : It} (hl : DIn w l) (hx : x.In) : (bestL l x).In := by
 unfold bestL; split; exact hx; exact sooner_in hl.best hx
theorem Dt.count (th g : Nat) (c : Bool) (l r : Tr It) (x : It) (rt : Value) (n : Int) (w : World) (h : DSt w (.node g c l x r)) (hd : (Tr.node g c l x r).blocks.Nodup) (_ : (Tr.node g c l x r).list.length ≤ 900000) (he : DEnv w th rt n) :
  Calls Tryz.prog 71 #[.pointer (some ⟨th, 0, none⟩), .pointer (some ⟨g, 0, none⟩)] w fun e w' => e = .returned (.tuple #[]) ∧ DIn w' (.node g c l x r) ∧ Chg [g] w w' := by
 obtain ⟨d1, d2, d3, d4, d5⟩ := Dnodup_node hd
 have HH := hid h
 have HE := hid he
 have hnl := h.nl g (by simp [Tr.blocks])
 have HN := hid hnl
 obtain ⟨b1, b2, t0, t1, t2, _⟩ := id he
 obtain ⟨⟨A, m, k, hc⟩, hl, hr⟩ := id h
 have HT := hid (And.intro t0 (And.intro t1 t2))
 have HC := hid (And.intro hc (And.intro hl hr))
 have HXI := hid k
 have HBI := hid (bestL_in hl k)
 have e2 := t0.at2
 clear t0 t1 t2 h he hnl hc hl hr hd
 go_enter Tryz.func71, Tryz.ntmps71
 go_wp2_with fail
 refine (Dt.upTo g b1 b2 c l r x _ HH.out HT.out.2.1 HT.out.2.2).mono ?_
 rintro e w1 ⟨rfl, hb⟩
 have HW : Hid (∀ W, W = w1.setCells g 7 (bestL l x).cells → Cs W g (nd x (bestL l x) (ptr l) (ptr r) c) ∧ DIn W l ∧ DIn W r ∧ DEnv W th rt n ∧ Chg [g] w W) := hid (by
  intro W e
  have hn' : DNl w1 g := HN.out.chg (F := []) (Chg.below hb) (by simp)
  have hF : ∀ j ∈ [g], DNl w1 j := fun j hj => by simp at hj; subst hj; exact hn'
  have hch : Chg [g] w1 W := by rw [e]; exact Chg.sets _ _ (Chg.refl _ _) (Or.inl (by simp))
  refine ⟨by rw [e]; exact (HC.out.1.below hb).putW _, (HC.out.2.1.below hb).chg hch hF (fun j hj hj' => by simp at hj'; subst hj'; exact d1 hj), (HC.out.2.2.below hb).chg hch hF (fun j hj hj' => by simp at hj'; subst hj'; exact d2 hj), (HE.out.below hb).chg hch hF, ?_⟩
  exact (Chg.below hb).trans hch (fun j hj => Or.inl hj))
 have hth := (HC.out.1.below hb).thereW
 clear hb e2
 cases r with
 | nil =>
  go_wp2_with ((with_reducible refine wpList_put_it 35 infoItem rfl (.tmp 12) (.tmp 10) rfl g 7 (bestL l x) hth ?u1 ?u2 ?u3); (case u1 => rfl); (case u2 => rfl); (intro W hW2); (have HF := hid (HW.out W hW2)); (clear hW2 hth); (have z3 := HF.out.1.nd3); (simp only [ptr_nil] at z3))
  go_end0
  obtain ⟨z0, z2, z3, z4, z5⟩ := HF.out
  exact ⟨rfl, ⟨⟨bestL l x, ⟨rfl, HBI.out, HXI.out⟩, z0⟩, z2, z3⟩, z5⟩
 | node gr cr lr xr rr =>
  go_wp2_with ((with_reducible refine wpList_put_it 35 infoItem rfl (.tmp 12) (.tmp 10) rfl g 7 (bestL l x) hth ?v1 ?v2 ?v3); (case v1 => rfl); (case v2 => rfl); (intro W hW2); (have HF := hid (HW.out W hW2)); (clear hW2 hth HW); (have z3 := HF.out.1.nd3); (simp only [ptr_node] at z3))
  clear z3
  obtain ⟨⟨k, hv2, hc2⟩, _⟩ := id HF.out.2.2.1
  obtain ⟨_, _, t0, _⟩ := id HF.out.2.2.2.1
  have HKI := hid hv2.2.1
  have HKE := hid hv2.1
  have HQ1 := hid t0.at1
  have HP := hid HF.out.1.wh
  have HQ2 := hid (show W.cell? ⟨g, 15, none⟩ = some (.pointer (some ⟨gr, 0, none⟩)) from HF.out.1.nd3)
  have HM := hid hc2.wh
  clear hv2 hc2 t0
  refine wp_region_steady (S := Bl W) 19 (by kernel_rfl) (Bl.drew W) ?_
  refine tV 0 ?_
  try simp only [tdy]
  refine tV 1 ?_
  try simp only [tdy]
  refine tV 2 ?_
  try simp only [tdy]
  refine tV 3 ?_
  try simp only [tdy]
  refine tU 4 (v := ?_) rfl (by kernel_rfl) (fun _ _ _ h => h) (by rfl) ?_ ?_
  rotate_left
  ·intro wq hSw
   have hSB : Below _ _ _ := hSw
   have q1 := keep1 hSB HQ1.out
   obtain ⟨p0, p1, p2, p3, p4, p5, p6⟩ := HP.out.below hSB
   have q2 := keep1 hSB HQ2.out
   obtain ⟨m0, m1, m2, m3, m4, m5, m6⟩ := HM.out.below hSB
   go_simp; try with_reducible rfl
  try simp only [tdy]
  refine tV 5 ?_
  try simp only [tdy]
  refine tV 6 ?_
  try simp only [tdy]
  refine tV 7 ?_
  try simp only [tdy]
  refine tU 8 (v := ?_) rfl (by kernel_rfl) (fun _ _ _ h => h) (by rfl) ?_ ?_
  rotate_left
  ·intro wq hSw
   have hSB : Below _ _ _ := hSw
   have q1 := keep1 hSB HQ1.out
   obtain ⟨p0, p1, p2, p3, p4, p5, p6⟩ := HP.out.below hSB
   have q2 := keep1 hSB HQ2.out
   obtain ⟨m0, m1, m2, m3, m4, m5, m6⟩ := HM.out.below hSB
   go_simp; try with_reducible rfl
  try simp only [tdy]
  refine tV 9 ?_
  try simp only [tdy]
  refine tV 10 ?_
  try simp only [tdy]
  refine tV 11 ?_
  try simp only [tdy]
  refine tU 12 (v := ?_) rfl (by kernel_rfl) (fun _ _ _ h => h) (by rfl) ?_ ?_
  rotate_left
  ·intro wq hSw
   have hSB : Below _ _ _ := hSw
   have q1 := keep1 hSB HQ1.out
   obtain ⟨p0, p1, p2, p3, p4, p5, p6⟩ := HP.out.below hSB
   have q2 := keep1 hSB HQ2.out
   obtain ⟨m0, m1, m2, m3, m4, m5, m6⟩ := HM.out.below hSB
   go_simp; try with_reducible rfl
  try simp only [tdy]
  refine tV 13 ?_
  try simp only [tdy]
  refine tV 14 ?_
  try simp only [tdy]
  refine tU 15 (v := ?_) rfl (by kernel_rfl) (fun _ _ _ h => h) (by rfl) ?_ ?_
  rotate_left
  ·intro wq hSw
   have hSB : Below _ _ _ := hSw
   have q1 := keep1 hSB HQ1.out
   obtain ⟨p0, p1, p2, p3, p4, p5, p6⟩ := HP.out.below hSB
   have q2 := keep1 hSB HQ2.out
   obtain ⟨m0, m1, m2, m3, m4, m5, m6⟩ := HM.out.below hSB
   go_simp; try with_reducible rfl
  try simp only [tdy]
  refine wpAnyU_take (i := 16) (v := It.val (sooner (bestL l x) k)) rfl (by kernel_rfl) (by kernel_rfl) (by kernel_rfl) (by kernel_rfl) (fun _ _ _ h => h) (Or.inl ⟨by rfl, fun wq hSw => ?_⟩) ?_
  ·refine SteadyRun.of_calls (Dtree.join (bestL l x) k HBI.out HKI.out wq) (by go_simp) ?_
   rintro e wr ⟨rfl, hb⟩
   exact ⟨rfl, hSw.on hb⟩
  try simp only [tdy]
  refine tV 17 ?_
  try simp only [tdy]
  refine tV 18 ?_
  try simp only [tdy]
  refine wpAnyU_last rfl rfl (by kernel_rfl) (fun wz hSz => ?_)
  have hth := (HF.out.1.below hSz).thereW
  have HW3 : Hid (∀ W', W' = wz.setCells g 7 (sooner (bestL l x) k).cells → DIn W' (.node g c l x (.node gr cr lr xr rr)) ∧ Chg [g] w W') := hid (by
   intro W' e
   have hn' : DNl wz g := (HF.out.1.below hSz).dnl
   have hF : ∀ j ∈ [g], DNl wz j := fun j hj => by simp at hj; subst hj; exact hn'
   have hch : Chg [g] wz W' := by rw [e]; exact Chg.sets _ _ (Chg.refl _ _) (Or.inl (by simp))
   refine ⟨⟨⟨sooner (bestL l x) k, ⟨?_, sooner_in HBI.out HKI.out, HXI.out⟩, by rw [e]; exact (HF.out.1.below hSz).putW _⟩, (HF.out.2.1.below hSz).chg hch hF (fun j hj hj' => by simp at hj'; subst hj'; exact d1 hj), (HF.out.2.2.1.below hSz).chg hch hF (fun j hj hj' => by simp at hj'; subst hj'; exact d2 hj)⟩, ?_⟩
   ·show _ = sooner (bestL l x) (Tr.best (.node gr cr lr xr rr))
    rw [show Tr.best (.node gr cr lr xr rr) = k from HKE.out.symm]
   ·exact (HF.out.2.2.2.2.trans (Chg.below hSz) (G := []) (by simp)).trans hch (fun j hj => Or.inl hj))
  clear hSz
  go_wp2_with ((with_reducible refine wpList_put_it 35 infoItem rfl (.tmp 36) (.tmp 34) rfl g 7 (sooner (bestL l x) k) hth ?w1 ?w2 ?w3); (case w1 => rfl); (case w2 => rfl); (intro W9 hW9); (have HX := hid (HW3.out W9 hW9)); (clear hW9 hth))
  go_end0
  exact ⟨rfl, HX.out.1, HX.out.2⟩
end


section
open Go.RowKit
set_option maxRecDepth 100000
set_option maxHeartbeats 32000000
def DStL (w : World) : Tr It → Prop
 | .nil => True
 | .node g c l x r => (∃ (A : It) (_ : A.In) (_ : x.In), Cs w g (nd x A (ptr l) (ptr r) c)) ∧ DIn w l ∧ DSt w r
theorem DIn.chg1 {w w' : World} {t : Tr It} {g : Nat} (h : DIn w t) (hc : Chg [g] w w') (hn : DNl w g) (hg : g ∉ t.blocks) : DIn w' t :=
 h.chg hc (fun j hj => by simp at hj; subst hj; exact hn) (fun j hj hj' => by simp at hj'; subst hj'; exact hg hj)
theorem Dt.turnLeft (th g h : Nat) (c d : Bool) (a b e : Tr It) (x y : It) (rt : Value) (n : Int) (w : World) (hst : DStL w (.node g c a x (.node h d b y e))) (hd : (Tr.node g c a x (.node h d b y e)).blocks.Nodup)
  (hn : (Tr.node g c a x (.node h d b y e)).list.length ≤ 900000) (he : DEnv w th rt n) :
  Calls Tryz.prog 69 #[.pointer (some ⟨th, 0, none⟩), .pointer (some ⟨g, 0, none⟩)] w
   (DTurns (.pointer (some ⟨h, 0, none⟩)) (.node h c (.node g true a x b) y e) (Tr.node g c a x (.node h d b y e)).blocks w) := by
 obtain ⟨d1, d2, d3, d4, d5⟩ := Dnodup_node hd
 obtain ⟨f1, f2, f3, f4, f5⟩ := Dnodup_node d4
 simp only [Tr.blocks, List.mem_cons, List.mem_append, not_or] at d2 d5
 simp only [Tr.list, List.length_append, List.length_cons] at hn
 obtain ⟨dgh, dgb, dge⟩ := d2
 obtain ⟨⟨A, m, k, hc⟩, ha, ⟨⟨A2, m2, k2, hc2⟩, hb, hee⟩⟩ := hst
 have hng : DNl w g := hc.dnl
 have hnh : DNl w h := hc2.dnl
 obtain ⟨u, hu⟩ := ptr_form b
 rw [hu] at hc2
 have HD := hid d5
 have HW : Hid (∃ W, W = (((w.setCell ⟨g, 15, none⟩ (.pointer u)).setCell ⟨h, 14, none⟩ (.pointer (some ⟨g, 0, none⟩))).setCell ⟨h, 16, none⟩ (.bool c)).setCell ⟨g, 16, none⟩ (.bool true) ∧
   DSt W (.node g true a x b) ∧ Cs W h (nd y A2 (.pointer (some ⟨g, 0, none⟩)) (ptr e) c) ∧ DIn W e ∧ DEnv W th rt n ∧ Chg (Tr.node g c a x (.node h d b y e)).blocks w W) := hid (by
  have hch : Chg [g, h] w ((((w.setCell ⟨g, 15, none⟩ (.pointer u)).setCell ⟨h, 14, none⟩ (.pointer (some ⟨g, 0, none⟩))).setCell ⟨h, 16, none⟩ (.bool c)).setCell ⟨g, 16, none⟩ (.bool true)) :=
   ((((Chg.refl _ w).set (Or.inl (by simp)) _ _).set (Or.inl (by simp)) _ _).set (Or.inl (by simp)) _ _).set (Or.inl (by simp)) _ _
  have hnl : ∀ j ∈ [g, h], DNl w j := fun j hj => by simp at hj; rcases hj with rfl | rfl; exact hng; exact hnh
  have ap : ∀ t : Tr It, g ∉ t.blocks → h ∉ t.blocks → ∀ j ∈ t.blocks, j ∉ [g, h] := fun t h1 h2 j hj hj' => by simp at hj'; rcases hj' with rfl | rfl; exact h1 hj; exact h2 hj
  refine ⟨_, rfl, ⟨⟨A, m, k, ?_⟩, ha.chg hch hnl (ap a d1 (fun hj => (d5 h hj).1 rfl)), hb.chg hch hnl (ap b dgb f1)⟩, ?_, hee.chg hch hnl (ap e dge f2), he.chg hch hnl, hch.mono (by simp [Tr.blocks])⟩
  ·rw [hu]
   exact (((hc.nds3 _).far (Ne.symm dgh) _ _).far (Ne.symm dgh) _ _).nds4 _
  ·exact ((((hc2.far dgh _ _).nds2 _).nds4 _)).far dgh _ _)
 have c2 := hc.nd2
 have c3 := hc.nd3
 have c4 := hc.nd4
 have c5 := hc.ndf3
 have c6 := hc.ndf4
 have h2 := hc2.nd2
 have h4 := hc2.nd4
 have h5 := hc2.ndf2
 have h6 := hc2.ndf4
 simp only [ptr_node] at c3
 have HN := hid hn
 have HG := hid dge
 have HD' := hid (show g ∉ (a.blocks ++ b.blocks) ∧ (a.blocks ++ b.blocks).Nodup from ⟨by simp [d1, dgb], List.nodup_append.2 ⟨d3, f3, fun p hp q hq e => (HD.out p hp).2.1 (e ▸ hq)⟩⟩)
 clear hd hn he hc ha hc2 hb hee hng hnh d1 d3 d4 f1 f2 f3 f4 f5 dgb dge d5
 have ne1 : h ≠ g := Ne.symm dgh
 go_enter Tryz.func69, Tryz.ntmps69
 go_wp2_with fail
 obtain ⟨W, hW, HF⟩ := HW
 rw [← hW]
 clear hW
 have HF := hid HF
 go_ways
 refine (Dt.count th g true a b x rt n W HF.out.1 (List.nodup_cons.2 HD'.out) (by have := HN.out; simp only [Tr.list, List.length_append, List.length_cons]; omega) HF.out.2.2.2.1).mono ?_
 rintro e1 w2 ⟨rfl, hi, hw⟩
 have HI := hid hi
 have HC := hid hw
 clear hi hw
 go_wp2_with fail
 go_ret
 have hng : DNl W g := HF.out.1.nl g (by simp [Tr.blocks])
 refine ⟨rfl, ⟨⟨A2, m2, k2, HF.out.2.1.chg HC.out (by simp [ne1])⟩, HI.out, HF.out.2.2.1.chg1 HC.out hng HG.out⟩, HF.out.2.2.2.2.trans HC.out (by simp [Tr.blocks])⟩
theorem Dt.turnRight (th g h : Nat) (c d : Bool) (a b e : Tr It) (x y : It) (rt : Value) (n : Int) (w : World) (hst : DSt w (.node g c (.node h d a y b) x e)) (hd : (Tr.node g c (.node h d a y b) x e).blocks.Nodup)
  (hn : (Tr.node g c (.node h d a y b) x e).list.length ≤ 900000) (he : DEnv w th rt n) :
  Calls Tryz.prog 54 #[.pointer (some ⟨th, 0, none⟩), .pointer (some ⟨g, 0, none⟩)] w
   (DTurns (.pointer (some ⟨h, 0, none⟩)) (.node h c a y (.node g true b x e)) (Tr.node g c (.node h d a y b) x e).blocks w) := by
 obtain ⟨d1, d2, d3, d4, d5⟩ := Dnodup_node hd
 obtain ⟨f1, f2, f3, f4, f5⟩ := Dnodup_node d3
 simp only [Tr.blocks, List.mem_cons, List.mem_append, not_or] at d1 d5
 simp only [Tr.list, List.length_append, List.length_cons] at hn
 obtain ⟨dgh, dga, dgb⟩ := d1
 obtain ⟨⟨A, m, k, hc⟩, hl, hee⟩ := hst
 obtain ⟨⟨A2, m2, k2, hc2⟩, ha, hb⟩ := hl.st
 have hng : DNl w g := hc.dnl
 have hnh : DNl w h := hc2.dnl
 obtain ⟨u, hu⟩ := ptr_form b
 rw [hu] at hc2
 have dhe : h ∉ e.blocks := d5 h (Or.inl rfl)
 have HD := hid d5
 have HW : Hid (∃ W, W = (((w.setCell ⟨g, 14, none⟩ (.pointer u)).setCell ⟨h, 15, none⟩ (.pointer (some ⟨g, 0, none⟩))).setCell ⟨h, 16, none⟩ (.bool c)).setCell ⟨g, 16, none⟩ (.bool true) ∧
   DSt W (.node g true b x e) ∧ Cs W h (nd y A2 (ptr a) (.pointer (some ⟨g, 0, none⟩)) c) ∧ DIn W a ∧ DEnv W th rt n ∧ Chg (Tr.node g c (.node h d a y b) x e).blocks w W) := hid (by
  have hch : Chg [g, h] w ((((w.setCell ⟨g, 14, none⟩ (.pointer u)).setCell ⟨h, 15, none⟩ (.pointer (some ⟨g, 0, none⟩))).setCell ⟨h, 16, none⟩ (.bool c)).setCell ⟨g, 16, none⟩ (.bool true)) :=
   ((((Chg.refl _ w).set (Or.inl (by simp)) _ _).set (Or.inl (by simp)) _ _).set (Or.inl (by simp)) _ _).set (Or.inl (by simp)) _ _
  have hnl : ∀ j ∈ [g, h], DNl w j := fun j hj => by simp at hj; rcases hj with rfl | rfl; exact hng; exact hnh
  have ap : ∀ t : Tr It, g ∉ t.blocks → h ∉ t.blocks → ∀ j ∈ t.blocks, j ∉ [g, h] := fun t h1 h2 j hj hj' => by simp at hj'; rcases hj' with rfl | rfl; exact h1 hj; exact h2 hj
  refine ⟨_, rfl, ⟨⟨A, m, k, ?_⟩, hb.chg hch hnl (ap b dgb f2), hee.chg hch hnl (ap e d2 dhe)⟩, ?_, ha.chg hch hnl (ap a dga f1), he.chg hch hnl, hch.mono (by simp [Tr.blocks])⟩
  ·rw [hu]
   exact (((hc.nds2 _).far (Ne.symm dgh) _ _).far (Ne.symm dgh) _ _).nds4 _
  ·exact ((((hc2.far dgh _ _).nds3 _).nds4 _)).far dgh _ _)
 have c2 := hc.nd2
 have c4 := hc.nd4
 have c5 := hc.ndf2
 have c6 := hc.ndf4
 have h2 := hc2.nd3
 have h4 := hc2.nd4
 have h5 := hc2.ndf3
 have h6 := hc2.ndf4
 simp only [ptr_node] at c2
 have HN := hid hn
 have HG := hid dga
 have HD' := hid (show g ∉ (b.blocks ++ e.blocks) ∧ (b.blocks ++ e.blocks).Nodup from ⟨by simp [d2, dgb], List.nodup_append.2 ⟨f4, d4, fun p hp q hq e => HD.out p (Or.inr (Or.inr hp)) (e ▸ hq)⟩⟩)
 clear hd hn he hc ha hc2 hb hee hl hng hnh d2 d3 d4 f1 f2 f3 f4 f5 dga dgb d5 dhe
 have ne1 : h ≠ g := Ne.symm dgh
 go_enter Tryz.func54, Tryz.ntmps54
 go_wp2_with fail
 obtain ⟨W, hW, HF⟩ := HW
 rw [← hW]
 clear hW
 have HF := hid HF
 go_ways
 refine (Dt.count th g true b e x rt n W HF.out.1 (List.nodup_cons.2 HD'.out) (by have := HN.out; simp only [Tr.list, List.length_append, List.length_cons]; omega) HF.out.2.2.2.1).mono ?_
 rintro e1 w2 ⟨rfl, hi, hw⟩
 have HI := hid hi
 have HC := hid hw
 clear hi hw
 go_wp2_with fail
 go_ret
 have hng : DNl W g := HF.out.1.nl g (by simp [Tr.blocks])
 refine ⟨rfl, ⟨⟨A2, m2, k2, HF.out.2.1.chg HC.out (by simp [ne1])⟩, HF.out.2.2.1.chg1 HC.out hng HG.out, HI.out⟩, HF.out.2.2.2.2.trans HC.out (by simp [Tr.blocks])⟩
end


section
open Go.RowKit
set_option maxRecDepth 100000
set_option maxHeartbeats 32000000
def DTurned (t' : Tr It) (F : List Nat) (w : World) (e : Ending) (w' : World) : Prop := e = .returned (ptr t') ∧ DIn w' t' ∧ Chg F w w'
theorem DEnv.turned {w w' : World} {t : Tr It} {th : Nat} {rt : Value} {n : Int} (he : DEnv w th rt n) (h : DSt w t) (hc : Chg t.blocks w w') : DEnv w' th rt n := he.chg hc h.nl
theorem Dt.bal_d (g : Nat) (c : Bool) (l r : Tr It) (x : It) (th : Nat) (rt : Value) (n : Int) (w : World) (hst : DSt w (.node g c l x r)) (hd : (Tr.node g c l x r).blocks.Nodup)
  (hn : (Tr.node g c l x r).list.length ≤ 900000) (he : DEnv w th rt n) (hlr : l.red = false) (hrr : r.red = false) :
  Calls Tryz.prog 50 #[.pointer (some ⟨th, 0, none⟩), .pointer (some ⟨g, 0, none⟩)] w (DTurned (.node g c l x r) (Tr.node g c l x r).blocks w) := by
 have HS := hid hst
 have HE := hid he
 have HD := hid hd
 have HN := hid hn
 obtain ⟨⟨A, m, k, hc⟩, hl, hr⟩ := hst
 have c2 := hc.nd2
 have c3 := hc.nd3
 have HL := hid hl
 have HR := hid hr
 clear hc hl hr hd hn he
 try simp only [ptr_node] at c2 c3
 have HLR := hid hlr
 have HRR := hid hrr
 clear hlr hrr
 go_enter Tryz.func50, Tryz.ntmps50
 go_wp2_with fail
 refine (Dt.isRed (r) _ (HR.out.st)).mono ?_
 rintro e0 w0 ⟨rfl, rfl⟩
 rw [HRR.out]
 go_wp2_with fail
 refine (Dt.isRed (l) _ (HL.out.st)).mono ?_
 rintro e0 w0 ⟨rfl, rfl⟩
 rw [HLR.out]
 go_wp2_with fail
 refine (Dt.isRed (l) _ (HL.out.st)).mono ?_
 rintro e0 w0 ⟨rfl, rfl⟩
 rw [HLR.out]
 go_wp2_with fail
 refine (Dt.count th g c (l) (r) x rt n _ (HS.out) (HD.out) (HN.out) (HE.out)).mono ?_
 rintro e9 w9 ⟨rfl, hi9, hw9⟩
 have HI9 := hid hi9
 have HW9 := hid hw9
 clear hi9 hw9
 go_wp2_with fail
 go_ret
 exact ⟨rfl, HI9.out, HW9.out.mono (by simp [Tr.blocks])⟩
theorem Dt.bal_a1 (g h : Nat) (c : Bool) (l a b : Tr It) (x y : It) (th : Nat) (rt : Value) (n : Int) (w : World) (hst : DSt w (.node g c l x (.node h true a y b))) (hd : (Tr.node g c l x (.node h true a y b)).blocks.Nodup)
  (hn : (Tr.node g c l x (.node h true a y b)).list.length ≤ 900000) (he : DEnv w th rt n) (hlr : l.red = false) (hbr : b.red = false) :
  Calls Tryz.prog 50 #[.pointer (some ⟨th, 0, none⟩), .pointer (some ⟨g, 0, none⟩)] w (DTurned (.node h c (.node g true l x a) y b) (Tr.node g c l x (.node h true a y b)).blocks w) := by
 have HS := hid hst
 have HE := hid he
 have HD := hid hd
 have HN := hid hn
 obtain ⟨⟨A, m, k, hc⟩, hl, hr⟩ := hst
 have c2 := hc.nd2
 have c3 := hc.nd3
 have HC := hid hc
 have HL := hid hl
 have HR := hid hr
 clear hc hl hr hd hn he
 try simp only [ptr_node] at c2 c3
 have HLR := hid hlr
 have HBR := hid hbr
 clear hlr hbr
 go_enter Tryz.func50, Tryz.ntmps50
 go_wp2_with fail
 refine (Dt.isRed (.node h true a y b) _ (HR.out.st)).mono ?_
 rintro e0 w0 ⟨rfl, rfl⟩
 simp only [Tr.red]
 go_wp2_with fail
 refine (Dt.isRed (l) _ (HL.out.st)).mono ?_
 rintro e0 w0 ⟨rfl, rfl⟩
 rw [HLR.out]
 go_wp2_with fail
 refine (Dt.turnLeft th g h c true l a b x y rt n _ ⟨⟨A, m, k, HC.out⟩, HL.out, HR.out.st⟩ HD.out HN.out HE.out).mono ?_
 rintro e1 w1 ⟨rfl, hs1, hw1⟩
 have HE1 := hid (HE.out.turned HS.out hw1)
 have HS1 := hid hs1
 have HW1 := hid hw1
 obtain ⟨⟨A1, m1, k1, hc1⟩, hl1, hr1⟩ := hs1
 have z2 := hc1.nd2
 have z3 := hc1.nd3
 have HL1 := hid hl1
 have HR1 := hid hr1
 obtain ⟨⟨v1, hv1, hcl1⟩, hll1, _⟩ := hl1
 have z4 := hcl1.nd2
 have HLL1 := hid hll1
 clear hc1 hr1 hv1 hcl1 hll1 hw1 c2 c3
 try simp only [ptr_node] at z2 z3
 go_wp2_with fail
 refine (Dt.isRed (.node g true l x a) _ (HL1.out.st)).mono ?_
 rintro e0 w0 ⟨rfl, rfl⟩
 simp only [Tr.red]
 go_wp2_with fail
 refine (Dt.isRed (l) _ (HLL1.out.st)).mono ?_
 rintro e0 w0 ⟨rfl, rfl⟩
 rw [HLR.out]
 go_wp2_with fail
 refine (Dt.isRed (.node g true l x a) _ (HL1.out.st)).mono ?_
 rintro e0 w0 ⟨rfl, rfl⟩
 simp only [Tr.red]
 go_wp2_with fail
 refine (Dt.isRed (b) _ (HR1.out.st)).mono ?_
 rintro e0 w0 ⟨rfl, rfl⟩
 rw [HBR.out]
 go_wp2_with fail
 refine (Dt.count th h c (.node g true l x a) (b) y rt n _ (HS1.out) ((Tr.perm_turnLeft (Tr.node g c l x (.node h true a y b))).nodup_iff.2 HD.out) (Nat.le_trans (Nat.le_of_eq (congrArg List.length (Tr.list_turnLeft (Tr.node g c l x (.node h true a y b))))) HN.out) (HE1.out)).mono ?_
 rintro e9 w9 ⟨rfl, hi9, hw9⟩
 have HI9 := hid hi9
 have HW9 := hid hw9
 clear hi9 hw9
 go_wp2_with fail
 go_ret
 exact ⟨rfl, HI9.out, HW1.out.trans HW9.out (fun j hj => Or.inl ((Tr.perm_turnLeft (Tr.node g c l x (.node h true a y b))).mem_iff.1 (by simp at hj; subst hj; simp [Tr.turnLeft, Tr.blocks])))⟩
theorem Dt.bal_a2 (g h gb : Nat) (c : Bool) (l a lb rb : Tr It) (x y z : It) (th : Nat) (rt : Value) (n : Int) (w : World) (hst : DSt w (.node g c l x (.node h true a y (.node gb true lb z rb)))) (hd : (Tr.node g c l x (.node h true a y (.node gb true lb z rb))).blocks.Nodup)
  (hn : (Tr.node g c l x (.node h true a y (.node gb true lb z rb))).list.length ≤ 900000) (he : DEnv w th rt n) (hlr : l.red = false) :
  Calls Tryz.prog 50 #[.pointer (some ⟨th, 0, none⟩), .pointer (some ⟨g, 0, none⟩)] w (DTurned (.node h (!c) (.node g false l x a) y (.node gb false lb z rb)) (Tr.node g c l x (.node h true a y (.node gb true lb z rb))).blocks w) := by
 have HS := hid hst
 have HE := hid he
 have HD := hid hd
 have HN := hid hn
 obtain ⟨⟨A, m, k, hc⟩, hl, hr⟩ := hst
 have c2 := hc.nd2
 have c3 := hc.nd3
 have HC := hid hc
 have HL := hid hl
 have HR := hid hr
 clear hc hl hr hd hn he
 try simp only [ptr_node] at c2 c3
 have HLR := hid hlr
 clear hlr
 go_enter Tryz.func50, Tryz.ntmps50
 go_wp2_with fail
 refine (Dt.isRed (.node h true a y (.node gb true lb z rb)) _ (HR.out.st)).mono ?_
 rintro e0 w0 ⟨rfl, rfl⟩
 simp only [Tr.red]
 go_wp2_with fail
 refine (Dt.isRed (l) _ (HL.out.st)).mono ?_
 rintro e0 w0 ⟨rfl, rfl⟩
 rw [HLR.out]
 go_wp2_with fail
 refine (Dt.turnLeft th g h c true l a (.node gb true lb z rb) x y rt n _ ⟨⟨A, m, k, HC.out⟩, HL.out, HR.out.st⟩ HD.out HN.out HE.out).mono ?_
 rintro e1 w1 ⟨rfl, hs1, hw1⟩
 have HE1 := hid (HE.out.turned HS.out hw1)
 have HS1 := hid hs1
 have HW1 := hid hw1
 obtain ⟨⟨A1, m1, k1, hc1⟩, hl1, hr1⟩ := hs1
 have z2 := hc1.nd2
 have z3 := hc1.nd3
 have HL1 := hid hl1
 have HR1 := hid hr1
 obtain ⟨⟨v1, hv1, hcl1⟩, hll1, _⟩ := hl1
 have z4 := hcl1.nd2
 have HLL1 := hid hll1
 clear hc1 hr1 hv1 hcl1 hll1 hw1 c2 c3
 try simp only [ptr_node] at z2 z3
 go_wp2_with fail
 refine (Dt.isRed (.node g true l x a) _ (HL1.out.st)).mono ?_
 rintro e0 w0 ⟨rfl, rfl⟩
 simp only [Tr.red]
 go_wp2_with fail
 refine (Dt.isRed (l) _ (HLL1.out.st)).mono ?_
 rintro e0 w0 ⟨rfl, rfl⟩
 rw [HLR.out]
 go_wp2_with fail
 refine (Dt.isRed (.node g true l x a) _ (HL1.out.st)).mono ?_
 rintro e0 w0 ⟨rfl, rfl⟩
 simp only [Tr.red]
 go_wp2_with fail
 refine (Dt.isRed (.node gb true lb z rb) _ (HR1.out.st)).mono ?_
 rintro e0 w0 ⟨rfl, rfl⟩
 simp only [Tr.red]
 go_wp2_with fail
 refine (Dt.flip h g gb c true true y x z l a lb rb _ HS1.out ((Tr.perm_turnLeft (Tr.node g c l x (.node h true a y (.node gb true lb z rb)))).nodup_iff.2 HD.out)).mono ?_
 rintro e2 w2 ⟨rfl, hs2, hw2⟩
 have HS2 := hid hs2
 have HW2 := hid hw2
 have HE2 := hid (HE1.out.turned HS1.out hw2)
 clear hs2 hw2 z2 z3 z4
 go_wp2_with fail
 refine (Dt.count th h (!c) (.node g false l x a) (.node gb false lb z rb) y rt n _ (HS2.out) ((Tr.perm_turnLeft (Tr.node g c l x (.node h true a y (.node gb true lb z rb)))).nodup_iff.2 HD.out) (Nat.le_trans (Nat.le_of_eq (congrArg List.length (Tr.list_turnLeft (Tr.node g c l x (.node h true a y (.node gb true lb z rb)))))) HN.out) (HE2.out)).mono ?_
 rintro e9 w9 ⟨rfl, hi9, hw9⟩
 have HI9 := hid hi9
 have HW9 := hid hw9
 clear hi9 hw9
 go_wp2_with fail
 go_ret
 exact ⟨rfl, HI9.out, (HW1.out.trans HW2.out (fun j hj => Or.inl ((Tr.perm_turnLeft (Tr.node g c l x (.node h true a y (.node gb true lb z rb)))).mem_iff.1 hj))).trans HW9.out (fun j hj => Or.inl ((Tr.perm_turnLeft (Tr.node g c l x (.node h true a y (.node gb true lb z rb)))).mem_iff.1 (by simp at hj; subst hj; simp [Tr.turnLeft, Tr.blocks])))⟩
theorem Dt.bal_b (g h gb : Nat) (c : Bool) (lb rb a r : Tr It) (x y z : It) (th : Nat) (rt : Value) (n : Int) (w : World) (hst : DSt w (.node g c (.node h true (.node gb true lb z rb) y a) x r)) (hd : (Tr.node g c (.node h true (.node gb true lb z rb) y a) x r).blocks.Nodup)
  (hn : (Tr.node g c (.node h true (.node gb true lb z rb) y a) x r).list.length ≤ 900000) (he : DEnv w th rt n) (hrr : r.red = false) :
  Calls Tryz.prog 50 #[.pointer (some ⟨th, 0, none⟩), .pointer (some ⟨g, 0, none⟩)] w (DTurned (.node h (!c) (.node gb false lb z rb) y (.node g false a x r)) (Tr.node g c (.node h true (.node gb true lb z rb) y a) x r).blocks w) := by
 have HS := hid hst
 have HE := hid he
 have HD := hid hd
 have HN := hid hn
 obtain ⟨⟨A, m, k, hc⟩, hl, hr⟩ := hst
 have c2 := hc.nd2
 have c3 := hc.nd3
 have HL := hid hl
 obtain ⟨⟨v1, _, hcl⟩, hll, _⟩ := hl
 have c4 := hcl.nd2
 have HLL := hid hll
 simp only [ptr_node] at c4
 clear hcl hll
 have HR := hid hr
 clear hc hr hd hn he
 try simp only [ptr_node] at c2 c3
 have HRR := hid hrr
 clear hrr
 go_enter Tryz.func50, Tryz.ntmps50
 go_wp2_with fail
 refine (Dt.isRed (r) _ (HR.out.st)).mono ?_
 rintro e0 w0 ⟨rfl, rfl⟩
 rw [HRR.out]
 go_wp2_with fail
 refine (Dt.isRed (.node h true (.node gb true lb z rb) y a) _ (HL.out.st)).mono ?_
 rintro e0 w0 ⟨rfl, rfl⟩
 simp only [Tr.red]
 go_wp2_with fail
 refine (Dt.isRed (.node gb true lb z rb) _ (HLL.out.st)).mono ?_
 rintro e0 w0 ⟨rfl, rfl⟩
 simp only [Tr.red]
 go_wp2_with fail
 refine (Dt.turnRight th g h c true (.node gb true lb z rb) a r x y rt n _ HS.out HD.out HN.out HE.out).mono ?_
 rintro e1 w1 ⟨rfl, hs1, hw1⟩
 have HE1 := hid (HE.out.turned HS.out hw1)
 have HS1 := hid hs1
 have HW1 := hid hw1
 obtain ⟨⟨A1, m1, k1, hc1⟩, hl1, hr1⟩ := hs1
 have z2 := hc1.nd2
 have z3 := hc1.nd3
 have HL1 := hid hl1
 have HR1 := hid hr1
 clear hc1 hr1 hl1 hw1 c2 c3 c4
 try simp only [ptr_node] at z2 z3
 go_wp2_with fail
 refine (Dt.isRed (.node gb true lb z rb) _ (HL1.out.st)).mono ?_
 rintro e0 w0 ⟨rfl, rfl⟩
 simp only [Tr.red]
 go_wp2_with fail
 refine (Dt.isRed (.node g true a x r) _ (HR1.out.st)).mono ?_
 rintro e0 w0 ⟨rfl, rfl⟩
 simp only [Tr.red]
 go_wp2_with fail
 refine (Dt.flip h gb g c true true y z x lb rb a r _ HS1.out ((Tr.perm_turnRight (Tr.node g c (.node h true (.node gb true lb z rb) y a) x r)).nodup_iff.2 HD.out)).mono ?_
 rintro e2 w2 ⟨rfl, hs2, hw2⟩
 have HS2 := hid hs2
 have HW2 := hid hw2
 have HE2 := hid (HE1.out.turned HS1.out hw2)
 clear hs2 hw2 z2 z3
 go_wp2_with fail
 refine (Dt.count th h (!c) (.node gb false lb z rb) (.node g false a x r) y rt n _ (HS2.out) ((Tr.perm_turnRight (Tr.node g c (.node h true (.node gb true lb z rb) y a) x r)).nodup_iff.2 HD.out) (Nat.le_trans (Nat.le_of_eq (congrArg List.length (Tr.list_turnRight (Tr.node g c (.node h true (.node gb true lb z rb) y a) x r)))) HN.out) (HE2.out)).mono ?_
 rintro e9 w9 ⟨rfl, hi9, hw9⟩
 have HI9 := hid hi9
 have HW9 := hid hw9
 clear hi9 hw9
 go_wp2_with fail
 go_ret
 exact ⟨rfl, HI9.out, (HW1.out.trans HW2.out (fun j hj => Or.inl ((Tr.perm_turnRight (Tr.node g c (.node h true (.node gb true lb z rb) y a) x r)).mem_iff.1 hj))).trans HW9.out (fun j hj => Or.inl ((Tr.perm_turnRight (Tr.node g c (.node h true (.node gb true lb z rb) y a) x r)).mem_iff.1 (by simp at hj; subst hj; simp [Tr.turnRight, Tr.blocks])))⟩
theorem Dt.bal_b2 (g h gb : Nat) (c : Bool) (lb rb a r : Tr It) (x y z : It) (th : Nat) (rt : Value) (n : Int) (w : World) (hst : DSt w (.node g c (.node h true (.node gb true lb z rb) y a) x r)) (hd : (Tr.node g c (.node h true (.node gb true lb z rb) y a) x r).blocks.Nodup)
  (hn : (Tr.node g c (.node h true (.node gb true lb z rb) y a) x r).list.length ≤ 900000) (he : DEnv w th rt n) (hrr : r.red = true) :
  Calls Tryz.prog 50 #[.pointer (some ⟨th, 0, none⟩), .pointer (some ⟨g, 0, none⟩)] w (DTurned (.node h (!c) (.node gb false lb z rb) y (.node g false a x r)) (Tr.node g c (.node h true (.node gb true lb z rb) y a) x r).blocks w) := by
 have HS := hid hst
 have HE := hid he
 have HD := hid hd
 have HN := hid hn
 obtain ⟨⟨A, m, k, hc⟩, hl, hr⟩ := hst
 have c2 := hc.nd2
 have c3 := hc.nd3
 have HL := hid hl
 obtain ⟨⟨v1, _, hcl⟩, hll, _⟩ := hl
 have c4 := hcl.nd2
 have HLL := hid hll
 simp only [ptr_node] at c4
 clear hcl hll
 have HR := hid hr
 clear hc hr hd hn he
 try simp only [ptr_node] at c2 c3
 have HRR := hid hrr
 clear hrr
 go_enter Tryz.func50, Tryz.ntmps50
 go_wp2_with fail
 refine (Dt.isRed (r) _ (HR.out.st)).mono ?_
 rintro e0 w0 ⟨rfl, rfl⟩
 rw [HRR.out]
 go_wp2_with fail
 refine (Dt.isRed (.node h true (.node gb true lb z rb) y a) _ (HL.out.st)).mono ?_
 rintro e0 w0 ⟨rfl, rfl⟩
 simp only [Tr.red]
 go_wp2_with fail
 refine (Dt.isRed (.node h true (.node gb true lb z rb) y a) _ (HL.out.st)).mono ?_
 rintro e0 w0 ⟨rfl, rfl⟩
 simp only [Tr.red]
 go_wp2_with fail
 refine (Dt.isRed (.node gb true lb z rb) _ (HLL.out.st)).mono ?_
 rintro e0 w0 ⟨rfl, rfl⟩
 simp only [Tr.red]
 go_wp2_with fail
 refine (Dt.turnRight th g h c true (.node gb true lb z rb) a r x y rt n _ HS.out HD.out HN.out HE.out).mono ?_
 rintro e1 w1 ⟨rfl, hs1, hw1⟩
 have HE1 := hid (HE.out.turned HS.out hw1)
 have HS1 := hid hs1
 have HW1 := hid hw1
 obtain ⟨⟨A1, m1, k1, hc1⟩, hl1, hr1⟩ := hs1
 have z2 := hc1.nd2
 have z3 := hc1.nd3
 have HL1 := hid hl1
 have HR1 := hid hr1
 clear hc1 hr1 hl1 hw1 c2 c3 c4
 try simp only [ptr_node] at z2 z3
 go_wp2_with fail
 refine (Dt.isRed (.node gb true lb z rb) _ (HL1.out.st)).mono ?_
 rintro e0 w0 ⟨rfl, rfl⟩
 simp only [Tr.red]
 go_wp2_with fail
 refine (Dt.isRed (.node g true a x r) _ (HR1.out.st)).mono ?_
 rintro e0 w0 ⟨rfl, rfl⟩
 simp only [Tr.red]
 go_wp2_with fail
 refine (Dt.flip h gb g c true true y z x lb rb a r _ HS1.out ((Tr.perm_turnRight (Tr.node g c (.node h true (.node gb true lb z rb) y a) x r)).nodup_iff.2 HD.out)).mono ?_
 rintro e2 w2 ⟨rfl, hs2, hw2⟩
 have HS2 := hid hs2
 have HW2 := hid hw2
 have HE2 := hid (HE1.out.turned HS1.out hw2)
 clear hs2 hw2 z2 z3
 go_wp2_with fail
 refine (Dt.count th h (!c) (.node gb false lb z rb) (.node g false a x r) y rt n _ (HS2.out) ((Tr.perm_turnRight (Tr.node g c (.node h true (.node gb true lb z rb) y a) x r)).nodup_iff.2 HD.out) (Nat.le_trans (Nat.le_of_eq (congrArg List.length (Tr.list_turnRight (Tr.node g c (.node h true (.node gb true lb z rb) y a) x r)))) HN.out) (HE2.out)).mono ?_
 rintro e9 w9 ⟨rfl, hi9, hw9⟩
 have HI9 := hid hi9
 have HW9 := hid hw9
 clear hi9 hw9
 go_wp2_with fail
 go_ret
 exact ⟨rfl, HI9.out, (HW1.out.trans HW2.out (fun j hj => Or.inl ((Tr.perm_turnRight (Tr.node g c (.node h true (.node gb true lb z rb) y a) x r)).mem_iff.1 hj))).trans HW9.out (fun j hj => Or.inl ((Tr.perm_turnRight (Tr.node g c (.node h true (.node gb true lb z rb) y a) x r)).mem_iff.1 (by simp at hj; subst hj; simp [Tr.turnRight, Tr.blocks])))⟩
theorem Dt.bal_c1 (g h : Nat) (c : Bool) (a b r : Tr It) (x y : It) (th : Nat) (rt : Value) (n : Int) (w : World) (hst : DSt w (.node g c (.node h true b y a) x r)) (hd : (Tr.node g c (.node h true b y a) x r).blocks.Nodup)
  (hn : (Tr.node g c (.node h true b y a) x r).list.length ≤ 900000) (he : DEnv w th rt n) (hbr : b.red = false) (hrr : r.red = false) :
  Calls Tryz.prog 50 #[.pointer (some ⟨th, 0, none⟩), .pointer (some ⟨g, 0, none⟩)] w (DTurned (.node g c (.node h true b y a) x r) (Tr.node g c (.node h true b y a) x r).blocks w) := by
 have HS := hid hst
 have HE := hid he
 have HD := hid hd
 have HN := hid hn
 obtain ⟨⟨A, m, k, hc⟩, hl, hr⟩ := hst
 have c2 := hc.nd2
 have c3 := hc.nd3
 have HL := hid hl
 obtain ⟨⟨v1, _, hcl⟩, hll, _⟩ := hl
 have c4 := hcl.nd2
 have HLL := hid hll
 clear hcl hll
 have HR := hid hr
 clear hc hr hd hn he
 try simp only [ptr_node] at c2 c3
 have HBR := hid hbr
 have HRR := hid hrr
 clear hbr hrr
 go_enter Tryz.func50, Tryz.ntmps50
 go_wp2_with fail
 refine (Dt.isRed (r) _ (HR.out.st)).mono ?_
 rintro e0 w0 ⟨rfl, rfl⟩
 rw [HRR.out]
 go_wp2_with fail
 refine (Dt.isRed (.node h true b y a) _ (HL.out.st)).mono ?_
 rintro e0 w0 ⟨rfl, rfl⟩
 simp only [Tr.red]
 go_wp2_with fail
 refine (Dt.isRed (b) _ (HLL.out.st)).mono ?_
 rintro e0 w0 ⟨rfl, rfl⟩
 rw [HBR.out]
 go_wp2_with fail
 refine (Dt.isRed (.node h true b y a) _ (HL.out.st)).mono ?_
 rintro e0 w0 ⟨rfl, rfl⟩
 simp only [Tr.red]
 go_wp2_with fail
 refine (Dt.isRed (r) _ (HR.out.st)).mono ?_
 rintro e0 w0 ⟨rfl, rfl⟩
 rw [HRR.out]
 go_wp2_with fail
 refine (Dt.count th g c (.node h true b y a) (r) x rt n _ (HS.out) (HD.out) (HN.out) (HE.out)).mono ?_
 rintro e9 w9 ⟨rfl, hi9, hw9⟩
 have HI9 := hid hi9
 have HW9 := hid hw9
 clear hi9 hw9
 go_wp2_with fail
 go_ret
 exact ⟨rfl, HI9.out, HW9.out.mono (by simp [Tr.blocks])⟩
theorem Dt.bal_c2 (g h gb : Nat) (c : Bool) (lb rb a b : Tr It) (x y z : It) (th : Nat) (rt : Value) (n : Int) (w : World) (hst : DSt w (.node g c (.node h true b y a) x (.node gb true lb z rb))) (hd : (Tr.node g c (.node h true b y a) x (.node gb true lb z rb)).blocks.Nodup)
  (hn : (Tr.node g c (.node h true b y a) x (.node gb true lb z rb)).list.length ≤ 900000) (he : DEnv w th rt n) (hbr : b.red = false) :
  Calls Tryz.prog 50 #[.pointer (some ⟨th, 0, none⟩), .pointer (some ⟨g, 0, none⟩)] w (DTurned (.node g (!c) (.node h false b y a) x (.node gb false lb z rb)) (Tr.node g c (.node h true b y a) x (.node gb true lb z rb)).blocks w) := by
 have HS := hid hst
 have HE := hid he
 have HD := hid hd
 have HN := hid hn
 obtain ⟨⟨A, m, k, hc⟩, hl, hr⟩ := hst
 have c2 := hc.nd2
 have c3 := hc.nd3
 have HL := hid hl
 obtain ⟨⟨v1, _, hcl⟩, hll, _⟩ := hl
 have c4 := hcl.nd2
 have HLL := hid hll
 clear hcl hll
 have HR := hid hr
 clear hc hr hd hn he
 try simp only [ptr_node] at c2 c3
 have HBR := hid hbr
 clear hbr
 go_enter Tryz.func50, Tryz.ntmps50
 go_wp2_with fail
 refine (Dt.isRed (.node gb true lb z rb) _ (HR.out.st)).mono ?_
 rintro e0 w0 ⟨rfl, rfl⟩
 simp only [Tr.red]
 go_wp2_with fail
 refine (Dt.isRed (.node h true b y a) _ (HL.out.st)).mono ?_
 rintro e0 w0 ⟨rfl, rfl⟩
 simp only [Tr.red]
 go_wp2_with fail
 refine (Dt.isRed (.node h true b y a) _ (HL.out.st)).mono ?_
 rintro e0 w0 ⟨rfl, rfl⟩
 simp only [Tr.red]
 go_wp2_with fail
 refine (Dt.isRed (b) _ (HLL.out.st)).mono ?_
 rintro e0 w0 ⟨rfl, rfl⟩
 rw [HBR.out]
 go_wp2_with fail
 refine (Dt.isRed (.node h true b y a) _ (HL.out.st)).mono ?_
 rintro e0 w0 ⟨rfl, rfl⟩
 simp only [Tr.red]
 go_wp2_with fail
 refine (Dt.isRed (.node gb true lb z rb) _ (HR.out.st)).mono ?_
 rintro e0 w0 ⟨rfl, rfl⟩
 simp only [Tr.red]
 go_wp2_with fail
 refine (Dt.flip g h gb c true true x y z b a lb rb _ HS.out HD.out).mono ?_
 rintro e2 w2 ⟨rfl, hs2, hw2⟩
 have HS2 := hid hs2
 have HW2 := hid hw2
 have HE2 := hid (HE.out.turned HS.out hw2)
 clear hs2 hw2 c2 c3 c4
 go_wp2_with fail
 refine (Dt.count th g (!c) (.node h false b y a) (.node gb false lb z rb) x rt n _ (HS2.out) (HD.out) (HN.out) (HE2.out)).mono ?_
 rintro e9 w9 ⟨rfl, hi9, hw9⟩
 have HI9 := hid hi9
 have HW9 := hid hw9
 clear hi9 hw9
 go_wp2_with fail
 go_ret
 exact ⟨rfl, HI9.out, HW2.out.trans HW9.out (fun j hj => Or.inl (by simp at hj; subst hj; simp [Tr.blocks]))⟩
theorem Dt.balance (g : Nat) (c : Bool) (l r : Tr It) (x : It) (th : Nat) (rt : Value) (n : Int) (w : World) (hst : DSt w (.node g c l x r)) (hd : (Tr.node g c l x r).blocks.Nodup)
  (hn : (Tr.node g c l x r).list.length ≤ 900000) (he : DEnv w th rt n) :
  Calls Tryz.prog 50 #[.pointer (some ⟨th, 0, none⟩), .pointer (some ⟨g, 0, none⟩)] w (DTurned (Tr.balance (.node g c l x r)) (Tr.node g c l x r).blocks w) := by
 cases hl : l.red with
 | false =>
  cases hr : r.red with
  | false =>
   rw [Tr.bal_same hl hr]
   exact Dt.bal_d g c l r x th rt n w hst hd hn he hl hr
  | true =>
   cases r with
   | nil => simp [Tr.red] at hr
   | node h d a y b =>
    simp only [Tr.red] at hr
    subst hr
    cases hb : b.red with
    | false =>
     have e : Tr.balance (.node g c l x (.node h true a y b)) = .node h c (.node g true l x a) y b := by simp [Tr.balance, Tr.bal1, Tr.bal2, Tr.bal3, Tr.red_node, Tr.left_node, Tr.right_node, Tr.turnLeft, hl, hb]
     rw [e]
     exact Dt.bal_a1 g h c l a b x y th rt n w hst hd hn he hl hb
    | true =>
     cases b with
     | nil => simp [Tr.red] at hb
     | node gb d lb z rb =>
      simp only [Tr.red] at hb
      subst hb
      have e : Tr.balance (.node g c l x (.node h true a y (.node gb true lb z rb))) = .node h (!c) (.node g false l x a) y (.node gb false lb z rb) := by simp [Tr.balance, Tr.bal1, Tr.bal2, Tr.bal3, Tr.red_node, Tr.left_node, Tr.right_node, Tr.turnLeft, Tr.flip, Tr.neg, hl]
      rw [e]
      exact Dt.bal_a2 g h gb c l a lb rb x y z th rt n w hst hd hn he hl
 | true =>
  cases l with
  | nil => simp [Tr.red] at hl
  | node h d b y a =>
   simp only [Tr.red] at hl
   subst hl
   cases hb : b.red with
   | false =>
    cases hr : r.red with
    | false =>
     have e : Tr.balance (.node g c (.node h true b y a) x r) = .node g c (.node h true b y a) x r := by simp [Tr.balance, Tr.bal1, Tr.bal2, Tr.bal3, Tr.red_node, Tr.left_node, Tr.right_node, hb, hr]
     rw [e]
     exact Dt.bal_c1 g h c a b r x y th rt n w hst hd hn he hb hr
    | true =>
     cases r with
     | nil => simp [Tr.red] at hr
     | node gb d lb z rb =>
      simp only [Tr.red] at hr
      subst hr
      have e : Tr.balance (.node g c (.node h true b y a) x (.node gb true lb z rb)) = .node g (!c) (.node h false b y a) x (.node gb false lb z rb) := by simp [Tr.balance, Tr.bal1, Tr.bal2, Tr.bal3, Tr.red_node, Tr.left_node, Tr.right_node, Tr.flip, Tr.neg, hb]
      rw [e]
      exact Dt.bal_c2 g h gb c lb rb a b x y z th rt n w hst hd hn he hb
   | true =>
    cases b with
    | nil => simp [Tr.red] at hb
    | node gb d lb z rb =>
     simp only [Tr.red] at hb
     subst hb
     have e : Tr.balance (.node g c (.node h true (.node gb true lb z rb) y a) x r) = .node h (!c) (.node gb false lb z rb) y (.node g false a x r) := by simp [Tr.balance, Tr.bal1, Tr.bal2, Tr.bal3, Tr.red_node, Tr.left_node, Tr.right_node, Tr.turnRight, Tr.flip, Tr.neg]
     rw [e]
     cases hr : r.red with
     | false => exact Dt.bal_b g h gb c lb rb a r x y z th rt n w hst hd hn he hr
     | true => exact Dt.bal_b2 g h gb c lb rb a r x y z th rt n w hst hd hn he hr
end


section
open Go.RowKit
def DPuts (x : It) (t : Tr It) (w : World) (e : Ending) (w' : World) : Prop := ∃ k, w.heap.size ≤ k ∧ e = .returned (ptr (Tr.put It.ahead k x t)) ∧ DIn w' (Tr.put It.ahead k x t) ∧ Chg t.blocks w w'
theorem Dleft_turned {w w1 : World} {g : Nat} {c : Bool} {l r l' : Tr It} {y : It} {A : It} {th : Nat} {rt : Value} {n : Int} (m : A.In) (k : y.In) (hc : Cs w g (nd y A (ptr l) (ptr r) c)) (hl : DIn w l) (hr : DIn w r) (he : DEnv w th rt n)
  (hd : (Tr.node g c l y r).blocks.Nodup) (hi : DIn w1 l') (hw : Chg l.blocks w w1) (hg : g ∉ l'.blocks) :
  Cs w1 g (nd y A (ptr l) (ptr r) c) ∧ DSt (w1.setCell ⟨g, 14, none⟩ (ptr l')) (.node g c l' y r) ∧ DEnv (w1.setCell ⟨g, 14, none⟩ (ptr l')) th rt n ∧ Chg (g :: l.blocks) w (w1.setCell ⟨g, 14, none⟩ (ptr l')) := by
 obtain ⟨d1, d2, d3, d4, d5⟩ := Dnodup_node hd
 have c1 := hc.chg hw d1
 have hn : DNl w1 g := c1.dnl
 have hr1 := hr.chg hw hl.nl (fun j hj hj' => d5 j hj' hj)
 have he1 := he.chg hw hl.nl
 refine ⟨c1, ⟨⟨A, m, k, c1.nds2 _⟩, hi.far hn hg _ _, hr1.far hn d2 _ _⟩, ?_, ?_⟩
 ·exact he1.chg (F := [g]) ((Chg.refl _ _).set (Or.inl (by simp)) _ _) (fun j hj => by simp at hj; subst hj; exact hn)
 ·exact (hw.mono (fun j hj => by simp [hj])).set (Or.inl (by simp)) _ _
theorem Dright_turned {w w1 : World} {g : Nat} {c : Bool} {l r r' : Tr It} {y : It} {A : It} {th : Nat} {rt : Value} {n : Int} (m : A.In) (k : y.In) (hc : Cs w g (nd y A (ptr l) (ptr r) c)) (hl : DIn w l) (hr : DIn w r) (he : DEnv w th rt n)
  (hd : (Tr.node g c l y r).blocks.Nodup) (hi : DIn w1 r') (hw : Chg r.blocks w w1) (hg : g ∉ r'.blocks) :
  Cs w1 g (nd y A (ptr l) (ptr r) c) ∧ DSt (w1.setCell ⟨g, 15, none⟩ (ptr r')) (.node g c l y r') ∧ DEnv (w1.setCell ⟨g, 15, none⟩ (ptr r')) th rt n ∧ Chg (g :: r.blocks) w (w1.setCell ⟨g, 15, none⟩ (ptr r')) := by
 obtain ⟨d1, d2, d3, d4, d5⟩ := Dnodup_node hd
 have c1 := hc.chg hw d2
 have hn : DNl w1 g := c1.dnl
 have hl1 := hl.chg hw hr.nl (fun j hj hj' => d5 j hj hj')
 have he1 := he.chg hw hr.nl
 refine ⟨c1, ⟨⟨A, m, k, c1.nds3 _⟩, hl1.far hn d1 _ _, hi.far hn hg _ _⟩, ?_, ?_⟩
 ·exact he1.chg (F := [g]) ((Chg.refl _ _).set (Or.inl (by simp)) _ _) (fun j hj => by simp at hj; subst hj; exact hn)
 ·exact (hw.mono (fun j hj => by simp [hj])).set (Or.inl (by simp)) _ _
theorem Dnodup_left {g : Nat} {c : Bool} {l r l' : Tr It} {x : It} (h : (Tr.node g c l x r).blocks.Nodup) (hl : l'.blocks.Nodup) (ho : ∀ j ∈ l'.blocks, j ∈ l.blocks ∨ (j ∉ (Tr.node g c l x r).blocks)) : (Tr.node g c l' x r).blocks.Nodup := by
 obtain ⟨d1, d2, d3, d4, d5⟩ := Dnodup_node h
 simp only [Tr.blocks, List.mem_cons, List.mem_append, not_or] at ho
 refine List.nodup_cons.2 ⟨fun hg => ?_, List.nodup_append.2 ⟨hl, d4, fun a ha b hb e => ?_⟩⟩
 ·rcases List.mem_append.1 hg with h1 | h1
  ·rcases ho g h1 with h2 | h2
   ·exact d1 h2
   ·exact h2.1 rfl
  ·exact d2 h1
 ·subst e
  rcases ho a ha with h2 | h2
  ·exact d5 a h2 hb
  ·exact h2.2.2 hb
theorem Dnodup_right {g : Nat} {c : Bool} {l r r' : Tr It} {x : It} (h : (Tr.node g c l x r).blocks.Nodup) (hl : r'.blocks.Nodup) (ho : ∀ j ∈ r'.blocks, j ∈ r.blocks ∨ (j ∉ (Tr.node g c l x r).blocks)) : (Tr.node g c l x r').blocks.Nodup := by
 obtain ⟨d1, d2, d3, d4, d5⟩ := Dnodup_node h
 simp only [Tr.blocks, List.mem_cons, List.mem_append, not_or] at ho
 refine List.nodup_cons.2 ⟨fun hg => ?_, List.nodup_append.2 ⟨d3, hl, fun a ha b hb e => ?_⟩⟩
 ·rcases List.mem_append.1 hg with h1 | h1
  ·exact d1 h1
  ·rcases ho g h1 with h2 | h2
   ·exact d2 h2
   ·exact h2.1 rfl
 ·subst e
  rcases ho a hb with h2 | h2
  ·exact d5 a ha h2
  ·exact h2.2.1 ha
def Pf (th : Nat) (rt : Value) (n : Int) (g : Nat) (c : Bool) (l r : Tr It) (y A : It) (b : Nat) (x : It) (w : World) : Prop := (Cs w g (nd y A (ptr l) (ptr r) c) ∧ DIn w l ∧ DIn w r) ∧ DEnv w th rt n ∧ Th w b x
theorem Pf.below {th : Nat} {rt : Value} {n : Int} {g : Nat} {c : Bool} {l r : Tr It} {y A : It} {b : Nat} {x : It} {w w' : World} (h : Pf th rt n g c l r y A b x w) (hb : Below w.heap.size w w') : Pf th rt n g c l r y A b x w' :=
 ⟨⟨h.1.1.below hb, h.1.2.1.below hb, h.1.2.2.below hb⟩, h.2.1.below hb, h.2.2.below hb⟩
theorem Th.chg {F : List Nat} {w w' : World} {b : Nat} {x : It} (h : Th w b x) (hc : Chg F w w') (hb : b ∉ F) : Th w' b x := by
 have hl := World.block_lt_of_cell? w _ h.1
 exact ⟨(hc.cell (p := ⟨b, 0, none⟩) hl hb).trans h.1, (hc.cell (p := ⟨b, 1, none⟩) hl hb).trans h.2.1, (hc.cell (p := ⟨b, 2, none⟩) hl hb).trans h.2.2.1, (hc.cell (p := ⟨b, 3, none⟩) hl hb).trans h.2.2.2.1, (hc.cell (p := ⟨b, 4, none⟩) hl hb).trans h.2.2.2.2.1, (hc.cell (p := ⟨b, 5, none⟩) hl hb).trans h.2.2.2.2.2.1, (hc.cell (p := ⟨b, 6, none⟩) hl hb).trans h.2.2.2.2.2.2⟩
theorem Th.far {w : World} {b g : Nat} {x : It} (h : Th w b x) (hb : g ≠ b) (o : Nat) (v : Value) : Th (w.setCell ⟨g, o, none⟩ v) b x :=
 h.chg (F := [g]) ((Chg.refl [g] w).set (Or.inl (by simp)) o v) (by simp; exact Ne.symm hb)
theorem DEnv.less {w : World} {th : Nat} {rt : Value} {n : Int} (h : DEnv w th rt n) : w.cell? ⟨th, 0, none⟩ = some (.func (.func 29) #[] #[]) := by obtain ⟨_, _, t0, _⟩ := h; exact t0.at0
set_option maxRecDepth 100000 in
set_option maxHeartbeats 8000000 in
theorem Dt.put (th : Nat) (rt : Value) (n : Int) (x : It) (hx : x.In) (t : Tr It) : ∀ w, DIn w t → t.blocks.Nodup → t.list.length < 900000 → DEnv w th rt n →
  Calls Tryz.prog 34 #[.pointer (some ⟨th, 0, none⟩), ptr t, x.val] w (DPuts x t w) := by
 have HXI := hid hx
 clear hx
 unfold It.val
 induction t with
 | nil =>
  intro w _ _ _ he
  have HC0 : Hid (Cs ((w.alloc (.cells #[.int .u64 x.t, .int .u32 x.r, .int .u32 x.v, .int .i64 x.i, .int .u64 x.u, .int .u32 x.s, .int .u32 x.y] 35)).alloc (.cells #[.int .u64 x.t, .int .u32 x.r, .int .u32 x.v, .int .i64 x.i, .int .u64 x.u, .int .u32 x.s, .int .u32 x.y, .int .u64 0, .int .u32 0, .int .u32 0, .int .i64 0, .int .u64 0, .int .u32 0, .int .u32 0, .pointer none, .pointer none, .bool true] 73)) (w.heap.size + 1) (nd x It.zero (.pointer none) (.pointer none) true)) := hid (by
   have := Cs.alloc_new (w.alloc (.cells #[.int .u64 x.t, .int .u32 x.r, .int .u32 x.v, .int .i64 x.i, .int .u64 x.u, .int .u32 x.s, .int .u32 x.y] 35)) 73 [.int .u64 x.t, .int .u32 x.r, .int .u32 x.v, .int .i64 x.i, .int .u64 x.u, .int .u32 x.s, .int .u32 x.y, .int .u64 0, .int .u32 0, .int .u32 0, .int .i64 0, .int .u64 0, .int .u32 0, .int .u32 0, .pointer none, .pointer none, .bool true]
   simp only [World.size_alloc] at this
   exact this)
  have HB0 : Hid (Below w.heap.size w ((w.alloc (.cells #[.int .u64 x.t, .int .u32 x.r, .int .u32 x.v, .int .i64 x.i, .int .u64 x.u, .int .u32 x.s, .int .u32 x.y] 35)).alloc (.cells #[.int .u64 x.t, .int .u32 x.r, .int .u32 x.v, .int .i64 x.i, .int .u64 x.u, .int .u32 x.s, .int .u32 x.y, .int .u64 0, .int .u32 0, .int .u32 0, .int .i64 0, .int .u64 0, .int .u32 0, .int .u32 0, .pointer none, .pointer none, .bool true] 73))) := hid (((Below.refl _ _).alloc (Nat.le_refl _) _).alloc (by simp) _)
  have HS : Hid (DSt ((w.alloc (.cells #[.int .u64 x.t, .int .u32 x.r, .int .u32 x.v, .int .i64 x.i, .int .u64 x.u, .int .u32 x.s, .int .u32 x.y] 35)).alloc (.cells #[.int .u64 x.t, .int .u32 x.r, .int .u32 x.v, .int .i64 x.i, .int .u64 x.u, .int .u32 x.s, .int .u32 x.y, .int .u64 0, .int .u32 0, .int .u32 0, .int .i64 0, .int .u64 0, .int .u32 0, .int .u32 0, .pointer none, .pointer none, .bool true] 73)) (.node (w.heap.size + 1) true .nil x .nil)) := hid ⟨⟨It.zero, It.zero_in, HXI.out, HC0.out⟩, trivial, trivial⟩
  have HE := hid (he.below HB0.out)
  clear he HC0
  simp only [ptr_nil]
  go_enter Tryz.func34, Tryz.ntmps34
  go_wp2_with fail
  refine (Dt.balance (w.heap.size + 1) true .nil .nil x th rt n _ HS.out (by simp [Tr.blocks]) (by simp [Tr.list]) HE.out).mono ?_
  rintro e w1 ⟨rfl, hi, hw⟩
  have HI := hid hi
  have HW := hid hw
  clear hi hw
  have e : Tr.balance (.node (w.heap.size + 1) true .nil x .nil) = Tr.put It.ahead (w.heap.size + 1) x .nil := rfl
  rw [e] at HI ⊢
  go_wp2_with fail
  go_ret
  exact ⟨w.heap.size + 1, by omega, rfl, HI.out, ((Chg.below HB0.out).trans HW.out (by simp [Tr.blocks]))⟩
 | node g c l y r ihl ihr =>
  intro w h hd hn he
  have HD := hid hd
  have HN := hid hn
  have IHL := hid ihl
  have IHR := hid ihr
  simp only [Tr.list, List.length_append, List.length_cons] at hn
  obtain ⟨⟨v, hv, hc⟩, hl, hr⟩ := id h
  obtain ⟨A, m, k, rfl⟩ := hv.form
  have HA := hid (And.intro m k)
  have hb0 := (Below.refl w.heap.size w).alloc (Nat.le_refl _) (.cells #[.int .u64 x.t, .int .u32 x.r, .int .u32 x.v, .int .i64 x.i, .int .u64 x.u, .int .u32 x.s, .int .u32 x.y] 35)
  have HF0 : Hid (Pf th rt n g c l r y A w.heap.size x (w.alloc (.cells #[.int .u64 x.t, .int .u32 x.r, .int .u32 x.v, .int .i64 x.i, .int .u64 x.u, .int .u32 x.s, .int .u32 x.y] 35))) := hid ⟨⟨hc.below hb0, hl.below hb0, hr.below hb0⟩, he.below hb0, (Cs.new7 w _ x).th7⟩
  have HB0 := hid hb0
  have HLT : ∀ z ∈ (Tr.node g c l y r).blocks, z < w.heap.size := fun z hz => (h.nl z hz).lt
  have HLT := hid HLT
  clear h hd he hc hl hr hv ihl ihr hb0 m k
  simp only [ptr_node]
  cases hlt : It.ahead x y with
  | true =>
   have HLTb := hid hlt
   clear hlt
   go_enter Tryz.func34, Tryz.ntmps34
   go_wp2_with fail
   generalize (w.alloc (.cells #[.int .u64 x.t, .int .u32 x.r, .int .u32 x.v, .int .i64 x.i, .int .u64 x.u, .int .u32 x.s, .int .u32 x.y] 35)) = W0 at HF0 HB0 ⊢
   refine wp_region_steady (S := Bl W0) 9 (by kernel_rfl) (Bl.drew W0) ?_
   refine tV 0 ?_
   try simp only [tdy]
   refine tV 1 ?_
   try simp only [tdy]
   refine tV 2 ?_
   try simp only [tdy]
   refine tU 3 (v := ?_) rfl (by kernel_rfl) (fun _ _ _ h => h) (by rfl) ?_ ?_
   rotate_left
   ·intro wq hSw
    have hPf := HF0.out.below hSw
    have q0 := hPf.2.1.less
    obtain ⟨p0, p1, p2, p3, p4, p5, p6⟩ := hPf.1.1.th
    obtain ⟨m0, m1, m2, m3, m4, m5, m6⟩ := hPf.2.2
    go_simp; try with_reducible rfl
   try simp only [tdy]
   refine tU 4 (v := ?_) rfl (by kernel_rfl) (fun _ _ _ h => h) (by rfl) ?_ ?_
   rotate_left
   ·intro wq hSw
    have hPf := HF0.out.below hSw
    have q0 := hPf.2.1.less
    obtain ⟨p0, p1, p2, p3, p4, p5, p6⟩ := hPf.1.1.th
    obtain ⟨m0, m1, m2, m3, m4, m5, m6⟩ := hPf.2.2
    go_simp; try with_reducible rfl
   try simp only [tdy]
   refine tV 5 ?_
   try simp only [tdy]
   refine tV 6 ?_
   try simp only [tdy]
   refine tV 7 ?_
   try simp only [tdy]
   refine tU 8 (v := ?_) rfl (by kernel_rfl) (fun _ _ _ h => h) (by rfl) ?_ ?_
   rotate_left
   ·intro wq hSw
    have hPf := HF0.out.below hSw
    have q0 := hPf.2.1.less
    obtain ⟨p0, p1, p2, p3, p4, p5, p6⟩ := hPf.1.1.th
    obtain ⟨m0, m1, m2, m3, m4, m5, m6⟩ := hPf.2.2
    go_simp; try with_reducible rfl
   try simp only [tdy]
   refine wpAnyU_rest (n := 9) rfl rfl (by kernel_rfl) (fun wz hSz => ?_)
   simp only [List.toList_toArray, List.drop_succ_cons, List.drop_zero]
   have HSz := hid hSz
   clear hSz
   go_wp2_with fail
   refine (Item.ahead x y HXI.out HA.out.2 _).mono ?_
   rintro e w1 ⟨rfl, hb1⟩
   rw [HLTb.out]
   have HF1 := hid ((HF0.out.below HSz.out).below hb1)
   have HB1 := hid (below_on HB0.out (below_on HSz.out hb1))
   clear hb1 HSz HF0 HB0
   go_wp2_with fail
   have q0 := HF1.out.1.1.nd2
   have HFz := hid (HF1.out.below (Below.refl _ w1).drew)
   have HBz := hid (below_on HB1.out (Below.refl _ w1).drew)
   refine wp_region_held_drew (S := fun w' => w'.cell? ⟨w.heap.size, 0, none⟩ = some (.int .u64 x.t) ∧ w'.cell? ⟨w.heap.size, 1, none⟩ = some (.int .u32 x.r) ∧ w'.cell? ⟨w.heap.size, 2, none⟩ = some (.int .u32 x.v) ∧ w'.cell? ⟨w.heap.size, 3, none⟩ = some (.int .i64 x.i) ∧ w'.cell? ⟨w.heap.size, 4, none⟩ = some (.int .u64 x.u) ∧ w'.cell? ⟨w.heap.size, 5, none⟩ = some (.int .u32 x.s) ∧ w'.cell? ⟨w.heap.size, 6, none⟩ = some (.int .u32 x.y)) (by kernel_rfl) HFz.out.2.2 (fun hHeld => ?_)
   refine tH 0 ?_
   try simp only [tdy]
   refine tH 1 ?_
   try simp only [tdy]
   refine tH 2 ?_
   try simp only [tdy]
   refine tH 3 ?_
   try simp only [tdy]
   refine tH 4 ?_
   try simp only [tdy]
   refine tH 6 ?_
   try simp only [tdy]
   refine wpAnyH_ready (rs := [5]) (by kernel_rfl) (by simp) ?_
   refine AllReadyH.cons rfl (fun K hK => ?_) AllReadyH.nil
   go_simp
   refine hK.out _ _ ?_ (fun hHeld => ?_)
   ·first | exact hHeld | exact HK1.out | exact HK2.out
   clear hK K
   try simp only [tdy]
   refine wpAnyH_ready (rs := [7]) (by kernel_rfl) (by simp) ?_
   refine AllReadyH.cons rfl (fun K hK => ?_) AllReadyH.nil
   go_simp
   obtain ⟨d1, d2, d3, d4, d5⟩ := Dnodup_node HD.out
   have HD3 := hid d3
   clear d1 d2 d3 d4 d5
   refine (IHL.out _ HFz.out.1.2.1 HD3.out (by omega) HFz.out.2.1).mono ?_
   rintro e w2 ⟨k', hk, rfl, hi, hw⟩
   have hk' : w.heap.size ≤ k' := Nat.le_trans HBz.out.size hk
   have hp := Tr.perm_put It.ahead k' x l
   have HP := hid hp
   have hout : k' ∉ (Tr.node g c l y r).blocks := fun hm => by
    have h1 := HLT.out _ hm
    omega
   have hg : g ∉ (Tr.put It.ahead k' x l).blocks := fun hm => by
    rcases List.mem_cons.1 (hp.mem_iff.1 hm) with rfl | h1
    ·exact hout (by simp [Tr.blocks])
    ·have := Dnodup_node HD.out; exact this.1 h1
   have hnd : (Tr.put It.ahead k' x l).blocks.Nodup := hp.nodup_iff.2 (List.nodup_cons.2 ⟨fun hm => hout (by simp [Tr.blocks, hm]), HD3.out⟩)
   have HT := hid (Dleft_turned HA.out.1 HA.out.2 HFz.out.1.1 HFz.out.1.2.1 HFz.out.1.2.2 HFz.out.2.1 HD.out hi hw hg)
   have HND := hid (Dnodup_left (l' := Tr.put It.ahead k' x l) HD.out hnd (fun j hj => by
    rcases List.mem_cons.1 (hp.mem_iff.1 hj) with rfl | h1
    ·exact Or.inr hout
    ·exact Or.inl h1))
   have HLN := hid (Tr.blocks_length (Tr.put It.ahead k' x l))
   have HK := hid hk'
   have hxb : w.heap.size ∉ l.blocks := fun hm => Nat.lt_irrefl _ (HLT.out w.heap.size (by simp [Tr.blocks, hm]))
   have hxg : g ≠ w.heap.size := fun e => Nat.lt_irrefl _ (HLT.out w.heap.size (by simp [Tr.blocks, e]))
   have HTX := hid (HFz.out.2.2.chg hw hxb)
   have HTF : Hid (∀ v, Th (w2.setCell ⟨g, 14, none⟩ v) w.heap.size x) := hid (fun v => HTX.out.far hxg _ _)
   clear hi hw hp hout hg hnd hk hk' hxb hxg q0
   have q2 := HT.out.1.nd2
   have q3 := HT.out.1.ndf2
   have HEQ : Hid (Tr.put It.ahead k' x (.node g c l y r) = Tr.balance (.node g c (Tr.put It.ahead k' x l) y r)) := hid (by simp [Tr.put, HLTb.out])
   generalize Tr.put It.ahead k' x l = L' at *
   obtain ⟨u, hu⟩ := ptr_form L'
   have HU := hid hu
   rw [hu]
   clear hu
   have HK1 : Hid (Th w2 w.heap.size x) := hid HTX.out
   have HK2 : Hid (Th (w2.setCell ⟨g, 14, none⟩ (.pointer u)) w.heap.size x) := hid (HTF.out _)
   refine hK.out _ _ ?_ (fun hHeld => ?_)
   ·first | exact hHeld | exact HK1.out | exact HK2.out
   clear hK K
   try simp only [tdy]
   refine tH 8 ?_
   try simp only [tdy]
   refine tH 9 ?_
   try simp only [tdy]
   refine wpAnyH_ready (rs := [10]) (by kernel_rfl) (by simp) ?_
   refine AllReadyH.cons rfl (fun K hK => ?_) AllReadyH.nil
   go_simp
   refine hK.out _ _ ?_ (fun hHeld => ?_)
   ·first | exact hHeld | exact HK1.out | exact HK2.out
   clear hK K
   try simp only [tdy]
   refine wpAnyH_done (by kernel_rfl) ?_ _
   have HW : Hid (∃ W, W = w2.setCell ⟨g, 14, none⟩ (.pointer u) ∧ DSt W (.node g c L' y r) ∧ DEnv W th rt n ∧ Chg (g :: l.blocks) w1.drew W) := hid ⟨_, rfl, by rw [← HU.out]; exact HT.out.2.1, by rw [← HU.out]; exact HT.out.2.2.1, by rw [← HU.out]; exact HT.out.2.2.2⟩
   obtain ⟨W, hW, HF⟩ := HW
   rw [← hW]
   clear hW q2 q3
   have HF := hid HF
   clear hHeld
   go_wp2_with fail
   refine (Dt.balance g c L' r y th rt n W HF.out.1 HND.out (by
    have h1 := HLN.out
    rw [HP.out.length_eq, List.length_cons, Tr.blocks_length] at h1
    simp only [Tr.list, List.length_append, List.length_cons]
    omega) HF.out.2.1).mono ?_
   rintro e w3 ⟨rfl, hi, hw⟩
   have HI2 := hid hi
   have HW2 := hid hw
   clear hi hw
   go_wp2_with fail
   go_ret
   refine ⟨k', HK.out, by rw [HEQ.out]; rfl, by rw [HEQ.out]; exact HI2.out, ((Chg.below HBz.out).trans HF.out.2.2 (fun j hj => Or.inl ?_)).trans HW2.out (fun j hj => ?_)⟩
   ·rcases List.mem_cons.1 hj with rfl | h1
    ·simp [Tr.blocks]
    ·simp [Tr.blocks, h1]
   ·simp only [Tr.blocks, List.mem_cons, List.mem_append] at hj ⊢
    rcases hj with h1 | h1 | h1
    ·exact Or.inl (Or.inl h1)
    ·rcases List.mem_cons.1 (HP.out.mem_iff.1 h1) with rfl | h2
     ·exact Or.inr HK.out
     ·exact Or.inl (Or.inr (Or.inl h2))
    ·exact Or.inl (Or.inr (Or.inr h1))
  | false =>
   have HLTb := hid hlt
   clear hlt
   go_enter Tryz.func34, Tryz.ntmps34
   go_wp2_with fail
   generalize (w.alloc (.cells #[.int .u64 x.t, .int .u32 x.r, .int .u32 x.v, .int .i64 x.i, .int .u64 x.u, .int .u32 x.s, .int .u32 x.y] 35)) = W0 at HF0 HB0 ⊢
   refine wp_region_steady (S := Bl W0) 9 (by kernel_rfl) (Bl.drew W0) ?_
   refine tV 0 ?_
   try simp only [tdy]
   refine tV 1 ?_
   try simp only [tdy]
   refine tV 2 ?_
   try simp only [tdy]
   refine tU 3 (v := ?_) rfl (by kernel_rfl) (fun _ _ _ h => h) (by rfl) ?_ ?_
   rotate_left
   ·intro wq hSw
    have hPf := HF0.out.below hSw
    have q0 := hPf.2.1.less
    obtain ⟨p0, p1, p2, p3, p4, p5, p6⟩ := hPf.1.1.th
    obtain ⟨m0, m1, m2, m3, m4, m5, m6⟩ := hPf.2.2
    go_simp; try with_reducible rfl
   try simp only [tdy]
   refine tU 4 (v := ?_) rfl (by kernel_rfl) (fun _ _ _ h => h) (by rfl) ?_ ?_
   rotate_left
   ·intro wq hSw
    have hPf := HF0.out.below hSw
    have q0 := hPf.2.1.less
    obtain ⟨p0, p1, p2, p3, p4, p5, p6⟩ := hPf.1.1.th
    obtain ⟨m0, m1, m2, m3, m4, m5, m6⟩ := hPf.2.2
    go_simp; try with_reducible rfl
   try simp only [tdy]
   refine tV 5 ?_
   try simp only [tdy]
   refine tV 6 ?_
   try simp only [tdy]
   refine tV 7 ?_
   try simp only [tdy]
   refine tU 8 (v := ?_) rfl (by kernel_rfl) (fun _ _ _ h => h) (by rfl) ?_ ?_
   rotate_left
   ·intro wq hSw
    have hPf := HF0.out.below hSw
    have q0 := hPf.2.1.less
    obtain ⟨p0, p1, p2, p3, p4, p5, p6⟩ := hPf.1.1.th
    obtain ⟨m0, m1, m2, m3, m4, m5, m6⟩ := hPf.2.2
    go_simp; try with_reducible rfl
   try simp only [tdy]
   refine wpAnyU_rest (n := 9) rfl rfl (by kernel_rfl) (fun wz hSz => ?_)
   simp only [List.toList_toArray, List.drop_succ_cons, List.drop_zero]
   have HSz := hid hSz
   clear hSz
   go_wp2_with fail
   refine (Item.ahead x y HXI.out HA.out.2 _).mono ?_
   rintro e w1 ⟨rfl, hb1⟩
   rw [HLTb.out]
   have HF1 := hid ((HF0.out.below HSz.out).below hb1)
   have HB1 := hid (below_on HB0.out (below_on HSz.out hb1))
   clear hb1 HSz HF0 HB0
   go_wp2_with fail
   have q0 := HF1.out.1.1.nd3
   have HFz := hid (HF1.out.below (Below.refl _ w1).drew)
   have HBz := hid (below_on HB1.out (Below.refl _ w1).drew)
   refine wp_region_held_drew (S := fun w' => w'.cell? ⟨w.heap.size, 0, none⟩ = some (.int .u64 x.t) ∧ w'.cell? ⟨w.heap.size, 1, none⟩ = some (.int .u32 x.r) ∧ w'.cell? ⟨w.heap.size, 2, none⟩ = some (.int .u32 x.v) ∧ w'.cell? ⟨w.heap.size, 3, none⟩ = some (.int .i64 x.i) ∧ w'.cell? ⟨w.heap.size, 4, none⟩ = some (.int .u64 x.u) ∧ w'.cell? ⟨w.heap.size, 5, none⟩ = some (.int .u32 x.s) ∧ w'.cell? ⟨w.heap.size, 6, none⟩ = some (.int .u32 x.y)) (by kernel_rfl) HFz.out.2.2 (fun hHeld => ?_)
   refine tH 0 ?_
   try simp only [tdy]
   refine tH 1 ?_
   try simp only [tdy]
   refine tH 2 ?_
   try simp only [tdy]
   refine tH 3 ?_
   try simp only [tdy]
   refine tH 4 ?_
   try simp only [tdy]
   refine tH 6 ?_
   try simp only [tdy]
   refine wpAnyH_ready (rs := [5]) (by kernel_rfl) (by simp) ?_
   refine AllReadyH.cons rfl (fun K hK => ?_) AllReadyH.nil
   go_simp
   refine hK.out _ _ ?_ (fun hHeld => ?_)
   ·first | exact hHeld | exact HK1.out | exact HK2.out
   clear hK K
   try simp only [tdy]
   refine wpAnyH_ready (rs := [7]) (by kernel_rfl) (by simp) ?_
   refine AllReadyH.cons rfl (fun K hK => ?_) AllReadyH.nil
   go_simp
   obtain ⟨d1, d2, d3, d4, d5⟩ := Dnodup_node HD.out
   have HD3 := hid d4
   clear d1 d2 d3 d4 d5
   refine (IHR.out _ HFz.out.1.2.2 HD3.out (by omega) HFz.out.2.1).mono ?_
   rintro e w2 ⟨k', hk, rfl, hi, hw⟩
   have hk' : w.heap.size ≤ k' := Nat.le_trans HBz.out.size hk
   have hp := Tr.perm_put It.ahead k' x r
   have HP := hid hp
   have hout : k' ∉ (Tr.node g c l y r).blocks := fun hm => by
    have h1 := HLT.out _ hm
    omega
   have hg : g ∉ (Tr.put It.ahead k' x r).blocks := fun hm => by
    rcases List.mem_cons.1 (hp.mem_iff.1 hm) with rfl | h1
    ·exact hout (by simp [Tr.blocks])
    ·have := Dnodup_node HD.out; exact this.2.1 h1
   have hnd : (Tr.put It.ahead k' x r).blocks.Nodup := hp.nodup_iff.2 (List.nodup_cons.2 ⟨fun hm => hout (by simp [Tr.blocks, hm]), HD3.out⟩)
   have HT := hid (Dright_turned HA.out.1 HA.out.2 HFz.out.1.1 HFz.out.1.2.1 HFz.out.1.2.2 HFz.out.2.1 HD.out hi hw hg)
   have HND := hid (Dnodup_right (r' := Tr.put It.ahead k' x r) HD.out hnd (fun j hj => by
    rcases List.mem_cons.1 (hp.mem_iff.1 hj) with rfl | h1
    ·exact Or.inr hout
    ·exact Or.inl h1))
   have HLN := hid (Tr.blocks_length (Tr.put It.ahead k' x r))
   have HK := hid hk'
   have hxb : w.heap.size ∉ r.blocks := fun hm => Nat.lt_irrefl _ (HLT.out w.heap.size (by simp [Tr.blocks, hm]))
   have hxg : g ≠ w.heap.size := fun e => Nat.lt_irrefl _ (HLT.out w.heap.size (by simp [Tr.blocks, e]))
   have HTX := hid (HFz.out.2.2.chg hw hxb)
   have HTF : Hid (∀ v, Th (w2.setCell ⟨g, 15, none⟩ v) w.heap.size x) := hid (fun v => HTX.out.far hxg _ _)
   clear hi hw hp hout hg hnd hk hk' hxb hxg q0
   have q2 := HT.out.1.nd3
   have q3 := HT.out.1.ndf3
   have HEQ : Hid (Tr.put It.ahead k' x (.node g c l y r) = Tr.balance (.node g c l y (Tr.put It.ahead k' x r))) := hid (by simp [Tr.put, HLTb.out])
   generalize Tr.put It.ahead k' x r = L' at *
   obtain ⟨u, hu⟩ := ptr_form L'
   have HU := hid hu
   rw [hu]
   clear hu
   have HK1 : Hid (Th w2 w.heap.size x) := hid HTX.out
   have HK2 : Hid (Th (w2.setCell ⟨g, 15, none⟩ (.pointer u)) w.heap.size x) := hid (HTF.out _)
   refine hK.out _ _ ?_ (fun hHeld => ?_)
   ·first | exact hHeld | exact HK1.out | exact HK2.out
   clear hK K
   try simp only [tdy]
   refine tH 8 ?_
   try simp only [tdy]
   refine tH 9 ?_
   try simp only [tdy]
   refine wpAnyH_ready (rs := [10]) (by kernel_rfl) (by simp) ?_
   refine AllReadyH.cons rfl (fun K hK => ?_) AllReadyH.nil
   go_simp
   refine hK.out _ _ ?_ (fun hHeld => ?_)
   ·first | exact hHeld | exact HK1.out | exact HK2.out
   clear hK K
   try simp only [tdy]
   refine wpAnyH_done (by kernel_rfl) ?_ _
   have HW : Hid (∃ W, W = w2.setCell ⟨g, 15, none⟩ (.pointer u) ∧ DSt W (.node g c l y L') ∧ DEnv W th rt n ∧ Chg (g :: r.blocks) w1.drew W) := hid ⟨_, rfl, by rw [← HU.out]; exact HT.out.2.1, by rw [← HU.out]; exact HT.out.2.2.1, by rw [← HU.out]; exact HT.out.2.2.2⟩
   obtain ⟨W, hW, HF⟩ := HW
   rw [← hW]
   clear hW q2 q3
   have HF := hid HF
   clear hHeld
   go_wp2_with fail
   refine (Dt.balance g c l L' y th rt n W HF.out.1 HND.out (by
    have h1 := HLN.out
    rw [HP.out.length_eq, List.length_cons, Tr.blocks_length] at h1
    simp only [Tr.list, List.length_append, List.length_cons]
    omega) HF.out.2.1).mono ?_
   rintro e w3 ⟨rfl, hi, hw⟩
   have HI2 := hid hi
   have HW2 := hid hw
   clear hi hw
   go_wp2_with fail
   go_ret
   refine ⟨k', HK.out, by rw [HEQ.out]; rfl, by rw [HEQ.out]; exact HI2.out, ((Chg.below HBz.out).trans HF.out.2.2 (fun j hj => Or.inl ?_)).trans HW2.out (fun j hj => ?_)⟩
   ·rcases List.mem_cons.1 hj with rfl | h1
    ·simp [Tr.blocks]
    ·simp [Tr.blocks, h1]
   ·simp only [Tr.blocks, List.mem_cons, List.mem_append] at hj ⊢
    rcases hj with h1 | h1 | h1
    ·exact Or.inl (Or.inl h1)
    ·exact Or.inl (Or.inr (Or.inl h1))
    ·rcases List.mem_cons.1 (HP.out.mem_iff.1 h1) with rfl | h2
     ·exact Or.inr HK.out
     ·exact Or.inl (Or.inr (Or.inr h2))
end


section
open Go.RowKit
def DTreeAt (w : World) (th : Nat) (t : Tr It) : Prop := DEnv w th (ptr t) t.list.length ∧ DIn w t ∧ t.blocks.Nodup
theorem DTreeAt.below {w w' : World} {th : Nat} {t : Tr It} (h : DTreeAt w th t) (hb : Below w.heap.size w w') : DTreeAt w' th t := ⟨h.1.below hb, h.2.1.below hb, h.2.2⟩
set_option maxRecDepth 100000 in
set_option maxHeartbeats 4000000 in
theorem Dt.has (th : Nat) (t : Tr It) (x : It) (hx : x.In) (w : World) (h : DTreeAt w th t) :
  Calls Tryz.prog 33 #[.pointer (some ⟨th, 0, none⟩), x.val] w (Ans (.bool (Tr.has It.ahead x t)) w) := by
 have hb0 := (Below.refl w.heap.size w).alloc (Nat.le_refl _) (.cells #[.int .u64 x.t, .int .u32 x.r, .int .u32 x.v, .int .i64 x.i, .int .u64 x.u, .int .u32 x.s, .int .u32 x.y] 35)
 have HT := hid (h.below hb0)
 have HXI := hid hx
 have HX0 : Hid (Th (w.alloc (.cells #[.int .u64 x.t, .int .u32 x.r, .int .u32 x.v, .int .i64 x.i, .int .u64 x.u, .int .u32 x.s, .int .u32 x.y] 35)) w.heap.size x) := hid (Cs.new7 w _ x).th7
 have HB0 := hid hb0
 obtain ⟨_, _, t0, _⟩ := HT.out.1
 have e3 := t0.at3
 have HL := hid t0.at0
 clear t0 h hx hb0
 unfold It.val
 go_enter Tryz.func33, Tryz.ntmps33
 go_wp2_with fail
 generalize (w.alloc (.cells #[.int .u64 x.t, .int .u32 x.r, .int .u32 x.v, .int .i64 x.i, .int .u64 x.u, .int .u32 x.s, .int .u32 x.y] 35)) = W0 at HT HX0 HB0 HL e3 ⊢
 go_loopg [5] t.size (fun s a wr => Below W0.heap.size W0 wr ∧ ∃ u : Tr It, a = ptr u ∧ s = u.size ∧ DIn W0 u ∧ Tr.has It.ahead x u = Tr.has It.ahead x t)
 case atStart => exact ⟨Below.refl _ _, t, rfl, rfl, HT.out.2.1, rfl⟩
 case round =>
  obtain ⟨hb, u, rfl, hs, hi, he⟩ := hrel
  have HB := hid hb
  have HS := hid hs
  have HE := hid he
  have HI := hid (hi.below hb)
  have HIw := hid hi
  have HEwr := hid (keep1 hb HL.out)
  have HXwr := hid (HX0.out.below hb)
  clear hb hs he hi
  cases u with
  | nil =>
   simp only [ptr_nil]
   go_wp2_with fail
   go_ret
   exact ⟨by rw [← HE.out]; rfl, below_on HB0.out HB.out⟩
  | node g c l y r =>
   obtain ⟨⟨v, hv, hc⟩, hl, hr⟩ := id HI.out
   have HPwr := hid hc.th
   have HC2 := hid hc.nd2
   have HC3 := hid hc.nd3
   have HYI := hid hv.2.2
   clear hc hl hr hv
   simp only [ptr_node]
   have HQ : Hid (Tr.has It.ahead x (.node g c l y r) = if It.ahead x y then Tr.has It.ahead x l else if It.ahead y x then Tr.has It.ahead x r else true) := hid rfl
   cases h1 : It.ahead x y with
   | true =>
    have H1 := hid h1
    clear h1
    go_wp2_with fail
    refine wp_region_steady (S := Bl wr) 9 (by kernel_rfl) (Bl.drew wr) ?_
    refine tV 0 ?_
    try simp only [tdy]
    refine tV 1 ?_
    try simp only [tdy]
    refine tV 2 ?_
    try simp only [tdy]
    refine tU 3 (v := ?_) rfl (by kernel_rfl) (fun _ _ _ h => h) (by rfl) ?_ ?_
    rotate_left
    ·intro wq hSw
     have hSB : Below _ _ _ := hSw
     have q0 := keep1 hSB HEwr.out
     obtain ⟨p0, p1, p2, p3, p4, p5, p6⟩ := HPwr.out.below hSB
     obtain ⟨m0, m1, m2, m3, m4, m5, m6⟩ := HXwr.out.below hSB
     go_simp; try with_reducible rfl
    try simp only [tdy]
    refine tU 4 (v := ?_) rfl (by kernel_rfl) (fun _ _ _ h => h) (by rfl) ?_ ?_
    rotate_left
    ·intro wq hSw
     have hSB : Below _ _ _ := hSw
     have q0 := keep1 hSB HEwr.out
     obtain ⟨p0, p1, p2, p3, p4, p5, p6⟩ := HPwr.out.below hSB
     obtain ⟨m0, m1, m2, m3, m4, m5, m6⟩ := HXwr.out.below hSB
     go_simp; try with_reducible rfl
    try simp only [tdy]
    refine tV 5 ?_
    try simp only [tdy]
    refine tV 6 ?_
    try simp only [tdy]
    refine tV 7 ?_
    try simp only [tdy]
    refine tU 8 (v := ?_) rfl (by kernel_rfl) (fun _ _ _ h => h) (by rfl) ?_ ?_
    rotate_left
    ·intro wq hSw
     have hSB : Below _ _ _ := hSw
     have q0 := keep1 hSB HEwr.out
     obtain ⟨p0, p1, p2, p3, p4, p5, p6⟩ := HPwr.out.below hSB
     obtain ⟨m0, m1, m2, m3, m4, m5, m6⟩ := HXwr.out.below hSB
     go_simp; try with_reducible rfl
    try simp only [tdy]
    refine wpAnyU_rest (n := 9) rfl rfl (by kernel_rfl) (fun wz hSz => ?_)
    simp only [List.toList_toArray, List.drop_succ_cons, List.drop_zero]
    have HSz := hid hSz
    clear hSz
    go_wp2_with fail
    refine (Item.ahead x y HXI.out HYI.out _).mono ?_
    rintro e w1 ⟨rfl, hb1⟩
    rw [H1.out]
    have HB1 := hid (below_on HSz.out hb1)
    clear hb1
    have q := keep1 HB1.out HC2.out
    go_wp2_with fail
    go_roundg l.size
    case measure => have := HS.out; simp only [Tr.size] at this; omega
    case rel => exact ⟨below_on HB.out HB1.out, l, rfl, rfl, HIw.out.2.1, by rw [← HE.out, HQ.out, if_pos H1.out]⟩
   | false =>
    have H1 := hid h1
    clear h1
    go_wp2_with fail
    refine wp_region_steady (S := Bl wr) 9 (by kernel_rfl) (Bl.drew wr) ?_
    refine tV 0 ?_
    try simp only [tdy]
    refine tV 1 ?_
    try simp only [tdy]
    refine tV 2 ?_
    try simp only [tdy]
    refine tU 3 (v := ?_) rfl (by kernel_rfl) (fun _ _ _ h => h) (by rfl) ?_ ?_
    rotate_left
    ·intro wq hSw
     have hSB : Below _ _ _ := hSw
     have q0 := keep1 hSB HEwr.out
     obtain ⟨p0, p1, p2, p3, p4, p5, p6⟩ := HPwr.out.below hSB
     obtain ⟨m0, m1, m2, m3, m4, m5, m6⟩ := HXwr.out.below hSB
     go_simp; try with_reducible rfl
    try simp only [tdy]
    refine tU 4 (v := ?_) rfl (by kernel_rfl) (fun _ _ _ h => h) (by rfl) ?_ ?_
    rotate_left
    ·intro wq hSw
     have hSB : Below _ _ _ := hSw
     have q0 := keep1 hSB HEwr.out
     obtain ⟨p0, p1, p2, p3, p4, p5, p6⟩ := HPwr.out.below hSB
     obtain ⟨m0, m1, m2, m3, m4, m5, m6⟩ := HXwr.out.below hSB
     go_simp; try with_reducible rfl
    try simp only [tdy]
    refine tV 5 ?_
    try simp only [tdy]
    refine tV 6 ?_
    try simp only [tdy]
    refine tV 7 ?_
    try simp only [tdy]
    refine tU 8 (v := ?_) rfl (by kernel_rfl) (fun _ _ _ h => h) (by rfl) ?_ ?_
    rotate_left
    ·intro wq hSw
     have hSB : Below _ _ _ := hSw
     have q0 := keep1 hSB HEwr.out
     obtain ⟨p0, p1, p2, p3, p4, p5, p6⟩ := HPwr.out.below hSB
     obtain ⟨m0, m1, m2, m3, m4, m5, m6⟩ := HXwr.out.below hSB
     go_simp; try with_reducible rfl
    try simp only [tdy]
    refine wpAnyU_rest (n := 9) rfl rfl (by kernel_rfl) (fun wz hSz => ?_)
    simp only [List.toList_toArray, List.drop_succ_cons, List.drop_zero]
    have HSz := hid hSz
    clear hSz
    go_wp2_with fail
    refine (Item.ahead x y HXI.out HYI.out _).mono ?_
    rintro e w1 ⟨rfl, hb1⟩
    rw [H1.out]
    have HB1 := hid (below_on HSz.out hb1)
    have HEw1 := hid (keep1 HB1.out HEwr.out)
    have HXw1 := hid (HXwr.out.below HB1.out)
    have HPw1 := hid (HPwr.out.below HB1.out)
    clear hb1 HSz
    cases h2 : It.ahead y x with
    | true =>
     have H2 := hid h2
     clear h2
     go_wp2_with fail
     refine wp_region_steady (S := Bl w1) 9 (by kernel_rfl) (Bl.drew w1) ?_
     refine tV 0 ?_
     try simp only [tdy]
     refine tV 1 ?_
     try simp only [tdy]
     refine tV 2 ?_
     try simp only [tdy]
     refine tU 3 (v := ?_) rfl (by kernel_rfl) (fun _ _ _ h => h) (by rfl) ?_ ?_
     rotate_left
     ·intro wq hSw
      have hSB : Below _ _ _ := hSw
      have q0 := keep1 hSB HEw1.out
      obtain ⟨p0, p1, p2, p3, p4, p5, p6⟩ := HPw1.out.below hSB
      obtain ⟨m0, m1, m2, m3, m4, m5, m6⟩ := HXw1.out.below hSB
      go_simp; try with_reducible rfl
     try simp only [tdy]
     refine tV 4 ?_
     try simp only [tdy]
     refine tV 5 ?_
     try simp only [tdy]
     refine tV 6 ?_
     try simp only [tdy]
     refine tU 7 (v := ?_) rfl (by kernel_rfl) (fun _ _ _ h => h) (by rfl) ?_ ?_
     rotate_left
     ·intro wq hSw
      have hSB : Below _ _ _ := hSw
      have q0 := keep1 hSB HEw1.out
      obtain ⟨p0, p1, p2, p3, p4, p5, p6⟩ := HPw1.out.below hSB
      obtain ⟨m0, m1, m2, m3, m4, m5, m6⟩ := HXw1.out.below hSB
      go_simp; try with_reducible rfl
     try simp only [tdy]
     refine tU 8 (v := ?_) rfl (by kernel_rfl) (fun _ _ _ h => h) (by rfl) ?_ ?_
     rotate_left
     ·intro wq hSw
      have hSB : Below _ _ _ := hSw
      have q0 := keep1 hSB HEw1.out
      obtain ⟨p0, p1, p2, p3, p4, p5, p6⟩ := HPw1.out.below hSB
      obtain ⟨m0, m1, m2, m3, m4, m5, m6⟩ := HXw1.out.below hSB
      go_simp; try with_reducible rfl
     try simp only [tdy]
     refine wpAnyU_rest (n := 9) rfl rfl (by kernel_rfl) (fun wz hSz => ?_)
     simp only [List.toList_toArray, List.drop_succ_cons, List.drop_zero]
     have HSz := hid hSz
     clear hSz
     go_wp2_with fail
     refine (Item.ahead y x HYI.out HXI.out _).mono ?_
     rintro e w2 ⟨rfl, hb2⟩
     rw [H2.out]
     have HB2 := hid (below_on HB1.out (below_on HSz.out hb2))
     clear hb2
     have q := keep1 HB2.out HC3.out
     go_wp2_with fail
     go_roundg r.size
     case measure => have := HS.out; simp only [Tr.size] at this; omega
     case rel => exact ⟨below_on HB.out HB2.out, r, rfl, rfl, HIw.out.2.2, by rw [← HE.out, HQ.out, if_neg (by rw [H1.out]; simp), if_pos H2.out]⟩
    | false =>
     have H2 := hid h2
     clear h2
     go_wp2_with fail
     refine wp_region_steady (S := Bl w1) 9 (by kernel_rfl) (Bl.drew w1) ?_
     refine tV 0 ?_
     try simp only [tdy]
     refine tV 1 ?_
     try simp only [tdy]
     refine tV 2 ?_
     try simp only [tdy]
     refine tU 3 (v := ?_) rfl (by kernel_rfl) (fun _ _ _ h => h) (by rfl) ?_ ?_
     rotate_left
     ·intro wq hSw
      have hSB : Below _ _ _ := hSw
      have q0 := keep1 hSB HEw1.out
      obtain ⟨p0, p1, p2, p3, p4, p5, p6⟩ := HPw1.out.below hSB
      obtain ⟨m0, m1, m2, m3, m4, m5, m6⟩ := HXw1.out.below hSB
      go_simp; try with_reducible rfl
     try simp only [tdy]
     refine tV 4 ?_
     try simp only [tdy]
     refine tV 5 ?_
     try simp only [tdy]
     refine tV 6 ?_
     try simp only [tdy]
     refine tU 7 (v := ?_) rfl (by kernel_rfl) (fun _ _ _ h => h) (by rfl) ?_ ?_
     rotate_left
     ·intro wq hSw
      have hSB : Below _ _ _ := hSw
      have q0 := keep1 hSB HEw1.out
      obtain ⟨p0, p1, p2, p3, p4, p5, p6⟩ := HPw1.out.below hSB
      obtain ⟨m0, m1, m2, m3, m4, m5, m6⟩ := HXw1.out.below hSB
      go_simp; try with_reducible rfl
     try simp only [tdy]
     refine tU 8 (v := ?_) rfl (by kernel_rfl) (fun _ _ _ h => h) (by rfl) ?_ ?_
     rotate_left
     ·intro wq hSw
      have hSB : Below _ _ _ := hSw
      have q0 := keep1 hSB HEw1.out
      obtain ⟨p0, p1, p2, p3, p4, p5, p6⟩ := HPw1.out.below hSB
      obtain ⟨m0, m1, m2, m3, m4, m5, m6⟩ := HXw1.out.below hSB
      go_simp; try with_reducible rfl
     try simp only [tdy]
     refine wpAnyU_rest (n := 9) rfl rfl (by kernel_rfl) (fun wz hSz => ?_)
     simp only [List.toList_toArray, List.drop_succ_cons, List.drop_zero]
     have HSz := hid hSz
     clear hSz
     go_wp2_with fail
     refine (Item.ahead y x HYI.out HXI.out _).mono ?_
     rintro e w2 ⟨rfl, hb2⟩
     rw [H2.out]
     have HB2 := hid (below_on HB1.out (below_on HSz.out hb2))
     clear hb2
     go_wp2_with fail
     go_ret
     exact ⟨by rw [← HE.out, HQ.out, if_neg (by rw [H1.out]; simp), if_neg (by rw [H2.out]; simp)]; rfl, below_on HB0.out (below_on HB.out HB2.out)⟩
end


section
open Go.RowKit
set_option maxRecDepth 100000
set_option maxHeartbeats 32000000
def DHd (w : World) (th : Nat) : Prop := ∃ f a c, w.cell? ⟨th, 0, none⟩ = some (.func f a c)
theorem DEnv.hd {w : World} {th : Nat} {rt : Value} {n : Int} (h : DEnv w th rt n) : DHd w th := by obtain ⟨_, _, t, _⟩ := h; exact ⟨_, _, _, t.at0⟩
theorem Cs.farTD {w : World} {g : Nat} {x m : It} {l r : Value} {c : Bool} (h : Cs w g (nd x m l r c)) {th : Nat} (ht : DHd w th) (o : Nat) (u : Value) : Cs (w.setCell ⟨th, o, none⟩ u) g (nd x m l r c) :=
 h.far (fun e => by subst e; obtain ⟨f, a, k, hk⟩ := ht; rw [h.th.1] at hk; injection hk with hk; cases hk) _ _
theorem DIn.farT {w : World} {t : Tr It} {th : Nat} (ht : DHd w th) (o : Nat) (u : Value) : DIn w t → DIn (w.setCell ⟨th, o, none⟩ u) t := by
 induction t with
 | nil => intro _; trivial
 | node g c l x r ihl ihr =>
  intro h
  obtain ⟨⟨v, hv, hc⟩, hl, hr⟩ := h
  exact ⟨⟨v, hv, hc.farTD ht _ _⟩, ihl hl, ihr hr⟩
theorem DEnv.root {w : World} {th : Nat} {rt : Value} {n : Int} (h : DEnv w th rt n) (u : Value) : DEnv (w.setCell ⟨th, 3, none⟩ u) th u n := by
 obtain ⟨b1, b2, h0, h1, h2, n0, n1, n2, f1, f2⟩ := h
 have ne : ∀ b : Nat, (⟨th, 3, none⟩ : Addr) ≠ ⟨b, 14, none⟩ := fun b e => by injection e with e1 e2; cases e2
 refine ⟨b1, b2, h0.set 3 (by simp) u, h1.far f1 _ _, h2.far f2 _ _, ?_, ?_, ?_, f1, f2⟩
 ·exact (World.cell?_setCell_other w _ _ u (ne th)).trans n0
 ·exact (World.cell?_setCell_other w _ _ u (ne b1)).trans n1
 ·exact (World.cell?_setCell_other w _ _ u (ne b2)).trans n2
theorem DEnv.size {w : World} {th : Nat} {rt : Value} {n : Int} (h : DEnv w th rt n) (m : Int) : DEnv (w.setCell ⟨th, 4, none⟩ (.int .i64 m)) th rt m := by
 obtain ⟨b1, b2, h0, h1, h2, n0, n1, n2, f1, f2⟩ := h
 have ne : ∀ b : Nat, (⟨th, 4, none⟩ : Addr) ≠ ⟨b, 14, none⟩ := fun b e => by injection e with e1 e2; cases e2
 refine ⟨b1, b2, h0.set 4 (by simp) _, h1.far f1 _ _, h2.far f2 _ _, ?_, ?_, ?_, f1, f2⟩
 ·exact (World.cell?_setCell_other w _ _ _ (ne th)).trans n0
 ·exact (World.cell?_setCell_other w _ _ _ (ne b1)).trans n1
 ·exact (World.cell?_setCell_other w _ _ _ (ne b2)).trans n2
theorem DEnv.at3 {w : World} {th : Nat} {rt : Value} {n : Int} (h : DEnv w th rt n) : w.cell? ⟨th, 3, none⟩ = some rt ∧ w.frozen? ⟨th, 3, none⟩ = false ∧ w.cell? ⟨th, 4, none⟩ = some (.int .i64 n) ∧ w.frozen? ⟨th, 4, none⟩ = false := by obtain ⟨_, _, t0, _⟩ := h; exact ⟨t0.at3, t0.fr3, t0.at4, t0.fr4⟩
def DIns (x : It) (t : Tr It) (th : Nat) (w : World) (e : Ending) (w' : World) : Prop := ∃ k, w.heap.size ≤ k ∧ e = .returned (.bool true) ∧ DTreeAt w' th ((Tr.put It.ahead k x t).paint false) ∧ Chg (th :: t.blocks) w w'
theorem Dt.insert_no (th : Nat) (t : Tr It) (x : It) (hx : x.In) (w : World) (h : DTreeAt w th t) (hh : Tr.has It.ahead x t = true) :
  Calls Tryz.prog 9 #[.pointer (some ⟨th, 0, none⟩), x.val] w (Ans (.bool false) w) := by
 have hb0 := (Below.refl w.heap.size w).alloc (Nat.le_refl _) (.cells #[.int .u64 x.t, .int .u32 x.r, .int .u32 x.v, .int .i64 x.i, .int .u64 x.u, .int .u32 x.s, .int .u32 x.y] 35)
 have HT := hid (h.below hb0)
 have HB0 := hid hb0
 have HX0 : Hid (Th (w.alloc (.cells #[.int .u64 x.t, .int .u32 x.r, .int .u32 x.v, .int .i64 x.i, .int .u64 x.u, .int .u32 x.s, .int .u32 x.y] 35)) w.heap.size x) := hid (Cs.new7 w _ x).th7
 have HXI := hid hx
 have HTN : Hid (∀ g ∈ th :: t.blocks, g < w.heap.size) := hid (fun g hg => by
  rcases List.mem_cons.1 hg with rfl | h1
  ·obtain ⟨_, _, t0, _⟩ := h.1; exact t0.lt
  ·exact (h.2.1.nl g h1).lt)
 have HH := hid hh
 clear h hh hx hb0
 unfold It.val
 go_enter Tryz.func9, Tryz.ntmps9
 go_wp2_with fail
 refine (Dt.has th t x HXI.out _ HT.out).mono ?_
 rintro e w1 ⟨rfl, hb⟩
 rw [HH.out]
 have HB := hid (below_on HB0.out hb)
 clear hb
 go_wp2_with fail
 go_ret
 exact ⟨rfl, HB.out⟩
theorem Dt.insert (th : Nat) (t : Tr It) (x : It) (hx : x.In) (w : World) (h : DTreeAt w th t) (hn : t.list.length < 900000) (hh : Tr.has It.ahead x t = false) :
  Calls Tryz.prog 9 #[.pointer (some ⟨th, 0, none⟩), x.val] w (DIns x t th w) := by
 have hb0 := (Below.refl w.heap.size w).alloc (Nat.le_refl _) (.cells #[.int .u64 x.t, .int .u32 x.r, .int .u32 x.v, .int .i64 x.i, .int .u64 x.u, .int .u32 x.s, .int .u32 x.y] 35)
 have HT := hid (h.below hb0)
 have HB0 := hid hb0
 have HX0 : Hid (Th (w.alloc (.cells #[.int .u64 x.t, .int .u32 x.r, .int .u32 x.v, .int .i64 x.i, .int .u64 x.u, .int .u32 x.s, .int .u32 x.y] 35)) w.heap.size x) := hid (Cs.new7 w _ x).th7
 have HXI := hid hx
 have HTN : Hid (∀ g ∈ th :: t.blocks, g < w.heap.size) := hid (fun g hg => by
  rcases List.mem_cons.1 hg with rfl | h1
  ·obtain ⟨_, _, t0, _⟩ := h.1; exact t0.lt
  ·exact (h.2.1.nl g h1).lt)
 have HH := hid hh
 have HN := hid hn
 clear h hh hn hx hb0
 unfold It.val
 go_enter Tryz.func9, Tryz.ntmps9
 go_wp2_with fail
 refine (Dt.has th t x HXI.out _ HT.out).mono ?_
 rintro e w1 ⟨rfl, hb⟩
 rw [HH.out]
 have HT1 := hid (HT.out.below hb)
 have HX1 := hid (HX0.out.below hb)
 have HB := hid (below_on HB0.out hb)
 have HBd := hid (below_on HB.out (Below.refl _ w1).drew)
 have HT1d := hid (HT1.out.below (Below.refl _ w1).drew)
 have HXd := hid (HX1.out.below (Below.refl _ w1).drew)
 obtain ⟨e3, e3f, _, _⟩ := HT1d.out.1.at3
 obtain ⟨u0, hu0⟩ := ptr_form t
 rw [hu0] at e3
 clear hb
 go_wp2_with fail
 refine wp_region_held_drew (S := fun w' => w'.cell? ⟨w.heap.size, 0, none⟩ = some (.int .u64 x.t) ∧ w'.cell? ⟨w.heap.size, 1, none⟩ = some (.int .u32 x.r) ∧ w'.cell? ⟨w.heap.size, 2, none⟩ = some (.int .u32 x.v) ∧ w'.cell? ⟨w.heap.size, 3, none⟩ = some (.int .i64 x.i) ∧ w'.cell? ⟨w.heap.size, 4, none⟩ = some (.int .u64 x.u) ∧ w'.cell? ⟨w.heap.size, 5, none⟩ = some (.int .u32 x.s) ∧ w'.cell? ⟨w.heap.size, 6, none⟩ = some (.int .u32 x.y)) (by kernel_rfl) HXd.out (fun hHeld => ?_)
 refine tH 0 ?_
 try simp only [tdy]
 refine tH 1 ?_
 try simp only [tdy]
 refine tH 2 ?_
 try simp only [tdy]
 refine tH 3 ?_
 try simp only [tdy]
 refine tH 4 ?_
 try simp only [tdy]
 refine tH 6 ?_
 try simp only [tdy]
 refine wpAnyH_ready (rs := [5]) (by kernel_rfl) (by simp) ?_
 refine AllReadyH.cons rfl (fun K hK => ?_) AllReadyH.nil
 go_simp
 refine hK.out _ _ ?_ (fun hHeld => ?_)
 ·first | exact hHeld | exact HK1.out | exact HK2.out
 clear hK K
 try simp only [tdy]
 refine wpAnyH_ready (rs := [7]) (by kernel_rfl) (by simp) ?_
 refine AllReadyH.cons rfl (fun K hK => ?_) AllReadyH.nil
 go_simp
 have hput := Dt.put th (ptr t) t.list.length x HXI.out t _ HT1d.out.2.1 HT1d.out.2.2 HN.out HT1d.out.1
 rw [hu0] at hput
 refine hput.mono ?_
 clear hput
 rintro e w2 ⟨k, hk, rfl, hi, hw⟩
 have hk' : w.heap.size ≤ k := Nat.le_trans HB.out.size hk
 have HE2 := hid (HT1d.out.1.chg hw HT1d.out.2.1.nl)
 have hnd : (Tr.put It.ahead k x t).blocks.Nodup := (Tr.perm_put It.ahead k x t).nodup_iff.2 (List.nodup_cons.2 ⟨fun hm => by have := (HT1d.out.2.1.nl k hm).lt; omega, HT1d.out.2.2⟩)
 have HLEN := hid (Tr.length_put It.ahead k x t)
 have HP := hid (Tr.perm_put It.ahead k x t)
 have HPN := hid (Tr.put_ne It.ahead k x t)
 have HND := hid hnd
 have HI := hid hi
 have HW := hid hw
 have HK := hid hk'
 obtain ⟨_, _, t0, _⟩ := HE2.out
 have q3 := t0.at3
 have q3f := t0.fr3
 have hkw := hid hk
 have hxb : w.heap.size ∉ t.blocks := fun hm => Nat.lt_irrefl _ (HTN.out _ (by simp [hm]))
 have hxt : th ≠ w.heap.size := fun e => Nat.lt_irrefl _ (HTN.out w.heap.size (by simp [e]))
 have HTX := hid (HXd.out.chg hw hxb)
 clear hxb
 clear hi hw hk hk' hnd t0 e3 e3f
 have HX : Hid (∀ w', DTreeAt w' th ((Tr.put It.ahead k x t).paint false) → Chg (th :: t.blocks) w w' → DIns x t th w (.returned (.bool true)) w') := hid (fun w' h1 h2 => ⟨k, HK.out, rfl, h1, h2⟩)
 generalize Tr.put It.ahead k x t = T at *
 obtain ⟨g, c, l, y, r, rfl⟩ : ∃ g c l y r, T = .node g c l y r := by
  cases T with
  | nil => exact absurd rfl HPN.out
  | node g c l y r => exact ⟨g, c, l, y, r, rfl⟩
 simp only [ptr_node]
 have hne : th ≠ g := fun e => by
  obtain ⟨f, a, k', hk⟩ := HE2.out.hd
  obtain ⟨⟨v, _, hc⟩, _⟩ := HI.out
  rw [e, hc.th.1] at hk; injection hk with hk; cases hk
 have hne' : g ≠ th := Ne.symm hne
 have HW3 : Hid (∃ W, W = ((w2.setCell ⟨th, 3, none⟩ (.pointer (some ⟨g, 0, none⟩))).setCell ⟨g, 16, none⟩ (.bool false)).setCell ⟨th, 4, none⟩ (.int .i64 (t.list.length + 1)) ∧
   DEnv W th (.pointer (some ⟨g, 0, none⟩)) (t.list.length + 1) ∧ DIn W (.node g false l y r) ∧ Chg (th :: t.blocks) w W) := hid (by
  have e1 := HE2.out.root (.pointer (some ⟨g, 0, none⟩))
  have i1 := HI.out.farT HE2.out.hd 3 (.pointer (some ⟨g, 0, none⟩))
  have hd := Dnodup_node HND.out
  have hn1 : DNl (w2.setCell ⟨th, 3, none⟩ (.pointer (some ⟨g, 0, none⟩))) g := i1.nl g (by simp [Tr.blocks])
  have e2 := e1.chg (F := [g]) ((Chg.refl _ _).set (g := g) (Or.inl (by simp)) 16 (.bool false)) (fun j hj => by simp at hj; subst hj; exact hn1)
  have i2 := i1.paint (d := false) ⟨hd.1, hd.2.1⟩
  have hgk : g ∈ t.blocks ∨ w1.heap.size ≤ g := by
   rcases List.mem_cons.1 (HP.out.mem_iff.1 (show g ∈ (Tr.node g c l y r).blocks by simp [Tr.blocks])) with h1 | h1
   ·subst h1; exact Or.inr hkw.out
   ·exact Or.inl h1
  have c1 : Chg (th :: t.blocks) w1.drew w2 := HW.out.mono (fun j hj => by simp [hj])
  have c2 := ((c1.set (g := th) (Or.inl (by simp)) 3 (.pointer (some ⟨g, 0, none⟩))).set (g := g) (hgk.imp (fun h => by simp [h]) id) 16 (.bool false)).set (g := th) (Or.inl (by simp)) 4 (.int .i64 (t.list.length + 1))
  exact ⟨_, rfl, e2.size _, i2.farT e2.hd _ _, (Chg.below HBd.out).trans c2 (fun j hj => Or.inl hj)⟩)
 obtain ⟨⟨v, _, hc⟩, _⟩ := HI.out
 obtain ⟨_, _, t0, _⟩ := HE2.out
 have c4 := hc.nd4
 have c4f := hc.ndf4
 have q4 := t0.at4
 have q4f := t0.fr4
 have hbn := HN.out
 clear hc t0
 have HK1 : Hid (Th w2 w.heap.size x) := hid HTX.out
 have HK2 : Hid (Th (w2.setCell ⟨th, 3, none⟩ (.pointer (some ⟨g, 0, none⟩))) w.heap.size x) := hid (HTX.out.far hxt _ _)
 clear hxt
 refine hK.out _ _ ?_ (fun hHeld => ?_)
 ·first | exact hHeld | exact HK1.out | exact HK2.out
 clear hK K
 try simp only [tdy]
 refine tH 8 ?_
 try simp only [tdy]
 refine tH 9 ?_
 try simp only [tdy]
 refine wpAnyH_ready (rs := [10]) (by kernel_rfl) (by simp) ?_
 refine AllReadyH.cons rfl (fun K hK => ?_) AllReadyH.nil
 go_simp
 refine hK.out _ _ ?_ (fun hHeld => ?_)
 ·first | exact hHeld | exact HK1.out | exact HK2.out
 clear hK K
 try simp only [tdy]
 refine wpAnyH_done (by kernel_rfl) ?_ _
 clear hHeld
 go_wp2_with fail
 obtain ⟨W, hW, HF⟩ := HW3
 rw [← hW]
 go_ret
 refine HX.out W ⟨?_, HF.2.1, ?_⟩ HF.2.2
 ·have := HF.1
  rw [Tr.list_paint, HLEN.out]
  exact this
 ·rw [Tr.blocks_paint]; exact HND.out
end


section
open Go.RowKit
set_option maxRecDepth 100000
set_option maxHeartbeats 32000000
theorem Dt.canLend (g : Nat) (c : Bool) (l r : Tr It) (x : It) (w : World) (h : DIn w (.node g c l x r)) : Calls Tryz.prog 77 #[.pointer (some ⟨g, 0, none⟩)] w fun e w' => e = .returned (.bool (Tr.lend (.node g c l x r))) ∧ w = w' := by
 obtain ⟨⟨v, _, hc⟩, hl, hr⟩ := id h
 have h2 := hc.nd2
 have HI := hid h.st
 have HL := hid hl.st
 clear hc hl hr h
 have e : Tr.lend (.node g c l x r) = (c || l.red) := rfl
 rw [e]
 cases c with
 | true =>
  go_enter Tryz.func77, Tryz.ntmps77
  go_wp2_with fail
  refine (Dt.isRed (.node g true l x r) _ HI.out).mono ?_
  rintro e w1 ⟨rfl, rfl⟩
  simp only [Tr.red]
  go_wp2_with fail
  go_ret
  exact ⟨rfl, rfl⟩
 | false =>
  go_enter Tryz.func77, Tryz.ntmps77
  go_wp2_with fail
  refine (Dt.isRed (.node g false l x r) _ HI.out).mono ?_
  rintro e w1 ⟨rfl, rfl⟩
  simp only [Tr.red]
  go_wp2_with fail
  refine (Dt.isRed l _ HL.out).mono ?_
  rintro e w1 ⟨rfl, rfl⟩
  go_wp2_with fail
  go_ret
  exact ⟨rfl, rfl⟩
theorem DStL.set {w w1 : World} {g : Nat} {c : Bool} {l r r' : Tr It} {y : It} {th : Nat} {rt : Value} {n : Int} (hst : DSt w (.node g c l y r)) (he : DEnv w th rt n)
  (hd : (Tr.node g c l y r).blocks.Nodup) (hi : DSt w1 r') (hw : Chg r.blocks w w1) (hp : r'.blocks.Perm r.blocks) (hr' : ∀ W, DNl w1 g → g ∉ r'.blocks → W = w1.setCell ⟨g, 15, none⟩ (ptr r') → DSt W r') :
  w1.cell? ⟨g, 15, none⟩ = some (ptr r) ∧ w1.frozen? ⟨g, 15, none⟩ = false ∧ DStL (w1.setCell ⟨g, 15, none⟩ (ptr r')) (.node g c l y r') ∧ DEnv (w1.setCell ⟨g, 15, none⟩ (ptr r')) th rt n ∧ Chg (Tr.node g c l y r).blocks w (w1.setCell ⟨g, 15, none⟩ (ptr r')) := by
 obtain ⟨d1, d2, d3, d4, d5⟩ := Dnodup_node hd
 obtain ⟨⟨A, m, k, hc⟩, hl, hr⟩ := hst
 have c1 := hc.chg hw d2
 have hn : DNl w1 g := c1.dnl
 have hg : g ∉ r'.blocks := fun h => d2 (hp.mem_iff.1 h)
 have hl1 := hl.chg hw hr.nl (fun j hj hj' => d5 j hj hj')
 have he1 := he.chg hw hr.nl
 refine ⟨c1.nd3, c1.ndf3, ⟨⟨A, m, k, c1.nds3 _⟩, hl1.far hn d1 _ _, hr' _ hn hg rfl⟩, ?_, ?_⟩
 ·exact he1.chg (F := [g]) ((Chg.refl _ _).set (Or.inl (by simp)) _ _) (fun j hj => by simp at hj; subst hj; exact hn)
 ·exact (hw.mono (fun j hj => by simp [Tr.blocks, hj])).set (Or.inl (by simp [Tr.blocks])) _ _
theorem DSt.far {w : World} {t : Tr It} (h : DSt w t) {g : Nat} (hn : DNl w g) (hg : g ∉ t.blocks) (o : Nat) (u : Value) : DSt (w.setCell ⟨g, o, none⟩ u) t := by
 cases t with
 | nil => trivial
 | node g' c l x r =>
  simp only [Tr.blocks, List.mem_cons, List.mem_append, not_or] at hg
  obtain ⟨⟨A, m, k, hc⟩, hl, hr⟩ := h
  exact ⟨⟨A, m, k, hc.far hg.1 _ _⟩, hl.far hn hg.2.1 _ _, hr.far hn hg.2.2 _ _⟩
theorem Dt.lendLeft1 (g gl : Nat) (c cl : Bool) (ll rl r : Tr It) (x xl : It) (th : Nat) (rt : Value) (n : Int) (w : World) (hst : DSt w (.node g c (.node gl cl ll xl rl) x r)) (hd : (Tr.node g c (.node gl cl ll xl rl) x r).blocks.Nodup)
  (hn : (Tr.node g c (.node gl cl ll xl rl) x r).list.length ≤ 900000) (he : DEnv w th rt n) (hld : Tr.lend (.node gl cl ll xl rl) = true) :
  Calls Tryz.prog 52 #[.pointer (some ⟨th, 0, none⟩), .pointer (some ⟨g, 0, none⟩)] w (DTurns (ptr (Tr.node g c (.node gl cl ll xl rl) x r)) (.node g c (.node gl cl ll xl rl) x r) (Tr.node g c (.node gl cl ll xl rl) x r).blocks w) := by
 have HS := hid hst
 have HE := hid he
 have HD := hid hd
 have HN := hid hn
 obtain ⟨⟨A, m, k, hc⟩, hl, hr⟩ := hst
 have c2 := hc.nd2
 have c3 := hc.nd3
 have HL := hid hl
 have HR := hid hr
 clear hc hl hr hd hn he
 try simp only [ptr_node] at c2 c3 ⊢
 have HLD := hid hld
 clear hld
 go_enter Tryz.func52, Tryz.ntmps52
 go_wp2_with fail
 refine (Dt.canLend gl cl (ll) (rl) xl _ (HL.out)).mono ?_
 rintro e0 w0 ⟨rfl, rfl⟩
 rw [HLD.out]
 go_wp2_with fail
 go_ret
 exact ⟨rfl, HS.out, Chg.refl _ _⟩
theorem Dt.lendRight1 (g gr : Nat) (c cr : Bool) (l lr rr : Tr It) (x xr : It) (th : Nat) (rt : Value) (n : Int) (w : World) (hst : DSt w (.node g c l x (.node gr cr lr xr rr))) (hd : (Tr.node g c l x (.node gr cr lr xr rr)).blocks.Nodup)
  (hn : (Tr.node g c l x (.node gr cr lr xr rr)).list.length ≤ 900000) (he : DEnv w th rt n) (hld : Tr.lend (.node gr cr lr xr rr) = true) :
  Calls Tryz.prog 55 #[.pointer (some ⟨th, 0, none⟩), .pointer (some ⟨g, 0, none⟩)] w (DTurns (ptr (Tr.node g c l x (.node gr cr lr xr rr))) (.node g c l x (.node gr cr lr xr rr)) (Tr.node g c l x (.node gr cr lr xr rr)).blocks w) := by
 have HS := hid hst
 have HE := hid he
 have HD := hid hd
 have HN := hid hn
 obtain ⟨⟨A, m, k, hc⟩, hl, hr⟩ := hst
 have c2 := hc.nd2
 have c3 := hc.nd3
 have HL := hid hl
 have HR := hid hr
 clear hc hl hr hd hn he
 try simp only [ptr_node] at c2 c3 ⊢
 have HLD := hid hld
 clear hld
 go_enter Tryz.func55, Tryz.ntmps55
 go_wp2_with fail
 refine (Dt.canLend gr cr (lr) (rr) xr _ (HR.out)).mono ?_
 rintro e0 w0 ⟨rfl, rfl⟩
 rw [HLD.out]
 go_wp2_with fail
 go_ret
 exact ⟨rfl, HS.out, Chg.refl _ _⟩
theorem Dt.lendLeft2 (g gl gr : Nat) (c cl cr : Bool) (ll rl lr rr : Tr It) (x xl xr : It) (th : Nat) (rt : Value) (n : Int) (w : World) (hst : DSt w (.node g c (.node gl cl ll xl rl) x (.node gr cr lr xr rr))) (hd : (Tr.node g c (.node gl cl ll xl rl) x (.node gr cr lr xr rr)).blocks.Nodup)
  (hn : (Tr.node g c (.node gl cl ll xl rl) x (.node gr cr lr xr rr)).list.length ≤ 900000) (he : DEnv w th rt n) (hld : Tr.lend (.node gl cl ll xl rl) = false) (hb : lr.red = false) :
  Calls Tryz.prog 52 #[.pointer (some ⟨th, 0, none⟩), .pointer (some ⟨g, 0, none⟩)] w (DTurns (ptr (Tr.node g (!c) (.node gl (!cl) ll xl rl) x (.node gr (!cr) lr xr rr))) (.node g (!c) (.node gl (!cl) ll xl rl) x (.node gr (!cr) lr xr rr)) (Tr.node g c (.node gl cl ll xl rl) x (.node gr cr lr xr rr)).blocks w) := by
 have HS := hid hst
 have HE := hid he
 have HD := hid hd
 have HN := hid hn
 obtain ⟨⟨A, m, k, hc⟩, hl, hr⟩ := hst
 have c2 := hc.nd2
 have c3 := hc.nd3
 have HL := hid hl
 have HR := hid hr
 clear hc hl hr hd hn he
 try simp only [ptr_node] at c2 c3 ⊢
 have HLD := hid hld
 have HB := hid hb
 clear hld hb
 go_enter Tryz.func52, Tryz.ntmps52
 go_wp2_with fail
 refine (Dt.canLend gl cl (ll) (rl) xl _ (HL.out)).mono ?_
 rintro e0 w0 ⟨rfl, rfl⟩
 rw [HLD.out]
 go_wp2_with fail
 refine (Dt.flip g gl gr c cl cr x xl xr ll rl lr rr _ (HS.out) (HD.out)).mono ?_
 rintro e1 w1 ⟨rfl, hs1, hw1⟩
 have HS1 := hid hs1
 have HW1 := hid hw1
 have HE1 := hid (HE.out.turned (HS.out) hw1)
 obtain ⟨⟨A1, m1, k1, hc1⟩, hl1, hr1⟩ := hs1
 have z2 := hc1.nd2
 have z3 := hc1.nd3
 have HL1 := hid hl1
 have HR1 := hid hr1
 obtain ⟨⟨v1, _, hc2⟩, hll1, _⟩ := hr1
 have z4 := hc2.nd2
 have HLL1 := hid hll1
 clear hc1 hl1 hc2 hll1 hw1 c2 c3
 try simp only [Tr.neg, ptr_node] at z2
 try simp only [Tr.neg, ptr_node] at z3
 try simp only [Tr.neg, ptr_node] at z4
 go_wp2_with fail
 refine (Dt.isRed (lr) _ (HLL1.out.st)).mono ?_
 rintro e0 w0 ⟨rfl, rfl⟩
 rw [HB.out]
 go_wp2_with fail
 go_ret
 exact ⟨rfl, HS1.out, HW1.out⟩
theorem Dt.lendRight2 (g gl gr : Nat) (c cl cr : Bool) (ll rl lr rr : Tr It) (x xl xr : It) (th : Nat) (rt : Value) (n : Int) (w : World) (hst : DSt w (.node g c (.node gl cl ll xl rl) x (.node gr cr lr xr rr))) (hd : (Tr.node g c (.node gl cl ll xl rl) x (.node gr cr lr xr rr)).blocks.Nodup)
  (hn : (Tr.node g c (.node gl cl ll xl rl) x (.node gr cr lr xr rr)).list.length ≤ 900000) (he : DEnv w th rt n) (hld : Tr.lend (.node gr cr lr xr rr) = false) (hb : ll.red = false) :
  Calls Tryz.prog 55 #[.pointer (some ⟨th, 0, none⟩), .pointer (some ⟨g, 0, none⟩)] w (DTurns (ptr (Tr.node g (!c) (.node gl (!cl) ll xl rl) x (.node gr (!cr) lr xr rr))) (.node g (!c) (.node gl (!cl) ll xl rl) x (.node gr (!cr) lr xr rr)) (Tr.node g c (.node gl cl ll xl rl) x (.node gr cr lr xr rr)).blocks w) := by
 have HS := hid hst
 have HE := hid he
 have HD := hid hd
 have HN := hid hn
 obtain ⟨⟨A, m, k, hc⟩, hl, hr⟩ := hst
 have c2 := hc.nd2
 have c3 := hc.nd3
 have HL := hid hl
 have HR := hid hr
 clear hc hl hr hd hn he
 try simp only [ptr_node] at c2 c3 ⊢
 have HLD := hid hld
 have HB := hid hb
 clear hld hb
 go_enter Tryz.func55, Tryz.ntmps55
 go_wp2_with fail
 refine (Dt.canLend gr cr (lr) (rr) xr _ (HR.out)).mono ?_
 rintro e0 w0 ⟨rfl, rfl⟩
 rw [HLD.out]
 go_wp2_with fail
 refine (Dt.flip g gl gr c cl cr x xl xr ll rl lr rr _ (HS.out) (HD.out)).mono ?_
 rintro e1 w1 ⟨rfl, hs1, hw1⟩
 have HS1 := hid hs1
 have HW1 := hid hw1
 have HE1 := hid (HE.out.turned (HS.out) hw1)
 obtain ⟨⟨A1, m1, k1, hc1⟩, hl1, hr1⟩ := hs1
 have z2 := hc1.nd2
 have z3 := hc1.nd3
 have HL1 := hid hl1
 have HR1 := hid hr1
 obtain ⟨⟨v1, _, hc2⟩, hll1, _⟩ := hl1
 have z4 := hc2.nd2
 have HLL1 := hid hll1
 clear hc1 hr1 hc2 hll1 hw1 c2 c3
 try simp only [Tr.neg, ptr_node] at z2
 try simp only [Tr.neg, ptr_node] at z3
 try simp only [Tr.neg, ptr_node] at z4
 go_wp2_with fail
 refine (Dt.isRed (ll) _ (HLL1.out.st)).mono ?_
 rintro e0 w0 ⟨rfl, rfl⟩
 rw [HB.out]
 go_wp2_with fail
 go_ret
 exact ⟨rfl, HS1.out, HW1.out⟩
theorem Dt.lendRight3 (g gl gr h : Nat) (c cl cr : Bool) (a b rl lr rr : Tr It) (x xl xr z : It) (th : Nat) (rt : Value) (n : Int) (w : World) (hst : DSt w (.node g c (.node gl cl (.node h true a z b) xl rl) x (.node gr cr lr xr rr))) (hd : (Tr.node g c (.node gl cl (.node h true a z b) xl rl) x (.node gr cr lr xr rr)).blocks.Nodup)
  (hn : (Tr.node g c (.node gl cl (.node h true a z b) xl rl) x (.node gr cr lr xr rr)).list.length ≤ 900000) (he : DEnv w th rt n) (hld : Tr.lend (.node gr cr lr xr rr) = false) :
  Calls Tryz.prog 55 #[.pointer (some ⟨th, 0, none⟩), .pointer (some ⟨g, 0, none⟩)] w (DTurns (ptr (Tr.node gl c (.node h false a z b) xl (.node g false rl x (.node gr (!cr) lr xr rr)))) (.node gl c (.node h false a z b) xl (.node g false rl x (.node gr (!cr) lr xr rr))) (Tr.node g c (.node gl cl (.node h true a z b) xl rl) x (.node gr cr lr xr rr)).blocks w) := by
 have HS := hid hst
 have HE := hid he
 have HD := hid hd
 have HN := hid hn
 obtain ⟨⟨A, m, k, hc⟩, hl, hr⟩ := hst
 have c2 := hc.nd2
 have c3 := hc.nd3
 have HL := hid hl
 have HR := hid hr
 clear hc hl hr hd hn he
 try simp only [ptr_node] at c2 c3 ⊢
 have HLD := hid hld
 clear hld
 go_enter Tryz.func55, Tryz.ntmps55
 go_wp2_with fail
 refine (Dt.canLend gr cr (lr) (rr) xr _ (HR.out)).mono ?_
 rintro e0 w0 ⟨rfl, rfl⟩
 rw [HLD.out]
 go_wp2_with fail
 refine (Dt.flip g gl gr c cl cr x xl xr (.node h true a z b) rl lr rr _ (HS.out) (HD.out)).mono ?_
 rintro e1 w1 ⟨rfl, hs1, hw1⟩
 have HS1 := hid hs1
 have HW1 := hid hw1
 have HE1 := hid (HE.out.turned (HS.out) hw1)
 obtain ⟨⟨A1, m1, k1, hc1⟩, hl1, hr1⟩ := hs1
 have z2 := hc1.nd2
 have z3 := hc1.nd3
 have HL1 := hid hl1
 have HR1 := hid hr1
 obtain ⟨⟨v1, _, hc2⟩, hll1, _⟩ := hl1
 have z4 := hc2.nd2
 have HLL1 := hid hll1
 clear hc1 hr1 hc2 hll1 hw1 c2 c3
 try simp only [Tr.neg, ptr_node] at z2
 try simp only [Tr.neg, ptr_node] at z3
 try simp only [Tr.neg, ptr_node] at z4
 go_wp2_with fail
 refine (Dt.isRed (.node h true a z b) _ (HLL1.out.st)).mono ?_
 rintro e0 w0 ⟨rfl, rfl⟩
 simp only [Tr.red]
 go_wp2_with fail
 refine (Dt.turnRight th g gl (!c) (!cl) (.node h true a z b) rl (.node gr (!cr) lr xr rr) x xl rt n _ HS1.out HD.out HN.out HE1.out).mono ?_
 rintro e2 w2 ⟨rfl, hs2, hw2⟩
 have HS2 := hid hs2
 have HW2 := hid hw2
 clear hs2 hw2 z2 z3 z4
 have hp : (Tr.node gl (!c) (.node h true a z b) xl (.node g true rl x (.node gr (!cr) lr xr rr))).blocks.Perm (Tr.node g (!c) (.node gl (!cl) (.node h true a z b) xl rl) x (.node gr (!cr) lr xr rr)).blocks := Tr.perm_turnRight (Tr.node g (!c) (.node gl (!cl) (.node h true a z b) xl rl) x (.node gr (!cr) lr xr rr))
 have HP := hid hp
 clear hp
 go_wp2_with fail
 refine (Dt.flip gl h g (!c) true true xl z x a b rl (.node gr (!cr) lr xr rr) _ HS2.out (HP.out.nodup_iff.2 HD.out)).mono ?_
 rintro e3 w3 ⟨rfl, hs3, hw3⟩
 have HS3 := hid hs3
 have HW3 := hid hw3
 clear hs3 hw3
 go_wp2_with fail
 go_ret
 refine ⟨rfl, ?_, (HW1.out.trans HW2.out (fun j hj => Or.inl hj)).trans HW3.out (fun j hj => Or.inl (HP.out.mem_iff.1 hj))⟩
 have := HS3.out
 simpa [Tr.flip, Tr.neg] using this
theorem Dt.lendLeft3 (g gl gr h : Nat) (c cl cr : Bool) (ll rl a b rr : Tr It) (x xl xr z : It) (th : Nat) (rt : Value) (n : Int) (w : World) (hst : DSt w (.node g c (.node gl cl ll xl rl) x (.node gr cr (.node h true a z b) xr rr))) (hd : (Tr.node g c (.node gl cl ll xl rl) x (.node gr cr (.node h true a z b) xr rr)).blocks.Nodup)
  (hn : (Tr.node g c (.node gl cl ll xl rl) x (.node gr cr (.node h true a z b) xr rr)).list.length ≤ 900000) (he : DEnv w th rt n) (hld : Tr.lend (.node gl cl ll xl rl) = false) :
  Calls Tryz.prog 52 #[.pointer (some ⟨th, 0, none⟩), .pointer (some ⟨g, 0, none⟩)] w (DTurns (ptr (Tr.node h c (.node g false (.node gl (!cl) ll xl rl) x a) z (.node gr false b xr rr))) (.node h c (.node g false (.node gl (!cl) ll xl rl) x a) z (.node gr false b xr rr)) (Tr.node g c (.node gl cl ll xl rl) x (.node gr cr (.node h true a z b) xr rr)).blocks w) := by
 have HS := hid hst
 have HE := hid he
 have HD := hid hd
 have HN := hid hn
 obtain ⟨⟨A, m, k, hc⟩, hl, hr⟩ := hst
 have c2 := hc.nd2
 have c3 := hc.nd3
 have HL := hid hl
 have HR := hid hr
 clear hc hl hr hd hn he
 try simp only [ptr_node] at c2 c3 ⊢
 have HLD := hid hld
 clear hld
 go_enter Tryz.func52, Tryz.ntmps52
 go_wp2_with fail
 refine (Dt.canLend gl cl (ll) (rl) xl _ (HL.out)).mono ?_
 rintro e0 w0 ⟨rfl, rfl⟩
 rw [HLD.out]
 go_wp2_with fail
 refine (Dt.flip g gl gr c cl cr x xl xr ll rl (.node h true a z b) rr _ (HS.out) (HD.out)).mono ?_
 rintro e1 w1 ⟨rfl, hs1, hw1⟩
 have HS1 := hid hs1
 have HW1 := hid hw1
 have HE1 := hid (HE.out.turned (HS.out) hw1)
 obtain ⟨⟨A1, m1, k1, hc1⟩, hl1, hr1⟩ := hs1
 have z2 := hc1.nd2
 have z3 := hc1.nd3
 have HL1 := hid hl1
 have HR1 := hid hr1
 obtain ⟨⟨v1, _, hc2⟩, hll1, _⟩ := hr1
 have z4 := hc2.nd2
 have HLL1 := hid hll1
 clear hc1 hl1 hc2 hll1 hw1 c2 c3
 try simp only [Tr.neg, ptr_node] at z2
 try simp only [Tr.neg, ptr_node] at z3
 try simp only [Tr.neg, ptr_node] at z4
 go_wp2_with fail
 refine (Dt.isRed (.node h true a z b) _ (HLL1.out.st)).mono ?_
 rintro e0 w0 ⟨rfl, rfl⟩
 simp only [Tr.red]
 have HD4 := hid (Dnodup_node HD.out).2.2.2.1
 go_wp2_with fail
 refine (Dt.turnRight th gr h (!cr) true a b rr xr z rt n _ HR1.out.st HD4.out (by have := HN.out; simp only [Tr.list, List.length_append, List.length_cons] at this ⊢; omega) HE1.out).mono ?_
 rintro e2 w2 ⟨rfl, hs2, hw2⟩
 have hp : (Tr.node h (!cr) a z (.node gr true b xr rr)).blocks.Perm (Tr.node gr (!cr) (.node h true a z b) xr rr).blocks := Tr.perm_turnRight (Tr.node gr (!cr) (.node h true a z b) xr rr)
 have HP := hid hp
 have HX := hid (DStL.set HS1.out HE1.out HD.out hs2 hw2 hp (fun W hn hg e => by rw [e]; exact hs2.far hn hg _ _))
 clear hs2 hw2 z2 z3 z4 hp
 have q2 := HX.out.1
 have q3 := HX.out.2.1
 try simp only [Tr.neg, ptr_node] at q2
 go_wp2_with fail
 have HW : Hid (∃ W, W = w2.setCell ⟨g, 15, none⟩ (.pointer (some ⟨h, 0, none⟩)) ∧ DStL W (.node g (!c) (.node gl (!cl) ll xl rl) x (.node h (!cr) a z (.node gr true b xr rr))) ∧ DEnv W th rt n ∧ Chg (Tr.node g (!c) (.node gl (!cl) ll xl rl) x (.node gr (!cr) (.node h true a z b) xr rr)).blocks w1 W) := hid ⟨_, rfl, HX.out.2.2.1, HX.out.2.2.2.1, HX.out.2.2.2.2⟩
 obtain ⟨W, hW, HF⟩ := HW
 rw [← hW]
 clear hW q2 q3
 have HF := hid HF
 have HP2 : Hid ((Tr.node g (!c) (.node gl (!cl) ll xl rl) x (.node h (!cr) a z (.node gr true b xr rr))).blocks.Perm (Tr.node g c (.node gl cl ll xl rl) x (.node gr cr (.node h true a z b) xr rr)).blocks) := hid ((HP.out.append_left _).cons g)
 refine (Dt.turnLeft th g h (!c) (!cr) (.node gl (!cl) ll xl rl) a (.node gr true b xr rr) x z rt n W HF.out.1 (HP2.out.nodup_iff.2 HD.out) (by have := HN.out; simp only [Tr.list, List.length_append, List.length_cons] at this ⊢; omega) HF.out.2.1).mono ?_
 rintro e4 w4 ⟨rfl, hs4, hw4⟩
 have HS4 := hid hs4
 have HW4 := hid hw4
 clear hs4 hw4
 have HP3 : Hid ((Tr.node h (!c) (.node g true (.node gl (!cl) ll xl rl) x a) z (.node gr true b xr rr)).blocks.Perm (Tr.node g c (.node gl cl ll xl rl) x (.node gr cr (.node h true a z b) xr rr)).blocks) := hid ((Tr.perm_turnLeft (Tr.node g (!c) (.node gl (!cl) ll xl rl) x (.node h (!cr) a z (.node gr true b xr rr)))).trans HP2.out)
 go_wp2_with fail
 refine (Dt.flip h g gr (!c) true true z x xr (.node gl (!cl) ll xl rl) a b rr _ HS4.out (HP3.out.nodup_iff.2 HD.out)).mono ?_
 rintro e5 w5 ⟨rfl, hs5, hw5⟩
 have HS5 := hid hs5
 have HW5 := hid hw5
 clear hs5 hw5
 go_wp2_with fail
 go_ret
 refine ⟨rfl, ?_, ((HW1.out.trans HF.out.2.2 (fun j hj => Or.inl hj)).trans HW4.out (fun j hj => Or.inl (HP2.out.mem_iff.1 hj))).trans HW5.out (fun j hj => Or.inl (HP3.out.mem_iff.1 hj))⟩
 have := HS5.out
 simpa [Tr.flip, Tr.neg] using this
theorem Dt.lendLeft (g : Nat) (c : Bool) (l r : Tr It) (x : It) (th : Nat) (rt : Value) (n : Int) (w : World) (hst : DSt w (.node g c l x r)) (hd : (Tr.node g c l x r).blocks.Nodup)
  (hn : (Tr.node g c l x r).list.length ≤ 900000) (he : DEnv w th rt n) (hl : l ≠ .nil) (hr : l.lend = false → r ≠ .nil) :
  Calls Tryz.prog 52 #[.pointer (some ⟨th, 0, none⟩), .pointer (some ⟨g, 0, none⟩)] w (DTurns (ptr (Tr.lendLeft (.node g c l x r))) (Tr.lendLeft (.node g c l x r)) (Tr.node g c l x r).blocks w) := by
 cases l with
 | nil => exact absurd rfl hl
 | node gl cl ll xl rl =>
  cases hld : Tr.lend (.node gl cl ll xl rl) with
  | true =>
   have e : Tr.lendLeft (.node g c (.node gl cl ll xl rl) x r) = .node g c (.node gl cl ll xl rl) x r := by simp [Tr.lendLeft, Tr.left_node, hld]
   rw [e]
   exact Dt.lendLeft1 g gl c cl ll rl r x xl th rt n w hst hd hn he hld
  | false =>
   cases r with
   | nil => exact absurd rfl (hr hld)
   | node gr cr lr xr rr =>
    cases hb : lr.red with
    | false =>
     have e : Tr.lendLeft (.node g c (.node gl cl ll xl rl) x (.node gr cr lr xr rr)) = .node g (!c) (.node gl (!cl) ll xl rl) x (.node gr (!cr) lr xr rr) := by simp [Tr.lendLeft, Tr.lendLeft2, Tr.left_node, Tr.right_node, hld, Tr.flip, Tr.neg, hb]
     rw [e]
     exact Dt.lendLeft2 g gl gr c cl cr ll rl lr rr x xl xr th rt n w hst hd hn he hld hb
    | true =>
     cases lr with
     | nil => simp [Tr.red] at hb
     | node h d a z b =>
      simp only [Tr.red] at hb
      subst hb
      have e : Tr.lendLeft (.node g c (.node gl cl ll xl rl) x (.node gr cr (.node h true a z b) xr rr)) = .node h c (.node g false (.node gl (!cl) ll xl rl) x a) z (.node gr false b xr rr) := by simp [Tr.lendLeft, Tr.lendLeft2, Tr.left_node, Tr.right_node, hld, Tr.flip, Tr.neg, Tr.red_node, Tr.turnLeft, Tr.turnRight, Tr.setRight]
      rw [e]
      exact Dt.lendLeft3 g gl gr h c cl cr ll rl a b rr x xl xr z th rt n w hst hd hn he hld
theorem Dt.lendRight (g : Nat) (c : Bool) (l r : Tr It) (x : It) (th : Nat) (rt : Value) (n : Int) (w : World) (hst : DSt w (.node g c l x r)) (hd : (Tr.node g c l x r).blocks.Nodup)
  (hn : (Tr.node g c l x r).list.length ≤ 900000) (he : DEnv w th rt n) (hr : r ≠ .nil) (hl : r.lend = false → l ≠ .nil) :
  Calls Tryz.prog 55 #[.pointer (some ⟨th, 0, none⟩), .pointer (some ⟨g, 0, none⟩)] w (DTurns (ptr (Tr.lendRight (.node g c l x r))) (Tr.lendRight (.node g c l x r)) (Tr.node g c l x r).blocks w) := by
 cases r with
 | nil => exact absurd rfl hr
 | node gr cr lr xr rr =>
  cases hld : Tr.lend (.node gr cr lr xr rr) with
  | true =>
   have e : Tr.lendRight (.node g c l x (.node gr cr lr xr rr)) = .node g c l x (.node gr cr lr xr rr) := by simp [Tr.lendRight, Tr.right_node, hld]
   rw [e]
   exact Dt.lendRight1 g gr c cr l lr rr x xr th rt n w hst hd hn he hld
  | false =>
   cases l with
   | nil => exact absurd rfl (hl hld)
   | node gl cl ll xl rl =>
    cases hb : ll.red with
    | false =>
     have e : Tr.lendRight (.node g c (.node gl cl ll xl rl) x (.node gr cr lr xr rr)) = .node g (!c) (.node gl (!cl) ll xl rl) x (.node gr (!cr) lr xr rr) := by simp [Tr.lendRight, Tr.lendRight2, Tr.left_node, Tr.right_node, hld, Tr.flip, Tr.neg, hb]
     rw [e]
     exact Dt.lendRight2 g gl gr c cl cr ll rl lr rr x xl xr th rt n w hst hd hn he hld hb
    | true =>
     cases ll with
     | nil => simp [Tr.red] at hb
     | node h d a z b =>
      simp only [Tr.red] at hb
      subst hb
      have e : Tr.lendRight (.node g c (.node gl cl (.node h true a z b) xl rl) x (.node gr cr lr xr rr)) = .node gl c (.node h false a z b) xl (.node g false rl x (.node gr (!cr) lr xr rr)) := by simp [Tr.lendRight, Tr.lendRight2, Tr.left_node, Tr.right_node, hld, Tr.flip, Tr.neg, Tr.red_node, Tr.turnRight]
      rw [e]
      exact Dt.lendRight3 g gl gr h c cl cr a b rl lr rr x xl xr z th rt n w hst hd hn he hld
end


section
open Go.RowKit
set_option maxRecDepth 100000
set_option maxHeartbeats 32000000
theorem Dt.least (t : Tr It) (w : World) (h : DIn w t) (hn : t ≠ .nil) (d : It) : Calls Tryz.prog 56 #[ptr t] w (Ans (It.val (t.least d)) w) := by
 have ha := (Below.refl w.heap.size w).alloc (Nat.le_refl _) (.cells #[.int .u64 0, .int .u32 0, .int .u32 0, .int .i64 0, .int .u64 0, .int .u32 0, .int .u32 0] 35)
 have HB0 := hid ha
 have HI := hid (h.below ha)
 have HZ : Hid (Cs (w.alloc (.cells #[.int .u64 0, .int .u32 0, .int .u32 0, .int .i64 0, .int .u64 0, .int .u32 0, .int .u32 0] 35)) w.heap.size It.zero.cells) := hid (Cs.new7 w 35 It.zero)
 have HN := hid hn
 clear h hn ha
 go_enter Tryz.func56, Tryz.ntmps56
 go_wp2_with fail
 generalize (w.alloc (.cells #[.int .u64 0, .int .u32 0, .int .u32 0, .int .i64 0, .int .u64 0, .int .u32 0, .int .u32 0] 35)) = W0 at HB0 HI HZ ⊢
 go_loopg [0] t.size (fun s a wr => wr = W0 ∧ ∃ (g : Nat) (c : Bool) (l r : Tr It) (y : It), a = .pointer (some ⟨g, 0, none⟩) ∧ s = (Tr.node g c l y r).size ∧ DIn W0 (.node g c l y r) ∧ (Tr.node g c l y r).least d = t.least d)
 case atStart =>
  cases t with
  | nil => exact absurd rfl HN.out
  | node g c l y r => exact ⟨rfl, g, c, l, r, y, rfl, rfl, HI.out, rfl⟩
 case round =>
  obtain ⟨rfl, g, c, l, r, y, rfl, hs, hi, he⟩ := hrel
  have HS := hid hs
  have HIn := hid hi
  have HE := hid he
  obtain ⟨⟨v, _, hc⟩, hl, _⟩ := hi
  have c2 := hc.nd2
  have HC := hid hc.th
  have HL := hid hl
  clear hs he hc hl
  cases l with
  | nil =>
   simp only [ptr_nil] at c2
   obtain ⟨q0, q1, q2, q3, q4, q5, q6⟩ := HC.out
   go_wp2_with (first | ((with_reducible refine pc 35 y.cells infoItem 2 15 w.heap.size _ HZ.out ?dlf); (intro W2 hW2); (have HY := hid (show Cs W2 w.heap.size y.cells ∧ Below w.heap.size w W2 by subst hW2; exact ⟨Cs.putL y.cells 0 HZ.out (by simp [It.cells]), below_sets (Nat.le_refl _) _ _ HB0.out⟩)); (clear hW2 c2 q0 q1 q2 q3 q4 q5 q6); (obtain ⟨z0, z1, z2, z3, z4, z5, z6⟩ := It.at y HY.out.1)) | fail)
   refine bodyPost_ret (v := y.val) (by simp [results, Tryz.results56, go_sem, z0, z1, z2, z3, z4, z5, z6, It.val]) rfl ⟨by rw [← HE.out]; rfl, HY.out.2⟩
  | node gl cl ll yl rl =>
   simp only [ptr_node] at c2
   go_wp2_with fail
   go_roundg (Tr.node gl cl ll yl rl).size
   case measure => have := HS.out; simp only [Tr.size] at this ⊢; omega
   case rel => exact ⟨rfl, gl, cl, ll, rl, yl, rfl, rfl, HL.out, by rw [← HE.out]; rfl⟩
theorem Dt.removeLeast (th : Nat) (rt : Value) (n : Int) (N : Nat) : ∀ (t : Tr It) (w : World) (h : Nat), t.size ≤ N → DIn w t → t.blocks.Nodup → t.list.length ≤ 900000 → DEnv w th rt n → Tr.V t h → t.lend = true →
  Calls Tryz.prog 57 #[.pointer (some ⟨th, 0, none⟩), ptr t] w (DTurned (Tr.remL N t) t.blocks w) := by
 induction N with
 | zero =>
  intro t w h hs _ _ _ _ _ hl
  cases t with
  | nil => simp [Tr.lend] at hl
  | node g c l x r => simp only [Tr.size] at hs; omega
 | succ N ih =>
  intro t w h hs hi hd hn he hv hle
  cases t with
  | nil => simp [Tr.lend] at hle
  | node g c l x r =>
   have IH := hid ih
   have HI := hid hi
   have HD := hid hd
   have HN := hid hn
   have HE := hid he
   have HV := hid hv
   have HS := hid hs
   obtain ⟨⟨v, hvs, hc⟩, hl, hr⟩ := hi
   have c2 := hc.nd2
   clear ih hd hn he hv hs hvs hc hl hr hle
   simp only [ptr_node]
   cases hln : l.isNil with
   | true =>
    rw [Tr.isNil_iff] at hln
    subst hln
    simp only [ptr_nil] at c2
    go_enter Tryz.func57, Tryz.ntmps57
    go_wp2_with fail
    go_ret
    have e : Tr.remL (N + 1) (.node g c .nil x r) = .nil := by simp [Tr.remL, Tr.left_node, Tr.isNil]
    rw [e]
    exact ⟨rfl, trivial, Chg.refl _ _⟩
   | false =>
    rw [Tr.isNil_no] at hln
    have HLN := hid hln
    have HEQ : Hid (Tr.remL (N + 1) (.node g c l x r) = Tr.balance ((Tr.node g c l x r).lendLeft.setLeft (Tr.remL N (Tr.node g c l x r).lendLeft.left))) := hid (by
     rw [Tr.remL, Tr.left_node, (Tr.isNil_no l).2 hln]; rfl)
    have HPRE := hid (Tr.left_pre' HV.out hln)
    have HSZ : Hid ((Tr.node g c l x r).lendLeft.left.size ≤ N) := hid (by
     have := Tr.size_left_lt _ (Tr.ne_nil_of_list (Tr.list_lendLeft (Tr.node g c l x r)) (by simp))
     rw [Tr.size_of_list (Tr.list_lendLeft (Tr.node g c l x r))] at this
     have := HS.out
     omega)
    have HNE := hid (Tr.ne_nil_of_list (Tr.list_lendLeft (Tr.node g c l x r)) (by simp))
    have HPM := hid (Tr.perm_lendLeft (Tr.node g c l x r))
    have HLL := hid (Tr.list_lendLeft (Tr.node g c l x r))
    obtain ⟨gl, cl, ll, xl, rl, rfl⟩ : ∃ gl cl ll xl rl, l = .node gl cl ll xl rl := by cases l with
     | nil => exact absurd rfl hln
     | node gl cl ll xl rl => exact ⟨_, _, _, _, _, rfl⟩
    simp only [ptr_node] at c2
    clear hln
    go_enter Tryz.func57, Tryz.ntmps57
    go_wp2_with fail
    refine (Dt.lendLeft g c _ r x th rt n _ HI.out.st HD.out HN.out HE.out HLN.out (Tr.right_ne HV.out HLN.out)).mono ?_
    rintro e1 w1 ⟨rfl, hs1, hw1⟩
    have HE1 := hid (HE.out.turned HI.out.st hw1)
    have HW1 := hid hw1
    have HS1 := hid hs1
    clear hs1 hw1 c2
    generalize (Tr.node g c (.node gl cl ll xl rl) x r).lendLeft = T at *
    cases T with
    | nil => exact absurd rfl HNE.out
    | node g' c' l' y' r' =>
     obtain ⟨⟨A, m, k, hc⟩, hl, hr⟩ := id HS1.out
     have z2 := hc.nd2
     have HINN := hid (And.intro m k)
     have HC := hid (And.intro hc (And.intro hl hr))
     have HD1 := hid (HPM.out.nodup_iff.2 HD.out)
     have HN1 := hid (show l'.list.length + (r'.list.length + 1) ≤ 900000 from by
      have := HN.out; rw [← HLL.out] at this; simpa [Tr.list] using this)
     clear hc hl hr
     simp only [ptr_node]
     go_wp2_with fail
     obtain ⟨k', p1, p2⟩ := HPRE.out
     have HP := hid (And.intro p1 p2)
     clear p1 p2
     refine (IH.out l' _ k' HSZ.out HC.out.2.1 (Dnodup_node HD1.out).2.2.1 (by have := HN1.out; omega) HE1.out HP.out.1 HP.out.2).mono ?_
     rintro e2 w2 ⟨rfl, hi2, hw2⟩
     have hof := Tr.Of.remL N l'
     have hg : g' ∉ (Tr.remL N l').blocks := fun hm => (Dnodup_node HD1.out).1 (hof.2 _ hm)
     have HT := hid (Dleft_turned HINN.out.1 HINN.out.2 HC.out.1 HC.out.2.1 HC.out.2.2 HE1.out HD1.out hi2 hw2 hg)
     have HND := hid (Dnodup_left (l' := Tr.remL N l') HD1.out (hof.1 (Dnodup_node HD1.out).2.2.1) (fun j hj => Or.inl (hof.2 j hj)))
     have HOF := hid hof
     have HLEN : Hid ((Tr.remL N l').list.length ≤ l'.list.length) := hid (by
      rw [((Tr.remL_main N l' HSZ.out) k' HP.out.1 HP.out.2).2.2]; simp)
     clear hi2 hw2 hof hg z2
     have q2 := HT.out.1.nd2
     have q3 := HT.out.1.ndf2
     have HEQ2 : Hid (Tr.remL (N + 1) (.node g c (.node gl cl ll xl rl) x r) = Tr.balance (.node g' c' (Tr.remL N l') y' r')) := HEQ
     generalize Tr.remL N l' = L' at *
     obtain ⟨u, hu⟩ := ptr_form L'
     have HU := hid hu
     rw [hu]
     clear hu
     go_wp2_with fail
     have HW : Hid (∃ W, W = w2.setCell ⟨g', 14, none⟩ (.pointer u) ∧ DSt W (.node g' c' L' y' r') ∧ DEnv W th rt n ∧ Chg (g' :: l'.blocks) w1 W) := hid ⟨_, rfl, by rw [← HU.out]; exact HT.out.2.1, by rw [← HU.out]; exact HT.out.2.2.1, by rw [← HU.out]; exact HT.out.2.2.2⟩
     obtain ⟨W, hW, HF⟩ := HW
     rw [← hW]
     clear hW q2 q3
     have HF := hid HF
     refine (Dt.balance g' c' L' r' y' th rt n W HF.out.1 HND.out (by have := HN1.out; have := HLEN.out; simp only [Tr.list, List.length_append, List.length_cons]; omega) HF.out.2.1).mono ?_
     rintro e3 w3 ⟨rfl, hi3, hw3⟩
     have HI3 := hid hi3
     have HW3 := hid hw3
     clear hi3 hw3
     go_wp2_with fail
     go_ret
     refine ⟨by rw [HEQ2.out]; rfl, by rw [HEQ2.out]; exact HI3.out, (HW1.out.trans HF.out.2.2 (fun j hj => Or.inl (HPM.out.mem_iff.1 ?_))).trans HW3.out (fun j hj => Or.inl (HPM.out.mem_iff.1 ?_))⟩
     ·rcases List.mem_cons.1 hj with rfl | h1
      ·simp [Tr.blocks]
      ·simp [Tr.blocks, h1]
     ·simp only [Tr.blocks, List.mem_cons, List.mem_append] at hj ⊢
      exact hj.imp id (Or.imp (HOF.out.2 j) id)
end


section
open Go.RowKit
theorem Chg.onD {F : List Nat} {a b c : World} (h : Chg F a b) (hb : Below b.heap.size b c) : Chg F a c := h.trans (Chg.below (F := []) hb) (by simp)
theorem DIn.thing {w : World} {g : Nat} {c : Bool} {l r : Tr It} {y : It} (h : DIn w (.node g c l y r)) : y.In := by
 obtain ⟨⟨v, hv, _⟩, _⟩ := h
 exact hv.2.2
theorem DIn.least {w : World} (d : It) : ∀ {t : Tr It}, DIn w t → t ≠ .nil → (t.least d).In := by
 intro t
 induction t with
 | nil => intro _ h; exact absurd rfl h
 | node g c l y r ihl _ =>
  intro h _
  cases l with
  | nil => exact h.thing
  | node gl cl ll yl rl => exact ihl h.2.1 (by simp)
theorem DIn.node {w : World} {g : Nat} {c : Bool} {l r : Tr It} {y : It} (h : DIn w (.node g c l y r)) : ∃ A, Cs w g (nd y A (ptr l) (ptr r) c) := by
 obtain ⟨⟨v, _, hc⟩, _⟩ := h
 exact ⟨v, hc⟩
def RemIH (th : Nat) (rt : Value) (n : Int) (x : It) (N : Nat) : Prop := ∀ (t : Tr It) (w : World) (A : List It) (m : It) (B : List It), t.size ≤ N → DIn w t → t.blocks.Nodup → t.list.length ≤ 900000 → DEnv w th rt n → Tr.Pre It.ahead x t → Tr.Has It.ahead x A m B → t.list = A ++ m :: B →
  Calls Tryz.prog 38 #[.pointer (some ⟨th, 0, none⟩), ptr t, x.val] w (DTurned (Tr.rem It.ahead N x t) t.blocks w)
theorem Dt.rem_left (th : Nat) (rt : Value) (n : Int) (x : It) (hx : x.In) (N : Nat) (ih : RemIH th rt n x N) (g : Nat) (c : Bool) (l : Tr It) (y : It) (r : Tr It) (hlt : It.ahead x y = true) (w : World) (As : List It) (ms : It) (Bs : List It) (hs : (Tr.node g c l y r).size ≤ N + 1) (hi : DIn w (Tr.node g c l y r)) (hd : (Tr.node g c l y r).blocks.Nodup) (hn : (Tr.node g c l y r).list.length ≤ 900000) (he : DEnv w th rt n) (hp : Tr.Pre It.ahead x (Tr.node g c l y r)) (hh : Tr.Has It.ahead x As ms Bs) (hli : (Tr.node g c l y r).list = As ++ ms :: Bs) :
  Calls Tryz.prog 38 #[.pointer (some ⟨th, 0, none⟩), .pointer (some ⟨g, 0, none⟩), x.val] w (DTurned (Tr.rem It.ahead (N + 1) x (Tr.node g c l y r)) (Tr.node g c l y r).blocks w) := by
 have hal := (Below.refl w.heap.size w).alloc (Nat.le_refl _) (.cells #[.int .u64 x.t, .int .u32 x.r, .int .u32 x.v, .int .i64 x.i, .int .u64 x.u, .int .u32 x.s, .int .u32 x.y] 35)
 have IH := hid ih
 have HI := hid (hi.below hal)
 have HE := hid (he.below hal)
 have HXC : Hid (Cs (w.alloc (.cells #[.int .u64 x.t, .int .u32 x.r, .int .u32 x.v, .int .i64 x.i, .int .u64 x.u, .int .u32 x.s, .int .u32 x.y] 35)) w.heap.size x.cells) := hid (Cs.new7 w 35 x)
 have HBW := hid hal
 have HBL : Hid (w.heap.size ∉ (Tr.node g c l y r).blocks) := hid (fun hm => Nat.lt_irrefl _ (hi.nl _ hm).lt)
 have HX := hid hx
 have HYI := hid hi.thing
 have HD := hid hd
 have HN := hid hn
 have HP := hid hp
 have HH := hid hh
 have HLI := hid hli
 have HS := hid hs
 have HLT := hid hlt
 obtain ⟨hln, hrn, hpre, hlend, B', hl1, hl2⟩ := Tr.go_left hp hh hli hlt
 have HG := hid (And.intro hln (And.intro hrn (And.intro hpre (And.intro hlend (And.intro hl1 hl2)))))
 have HEQ : Hid (Tr.rem It.ahead (N + 1) x (Tr.node g c l y r) = Tr.balance ((Tr.node g c l y r).lendLeft.setLeft (Tr.rem It.ahead N x (Tr.node g c l y r).lendLeft.left))) := hid (Tr.rem_left hlt)
 have HSZ : Hid ((Tr.node g c l y r).lendLeft.left.size ≤ N) := hid (by
  have := Tr.size_left_lt _ (Tr.ne_nil_of_list (Tr.list_lendLeft (Tr.node g c l y r)) (by simp))
  rw [Tr.size_of_list (Tr.list_lendLeft (Tr.node g c l y r))] at this
  omega)
 have HNE := hid (Tr.ne_nil_of_list (Tr.list_lendLeft (Tr.node g c l y r)) (by simp))
 have HPM := hid (Tr.perm_lendLeft (Tr.node g c l y r))
 have HLL := hid (Tr.list_lendLeft (Tr.node g c l y r))
 clear hln hrn hpre hlend hl1 hl2 hlt
 clear ih hi hd hn he hp hh hli hs hal hx
 unfold It.val
 go_enter Tryz.func38, Tryz.ntmps38
 go_upto_region 1 with fail
 generalize (w.alloc (.cells #[.int .u64 x.t, .int .u32 x.r, .int .u32 x.v, .int .i64 x.i, .int .u64 x.u, .int .u32 x.s, .int .u32 x.y] 35)) = W0 at HI HE HXC HBW ⊢
 have hsT1 : Stays (fun wx => Below W0.heap.size W0 wx) := fun _ _ h hb => below_on h hb
 refine wp_region_grow (S := fun wx => Below W0.heap.size W0 wx) 9 (by kernel_rfl) (hsT1 _ _ ((Below.refl W0.heap.size W0)) (Below.refl _ _).drew) ?_
 refine tF 0 (hsT1) (fun _ h => h) ?_
 try simp only [tdy]
 refine tF 1 (hsT1) (fun _ h => h) ?_
 try simp only [tdy]
 refine tF 2 (hsT1) (fun _ h => h) ?_
 try simp only [tdy]
 refine tE 3 (v := ?_) (hsT1) (fun _ h => h) rfl (by kernel_rfl) (by rfl) ?_ ?_
 rotate_left
 ·intro wq hSw
  obtain ⟨v, hc⟩ := (HI.out.below hSw).node
  obtain ⟨y0, y1, y2, y3, y4, y5, y6⟩ := hc.th
  obtain ⟨_, _, t0, _⟩ := HE.out.below hSw
  have e0 := t0.at0
  obtain ⟨x0, x1, x2, x3, x4, x5, x6⟩ := It.at x (HXC.out.below hSw)
  go_simp; try with_reducible rfl
 try simp only [tdy]
 refine tE 4 (v := ?_) (hsT1) (fun _ h => h) rfl (by kernel_rfl) (by rfl) ?_ ?_
 rotate_left
 ·intro wq hSw
  obtain ⟨v, hc⟩ := (HI.out.below hSw).node
  obtain ⟨y0, y1, y2, y3, y4, y5, y6⟩ := hc.th
  obtain ⟨_, _, t0, _⟩ := HE.out.below hSw
  have e0 := t0.at0
  obtain ⟨x0, x1, x2, x3, x4, x5, x6⟩ := It.at x (HXC.out.below hSw)
  go_simp; try with_reducible rfl
 try simp only [tdy]
 refine tF 5 (hsT1) (fun _ h => h) ?_
 try simp only [tdy]
 refine tF 6 (hsT1) (fun _ h => h) ?_
 try simp only [tdy]
 refine tF 7 (hsT1) (fun _ h => h) ?_
 try simp only [tdy]
 refine tE 8 (v := ?_) (hsT1) (fun _ h => h) rfl (by kernel_rfl) (by rfl) ?_ ?_
 rotate_left
 ·intro wq hSw
  obtain ⟨v, hc⟩ := (HI.out.below hSw).node
  obtain ⟨y0, y1, y2, y3, y4, y5, y6⟩ := hc.th
  obtain ⟨_, _, t0, _⟩ := HE.out.below hSw
  have e0 := t0.at0
  obtain ⟨x0, x1, x2, x3, x4, x5, x6⟩ := It.at x (HXC.out.below hSw)
  go_simp; try with_reducible rfl
 try simp only [tdy]
 refine wpAnyE_rest (n := 9) rfl rfl (by kernel_rfl) (fun wz1 hSz1 => ?_)
 simp only [List.toList_toArray, List.drop_succ_cons, List.drop_zero]
 go_wp2_with fail
 refine (Item.ahead x y HX.out HYI.out _).mono ?_
 rintro e w1 ⟨rfl, hb⟩
 rw [HLT.out]
 have hB1 := below_on hSz1 hb
 replace HI := hid (HI.out.below hB1)
 replace HE := hid (HE.out.below hB1)
 replace HXC := hid (HXC.out.below hB1)
 replace HBW := hid (below_on HBW.out hB1)
 clear hb hB1 hSz1
 go_wp2_with fail
 refine (Dt.lendLeft g c l r y th rt n _ HI.out.st HD.out HN.out HE.out HG.out.1 HG.out.2.1).mono ?_
 rintro e1 w2 ⟨rfl, hs1, hw1⟩
 have HE1 := hid (HE.out.turned HI.out.st hw1)
 have HW1 := hid hw1
 have HS1 := hid hs1
 have HX2 := hid (HXC.out.chg hw1 HBL.out)
 clear hs1 hw1
 generalize (Tr.node g c l y r).lendLeft = T at *
 cases T with
 | nil => exact absurd rfl HNE.out
 | node g' c' l' y' r' =>
  obtain ⟨⟨A, m, kk, hc⟩, hl, hr⟩ := id HS1.out
  have HINN := hid (And.intro m kk)
  have HC := hid (And.intro hc (And.intro hl hr))
  have HD1 := hid (HPM.out.nodup_iff.2 HD.out)
  have HN1 := hid (show l'.list.length + (r'.list.length + 1) ≤ 900000 from by have := HN.out; rw [← HLL.out] at this; simpa [Tr.list] using this)
  clear hc hl hr
  simp only [ptr_node]
  obtain ⟨k', p1⟩ := HG.out.2.2.1
  have HP1 := hid (And.intro p1 HG.out.2.2.2.1)
  clear p1
  obtain ⟨q1, q2⟩ := HG.out.2.2.2.2
  have HHas : Hid (Tr.Has It.ahead x As ms B') := hid ⟨HH.out.low, fun b hb => HH.out.high b (by rw [q2]; simp [hb]), HH.out.mid⟩
  have HL1 := hid q1
  clear q1 q2
  have HPR : Hid (Tr.Pre It.ahead x l') := hid (Or.inl ⟨k', HP1.out.1, HP1.out.2⟩)
  go_wp2_with fail
  have q0 := HC.out.1.nd2
  have hSz3 := (Below.refl w2.heap.size w2).drew
  have HXz := hid ((HX2.out.below hSz3).th7)
  refine wp_region_held_drew (S := fun w' => w'.cell? ⟨w.heap.size, 0, none⟩ = some (.int .u64 x.t) ∧ w'.cell? ⟨w.heap.size, 1, none⟩ = some (.int .u32 x.r) ∧ w'.cell? ⟨w.heap.size, 2, none⟩ = some (.int .u32 x.v) ∧ w'.cell? ⟨w.heap.size, 3, none⟩ = some (.int .i64 x.i) ∧ w'.cell? ⟨w.heap.size, 4, none⟩ = some (.int .u64 x.u) ∧ w'.cell? ⟨w.heap.size, 5, none⟩ = some (.int .u32 x.s) ∧ w'.cell? ⟨w.heap.size, 6, none⟩ = some (.int .u32 x.y)) (by kernel_rfl) HXz.out (fun hHeld => ?_)
  refine tH 0 ?_
  try simp only [tdy]
  refine tH 1 ?_
  try simp only [tdy]
  refine tH 2 ?_
  try simp only [tdy]
  refine tH 3 ?_
  try simp only [tdy]
  refine tH 4 ?_
  try simp only [tdy]
  refine tH 6 ?_
  try simp only [tdy]
  refine wpAnyH_ready (rs := [5]) (by kernel_rfl) (by simp) ?_
  refine AllReadyH.cons rfl (fun K hK => ?_) AllReadyH.nil
  go_simp
  refine hK.out _ _ ?_ (fun hHeld => ?_)
  ·first | exact hHeld | exact HK1.out | exact HK2.out
  clear hK K
  try simp only [tdy]
  refine wpAnyH_ready (rs := [7]) (by kernel_rfl) (by simp) ?_
  refine AllReadyH.cons rfl (fun K hK => ?_) AllReadyH.nil
  go_simp
  refine (IH.out l' _ As ms B' HSZ.out (HC.out.2.1.below hSz3) (Dnodup_node HD1.out).2.2.1 (by have := HN1.out; omega) (HE1.out.below hSz3) HPR.out HHas.out HL1.out).mono ?_
  rintro e2 w3 ⟨rfl, hi2, hw2⟩
  have hof := Tr.Of.rem It.ahead x N l'
  have hg : g' ∉ (Tr.rem It.ahead N x l').blocks := fun hm => (Dnodup_node HD1.out).1 (hof.2 _ hm)
  have HT := hid (Dleft_turned HINN.out.1 HINN.out.2 (HC.out.1.below hSz3) (HC.out.2.1.below hSz3) (HC.out.2.2.below hSz3) (HE1.out.below hSz3) HD1.out hi2 hw2 hg)
  have HND := hid (Dnodup_left (l' := Tr.rem It.ahead N x l') HD1.out (hof.1 (Dnodup_node HD1.out).2.2.1) (fun j hj => Or.inl (hof.2 j hj)))
  have HOF := hid hof
  have HLEN : Hid ((Tr.rem It.ahead N x l').list.length ≤ l'.list.length) := hid (Has.len HL1.out (Tr.rem_main It.ahead x N l' As ms B' HSZ.out HPR.out HHas.out HL1.out).1)
  have HTX := hid ((HX2.out.below hSz3).chg hw2 (fun hm => HBL.out (HPM.out.mem_iff.1 (by simp [Tr.blocks, hm]))))
  have hxg : g' ≠ w.heap.size := fun e => HBL.out (HPM.out.mem_iff.1 (by simp [Tr.blocks, e]))
  have HTF : Hid (∀ v, Cs (w3.setCell ⟨g', 14, none⟩ v) w.heap.size x.cells) := hid (fun v => HTX.out.far hxg _ _)
  have HBZ := hid hSz3
  clear hi2 hw2 hof hg hSz3 hxg q0
  have q2 := HT.out.1.nd2
  have q3 := HT.out.1.ndf2
  have HEQ2 : Hid (Tr.rem It.ahead (N + 1) x (Tr.node g c l y r) = Tr.balance (.node g' c' (Tr.rem It.ahead N x l') y' r')) := HEQ
  clear HEQ
  generalize Tr.rem It.ahead N x l' = L' at *
  obtain ⟨u, hu⟩ := ptr_form L'
  have HU := hid hu
  rw [hu]
  clear hu
  have HK1 : Hid (Th w3 w.heap.size x) := hid HTX.out.th7
  have HK2 : Hid (Th (w3.setCell ⟨g', 14, none⟩ (.pointer u)) w.heap.size x) := hid (HTF.out _).th7
  refine hK.out _ _ ?_ (fun hHeld => ?_)
  ·first | exact hHeld | exact HK1.out | exact HK2.out
  clear hK K
  try simp only [tdy]
  refine tH 8 ?_
  try simp only [tdy]
  refine tH 9 ?_
  try simp only [tdy]
  refine wpAnyH_ready (rs := [10]) (by kernel_rfl) (by simp) ?_
  refine AllReadyH.cons rfl (fun K hK => ?_) AllReadyH.nil
  go_simp
  refine hK.out _ _ ?_ (fun hHeld => ?_)
  ·first | exact hHeld | exact HK1.out | exact HK2.out
  clear hK K
  try simp only [tdy]
  refine wpAnyH_done (by kernel_rfl) ?_ _
  clear hHeld
  have HW : Hid (∃ W, W = w3.setCell ⟨g', 14, none⟩ (.pointer u) ∧ DSt W (.node g' c' L' y' r') ∧ DEnv W th rt n ∧ Chg (g' :: l'.blocks) w2.drew W) := hid ⟨_, rfl, by rw [← HU.out]; exact HT.out.2.1, by rw [← HU.out]; exact HT.out.2.2.1, by rw [← HU.out]; exact HT.out.2.2.2⟩
  obtain ⟨W, hW, HF⟩ := HW
  rw [← hW]
  clear hW q2 q3
  have HF := hid HF
  go_wp2_with fail
  refine (Dt.balance g' c' L' r' y' th rt n W HF.out.1 HND.out (by have := HN1.out; have := HLEN.out; simp only [Tr.list, List.length_append, List.length_cons]; omega) HF.out.2.1).mono ?_
  rintro e3 w4 ⟨rfl, hi3, hw3⟩
  have HI3 := hid hi3
  have HW3 := hid hw3
  clear hi3 hw3
  go_wp2_with fail
  go_ret
  refine ⟨by rw [HEQ2.out]; rfl, by rw [HEQ2.out]; exact HI3.out, ((((Chg.below HBW.out).trans HW1.out (fun j hj => Or.inl hj)).onD HBZ.out).trans HF.out.2.2 (fun j hj => Or.inl (HPM.out.mem_iff.1 ?_))).trans HW3.out (fun j hj => Or.inl (HPM.out.mem_iff.1 ?_))⟩
  ·rcases List.mem_cons.1 hj with rfl | h1
   ·simp [Tr.blocks]
   ·simp [Tr.blocks, h1]
  ·simp only [Tr.blocks, List.mem_cons, List.mem_append] at hj ⊢
   exact hj.imp id (Or.imp (HOF.out.2 j) id)
theorem Dt.rem_right0 (th : Nat) (rt : Value) (n : Int) (x : It) (hx : x.In) (N : Nat) (ih : RemIH th rt n x N) (g : Nat) (c : Bool) (l : Tr It) (y : It) (r : Tr It) (hlt : It.ahead x y = false) (hlr : l.red = false) (w : World) (As : List It) (ms : It) (Bs : List It) (hs : (Tr.node g c l y r).size ≤ N + 1) (hi : DIn w (Tr.node g c l y r)) (hd : (Tr.node g c l y r).blocks.Nodup) (hn : (Tr.node g c l y r).list.length ≤ 900000) (he : DEnv w th rt n) (hp : Tr.Pre It.ahead x (Tr.node g c l y r)) (hh : Tr.Has It.ahead x As ms Bs) (hli : (Tr.node g c l y r).list = As ++ ms :: Bs) :
  Calls Tryz.prog 38 #[.pointer (some ⟨th, 0, none⟩), .pointer (some ⟨g, 0, none⟩), x.val] w (DTurned (Tr.rem It.ahead (N + 1) x (Tr.node g c l y r)) (Tr.node g c l y r).blocks w) := by
 have hal := (Below.refl w.heap.size w).alloc (Nat.le_refl _) (.cells #[.int .u64 x.t, .int .u32 x.r, .int .u32 x.v, .int .i64 x.i, .int .u64 x.u, .int .u32 x.s, .int .u32 x.y] 35)
 have IH := hid ih
 have HI := hid (hi.below hal)
 have HE := hid (he.below hal)
 have HXC : Hid (Cs (w.alloc (.cells #[.int .u64 x.t, .int .u32 x.r, .int .u32 x.v, .int .i64 x.i, .int .u64 x.u, .int .u32 x.s, .int .u32 x.y] 35)) w.heap.size x.cells) := hid (Cs.new7 w 35 x)
 have HBW := hid hal
 have HBL : Hid (w.heap.size ∉ (Tr.node g c l y r).blocks) := hid (fun hm => Nat.lt_irrefl _ (hi.nl _ hm).lt)
 have HX := hid hx
 have HYI := hid hi.thing
 have HD := hid hd
 have HN := hid hn
 have HP := hid hp
 have HH := hid hh
 have HLI := hid hli
 have HS := hid hs
 have HLT := hid hlt
 have HG := hid (Tr.go_right hp hh hli hlt)
 have HPU := hid (Tr.perm_up1 (Tr.node g c l y r))
 have HLU := hid (Tr.list_up1 (Tr.node g c l y r))
 have HEQn : Hid ((Tr.node g c l y r).up1.right = .nil → Tr.rem It.ahead (N + 1) x (Tr.node g c l y r) = .nil) := hid (Tr.rem_nil hlt)
 have HEQr := hid (fun h1 h2 => Tr.rem_right (lt := It.ahead) (N := N) (x := x) (y := y) (g := g) (c := c) (l := l) (r := r) hlt h1 h2)
 have HEQh := hid (fun h1 h2 => Tr.rem_here (lt := It.ahead) (N := N) (x := x) (y := y) (g := g) (c := c) (l := l) (r := r) hlt h1 h2)
 have HLR := hid hlr
 rw [Tr.up1_same hlr] at HG HPU HLU HEQn HEQr HEQh
 clear hlt hlr
 clear ih hi hd hn he hp hh hli hs hal hx
 unfold It.val
 go_enter Tryz.func38, Tryz.ntmps38
 go_upto_region 1 with fail
 generalize (w.alloc (.cells #[.int .u64 x.t, .int .u32 x.r, .int .u32 x.v, .int .i64 x.i, .int .u64 x.u, .int .u32 x.s, .int .u32 x.y] 35)) = W0 at HI HE HXC HBW ⊢
 have hsT2 : Stays (fun wx => Below W0.heap.size W0 wx) := fun _ _ h hb => below_on h hb
 refine wp_region_grow (S := fun wx => Below W0.heap.size W0 wx) 9 (by kernel_rfl) (hsT2 _ _ ((Below.refl W0.heap.size W0)) (Below.refl _ _).drew) ?_
 refine tF 0 (hsT2) (fun _ h => h) ?_
 try simp only [tdy]
 refine tF 1 (hsT2) (fun _ h => h) ?_
 try simp only [tdy]
 refine tF 2 (hsT2) (fun _ h => h) ?_
 try simp only [tdy]
 refine tE 3 (v := ?_) (hsT2) (fun _ h => h) rfl (by kernel_rfl) (by rfl) ?_ ?_
 rotate_left
 ·intro wq hSw
  obtain ⟨v, hc⟩ := (HI.out.below hSw).node
  obtain ⟨y0, y1, y2, y3, y4, y5, y6⟩ := hc.th
  obtain ⟨_, _, t0, _⟩ := HE.out.below hSw
  have e0 := t0.at0
  obtain ⟨x0, x1, x2, x3, x4, x5, x6⟩ := It.at x (HXC.out.below hSw)
  go_simp; try with_reducible rfl
 try simp only [tdy]
 refine tE 4 (v := ?_) (hsT2) (fun _ h => h) rfl (by kernel_rfl) (by rfl) ?_ ?_
 rotate_left
 ·intro wq hSw
  obtain ⟨v, hc⟩ := (HI.out.below hSw).node
  obtain ⟨y0, y1, y2, y3, y4, y5, y6⟩ := hc.th
  obtain ⟨_, _, t0, _⟩ := HE.out.below hSw
  have e0 := t0.at0
  obtain ⟨x0, x1, x2, x3, x4, x5, x6⟩ := It.at x (HXC.out.below hSw)
  go_simp; try with_reducible rfl
 try simp only [tdy]
 refine tF 5 (hsT2) (fun _ h => h) ?_
 try simp only [tdy]
 refine tF 6 (hsT2) (fun _ h => h) ?_
 try simp only [tdy]
 refine tF 7 (hsT2) (fun _ h => h) ?_
 try simp only [tdy]
 refine tE 8 (v := ?_) (hsT2) (fun _ h => h) rfl (by kernel_rfl) (by rfl) ?_ ?_
 rotate_left
 ·intro wq hSw
  obtain ⟨v, hc⟩ := (HI.out.below hSw).node
  obtain ⟨y0, y1, y2, y3, y4, y5, y6⟩ := hc.th
  obtain ⟨_, _, t0, _⟩ := HE.out.below hSw
  have e0 := t0.at0
  obtain ⟨x0, x1, x2, x3, x4, x5, x6⟩ := It.at x (HXC.out.below hSw)
  go_simp; try with_reducible rfl
 try simp only [tdy]
 refine wpAnyE_rest (n := 9) rfl rfl (by kernel_rfl) (fun wz1 hSz1 => ?_)
 simp only [List.toList_toArray, List.drop_succ_cons, List.drop_zero]
 go_wp2_with fail
 refine (Item.ahead x y HX.out HYI.out _).mono ?_
 rintro e w1 ⟨rfl, hb⟩
 rw [HLT.out]
 have hB1 := below_on hSz1 hb
 replace HI := hid (HI.out.below hB1)
 replace HE := hid (HE.out.below hB1)
 replace HXC := hid (HXC.out.below hB1)
 replace HBW := hid (below_on HBW.out hB1)
 clear hb hB1 hSz1
 obtain ⟨v0, hc0⟩ := HI.out.node
 have c2 := hc0.nd2
 go_wp2_with fail
 refine (Dt.isRed l _ HI.out.2.1.st).mono ?_
 rintro e wi ⟨rfl, rfl⟩
 rw [HLR.out]
 clear c2 hc0
 have HSU := hid HI.out.st
 have HEU := HE
 have HXU := HXC
 have HWU : Hid (Chg (Tr.node g c l y r).blocks w w1) := hid (Chg.below HBW.out)
 obtain ⟨⟨A0, mm0, kk0, hc⟩, _, _⟩ := id HSU.out
 have z3 := hc.nd3
 clear hc mm0 kk0
 have HDU := hid (HPU.out.nodup_iff.2 HD.out)
 have HNU := hid (show (Tr.node g c l y r).list.length ≤ 900000 from by have := HN.out; rw [← (Eq.refl (Tr.node g c l y r).list)] at this; exact this)
 rcases HG.out with ⟨hrn, _⟩ | hgo
 ·simp only [Tr.right_node] at hrn
  have HRN := hid hrn
  subst hrn
  simp only [ptr_nil] at z3
  go_wp2_with fail
  go_ret
  rw [HEQn.out rfl]
  exact ⟨rfl, trivial, HWU.out⟩
 ·have HGO := hid hgo
  clear hgo HG HEQn
  have HRN := hid HGO.out.1
  simp only [Tr.right_node] at HRN
  have HSZ : Hid ((Tr.node g c l y r).lendRight.right.size ≤ N) := hid (by
   have := Tr.size_right_lt _ HGO.out.2.2.1
   rw [Tr.size_of_list (Tr.list_lendRight (Tr.node g c l y r)), Tr.size_of_list (Eq.refl (Tr.node g c l y r).list)] at this
   have := HS.out
   omega)
  have HPM := hid ((Tr.perm_lendRight (Tr.node g c l y r)).trans HPU.out)
  have HLL := hid ((Tr.list_lendRight (Tr.node g c l y r)).trans (Eq.refl (Tr.node g c l y r).list))
  obtain ⟨gr, cr, lr, xr, rr, hre⟩ : ∃ gl cl ll xl rl, r = .node gl cl ll xl rl := by
   cases hru : r with
   | nil => exact absurd hru HRN.out
   | node gl cl ll xl rl => exact ⟨_, _, _, _, _, rfl⟩
  have z4 := z3
  rw [hre] at z4
  simp only [ptr_node] at z4
  clear hre z3
  go_wp2_with fail
  refine (Dt.lendRight g c l r y th rt n _ HSU.out HDU.out HNU.out HEU.out HRN.out HGO.out.2.1).mono ?_
  rintro e1 w2 ⟨rfl, hs1, hw1⟩
  have HE1 := hid (HEU.out.turned HSU.out hw1)
  have HW1 := hid (HWU.out.trans hw1 (fun j hj => Or.inl (HPU.out.mem_iff.1 hj)))
  have HS1 := hid hs1
  have HX2 := hid (HXU.out.chg hw1 (fun hm => HBL.out (HPU.out.mem_iff.1 hm)))
  clear hs1 hw1 z4
  generalize (Tr.node g c l y r).lendRight = T at *
  cases T with
  | nil => exact absurd rfl HGO.out.2.2.1
  | node g' c' l' y' r' =>
   obtain ⟨⟨A, m, kk, hc⟩, hl, hr⟩ := id HS1.out
   have HINN := hid (And.intro m kk)
   have HC := hid (And.intro hc (And.intro hl hr))
   have HD1 := hid (HPM.out.nodup_iff.2 HD.out)
   have HN1 := hid (show l'.list.length + (r'.list.length + 1) ≤ 900000 from by have := HN.out; rw [← HLL.out] at this; simpa [Tr.list] using this)
   clear hc hl hr
   simp only [ptr_node]
   simp only [Tr.right_node, Tr.left_node, Tr.thing_node] at HGO HEQr HEQh HSZ
   go_wp2_with fail
   have hsT3 : Stays (fun wx => Below w2.heap.size w2 wx) := fun _ _ h hb => below_on h hb
   refine wp_region_grow (S := fun wx => Below w2.heap.size w2 wx) 9 (by kernel_rfl) (hsT3 _ _ ((Below.refl w2.heap.size w2)) (Below.refl _ _).drew) ?_
   refine tF 0 (hsT3) (fun _ h => h) ?_
   try simp only [tdy]
   refine tF 1 (hsT3) (fun _ h => h) ?_
   try simp only [tdy]
   refine tF 2 (hsT3) (fun _ h => h) ?_
   try simp only [tdy]
   refine tE 3 (v := ?_) (hsT3) (fun _ h => h) rfl (by kernel_rfl) (by rfl) ?_ ?_
   rotate_left
   ·intro wq hSw
    obtain ⟨y0, y1, y2, y3, y4, y5, y6⟩ := (HC.out.1.below hSw).th
    obtain ⟨_, _, t0, _⟩ := HE1.out.below hSw
    have e0 := t0.at0
    obtain ⟨x0, x1, x2, x3, x4, x5, x6⟩ := It.at x (HX2.out.below hSw)
    go_simp; try with_reducible rfl
   try simp only [tdy]
   refine tF 4 (hsT3) (fun _ h => h) ?_
   try simp only [tdy]
   refine tF 5 (hsT3) (fun _ h => h) ?_
   try simp only [tdy]
   refine tF 6 (hsT3) (fun _ h => h) ?_
   try simp only [tdy]
   refine tE 7 (v := ?_) (hsT3) (fun _ h => h) rfl (by kernel_rfl) (by rfl) ?_ ?_
   rotate_left
   ·intro wq hSw
    obtain ⟨y0, y1, y2, y3, y4, y5, y6⟩ := (HC.out.1.below hSw).th
    obtain ⟨_, _, t0, _⟩ := HE1.out.below hSw
    have e0 := t0.at0
    obtain ⟨x0, x1, x2, x3, x4, x5, x6⟩ := It.at x (HX2.out.below hSw)
    go_simp; try with_reducible rfl
   try simp only [tdy]
   refine tE 8 (v := ?_) (hsT3) (fun _ h => h) rfl (by kernel_rfl) (by rfl) ?_ ?_
   rotate_left
   ·intro wq hSw
    obtain ⟨y0, y1, y2, y3, y4, y5, y6⟩ := (HC.out.1.below hSw).th
    obtain ⟨_, _, t0, _⟩ := HE1.out.below hSw
    have e0 := t0.at0
    obtain ⟨x0, x1, x2, x3, x4, x5, x6⟩ := It.at x (HX2.out.below hSw)
    go_simp; try with_reducible rfl
   try simp only [tdy]
   refine wpAnyE_rest (n := 9) rfl rfl (by kernel_rfl) (fun wz2 hSz2 => ?_)
   simp only [List.toList_toArray, List.drop_succ_cons, List.drop_zero]
   go_wp2_with fail
   refine (Item.ahead y' x HINN.out.2 HX.out _).mono ?_
   rintro e w5 ⟨rfl, hb⟩
   have hB5 := below_on hSz2 hb
   replace HC := hid (And.intro (HC.out.1.below hB5) (And.intro (HC.out.2.1.below hB5) (HC.out.2.2.below hB5)))
   replace HE1 := hid (HE1.out.below hB5)
   replace HX2 := hid (HX2.out.below hB5)
   replace HW1 := hid (HW1.out.onD hB5)
   clear hb hSz2 hB5 HS1
   cases hx : It.ahead y' x with
   | true =>
    obtain ⟨hpr, A', q1, q2⟩ := HGO.out.2.2.2.1 hx
    have HHas : Hid (Tr.Has It.ahead x A' ms Bs) := hid ⟨fun a ha => HH.out.low a (by rw [q2]; simp [ha]), HH.out.high, HH.out.mid⟩
    have HPR : Hid (Tr.Pre It.ahead x r') := hid (by
     rcases hpr with h1 | h1
     ·exact Or.inl h1
     ·exact Or.inr (Or.inl h1))
    have HL1 := hid q1
    have HEQ := hid (HEQr.out HGO.out.1 hx)
    clear q1 q2 hx hpr
    go_wp2_with fail
    have q0 := HC.out.1.nd3
    have hSz3 := (Below.refl w5.heap.size w5).drew
    have HXz := hid ((HX2.out.below hSz3).th7)
    refine wp_region_held_drew (S := fun w' => w'.cell? ⟨w.heap.size, 0, none⟩ = some (.int .u64 x.t) ∧ w'.cell? ⟨w.heap.size, 1, none⟩ = some (.int .u32 x.r) ∧ w'.cell? ⟨w.heap.size, 2, none⟩ = some (.int .u32 x.v) ∧ w'.cell? ⟨w.heap.size, 3, none⟩ = some (.int .i64 x.i) ∧ w'.cell? ⟨w.heap.size, 4, none⟩ = some (.int .u64 x.u) ∧ w'.cell? ⟨w.heap.size, 5, none⟩ = some (.int .u32 x.s) ∧ w'.cell? ⟨w.heap.size, 6, none⟩ = some (.int .u32 x.y)) (by kernel_rfl) HXz.out (fun hHeld => ?_)
    refine tH 0 ?_
    try simp only [tdy]
    refine tH 1 ?_
    try simp only [tdy]
    refine tH 2 ?_
    try simp only [tdy]
    refine tH 3 ?_
    try simp only [tdy]
    refine tH 4 ?_
    try simp only [tdy]
    refine tH 6 ?_
    try simp only [tdy]
    refine wpAnyH_ready (rs := [5]) (by kernel_rfl) (by simp) ?_
    refine AllReadyH.cons rfl (fun K hK => ?_) AllReadyH.nil
    go_simp
    refine hK.out _ _ ?_ (fun hHeld => ?_)
    ·first | exact hHeld | exact HK1.out | exact HK2.out
    clear hK K
    try simp only [tdy]
    refine wpAnyH_ready (rs := [7]) (by kernel_rfl) (by simp) ?_
    refine AllReadyH.cons rfl (fun K hK => ?_) AllReadyH.nil
    go_simp
    refine (IH.out r' _ A' ms Bs HSZ.out (HC.out.2.2.below hSz3) (Dnodup_node HD1.out).2.2.2.1 (by have := HN1.out; omega) (HE1.out.below hSz3) HPR.out HHas.out HL1.out).mono ?_
    rintro e2 w3 ⟨rfl, hi2, hw2⟩
    have hof := Tr.Of.rem It.ahead x N r'
    have hg : g' ∉ (Tr.rem It.ahead N x r').blocks := fun hm => (Dnodup_node HD1.out).2.1 (hof.2 _ hm)
    have HT := hid (Dright_turned HINN.out.1 HINN.out.2 (HC.out.1.below hSz3) (HC.out.2.1.below hSz3) (HC.out.2.2.below hSz3) (HE1.out.below hSz3) HD1.out hi2 hw2 hg)
    have HND := hid (Dnodup_right (r' := Tr.rem It.ahead N x r') HD1.out (hof.1 (Dnodup_node HD1.out).2.2.2.1) (fun j hj => Or.inl (hof.2 j hj)))
    have HOF := hid hof
    have HLEN : Hid ((Tr.rem It.ahead N x r').list.length ≤ r'.list.length) := hid (Has.len HL1.out (Tr.rem_main It.ahead x N r' A' ms Bs HSZ.out HPR.out HHas.out HL1.out).1)
    have HTX := hid ((HX2.out.below hSz3).chg hw2 (fun hm => HBL.out (HPM.out.mem_iff.1 (by simp [Tr.blocks, hm]))))
    have hxg : g' ≠ w.heap.size := fun e => HBL.out (HPM.out.mem_iff.1 (by simp [Tr.blocks, e]))
    have HTF : Hid (∀ v, Cs (w3.setCell ⟨g', 15, none⟩ v) w.heap.size x.cells) := hid (fun v => HTX.out.far hxg _ _)
    have HBZ := hid hSz3
    clear hi2 hw2 hof hg hSz3 hxg q0
    have q2 := HT.out.1.nd3
    have q3 := HT.out.1.ndf3
    have HEQ2 : Hid (Tr.rem It.ahead (N + 1) x (Tr.node g c l y r) = Tr.balance (.node g' c' l' y' (Tr.rem It.ahead N x r'))) := HEQ
    clear HEQ HEQr HEQh HGO
    generalize Tr.rem It.ahead N x r' = L' at *
    obtain ⟨u, hu⟩ := ptr_form L'
    have HU := hid hu
    rw [hu]
    clear hu
    have HK1 : Hid (Th w3 w.heap.size x) := hid HTX.out.th7
    have HK2 : Hid (Th (w3.setCell ⟨g', 15, none⟩ (.pointer u)) w.heap.size x) := hid (HTF.out _).th7
    refine hK.out _ _ ?_ (fun hHeld => ?_)
    ·first | exact hHeld | exact HK1.out | exact HK2.out
    clear hK K
    try simp only [tdy]
    refine tH 8 ?_
    try simp only [tdy]
    refine tH 9 ?_
    try simp only [tdy]
    refine wpAnyH_ready (rs := [10]) (by kernel_rfl) (by simp) ?_
    refine AllReadyH.cons rfl (fun K hK => ?_) AllReadyH.nil
    go_simp
    refine hK.out _ _ ?_ (fun hHeld => ?_)
    ·first | exact hHeld | exact HK1.out | exact HK2.out
    clear hK K
    try simp only [tdy]
    refine wpAnyH_done (by kernel_rfl) ?_ _
    clear hHeld
    have HW : Hid (∃ W, W = w3.setCell ⟨g', 15, none⟩ (.pointer u) ∧ DSt W (.node g' c' l' y' L') ∧ DEnv W th rt n ∧ Chg (g' :: r'.blocks) w5.drew W) := hid ⟨_, rfl, by rw [← HU.out]; exact HT.out.2.1, by rw [← HU.out]; exact HT.out.2.2.1, by rw [← HU.out]; exact HT.out.2.2.2⟩
    obtain ⟨W, hW, HF⟩ := HW
    rw [← hW]
    clear hW q2 q3
    have HF := hid HF
    go_wp2_with fail
    refine (Dt.balance g' c' l' L' y' th rt n W HF.out.1 HND.out (by have := HN1.out; have := HLEN.out; simp only [Tr.list, List.length_append, List.length_cons]; omega) HF.out.2.1).mono ?_
    rintro e3 w4 ⟨rfl, hi3, hw3⟩
    have HI3 := hid hi3
    have HW3 := hid hw3
    clear hi3 hw3
    go_wp2_with fail
    go_ret
    refine ⟨by rw [HEQ2.out]; rfl, by rw [HEQ2.out]; exact HI3.out, ((HW1.out.onD HBZ.out).trans HF.out.2.2 (fun j hj => Or.inl (HPM.out.mem_iff.1 ?_))).trans HW3.out (fun j hj => Or.inl (HPM.out.mem_iff.1 ?_))⟩
    ·rcases List.mem_cons.1 hj with rfl | h1
     ·simp [Tr.blocks]
     ·simp [Tr.blocks, h1]
    ·simp only [Tr.blocks, List.mem_cons, List.mem_append] at hj ⊢
     exact hj.imp id (Or.imp id (HOF.out.2 j))
   | false =>
    obtain ⟨⟨k', k1, k2⟩, q1, q2⟩ := HGO.out.2.2.2.2 hx
    have HK := hid (And.intro k1 k2)
    have HEQ := hid (HEQh.out HGO.out.1 hx)
    clear q1 q2 hx k1 k2
    have HNR : Hid (r' ≠ .nil) := hid (by intro e; have := HK.out.2; rw [e] at this; simp [Tr.lend] at this)
    have z5 := HC.out.1.nd3
    go_wp2_with fail
    refine (Dt.least r' _ HC.out.2.2 HNR.out y').mono ?_
    rintro e w6 ⟨rfl, hb⟩
    have HLI2 := hid (HC.out.2.2.least y' HNR.out)
    replace HC := hid (And.intro (HC.out.1.below hb) (And.intro (HC.out.2.1.below hb) (HC.out.2.2.below hb)))
    replace HE1 := hid (HE1.out.below hb)
    replace HW1 := hid (HW1.out.onD hb)
    clear hb z5
    obtain ⟨y9, hy9⟩ : ∃ y9, r'.least y' = y9 := ⟨_, rfl⟩
    rw [hy9] at HLI2 ⊢
    simp only [hy9] at HEQ
    clear hy9
    have hth := HC.out.1.thereT
    have HPUT : Hid (∀ W, W = w6.setCells g' 0 y9.cells → Cs W g' (nd y9 A (ptr l') (ptr r') c') ∧ DIn W l' ∧ DIn W r' ∧ DEnv W th rt n ∧ Chg [g'] w6 W) := hid (fun W hW => by
     have hnl : DNl w6 g' := HC.out.1.dnl
     have hc6 : Chg [g'] w6 W := by rw [hW]; exact Chg.sets _ _ (Chg.refl _ _) (Or.inl (by simp))
     have hF : ∀ j ∈ [g'], DNl w6 j := fun j hj => by simp at hj; subst hj; exact hnl
     refine ⟨by rw [hW]; exact HC.out.1.putT y9, HC.out.2.1.chg hc6 hF (fun j hj => by simp; rintro rfl; exact (Dnodup_node HD1.out).1 hj), HC.out.2.2.chg hc6 hF (fun j hj => by simp; rintro rfl; exact (Dnodup_node HD1.out).2.1 hj), HE1.out.chg hc6 hF, hc6⟩)
    go_wp2_with (first | ((with_reducible refine wpList_put_it 35 infoItem rfl (.tmp 76) (.tmp 74) rfl g' 0 y9 hth ?rj1 ?rj2 ?rj3); (case rj1 => rfl); (case rj2 => rfl); (intro W2 hW2); (have HC2 := hid (HPUT.out W2 hW2)); (clear hW2 hth); (have z3 := HC2.out.1.nd3)) | fail)
    refine (Dt.removeLeast th rt n N r' _ k' HSZ.out HC2.out.2.2.1 (Dnodup_node HD1.out).2.2.2.1 (by have := HN1.out; omega) HC2.out.2.2.2.1 HK.out.1 HK.out.2).mono ?_
    rintro e2 w3 ⟨rfl, hi2, hw2⟩
    have hof := Tr.Of.remL N r'
    have hg : g' ∉ (Tr.remL N r').blocks := fun hm => (Dnodup_node HD1.out).2.1 (hof.2 _ hm)
    have HDy : Hid ((Tr.node g' c' l' y9 r').blocks.Nodup) := hid (by have := HD1.out; simpa [Tr.blocks] using this)
    have HT := hid (Dright_turned (y := y9) HINN.out.1 HLI2.out HC2.out.1 HC2.out.2.1 HC2.out.2.2.1 HC2.out.2.2.2.1 HDy.out hi2 hw2 hg)
    have HND := hid (Dnodup_right (r' := Tr.remL N r') HDy.out (hof.1 (Dnodup_node HD1.out).2.2.2.1) (fun j hj => Or.inl (hof.2 j hj)))
    have HOF := hid hof
    have HLEN : Hid ((Tr.remL N r').list.length ≤ r'.list.length) := hid (by rw [((Tr.remL_main N r' HSZ.out) k' HK.out.1 HK.out.2).2.2]; simp)
    clear hi2 hw2 hof hg z3
    have q2 := HT.out.1.nd3
    have q3 := HT.out.1.ndf3
    have HEQ2 : Hid (Tr.rem It.ahead (N + 1) x (Tr.node g c l y r) = Tr.balance (.node g' c' l' y9 (Tr.remL N r'))) := HEQ
    clear HEQ HEQr HEQh HGO
    generalize Tr.remL N r' = L' at *
    obtain ⟨u, hu⟩ := ptr_form L'
    have HU := hid hu
    rw [hu]
    clear hu
    go_wp2_with fail
    have HW : Hid (∃ W, W = w3.setCell ⟨g', 15, none⟩ (.pointer u) ∧ DSt W (.node g' c' l' y9 L') ∧ DEnv W th rt n ∧ Chg (g' :: r'.blocks) W2 W) := hid ⟨_, rfl, by rw [← HU.out]; exact HT.out.2.1, by rw [← HU.out]; exact HT.out.2.2.1, by rw [← HU.out]; exact HT.out.2.2.2⟩
    obtain ⟨W, hW, HF⟩ := HW
    rw [← hW]
    clear hW q2 q3
    have HF := hid HF
    refine (Dt.balance g' c' l' L' y9 th rt n W HF.out.1 HND.out (by have := HN1.out; have := HLEN.out; simp only [Tr.list, List.length_append, List.length_cons]; omega) HF.out.2.1).mono ?_
    rintro e3 w4 ⟨rfl, hi3, hw3⟩
    have HI3 := hid hi3
    have HW3 := hid hw3
    clear hi3 hw3
    go_wp2_with fail
    go_ret
    refine ⟨by rw [HEQ2.out]; rfl, by rw [HEQ2.out]; exact HI3.out, ((HW1.out.trans HC2.out.2.2.2.2 (fun j hj => Or.inl (HPM.out.mem_iff.1 (by simp at hj; subst hj; simp [Tr.blocks])))).trans HF.out.2.2 (fun j hj => Or.inl (HPM.out.mem_iff.1 ?_))).trans HW3.out (fun j hj => Or.inl (HPM.out.mem_iff.1 ?_))⟩
    ·rcases List.mem_cons.1 hj with rfl | h1
     ·simp [Tr.blocks]
     ·simp [Tr.blocks, h1]
    ·simp only [Tr.blocks, List.mem_cons, List.mem_append] at hj ⊢
     exact hj.imp id (Or.imp id (HOF.out.2 j))
theorem Dt.rem_right1 (th : Nat) (rt : Value) (n : Int) (x : It) (hx : x.In) (N : Nat) (ih : RemIH th rt n x N) (g : Nat) (c : Bool) (h : Nat) (a : Tr It) (z : It) (b : Tr It) (y : It) (r : Tr It) (hlt : It.ahead x y = false) (w : World) (As : List It) (ms : It) (Bs : List It) (hs : (Tr.node g c (Tr.node h true a z b) y r).size ≤ N + 1) (hi : DIn w (Tr.node g c (Tr.node h true a z b) y r)) (hd : (Tr.node g c (Tr.node h true a z b) y r).blocks.Nodup) (hn : (Tr.node g c (Tr.node h true a z b) y r).list.length ≤ 900000) (he : DEnv w th rt n) (hp : Tr.Pre It.ahead x (Tr.node g c (Tr.node h true a z b) y r)) (hh : Tr.Has It.ahead x As ms Bs) (hli : (Tr.node g c (Tr.node h true a z b) y r).list = As ++ ms :: Bs) :
  Calls Tryz.prog 38 #[.pointer (some ⟨th, 0, none⟩), .pointer (some ⟨g, 0, none⟩), x.val] w (DTurned (Tr.rem It.ahead (N + 1) x (Tr.node g c (Tr.node h true a z b) y r)) (Tr.node g c (Tr.node h true a z b) y r).blocks w) := by
 have hal := (Below.refl w.heap.size w).alloc (Nat.le_refl _) (.cells #[.int .u64 x.t, .int .u32 x.r, .int .u32 x.v, .int .i64 x.i, .int .u64 x.u, .int .u32 x.s, .int .u32 x.y] 35)
 have IH := hid ih
 have HI := hid (hi.below hal)
 have HE := hid (he.below hal)
 have HXC : Hid (Cs (w.alloc (.cells #[.int .u64 x.t, .int .u32 x.r, .int .u32 x.v, .int .i64 x.i, .int .u64 x.u, .int .u32 x.s, .int .u32 x.y] 35)) w.heap.size x.cells) := hid (Cs.new7 w 35 x)
 have HBW := hid hal
 have HBL : Hid (w.heap.size ∉ (Tr.node g c (Tr.node h true a z b) y r).blocks) := hid (fun hm => Nat.lt_irrefl _ (hi.nl _ hm).lt)
 have HX := hid hx
 have HYI := hid hi.thing
 have HD := hid hd
 have HN := hid hn
 have HP := hid hp
 have HH := hid hh
 have HLI := hid hli
 have HS := hid hs
 have HLT := hid hlt
 have HG := hid (Tr.go_right hp hh hli hlt)
 have HPU := hid (Tr.perm_up1 (Tr.node g c (Tr.node h true a z b) y r))
 have HLU := hid (Tr.list_up1 (Tr.node g c (Tr.node h true a z b) y r))
 have HEQn : Hid ((Tr.node g c (Tr.node h true a z b) y r).up1.right = .nil → Tr.rem It.ahead (N + 1) x (Tr.node g c (Tr.node h true a z b) y r) = .nil) := hid (Tr.rem_nil hlt)
 have HEQr := hid (fun h1 h2 => Tr.rem_right (lt := It.ahead) (N := N) (x := x) (y := y) (g := g) (c := c) (l := (Tr.node h true a z b)) (r := r) hlt h1 h2)
 have HEQh := hid (fun h1 h2 => Tr.rem_here (lt := It.ahead) (N := N) (x := x) (y := y) (g := g) (c := c) (l := (Tr.node h true a z b)) (r := r) hlt h1 h2)
 rw [Tr.up1_red (show (Tr.node h true a z b).red = true from rfl)] at HG HPU HLU HEQn HEQr HEQh
 simp only [Tr.turnRight] at HG HPU HLU HEQn HEQr HEQh
 clear hlt
 clear ih hi hd hn he hp hh hli hs hal hx
 unfold It.val
 go_enter Tryz.func38, Tryz.ntmps38
 go_upto_region 1 with fail
 generalize (w.alloc (.cells #[.int .u64 x.t, .int .u32 x.r, .int .u32 x.v, .int .i64 x.i, .int .u64 x.u, .int .u32 x.s, .int .u32 x.y] 35)) = W0 at HI HE HXC HBW ⊢
 have hsT4 : Stays (fun wx => Below W0.heap.size W0 wx) := fun _ _ h hb => below_on h hb
 refine wp_region_grow (S := fun wx => Below W0.heap.size W0 wx) 9 (by kernel_rfl) (hsT4 _ _ ((Below.refl W0.heap.size W0)) (Below.refl _ _).drew) ?_
 refine tF 0 (hsT4) (fun _ h => h) ?_
 try simp only [tdy]
 refine tF 1 (hsT4) (fun _ h => h) ?_
 try simp only [tdy]
 refine tF 2 (hsT4) (fun _ h => h) ?_
 try simp only [tdy]
 refine tE 3 (v := ?_) (hsT4) (fun _ h => h) rfl (by kernel_rfl) (by rfl) ?_ ?_
 rotate_left
 ·intro wq hSw
  obtain ⟨v, hc⟩ := (HI.out.below hSw).node
  obtain ⟨y0, y1, y2, y3, y4, y5, y6⟩ := hc.th
  obtain ⟨_, _, t0, _⟩ := HE.out.below hSw
  have e0 := t0.at0
  obtain ⟨x0, x1, x2, x3, x4, x5, x6⟩ := It.at x (HXC.out.below hSw)
  go_simp; try with_reducible rfl
 try simp only [tdy]
 refine tE 4 (v := ?_) (hsT4) (fun _ h => h) rfl (by kernel_rfl) (by rfl) ?_ ?_
 rotate_left
 ·intro wq hSw
  obtain ⟨v, hc⟩ := (HI.out.below hSw).node
  obtain ⟨y0, y1, y2, y3, y4, y5, y6⟩ := hc.th
  obtain ⟨_, _, t0, _⟩ := HE.out.below hSw
  have e0 := t0.at0
  obtain ⟨x0, x1, x2, x3, x4, x5, x6⟩ := It.at x (HXC.out.below hSw)
  go_simp; try with_reducible rfl
 try simp only [tdy]
 refine tF 5 (hsT4) (fun _ h => h) ?_
 try simp only [tdy]
 refine tF 6 (hsT4) (fun _ h => h) ?_
 try simp only [tdy]
 refine tF 7 (hsT4) (fun _ h => h) ?_
 try simp only [tdy]
 refine tE 8 (v := ?_) (hsT4) (fun _ h => h) rfl (by kernel_rfl) (by rfl) ?_ ?_
 rotate_left
 ·intro wq hSw
  obtain ⟨v, hc⟩ := (HI.out.below hSw).node
  obtain ⟨y0, y1, y2, y3, y4, y5, y6⟩ := hc.th
  obtain ⟨_, _, t0, _⟩ := HE.out.below hSw
  have e0 := t0.at0
  obtain ⟨x0, x1, x2, x3, x4, x5, x6⟩ := It.at x (HXC.out.below hSw)
  go_simp; try with_reducible rfl
 try simp only [tdy]
 refine wpAnyE_rest (n := 9) rfl rfl (by kernel_rfl) (fun wz1 hSz1 => ?_)
 simp only [List.toList_toArray, List.drop_succ_cons, List.drop_zero]
 go_wp2_with fail
 refine (Item.ahead x y HX.out HYI.out _).mono ?_
 rintro e w1 ⟨rfl, hb⟩
 rw [HLT.out]
 have hB1 := below_on hSz1 hb
 replace HI := hid (HI.out.below hB1)
 replace HE := hid (HE.out.below hB1)
 replace HXC := hid (HXC.out.below hB1)
 replace HBW := hid (below_on HBW.out hB1)
 clear hb hB1 hSz1
 obtain ⟨v0, hc0⟩ := HI.out.node
 have c2 := hc0.nd2
 simp only [ptr_node] at c2
 go_wp2_with fail
 refine (Dt.isRed (Tr.node h true a z b) _ HI.out.2.1.st).mono ?_
 rintro e wi ⟨rfl, rfl⟩
 simp only [Tr.red]
 clear c2 hc0
 go_wp2_with fail
 refine (Dt.turnRight th g h c true a b r y z rt n _ HI.out.st HD.out HN.out HE.out).mono ?_
 rintro e wu ⟨rfl, hsu, hwu⟩
 have HSU := hid hsu
 have HEU := hid (HE.out.turned HI.out.st hwu)
 have HXU := hid (HXC.out.chg hwu HBL.out)
 have HWU := hid ((Chg.below HBW.out).trans hwu (fun j hj => Or.inl hj))
 clear hsu hwu
 obtain ⟨⟨A0, mm0, kk0, hc⟩, _, _⟩ := id HSU.out
 have z3 := hc.nd3
 clear hc mm0 kk0
 have HDU := hid (HPU.out.nodup_iff.2 HD.out)
 have HNU := hid (show (Tr.node h c a z (Tr.node g true b y r)).list.length ≤ 900000 from by have := HN.out; rw [← HLU.out] at this; exact this)
 rcases HG.out with ⟨hrn, _⟩ | hgo
 ·simp only [Tr.right_node] at hrn
  cases hrn
 ·have HGO := hid hgo
  clear hgo HG HEQn
  have HRN := hid HGO.out.1
  simp only [Tr.right_node] at HRN
  have HSZ : Hid ((Tr.node h c a z (Tr.node g true b y r)).lendRight.right.size ≤ N) := hid (by
   have := Tr.size_right_lt _ HGO.out.2.2.1
   rw [Tr.size_of_list (Tr.list_lendRight (Tr.node h c a z (Tr.node g true b y r))), Tr.size_of_list HLU.out] at this
   have := HS.out
   omega)
  have HPM := hid ((Tr.perm_lendRight (Tr.node h c a z (Tr.node g true b y r))).trans HPU.out)
  have HLL := hid ((Tr.list_lendRight (Tr.node h c a z (Tr.node g true b y r))).trans HLU.out)
  have z4 := z3
  simp only [ptr_node] at z4
  clear z3
  go_wp2_with fail
  refine (Dt.lendRight h c a (Tr.node g true b y r) z th rt n _ HSU.out HDU.out HNU.out HEU.out HRN.out HGO.out.2.1).mono ?_
  rintro e1 w2 ⟨rfl, hs1, hw1⟩
  have HE1 := hid (HEU.out.turned HSU.out hw1)
  have HW1 := hid (HWU.out.trans hw1 (fun j hj => Or.inl (HPU.out.mem_iff.1 hj)))
  have HS1 := hid hs1
  have HX2 := hid (HXU.out.chg hw1 (fun hm => HBL.out (HPU.out.mem_iff.1 hm)))
  clear hs1 hw1 z4
  generalize (Tr.node h c a z (Tr.node g true b y r)).lendRight = T at *
  cases T with
  | nil => exact absurd rfl HGO.out.2.2.1
  | node g' c' l' y' r' =>
   obtain ⟨⟨A, m, kk, hc⟩, hl, hr⟩ := id HS1.out
   have HINN := hid (And.intro m kk)
   have HC := hid (And.intro hc (And.intro hl hr))
   have HD1 := hid (HPM.out.nodup_iff.2 HD.out)
   have HN1 := hid (show l'.list.length + (r'.list.length + 1) ≤ 900000 from by have := HN.out; rw [← HLL.out] at this; simpa [Tr.list] using this)
   clear hc hl hr
   simp only [ptr_node]
   simp only [Tr.right_node, Tr.left_node, Tr.thing_node] at HGO HEQr HEQh HSZ
   go_wp2_with fail
   have hsT5 : Stays (fun wx => Below w2.heap.size w2 wx) := fun _ _ h hb => below_on h hb
   refine wp_region_grow (S := fun wx => Below w2.heap.size w2 wx) 9 (by kernel_rfl) (hsT5 _ _ ((Below.refl w2.heap.size w2)) (Below.refl _ _).drew) ?_
   refine tF 0 (hsT5) (fun _ h => h) ?_
   try simp only [tdy]
   refine tF 1 (hsT5) (fun _ h => h) ?_
   try simp only [tdy]
   refine tF 2 (hsT5) (fun _ h => h) ?_
   try simp only [tdy]
   refine tE 3 (v := ?_) (hsT5) (fun _ h => h) rfl (by kernel_rfl) (by rfl) ?_ ?_
   rotate_left
   ·intro wq hSw
    obtain ⟨y0, y1, y2, y3, y4, y5, y6⟩ := (HC.out.1.below hSw).th
    obtain ⟨_, _, t0, _⟩ := HE1.out.below hSw
    have e0 := t0.at0
    obtain ⟨x0, x1, x2, x3, x4, x5, x6⟩ := It.at x (HX2.out.below hSw)
    go_simp; try with_reducible rfl
   try simp only [tdy]
   refine tF 4 (hsT5) (fun _ h => h) ?_
   try simp only [tdy]
   refine tF 5 (hsT5) (fun _ h => h) ?_
   try simp only [tdy]
   refine tF 6 (hsT5) (fun _ h => h) ?_
   try simp only [tdy]
   refine tE 7 (v := ?_) (hsT5) (fun _ h => h) rfl (by kernel_rfl) (by rfl) ?_ ?_
   rotate_left
   ·intro wq hSw
    obtain ⟨y0, y1, y2, y3, y4, y5, y6⟩ := (HC.out.1.below hSw).th
    obtain ⟨_, _, t0, _⟩ := HE1.out.below hSw
    have e0 := t0.at0
    obtain ⟨x0, x1, x2, x3, x4, x5, x6⟩ := It.at x (HX2.out.below hSw)
    go_simp; try with_reducible rfl
   try simp only [tdy]
   refine tE 8 (v := ?_) (hsT5) (fun _ h => h) rfl (by kernel_rfl) (by rfl) ?_ ?_
   rotate_left
   ·intro wq hSw
    obtain ⟨y0, y1, y2, y3, y4, y5, y6⟩ := (HC.out.1.below hSw).th
    obtain ⟨_, _, t0, _⟩ := HE1.out.below hSw
    have e0 := t0.at0
    obtain ⟨x0, x1, x2, x3, x4, x5, x6⟩ := It.at x (HX2.out.below hSw)
    go_simp; try with_reducible rfl
   try simp only [tdy]
   refine wpAnyE_rest (n := 9) rfl rfl (by kernel_rfl) (fun wz2 hSz2 => ?_)
   simp only [List.toList_toArray, List.drop_succ_cons, List.drop_zero]
   go_wp2_with fail
   refine (Item.ahead y' x HINN.out.2 HX.out _).mono ?_
   rintro e w5 ⟨rfl, hb⟩
   have hB5 := below_on hSz2 hb
   replace HC := hid (And.intro (HC.out.1.below hB5) (And.intro (HC.out.2.1.below hB5) (HC.out.2.2.below hB5)))
   replace HE1 := hid (HE1.out.below hB5)
   replace HX2 := hid (HX2.out.below hB5)
   replace HW1 := hid (HW1.out.onD hB5)
   clear hb hSz2 hB5 HS1
   cases hx : It.ahead y' x with
   | true =>
    obtain ⟨hpr, A', q1, q2⟩ := HGO.out.2.2.2.1 hx
    have HHas : Hid (Tr.Has It.ahead x A' ms Bs) := hid ⟨fun a ha => HH.out.low a (by rw [q2]; simp [ha]), HH.out.high, HH.out.mid⟩
    have HPR : Hid (Tr.Pre It.ahead x r') := hid (by
     rcases hpr with h1 | h1
     ·exact Or.inl h1
     ·exact Or.inr (Or.inl h1))
    have HL1 := hid q1
    have HEQ := hid (HEQr.out HGO.out.1 hx)
    clear q1 q2 hx hpr
    go_wp2_with fail
    have q0 := HC.out.1.nd3
    have hSz3 := (Below.refl w5.heap.size w5).drew
    have HXz := hid ((HX2.out.below hSz3).th7)
    refine wp_region_held_drew (S := fun w' => w'.cell? ⟨w.heap.size, 0, none⟩ = some (.int .u64 x.t) ∧ w'.cell? ⟨w.heap.size, 1, none⟩ = some (.int .u32 x.r) ∧ w'.cell? ⟨w.heap.size, 2, none⟩ = some (.int .u32 x.v) ∧ w'.cell? ⟨w.heap.size, 3, none⟩ = some (.int .i64 x.i) ∧ w'.cell? ⟨w.heap.size, 4, none⟩ = some (.int .u64 x.u) ∧ w'.cell? ⟨w.heap.size, 5, none⟩ = some (.int .u32 x.s) ∧ w'.cell? ⟨w.heap.size, 6, none⟩ = some (.int .u32 x.y)) (by kernel_rfl) HXz.out (fun hHeld => ?_)
    refine tH 0 ?_
    try simp only [tdy]
    refine tH 1 ?_
    try simp only [tdy]
    refine tH 2 ?_
    try simp only [tdy]
    refine tH 3 ?_
    try simp only [tdy]
    refine tH 4 ?_
    try simp only [tdy]
    refine tH 6 ?_
    try simp only [tdy]
    refine wpAnyH_ready (rs := [5]) (by kernel_rfl) (by simp) ?_
    refine AllReadyH.cons rfl (fun K hK => ?_) AllReadyH.nil
    go_simp
    refine hK.out _ _ ?_ (fun hHeld => ?_)
    ·first | exact hHeld | exact HK1.out | exact HK2.out
    clear hK K
    try simp only [tdy]
    refine wpAnyH_ready (rs := [7]) (by kernel_rfl) (by simp) ?_
    refine AllReadyH.cons rfl (fun K hK => ?_) AllReadyH.nil
    go_simp
    refine (IH.out r' _ A' ms Bs HSZ.out (HC.out.2.2.below hSz3) (Dnodup_node HD1.out).2.2.2.1 (by have := HN1.out; omega) (HE1.out.below hSz3) HPR.out HHas.out HL1.out).mono ?_
    rintro e2 w3 ⟨rfl, hi2, hw2⟩
    have hof := Tr.Of.rem It.ahead x N r'
    have hg : g' ∉ (Tr.rem It.ahead N x r').blocks := fun hm => (Dnodup_node HD1.out).2.1 (hof.2 _ hm)
    have HT := hid (Dright_turned HINN.out.1 HINN.out.2 (HC.out.1.below hSz3) (HC.out.2.1.below hSz3) (HC.out.2.2.below hSz3) (HE1.out.below hSz3) HD1.out hi2 hw2 hg)
    have HND := hid (Dnodup_right (r' := Tr.rem It.ahead N x r') HD1.out (hof.1 (Dnodup_node HD1.out).2.2.2.1) (fun j hj => Or.inl (hof.2 j hj)))
    have HOF := hid hof
    have HLEN : Hid ((Tr.rem It.ahead N x r').list.length ≤ r'.list.length) := hid (Has.len HL1.out (Tr.rem_main It.ahead x N r' A' ms Bs HSZ.out HPR.out HHas.out HL1.out).1)
    have HTX := hid ((HX2.out.below hSz3).chg hw2 (fun hm => HBL.out (HPM.out.mem_iff.1 (by simp [Tr.blocks, hm]))))
    have hxg : g' ≠ w.heap.size := fun e => HBL.out (HPM.out.mem_iff.1 (by simp [Tr.blocks, e]))
    have HTF : Hid (∀ v, Cs (w3.setCell ⟨g', 15, none⟩ v) w.heap.size x.cells) := hid (fun v => HTX.out.far hxg _ _)
    have HBZ := hid hSz3
    clear hi2 hw2 hof hg hSz3 hxg q0
    have q2 := HT.out.1.nd3
    have q3 := HT.out.1.ndf3
    have HEQ2 : Hid (Tr.rem It.ahead (N + 1) x (Tr.node g c (Tr.node h true a z b) y r) = Tr.balance (.node g' c' l' y' (Tr.rem It.ahead N x r'))) := HEQ
    clear HEQ HEQr HEQh HGO
    generalize Tr.rem It.ahead N x r' = L' at *
    obtain ⟨u, hu⟩ := ptr_form L'
    have HU := hid hu
    rw [hu]
    clear hu
    have HK1 : Hid (Th w3 w.heap.size x) := hid HTX.out.th7
    have HK2 : Hid (Th (w3.setCell ⟨g', 15, none⟩ (.pointer u)) w.heap.size x) := hid (HTF.out _).th7
    refine hK.out _ _ ?_ (fun hHeld => ?_)
    ·first | exact hHeld | exact HK1.out | exact HK2.out
    clear hK K
    try simp only [tdy]
    refine tH 8 ?_
    try simp only [tdy]
    refine tH 9 ?_
    try simp only [tdy]
    refine wpAnyH_ready (rs := [10]) (by kernel_rfl) (by simp) ?_
    refine AllReadyH.cons rfl (fun K hK => ?_) AllReadyH.nil
    go_simp
    refine hK.out _ _ ?_ (fun hHeld => ?_)
    ·first | exact hHeld | exact HK1.out | exact HK2.out
    clear hK K
    try simp only [tdy]
    refine wpAnyH_done (by kernel_rfl) ?_ _
    clear hHeld
    have HW : Hid (∃ W, W = w3.setCell ⟨g', 15, none⟩ (.pointer u) ∧ DSt W (.node g' c' l' y' L') ∧ DEnv W th rt n ∧ Chg (g' :: r'.blocks) w5.drew W) := hid ⟨_, rfl, by rw [← HU.out]; exact HT.out.2.1, by rw [← HU.out]; exact HT.out.2.2.1, by rw [← HU.out]; exact HT.out.2.2.2⟩
    obtain ⟨W, hW, HF⟩ := HW
    rw [← hW]
    clear hW q2 q3
    have HF := hid HF
    go_wp2_with fail
    refine (Dt.balance g' c' l' L' y' th rt n W HF.out.1 HND.out (by have := HN1.out; have := HLEN.out; simp only [Tr.list, List.length_append, List.length_cons]; omega) HF.out.2.1).mono ?_
    rintro e3 w4 ⟨rfl, hi3, hw3⟩
    have HI3 := hid hi3
    have HW3 := hid hw3
    clear hi3 hw3
    go_wp2_with fail
    go_ret
    refine ⟨by rw [HEQ2.out]; rfl, by rw [HEQ2.out]; exact HI3.out, ((HW1.out.onD HBZ.out).trans HF.out.2.2 (fun j hj => Or.inl (HPM.out.mem_iff.1 ?_))).trans HW3.out (fun j hj => Or.inl (HPM.out.mem_iff.1 ?_))⟩
    ·rcases List.mem_cons.1 hj with rfl | h1
     ·simp [Tr.blocks]
     ·simp [Tr.blocks, h1]
    ·simp only [Tr.blocks, List.mem_cons, List.mem_append] at hj ⊢
     exact hj.imp id (Or.imp id (HOF.out.2 j))
   | false =>
    obtain ⟨⟨k', k1, k2⟩, q1, q2⟩ := HGO.out.2.2.2.2 hx
    have HK := hid (And.intro k1 k2)
    have HEQ := hid (HEQh.out HGO.out.1 hx)
    clear q1 q2 hx k1 k2
    have HNR : Hid (r' ≠ .nil) := hid (by intro e; have := HK.out.2; rw [e] at this; simp [Tr.lend] at this)
    have z5 := HC.out.1.nd3
    go_wp2_with fail
    refine (Dt.least r' _ HC.out.2.2 HNR.out y').mono ?_
    rintro e w6 ⟨rfl, hb⟩
    have HLI2 := hid (HC.out.2.2.least y' HNR.out)
    replace HC := hid (And.intro (HC.out.1.below hb) (And.intro (HC.out.2.1.below hb) (HC.out.2.2.below hb)))
    replace HE1 := hid (HE1.out.below hb)
    replace HW1 := hid (HW1.out.onD hb)
    clear hb z5
    obtain ⟨y9, hy9⟩ : ∃ y9, r'.least y' = y9 := ⟨_, rfl⟩
    rw [hy9] at HLI2 ⊢
    simp only [hy9] at HEQ
    clear hy9
    have hth := HC.out.1.thereT
    have HPUT : Hid (∀ W, W = w6.setCells g' 0 y9.cells → Cs W g' (nd y9 A (ptr l') (ptr r') c') ∧ DIn W l' ∧ DIn W r' ∧ DEnv W th rt n ∧ Chg [g'] w6 W) := hid (fun W hW => by
     have hnl : DNl w6 g' := HC.out.1.dnl
     have hc6 : Chg [g'] w6 W := by rw [hW]; exact Chg.sets _ _ (Chg.refl _ _) (Or.inl (by simp))
     have hF : ∀ j ∈ [g'], DNl w6 j := fun j hj => by simp at hj; subst hj; exact hnl
     refine ⟨by rw [hW]; exact HC.out.1.putT y9, HC.out.2.1.chg hc6 hF (fun j hj => by simp; rintro rfl; exact (Dnodup_node HD1.out).1 hj), HC.out.2.2.chg hc6 hF (fun j hj => by simp; rintro rfl; exact (Dnodup_node HD1.out).2.1 hj), HE1.out.chg hc6 hF, hc6⟩)
    go_wp2_with (first | ((with_reducible refine wpList_put_it 35 infoItem rfl (.tmp 76) (.tmp 74) rfl g' 0 y9 hth ?rj1 ?rj2 ?rj3); (case rj1 => rfl); (case rj2 => rfl); (intro W2 hW2); (have HC2 := hid (HPUT.out W2 hW2)); (clear hW2 hth); (have z3 := HC2.out.1.nd3)) | fail)
    refine (Dt.removeLeast th rt n N r' _ k' HSZ.out HC2.out.2.2.1 (Dnodup_node HD1.out).2.2.2.1 (by have := HN1.out; omega) HC2.out.2.2.2.1 HK.out.1 HK.out.2).mono ?_
    rintro e2 w3 ⟨rfl, hi2, hw2⟩
    have hof := Tr.Of.remL N r'
    have hg : g' ∉ (Tr.remL N r').blocks := fun hm => (Dnodup_node HD1.out).2.1 (hof.2 _ hm)
    have HDy : Hid ((Tr.node g' c' l' y9 r').blocks.Nodup) := hid (by have := HD1.out; simpa [Tr.blocks] using this)
    have HT := hid (Dright_turned (y := y9) HINN.out.1 HLI2.out HC2.out.1 HC2.out.2.1 HC2.out.2.2.1 HC2.out.2.2.2.1 HDy.out hi2 hw2 hg)
    have HND := hid (Dnodup_right (r' := Tr.remL N r') HDy.out (hof.1 (Dnodup_node HD1.out).2.2.2.1) (fun j hj => Or.inl (hof.2 j hj)))
    have HOF := hid hof
    have HLEN : Hid ((Tr.remL N r').list.length ≤ r'.list.length) := hid (by rw [((Tr.remL_main N r' HSZ.out) k' HK.out.1 HK.out.2).2.2]; simp)
    clear hi2 hw2 hof hg z3
    have q2 := HT.out.1.nd3
    have q3 := HT.out.1.ndf3
    have HEQ2 : Hid (Tr.rem It.ahead (N + 1) x (Tr.node g c (Tr.node h true a z b) y r) = Tr.balance (.node g' c' l' y9 (Tr.remL N r'))) := HEQ
    clear HEQ HEQr HEQh HGO
    generalize Tr.remL N r' = L' at *
    obtain ⟨u, hu⟩ := ptr_form L'
    have HU := hid hu
    rw [hu]
    clear hu
    go_wp2_with fail
    have HW : Hid (∃ W, W = w3.setCell ⟨g', 15, none⟩ (.pointer u) ∧ DSt W (.node g' c' l' y9 L') ∧ DEnv W th rt n ∧ Chg (g' :: r'.blocks) W2 W) := hid ⟨_, rfl, by rw [← HU.out]; exact HT.out.2.1, by rw [← HU.out]; exact HT.out.2.2.1, by rw [← HU.out]; exact HT.out.2.2.2⟩
    obtain ⟨W, hW, HF⟩ := HW
    rw [← hW]
    clear hW q2 q3
    have HF := hid HF
    refine (Dt.balance g' c' l' L' y9 th rt n W HF.out.1 HND.out (by have := HN1.out; have := HLEN.out; simp only [Tr.list, List.length_append, List.length_cons]; omega) HF.out.2.1).mono ?_
    rintro e3 w4 ⟨rfl, hi3, hw3⟩
    have HI3 := hid hi3
    have HW3 := hid hw3
    clear hi3 hw3
    go_wp2_with fail
    go_ret
    refine ⟨by rw [HEQ2.out]; rfl, by rw [HEQ2.out]; exact HI3.out, ((HW1.out.trans HC2.out.2.2.2.2 (fun j hj => Or.inl (HPM.out.mem_iff.1 (by simp at hj; subst hj; simp [Tr.blocks])))).trans HF.out.2.2 (fun j hj => Or.inl (HPM.out.mem_iff.1 ?_))).trans HW3.out (fun j hj => Or.inl (HPM.out.mem_iff.1 ?_))⟩
    ·rcases List.mem_cons.1 hj with rfl | h1
     ·simp [Tr.blocks]
     ·simp [Tr.blocks, h1]
    ·simp only [Tr.blocks, List.mem_cons, List.mem_append] at hj ⊢
     exact hj.imp id (Or.imp id (HOF.out.2 j))
theorem Dt.remove (th : Nat) (rt : Value) (n : Int) (x : It) (hx : x.In) (N : Nat) : RemIH th rt n x N := by
 induction N with
 | zero =>
  intro t w A m B hs _ _ _ _ hp _ _
  have := Tr.ne_of_Pre hp
  cases t with
  | nil => exact absurd rfl this
  | node g c l y r => simp only [Tr.size] at hs; omega
 | succ N ih =>
  intro t w As ms Bs hs hi hd hn he hp hh hli
  cases t with
  | nil => exact absurd rfl (Tr.ne_of_Pre hp)
  | node g c l y r =>
   simp only [ptr_node]
   cases hlt : It.ahead x y with
   | true => exact Dt.rem_left th rt n x hx N ih g c l y r hlt w As ms Bs hs hi hd hn he hp hh hli
   | false =>
    cases hlr : l.red with
    | false => exact Dt.rem_right0 th rt n x hx N ih g c l y r hlt hlr w As ms Bs hs hi hd hn he hp hh hli
    | true =>
     cases l with
     | nil => simp [Tr.red] at hlr
     | node h d a z b =>
      simp only [Tr.red] at hlr
      subst hlr
      exact Dt.rem_right1 th rt n x hx N ih g c h a z b y r hlt w As ms Bs hs hi hd hn he hp hh hli
end


section
open Go.RowKit
def DDel (x : It) (t : Tr It) (th : Nat) (w : World) (e : Ending) (w' : World) : Prop := e = .returned (.bool true) ∧ DTreeAt w' th ((Tr.rem It.ahead t.size x t).paint false) ∧ Chg (th :: t.blocks) w w'
set_option maxRecDepth 100000 in
set_option maxHeartbeats 4000000 in
theorem Dt.delete (th : Nat) (t : Tr It) (x : It) (hx : x.In) (w : World) (A : List It) (m : It) (B : List It) (h : DTreeAt w th t) (hn : t.list.length ≤ 900000) (hh : Tr.has It.ahead x t = true) (hp : Tr.Pre It.ahead x t) (hs : Tr.Has It.ahead x A m B) (hl : t.list = A ++ m :: B) :
  Calls Tryz.prog 12 #[.pointer (some ⟨th, 0, none⟩), x.val] w (DDel x t th w) := by
 have hb0 := (Below.refl w.heap.size w).alloc (Nat.le_refl _) (.cells #[.int .u64 x.t, .int .u32 x.r, .int .u32 x.v, .int .i64 x.i, .int .u64 x.u, .int .u32 x.s, .int .u32 x.y] 35)
 have HT := hid (h.below hb0)
 have HB0 := hid hb0
 have HX0 : Hid (Th (w.alloc (.cells #[.int .u64 x.t, .int .u32 x.r, .int .u32 x.v, .int .i64 x.i, .int .u64 x.u, .int .u32 x.s, .int .u32 x.y] 35)) w.heap.size x) := hid (Cs.new7 w _ x).th7
 have HXI := hid hx
 have HTN : Hid (∀ g ∈ th :: t.blocks, g < w.heap.size) := hid (fun g hg => by
  rcases List.mem_cons.1 hg with rfl | h1
  ·obtain ⟨_, _, t0, _⟩ := h.1; exact t0.lt
  ·exact (h.2.1.nl g h1).lt)
 have HH := hid hh
 have HN := hid hn
 have HPR := hid hp
 have HHAS := hid hs
 have HLI := hid hl
 clear h hh hx hb0 hn hp hs hl
 unfold It.val
 go_enter Tryz.func12, Tryz.ntmps12
 go_wp2_with fail
 refine (Dt.has th t x HXI.out _ HT.out).mono ?_
 rintro e w1 ⟨rfl, hb⟩
 rw [HH.out]
 have HT1 := hid (HT.out.below hb)
 have HX1 := hid (HX0.out.below hb)
 have HB := hid (below_on HB0.out hb)
 have HBd := hid (below_on HB.out (Below.refl _ w1).drew)
 have HT1d := hid (HT1.out.below (Below.refl _ w1).drew)
 have HXd := hid (HX1.out.below (Below.refl _ w1).drew)
 obtain ⟨e3, e3f, _, _⟩ := HT1d.out.1.at3
 obtain ⟨u0, hu0⟩ := ptr_form t
 rw [hu0] at e3
 clear hb
 go_wp2_with fail
 refine wp_region_held_drew (S := fun w' => w'.cell? ⟨w.heap.size, 0, none⟩ = some (.int .u64 x.t) ∧ w'.cell? ⟨w.heap.size, 1, none⟩ = some (.int .u32 x.r) ∧ w'.cell? ⟨w.heap.size, 2, none⟩ = some (.int .u32 x.v) ∧ w'.cell? ⟨w.heap.size, 3, none⟩ = some (.int .i64 x.i) ∧ w'.cell? ⟨w.heap.size, 4, none⟩ = some (.int .u64 x.u) ∧ w'.cell? ⟨w.heap.size, 5, none⟩ = some (.int .u32 x.s) ∧ w'.cell? ⟨w.heap.size, 6, none⟩ = some (.int .u32 x.y)) (by kernel_rfl) HXd.out (fun hHeld => ?_)
 refine tH 0 ?_
 try simp only [tdy]
 refine tH 1 ?_
 try simp only [tdy]
 refine tH 2 ?_
 try simp only [tdy]
 refine tH 3 ?_
 try simp only [tdy]
 refine tH 4 ?_
 try simp only [tdy]
 refine tH 6 ?_
 try simp only [tdy]
 refine wpAnyH_ready (rs := [5]) (by kernel_rfl) (by simp) ?_
 refine AllReadyH.cons rfl (fun K hK => ?_) AllReadyH.nil
 go_simp
 refine hK.out _ _ ?_ (fun hHeld => ?_)
 ·first | exact hHeld | exact HK1.out | exact HK2.out
 clear hK K
 try simp only [tdy]
 refine wpAnyH_ready (rs := [7]) (by kernel_rfl) (by simp) ?_
 refine AllReadyH.cons rfl (fun K hK => ?_) AllReadyH.nil
 go_simp
 have hrem := Dt.remove th (ptr t) t.list.length x HXI.out t.size t _ A m B (Nat.le_refl _) HT1d.out.2.1 HT1d.out.2.2 HN.out HT1d.out.1 HPR.out HHAS.out HLI.out
 rw [hu0] at hrem
 refine hrem.mono ?_
 clear hrem
 rintro e w2 ⟨rfl, hi, hw⟩
 have HE2 := hid (HT1d.out.1.chg hw HT1d.out.2.1.nl)
 have HOF := hid (Tr.Of.rem It.ahead x t.size t)
 have HLEN : Hid ((Tr.rem It.ahead t.size x t).list.length + 1 = t.list.length) := hid (by
  rw [(Tr.rem_main It.ahead x t.size t A m B (Nat.le_refl _) HPR.out HHAS.out HLI.out).1, HLI.out]; simp; omega)
 have HI := hid hi
 have HW := hid hw
 have hxb : w.heap.size ∉ t.blocks := fun hm => Nat.lt_irrefl _ (HTN.out _ (by simp [hm]))
 have hxt : th ≠ w.heap.size := fun e => Nat.lt_irrefl _ (HTN.out w.heap.size (by simp [e]))
 have HTX := hid (HXd.out.chg hw hxb)
 have HX : Hid (∀ w', DTreeAt w' th ((Tr.rem It.ahead t.size x t).paint false) → Chg (th :: t.blocks) w w' → DDel x t th w (.returned (.bool true)) w') := hid (fun w' h1 h2 => ⟨rfl, h1, h2⟩)
 clear hxb hi hw e3 e3f
 have HLE1 : Hid ((1 : Int) ≤ t.list.length ∧ (t.list.length : Int) ≤ 900000) := hid (by have := HLEN.out; have := HN.out; omega)
 generalize Tr.rem It.ahead t.size x t = T at *
 obtain ⟨u, hu⟩ := ptr_form T
 have HU := hid hu
 rw [hu]
 clear hu
 obtain ⟨_, _, t0, _⟩ := HE2.out
 have q3 := t0.at3
 have q3f := t0.fr3
 have q4 := t0.at4
 have q4f := t0.fr4
 clear t0
 have HK1 : Hid (Th w2 w.heap.size x) := hid HTX.out
 have HK2 : Hid (Th (w2.setCell ⟨th, 3, none⟩ (.pointer u)) w.heap.size x) := hid (HTX.out.far hxt _ _)
 clear hxt
 refine hK.out _ _ ?_ (fun hHeld => ?_)
 ·first | exact hHeld | exact HK1.out | exact HK2.out
 clear hK K
 try simp only [tdy]
 refine tH 8 ?_
 try simp only [tdy]
 refine tH 9 ?_
 try simp only [tdy]
 refine wpAnyH_ready (rs := [10]) (by kernel_rfl) (by simp) ?_
 refine AllReadyH.cons rfl (fun K hK => ?_) AllReadyH.nil
 go_simp
 refine hK.out _ _ ?_ (fun hHeld => ?_)
 ·first | exact hHeld | exact HK1.out | exact HK2.out
 clear hK K
 try simp only [tdy]
 refine wpAnyH_done (by kernel_rfl) ?_ _
 clear hHeld
 obtain ⟨hlen, hmax⟩ := HLE1.out
 cases T with
 | nil =>
  have hu := HU.out
  simp only [ptr_nil] at hu
  injection hu with hu
  subst hu
  have HW3 : Hid (∃ W, W = (w2.setCell ⟨th, 3, none⟩ (.pointer none)).setCell ⟨th, 4, none⟩ (.int .i64 (t.list.length - 1)) ∧
    DEnv W th (.pointer none) (t.list.length - 1) ∧ Chg (th :: t.blocks) w W) := hid (by
   have e1 := HE2.out.root (.pointer none)
   have c1 : Chg (th :: t.blocks) w1.drew w2 := HW.out.mono (fun j hj => by simp [hj])
   have c2 := (c1.set (g := th) (Or.inl (by simp)) 3 (.pointer none)).set (g := th) (Or.inl (by simp)) 4 (.int .i64 (t.list.length - 1))
   exact ⟨_, rfl, e1.size _, (Chg.below HBd.out).trans c2 (fun j hj => Or.inl hj)⟩)
  go_wp2_with fail
  obtain ⟨W, hW, HF⟩ := HW3
  rw [← hW]
  go_ret
  refine HX.out W ⟨?_, trivial, by simp [Tr.paint, Tr.blocks]⟩ HF.2
  have h1 := HF.1
  have h2 : ((Tr.paint false (.nil : Tr It)).list.length : Int) = t.list.length - 1 := by have := HLEN.out; simp [Tr.list, Tr.paint] at this ⊢; omega
  rw [h2]
  exact h1
 | node g c l y r =>
  have hu := HU.out
  simp only [ptr_node] at hu
  injection hu with hu
  subst hu
  have hne : th ≠ g := fun e => by
   obtain ⟨f, a, k', hk⟩ := HE2.out.hd
   obtain ⟨⟨v, _, hc⟩, _⟩ := HI.out
   rw [e, hc.th.1] at hk; injection hk with hk; cases hk
  have hne' : g ≠ th := Ne.symm hne
  have HND := hid (HOF.out.1 HT1.out.2.2)
  have HW3 : Hid (∃ W, W = ((w2.setCell ⟨th, 3, none⟩ (.pointer (some ⟨g, 0, none⟩))).setCell ⟨g, 16, none⟩ (.bool false)).setCell ⟨th, 4, none⟩ (.int .i64 (t.list.length - 1)) ∧
    DEnv W th (.pointer (some ⟨g, 0, none⟩)) (t.list.length - 1) ∧ DIn W (.node g false l y r) ∧ Chg (th :: t.blocks) w W) := hid (by
   have e1 := HE2.out.root (.pointer (some ⟨g, 0, none⟩))
   have i1 := HI.out.farT HE2.out.hd 3 (.pointer (some ⟨g, 0, none⟩))
   have hd := Dnodup_node HND.out
   have hn1 : DNl (w2.setCell ⟨th, 3, none⟩ (.pointer (some ⟨g, 0, none⟩))) g := i1.nl g (by simp [Tr.blocks])
   have e2 := e1.chg (F := [g]) ((Chg.refl _ _).set (g := g) (Or.inl (by simp)) 16 (.bool false)) (fun j hj => by simp at hj; subst hj; exact hn1)
   have i2 := i1.paint (d := false) ⟨hd.1, hd.2.1⟩
   have hgk : g ∈ t.blocks := HOF.out.2 g (by simp [Tr.blocks])
   have c1 : Chg (th :: t.blocks) w1.drew w2 := HW.out.mono (fun j hj => by simp [hj])
   have c2 := ((c1.set (g := th) (Or.inl (by simp)) 3 (.pointer (some ⟨g, 0, none⟩))).set (g := g) (Or.inl (by simp [hgk])) 16 (.bool false)).set (g := th) (Or.inl (by simp)) 4 (.int .i64 (t.list.length - 1))
   exact ⟨_, rfl, e2.size _, i2.farT e2.hd _ _, (Chg.below HBd.out).trans c2 (fun j hj => Or.inl hj)⟩)
  obtain ⟨⟨v, _, hc⟩, _⟩ := HI.out
  have c4 := hc.nd4
  have c4f := hc.ndf4
  clear hc
  go_wp2_with fail
  obtain ⟨W, hW, HF⟩ := HW3
  rw [← hW]
  go_ret
  refine HX.out W ⟨?_, HF.2.1, ?_⟩ HF.2.2
  ·have h1 := HF.1
   have h2 : ((Tr.paint false (.node g c l y r)).list.length : Int) = t.list.length - 1 := by rw [Tr.list_paint]; have := HLEN.out; omega
   rw [h2]
   exact h1
  ·rw [Tr.blocks_paint]; exact HND.out
end

end Go.Proofs.YtbcepkfdlaioaaaGreat

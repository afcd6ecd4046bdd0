/- Texts of QueueBack's proof, together. -/
import Derived.Test.YtjndmmcjobbcbaaGreatDoorQueueBackZ22
import Derived.Test.YtjndmmcjobbcbaaGreatDoorOrdG
namespace Go.Proofs.YtjndmmcjobbcbaaGreatDoor

section
open Go.RowKit
theorem Chg.onD {F : List Nat} {a b c : World} (h : Chg F a b) (hb : Below b.heap.size b c) : Chg F a c := h.trans (Chg.below (F := []) hb) (by simp)
theorem DIn.thing {w : World} {g : Nat} {c : Bool} {l r : Tr It} {y : It} (h : DIn w (.node g c l y r)) : y.In := by
  obtain ⟨⟨v, hv, _⟩, _⟩ := h
  exact hv.2.2
theorem DIn.least {w : World} (d : It) : ∀ {t : Tr It}, DIn w t → t ≠ .nil → (t.least d).In := by
  intro t
  induction t with
  | nil => intro _ h; exact absurd rfl h
  | node g c l y r ihl _ =>
    intro h _
    cases l with
    | nil => exact h.thing
    | node gl cl ll yl rl => exact ihl h.2.1 (by simp)
theorem DIn.node {w : World} {g : Nat} {c : Bool} {l r : Tr It} {y : It} (h : DIn w (.node g c l y r)) : ∃ A, Cs w g (nd y A (ptr l) (ptr r) c) := by
  obtain ⟨⟨v, _, hc⟩, _⟩ := h
  exact ⟨v, hc⟩
def RemIH (th : Nat) (rt : Value) (n : Int) (x : It) (N : Nat) : Prop := ∀ (t : Tr It) (w : World) (A : List It) (m : It) (B : List It), t.size ≤ N → DIn w t → t.blocks.Nodup → t.list.length ≤ 900000 → DEnv w th rt n → Tr.Pre It.ahead x t → Tr.Has It.ahead x A m B → t.list = A ++ m :: B →
    Calls Tryz.prog 171 #[.pointer (some ⟨th, 0, none⟩), ptr t, x.val] w (DTurned (Tr.rem It.ahead N x t) t.blocks w)
theorem Dt.rem_left (th : Nat) (rt : Value) (n : Int) (x : It) (hx : x.In) (N : Nat) (ih : RemIH th rt n x N) (g : Nat) (c : Bool) (l : Tr It) (y : It) (r : Tr It) (hlt : It.ahead x y = true) (w : World) (As : List It) (ms : It) (Bs : List It) (hs : (Tr.node g c l y r).size ≤ N + 1) (hi : DIn w (Tr.node g c l y r)) (hd : (Tr.node g c l y r).blocks.Nodup) (hn : (Tr.node g c l y r).list.length ≤ 900000) (he : DEnv w th rt n) (hp : Tr.Pre It.ahead x (Tr.node g c l y r)) (hh : Tr.Has It.ahead x As ms Bs) (hli : (Tr.node g c l y r).list = As ++ ms :: Bs) :
    Calls Tryz.prog 171 #[.pointer (some ⟨th, 0, none⟩), .pointer (some ⟨g, 0, none⟩), x.val] w (DTurned (Tr.rem It.ahead (N + 1) x (Tr.node g c l y r)) (Tr.node g c l y r).blocks w) := by
  have hal := (Below.refl w.heap.size w).alloc (Nat.le_refl _) (.cells #[.int .u64 x.t, .int .u32 x.r, .int .u32 x.v, .int .i64 x.i, .int .u64 x.u, .int .u32 x.s, .int .u32 x.y] 29)
  have IH := hid ih
  have HI := hid (hi.below hal)
  have HE := hid (he.below hal)
  have HXC : Hid (Cs (w.alloc (.cells #[.int .u64 x.t, .int .u32 x.r, .int .u32 x.v, .int .i64 x.i, .int .u64 x.u, .int .u32 x.s, .int .u32 x.y] 29)) w.heap.size x.cells) := hid (Cs.new7 w 29 x)
  have HBW := hid hal
  have HBL : Hid (w.heap.size ∉ (Tr.node g c l y r).blocks) := hid (fun hm => Nat.lt_irrefl _ (hi.nl _ hm).lt)
  have HX := hid hx
  have HYI := hid hi.thing
  have HD := hid hd
  have HN := hid hn
  have HP := hid hp
  have HH := hid hh
  have HLI := hid hli
  have HS := hid hs
  have HLT := hid hlt
  obtain ⟨hln, hrn, hpre, hlend, B', hl1, hl2⟩ := Tr.go_left hp hh hli hlt
  have HG := hid (And.intro hln (And.intro hrn (And.intro hpre (And.intro hlend (And.intro hl1 hl2)))))
  have HEQ : Hid (Tr.rem It.ahead (N + 1) x (Tr.node g c l y r) = Tr.balance ((Tr.node g c l y r).lendLeft.setLeft (Tr.rem It.ahead N x (Tr.node g c l y r).lendLeft.left))) := hid (Tr.rem_left hlt)
  have HSZ : Hid ((Tr.node g c l y r).lendLeft.left.size ≤ N) := hid (by
    have := Tr.size_left_lt _ (Tr.ne_nil_of_list (Tr.list_lendLeft (Tr.node g c l y r)) (by simp))
    rw [Tr.size_of_list (Tr.list_lendLeft (Tr.node g c l y r))] at this
    omega)
  have HNE := hid (Tr.ne_nil_of_list (Tr.list_lendLeft (Tr.node g c l y r)) (by simp))
  have HPM := hid (Tr.perm_lendLeft (Tr.node g c l y r))
  have HLL := hid (Tr.list_lendLeft (Tr.node g c l y r))
  clear hln hrn hpre hlend hl1 hl2 hlt
  clear ih hi hd hn he hp hh hli hs hal hx
  unfold It.val
  go_enter Tryz.func171, Tryz.ntmps171
  go_upto_region 1 with fail
  generalize (w.alloc (.cells #[.int .u64 x.t, .int .u32 x.r, .int .u32 x.v, .int .i64 x.i, .int .u64 x.u, .int .u32 x.s, .int .u32 x.y] 29)) = W0 at HI HE HXC HBW ⊢
  have hsT1 : Stays (fun wx => Below W0.heap.size W0 wx) := fun _ _ h hb => below_on h hb
  refine wp_region_grow (S := fun wx => Below W0.heap.size W0 wx) 9 (by kernel_rfl) (hsT1 _ _ ((Below.refl W0.heap.size W0)) (Below.refl _ _).drew) ?_
  refine tE 0 (v := ?_) (hsT1) (fun _ h => h) rfl (by kernel_rfl) (by rfl) ?_ ?_
  rotate_left
  · intro wq hSw
    go_simp; try with_reducible rfl
  try simp only [tdy]
  refine tE 1 (v := ?_) (hsT1) (fun _ h => h) rfl (by kernel_rfl) (by rfl) ?_ ?_
  rotate_left
  · intro wq hSw
    go_simp; try with_reducible rfl
  try simp only [tdy]
  refine tE 2 (v := ?_) (hsT1) (fun _ h => h) rfl (by kernel_rfl) (by rfl) ?_ ?_
  rotate_left
  · intro wq hSw
    go_simp; try with_reducible rfl
  try simp only [tdy]
  refine tE 3 (v := ?_) (hsT1) (fun _ h => h) rfl (by kernel_rfl) (by rfl) ?_ ?_
  rotate_left
  · intro wq hSw
    obtain ⟨v, hc⟩ := (HI.out.below hSw).node
    obtain ⟨y0, y1, y2, y3, y4, y5, y6⟩ := hc.th
    obtain ⟨_, _, t0, _⟩ := HE.out.below hSw
    have e0 := t0.at0
    obtain ⟨x0, x1, x2, x3, x4, x5, x6⟩ := It.at x (HXC.out.below hSw)
    go_simp; try with_reducible rfl
  try simp only [tdy]
  refine tE 4 (v := ?_) (hsT1) (fun _ h => h) rfl (by kernel_rfl) (by rfl) ?_ ?_
  rotate_left
  · intro wq hSw
    obtain ⟨v, hc⟩ := (HI.out.below hSw).node
    obtain ⟨y0, y1, y2, y3, y4, y5, y6⟩ := hc.th
    obtain ⟨_, _, t0, _⟩ := HE.out.below hSw
    have e0 := t0.at0
    obtain ⟨x0, x1, x2, x3, x4, x5, x6⟩ := It.at x (HXC.out.below hSw)
    go_simp; try with_reducible rfl
  try simp only [tdy]
  refine tE 5 (v := ?_) (hsT1) (fun _ h => h) rfl (by kernel_rfl) (by rfl) ?_ ?_
  rotate_left
  · intro wq hSw
    go_simp; try with_reducible rfl
  try simp only [tdy]
  refine tE 6 (v := ?_) (hsT1) (fun _ h => h) rfl (by kernel_rfl) (by rfl) ?_ ?_
  rotate_left
  · intro wq hSw
    go_simp; try with_reducible rfl
  try simp only [tdy]
  refine tE 7 (v := ?_) (hsT1) (fun _ h => h) rfl (by kernel_rfl) (by rfl) ?_ ?_
  rotate_left
  · intro wq hSw
    go_simp; try with_reducible rfl
  try simp only [tdy]
  refine tE 8 (v := ?_) (hsT1) (fun _ h => h) rfl (by kernel_rfl) (by rfl) ?_ ?_
  rotate_left
  · intro wq hSw
    obtain ⟨v, hc⟩ := (HI.out.below hSw).node
    obtain ⟨y0, y1, y2, y3, y4, y5, y6⟩ := hc.th
    obtain ⟨_, _, t0, _⟩ := HE.out.below hSw
    have e0 := t0.at0
    obtain ⟨x0, x1, x2, x3, x4, x5, x6⟩ := It.at x (HXC.out.below hSw)
    go_simp; try with_reducible rfl
  try simp only [tdy]
  refine wpAnyE_rest (n := 9) rfl rfl (by kernel_rfl) (fun wz1 hSz1 => ?_)
  simp only [List.toList_toArray, List.drop_succ_cons, List.drop_zero]
  go_wp2_with fail
  refine (Item.ahead x y HX.out HYI.out _).mono ?_
  rintro e w1 ⟨rfl, hb⟩
  rw [HLT.out]
  have hB1 := below_on hSz1 hb
  replace HI := hid (HI.out.below hB1)
  replace HE := hid (HE.out.below hB1)
  replace HXC := hid (HXC.out.below hB1)
  replace HBW := hid (below_on HBW.out hB1)
  clear hb hB1 hSz1
  go_wp2_with fail
  refine (Dt.lendLeft g c l r y th rt n _ HI.out.st HD.out HN.out HE.out HG.out.1 HG.out.2.1).mono ?_
  rintro e1 w2 ⟨rfl, hs1, hw1⟩
  have HE1 := hid (HE.out.turned HI.out.st hw1)
  have HW1 := hid hw1
  have HS1 := hid hs1
  have HX2 := hid (HXC.out.chg hw1 HBL.out)
  clear hs1 hw1
  generalize (Tr.node g c l y r).lendLeft = T at *
  cases T with
  | nil => exact absurd rfl HNE.out
  | node g' c' l' y' r' =>
    obtain ⟨⟨A, m, kk, hc⟩, hl, hr⟩ := id HS1.out
    have HINN := hid (And.intro m kk)
    have HC := hid (And.intro hc (And.intro hl hr))
    have HD1 := hid (HPM.out.nodup_iff.2 HD.out)
    have HN1 := hid (show l'.list.length + (r'.list.length + 1) ≤ 900000 from by have := HN.out; rw [← HLL.out] at this; simpa [Tr.list] using this)
    clear hc hl hr
    simp only [ptr_node]
    obtain ⟨k', p1⟩ := HG.out.2.2.1
    have HP1 := hid (And.intro p1 HG.out.2.2.2.1)
    clear p1
    obtain ⟨q1, q2⟩ := HG.out.2.2.2.2
    have HHas : Hid (Tr.Has It.ahead x As ms B') := hid ⟨HH.out.low, fun b hb => HH.out.high b (by rw [q2]; simp [hb]), HH.out.mid⟩
    have HL1 := hid q1
    clear q1 q2
    have HPR : Hid (Tr.Pre It.ahead x l') := hid (Or.inl ⟨k', HP1.out.1, HP1.out.2⟩)
    go_wp2_with fail
    have q0 := HC.out.1.nd2
    have hSz3 := (Below.refl w2.heap.size w2).drew
    have HXz := hid ((HX2.out.below hSz3).th7)
    refine wp_region_held_drew (S := fun w' => w'.cell? ⟨w.heap.size, 0, none⟩ = some (.int .u64 x.t) ∧ w'.cell? ⟨w.heap.size, 1, none⟩ = some (.int .u32 x.r) ∧ w'.cell? ⟨w.heap.size, 2, none⟩ = some (.int .u32 x.v) ∧ w'.cell? ⟨w.heap.size, 3, none⟩ = some (.int .i64 x.i) ∧ w'.cell? ⟨w.heap.size, 4, none⟩ = some (.int .u64 x.u) ∧ w'.cell? ⟨w.heap.size, 5, none⟩ = some (.int .u32 x.s) ∧ w'.cell? ⟨w.heap.size, 6, none⟩ = some (.int .u32 x.y)) (by kernel_rfl) HXz.out (fun hHeld => ?_)
    refine wpAnyH_take (i := 0) (v := ?_) rfl (by kernel_rfl) (by kernel_rfl) (by kernel_rfl) (fun _ _ _ h => h) (Or.inl ⟨by rfl, ?_⟩) (by assumption) ?_
    rotate_left
    · intro w hSw; (try dsimp only at hSw); go_simp; (try with_reducible rfl)
    try simp only [tdy]
    refine wpAnyH_take (i := 1) (v := ?_) rfl (by kernel_rfl) (by kernel_rfl) (by kernel_rfl) (fun _ _ _ h => h) (Or.inl ⟨by rfl, ?_⟩) (by assumption) ?_
    rotate_left
    · intro w hSw; (try dsimp only at hSw); go_simp; (try with_reducible rfl)
    try simp only [tdy]
    refine wpAnyH_take (i := 2) (v := ?_) rfl (by kernel_rfl) (by kernel_rfl) (by kernel_rfl) (fun _ _ _ h => h) (Or.inl ⟨by rfl, ?_⟩) (by assumption) ?_
    rotate_left
    · intro w hSw; (try dsimp only at hSw); go_simp; (try with_reducible rfl)
    try simp only [tdy]
    refine wpAnyH_take (i := 3) (v := ?_) rfl (by kernel_rfl) (by kernel_rfl) (by kernel_rfl) (fun _ _ _ h => h) (Or.inl ⟨by rfl, ?_⟩) (by assumption) ?_
    rotate_left
    · intro w hSw; (try dsimp only at hSw); go_simp; (try with_reducible rfl)
    try simp only [tdy]
    refine wpAnyH_take (i := 4) (v := ?_) rfl (by kernel_rfl) (by kernel_rfl) (by kernel_rfl) (fun _ _ _ h => h) (Or.inl ⟨by rfl, ?_⟩) (by assumption) ?_
    rotate_left
    · intro w hSw; (try dsimp only at hSw); go_simp; (try with_reducible rfl)
    try simp only [tdy]
    refine wpAnyH_take (i := 6) (v := ?_) rfl (by kernel_rfl) (by kernel_rfl) (by kernel_rfl) (fun _ _ _ h => h) (Or.inl ⟨by rfl, ?_⟩) (by assumption) ?_
    rotate_left
    · intro w hSw; (try dsimp only at hSw); go_simp; (try with_reducible rfl)
    try simp only [tdy]
    refine wpAnyH_ready (rs := [5]) (by kernel_rfl) (by simp) ?_
    refine AllReadyH.cons rfl (fun K hK => ?_) AllReadyH.nil
    go_simp
    refine hK.out _ _ ?_ (fun hHeld => ?_)
    · first | exact hHeld | exact HK1.out | exact HK2.out
    clear hK K
    try simp only [tdy]
    refine wpAnyH_ready (rs := [7]) (by kernel_rfl) (by simp) ?_
    refine AllReadyH.cons rfl (fun K hK => ?_) AllReadyH.nil
    go_simp
    refine (IH.out l' _ As ms B' HSZ.out (HC.out.2.1.below hSz3) (Dnodup_node HD1.out).2.2.1 (by have := HN1.out; omega) (HE1.out.below hSz3) HPR.out HHas.out HL1.out).mono ?_
    rintro e2 w3 ⟨rfl, hi2, hw2⟩
    have hof := Tr.Of.rem It.ahead x N l'
    have hg : g' ∉ (Tr.rem It.ahead N x l').blocks := fun hm => (Dnodup_node HD1.out).1 (hof.2 _ hm)
    have HT := hid (Dleft_turned HINN.out.1 HINN.out.2 (HC.out.1.below hSz3) (HC.out.2.1.below hSz3) (HC.out.2.2.below hSz3) (HE1.out.below hSz3) HD1.out hi2 hw2 hg)
    have HND := hid (Dnodup_left (l' := Tr.rem It.ahead N x l') HD1.out (hof.1 (Dnodup_node HD1.out).2.2.1) (fun j hj => Or.inl (hof.2 j hj)))
    have HOF := hid hof
    have HLEN : Hid ((Tr.rem It.ahead N x l').list.length ≤ l'.list.length) := hid (Has.len HL1.out (Tr.rem_main It.ahead x N l' As ms B' HSZ.out HPR.out HHas.out HL1.out).1)
    have HTX := hid ((HX2.out.below hSz3).chg hw2 (fun hm => HBL.out (HPM.out.mem_iff.1 (by simp [Tr.blocks, hm]))))
    have hxg : g' ≠ w.heap.size := fun e => HBL.out (HPM.out.mem_iff.1 (by simp [Tr.blocks, e]))
    have HTF : Hid (∀ v, Cs (w3.setCell ⟨g', 14, none⟩ v) w.heap.size x.cells) := hid (fun v => HTX.out.far hxg _ _)
    have HBZ := hid hSz3
    clear hi2 hw2 hof hg hSz3 hxg q0
    have q2 := HT.out.1.nd2
    have q3 := HT.out.1.ndf2
    have HEQ2 : Hid (Tr.rem It.ahead (N + 1) x (Tr.node g c l y r) = Tr.balance (.node g' c' (Tr.rem It.ahead N x l') y' r')) := HEQ
    clear HEQ
    generalize Tr.rem It.ahead N x l' = L' at *
    obtain ⟨u, hu⟩ := ptr_form L'
    have HU := hid hu
    rw [hu]
    clear hu
    have HK1 : Hid (Th w3 w.heap.size x) := hid HTX.out.th7
    have HK2 : Hid (Th (w3.setCell ⟨g', 14, none⟩ (.pointer u)) w.heap.size x) := hid (HTF.out _).th7
    refine hK.out _ _ ?_ (fun hHeld => ?_)
    · first | exact hHeld | exact HK1.out | exact HK2.out
    clear hK K
    try simp only [tdy]
    refine wpAnyH_take (i := 8) (v := ?_) rfl (by kernel_rfl) (by kernel_rfl) (by kernel_rfl) (fun _ _ _ h => h) (Or.inl ⟨by rfl, ?_⟩) (by assumption) ?_
    rotate_left
    · intro w hSw; (try dsimp only at hSw); go_simp; (try with_reducible rfl)
    try simp only [tdy]
    refine wpAnyH_take (i := 9) (v := ?_) rfl (by kernel_rfl) (by kernel_rfl) (by kernel_rfl) (fun _ _ _ h => h) (Or.inl ⟨by rfl, ?_⟩) (by assumption) ?_
    rotate_left
    · intro w hSw; (try dsimp only at hSw); go_simp; (try with_reducible rfl)
    try simp only [tdy]
    refine wpAnyH_ready (rs := [10]) (by kernel_rfl) (by simp) ?_
    refine AllReadyH.cons rfl (fun K hK => ?_) AllReadyH.nil
    go_simp
    refine hK.out _ _ ?_ (fun hHeld => ?_)
    · first | exact hHeld | exact HK1.out | exact HK2.out
    clear hK K
    try simp only [tdy]
    refine wpAnyH_done (by kernel_rfl) ?_ _
    clear hHeld
    have HW : Hid (∃ W, W = w3.setCell ⟨g', 14, none⟩ (.pointer u) ∧ DSt W (.node g' c' L' y' r') ∧ DEnv W th rt n ∧ Chg (g' :: l'.blocks) w2.drew W) := hid ⟨_, rfl, by rw [← HU.out]; exact HT.out.2.1, by rw [← HU.out]; exact HT.out.2.2.1, by rw [← HU.out]; exact HT.out.2.2.2⟩
    obtain ⟨W, hW, HF⟩ := HW
    rw [← hW]
    clear hW q2 q3
    have HF := hid HF
    go_wp2_with fail
    refine (Dt.balance g' c' L' r' y' th rt n W HF.out.1 HND.out (by have := HN1.out; have := HLEN.out; simp only [Tr.list, List.length_append, List.length_cons]; omega) HF.out.2.1).mono ?_
    rintro e3 w4 ⟨rfl, hi3, hw3⟩
    have HI3 := hid hi3
    have HW3 := hid hw3
    clear hi3 hw3
    go_wp2_with fail
    go_ret
    refine ⟨by rw [HEQ2.out]; rfl, by rw [HEQ2.out]; exact HI3.out, ((((Chg.below HBW.out).trans HW1.out (fun j hj => Or.inl hj)).onD HBZ.out).trans HF.out.2.2 (fun j hj => Or.inl (HPM.out.mem_iff.1 ?_))).trans HW3.out (fun j hj => Or.inl (HPM.out.mem_iff.1 ?_))⟩
    · rcases List.mem_cons.1 hj with rfl | h1
      · simp [Tr.blocks]
      · simp [Tr.blocks, h1]
    · simp only [Tr.blocks, List.mem_cons, List.mem_append] at hj ⊢
      exact hj.imp id (Or.imp (HOF.out.2 j) id)
theorem Dt.rem_right0 (th : Nat) (rt : Value) (n : Int) (x : It) (hx : x.In) (N : Nat) (ih : RemIH th rt n x N) (g : Nat) (c : Bool) (l : Tr It) (y : It) (r : Tr It) (hlt : It.ahead x y = false) (hlr : l.red = false) (w : World) (As : List It) (ms : It) (Bs : List It) (hs : (Tr.node g c l y r).size ≤ N + 1) (hi : DIn w (Tr.node g c l y r)) (hd : (Tr.node g c l y r).blocks.Nodup) (hn : (Tr.node g c l y r).list.length ≤ 900000) (he : DEnv w th rt n) (hp : Tr.Pre It.ahead x (Tr.node g c l y r)) (hh : Tr.Has It.ahead x As ms Bs) (hli : (Tr.node g c l y r).list = As ++ ms :: Bs) :
    Calls Tryz.prog 171 #[.pointer (some ⟨th, 0, none⟩), .pointer (some ⟨g, 0, none⟩), x.val] w (DTurned (Tr.rem It.ahead (N + 1) x (Tr.node g c l y r)) (Tr.node g c l y r).blocks w) := by
  have hal := (Below.refl w.heap.size w).alloc (Nat.le_refl _) (.cells #[.int .u64 x.t, .int .u32 x.r, .int .u32 x.v, .int .i64 x.i, .int .u64 x.u, .int .u32 x.s, .int .u32 x.y] 29)
  have IH := hid ih
  have HI := hid (hi.below hal)
  have HE := hid (he.below hal)
  have HXC : Hid (Cs (w.alloc (.cells #[.int .u64 x.t, .int .u32 x.r, .int .u32 x.v, .int .i64 x.i, .int .u64 x.u, .int .u32 x.s, .int .u32 x.y] 29)) w.heap.size x.cells) := hid (Cs.new7 w 29 x)
  have HBW := hid hal
  have HBL : Hid (w.heap.size ∉ (Tr.node g c l y r).blocks) := hid (fun hm => Nat.lt_irrefl _ (hi.nl _ hm).lt)
  have HX := hid hx
  have HYI := hid hi.thing
  have HD := hid hd
  have HN := hid hn
  have HP := hid hp
  have HH := hid hh
  have HLI := hid hli
  have HS := hid hs
  have HLT := hid hlt
  have HG := hid (Tr.go_right hp hh hli hlt)
  have HPU := hid (Tr.perm_up1 (Tr.node g c l y r))
  have HLU := hid (Tr.list_up1 (Tr.node g c l y r))
  have HEQn : Hid ((Tr.node g c l y r).up1.right = .nil → Tr.rem It.ahead (N + 1) x (Tr.node g c l y r) = .nil) := hid (Tr.rem_nil hlt)
  have HEQr := hid (fun h1 h2 => Tr.rem_right (lt := It.ahead) (N := N) (x := x) (y := y) (g := g) (c := c) (l := l) (r := r) hlt h1 h2)
  have HEQh := hid (fun h1 h2 => Tr.rem_here (lt := It.ahead) (N := N) (x := x) (y := y) (g := g) (c := c) (l := l) (r := r) hlt h1 h2)
  have HLR := hid hlr
  rw [Tr.up1_same hlr] at HG HPU HLU HEQn HEQr HEQh
  clear hlt hlr
  clear ih hi hd hn he hp hh hli hs hal hx
  unfold It.val
  go_enter Tryz.func171, Tryz.ntmps171
  go_upto_region 1 with fail
  generalize (w.alloc (.cells #[.int .u64 x.t, .int .u32 x.r, .int .u32 x.v, .int .i64 x.i, .int .u64 x.u, .int .u32 x.s, .int .u32 x.y] 29)) = W0 at HI HE HXC HBW ⊢
  have hsT2 : Stays (fun wx => Below W0.heap.size W0 wx) := fun _ _ h hb => below_on h hb
  refine wp_region_grow (S := fun wx => Below W0.heap.size W0 wx) 9 (by kernel_rfl) (hsT2 _ _ ((Below.refl W0.heap.size W0)) (Below.refl _ _).drew) ?_
  refine tE 0 (v := ?_) (hsT2) (fun _ h => h) rfl (by kernel_rfl) (by rfl) ?_ ?_
  rotate_left
  · intro wq hSw
    go_simp; try with_reducible rfl
  try simp only [tdy]
  refine tE 1 (v := ?_) (hsT2) (fun _ h => h) rfl (by kernel_rfl) (by rfl) ?_ ?_
  rotate_left
  · intro wq hSw
    go_simp; try with_reducible rfl
  try simp only [tdy]
  refine tE 2 (v := ?_) (hsT2) (fun _ h => h) rfl (by kernel_rfl) (by rfl) ?_ ?_
  rotate_left
  · intro wq hSw
    go_simp; try with_reducible rfl
  try simp only [tdy]
  refine tE 3 (v := ?_) (hsT2) (fun _ h => h) rfl (by kernel_rfl) (by rfl) ?_ ?_
  rotate_left
  · intro wq hSw
    obtain ⟨v, hc⟩ := (HI.out.below hSw).node
    obtain ⟨y0, y1, y2, y3, y4, y5, y6⟩ := hc.th
    obtain ⟨_, _, t0, _⟩ := HE.out.below hSw
    have e0 := t0.at0
    obtain ⟨x0, x1, x2, x3, x4, x5, x6⟩ := It.at x (HXC.out.below hSw)
    go_simp; try with_reducible rfl
  try simp only [tdy]
  refine tE 4 (v := ?_) (hsT2) (fun _ h => h) rfl (by kernel_rfl) (by rfl) ?_ ?_
  rotate_left
  · intro wq hSw
    obtain ⟨v, hc⟩ := (HI.out.below hSw).node
    obtain ⟨y0, y1, y2, y3, y4, y5, y6⟩ := hc.th
    obtain ⟨_, _, t0, _⟩ := HE.out.below hSw
    have e0 := t0.at0
    obtain ⟨x0, x1, x2, x3, x4, x5, x6⟩ := It.at x (HXC.out.below hSw)
    go_simp; try with_reducible rfl
  try simp only [tdy]
  refine tE 5 (v := ?_) (hsT2) (fun _ h => h) rfl (by kernel_rfl) (by rfl) ?_ ?_
  rotate_left
  · intro wq hSw
    go_simp; try with_reducible rfl
  try simp only [tdy]
  refine tE 6 (v := ?_) (hsT2) (fun _ h => h) rfl (by kernel_rfl) (by rfl) ?_ ?_
  rotate_left
  · intro wq hSw
    go_simp; try with_reducible rfl
  try simp only [tdy]
  refine tE 7 (v := ?_) (hsT2) (fun _ h => h) rfl (by kernel_rfl) (by rfl) ?_ ?_
  rotate_left
  · intro wq hSw
    go_simp; try with_reducible rfl
  try simp only [tdy]
  refine tE 8 (v := ?_) (hsT2) (fun _ h => h) rfl (by kernel_rfl) (by rfl) ?_ ?_
  rotate_left
  · intro wq hSw
    obtain ⟨v, hc⟩ := (HI.out.below hSw).node
    obtain ⟨y0, y1, y2, y3, y4, y5, y6⟩ := hc.th
    obtain ⟨_, _, t0, _⟩ := HE.out.below hSw
    have e0 := t0.at0
    obtain ⟨x0, x1, x2, x3, x4, x5, x6⟩ := It.at x (HXC.out.below hSw)
    go_simp; try with_reducible rfl
  try simp only [tdy]
  refine wpAnyE_rest (n := 9) rfl rfl (by kernel_rfl) (fun wz1 hSz1 => ?_)
  simp only [List.toList_toArray, List.drop_succ_cons, List.drop_zero]
  go_wp2_with fail
  refine (Item.ahead x y HX.out HYI.out _).mono ?_
  rintro e w1 ⟨rfl, hb⟩
  rw [HLT.out]
  have hB1 := below_on hSz1 hb
  replace HI := hid (HI.out.below hB1)
  replace HE := hid (HE.out.below hB1)
  replace HXC := hid (HXC.out.below hB1)
  replace HBW := hid (below_on HBW.out hB1)
  clear hb hB1 hSz1
  obtain ⟨v0, hc0⟩ := HI.out.node
  have c2 := hc0.nd2
  go_wp2_with fail
  refine (Dt.isRed l _ HI.out.2.1.st).mono ?_
  rintro e wi ⟨rfl, rfl⟩
  rw [HLR.out]
  clear c2 hc0
  have HSU := hid HI.out.st
  have HEU := HE
  have HXU := HXC
  have HWU : Hid (Chg (Tr.node g c l y r).blocks w w1) := hid (Chg.below HBW.out)
  obtain ⟨⟨A0, mm0, kk0, hc⟩, _, _⟩ := id HSU.out
  have z3 := hc.nd3
  clear hc mm0 kk0
  have HDU := hid (HPU.out.nodup_iff.2 HD.out)
  have HNU := hid (show (Tr.node g c l y r).list.length ≤ 900000 from by have := HN.out; rw [← (Eq.refl (Tr.node g c l y r).list)] at this; exact this)
  rcases HG.out with ⟨hrn, _⟩ | hgo
  · simp only [Tr.right_node] at hrn
    have HRN := hid hrn
    subst hrn
    simp only [ptr_nil] at z3
    go_wp2_with fail
    go_ret
    rw [HEQn.out rfl]
    exact ⟨rfl, trivial, HWU.out⟩
  · have HGO := hid hgo
    clear hgo HG HEQn
    have HRN := hid HGO.out.1
    simp only [Tr.right_node] at HRN
    have HSZ : Hid ((Tr.node g c l y r).lendRight.right.size ≤ N) := hid (by
      have := Tr.size_right_lt _ HGO.out.2.2.1
      rw [Tr.size_of_list (Tr.list_lendRight (Tr.node g c l y r)), Tr.size_of_list (Eq.refl (Tr.node g c l y r).list)] at this
      have := HS.out
      omega)
    have HPM := hid ((Tr.perm_lendRight (Tr.node g c l y r)).trans HPU.out)
    have HLL := hid ((Tr.list_lendRight (Tr.node g c l y r)).trans (Eq.refl (Tr.node g c l y r).list))
    obtain ⟨gr, cr, lr, xr, rr, hre⟩ : ∃ gl cl ll xl rl, r = .node gl cl ll xl rl := by
      cases hru : r with
      | nil => exact absurd hru HRN.out
      | node gl cl ll xl rl => exact ⟨_, _, _, _, _, rfl⟩
    have z4 := z3
    rw [hre] at z4
    simp only [ptr_node] at z4
    clear hre z3
    go_wp2_with fail
    refine (Dt.lendRight g c l r y th rt n _ HSU.out HDU.out HNU.out HEU.out HRN.out HGO.out.2.1).mono ?_
    rintro e1 w2 ⟨rfl, hs1, hw1⟩
    have HE1 := hid (HEU.out.turned HSU.out hw1)
    have HW1 := hid (HWU.out.trans hw1 (fun j hj => Or.inl (HPU.out.mem_iff.1 hj)))
    have HS1 := hid hs1
    have HX2 := hid (HXU.out.chg hw1 (fun hm => HBL.out (HPU.out.mem_iff.1 hm)))
    clear hs1 hw1 z4
    generalize (Tr.node g c l y r).lendRight = T at *
    cases T with
    | nil => exact absurd rfl HGO.out.2.2.1
    | node g' c' l' y' r' =>
      obtain ⟨⟨A, m, kk, hc⟩, hl, hr⟩ := id HS1.out
      have HINN := hid (And.intro m kk)
      have HC := hid (And.intro hc (And.intro hl hr))
      have HD1 := hid (HPM.out.nodup_iff.2 HD.out)
      have HN1 := hid (show l'.list.length + (r'.list.length + 1) ≤ 900000 from by have := HN.out; rw [← HLL.out] at this; simpa [Tr.list] using this)
      clear hc hl hr
      simp only [ptr_node]
      simp only [Tr.right_node, Tr.left_node, Tr.thing_node] at HGO HEQr HEQh HSZ
      go_wp2_with fail
      have hsT3 : Stays (fun wx => Below w2.heap.size w2 wx) := fun _ _ h hb => below_on h hb
      refine wp_region_grow (S := fun wx => Below w2.heap.size w2 wx) 9 (by kernel_rfl) (hsT3 _ _ ((Below.refl w2.heap.size w2)) (Below.refl _ _).drew) ?_
      refine tE 0 (v := ?_) (hsT3) (fun _ h => h) rfl (by kernel_rfl) (by rfl) ?_ ?_
      rotate_left
      · intro wq hSw
        go_simp; try with_reducible rfl
      try simp only [tdy]
      refine tE 1 (v := ?_) (hsT3) (fun _ h => h) rfl (by kernel_rfl) (by rfl) ?_ ?_
      rotate_left
      · intro wq hSw
        go_simp; try with_reducible rfl
      try simp only [tdy]
      refine tE 2 (v := ?_) (hsT3) (fun _ h => h) rfl (by kernel_rfl) (by rfl) ?_ ?_
      rotate_left
      · intro wq hSw
        go_simp; try with_reducible rfl
      try simp only [tdy]
      refine tE 3 (v := ?_) (hsT3) (fun _ h => h) rfl (by kernel_rfl) (by rfl) ?_ ?_
      rotate_left
      · intro wq hSw
        obtain ⟨y0, y1, y2, y3, y4, y5, y6⟩ := (HC.out.1.below hSw).th
        obtain ⟨_, _, t0, _⟩ := HE1.out.below hSw
        have e0 := t0.at0
        obtain ⟨x0, x1, x2, x3, x4, x5, x6⟩ := It.at x (HX2.out.below hSw)
        go_simp; try with_reducible rfl
      try simp only [tdy]
      refine tE 4 (v := ?_) (hsT3) (fun _ h => h) rfl (by kernel_rfl) (by rfl) ?_ ?_
      rotate_left
      · intro wq hSw
        go_simp; try with_reducible rfl
      try simp only [tdy]
      refine tE 5 (v := ?_) (hsT3) (fun _ h => h) rfl (by kernel_rfl) (by rfl) ?_ ?_
      rotate_left
      · intro wq hSw
        go_simp; try with_reducible rfl
      try simp only [tdy]
      refine tE 6 (v := ?_) (hsT3) (fun _ h => h) rfl (by kernel_rfl) (by rfl) ?_ ?_
      rotate_left
      · intro wq hSw
        go_simp; try with_reducible rfl
      try simp only [tdy]
      refine tE 7 (v := ?_) (hsT3) (fun _ h => h) rfl (by kernel_rfl) (by rfl) ?_ ?_
      rotate_left
      · intro wq hSw
        obtain ⟨y0, y1, y2, y3, y4, y5, y6⟩ := (HC.out.1.below hSw).th
        obtain ⟨_, _, t0, _⟩ := HE1.out.below hSw
        have e0 := t0.at0
        obtain ⟨x0, x1, x2, x3, x4, x5, x6⟩ := It.at x (HX2.out.below hSw)
        go_simp; try with_reducible rfl
      try simp only [tdy]
      refine tE 8 (v := ?_) (hsT3) (fun _ h => h) rfl (by kernel_rfl) (by rfl) ?_ ?_
      rotate_left
      · intro wq hSw
        obtain ⟨y0, y1, y2, y3, y4, y5, y6⟩ := (HC.out.1.below hSw).th
        obtain ⟨_, _, t0, _⟩ := HE1.out.below hSw
        have e0 := t0.at0
        obtain ⟨x0, x1, x2, x3, x4, x5, x6⟩ := It.at x (HX2.out.below hSw)
        go_simp; try with_reducible rfl
      try simp only [tdy]
      refine wpAnyE_rest (n := 9) rfl rfl (by kernel_rfl) (fun wz2 hSz2 => ?_)
      simp only [List.toList_toArray, List.drop_succ_cons, List.drop_zero]
      go_wp2_with fail
      refine (Item.ahead y' x HINN.out.2 HX.out _).mono ?_
      rintro e w5 ⟨rfl, hb⟩
      have hB5 := below_on hSz2 hb
      replace HC := hid (And.intro (HC.out.1.below hB5) (And.intro (HC.out.2.1.below hB5) (HC.out.2.2.below hB5)))
      replace HE1 := hid (HE1.out.below hB5)
      replace HX2 := hid (HX2.out.below hB5)
      replace HW1 := hid (HW1.out.onD hB5)
      clear hb hSz2 hB5 HS1
      cases hx : It.ahead y' x with
      | true =>
        obtain ⟨hpr, A', q1, q2⟩ := HGO.out.2.2.2.1 hx
        have HHas : Hid (Tr.Has It.ahead x A' ms Bs) := hid ⟨fun a ha => HH.out.low a (by rw [q2]; simp [ha]), HH.out.high, HH.out.mid⟩
        have HPR : Hid (Tr.Pre It.ahead x r') := hid (by
          rcases hpr with h1 | h1
          · exact Or.inl h1
          · exact Or.inr (Or.inl h1))
        have HL1 := hid q1
        have HEQ := hid (HEQr.out HGO.out.1 hx)
        clear q1 q2 hx hpr
        go_wp2_with fail
        have q0 := HC.out.1.nd3
        have hSz3 := (Below.refl w5.heap.size w5).drew
        have HXz := hid ((HX2.out.below hSz3).th7)
        refine wp_region_held_drew (S := fun w' => w'.cell? ⟨w.heap.size, 0, none⟩ = some (.int .u64 x.t) ∧ w'.cell? ⟨w.heap.size, 1, none⟩ = some (.int .u32 x.r) ∧ w'.cell? ⟨w.heap.size, 2, none⟩ = some (.int .u32 x.v) ∧ w'.cell? ⟨w.heap.size, 3, none⟩ = some (.int .i64 x.i) ∧ w'.cell? ⟨w.heap.size, 4, none⟩ = some (.int .u64 x.u) ∧ w'.cell? ⟨w.heap.size, 5, none⟩ = some (.int .u32 x.s) ∧ w'.cell? ⟨w.heap.size, 6, none⟩ = some (.int .u32 x.y)) (by kernel_rfl) HXz.out (fun hHeld => ?_)
        refine wpAnyH_take (i := 0) (v := ?_) rfl (by kernel_rfl) (by kernel_rfl) (by kernel_rfl) (fun _ _ _ h => h) (Or.inl ⟨by rfl, ?_⟩) (by assumption) ?_
        rotate_left
        · intro w hSw; (try dsimp only at hSw); go_simp; (try with_reducible rfl)
        try simp only [tdy]
        refine wpAnyH_take (i := 1) (v := ?_) rfl (by kernel_rfl) (by kernel_rfl) (by kernel_rfl) (fun _ _ _ h => h) (Or.inl ⟨by rfl, ?_⟩) (by assumption) ?_
        rotate_left
        · intro w hSw; (try dsimp only at hSw); go_simp; (try with_reducible rfl)
        try simp only [tdy]
        refine wpAnyH_take (i := 2) (v := ?_) rfl (by kernel_rfl) (by kernel_rfl) (by kernel_rfl) (fun _ _ _ h => h) (Or.inl ⟨by rfl, ?_⟩) (by assumption) ?_
        rotate_left
        · intro w hSw; (try dsimp only at hSw); go_simp; (try with_reducible rfl)
        try simp only [tdy]
        refine wpAnyH_take (i := 3) (v := ?_) rfl (by kernel_rfl) (by kernel_rfl) (by kernel_rfl) (fun _ _ _ h => h) (Or.inl ⟨by rfl, ?_⟩) (by assumption) ?_
        rotate_left
        · intro w hSw; (try dsimp only at hSw); go_simp; (try with_reducible rfl)
        try simp only [tdy]
        refine wpAnyH_take (i := 4) (v := ?_) rfl (by kernel_rfl) (by kernel_rfl) (by kernel_rfl) (fun _ _ _ h => h) (Or.inl ⟨by rfl, ?_⟩) (by assumption) ?_
        rotate_left
        · intro w hSw; (try dsimp only at hSw); go_simp; (try with_reducible rfl)
        try simp only [tdy]
        refine wpAnyH_take (i := 6) (v := ?_) rfl (by kernel_rfl) (by kernel_rfl) (by kernel_rfl) (fun _ _ _ h => h) (Or.inl ⟨by rfl, ?_⟩) (by assumption) ?_
        rotate_left
        · intro w hSw; (try dsimp only at hSw); go_simp; (try with_reducible rfl)
        try simp only [tdy]
        refine wpAnyH_ready (rs := [5]) (by kernel_rfl) (by simp) ?_
        refine AllReadyH.cons rfl (fun K hK => ?_) AllReadyH.nil
        go_simp
        refine hK.out _ _ ?_ (fun hHeld => ?_)
        · first | exact hHeld | exact HK1.out | exact HK2.out
        clear hK K
        try simp only [tdy]
        refine wpAnyH_ready (rs := [7]) (by kernel_rfl) (by simp) ?_
        refine AllReadyH.cons rfl (fun K hK => ?_) AllReadyH.nil
        go_simp
        refine (IH.out r' _ A' ms Bs HSZ.out (HC.out.2.2.below hSz3) (Dnodup_node HD1.out).2.2.2.1 (by have := HN1.out; omega) (HE1.out.below hSz3) HPR.out HHas.out HL1.out).mono ?_
        rintro e2 w3 ⟨rfl, hi2, hw2⟩
        have hof := Tr.Of.rem It.ahead x N r'
        have hg : g' ∉ (Tr.rem It.ahead N x r').blocks := fun hm => (Dnodup_node HD1.out).2.1 (hof.2 _ hm)
        have HT := hid (Dright_turned HINN.out.1 HINN.out.2 (HC.out.1.below hSz3) (HC.out.2.1.below hSz3) (HC.out.2.2.below hSz3) (HE1.out.below hSz3) HD1.out hi2 hw2 hg)
        have HND := hid (Dnodup_right (r' := Tr.rem It.ahead N x r') HD1.out (hof.1 (Dnodup_node HD1.out).2.2.2.1) (fun j hj => Or.inl (hof.2 j hj)))
        have HOF := hid hof
        have HLEN : Hid ((Tr.rem It.ahead N x r').list.length ≤ r'.list.length) := hid (Has.len HL1.out (Tr.rem_main It.ahead x N r' A' ms Bs HSZ.out HPR.out HHas.out HL1.out).1)
        have HTX := hid ((HX2.out.below hSz3).chg hw2 (fun hm => HBL.out (HPM.out.mem_iff.1 (by simp [Tr.blocks, hm]))))
        have hxg : g' ≠ w.heap.size := fun e => HBL.out (HPM.out.mem_iff.1 (by simp [Tr.blocks, e]))
        have HTF : Hid (∀ v, Cs (w3.setCell ⟨g', 15, none⟩ v) w.heap.size x.cells) := hid (fun v => HTX.out.far hxg _ _)
        have HBZ := hid hSz3
        clear hi2 hw2 hof hg hSz3 hxg q0
        have q2 := HT.out.1.nd3
        have q3 := HT.out.1.ndf3
        have HEQ2 : Hid (Tr.rem It.ahead (N + 1) x (Tr.node g c l y r) = Tr.balance (.node g' c' l' y' (Tr.rem It.ahead N x r'))) := HEQ
        clear HEQ HEQr HEQh HGO
        generalize Tr.rem It.ahead N x r' = L' at *
        obtain ⟨u, hu⟩ := ptr_form L'
        have HU := hid hu
        rw [hu]
        clear hu
        have HK1 : Hid (Th w3 w.heap.size x) := hid HTX.out.th7
        have HK2 : Hid (Th (w3.setCell ⟨g', 15, none⟩ (.pointer u)) w.heap.size x) := hid (HTF.out _).th7
        refine hK.out _ _ ?_ (fun hHeld => ?_)
        · first | exact hHeld | exact HK1.out | exact HK2.out
        clear hK K
        try simp only [tdy]
        refine wpAnyH_take (i := 8) (v := ?_) rfl (by kernel_rfl) (by kernel_rfl) (by kernel_rfl) (fun _ _ _ h => h) (Or.inl ⟨by rfl, ?_⟩) (by assumption) ?_
        rotate_left
        · intro w hSw; (try dsimp only at hSw); go_simp; (try with_reducible rfl)
        try simp only [tdy]
        refine wpAnyH_take (i := 9) (v := ?_) rfl (by kernel_rfl) (by kernel_rfl) (by kernel_rfl) (fun _ _ _ h => h) (Or.inl ⟨by rfl, ?_⟩) (by assumption) ?_
        rotate_left
        · intro w hSw; (try dsimp only at hSw); go_simp; (try with_reducible rfl)
        try simp only [tdy]
        refine wpAnyH_ready (rs := [10]) (by kernel_rfl) (by simp) ?_
        refine AllReadyH.cons rfl (fun K hK => ?_) AllReadyH.nil
        go_simp
        refine hK.out _ _ ?_ (fun hHeld => ?_)
        · first | exact hHeld | exact HK1.out | exact HK2.out
        clear hK K
        try simp only [tdy]
        refine wpAnyH_done (by kernel_rfl) ?_ _
        clear hHeld
        have HW : Hid (∃ W, W = w3.setCell ⟨g', 15, none⟩ (.pointer u) ∧ DSt W (.node g' c' l' y' L') ∧ DEnv W th rt n ∧ Chg (g' :: r'.blocks) w5.drew W) := hid ⟨_, rfl, by rw [← HU.out]; exact HT.out.2.1, by rw [← HU.out]; exact HT.out.2.2.1, by rw [← HU.out]; exact HT.out.2.2.2⟩
        obtain ⟨W, hW, HF⟩ := HW
        rw [← hW]
        clear hW q2 q3
        have HF := hid HF
        go_wp2_with fail
        refine (Dt.balance g' c' l' L' y' th rt n W HF.out.1 HND.out (by have := HN1.out; have := HLEN.out; simp only [Tr.list, List.length_append, List.length_cons]; omega) HF.out.2.1).mono ?_
        rintro e3 w4 ⟨rfl, hi3, hw3⟩
        have HI3 := hid hi3
        have HW3 := hid hw3
        clear hi3 hw3
        go_wp2_with fail
        go_ret
        refine ⟨by rw [HEQ2.out]; rfl, by rw [HEQ2.out]; exact HI3.out, ((HW1.out.onD HBZ.out).trans HF.out.2.2 (fun j hj => Or.inl (HPM.out.mem_iff.1 ?_))).trans HW3.out (fun j hj => Or.inl (HPM.out.mem_iff.1 ?_))⟩
        · rcases List.mem_cons.1 hj with rfl | h1
          · simp [Tr.blocks]
          · simp [Tr.blocks, h1]
        · simp only [Tr.blocks, List.mem_cons, List.mem_append] at hj ⊢
          exact hj.imp id (Or.imp id (HOF.out.2 j))
      | false =>
        obtain ⟨⟨k', k1, k2⟩, q1, q2⟩ := HGO.out.2.2.2.2 hx
        have HK := hid (And.intro k1 k2)
        have HEQ := hid (HEQh.out HGO.out.1 hx)
        clear q1 q2 hx k1 k2
        have HNR : Hid (r' ≠ .nil) := hid (by intro e; have := HK.out.2; rw [e] at this; simp [Tr.lend] at this)
        have z5 := HC.out.1.nd3
        go_wp2_with fail
        refine (Dt.least r' _ HC.out.2.2 HNR.out y').mono ?_
        rintro e w6 ⟨rfl, hb⟩
        have HLI2 := hid (HC.out.2.2.least y' HNR.out)
        replace HC := hid (And.intro (HC.out.1.below hb) (And.intro (HC.out.2.1.below hb) (HC.out.2.2.below hb)))
        replace HE1 := hid (HE1.out.below hb)
        replace HW1 := hid (HW1.out.onD hb)
        clear hb z5
        obtain ⟨y9, hy9⟩ : ∃ y9, r'.least y' = y9 := ⟨_, rfl⟩
        rw [hy9] at HLI2 ⊢
        simp only [hy9] at HEQ
        clear hy9
        have hth := HC.out.1.thereT
        have HPUT : Hid (∀ W, W = w6.setCells g' 0 y9.cells → Cs W g' (nd y9 A (ptr l') (ptr r') c') ∧ DIn W l' ∧ DIn W r' ∧ DEnv W th rt n ∧ Chg [g'] w6 W) := hid (fun W hW => by
          have hnl : DNl w6 g' := HC.out.1.dnl
          have hc6 : Chg [g'] w6 W := by rw [hW]; exact Chg.sets _ _ (Chg.refl _ _) (Or.inl (by simp))
          have hF : ∀ j ∈ [g'], DNl w6 j := fun j hj => by simp at hj; subst hj; exact hnl
          refine ⟨by rw [hW]; exact HC.out.1.putT y9, HC.out.2.1.chg hc6 hF (fun j hj => by simp; rintro rfl; exact (Dnodup_node HD1.out).1 hj), HC.out.2.2.chg hc6 hF (fun j hj => by simp; rintro rfl; exact (Dnodup_node HD1.out).2.1 hj), HE1.out.chg hc6 hF, hc6⟩)
        go_wp2_with (first | ((with_reducible refine wpList_put_it 29 infoItem rfl (.tmp 76) (.tmp 74) rfl g' 0 y9 hth ?rj1 ?rj2 ?rj3); (case rj1 => rfl); (case rj2 => rfl); (intro W2 hW2); (have HC2 := hid (HPUT.out W2 hW2)); (clear hW2 hth); (have z3 := HC2.out.1.nd3)) | fail)
        refine (Dt.removeLeast th rt n N r' _ k' HSZ.out HC2.out.2.2.1 (Dnodup_node HD1.out).2.2.2.1 (by have := HN1.out; omega) HC2.out.2.2.2.1 HK.out.1 HK.out.2).mono ?_
        rintro e2 w3 ⟨rfl, hi2, hw2⟩
        have hof := Tr.Of.remL N r'
        have hg : g' ∉ (Tr.remL N r').blocks := fun hm => (Dnodup_node HD1.out).2.1 (hof.2 _ hm)
        have HDy : Hid ((Tr.node g' c' l' y9 r').blocks.Nodup) := hid (by have := HD1.out; simpa [Tr.blocks] using this)
        have HT := hid (Dright_turned (y := y9) HINN.out.1 HLI2.out HC2.out.1 HC2.out.2.1 HC2.out.2.2.1 HC2.out.2.2.2.1 HDy.out hi2 hw2 hg)
        have HND := hid (Dnodup_right (r' := Tr.remL N r') HDy.out (hof.1 (Dnodup_node HD1.out).2.2.2.1) (fun j hj => Or.inl (hof.2 j hj)))
        have HOF := hid hof
        have HLEN : Hid ((Tr.remL N r').list.length ≤ r'.list.length) := hid (by rw [((Tr.remL_main N r' HSZ.out) k' HK.out.1 HK.out.2).2.2]; simp)
        clear hi2 hw2 hof hg z3
        have q2 := HT.out.1.nd3
        have q3 := HT.out.1.ndf3
        have HEQ2 : Hid (Tr.rem It.ahead (N + 1) x (Tr.node g c l y r) = Tr.balance (.node g' c' l' y9 (Tr.remL N r'))) := HEQ
        clear HEQ HEQr HEQh HGO
        generalize Tr.remL N r' = L' at *
        obtain ⟨u, hu⟩ := ptr_form L'
        have HU := hid hu
        rw [hu]
        clear hu
        go_wp2_with fail
        have HW : Hid (∃ W, W = w3.setCell ⟨g', 15, none⟩ (.pointer u) ∧ DSt W (.node g' c' l' y9 L') ∧ DEnv W th rt n ∧ Chg (g' :: r'.blocks) W2 W) := hid ⟨_, rfl, by rw [← HU.out]; exact HT.out.2.1, by rw [← HU.out]; exact HT.out.2.2.1, by rw [← HU.out]; exact HT.out.2.2.2⟩
        obtain ⟨W, hW, HF⟩ := HW
        rw [← hW]
        clear hW q2 q3
        have HF := hid HF
        refine (Dt.balance g' c' l' L' y9 th rt n W HF.out.1 HND.out (by have := HN1.out; have := HLEN.out; simp only [Tr.list, List.length_append, List.length_cons]; omega) HF.out.2.1).mono ?_
        rintro e3 w4 ⟨rfl, hi3, hw3⟩
        have HI3 := hid hi3
        have HW3 := hid hw3
        clear hi3 hw3
        go_wp2_with fail
        go_ret
        refine ⟨by rw [HEQ2.out]; rfl, by rw [HEQ2.out]; exact HI3.out, ((HW1.out.trans HC2.out.2.2.2.2 (fun j hj => Or.inl (HPM.out.mem_iff.1 (by simp at hj; subst hj; simp [Tr.blocks])))).trans HF.out.2.2 (fun j hj => Or.inl (HPM.out.mem_iff.1 ?_))).trans HW3.out (fun j hj => Or.inl (HPM.out.mem_iff.1 ?_))⟩
        · rcases List.mem_cons.1 hj with rfl | h1
          · simp [Tr.blocks]
          · simp [Tr.blocks, h1]
        · simp only [Tr.blocks, List.mem_cons, List.mem_append] at hj ⊢
          exact hj.imp id (Or.imp id (HOF.out.2 j))
theorem Dt.rem_right1 (th : Nat) (rt : Value) (n : Int) (x : It) (hx : x.In) (N : Nat) (ih : RemIH th rt n x N) (g : Nat) (c : Bool) (h : Nat) (a : Tr It) (z : It) (b : Tr It) (y : It) (r : Tr It) (hlt : It.ahead x y = false) (w : World) (As : List It) (ms : It) (Bs : List It) (hs : (Tr.node g c (Tr.node h true a z b) y r).size ≤ N + 1) (hi : DIn w (Tr.node g c (Tr.node h true a z b) y r)) (hd : (Tr.node g c (Tr.node h true a z b) y r).blocks.Nodup) (hn : (Tr.node g c (Tr.node h true a z b) y r).list.length ≤ 900000) (he : DEnv w th rt n) (hp : Tr.Pre It.ahead x (Tr.node g c (Tr.node h true a z b) y r)) (hh : Tr.Has It.ahead x As ms Bs) (hli : (Tr.node g c (Tr.node h true a z b) y r).list = As ++ ms :: Bs) :
    Calls Tryz.prog 171 #[.pointer (some ⟨th, 0, none⟩), .pointer (some ⟨g, 0, none⟩), x.val] w (DTurned (Tr.rem It.ahead (N + 1) x (Tr.node g c (Tr.node h true a z b) y r)) (Tr.node g c (Tr.node h true a z b) y r).blocks w) := by
  have hal := (Below.refl w.heap.size w).alloc (Nat.le_refl _) (.cells #[.int .u64 x.t, .int .u32 x.r, .int .u32 x.v, .int .i64 x.i, .int .u64 x.u, .int .u32 x.s, .int .u32 x.y] 29)
  have IH := hid ih
  have HI := hid (hi.below hal)
  have HE := hid (he.below hal)
  have HXC : Hid (Cs (w.alloc (.cells #[.int .u64 x.t, .int .u32 x.r, .int .u32 x.v, .int .i64 x.i, .int .u64 x.u, .int .u32 x.s, .int .u32 x.y] 29)) w.heap.size x.cells) := hid (Cs.new7 w 29 x)
  have HBW := hid hal
  have HBL : Hid (w.heap.size ∉ (Tr.node g c (Tr.node h true a z b) y r).blocks) := hid (fun hm => Nat.lt_irrefl _ (hi.nl _ hm).lt)
  have HX := hid hx
  have HYI := hid hi.thing
  have HD := hid hd
  have HN := hid hn
  have HP := hid hp
  have HH := hid hh
  have HLI := hid hli
  have HS := hid hs
  have HLT := hid hlt
  have HG := hid (Tr.go_right hp hh hli hlt)
  have HPU := hid (Tr.perm_up1 (Tr.node g c (Tr.node h true a z b) y r))
  have HLU := hid (Tr.list_up1 (Tr.node g c (Tr.node h true a z b) y r))
  have HEQn : Hid ((Tr.node g c (Tr.node h true a z b) y r).up1.right = .nil → Tr.rem It.ahead (N + 1) x (Tr.node g c (Tr.node h true a z b) y r) = .nil) := hid (Tr.rem_nil hlt)
  have HEQr := hid (fun h1 h2 => Tr.rem_right (lt := It.ahead) (N := N) (x := x) (y := y) (g := g) (c := c) (l := (Tr.node h true a z b)) (r := r) hlt h1 h2)
  have HEQh := hid (fun h1 h2 => Tr.rem_here (lt := It.ahead) (N := N) (x := x) (y := y) (g := g) (c := c) (l := (Tr.node h true a z b)) (r := r) hlt h1 h2)
  rw [Tr.up1_red (show (Tr.node h true a z b).red = true from rfl)] at HG HPU HLU HEQn HEQr HEQh
  simp only [Tr.turnRight] at HG HPU HLU HEQn HEQr HEQh
  clear hlt
  clear ih hi hd hn he hp hh hli hs hal hx
  unfold It.val
  go_enter Tryz.func171, Tryz.ntmps171
  go_upto_region 1 with fail
  generalize (w.alloc (.cells #[.int .u64 x.t, .int .u32 x.r, .int .u32 x.v, .int .i64 x.i, .int .u64 x.u, .int .u32 x.s, .int .u32 x.y] 29)) = W0 at HI HE HXC HBW ⊢
  have hsT4 : Stays (fun wx => Below W0.heap.size W0 wx) := fun _ _ h hb => below_on h hb
  refine wp_region_grow (S := fun wx => Below W0.heap.size W0 wx) 9 (by kernel_rfl) (hsT4 _ _ ((Below.refl W0.heap.size W0)) (Below.refl _ _).drew) ?_
  refine tE 0 (v := ?_) (hsT4) (fun _ h => h) rfl (by kernel_rfl) (by rfl) ?_ ?_
  rotate_left
  · intro wq hSw
    go_simp; try with_reducible rfl
  try simp only [tdy]
  refine tE 1 (v := ?_) (hsT4) (fun _ h => h) rfl (by kernel_rfl) (by rfl) ?_ ?_
  rotate_left
  · intro wq hSw
    go_simp; try with_reducible rfl
  try simp only [tdy]
  refine tE 2 (v := ?_) (hsT4) (fun _ h => h) rfl (by kernel_rfl) (by rfl) ?_ ?_
  rotate_left
  · intro wq hSw
    go_simp; try with_reducible rfl
  try simp only [tdy]
  refine tE 3 (v := ?_) (hsT4) (fun _ h => h) rfl (by kernel_rfl) (by rfl) ?_ ?_
  rotate_left
  · intro wq hSw
    obtain ⟨v, hc⟩ := (HI.out.below hSw).node
    obtain ⟨y0, y1, y2, y3, y4, y5, y6⟩ := hc.th
    obtain ⟨_, _, t0, _⟩ := HE.out.below hSw
    have e0 := t0.at0
    obtain ⟨x0, x1, x2, x3, x4, x5, x6⟩ := It.at x (HXC.out.below hSw)
    go_simp; try with_reducible rfl
  try simp only [tdy]
  refine tE 4 (v := ?_) (hsT4) (fun _ h => h) rfl (by kernel_rfl) (by rfl) ?_ ?_
  rotate_left
  · intro wq hSw
    obtain ⟨v, hc⟩ := (HI.out.below hSw).node
    obtain ⟨y0, y1, y2, y3, y4, y5, y6⟩ := hc.th
    obtain ⟨_, _, t0, _⟩ := HE.out.below hSw
    have e0 := t0.at0
    obtain ⟨x0, x1, x2, x3, x4, x5, x6⟩ := It.at x (HXC.out.below hSw)
    go_simp; try with_reducible rfl
  try simp only [tdy]
  refine tE 5 (v := ?_) (hsT4) (fun _ h => h) rfl (by kernel_rfl) (by rfl) ?_ ?_
  rotate_left
  · intro wq hSw
    go_simp; try with_reducible rfl
  try simp only [tdy]
  refine tE 6 (v := ?_) (hsT4) (fun _ h => h) rfl (by kernel_rfl) (by rfl) ?_ ?_
  rotate_left
  · intro wq hSw
    go_simp; try with_reducible rfl
  try simp only [tdy]
  refine tE 7 (v := ?_) (hsT4) (fun _ h => h) rfl (by kernel_rfl) (by rfl) ?_ ?_
  rotate_left
  · intro wq hSw
    go_simp; try with_reducible rfl
  try simp only [tdy]
  refine tE 8 (v := ?_) (hsT4) (fun _ h => h) rfl (by kernel_rfl) (by rfl) ?_ ?_
  rotate_left
  · intro wq hSw
    obtain ⟨v, hc⟩ := (HI.out.below hSw).node
    obtain ⟨y0, y1, y2, y3, y4, y5, y6⟩ := hc.th
    obtain ⟨_, _, t0, _⟩ := HE.out.below hSw
    have e0 := t0.at0
    obtain ⟨x0, x1, x2, x3, x4, x5, x6⟩ := It.at x (HXC.out.below hSw)
    go_simp; try with_reducible rfl
  try simp only [tdy]
  refine wpAnyE_rest (n := 9) rfl rfl (by kernel_rfl) (fun wz1 hSz1 => ?_)
  simp only [List.toList_toArray, List.drop_succ_cons, List.drop_zero]
  go_wp2_with fail
  refine (Item.ahead x y HX.out HYI.out _).mono ?_
  rintro e w1 ⟨rfl, hb⟩
  rw [HLT.out]
  have hB1 := below_on hSz1 hb
  replace HI := hid (HI.out.below hB1)
  replace HE := hid (HE.out.below hB1)
  replace HXC := hid (HXC.out.below hB1)
  replace HBW := hid (below_on HBW.out hB1)
  clear hb hB1 hSz1
  obtain ⟨v0, hc0⟩ := HI.out.node
  have c2 := hc0.nd2
  simp only [ptr_node] at c2
  go_wp2_with fail
  refine (Dt.isRed (Tr.node h true a z b) _ HI.out.2.1.st).mono ?_
  rintro e wi ⟨rfl, rfl⟩
  simp only [Tr.red]
  clear c2 hc0
  go_wp2_with fail
  refine (Dt.turnRight th g h c true a b r y z rt n _ HI.out.st HD.out HN.out HE.out).mono ?_
  rintro e wu ⟨rfl, hsu, hwu⟩
  have HSU := hid hsu
  have HEU := hid (HE.out.turned HI.out.st hwu)
  have HXU := hid (HXC.out.chg hwu HBL.out)
  have HWU := hid ((Chg.below HBW.out).trans hwu (fun j hj => Or.inl hj))
  clear hsu hwu
  obtain ⟨⟨A0, mm0, kk0, hc⟩, _, _⟩ := id HSU.out
  have z3 := hc.nd3
  clear hc mm0 kk0
  have HDU := hid (HPU.out.nodup_iff.2 HD.out)
  have HNU := hid (show (Tr.node h c a z (Tr.node g true b y r)).list.length ≤ 900000 from by have := HN.out; rw [← HLU.out] at this; exact this)
  rcases HG.out with ⟨hrn, _⟩ | hgo
  · simp only [Tr.right_node] at hrn
    cases hrn
  · have HGO := hid hgo
    clear hgo HG HEQn
    have HRN := hid HGO.out.1
    simp only [Tr.right_node] at HRN
    have HSZ : Hid ((Tr.node h c a z (Tr.node g true b y r)).lendRight.right.size ≤ N) := hid (by
      have := Tr.size_right_lt _ HGO.out.2.2.1
      rw [Tr.size_of_list (Tr.list_lendRight (Tr.node h c a z (Tr.node g true b y r))), Tr.size_of_list HLU.out] at this
      have := HS.out
      omega)
    have HPM := hid ((Tr.perm_lendRight (Tr.node h c a z (Tr.node g true b y r))).trans HPU.out)
    have HLL := hid ((Tr.list_lendRight (Tr.node h c a z (Tr.node g true b y r))).trans HLU.out)
    have z4 := z3
    simp only [ptr_node] at z4
    clear z3
    go_wp2_with fail
    refine (Dt.lendRight h c a (Tr.node g true b y r) z th rt n _ HSU.out HDU.out HNU.out HEU.out HRN.out HGO.out.2.1).mono ?_
    rintro e1 w2 ⟨rfl, hs1, hw1⟩
    have HE1 := hid (HEU.out.turned HSU.out hw1)
    have HW1 := hid (HWU.out.trans hw1 (fun j hj => Or.inl (HPU.out.mem_iff.1 hj)))
    have HS1 := hid hs1
    have HX2 := hid (HXU.out.chg hw1 (fun hm => HBL.out (HPU.out.mem_iff.1 hm)))
    clear hs1 hw1 z4
    generalize (Tr.node h c a z (Tr.node g true b y r)).lendRight = T at *
    cases T with
    | nil => exact absurd rfl HGO.out.2.2.1
    | node g' c' l' y' r' =>
      obtain ⟨⟨A, m, kk, hc⟩, hl, hr⟩ := id HS1.out
      have HINN := hid (And.intro m kk)
      have HC := hid (And.intro hc (And.intro hl hr))
      have HD1 := hid (HPM.out.nodup_iff.2 HD.out)
      have HN1 := hid (show l'.list.length + (r'.list.length + 1) ≤ 900000 from by have := HN.out; rw [← HLL.out] at this; simpa [Tr.list] using this)
      clear hc hl hr
      simp only [ptr_node]
      simp only [Tr.right_node, Tr.left_node, Tr.thing_node] at HGO HEQr HEQh HSZ
      go_wp2_with fail
      have hsT5 : Stays (fun wx => Below w2.heap.size w2 wx) := fun _ _ h hb => below_on h hb
      refine wp_region_grow (S := fun wx => Below w2.heap.size w2 wx) 9 (by kernel_rfl) (hsT5 _ _ ((Below.refl w2.heap.size w2)) (Below.refl _ _).drew) ?_
      refine tE 0 (v := ?_) (hsT5) (fun _ h => h) rfl (by kernel_rfl) (by rfl) ?_ ?_
      rotate_left
      · intro wq hSw
        go_simp; try with_reducible rfl
      try simp only [tdy]
      refine tE 1 (v := ?_) (hsT5) (fun _ h => h) rfl (by kernel_rfl) (by rfl) ?_ ?_
      rotate_left
      · intro wq hSw
        go_simp; try with_reducible rfl
      try simp only [tdy]
      refine tE 2 (v := ?_) (hsT5) (fun _ h => h) rfl (by kernel_rfl) (by rfl) ?_ ?_
      rotate_left
      · intro wq hSw
        go_simp; try with_reducible rfl
      try simp only [tdy]
      refine tE 3 (v := ?_) (hsT5) (fun _ h => h) rfl (by kernel_rfl) (by rfl) ?_ ?_
      rotate_left
      · intro wq hSw
        obtain ⟨y0, y1, y2, y3, y4, y5, y6⟩ := (HC.out.1.below hSw).th
        obtain ⟨_, _, t0, _⟩ := HE1.out.below hSw
        have e0 := t0.at0
        obtain ⟨x0, x1, x2, x3, x4, x5, x6⟩ := It.at x (HX2.out.below hSw)
        go_simp; try with_reducible rfl
      try simp only [tdy]
      refine tE 4 (v := ?_) (hsT5) (fun _ h => h) rfl (by kernel_rfl) (by rfl) ?_ ?_
      rotate_left
      · intro wq hSw
        go_simp; try with_reducible rfl
      try simp only [tdy]
      refine tE 5 (v := ?_) (hsT5) (fun _ h => h) rfl (by kernel_rfl) (by rfl) ?_ ?_
      rotate_left
      · intro wq hSw
        go_simp; try with_reducible rfl
      try simp only [tdy]
      refine tE 6 (v := ?_) (hsT5) (fun _ h => h) rfl (by kernel_rfl) (by rfl) ?_ ?_
      rotate_left
      · intro wq hSw
        go_simp; try with_reducible rfl
      try simp only [tdy]
      refine tE 7 (v := ?_) (hsT5) (fun _ h => h) rfl (by kernel_rfl) (by rfl) ?_ ?_
      rotate_left
      · intro wq hSw
        obtain ⟨y0, y1, y2, y3, y4, y5, y6⟩ := (HC.out.1.below hSw).th
        obtain ⟨_, _, t0, _⟩ := HE1.out.below hSw
        have e0 := t0.at0
        obtain ⟨x0, x1, x2, x3, x4, x5, x6⟩ := It.at x (HX2.out.below hSw)
        go_simp; try with_reducible rfl
      try simp only [tdy]
      refine tE 8 (v := ?_) (hsT5) (fun _ h => h) rfl (by kernel_rfl) (by rfl) ?_ ?_
      rotate_left
      · intro wq hSw
        obtain ⟨y0, y1, y2, y3, y4, y5, y6⟩ := (HC.out.1.below hSw).th
        obtain ⟨_, _, t0, _⟩ := HE1.out.below hSw
        have e0 := t0.at0
        obtain ⟨x0, x1, x2, x3, x4, x5, x6⟩ := It.at x (HX2.out.below hSw)
        go_simp; try with_reducible rfl
      try simp only [tdy]
      refine wpAnyE_rest (n := 9) rfl rfl (by kernel_rfl) (fun wz2 hSz2 => ?_)
      simp only [List.toList_toArray, List.drop_succ_cons, List.drop_zero]
      go_wp2_with fail
      refine (Item.ahead y' x HINN.out.2 HX.out _).mono ?_
      rintro e w5 ⟨rfl, hb⟩
      have hB5 := below_on hSz2 hb
      replace HC := hid (And.intro (HC.out.1.below hB5) (And.intro (HC.out.2.1.below hB5) (HC.out.2.2.below hB5)))
      replace HE1 := hid (HE1.out.below hB5)
      replace HX2 := hid (HX2.out.below hB5)
      replace HW1 := hid (HW1.out.onD hB5)
      clear hb hSz2 hB5 HS1
      cases hx : It.ahead y' x with
      | true =>
        obtain ⟨hpr, A', q1, q2⟩ := HGO.out.2.2.2.1 hx
        have HHas : Hid (Tr.Has It.ahead x A' ms Bs) := hid ⟨fun a ha => HH.out.low a (by rw [q2]; simp [ha]), HH.out.high, HH.out.mid⟩
        have HPR : Hid (Tr.Pre It.ahead x r') := hid (by
          rcases hpr with h1 | h1
          · exact Or.inl h1
          · exact Or.inr (Or.inl h1))
        have HL1 := hid q1
        have HEQ := hid (HEQr.out HGO.out.1 hx)
        clear q1 q2 hx hpr
        go_wp2_with fail
        have q0 := HC.out.1.nd3
        have hSz3 := (Below.refl w5.heap.size w5).drew
        have HXz := hid ((HX2.out.below hSz3).th7)
        refine wp_region_held_drew (S := fun w' => w'.cell? ⟨w.heap.size, 0, none⟩ = some (.int .u64 x.t) ∧ w'.cell? ⟨w.heap.size, 1, none⟩ = some (.int .u32 x.r) ∧ w'.cell? ⟨w.heap.size, 2, none⟩ = some (.int .u32 x.v) ∧ w'.cell? ⟨w.heap.size, 3, none⟩ = some (.int .i64 x.i) ∧ w'.cell? ⟨w.heap.size, 4, none⟩ = some (.int .u64 x.u) ∧ w'.cell? ⟨w.heap.size, 5, none⟩ = some (.int .u32 x.s) ∧ w'.cell? ⟨w.heap.size, 6, none⟩ = some (.int .u32 x.y)) (by kernel_rfl) HXz.out (fun hHeld => ?_)
        refine wpAnyH_take (i := 0) (v := ?_) rfl (by kernel_rfl) (by kernel_rfl) (by kernel_rfl) (fun _ _ _ h => h) (Or.inl ⟨by rfl, ?_⟩) (by assumption) ?_
        rotate_left
        · intro w hSw; (try dsimp only at hSw); go_simp; (try with_reducible rfl)
        try simp only [tdy]
        refine wpAnyH_take (i := 1) (v := ?_) rfl (by kernel_rfl) (by kernel_rfl) (by kernel_rfl) (fun _ _ _ h => h) (Or.inl ⟨by rfl, ?_⟩) (by assumption) ?_
        rotate_left
        · intro w hSw; (try dsimp only at hSw); go_simp; (try with_reducible rfl)
        try simp only [tdy]
        refine wpAnyH_take (i := 2) (v := ?_) rfl (by kernel_rfl) (by kernel_rfl) (by kernel_rfl) (fun _ _ _ h => h) (Or.inl ⟨by rfl, ?_⟩) (by assumption) ?_
        rotate_left
        · intro w hSw; (try dsimp only at hSw); go_simp; (try with_reducible rfl)
        try simp only [tdy]
        refine wpAnyH_take (i := 3) (v := ?_) rfl (by kernel_rfl) (by kernel_rfl) (by kernel_rfl) (fun _ _ _ h => h) (Or.inl ⟨by rfl, ?_⟩) (by assumption) ?_
        rotate_left
        · intro w hSw; (try dsimp only at hSw); go_simp; (try with_reducible rfl)
        try simp only [tdy]
        refine wpAnyH_take (i := 4) (v := ?_) rfl (by kernel_rfl) (by kernel_rfl) (by kernel_rfl) (fun _ _ _ h => h) (Or.inl ⟨by rfl, ?_⟩) (by assumption) ?_
        rotate_left
        · intro w hSw; (try dsimp only at hSw); go_simp; (try with_reducible rfl)
        try simp only [tdy]
        refine wpAnyH_take (i := 6) (v := ?_) rfl (by kernel_rfl) (by kernel_rfl) (by kernel_rfl) (fun _ _ _ h => h) (Or.inl ⟨by rfl, ?_⟩) (by assumption) ?_
        rotate_left
        · intro w hSw; (try dsimp only at hSw); go_simp; (try with_reducible rfl)
        try simp only [tdy]
        refine wpAnyH_ready (rs := [5]) (by kernel_rfl) (by simp) ?_
        refine AllReadyH.cons rfl (fun K hK => ?_) AllReadyH.nil
        go_simp
        refine hK.out _ _ ?_ (fun hHeld => ?_)
        · first | exact hHeld | exact HK1.out | exact HK2.out
        clear hK K
        try simp only [tdy]
        refine wpAnyH_ready (rs := [7]) (by kernel_rfl) (by simp) ?_
        refine AllReadyH.cons rfl (fun K hK => ?_) AllReadyH.nil
        go_simp
        refine (IH.out r' _ A' ms Bs HSZ.out (HC.out.2.2.below hSz3) (Dnodup_node HD1.out).2.2.2.1 (by have := HN1.out; omega) (HE1.out.below hSz3) HPR.out HHas.out HL1.out).mono ?_
        rintro e2 w3 ⟨rfl, hi2, hw2⟩
        have hof := Tr.Of.rem It.ahead x N r'
        have hg : g' ∉ (Tr.rem It.ahead N x r').blocks := fun hm => (Dnodup_node HD1.out).2.1 (hof.2 _ hm)
        have HT := hid (Dright_turned HINN.out.1 HINN.out.2 (HC.out.1.below hSz3) (HC.out.2.1.below hSz3) (HC.out.2.2.below hSz3) (HE1.out.below hSz3) HD1.out hi2 hw2 hg)
        have HND := hid (Dnodup_right (r' := Tr.rem It.ahead N x r') HD1.out (hof.1 (Dnodup_node HD1.out).2.2.2.1) (fun j hj => Or.inl (hof.2 j hj)))
        have HOF := hid hof
        have HLEN : Hid ((Tr.rem It.ahead N x r').list.length ≤ r'.list.length) := hid (Has.len HL1.out (Tr.rem_main It.ahead x N r' A' ms Bs HSZ.out HPR.out HHas.out HL1.out).1)
        have HTX := hid ((HX2.out.below hSz3).chg hw2 (fun hm => HBL.out (HPM.out.mem_iff.1 (by simp [Tr.blocks, hm]))))
        have hxg : g' ≠ w.heap.size := fun e => HBL.out (HPM.out.mem_iff.1 (by simp [Tr.blocks, e]))
        have HTF : Hid (∀ v, Cs (w3.setCell ⟨g', 15, none⟩ v) w.heap.size x.cells) := hid (fun v => HTX.out.far hxg _ _)
        have HBZ := hid hSz3
        clear hi2 hw2 hof hg hSz3 hxg q0
        have q2 := HT.out.1.nd3
        have q3 := HT.out.1.ndf3
        have HEQ2 : Hid (Tr.rem It.ahead (N + 1) x (Tr.node g c (Tr.node h true a z b) y r) = Tr.balance (.node g' c' l' y' (Tr.rem It.ahead N x r'))) := HEQ
        clear HEQ HEQr HEQh HGO
        generalize Tr.rem It.ahead N x r' = L' at *
        obtain ⟨u, hu⟩ := ptr_form L'
        have HU := hid hu
        rw [hu]
        clear hu
        have HK1 : Hid (Th w3 w.heap.size x) := hid HTX.out.th7
        have HK2 : Hid (Th (w3.setCell ⟨g', 15, none⟩ (.pointer u)) w.heap.size x) := hid (HTF.out _).th7
        refine hK.out _ _ ?_ (fun hHeld => ?_)
        · first | exact hHeld | exact HK1.out | exact HK2.out
        clear hK K
        try simp only [tdy]
        refine wpAnyH_take (i := 8) (v := ?_) rfl (by kernel_rfl) (by kernel_rfl) (by kernel_rfl) (fun _ _ _ h => h) (Or.inl ⟨by rfl, ?_⟩) (by assumption) ?_
        rotate_left
        · intro w hSw; (try dsimp only at hSw); go_simp; (try with_reducible rfl)
        try simp only [tdy]
        refine wpAnyH_take (i := 9) (v := ?_) rfl (by kernel_rfl) (by kernel_rfl) (by kernel_rfl) (fun _ _ _ h => h) (Or.inl ⟨by rfl, ?_⟩) (by assumption) ?_
        rotate_left
        · intro w hSw; (try dsimp only at hSw); go_simp; (try with_reducible rfl)
        try simp only [tdy]
        refine wpAnyH_ready (rs := [10]) (by kernel_rfl) (by simp) ?_
        refine AllReadyH.cons rfl (fun K hK => ?_) AllReadyH.nil
        go_simp
        refine hK.out _ _ ?_ (fun hHeld => ?_)
        · first | exact hHeld | exact HK1.out | exact HK2.out
        clear hK K
        try simp only [tdy]
        refine wpAnyH_done (by kernel_rfl) ?_ _
        clear hHeld
        have HW : Hid (∃ W, W = w3.setCell ⟨g', 15, none⟩ (.pointer u) ∧ DSt W (.node g' c' l' y' L') ∧ DEnv W th rt n ∧ Chg (g' :: r'.blocks) w5.drew W) := hid ⟨_, rfl, by rw [← HU.out]; exact HT.out.2.1, by rw [← HU.out]; exact HT.out.2.2.1, by rw [← HU.out]; exact HT.out.2.2.2⟩
        obtain ⟨W, hW, HF⟩ := HW
        rw [← hW]
        clear hW q2 q3
        have HF := hid HF
        go_wp2_with fail
        refine (Dt.balance g' c' l' L' y' th rt n W HF.out.1 HND.out (by have := HN1.out; have := HLEN.out; simp only [Tr.list, List.length_append, List.length_cons]; omega) HF.out.2.1).mono ?_
        rintro e3 w4 ⟨rfl, hi3, hw3⟩
        have HI3 := hid hi3
        have HW3 := hid hw3
        clear hi3 hw3
        go_wp2_with fail
        go_ret
        refine ⟨by rw [HEQ2.out]; rfl, by rw [HEQ2.out]; exact HI3.out, ((HW1.out.onD HBZ.out).trans HF.out.2.2 (fun j hj => Or.inl (HPM.out.mem_iff.1 ?_))).trans HW3.out (fun j hj => Or.inl (HPM.out.mem_iff.1 ?_))⟩
        · rcases List.mem_cons.1 hj with rfl | h1
          · simp [Tr.blocks]
          · simp [Tr.blocks, h1]
        · simp only [Tr.blocks, List.mem_cons, List.mem_append] at hj ⊢
          exact hj.imp id (Or.imp id (HOF.out.2 j))
      | false =>
        obtain ⟨⟨k', k1, k2⟩, q1, q2⟩ := HGO.out.2.2.2.2 hx
        have HK := hid (And.intro k1 k2)
        have HEQ := hid (HEQh.out HGO.out.1 hx)
        clear q1 q2 hx k1 k2
        have HNR : Hid (r' ≠ .nil) := hid (by intro e; have := HK.out.2; rw [e] at this; simp [Tr.lend] at this)
        have z5 := HC.out.1.nd3
        go_wp2_with fail
        refine (Dt.least r' _ HC.out.2.2 HNR.out y').mono ?_
        rintro e w6 ⟨rfl, hb⟩
        have HLI2 := hid (HC.out.2.2.least y' HNR.out)
        replace HC := hid (And.intro (HC.out.1.below hb) (And.intro (HC.out.2.1.below hb) (HC.out.2.2.below hb)))
        replace HE1 := hid (HE1.out.below hb)
        replace HW1 := hid (HW1.out.onD hb)
        clear hb z5
        obtain ⟨y9, hy9⟩ : ∃ y9, r'.least y' = y9 := ⟨_, rfl⟩
        rw [hy9] at HLI2 ⊢
        simp only [hy9] at HEQ
        clear hy9
        have hth := HC.out.1.thereT
        have HPUT : Hid (∀ W, W = w6.setCells g' 0 y9.cells → Cs W g' (nd y9 A (ptr l') (ptr r') c') ∧ DIn W l' ∧ DIn W r' ∧ DEnv W th rt n ∧ Chg [g'] w6 W) := hid (fun W hW => by
          have hnl : DNl w6 g' := HC.out.1.dnl
          have hc6 : Chg [g'] w6 W := by rw [hW]; exact Chg.sets _ _ (Chg.refl _ _) (Or.inl (by simp))
          have hF : ∀ j ∈ [g'], DNl w6 j := fun j hj => by simp at hj; subst hj; exact hnl
          refine ⟨by rw [hW]; exact HC.out.1.putT y9, HC.out.2.1.chg hc6 hF (fun j hj => by simp; rintro rfl; exact (Dnodup_node HD1.out).1 hj), HC.out.2.2.chg hc6 hF (fun j hj => by simp; rintro rfl; exact (Dnodup_node HD1.out).2.1 hj), HE1.out.chg hc6 hF, hc6⟩)
        go_wp2_with (first | ((with_reducible refine wpList_put_it 29 infoItem rfl (.tmp 76) (.tmp 74) rfl g' 0 y9 hth ?rj1 ?rj2 ?rj3); (case rj1 => rfl); (case rj2 => rfl); (intro W2 hW2); (have HC2 := hid (HPUT.out W2 hW2)); (clear hW2 hth); (have z3 := HC2.out.1.nd3)) | fail)
        refine (Dt.removeLeast th rt n N r' _ k' HSZ.out HC2.out.2.2.1 (Dnodup_node HD1.out).2.2.2.1 (by have := HN1.out; omega) HC2.out.2.2.2.1 HK.out.1 HK.out.2).mono ?_
        rintro e2 w3 ⟨rfl, hi2, hw2⟩
        have hof := Tr.Of.remL N r'
        have hg : g' ∉ (Tr.remL N r').blocks := fun hm => (Dnodup_node HD1.out).2.1 (hof.2 _ hm)
        have HDy : Hid ((Tr.node g' c' l' y9 r').blocks.Nodup) := hid (by have := HD1.out; simpa [Tr.blocks] using this)
        have HT := hid (Dright_turned (y := y9) HINN.out.1 HLI2.out HC2.out.1 HC2.out.2.1 HC2.out.2.2.1 HC2.out.2.2.2.1 HDy.out hi2 hw2 hg)
        have HND := hid (Dnodup_right (r' := Tr.remL N r') HDy.out (hof.1 (Dnodup_node HD1.out).2.2.2.1) (fun j hj => Or.inl (hof.2 j hj)))
        have HOF := hid hof
        have HLEN : Hid ((Tr.remL N r').list.length ≤ r'.list.length) := hid (by rw [((Tr.remL_main N r' HSZ.out) k' HK.out.1 HK.out.2).2.2]; simp)
        clear hi2 hw2 hof hg z3
        have q2 := HT.out.1.nd3
        have q3 := HT.out.1.ndf3
        have HEQ2 : Hid (Tr.rem It.ahead (N + 1) x (Tr.node g c (Tr.node h true a z b) y r) = Tr.balance (.node g' c' l' y9 (Tr.remL N r'))) := HEQ
        clear HEQ HEQr HEQh HGO
        generalize Tr.remL N r' = L' at *
        obtain ⟨u, hu⟩ := ptr_form L'
        have HU := hid hu
        rw [hu]
        clear hu
        go_wp2_with fail
        have HW : Hid (∃ W, W = w3.setCell ⟨g', 15, none⟩ (.pointer u) ∧ DSt W (.node g' c' l' y9 L') ∧ DEnv W th rt n ∧ Chg (g' :: r'.blocks) W2 W) := hid ⟨_, rfl, by rw [← HU.out]; exact HT.out.2.1, by rw [← HU.out]; exact HT.out.2.2.1, by rw [← HU.out]; exact HT.out.2.2.2⟩
        obtain ⟨W, hW, HF⟩ := HW
        rw [← hW]
        clear hW q2 q3
        have HF := hid HF
        refine (Dt.balance g' c' l' L' y9 th rt n W HF.out.1 HND.out (by have := HN1.out; have := HLEN.out; simp only [Tr.list, List.length_append, List.length_cons]; omega) HF.out.2.1).mono ?_
        rintro e3 w4 ⟨rfl, hi3, hw3⟩
        have HI3 := hid hi3
        have HW3 := hid hw3
        clear hi3 hw3
        go_wp2_with fail
        go_ret
        refine ⟨by rw [HEQ2.out]; rfl, by rw [HEQ2.out]; exact HI3.out, ((HW1.out.trans HC2.out.2.2.2.2 (fun j hj => Or.inl (HPM.out.mem_iff.1 (by simp at hj; subst hj; simp [Tr.blocks])))).trans HF.out.2.2 (fun j hj => Or.inl (HPM.out.mem_iff.1 ?_))).trans HW3.out (fun j hj => Or.inl (HPM.out.mem_iff.1 ?_))⟩
        · rcases List.mem_cons.1 hj with rfl | h1
          · simp [Tr.blocks]
          · simp [Tr.blocks, h1]
        · simp only [Tr.blocks, List.mem_cons, List.mem_append] at hj ⊢
          exact hj.imp id (Or.imp id (HOF.out.2 j))
theorem Dt.remove (th : Nat) (rt : Value) (n : Int) (x : It) (hx : x.In) (N : Nat) : RemIH th rt n x N := by
  induction N with
  | zero =>
    intro t w A m B hs _ _ _ _ hp _ _
    have := Tr.ne_of_Pre hp
    cases t with
    | nil => exact absurd rfl this
    | node g c l y r => simp only [Tr.size] at hs; omega
  | succ N ih =>
    intro t w As ms Bs hs hi hd hn he hp hh hli
    cases t with
    | nil => exact absurd rfl (Tr.ne_of_Pre hp)
    | node g c l y r =>
      simp only [ptr_node]
      cases hlt : It.ahead x y with
      | true => exact Dt.rem_left th rt n x hx N ih g c l y r hlt w As ms Bs hs hi hd hn he hp hh hli
      | false =>
        cases hlr : l.red with
        | false => exact Dt.rem_right0 th rt n x hx N ih g c l y r hlt hlr w As ms Bs hs hi hd hn he hp hh hli
        | true =>
          cases l with
          | nil => simp [Tr.red] at hlr
          | node h d a z b =>
            simp only [Tr.red] at hlr
            subst hlr
            exact Dt.rem_right1 th rt n x hx N ih g c h a z b y r hlt w As ms Bs hs hi hd hn he hp hh hli
end


section
open Go.RowKit
def DDel (x : It) (t : Tr It) (th : Nat) (w : World) (e : Ending) (w' : World) : Prop := e = .returned (.bool true) ∧ DTreeAt w' th ((Tr.rem It.ahead t.size x t).paint false) ∧ Chg (th :: t.blocks) w w'
set_option maxRecDepth 100000 in
set_option maxHeartbeats 4000000 in
theorem Dt.delete (th : Nat) (t : Tr It) (x : It) (hx : x.In) (w : World) (A : List It) (m : It) (B : List It) (h : DTreeAt w th t) (hn : t.list.length ≤ 900000) (hh : Tr.has It.ahead x t = true) (hp : Tr.Pre It.ahead x t) (hs : Tr.Has It.ahead x A m B) (hl : t.list = A ++ m :: B) :
    Calls Tryz.prog 119 #[.pointer (some ⟨th, 0, none⟩), x.val] w (DDel x t th w) := by
  have hb0 := (Below.refl w.heap.size w).alloc (Nat.le_refl _) (.cells #[.int .u64 x.t, .int .u32 x.r, .int .u32 x.v, .int .i64 x.i, .int .u64 x.u, .int .u32 x.s, .int .u32 x.y] 29)
  have HT := hid (h.below hb0)
  have HB0 := hid hb0
  have HX0 : Hid (Th (w.alloc (.cells #[.int .u64 x.t, .int .u32 x.r, .int .u32 x.v, .int .i64 x.i, .int .u64 x.u, .int .u32 x.s, .int .u32 x.y] 29)) w.heap.size x) := hid (Cs.new7 w _ x).th7
  have HXI := hid hx
  have HTN : Hid (∀ g ∈ th :: t.blocks, g < w.heap.size) := hid (fun g hg => by
    rcases List.mem_cons.1 hg with rfl | h1
    · obtain ⟨_, _, t0, _⟩ := h.1; exact t0.lt
    · exact (h.2.1.nl g h1).lt)
  have HH := hid hh
  have HN := hid hn
  have HPR := hid hp
  have HHAS := hid hs
  have HLI := hid hl
  clear h hh hx hb0 hn hp hs hl
  unfold It.val
  go_enter Tryz.func119, Tryz.ntmps119
  go_wp2_with fail
  refine (Dt.has th t x HXI.out _ HT.out).mono ?_
  rintro e w1 ⟨rfl, hb⟩
  rw [HH.out]
  have HT1 := hid (HT.out.below hb)
  have HX1 := hid (HX0.out.below hb)
  have HB := hid (below_on HB0.out hb)
  have HBd := hid (below_on HB.out (Below.refl _ w1).drew)
  have HT1d := hid (HT1.out.below (Below.refl _ w1).drew)
  have HXd := hid (HX1.out.below (Below.refl _ w1).drew)
  obtain ⟨e3, e3f, _, _⟩ := HT1d.out.1.at3
  obtain ⟨u0, hu0⟩ := ptr_form t
  rw [hu0] at e3
  clear hb
  go_wp2_with fail
  refine wp_region_held_drew (S := fun w' => w'.cell? ⟨w.heap.size, 0, none⟩ = some (.int .u64 x.t) ∧ w'.cell? ⟨w.heap.size, 1, none⟩ = some (.int .u32 x.r) ∧ w'.cell? ⟨w.heap.size, 2, none⟩ = some (.int .u32 x.v) ∧ w'.cell? ⟨w.heap.size, 3, none⟩ = some (.int .i64 x.i) ∧ w'.cell? ⟨w.heap.size, 4, none⟩ = some (.int .u64 x.u) ∧ w'.cell? ⟨w.heap.size, 5, none⟩ = some (.int .u32 x.s) ∧ w'.cell? ⟨w.heap.size, 6, none⟩ = some (.int .u32 x.y)) (by kernel_rfl) HXd.out (fun hHeld => ?_)
  refine wpAnyH_take (i := 0) (v := ?_) rfl (by kernel_rfl) (by kernel_rfl) (by kernel_rfl) (fun _ _ _ h => h) (Or.inl ⟨by rfl, ?_⟩) (by assumption) ?_
  rotate_left
  · intro w hSw; (try dsimp only at hSw); go_simp; (try with_reducible rfl)
  try simp only [tdy]
  refine wpAnyH_take (i := 1) (v := ?_) rfl (by kernel_rfl) (by kernel_rfl) (by kernel_rfl) (fun _ _ _ h => h) (Or.inl ⟨by rfl, ?_⟩) (by assumption) ?_
  rotate_left
  · intro w hSw; (try dsimp only at hSw); go_simp; (try with_reducible rfl)
  try simp only [tdy]
  refine wpAnyH_take (i := 2) (v := ?_) rfl (by kernel_rfl) (by kernel_rfl) (by kernel_rfl) (fun _ _ _ h => h) (Or.inl ⟨by rfl, ?_⟩) (by assumption) ?_
  rotate_left
  · intro w hSw; (try dsimp only at hSw); go_simp; (try with_reducible rfl)
  try simp only [tdy]
  refine wpAnyH_take (i := 3) (v := ?_) rfl (by kernel_rfl) (by kernel_rfl) (by kernel_rfl) (fun _ _ _ h => h) (Or.inl ⟨by rfl, ?_⟩) (by assumption) ?_
  rotate_left
  · intro w hSw; (try dsimp only at hSw); go_simp; (try with_reducible rfl)
  try simp only [tdy]
  refine wpAnyH_take (i := 4) (v := ?_) rfl (by kernel_rfl) (by kernel_rfl) (by kernel_rfl) (fun _ _ _ h => h) (Or.inl ⟨by rfl, ?_⟩) (by assumption) ?_
  rotate_left
  · intro w hSw; (try dsimp only at hSw); go_simp; (try with_reducible rfl)
  try simp only [tdy]
  refine wpAnyH_take (i := 6) (v := ?_) rfl (by kernel_rfl) (by kernel_rfl) (by kernel_rfl) (fun _ _ _ h => h) (Or.inl ⟨by rfl, ?_⟩) (by assumption) ?_
  rotate_left
  · intro w hSw; (try dsimp only at hSw); go_simp; (try with_reducible rfl)
  try simp only [tdy]
  refine wpAnyH_ready (rs := [5]) (by kernel_rfl) (by simp) ?_
  refine AllReadyH.cons rfl (fun K hK => ?_) AllReadyH.nil
  go_simp
  refine hK.out _ _ ?_ (fun hHeld => ?_)
  · first | exact hHeld | exact HK1.out | exact HK2.out
  clear hK K
  try simp only [tdy]
  refine wpAnyH_ready (rs := [7]) (by kernel_rfl) (by simp) ?_
  refine AllReadyH.cons rfl (fun K hK => ?_) AllReadyH.nil
  go_simp
  have hrem := Dt.remove th (ptr t) t.list.length x HXI.out t.size t _ A m B (Nat.le_refl _) HT1d.out.2.1 HT1d.out.2.2 HN.out HT1d.out.1 HPR.out HHAS.out HLI.out
  rw [hu0] at hrem
  refine hrem.mono ?_
  clear hrem
  rintro e w2 ⟨rfl, hi, hw⟩
  have HE2 := hid (HT1d.out.1.chg hw HT1d.out.2.1.nl)
  have HOF := hid (Tr.Of.rem It.ahead x t.size t)
  have HLEN : Hid ((Tr.rem It.ahead t.size x t).list.length + 1 = t.list.length) := hid (by
    rw [(Tr.rem_main It.ahead x t.size t A m B (Nat.le_refl _) HPR.out HHAS.out HLI.out).1, HLI.out]; simp; omega)
  have HI := hid hi
  have HW := hid hw
  have hxb : w.heap.size ∉ t.blocks := fun hm => Nat.lt_irrefl _ (HTN.out _ (by simp [hm]))
  have hxt : th ≠ w.heap.size := fun e => Nat.lt_irrefl _ (HTN.out w.heap.size (by simp [e]))
  have HTX := hid (HXd.out.chg hw hxb)
  have HX : Hid (∀ w', DTreeAt w' th ((Tr.rem It.ahead t.size x t).paint false) → Chg (th :: t.blocks) w w' → DDel x t th w (.returned (.bool true)) w') := hid (fun w' h1 h2 => ⟨rfl, h1, h2⟩)
  clear hxb hi hw e3 e3f
  have HLE1 : Hid ((1 : Int) ≤ t.list.length ∧ (t.list.length : Int) ≤ 900000) := hid (by have := HLEN.out; have := HN.out; omega)
  generalize Tr.rem It.ahead t.size x t = T at *
  obtain ⟨u, hu⟩ := ptr_form T
  have HU := hid hu
  rw [hu]
  clear hu
  obtain ⟨_, _, t0, _⟩ := HE2.out
  have q3 := t0.at3
  have q3f := t0.fr3
  have q4 := t0.at4
  have q4f := t0.fr4
  clear t0
  have HK1 : Hid (Th w2 w.heap.size x) := hid HTX.out
  have HK2 : Hid (Th (w2.setCell ⟨th, 3, none⟩ (.pointer u)) w.heap.size x) := hid (HTX.out.far hxt _ _)
  clear hxt
  refine hK.out _ _ ?_ (fun hHeld => ?_)
  · first | exact hHeld | exact HK1.out | exact HK2.out
  clear hK K
  try simp only [tdy]
  refine wpAnyH_take (i := 8) (v := ?_) rfl (by kernel_rfl) (by kernel_rfl) (by kernel_rfl) (fun _ _ _ h => h) (Or.inl ⟨by rfl, ?_⟩) (by assumption) ?_
  rotate_left
  · intro w hSw; (try dsimp only at hSw); go_simp; (try with_reducible rfl)
  try simp only [tdy]
  refine wpAnyH_take (i := 9) (v := ?_) rfl (by kernel_rfl) (by kernel_rfl) (by kernel_rfl) (fun _ _ _ h => h) (Or.inl ⟨by rfl, ?_⟩) (by assumption) ?_
  rotate_left
  · intro w hSw; (try dsimp only at hSw); go_simp; (try with_reducible rfl)
  try simp only [tdy]
  refine wpAnyH_ready (rs := [10]) (by kernel_rfl) (by simp) ?_
  refine AllReadyH.cons rfl (fun K hK => ?_) AllReadyH.nil
  go_simp
  refine hK.out _ _ ?_ (fun hHeld => ?_)
  · first | exact hHeld | exact HK1.out | exact HK2.out
  clear hK K
  try simp only [tdy]
  refine wpAnyH_done (by kernel_rfl) ?_ _
  clear hHeld
  obtain ⟨hlen, hmax⟩ := HLE1.out
  cases T with
  | nil =>
    have hu := HU.out
    simp only [ptr_nil] at hu
    injection hu with hu
    subst hu
    have HW3 : Hid (∃ W, W = (w2.setCell ⟨th, 3, none⟩ (.pointer none)).setCell ⟨th, 4, none⟩ (.int .i64 (t.list.length - 1)) ∧
        DEnv W th (.pointer none) (t.list.length - 1) ∧ Chg (th :: t.blocks) w W) := hid (by
      have e1 := HE2.out.root (.pointer none)
      have c1 : Chg (th :: t.blocks) w1.drew w2 := HW.out.mono (fun j hj => by simp [hj])
      have c2 := (c1.set (g := th) (Or.inl (by simp)) 3 (.pointer none)).set (g := th) (Or.inl (by simp)) 4 (.int .i64 (t.list.length - 1))
      exact ⟨_, rfl, e1.size _, (Chg.below HBd.out).trans c2 (fun j hj => Or.inl hj)⟩)
    go_wp2_with fail
    obtain ⟨W, hW, HF⟩ := HW3
    rw [← hW]
    go_ret
    refine HX.out W ⟨?_, trivial, by simp [Tr.paint, Tr.blocks]⟩ HF.2
    have h1 := HF.1
    have h2 : ((Tr.paint false (.nil : Tr It)).list.length : Int) = t.list.length - 1 := by have := HLEN.out; simp [Tr.list, Tr.paint] at this ⊢; omega
    rw [h2]
    exact h1
  | node g c l y r =>
    have hu := HU.out
    simp only [ptr_node] at hu
    injection hu with hu
    subst hu
    have hne : th ≠ g := fun e => by
      obtain ⟨f, a, k', hk⟩ := HE2.out.hd
      obtain ⟨⟨v, _, hc⟩, _⟩ := HI.out
      rw [e, hc.th.1] at hk; injection hk with hk; cases hk
    have hne' : g ≠ th := Ne.symm hne
    have HND := hid (HOF.out.1 HT1.out.2.2)
    have HW3 : Hid (∃ W, W = ((w2.setCell ⟨th, 3, none⟩ (.pointer (some ⟨g, 0, none⟩))).setCell ⟨g, 16, none⟩ (.bool false)).setCell ⟨th, 4, none⟩ (.int .i64 (t.list.length - 1)) ∧
        DEnv W th (.pointer (some ⟨g, 0, none⟩)) (t.list.length - 1) ∧ DIn W (.node g false l y r) ∧ Chg (th :: t.blocks) w W) := hid (by
      have e1 := HE2.out.root (.pointer (some ⟨g, 0, none⟩))
      have i1 := HI.out.farT HE2.out.hd 3 (.pointer (some ⟨g, 0, none⟩))
      have hd := Dnodup_node HND.out
      have hn1 : DNl (w2.setCell ⟨th, 3, none⟩ (.pointer (some ⟨g, 0, none⟩))) g := i1.nl g (by simp [Tr.blocks])
      have e2 := e1.chg (F := [g]) ((Chg.refl _ _).set (g := g) (Or.inl (by simp)) 16 (.bool false)) (fun j hj => by simp at hj; subst hj; exact hn1)
      have i2 := i1.paint (d := false) ⟨hd.1, hd.2.1⟩
      have hgk : g ∈ t.blocks := HOF.out.2 g (by simp [Tr.blocks])
      have c1 : Chg (th :: t.blocks) w1.drew w2 := HW.out.mono (fun j hj => by simp [hj])
      have c2 := ((c1.set (g := th) (Or.inl (by simp)) 3 (.pointer (some ⟨g, 0, none⟩))).set (g := g) (Or.inl (by simp [hgk])) 16 (.bool false)).set (g := th) (Or.inl (by simp)) 4 (.int .i64 (t.list.length - 1))
      exact ⟨_, rfl, e2.size _, i2.farT e2.hd _ _, (Chg.below HBd.out).trans c2 (fun j hj => Or.inl hj)⟩)
    obtain ⟨⟨v, _, hc⟩, _⟩ := HI.out
    have c4 := hc.nd4
    have c4f := hc.ndf4
    clear hc
    go_wp2_with fail
    obtain ⟨W, hW, HF⟩ := HW3
    rw [← hW]
    go_ret
    refine HX.out W ⟨?_, HF.2.1, ?_⟩ HF.2.2
    · have h1 := HF.1
      have h2 : ((Tr.paint false (.node g c l y r)).list.length : Int) = t.list.length - 1 := by rw [Tr.list_paint]; have := HLEN.out; omega
      rw [h2]
      exact h1
    · rw [Tr.blocks_paint]; exact HND.out
end

end Go.Proofs.YtjndmmcjobbcbaaGreatDoor

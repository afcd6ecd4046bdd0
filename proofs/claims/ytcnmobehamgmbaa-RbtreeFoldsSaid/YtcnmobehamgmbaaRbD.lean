/- The tree of numbers: counting. -/
import Derived.Test.YtcnmobehamgmbaaRbC
namespace Go.Proofs.Ytcnmobehamgmbaa
open Go.RowKit

/-- What a thing, and all to the left of it, count. -/
def Gives (L : List Int) (w : World) (e : Ending) (w' : World) : Prop := ∃ A n c, e = .returned (.slice A n c) ∧ Sl w' (.slice A n c) L ∧ Below w.heap.size w w'
theorem Sl.form {w : World} {v : Value} {L : List Int} (h : Sl w v L) : ∃ A n c, v = .slice A n c := by obtain ⟨s, c, e, _⟩ := h; exact ⟨_, _, _, e⟩

set_option maxRecDepth 100000 in
set_option maxHeartbeats 1000000 in
theorem Rb.upTo0 (g b1 b2 : Nat) (x : Int) (v pr : Value) (c : Bool) (w : World) (hg : Cs w g [.int .i64 x, v, .pointer none, pr, .bool c]) (h1 : Cs w b1 [.func (.func 67) #[] #[]]) :
    Calls Try.prog 89 #[.pointer (some ⟨g, 0, none⟩), .pointer (some ⟨b1, 0, none⟩), .pointer (some ⟨b2, 0, none⟩)] w (Gives [x] w) := by
  have g0 := hg.at0
  have g2 := hg.at2
  have q1 := h1.at0
  clear hg h1
  go_enter Try.func89, Try.ntmps89
  go_wp2_with fail
  go_still_tail 5, (by kernel_rfl)
  change wpList _ _ _ _ _ w.drew
  go_wp2_with fail
  refine (Law6.one x _).mono ?_
  rintro e w1 ⟨v1, rfl, hs, hb⟩
  obtain ⟨A, n, k, rfl⟩ := hs.form
  have HS := hid hs
  have HB := hid hb
  clear hs hb
  go_wp2_with fail
  go_ret
  exact ⟨_, _, _, rfl, HS.out, (Below.refl _ _).drew.trans HB.out⟩

set_option maxRecDepth 100000 in
set_option maxHeartbeats 1000000 in
theorem Rb.upTo1 (g gl b1 b2 : Nat) (x : Int) (v pr : Value) (c : Bool) (L : List Int) (A : Option Addr) (n k : Nat) (w : World) (hg : Cs w g [.int .i64 x, v, .pointer (some ⟨gl, 0, none⟩), pr, .bool c]) (hl : w.cell? ⟨gl, 1, none⟩ = some (.slice A n k)) (hs : Sl w (.slice A n k) L)
    (hn : L.length ≤ 900000) (h1 : Cs w b1 [.func (.func 67) #[] #[]]) (h2 : Cs w b2 [.func (.func 68) #[] #[]]) :
    Calls Try.prog 89 #[.pointer (some ⟨g, 0, none⟩), .pointer (some ⟨b1, 0, none⟩), .pointer (some ⟨b2, 0, none⟩)] w (Gives (L ++ [x]) w) := by
  have g2 := hg.at2
  have HQ : Hid (∀ w', Below w.heap.size w w' → (w'.cell? ⟨b2, 0, none⟩ = some (.func (.func 68) #[] #[]) ∧ w'.cell? ⟨b1, 0, none⟩ = some (.func (.func 67) #[] #[]) ∧ w'.cell? ⟨g, 2, none⟩ = some (.pointer (some ⟨gl, 0, none⟩)) ∧ w'.cell? ⟨gl, 1, none⟩ = some (.slice A n k) ∧ w'.cell? ⟨g, 0, none⟩ = some (.int .i64 x)) ∧ Below w.heap.size w w') :=
    hid (fun w' hb => ⟨⟨keep1 hb h2.at0, keep1 hb h1.at0, keep1 hb g2, keep1 hb hl, keep1 hb hg.at0⟩, hb⟩)
  have HS := hid hs
  clear hg h1 h2 hs hl
  go_enter Try.func89, Try.ntmps89
  go_wp2_with fail
  go_region_held3 (fun w' => (w'.cell? ⟨b2, 0, none⟩ = some (.func (.func 68) #[] #[]) ∧ w'.cell? ⟨b1, 0, none⟩ = some (.func (.func 67) #[] #[]) ∧ w'.cell? ⟨g, 2, none⟩ = some (.pointer (some ⟨gl, 0, none⟩)) ∧ w'.cell? ⟨gl, 1, none⟩ = some (.slice A n k) ∧ w'.cell? ⟨g, 0, none⟩ = some (.int .i64 x)) ∧ Below w.heap.size w w')
    (first | with_reducible exact HQ.out _ (Below.refl _ _).drew | with_reducible exact HQ.out _ (below_on (And.right (by assumption : (_ ∧ _ ∧ _ ∧ _ ∧ _) ∧ Below w.heap.size w _)) hb2))
    (first
      | (go_at_call 67; refine (Law6.one x _).mono ?_; rintro e w2 ⟨v1, rfl, hs1, hb2⟩; obtain ⟨A1, n1, k1, rfl⟩ := hs1.form; have HS1 := hid hs1; clear hs1)
      | (go_at_call 68; refine (Law6.both _ _ L [x] _ (HS.out.below (And.right (by assumption : (_ ∧ _ ∧ _ ∧ _ ∧ _) ∧ Below w.heap.size w _))) HS1.out (by simp; omega)).mono ?_; rintro e w3 ⟨v2, rfl, hs2, hb2⟩; obtain ⟨A2, n2, k2, rfl⟩ := hs2.form; have HS2 := hid hs2; clear hs2))
  have HF := hid (And.right (by assumption : (_ ∧ _ ∧ _ ∧ _ ∧ _) ∧ Below w.heap.size w w3))
  go_wp2_with fail
  go_ret
  exact ⟨_, _, _, rfl, HS2.out, HF.out⟩

/-- Of a node whose left part counts. -/
theorem Rb.upTo (g b1 b2 : Nat) (c : Bool) (l r : Tr Int) (x : Int) (w : World) (h : St w (.node g c l x r)) (hn : l.list.length ≤ 900000) (h1 : Cs w b1 [.func (.func 67) #[] #[]]) (h2 : Cs w b2 [.func (.func 68) #[] #[]]) :
    Calls Try.prog 89 #[.pointer (some ⟨g, 0, none⟩), .pointer (some ⟨b1, 0, none⟩), .pointer (some ⟨b2, 0, none⟩)] w (Gives (l.list ++ [x]) w) := by
  obtain ⟨⟨A, n, k, hc⟩, hl, hr⟩ := h
  cases l with
  | nil => exact Rb.upTo0 g b1 b2 x _ _ c w hc h1
  | node gl cl ll xl rl =>
    obtain ⟨⟨v, hv, hcl⟩, _⟩ := hl
    obtain ⟨A1, n1, k1, rfl⟩ := hv.form
    exact Rb.upTo1 g gl b1 b2 x _ _ c _ A1 n1 k1 w hc hcl.at1 hv hn h1 h2

/-- A node while it is counted. -/
def Cnt (w : World) (g : Nat) (x : Int) (pl pr : Value) (c : Bool) (w' : World) : Prop := ∃ A n k, Cs w' g [.int .i64 x, .slice A n k, pl, pr, .bool c] ∧ Chg [g] w w'
theorem Cnt.drew {w w' : World} {g : Nat} {x : Int} {pl pr : Value} {c : Bool} (h : Cnt w g x pl pr c w') : Cnt w g x pl pr c w'.drew := by
  obtain ⟨A, n, k, hc, hw⟩ := h
  exact ⟨A, n, k, hc.drew, hw.trans (G := []) (Chg.below (Below.refl _ _).drew) (by simp)⟩
theorem Cnt.below {w w1 w2 : World} {g : Nat} {x : Int} {pl pr : Value} {c : Bool} (h : Cnt w g x pl pr c w1) (hb : Below w1.heap.size w1 w2) : Cnt w g x pl pr c w2 := by
  obtain ⟨A, n, k, hc, hw⟩ := h
  exact ⟨A, n, k, hc.below hb, hw.trans (G := []) (Chg.below hb) (by simp)⟩
theorem Cnt.put {w w' : World} {g : Nat} {x : Int} {pl pr : Value} {c : Bool} (h : Cnt w g x pl pr c w') (A : Option Addr) (n k : Nat) : Cnt w g x pl pr c (w'.setCell ⟨g, 1, none⟩ (.slice A n k)) := by
  obtain ⟨A0, n0, k0, hc, hw⟩ := h
  exact ⟨A, n, k, hc.set 1 (by simp) _, hw.set (Or.inl (by simp)) _ _⟩

set_option maxRecDepth 100000 in
set_option maxHeartbeats 2000000 in
theorem Rb.count (th g : Nat) (c : Bool) (l r : Tr Int) (x : Int) (rt : Value) (n : Int) (w : World) (h : St w (.node g c l x r)) (hd : (Tr.node g c l x r).blocks.Nodup) (hn : (Tr.node g c l x r).list.length ≤ 900000) (he : Env w th rt n) :
    Calls Try.prog 90 #[.pointer (some ⟨th, 0, none⟩), .pointer (some ⟨g, 0, none⟩)] w fun e w' => e = .returned (.tuple #[]) ∧ In w' (.node g c l x r) ∧ Chg [g] w w' := by
  obtain ⟨d1, d2, d3, d4, d5⟩ := nodup_node hd
  have HNl := hid (h.nl)
  have HH := hid h
  have HE := hid he
  have hnl := h.nl g (by simp [Tr.blocks])
  have HN := hid hnl
  simp only [Tr.list, List.length_append, List.length_cons] at hn
  obtain ⟨b1, b2, t0, t1, t2, t3, t4⟩ := id he
  obtain ⟨⟨A, m, k, hc⟩, hl, hr⟩ := id h
  have HT := hid (And.intro t0 (And.intro t1 t2))
  have HC := hid (And.intro hc (And.intro hl hr))
  have g1 := hc.at1
  have g1f := hc.fr1
  have e2 := t0.at2
  clear t0 t1 t2 t3 t4 h he hnl hc hl hr hd
  go_enter Try.func90, Try.ntmps90
  go_wp2_with fail
  refine (Rb.upTo g b1 b2 c l r x _ HH.out (by omega) HT.out.2.1 HT.out.2.2).mono ?_
  rintro e w1 ⟨A1, m1, k1, rfl, hs, hb⟩
  have HS := hid hs
  -- behind the call, and the store
  have HW : Hid (∃ W, W = w1.setCell ⟨g, 1, none⟩ (.slice A1 m1 k1) ∧ Cs W g [.int .i64 x, .slice A1 m1 k1, ptr l, ptr r, .bool c] ∧ Sl W (.slice A1 m1 k1) (l.list ++ [x]) ∧ In W l ∧ In W r ∧ Env W th rt n ∧ Chg [g] w W) := hid (by
    have hn' : Nl w1 g := HN.out.chg (F := []) (Chg.below hb) (by simp)
    refine ⟨_, rfl, (HC.out.1.below hb).set 1 (by simp) _, HS.out.far hn' _ _, (HC.out.2.1.below hb).far hn' d1 _ _, (HC.out.2.2.below hb).far hn' d2 _ _, ?_, ?_⟩
    · exact (HE.out.below hb).chg (F := [g]) ((Chg.refl _ _).set (Or.inl (by simp)) _ _) (fun j hj => by simp at hj; subst hj; exact hn')
    · exact (Chg.below hb).set (Or.inl (by simp)) _ _)
  have q1 := keep1 hb g1
  have q2 := (hb.frozen (p := ⟨g, 1, none⟩) (World.block_lt_of_cell? w _ g1)).trans g1f
  clear hs hb g1 g1f e2
  have HW' : Hid (∃ W, W = w1.setCell ⟨g, 1, none⟩ (.slice A1 m1 k1)) := hid ⟨_, rfl⟩
  cases r with
  | nil =>
    have z3 : (w1.setCell ⟨g, 1, none⟩ (.slice A1 m1 k1)).cell? ⟨g, 3, none⟩ = some (.pointer none) := by obtain ⟨W, rfl, z, _⟩ := HW.out; exact z.at3
    go_wp2_with fail
    go_end0
    obtain ⟨W, rfl, z0, z1, z2, z3, z4, z5⟩ := HW.out
    exact ⟨rfl, ⟨⟨_, by simpa [Tr.list] using z1, z0⟩, z2, z3⟩, z5⟩
  | node gr cr lr xr rr =>
    have z3 : (w1.setCell ⟨g, 1, none⟩ (.slice A1 m1 k1)).cell? ⟨g, 3, none⟩ = some (.pointer (some ⟨gr, 0, none⟩)) := by obtain ⟨W, rfl, z, _⟩ := HW.out; exact z.at3
    go_wp2_with fail
    obtain ⟨W, hW, HF⟩ := HW
    rw [← hW]
    clear hW q1 q2 z3 HW'
    have HF := hid HF
    obtain ⟨v2, hv2, hc2⟩ := HF.out.2.2.2.1.1
    obtain ⟨A2, m2, k2, rfl⟩ := hv2.form
    have HR := hid hc2
    have HF2 := hid (HF.out.2.1.below (Below.refl _ W).drew)
    have HF3 := hid (hv2.below (Below.refl _ W).drew)
    clear hv2 hc2
    have HQ : Hid (∀ w', Cnt W g x (ptr l) (.pointer (some ⟨gr, 0, none⟩)) c w' → (w'.cell? ⟨th, 1, none⟩ = some (.func (.func 68) #[] #[]) ∧ w'.cell? ⟨g, 3, none⟩ = some (.pointer (some ⟨gr, 0, none⟩)) ∧ w'.cell? ⟨gr, 1, none⟩ = some (.slice A2 m2 k2)) ∧ Cnt W g x (ptr l) (.pointer (some ⟨gr, 0, none⟩)) c w') := hid (by
      rintro w' ⟨B, i, j, hc, hw⟩
      have hn' : ∀ j ∈ [g], Nl W j := fun j hj => by simp at hj; subst hj; exact ⟨_, _, _, HF.out.1.at1⟩
      obtain ⟨b1, b2, t0, _⟩ := HF.out.2.2.2.2.1.chg hw hn'
      refine ⟨⟨t0.at1, hc.at3, ?_⟩, B, i, j, hc, hw⟩
      exact (HR.out.chg hw (by simp; exact fun e => d2 (by simp [Tr.blocks, e]))).at1)
    have HC0 : Hid (Cnt W g x (ptr l) (.pointer (some ⟨gr, 0, none⟩)) c W) := hid ⟨_, _, _, HF.out.1, Chg.refl _ _⟩
    have q1 := HF.out.1.at1
    have q2 := HF.out.1.fr1
    refine wp_region_held_drew (S := (fun w' => (w'.cell? ⟨th, 1, none⟩ = some (.func (.func 68) #[] #[]) ∧ w'.cell? ⟨g, 3, none⟩ = some (.pointer (some ⟨gr, 0, none⟩)) ∧ w'.cell? ⟨gr, 1, none⟩ = some (.slice A2 m2 k2)) ∧ Cnt W g x (ptr l) (.pointer (some ⟨gr, 0, none⟩)) c w')) (by kernel_rfl) (HQ.out _ HC0.out.drew) (fun hHeld => ?_)
    refine wpAnyH_take (i := 0) (v := ?_) rfl (by kernel_rfl) (by kernel_rfl) (by kernel_rfl) (fun _ _ _ h => h) (Or.inl ⟨by rfl, ?_⟩) (by assumption) ?_
    rotate_left
    · intro w hSw; (try dsimp only at hSw); go_simp; (try with_reducible rfl)
    try simp only [List.getElem_toArray, List.getElem_cons_zero, List.getElem_cons_succ, Act.put, List.setIfInBounds_toArray, List.set_cons_zero, List.set_cons_succ]
    refine wpAnyH_take (i := 1) (v := ?_) rfl (by kernel_rfl) (by kernel_rfl) (by kernel_rfl) (fun _ _ _ h => h) (Or.inl ⟨by rfl, ?_⟩) (by assumption) ?_
    rotate_left
    · intro w hSw; (try dsimp only at hSw); go_simp; (try with_reducible rfl)
    try simp only [List.getElem_toArray, List.getElem_cons_zero, List.getElem_cons_succ, Act.put, List.setIfInBounds_toArray, List.set_cons_zero, List.set_cons_succ]
    refine wpAnyH_take (i := 2) (v := ?_) rfl (by kernel_rfl) (by kernel_rfl) (by kernel_rfl) (fun _ _ _ h => h) (Or.inl ⟨by rfl, ?_⟩) (by assumption) ?_
    rotate_left
    · intro w hSw; (try dsimp only at hSw); go_simp; (try with_reducible rfl)
    try simp only [List.getElem_toArray, List.getElem_cons_zero, List.getElem_cons_succ, Act.put, List.setIfInBounds_toArray, List.set_cons_zero, List.set_cons_succ]
    refine wpAnyH_take (i := 3) (v := ?_) rfl (by kernel_rfl) (by kernel_rfl) (by kernel_rfl) (fun _ _ _ h => h) (Or.inl ⟨by rfl, ?_⟩) (by assumption) ?_
    rotate_left
    · intro w hSw; (try dsimp only at hSw); go_simp; (try with_reducible rfl)
    try simp only [List.getElem_toArray, List.getElem_cons_zero, List.getElem_cons_succ, Act.put, List.setIfInBounds_toArray, List.set_cons_zero, List.set_cons_succ]
    refine wpAnyH_take (i := 4) (v := ?_) rfl (by kernel_rfl) (by kernel_rfl) (by kernel_rfl) (fun _ _ _ h => h) (Or.inl ⟨by rfl, ?_⟩) (by assumption) ?_
    rotate_left
    · intro w hSw; (try dsimp only at hSw); go_simp; (try with_reducible rfl)
    try simp only [List.getElem_toArray, List.getElem_cons_zero, List.getElem_cons_succ, Act.put, List.setIfInBounds_toArray, List.set_cons_zero, List.set_cons_succ]
    refine wpAnyH_take (i := 5) (v := ?_) rfl (by kernel_rfl) (by kernel_rfl) (by kernel_rfl) (fun _ _ _ h => h) (Or.inl ⟨by rfl, ?_⟩) (by assumption) ?_
    rotate_left
    · intro w hSw; (try dsimp only at hSw); go_simp; (try with_reducible rfl)
    try simp only [List.getElem_toArray, List.getElem_cons_zero, List.getElem_cons_succ, Act.put, List.setIfInBounds_toArray, List.set_cons_zero, List.set_cons_succ]
    refine wpAnyH_take (i := 6) (v := ?_) rfl (by kernel_rfl) (by kernel_rfl) (by kernel_rfl) (fun _ _ _ h => h) (Or.inl ⟨by rfl, ?_⟩) (by assumption) ?_
    rotate_left
    · intro w hSw; (try dsimp only at hSw); go_simp; (try with_reducible rfl)
    try simp only [List.getElem_toArray, List.getElem_cons_zero, List.getElem_cons_succ, Act.put, List.setIfInBounds_toArray, List.set_cons_zero, List.set_cons_succ]
    refine wpAnyH_take (i := 7) (v := ?_) rfl (by kernel_rfl) (by kernel_rfl) (by kernel_rfl) (fun _ _ _ h => h) (Or.inl ⟨by rfl, ?_⟩) (by assumption) ?_
    rotate_left
    · intro w hSw; (try dsimp only at hSw); go_simp; (try with_reducible rfl)
    try simp only [List.getElem_toArray, List.getElem_cons_zero, List.getElem_cons_succ, Act.put, List.setIfInBounds_toArray, List.set_cons_zero, List.set_cons_succ]
    refine wpAnyH_take (i := 9) (v := ?_) rfl (by kernel_rfl) (by kernel_rfl) (by kernel_rfl) (fun _ _ _ h => h) (Or.inl ⟨by rfl, ?_⟩) (by assumption) ?_
    rotate_left
    · intro w hSw; (try dsimp only at hSw); go_simp; (try with_reducible rfl)
    try simp only [List.getElem_toArray, List.getElem_cons_zero, List.getElem_cons_succ, Act.put, List.setIfInBounds_toArray, List.set_cons_zero, List.set_cons_succ]
    refine wpAnyH_take (i := 10) (v := ?_) rfl (by kernel_rfl) (by kernel_rfl) (by kernel_rfl) (fun _ _ _ h => h) (Or.inl ⟨by rfl, ?_⟩) (by assumption) ?_
    rotate_left
    · intro w hSw; (try dsimp only at hSw); go_simp; (try with_reducible rfl)
    try simp only [List.getElem_toArray, List.getElem_cons_zero, List.getElem_cons_succ, Act.put, List.setIfInBounds_toArray, List.set_cons_zero, List.set_cons_succ]
    refine wpAnyH_take (i := 11) (v := ?_) rfl (by kernel_rfl) (by kernel_rfl) (by kernel_rfl) (fun _ _ _ h => h) (Or.inl ⟨by rfl, ?_⟩) (by assumption) ?_
    rotate_left
    · intro w hSw; (try dsimp only at hSw); go_simp; (try with_reducible rfl)
    try simp only [List.getElem_toArray, List.getElem_cons_zero, List.getElem_cons_succ, Act.put, List.setIfInBounds_toArray, List.set_cons_zero, List.set_cons_succ]
    refine wpAnyH_take (i := 12) (v := ?_) rfl (by kernel_rfl) (by kernel_rfl) (by kernel_rfl) (fun _ _ _ h => h) (Or.inl ⟨by rfl, ?_⟩) (by assumption) ?_
    rotate_left
    · intro w hSw; (try dsimp only at hSw); go_simp; (try with_reducible rfl)
    try simp only [List.getElem_toArray, List.getElem_cons_zero, List.getElem_cons_succ, Act.put, List.setIfInBounds_toArray, List.set_cons_zero, List.set_cons_succ]
    refine wpAnyH_take (i := 13) (v := ?_) rfl (by kernel_rfl) (by kernel_rfl) (by kernel_rfl) (fun _ _ _ h => h) (Or.inl ⟨by rfl, ?_⟩) (by assumption) ?_
    rotate_left
    · intro w hSw; (try dsimp only at hSw); go_simp; (try with_reducible rfl)
    try simp only [List.getElem_toArray, List.getElem_cons_zero, List.getElem_cons_succ, Act.put, List.setIfInBounds_toArray, List.set_cons_zero, List.set_cons_succ]
    refine wpAnyH_take (i := 14) (v := ?_) rfl (by kernel_rfl) (by kernel_rfl) (by kernel_rfl) (fun _ _ _ h => h) (Or.inl ⟨by rfl, ?_⟩) (by assumption) ?_
    rotate_left
    · intro w hSw; (try dsimp only at hSw); go_simp; (try with_reducible rfl)
    try simp only [List.getElem_toArray, List.getElem_cons_zero, List.getElem_cons_succ, Act.put, List.setIfInBounds_toArray, List.set_cons_zero, List.set_cons_succ]
    refine wpAnyH_take (i := 15) (v := ?_) rfl (by kernel_rfl) (by kernel_rfl) (by kernel_rfl) (fun _ _ _ h => h) (Or.inl ⟨by rfl, ?_⟩) (by assumption) ?_
    rotate_left
    · intro w hSw; (try dsimp only at hSw); go_simp; (try with_reducible rfl)
    try simp only [List.getElem_toArray, List.getElem_cons_zero, List.getElem_cons_succ, Act.put, List.setIfInBounds_toArray, List.set_cons_zero, List.set_cons_succ]
    refine wpAnyH_ready (rs := [8]) (by kernel_rfl) (by simp) ?_
    refine AllReadyH.cons rfl (fun K hK => ?_) AllReadyH.nil
    go_simp
    refine hK.out _ _ ?_ (fun hHeld => ?_)
    · (first | with_reducible exact hHeld | with_reducible exact HQ.out _ (Cnt.below hHeld.2 hb3) | exact HQ.out _ (Cnt.put hHeld.2 _ _ _))
    clear hK K
    try simp only [List.getElem_toArray, List.getElem_cons_zero, List.getElem_cons_succ, Act.put, List.setIfInBounds_toArray, List.set_cons_zero, List.set_cons_succ]
    refine wpAnyH_ready (rs := [16]) (by kernel_rfl) (by simp) ?_
    refine AllReadyH.cons rfl (fun K hK => ?_) AllReadyH.nil
    go_simp
    refine (Law6.both _ _ (l.list ++ [x]) (lr.list ++ xr :: rr.list) _ HF2.out HF3.out (by simp; simp only [Tr.list, List.length_append, List.length_cons] at hn; omega)).mono ?_
    rintro e w3 ⟨v3, rfl, hs3, hb3⟩
    obtain ⟨A3, m3, k3, rfl⟩ := hs3.form
    have HS3 := hid hs3
    have HC3 := hid (Cnt.below hHeld.2 hb3)
    obtain ⟨_, _, _, hc3, _⟩ := HC3.out
    have y1 := hc3.at1
    have y2 := hc3.fr1
    clear hs3 hc3
    refine hK.out _ _ ?_ (fun hHeld => ?_)
    · (first | with_reducible exact hHeld | with_reducible exact HQ.out _ (Cnt.below hHeld.2 hb3) | exact HQ.out _ (Cnt.put hHeld.2 _ _ _))
    clear hK K
    try simp only [List.getElem_toArray, List.getElem_cons_zero, List.getElem_cons_succ, Act.put, List.setIfInBounds_toArray, List.set_cons_zero, List.set_cons_succ]
    refine wpAnyH_take (i := 17) (v := ?_) rfl (by kernel_rfl) (by kernel_rfl) (by kernel_rfl) (fun _ _ _ h => h) (Or.inl ⟨by rfl, ?_⟩) (by assumption) ?_
    rotate_left
    · intro w hSw; (try dsimp only at hSw); go_simp; (try with_reducible rfl)
    try simp only [List.getElem_toArray, List.getElem_cons_zero, List.getElem_cons_succ, Act.put, List.setIfInBounds_toArray, List.set_cons_zero, List.set_cons_succ]
    refine wpAnyH_take (i := 18) (v := ?_) rfl (by kernel_rfl) (by kernel_rfl) (by kernel_rfl) (fun _ _ _ h => h) (Or.inl ⟨by rfl, ?_⟩) (by assumption) ?_
    rotate_left
    · intro w hSw; (try dsimp only at hSw); go_simp; (try with_reducible rfl)
    try simp only [List.getElem_toArray, List.getElem_cons_zero, List.getElem_cons_succ, Act.put, List.setIfInBounds_toArray, List.set_cons_zero, List.set_cons_succ]
    refine wpAnyH_ready (rs := [19]) (by kernel_rfl) (by simp) ?_
    refine AllReadyH.cons rfl (fun K hK => ?_) AllReadyH.nil
    go_simp
    refine hK.out _ _ ?_ (fun hHeld => ?_)
    · (first | with_reducible exact hHeld | with_reducible exact HQ.out _ (Cnt.below hHeld.2 hb3) | exact HQ.out _ (Cnt.put hHeld.2 _ _ _))
    clear hK K
    try simp only [List.getElem_toArray, List.getElem_cons_zero, List.getElem_cons_succ, Act.put, List.setIfInBounds_toArray, List.set_cons_zero, List.set_cons_succ]
    refine wpAnyH_done (by kernel_rfl) ?_ _
    have HFIN : Hid (In (w3.setCell ⟨g, 1, none⟩ (.slice A3 m3 k3)) (.node g c l x (.node gr cr lr xr rr)) ∧ Chg [g] w (w3.setCell ⟨g, 1, none⟩ (.slice A3 m3 k3))) := hid (by
      obtain ⟨_, _, _, hc3, hw3⟩ := HC3.out
      have hn3 : Nl w3 g := ⟨_, _, _, hc3.at1⟩
      have hnW : ∀ j ∈ [g], Nl W j := fun j hj => by simp at hj; subst hj; exact ⟨_, _, _, HF.out.1.at1⟩
      have hl3 := HF.out.2.2.1.chg hw3 hnW (fun j hj hj' => by simp at hj'; subst hj'; exact d1 hj)
      have hr3 := HF.out.2.2.2.1.chg hw3 hnW (fun j hj hj' => by simp at hj'; subst hj'; exact d2 hj)
      refine ⟨⟨⟨.slice A3 m3 k3, ?_, hc3.set 1 (by simp) _⟩, hl3.far hn3 d1 _ _, hr3.far hn3 d2 _ _⟩, ?_⟩
      · have := HS3.out.far hn3 1 (.slice A3 m3 k3)
        simpa [Tr.list] using this
      · exact (HF.out.2.2.2.2.2.trans hw3 (by simp)).set (Or.inl (by simp)) _ _)
    go_wp2_with fail
    go_end0
    exact ⟨rfl, HFIN.out.1, HFIN.out.2⟩

end Go.Proofs.Ytcnmobehamgmbaa

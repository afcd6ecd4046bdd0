import Derived.Test.YtjndmmcjobbcbaaGreatDoorQueueBackZ13
import Derived.Test.YtjndmmcjobbcbaaGreatDoorItF
import Derived.Test.YtjndmmcjobbcbaaGreatDoorQueueBackZ9
import Derived.Test.YtjndmmcjobbcbaaGreatDoorMpA
import Derived.Test.YtjndmmcjobbcbaaGreatDoorQueueBackZ36
import Derived.Test.YtjndmmcjobbcbaaGreatDoorRbM
import Derived.Test.YtjndmmcjobbcbaaGreatDoorQueueBackZ25
import Derived.Test.YtjndmmcjobbcbaaGreatDoorCkJ
import Derived.Shelf.SlSortCmp.WholeK
import Derived.Shelf.Small.Bits
import Derived.Shelf.SlSortCmp.InsertionK
import Derived.Lib.Small
import Derived.Lib.Walk
import Derived.Lib.SlKeysI
import Derived.Shelf.SlIter.Collect
import Derived.Deep.WholeRow
import Derived.Sort.OwnSorted
import Derived.Shelf.GgSortFunc.RowK
import Derived.Shelf.GgSortFunc.InsertionK
import Derived.Deep.AppendLies
import Derived.Deep.MidRow
namespace Go.Proofs.YtjndmmcjobbcbaaGreatDoor
open Go.RowKit
set_option maxRecDepth 100000
set_option maxHeartbeats 32000000
theorem Dtree.clone (th : Nat) (t : Tr It) (hn : t.list.length ≤ 900000) (w : World) (h : DTreeAt w th t) : Calls Tryz.prog 71 #[.agg #[.pointer (some ⟨th, 0, none⟩)]] w (fun e w' => ∃ th' t', e = .returned (.agg #[.pointer (some ⟨th', 0, none⟩)]) ∧ Tr.SameI t t' ∧ DTreeAt w' th' t' ∧ (∀ g ∈ th' :: t'.blocks, w.heap.size ≤ g) ∧ Below w.heap.size w w') := by
  have hb0 := (Below.refl w.heap.size w).alloc (Nat.le_refl _) (.cells #[.pointer (some ⟨th, 0, none⟩)] 131)
  have hb1 := hb0.alloc (by simp) (.cells #[.pointer none] 131)
  have c1 := Cs.alloc_new (w.alloc (.cells #[.pointer (some ⟨th, 0, none⟩)] 131)) 131 [.pointer none]
  have HV : Hid ((Cs ((w.alloc (.cells #[.pointer (some ⟨th, 0, none⟩)] 131)).alloc (.cells #[.pointer none] 131)) w.heap.size [.pointer (some ⟨th, 0, none⟩)] ∧ Cs ((w.alloc (.cells #[.pointer (some ⟨th, 0, none⟩)] 131)).alloc (.cells #[.pointer none] 131)) (w.heap.size + 1) [.pointer none]) ∧ Below w.heap.size w ((w.alloc (.cells #[.pointer (some ⟨th, 0, none⟩)] 131)).alloc (.cells #[.pointer none] 131))) := hid ⟨⟨(Cs.alloc_new w 131 [.pointer (some ⟨th, 0, none⟩)]).alloc _, by simpa using c1⟩, hb1⟩
  have HH := hid h
  clear hb0 hb1 c1 h
  go_enter Tryz.func71, Tryz.ntmps71
  go_upto_region 1 with fail
  generalize ((w.alloc (.cells #[.pointer (some ⟨th, 0, none⟩)] 131)).alloc (.cells #[.pointer none] 131)) = W0 at HV ⊢
  have e0 := HV.out.1.1.at0
  go_wp2_with fail
  refine (Dt.clone th t hn _ (HH.out.below HV.out.2)).mono ?_
  rintro e w1 ⟨th', t', rfl, hs, ht, hg, hb⟩
  have HS := hid hs
  have HT := hid ht
  have HG := hid hg
  have HB := hid hb
  have c1 := HV.out.1.2.below hb
  have HC := hid c1
  have e1 := c1.at0
  have e2 := (c1 0 _ rfl).2
  clear hs ht hg hb c1 e0
  go_upto_region 2 with fail
  obtain ⟨W3, hW3⟩ : ∃ W3, W3 = w1.setCell ⟨w.heap.size + 1, 0, none⟩ (.pointer (some ⟨th', 0, none⟩)) := ⟨_, rfl⟩
  have HC3 : Hid (Chg [w.heap.size + 1] w1 W3) := hid (by rw [hW3]; exact (Chg.refl [w.heap.size + 1] w1).set (Or.inl (by simp)) 0 _)
  have e3 : W3.cell? ⟨w.heap.size + 1, 0, none⟩ = some (.pointer (some ⟨th', 0, none⟩)) := by rw [hW3]; exact (HC.out.set 0 (by simp) (.pointer (some ⟨th', 0, none⟩))).at0
  rw [← hW3]
  clear hW3 e1 e2
  go_wp2_with fail
  refine bodyPost_ret (v := .agg #[.pointer (some ⟨th', 0, none⟩)]) (by simp [results, Tryz.results71, go_sem, e3]) rfl ⟨th', t', rfl, HS.out, HT.out.far HC3.out (fun g hg f a c e => ?_) (fun g hg e => ?_), fun g hg => Nat.le_trans HV.out.2.size (HG.out g hg), (below_on HV.out.2 HB.out).trans (HC3.out.toBelow (below_on HV.out.2 HB.out).size (fun k hk => by simp at hk; omega))⟩
  · simp only [List.mem_singleton] at hg
    subst hg
    rw [HC.out.at0] at e
    cases e
  · simp only [List.mem_singleton] at e
    subst e
    have h1 := HG.out _ (List.mem_cons_of_mem _ hg)
    have h2 := HV.out.1.2.lt
    omega
theorem MpI.clone {w : World} {b : Nat} {l : List It} (h : MpI w b l) : ∃ es ck, w.heap[b]? = some (.map es ck) ∧ MpI (w.alloc (.map es ck)) w.heap.size l := by
  obtain ⟨D, ⟨es, ck, hh, r⟩, hr⟩ := h
  exact ⟨es, ck, hh, D, ⟨es, ck, by unfold World.alloc; exact Array.getElem?_push_size, r⟩, hr⟩
def MpN (B : Nat) (l : List It) (k : Nat) (w : World) : Prop := MpI w k l ∧ B ≤ k
theorem MpN.st (B : Nat) (l : List It) (k : Nat) : Stays (MpN B l k) := fun _ _ h hb => ⟨h.1.below hb, h.2⟩
def TrN (B k : Nat) (t : Tr It) (p : Nat × Tr It) (w : World) : Prop := Tr.SameI t p.2 ∧ DTreeAt w p.1 p.2 ∧ ∀ g ∈ p.1 :: p.2.blocks, B ≤ g ∧ g ≠ k
theorem TrN.st (B k : Nat) (t : Tr It) (p : Nat × Tr It) : Stays (TrN B k t p) := fun _ _ h hb => ⟨h.1, h.2.1.below hb, h.2.2⟩
def QcN (B : Nat) (m : Mu) (t : Tr It) (p : Nat × Nat × Nat × Tr It) (w : World) : Prop := Tr.SameI t p.2.2.2 ∧ QAt w p.1 p.2.1 p.2.2.1 m p.2.2.2 ∧ ∀ g ∈ foot p.1 p.2.1 p.2.2.1 p.2.2.2, B ≤ g
theorem Queue.clone (q mb th : Nat) (m : Mu) (t : Tr It) (w : World) (h : QAt w q mb th m t) : Calls Tryz.prog 19 #[.pointer (some ⟨q, 0, none⟩)] w (fun e w' => ∃ p : Nat × Nat × Nat × Tr It, e = .returned (.pointer (some ⟨p.1, 0, none⟩)) ∧ QcN w.heap.size m t p w' ∧ Below w.heap.size w w') := by
  have HH := hid h
  have HLN : Hid (t.list.length ≤ 900000) := hid (by have := h.2.2.2.2; omega)
  clear h
  go_enter Tryz.func19, Tryz.ntmps19
  go_upto_region 3 with fail
  have hsT1 : Stays (fun wx => QAt wx q mb th m t ∧ Below w.heap.size w wx) := fun _ _ h hb => ⟨h.1.below hb, below_on h.2 hb⟩
  refine wp_region_grow (S := fun wx => QAt wx q mb th m t ∧ Below w.heap.size w wx) 14 (by kernel_rfl) (hsT1 _ _ (⟨HH.out, Below.refl _ _⟩) (Below.refl _ _).drew) ?_
  refine tE 0 (v := ?_) (hsT1) (fun _ h => h) rfl (by kernel_rfl) (by rfl) ?_ ?_
  rotate_left
  · intro wq hSw
    go_simp; try with_reducible rfl
  try simp only [tdy]
  refine tE 1 (v := ?_) (hsT1) (fun _ h => h) rfl (by kernel_rfl) (by rfl) ?_ ?_
  rotate_left
  · intro wq hSw
    go_simp; try with_reducible rfl
  try simp only [tdy]
  refine tE 2 (v := ?_) (hsT1) (fun _ h => h) rfl (by kernel_rfl) (by rfl) ?_ ?_
  rotate_left
  · intro wq hSw
    go_simp; try with_reducible rfl
  try simp only [tdy]
  refine tE 3 (v := ?_) (hsT1) (fun _ h => h) rfl (by kernel_rfl) (by rfl) ?_ ?_
  rotate_left
  · intro wq hSw
    obtain ⟨k0, k01, k02, k03, k04, k5, k6⟩ := hSw.1.at
    go_simp; try with_reducible rfl
  try simp only [tdy]
  refine tE 4 (v := ?_) (hsT1) (fun _ h => h) rfl (by kernel_rfl) (by rfl) ?_ ?_
  rotate_left
  · intro wq hSw
    go_simp; try with_reducible rfl
  try simp only [tdy]
  refine tE 5 (v := ?_) (hsT1) (fun _ h => h) rfl (by kernel_rfl) (by rfl) ?_ ?_
  rotate_left
  · intro wq hSw
    go_simp; try with_reducible rfl
  try simp only [tdy]
  refine tE 6 (v := ?_) (hsT1) (fun _ h => h) rfl (by kernel_rfl) (by rfl) ?_ ?_
  rotate_left
  · intro wq hSw
    go_simp; try with_reducible rfl
  try simp only [tdy]
  refine tE 7 (v := ?_) (hsT1) (fun _ h => h) rfl (by kernel_rfl) (by rfl) ?_ ?_
  rotate_left
  · intro wq hSw
    obtain ⟨k0, k01, k02, k03, k04, k5, k6⟩ := hSw.1.at
    go_simp; try with_reducible rfl
  try simp only [tdy]
  refine tE 9 (v := ?_) (hsT1) (fun _ h => h) rfl (by kernel_rfl) (by rfl) ?_ ?_
  rotate_left
  · intro wq hSw
    go_simp; try with_reducible rfl
  try simp only [tdy]
  refine tE 10 (v := ?_) (hsT1) (fun _ h => h) rfl (by kernel_rfl) (by rfl) ?_ ?_
  rotate_left
  · intro wq hSw
    go_simp; try with_reducible rfl
  try simp only [tdy]
  refine tE 11 (v := ?_) (hsT1) (fun _ h => h) rfl (by kernel_rfl) (by rfl) ?_ ?_
  rotate_left
  · intro wq hSw
    go_simp; try with_reducible rfl
  try simp only [tdy]
  refine tE 12 (v := ?_) (hsT1) (fun _ h => h) rfl (by kernel_rfl) (by rfl) ?_ ?_
  rotate_left
  · intro wq hSw
    obtain ⟨k0, k01, k02, k03, k04, k5, k6⟩ := hSw.1.at
    go_simp; try with_reducible rfl
  try simp only [tdy]
  refine wpAnyE_call (i := 8) (fun y : Nat => .map (some y)) (fun y wx => MpN w.heap.size t.list y wx) rfl (by kernel_rfl) (by decide) (by rfl) (hsT1) (fun _ h => h) (fun yq => MpN.st w.heap.size t.list yq) (fun wq hSw => ?_) (fun yq => ?_)
  · obtain ⟨es, ck, hh, hcl⟩ := hSw.1.1.2.1.clone
    exact RunI.of_calls (Ck.mapsCloneI mb es ck wq hh) (by go_simp) (fun e w' h => by
      obtain ⟨he, hw⟩ := h
      subst hw
      exact ⟨wq.heap.size, he, ⟨hcl, hSw.2.size⟩, (Below.refl _ _).alloc (Nat.le_refl _) _⟩)
  obtain yq := yq
  revert yq; intro k1; try dsimp only
  try simp only [tdy]
  refine wpAnyE_call (i := 13) (fun y : Nat × Tr It => .agg #[.pointer (some ⟨y.1, 0, none⟩)]) (fun y wx => TrN w.heap.size k1 t y wx) rfl (by kernel_rfl) (by decide) (by rfl) (Stays.and_ (hsT1) (MpN.st w.heap.size t.list k1)) (fun _ h => h.1) (fun yq => TrN.st w.heap.size k1 t yq) (fun wq hSw => ?_) (fun yq => ?_)
  · exact RunI.of_calls (Dtree.clone th t HLN.out wq hSw.1.1.1.2.2) (by go_simp) (fun e w' h => by
      obtain ⟨th', t', he, hs, ht, hg, hb⟩ := h
      exact ⟨(th', t'), he, ⟨hs, ht, fun g hgm => ⟨Nat.le_trans hSw.1.2.size (hg g hgm), fun e => by have := hg g hgm; have := hSw.2.1.lt; omega⟩⟩, hb⟩)
  obtain ⟨th1, t1⟩ := yq
  try dsimp only
  try simp only [tdy]
  refine wpAnyE_rest (n := 14) rfl rfl (by kernel_rfl) (fun wz hSz => ?_)
  simp only [List.toList_toArray, List.drop_succ_cons, List.drop_zero]
  have HZ := hid hSz
  clear hSz
  have HF : Hid (QcN w.heap.size m t (wz.heap.size, k1, th1, t1) (wz.alloc (.cells #[.int .u64 m.b, .int .i64 (hiW m.a), .int .u64 (loW m.a), .int .u64 m.w, .int .i64 m.n, .map (some k1), .pointer (some ⟨th1, 0, none⟩)] 134)) ∧ Below w.heap.size w (wz.alloc (.cells #[.int .u64 m.b, .int .i64 (hiW m.a), .int .u64 (loW m.a), .int .u64 m.w, .int .i64 m.n, .map (some k1), .pointer (some ⟨th1, 0, none⟩)] 134))) := hid (by
    have hal := (Below.refl wz.heap.size wz).alloc (Nat.le_refl _) (.cells #[.int .u64 m.b, .int .i64 (hiW m.a), .int .u64 (loW m.a), .int .u64 m.w, .int .i64 m.n, .map (some k1), .pointer (some ⟨th1, 0, none⟩)] 134)
    have hcs := Cs.alloc_new wz 134 [.int .u64 m.b, .int .i64 (hiW m.a), .int .u64 (loW m.a), .int .u64 m.w, .int .i64 m.n, .map (some k1), .pointer (some ⟨th1, 0, none⟩)]
    obtain ⟨⟨⟨hq, hbw⟩, hm⟩, hs, ht, hg⟩ := HZ.out
    have hll := hs.list
    dsimp only at hs ht hg hll
    have hml := hm.1.lt
    refine ⟨⟨hs, ⟨⟨hcs, by rw [hll]; exact hm.1.below hal, ht.below hal⟩, ⟨by show wz.heap.size ≠ k1; omega, fun e => ?_, fun e => (hg _ (List.mem_cons_of_mem _ e)).2 rfl⟩, hq.2.2.1, by rw [hll]; exact hq.2.2.2.1, by rw [hll]; exact hq.2.2.2.2⟩, fun g hgm => ?_⟩, below_on hbw hal⟩
    · have := (ht.2.1.nl _ e).lt
      omega
    · simp only [foot, List.mem_cons] at hgm
      rcases hgm with rfl | rfl | hgm
      · exact hbw.size
      · exact hm.2
      · exact (hg g (List.mem_cons.2 hgm)).1)
  go_wp2_with fail
  go_ret
  exact ⟨_, rfl, HF.out⟩
end Go.Proofs.YtjndmmcjobbcbaaGreatDoor

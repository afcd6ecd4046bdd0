/- The tree of items, shifted. -/
import Derived.Test.YtmklbmiddeonkaaDtreeShiftsZ44
import Derived.Test.YtmklbmiddeonkaaDtM
namespace Go.Proofs.Ytmklbmiddeonkaa
open Go.RowKit

theorem OwnI.there {w : World} {base g : Nat} {n c : Nat} {l : List It} (ho : OwnI w base (some ⟨g, 0, none⟩) n c l) (h0 : 0 < n) (j : Nat) (hj : j < n) : w.there g (0 + j * 7) 7 := fun i hi => by
  have hs := ho.len
  rw [Nat.zero_add]
  refine ⟨?_, ?_⟩
  · have hc := ho.rdi.2 0 h0
    obtain ⟨b, off, e, _, hc⟩ := hc
    injection e with e
    injection e with e1 e2
    subst e1 e2
    have := (hc j hj)
    obtain ⟨c0, c1, c2, c3, c4, c5, c6⟩ := this
    rw [Nat.zero_add] at c0 c1 c2 c3 c4 c5 c6
    match i, hi with
    | 0, _ => rw [Nat.add_zero, c0]; rfl
    | 1, _ => rw [c1]; rfl
    | 2, _ => rw [c2]; rfl
    | 3, _ => rw [c3]; rfl
    | 4, _ => rw [c4]; rfl
    | 5, _ => rw [c5]; rfl
    | 6, _ => rw [c6]; rfl
  · rcases ho.2 with ⟨hv, _⟩ | ⟨g', cap, cur, hv, _, hg, _⟩
    · injection hv with e1; cases e1
    · injection hv with e1
      injection e1 with e1
      injection e1 with e1
      subst e1
      simp [World.frozen?, hg]
theorem shk_set (f : It → It) : ∀ (l : List It) (k : Nat), k < l.length → ((l.take k).map f ++ l.drop k).set k (f (l.getD k It.zero)) = (l.take (k + 1)).map f ++ l.drop (k + 1)
  | [], k, h => absurd h (by simp)
  | a :: l, 0, _ => by simp
  | a :: l, k + 1, h => by
    have := shk_set f l k (by simpa using h)
    simpa using this
theorem shk_get (f : It → It) : ∀ (l : List It) (k : Nat), k < l.length → ((l.take k).map f ++ l.drop k).getD k It.zero = l.getD k It.zero
  | [], k, h => absurd h (by simp)
  | a :: l, 0, _ => by simp
  | a :: l, k + 1, h => by
    have := shk_get f l k (by simpa using h)
    simpa using this
theorem Tho.range {w : World} {b o : Nat} {x : It} (h : Tho w b o x) : w.rangeAt b o x.cells := fun j v hj => by
  obtain ⟨c0, c1, c2, c3, c4, c5, c6⟩ := h
  match j, hj with
  | 0, hj | 1, hj | 2, hj | 3, hj | 4, hj | 5, hj | 6, hj => simp [It.cells] at hj; subst hj; first | exact c0 | exact c1 | exact c2 | exact c3 | exact c4 | exact c5 | exact c6
  | n + 7, hj => simp [It.cells] at hj
theorem Tho.of_range {w : World} {b o : Nat} {x : It} (h : w.rangeAt b o x.cells) : Tho w b o x :=
  ⟨h 0 _ rfl, h 1 _ rfl, h 2 _ rfl, h 3 _ rfl, h 4 _ rfl, h 5 _ rfl, h 6 _ rfl⟩
/-- A slice of items of its own, and what the call answers. -/
def Hv (w : World) (A : Option Addr) (n : Nat) (L : List It) (wr : World) : Prop :=
  RdI wr A n L ∧ (0 < n → ∃ b off, A = some ⟨b, off, none⟩ ∧ w.heap.size + 2 ≤ b ∧ ∀ j, j < n → wr.there b (off + j * 7) 7) ∧ Cs wr (w.heap.size + 1) [.pointer none] ∧ Below w.heap.size w wr
theorem there_below {w w' : World} {b o n : Nat} (h : w.there b o n) (hb : Below w.heap.size w w') : w'.there b o n := fun j hj => by
  obtain ⟨h1, h2⟩ := h j hj
  obtain ⟨v, hv⟩ := Option.isSome_iff_exists.1 h1
  have := keep1 hb hv
  exact ⟨by rw [this]; rfl, (hb.frozen (p := ⟨b, o + j, none⟩) (World.block_lt_of_cell? w _ hv)).trans h2⟩
theorem Hv.below {w w1 w2 : World} {A : Option Addr} {n : Nat} {L : List It} (h : Hv w A n L w1) (hb : Below w1.heap.size w1 w2) : Hv w A n L w2 :=
  ⟨h.1.below hb, fun h0 => by
    obtain ⟨b, off, e, hl, ht⟩ := h.2.1 h0
    exact ⟨b, off, e, hl, fun j hj => there_below (ht j hj) hb⟩, h.2.2.1.below hb, below_on h.2.2.2 hb⟩
theorem Hv.put {w w1 : World} {b off n k : Nat} {L : List It} (h : Hv w (some ⟨b, off, none⟩) n L w1) (hk : k < n) (x : It) : ∀ W, W = w1.setCells b (off + k * 7) x.cells → Hv w (some ⟨b, off, none⟩) n (L.set k x) W := fun W e => by
  obtain ⟨h1, h2, h3, h4⟩ := h
  obtain ⟨b', off', e', hl, ht⟩ := h2 (by omega)
  injection e' with e'
  injection e' with e1 e2
  subst e1 e2
  subst e
  have hlen := h1.1
  refine ⟨⟨by rw [List.length_set]; exact hlen, fun i hi => ?_⟩, fun h0 => ⟨b, off, rfl, hl, fun j hj => World.there_setCells (ht j hj) _ _ _⟩, h3.fars (by omega) _ _, below_sets (by omega) _ _ h4⟩
  obtain ⟨b', off', e', hb', hc⟩ := h1.2 i hi
  injection e' with e'
  injection e' with e1 e2
  subst e1 e2
  refine ⟨b, off, rfl, Nat.lt_of_lt_of_le hb' (below_sets (B := 0) (b := b) (w0 := w1) (Nat.zero_le _) x.cells (off + k * 7) (w := w1) (Below.refl 0 w1)).size, fun j hj => ?_⟩
  by_cases hjk : j = k
  · subst hjk
    have e : (L.set j x).getD j It.zero = x := by simp [List.getD, hlen, hj]
    rw [e]
    exact Tho.of_range (World.rangeAt_setCells_same w1 b _ x.cells (ht j hj))
  · have e : (L.set k x).getD j It.zero = L.getD j It.zero := by simp [List.getD, List.getElem?_set_ne (Ne.symm hjk)]
    rw [e]
    refine Tho.of_range (World.rangeAt_setCells_apart (hc j hj).range b _ x.cells (Or.inr ?_))
    rw [It.cells_length, It.cells_length]
    omega

set_option maxRecDepth 100000 in
set_option maxHeartbeats 4000000 in
theorem Dtree.shift (th : Nat) (t : Tr It) (d : Int) (w : World) (h : DTreeAt w th t) (hin : InI t.list) (hn : t.list.length ≤ 60) :
    Calls Try.prog 50 #[.agg #[.pointer (some ⟨th, 0, none⟩)], .int .u64 d] w (DNew (t.list.map (It.shift d)) w) := by
  have hb0 := ((Below.refl w.heap.size w).alloc (Nat.le_refl _) (.cells #[.pointer (some ⟨th, 0, none⟩)] 73)).alloc (by simp) (.cells #[.pointer none] 73)
  have HT := hid (h.below hb0)
  have HB0 := hid hb0
  have HIN := hid hin
  have HZ : Hid (Cs ((w.alloc (.cells #[.pointer (some ⟨th, 0, none⟩)] 73)).alloc (.cells #[.pointer none] 73)) (w.heap.size + 1) [.pointer none]) := hid (by have := Cs.alloc_new (w.alloc (.cells #[.pointer (some ⟨th, 0, none⟩)] 73)) 73 [.pointer none]; simp only [World.size_alloc] at this; exact this)
  clear h hin hb0
  go_enter Try.func50, Try.ntmps50
  go_wp2_with fail
  refine (Dt.all th t _ HT.out (by omega)).mono ?_
  rintro e w1 ⟨A, n, c, rfl, ho, hb, _, _⟩
  have hnl : n ≤ 60 := by have := ho.len; omega
  have HLN : Hid (t.list.length = n) := hid ho.len
  have HH0 : Hid (Hv w A n t.list w1) := hid ⟨ho.rdi, fun h0 => by
    obtain ⟨g, cap, hv, hge, hlt⟩ := ho.form h0
    have hA : A = some ⟨g, 0, none⟩ := by injection hv
    refine ⟨g, 0, hA, by simpa using hge, fun j hj => ?_⟩
    subst hA
    exact ho.there h0 j hj, HZ.out.below hb, below_on HB0.out hb⟩
  clear ho hb HZ HT HB0
  go_wp2_with fail
  go_loopg [17] n (fun s a17 wr => ∃ k : Nat, a17 = .int .i64 k ∧ k ≤ n ∧ s = n - k ∧ Hv w A n ((t.list.take k).map (It.shift d) ++ t.list.drop k) wr)
  case atStart => exact ⟨0, rfl, Nat.zero_le _, by omega, by simpa using HH0.out⟩
  case round =>
    obtain ⟨k, rfl, hk, hs, hh⟩ := hrel
    have HS := hid hs
    have HH := hid hh
    clear hs hh HH0
    by_cases hkn : k < n
    · obtain ⟨bb, off, hA, _, hc⟩ := HH.out.1.2 0 (by omega)
      have hc1 := hc k hkn
      rw [shk_get (It.shift d) t.list k (by have := HLN.out; omega)] at hc1
      obtain ⟨p0, p1, p2, p3, p4, p5, p6⟩ := hc1
      have HST := hid (shk_set (It.shift d) t.list k (by have := HLN.out; omega))
      generalize t.list.getD k It.zero = x at *
      subst hA
      have hki : (k : Int) < n := by omega
      have hk0 : (0 : Int) ≤ k := by omega
      clear hc
      have HHa := hid (HH.out.below ((Below.refl wr.heap.size wr).alloc (Nat.le_refl _) (.cells #[.int .u64 x.t, .int .u32 x.r, .int .u32 x.v, .int .i64 x.i, .int .u64 x.u, .int .u32 x.s, .int .u32 x.y] 28)))
      go_wp2_with fail
      refine (Item.shift x d _).mono ?_
      rintro e w2 ⟨rfl, hb⟩
      have HH2 := hid (HHa.out.below hb)
      have HPT := hid (HH2.out.put hkn (It.shift d x))
      have hth : w2.there bb (off + k * 7) 7 := by
        obtain ⟨b', off', e', _, ht⟩ := HH2.out.2.1 (by omega)
        injection e' with e'
        injection e' with e1 e2
        subst e1 e2
        exact ht k hkn
      clear hb HHa p0 p1 p2 p3 p4 p5 p6
      go_wp2_with ((with_reducible refine wpList_put_it 28 infoItem rfl (.tmp 27) (.tmp 26) rfl bb (off + k * 7) (It.shift d x) hth ?s1 ?s2 ?s3); (case s1 => rfl); (case s2 => rfl); (intro W2 hW2); (have HW := hid (HPT.out W2 hW2)); (clear hW2 hth))
      go_roundg (n - (k + 1))
      case measure => have := HS.out; omega
      case rel => exact ⟨k + 1, by go_num, by omega, rfl, by have := HW.out; rw [HST.out] at this; exact this⟩
    · obtain rfl : k = n := by omega
      have hki : ¬ (k : Int) < k := by omega
      have he : (t.list.take k).map (It.shift d) ++ t.list.drop k = t.list.map (It.shift d) := by
        rw [List.take_of_length_le (by have := HLN.out; omega), List.drop_of_length_le (by have := HLN.out; omega), List.append_nil]
      have hH := HH.out
      rw [he] at hH
      have HHf := hid hH
      have HII : Hid (InI (t.list.map (It.shift d))) := hid (fun y hy => by
        obtain ⟨z, hz, rfl⟩ := List.mem_map.1 hy
        exact It.shift_in d (HIN.out z hz))
      clear he hH HH
      go_wp2_with fail
      refine (Dtree.new A k c (t.list.map (It.shift d)) _ HHf.out.1 HII.out (by omega)).mono ?_
      rintro e w2 ⟨th', t', rfl, hbt, hg⟩
      have HQ := hid hbt
      have hsz := HHf.out.2.2.1.lt
      have hcs := HHf.out.2.2.1.below hg.2.2.2
      have HG : Hid (DTreeAt w2 th' t' ∧ (∀ g ∈ th' :: t'.blocks, g ≠ w.heap.size + 1 ∧ w.heap.size ≤ g) ∧ Cs w2 (w.heap.size + 1) [.pointer none] ∧ Below w.heap.size w w2) := hid ⟨hg.1, fun g hg' => by
        rcases List.mem_cons.1 hg' with rfl | h1
        · have := hg.2.1; exact ⟨by omega, by omega⟩
        · have := hg.2.2.1 g h1; exact ⟨by omega, by omega⟩, hcs, below_on HHf.out.2.2.2 hg.2.2.2⟩
      have q1 := hcs.at0
      have q2 := hcs.fr0
      clear hbt hg hsz hcs
      have HFIN : Hid (∀ W, W = w2.setCell ⟨w.heap.size + 1, 0, none⟩ (.pointer (some ⟨th', 0, none⟩)) → Gd w th' t' W ∧ W.cell? ⟨w.heap.size + 1, 0, none⟩ = some (.pointer (some ⟨th', 0, none⟩))) := hid (by
        intro W e
        obtain ⟨h1, h7, h5, h4⟩ := HG.out
        have hch : Chg [w.heap.size + 1] w2 W := by rw [e]; exact (Chg.refl _ _).set (Or.inl (by simp)) _ _
        refine ⟨⟨⟨DEnv.far1 h1.1 h5 ⟨_, rfl⟩ (h7 th' (by simp)).1 e, DIn.far1 h1.2.1 e (fun hm => (h7 _ (by simp [hm])).1 rfl), h1.2.2⟩, (h7 th' (by simp)).2, fun g hg => (h7 g (by simp [hg])).2, h4.trans (hch.toBelow h4.size (fun g hg => by simp at hg; omega))⟩, by rw [e]; exact World.cell?_setCell_same _ _ _ q1⟩)
      go_wp2_with fail
      have HF2 := hid (HFIN.out _ rfl)
      clear HFIN q1 q2
      generalize w2.setCell ⟨w.heap.size + 1, 0, none⟩ (.pointer (some ⟨th', 0, none⟩)) = W9 at HF2 ⊢
      have q := HF2.out.2
      refine bodyPost_ret (v := .agg #[.pointer (some ⟨th', 0, none⟩)]) (by simp [results, Try.results50, go_sem, q]) rfl ⟨th', t', rfl, HQ.out, HF2.out.1⟩

end Go.Proofs.Ytmklbmiddeonkaa

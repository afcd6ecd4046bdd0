/- The tree of numbers: turning to the left and to the right. -/
import Derived.Test.YtcnmobehamgmbaaRbD
namespace Go.Proofs.Ytcnmobehamgmbaa
open Go.RowKit

theorem ptr_form {α : Type} (t : Tr α) : ∃ u, ptr t = .pointer u := by cases t <;> exact ⟨_, rfl⟩
/-- A node whose right part's own count is not told. -/
def StL (w : World) : Tr Int → Prop
  | .nil => True
  | .node g c l x r => (∃ A n k, Cs w g [.int .i64 x, .slice A n k, ptr l, ptr r, .bool c]) ∧ In w l ∧ St w r
theorem In.chg1 {w w' : World} {t : Tr Int} {g : Nat} (h : In w t) (hc : Chg [g] w w') (hn : Nl w g) (hg : g ∉ t.blocks) : In w' t :=
  h.chg hc (fun j hj => by simp at hj; subst hj; exact hn) (fun j hj hj' => by simp at hj'; subst hj'; exact hg hj)

set_option maxRecDepth 100000 in
set_option maxHeartbeats 1000000 in
theorem Rb.turnLeft (th g h : Nat) (c d : Bool) (a b e : Tr Int) (x y : Int) (rt : Value) (n : Int) (w : World) (hst : StL w (.node g c a x (.node h d b y e))) (hd : (Tr.node g c a x (.node h d b y e)).blocks.Nodup)
    (hn : (Tr.node g c a x (.node h d b y e)).list.length ≤ 900000) (he : Env w th rt n) :
    Calls Try.prog 120 #[.pointer (some ⟨th, 0, none⟩), .pointer (some ⟨g, 0, none⟩)] w
      (Turns (.pointer (some ⟨h, 0, none⟩)) (.node h c (.node g true a x b) y e) (Tr.node g c a x (.node h d b y e)).blocks w) := by
  obtain ⟨d1, d2, d3, d4, d5⟩ := nodup_node hd
  obtain ⟨f1, f2, f3, f4, f5⟩ := nodup_node d4
  simp only [Tr.blocks, List.mem_cons, List.mem_append, not_or] at d2 d5
  simp only [Tr.list, List.length_append, List.length_cons] at hn
  obtain ⟨dgh, dgb, dge⟩ := d2
  obtain ⟨⟨A, m, k, hc⟩, ha, ⟨⟨A2, m2, k2, hc2⟩, hb, hee⟩⟩ := hst
  have hng : Nl w g := ⟨_, _, _, hc.at1⟩
  have hnh : Nl w h := ⟨_, _, _, hc2.at1⟩
  obtain ⟨u, hu⟩ := ptr_form b
  rw [hu] at hc2
  have HD := hid d5
  have HW : Hid (∃ W, W = (((w.setCell ⟨g, 3, none⟩ (.pointer u)).setCell ⟨h, 2, none⟩ (.pointer (some ⟨g, 0, none⟩))).setCell ⟨h, 4, none⟩ (.bool c)).setCell ⟨g, 4, none⟩ (.bool true) ∧
      St W (.node g true a x b) ∧ Cs W h [.int .i64 y, .slice A2 m2 k2, .pointer (some ⟨g, 0, none⟩), ptr e, .bool c] ∧ In W e ∧ Env W th rt n ∧ Chg (Tr.node g c a x (.node h d b y e)).blocks w W) := hid (by
    have hch : Chg [g, h] w ((((w.setCell ⟨g, 3, none⟩ (.pointer u)).setCell ⟨h, 2, none⟩ (.pointer (some ⟨g, 0, none⟩))).setCell ⟨h, 4, none⟩ (.bool c)).setCell ⟨g, 4, none⟩ (.bool true)) :=
      ((((Chg.refl _ w).set (Or.inl (by simp)) _ _).set (Or.inl (by simp)) _ _).set (Or.inl (by simp)) _ _).set (Or.inl (by simp)) _ _
    have hnl : ∀ j ∈ [g, h], Nl w j := fun j hj => by simp at hj; rcases hj with rfl | rfl; exact hng; exact hnh
    have ap : ∀ t : Tr Int, g ∉ t.blocks → h ∉ t.blocks → ∀ j ∈ t.blocks, j ∉ [g, h] := fun t h1 h2 j hj hj' => by simp at hj'; rcases hj' with rfl | rfl; exact h1 hj; exact h2 hj
    refine ⟨_, rfl, ⟨⟨A, m, k, ?_⟩, ha.chg hch hnl (ap a d1 (fun hj => (d5 h hj).1 rfl)), hb.chg hch hnl (ap b dgb f1)⟩, ?_, hee.chg hch hnl (ap e dge f2), he.chg hch hnl, hch.mono (by simp [Tr.blocks])⟩
    · rw [hu]
      exact (((hc.set 3 (by simp) _).far (Ne.symm dgh) _ _).far (Ne.symm dgh) _ _).set 4 (by simp) _
    · exact ((((hc2.far dgh _ _).set 2 (by simp) _).set 4 (by simp) _)).far dgh _ _)
  have c2 := hc.at2
  have c3 := hc.at3
  have c4 := hc.at4
  have c5 := hc.fr3
  have c6 := hc.fr4
  have h2 := hc2.at2
  have h4 := hc2.at4
  have h5 := hc2.fr2
  have h6 := hc2.fr4
  simp only [ptr_node] at c3
  have HN := hid hn
  have HG := hid dge
  have HD' := hid (show g ∉ (a.blocks ++ b.blocks) ∧ (a.blocks ++ b.blocks).Nodup from ⟨by simp [d1, dgb], List.nodup_append.2 ⟨d3, f3, fun p hp q hq e => (HD.out p hp).2.1 (e ▸ hq)⟩⟩)
  clear hd hn he hc ha hc2 hb hee hng hnh d1 d3 d4 f1 f2 f3 f4 f5 dgb dge d5
  have ne1 : h ≠ g := Ne.symm dgh
  go_enter Try.func120, Try.ntmps120
  go_wp2_with fail
  obtain ⟨W, hW, HF⟩ := HW
  rw [← hW]
  clear hW
  have HF := hid HF
  go_ways
  refine (Rb.count th g true a b x rt n W HF.out.1 (List.nodup_cons.2 HD'.out) (by have := HN.out; simp only [Tr.list, List.length_append, List.length_cons]; omega) HF.out.2.2.2.1).mono ?_
  rintro e1 w2 ⟨rfl, hi, hw⟩
  have HI := hid hi
  have HC := hid hw
  clear hi hw
  go_wp2_with fail
  go_ret
  have hng : Nl W g := HF.out.1.nl g (by simp [Tr.blocks])
  refine ⟨rfl, ⟨⟨A2, m2, k2, HF.out.2.1.chg HC.out (by simp [ne1])⟩, HI.out, HF.out.2.2.1.chg1 HC.out hng HG.out⟩, HF.out.2.2.2.2.trans HC.out (by simp [Tr.blocks])⟩

set_option maxRecDepth 100000 in
set_option maxHeartbeats 1000000 in
theorem Rb.turnRight (th g h : Nat) (c d : Bool) (a b e : Tr Int) (x y : Int) (rt : Value) (n : Int) (w : World) (hst : St w (.node g c (.node h d a y b) x e)) (hd : (Tr.node g c (.node h d a y b) x e).blocks.Nodup)
    (hn : (Tr.node g c (.node h d a y b) x e).list.length ≤ 900000) (he : Env w th rt n) :
    Calls Try.prog 94 #[.pointer (some ⟨th, 0, none⟩), .pointer (some ⟨g, 0, none⟩)] w
      (Turns (.pointer (some ⟨h, 0, none⟩)) (.node h c a y (.node g true b x e)) (Tr.node g c (.node h d a y b) x e).blocks w) := by
  obtain ⟨d1, d2, d3, d4, d5⟩ := nodup_node hd
  obtain ⟨f1, f2, f3, f4, f5⟩ := nodup_node d3
  simp only [Tr.blocks, List.mem_cons, List.mem_append, not_or] at d1 d5
  simp only [Tr.list, List.length_append, List.length_cons] at hn
  obtain ⟨dgh, dga, dgb⟩ := d1
  obtain ⟨⟨A, m, k, hc⟩, hl, hee⟩ := hst
  obtain ⟨⟨A2, m2, k2, hc2⟩, ha, hb⟩ := hl.st
  have hng : Nl w g := ⟨_, _, _, hc.at1⟩
  have hnh : Nl w h := ⟨_, _, _, hc2.at1⟩
  obtain ⟨u, hu⟩ := ptr_form b
  rw [hu] at hc2
  have dhe : h ∉ e.blocks := d5 h (Or.inl rfl)
  have HD := hid d5
  have HW : Hid (∃ W, W = (((w.setCell ⟨g, 2, none⟩ (.pointer u)).setCell ⟨h, 3, none⟩ (.pointer (some ⟨g, 0, none⟩))).setCell ⟨h, 4, none⟩ (.bool c)).setCell ⟨g, 4, none⟩ (.bool true) ∧
      St W (.node g true b x e) ∧ Cs W h [.int .i64 y, .slice A2 m2 k2, ptr a, .pointer (some ⟨g, 0, none⟩), .bool c] ∧ In W a ∧ Env W th rt n ∧ Chg (Tr.node g c (.node h d a y b) x e).blocks w W) := hid (by
    have hch : Chg [g, h] w ((((w.setCell ⟨g, 2, none⟩ (.pointer u)).setCell ⟨h, 3, none⟩ (.pointer (some ⟨g, 0, none⟩))).setCell ⟨h, 4, none⟩ (.bool c)).setCell ⟨g, 4, none⟩ (.bool true)) :=
      ((((Chg.refl _ w).set (Or.inl (by simp)) _ _).set (Or.inl (by simp)) _ _).set (Or.inl (by simp)) _ _).set (Or.inl (by simp)) _ _
    have hnl : ∀ j ∈ [g, h], Nl w j := fun j hj => by simp at hj; rcases hj with rfl | rfl; exact hng; exact hnh
    have ap : ∀ t : Tr Int, g ∉ t.blocks → h ∉ t.blocks → ∀ j ∈ t.blocks, j ∉ [g, h] := fun t h1 h2 j hj hj' => by simp at hj'; rcases hj' with rfl | rfl; exact h1 hj; exact h2 hj
    refine ⟨_, rfl, ⟨⟨A, m, k, ?_⟩, hb.chg hch hnl (ap b dgb f2), hee.chg hch hnl (ap e d2 dhe)⟩, ?_, ha.chg hch hnl (ap a dga f1), he.chg hch hnl, hch.mono (by simp [Tr.blocks])⟩
    · rw [hu]
      exact (((hc.set 2 (by simp) _).far (Ne.symm dgh) _ _).far (Ne.symm dgh) _ _).set 4 (by simp) _
    · exact ((((hc2.far dgh _ _).set 3 (by simp) _).set 4 (by simp) _)).far dgh _ _)
  have c2 := hc.at2
  have c4 := hc.at4
  have c5 := hc.fr2
  have c6 := hc.fr4
  have h2 := hc2.at3
  have h4 := hc2.at4
  have h5 := hc2.fr3
  have h6 := hc2.fr4
  simp only [ptr_node] at c2
  have HN := hid hn
  have HG := hid dga
  have HD' := hid (show g ∉ (b.blocks ++ e.blocks) ∧ (b.blocks ++ e.blocks).Nodup from ⟨by simp [d2, dgb], List.nodup_append.2 ⟨f4, d4, fun p hp q hq e => HD.out p (Or.inr (Or.inr hp)) (e ▸ hq)⟩⟩)
  clear hd hn he hc ha hc2 hb hee hl hng hnh d2 d3 d4 f1 f2 f3 f4 f5 dga dgb d5 dhe
  have ne1 : h ≠ g := Ne.symm dgh
  go_enter Try.func94, Try.ntmps94
  go_wp2_with fail
  obtain ⟨W, hW, HF⟩ := HW
  rw [← hW]
  clear hW
  have HF := hid HF
  go_ways
  refine (Rb.count th g true b e x rt n W HF.out.1 (List.nodup_cons.2 HD'.out) (by have := HN.out; simp only [Tr.list, List.length_append, List.length_cons]; omega) HF.out.2.2.2.1).mono ?_
  rintro e1 w2 ⟨rfl, hi, hw⟩
  have HI := hid hi
  have HC := hid hw
  clear hi hw
  go_wp2_with fail
  go_ret
  have hng : Nl W g := HF.out.1.nl g (by simp [Tr.blocks])
  refine ⟨rfl, ⟨⟨A2, m2, k2, HF.out.2.1.chg HC.out (by simp [ne1])⟩, HF.out.2.2.1.chg1 HC.out hng HG.out, HI.out⟩, HF.out.2.2.2.2.trans HC.out (by simp [Tr.blocks])⟩

end Go.Proofs.Ytcnmobehamgmbaa

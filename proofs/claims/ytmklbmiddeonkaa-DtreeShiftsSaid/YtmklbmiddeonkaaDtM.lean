/- The tree of items: Len, Depth. -/
import Derived.Deep.TreeCalls
import Derived.Test.YtmklbmiddeonkaaDtreeShiftsZ43
import Derived.Test.YtmklbmiddeonkaaItO
namespace Go.Proofs.Ytmklbmiddeonkaa
open Go.RowKit

/-- What a list is added to. -/
def DAdds (W0 : World) (A0 : Option Addr) (L : List It) (w : World) (e : Ending) (w' : World) : Prop := ∃ A n c, e = .returned (.slice A n c) ∧ OwnI w' W0.heap.size A n c L ∧ Below W0.heap.size W0 w' ∧ Chg (rowOf A0) w w' ∧ ∀ k ∈ rowOf A, k ∈ rowOf A0 ∨ w.heap.size ≤ k
theorem cell_newI {w w2 : World} {base : Nat} {A : Option Addr} {n c : Nat} {l : List It} {x : It} {t : TypeId} (ho : OwnI w base A n c l) (hc : Chg (rowOf A) (w.alloc (.cells #[.int .u64 x.t, .int .u32 x.r, .int .u32 x.v, .int .i64 x.i, .int .u64 x.u, .int .u32 x.s, .int .u32 x.y] t)).drew w2) : Th w2 w.heap.size x :=
  (show Th (w.alloc (.cells #[.int .u64 x.t, .int .u32 x.r, .int .u32 x.v, .int .i64 x.i, .int .u64 x.u, .int .u32 x.s, .int .u32 x.y] t)).drew w.heap.size x from (Cs.new7 w t x).th7).chg hc (fun hm => by have := (ho.rowGe _ hm).2; omega)
set_option maxRecDepth 100000 in
set_option maxHeartbeats 2000000 in
theorem Dt.addTo (W0 : World) (t : Tr It) : DIn W0 t → ∀ (w : World) (A : Option Addr) (n c : Nat) (zs : List It), Below W0.heap.size W0 w → OwnI w W0.heap.size A n c zs → zs.length + t.list.length ≤ 900000 →
    Calls Try.prog 92 #[ptr t, .slice A n c] w (DAdds W0 A (zs ++ t.list) w) := by
  induction t with
  | nil =>
    intro _ w A n c zs hb ho _
    have HB := hid hb
    have HO := hid ho
    clear hb ho
    simp only [ptr_nil]
    go_enter Try.func92, Try.ntmps92
    go_wp2_with fail
    go_ret
    exact ⟨A, n, c, rfl, by simpa [Tr.list] using HO.out, HB.out, Chg.refl _ _, fun k hk => Or.inl hk⟩
  | node g cc l x r ihl ihr =>
    intro h w A n c zs hb ho hn
    have IL := hid (ihl h.2.1)
    have IR := hid (ihr h.2.2)
    have HI := hid h
    have HB := hid hb
    have HO := hid ho
    simp only [Tr.list, List.length_append, List.length_cons] at hn
    obtain ⟨⟨v, _, hc⟩, _, _⟩ := h
    have HQ : Hid (∀ w', Below W0.heap.size W0 w' → (w'.cell? ⟨g, 15, none⟩ = some (ptr r) ∧ w'.cell? ⟨g, 14, none⟩ = some (ptr l) ∧ (w'.cell? ⟨g, 0, none⟩ = some (.int .u64 x.t) ∧ w'.cell? ⟨g, 1, none⟩ = some (.int .u32 x.r) ∧ w'.cell? ⟨g, 2, none⟩ = some (.int .u32 x.v) ∧ w'.cell? ⟨g, 3, none⟩ = some (.int .i64 x.i) ∧ w'.cell? ⟨g, 4, none⟩ = some (.int .u64 x.u) ∧ w'.cell? ⟨g, 5, none⟩ = some (.int .u32 x.s) ∧ w'.cell? ⟨g, 6, none⟩ = some (.int .u32 x.y))) ∧ Below W0.heap.size W0 w') := hid (fun w' hb => ⟨⟨keep1 hb hc.nd3, keep1 hb hc.nd2, (hc.th.below hb)⟩, hb⟩)
    have HLN := hid ho.len
    have hn1 : zs.length + l.list.length ≤ 900000 := by omega
    have hn2 : (zs ++ l.list ++ [x]).length + r.list.length ≤ 900000 := by simp; omega
    have HN1 := hid hn1
    have HN2 := hid hn2
    have hz := hb.size
    clear hb ho hc ihl ihr hn1 hn2
    simp only [ptr_node]
    go_enter Try.func92, Try.ntmps92
    go_wp2_with fail
    go_region_held3 (fun w' => (w'.cell? ⟨g, 15, none⟩ = some (ptr r) ∧ w'.cell? ⟨g, 14, none⟩ = some (ptr l) ∧ (w'.cell? ⟨g, 0, none⟩ = some (.int .u64 x.t) ∧ w'.cell? ⟨g, 1, none⟩ = some (.int .u32 x.r) ∧ w'.cell? ⟨g, 2, none⟩ = some (.int .u32 x.v) ∧ w'.cell? ⟨g, 3, none⟩ = some (.int .i64 x.i) ∧ w'.cell? ⟨g, 4, none⟩ = some (.int .u64 x.u) ∧ w'.cell? ⟨g, 5, none⟩ = some (.int .u32 x.s) ∧ w'.cell? ⟨g, 6, none⟩ = some (.int .u32 x.y))) ∧ Below W0.heap.size W0 w')
      (first | with_reducible exact HQ.out _ HB.out.drew | with_reducible exact HQ.out _ hb2 | with_reducible exact HQ.out _ ((HB.out.alloc hz _).drew) | with_reducible exact HQ.out _ (hb2.alloc hb2.size _))
      (first
        | (go_at_call_of 92 (ptr l); refine (IL.out _ A n c zs (And.right (by assumption : (_ ∧ _ ∧ _) ∧ Below W0.heap.size W0 _)) (by first | exact HO.out | exact HO.out.alloc _) HN1.out).mono ?_; rintro e w2 ⟨A2, n2, c2, rfl, ho2, hb2, hc2, hr2⟩; have HO2 := hid ho2; have HC2 := hid hc2; have HR2 := hid hr2; (try (have HCELL := hid (cell_newI HO.out HC2.out))); clear ho2 hc2 hr2)
        | (go_at_call_of 92 (ptr r); refine (IR.out _ A3 _ c3 (zs ++ l.list ++ [x]) (And.right (by assumption : (_ ∧ _ ∧ _) ∧ Below W0.heap.size W0 _)) HO3.out HN2.out).mono ?_; rintro e w4 ⟨A4, n4, c4, rfl, ho4, hb2, hc4, hr4⟩; have HO4 := hid ho4; have HC4 := hid hc4; have HR4 := hid hr4; clear ho4 hc4 hr4)
        | ((refine step_append_it _ (by rfl) (.tmp 17) (.tmp 22) (by rfl) W0.heap.size A2 n2 c2 (zs ++ l.list) (by rfl) (HO2.out.alloc _) w2.heap.size x (by rfl) (Cs.new7 _ _ x).th7 (by have := HO2.out.len; have := HN1.out; simp at *; omega) (by simp; exact Nat.le_succ_of_le hb2.size) ?_); intro A3 c3 w3 ho3 hc3 hr3; have HO3 := hid ho3; have HC3 := hid hc3; have HR3 := hid hr3; have hb2 := Below.chg (And.right (by assumption : (_ ∧ _ ∧ _) ∧ Below W0.heap.size W0 _)) hc3 (fun k hk => (HO2.out.rowGe k hk).1); clear ho3 hc3 hr3)
        | (refine step_append_it _ (by rfl) (.tmp 17) (.tmp 22) (by rfl) W0.heap.size A2 n2 c2 (zs ++ l.list) (by rfl) HO2.out w.heap.size x (by rfl) HCELL.out (by have := HO2.out.len; have := HN1.out; simp at *; omega) hb2.size ?_; intro A3 c3 w3 ho3 hc3 hr3; have HO3 := hid ho3; have HC3 := hid hc3; have HR3 := hid hr3; have hb2 := Below.chg (And.right (by assumption : (_ ∧ _ ∧ _) ∧ Below W0.heap.size W0 _)) hc3 (fun k hk => (HO2.out.rowGe k hk).1); clear ho3 hc3 hr3)
        | fail)
    all_goals
      have HB4 := hid (And.right (by assumption : (_ ∧ _ ∧ _) ∧ Below W0.heap.size W0 w4))
      have HO5 := hid (show OwnI w4 W0.heap.size A4 n4 c4 (zs ++ (Tr.node g cc l x r).list) by have := HO4.out; simpa [Tr.list] using this)
      go_wp2_with fail
      go_ret
      refine ⟨A4, n4, c4, rfl, HO5.out, HB4.out, ?_⟩
      first
        | exact Chg.chain (Below.refl _ _).drew HC2.out HR2.out ((Below.refl _ _).alloc (Nat.le_refl _) _) HC3.out HR3.out HC4.out HR4.out
        | exact Chg.chain ((Below.refl _ _).alloc (Nat.le_refl _) _).drew HC2.out HR2.out (Below.refl _ _) HC3.out HR3.out HC4.out HR4.out

set_option maxHeartbeats 1000000 in
theorem Dt.all (th : Nat) (t : Tr It) (w : World) (h : DTreeAt w th t) (hn : t.list.length ≤ 900000) :
    Calls Try.prog 48 #[.pointer (some ⟨th, 0, none⟩)] w (DAdds w none t.list w) := by
  obtain ⟨_, _, t0, _⟩ := h.1
  have e3 := t0.at3
  have HI := hid h.2.1
  clear h t0
  go_enter Try.func48, Try.ntmps48
  go_wp2_with fail
  refine (Dt.addTo w t HI.out w none 0 0 [] (Below.refl _ _) (OwnI.nil _ _) (by simpa using hn)).mono ?_
  rintro e w1 ⟨A, n, c, rfl, h1, h2, h3⟩
  have H1 := hid h1
  have H2 := hid h2
  have H3 := hid h3
  clear h1 h2 h3
  go_wp2_with fail
  go_ret
  exact ⟨A, n, c, rfl, by simpa using H1.out, H2.out, H3.out⟩

end Go.Proofs.Ytmklbmiddeonkaa

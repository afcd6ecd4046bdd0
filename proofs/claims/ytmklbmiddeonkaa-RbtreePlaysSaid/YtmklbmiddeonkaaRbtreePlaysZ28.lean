/- Texts of RbtreePlays's proof, together. -/
import Derived.Test.YtmklbmiddeonkaaRbtreePlaysZ22
import Derived.Test.YtmklbmiddeonkaaRbR
import Derived.Test.YtmklbmiddeonkaaOpenA
namespace Go.Proofs.Ytmklbmiddeonkaa
/- The tree of numbers: what is told. -/
section
open Go.RowKit

theorem Told.lt (k : Nat) (y e : Int) (w : World) (h : w.cell? ⟨k, 0, none⟩ = some (.int .i64 e)) : Calls Try.prog 76 #[.int .i64 y, .pointer (some ⟨k, 0, none⟩)] w fun e' w' => e' = .returned (.bool (decide (y < e))) ∧ w = w' := by
  go_enter Try.func76, Try.ntmps76
  go_wp2
  go_ret
  exact ⟨rfl, rfl⟩
/-- What the telling's calls keep. -/
def Tq (B th : Nat) (t : Tr Int) (A A2 : Option Addr) (n2 : Nat) (A3 : Option Addr) (n3 : Nat) (L2 : List Int) (k : Nat) (x : Int) (w w' : World) : Prop :=
  Grove B th t w' ∧ RdU .i64 w' A t.list.length t.list ∧ RdU .i64 w' A2 n2 L2 ∧ RdU .i64 w' A3 n3 L2 ∧ w'.cell? ⟨k, 0, none⟩ = some (.int .i64 x) ∧ Below w.heap.size w w'
theorem Tq.below {B th : Nat} {t : Tr Int} {A A2 : Option Addr} {n2 : Nat} {A3 : Option Addr} {n3 : Nat} {L2 : List Int} {k : Nat} {x : Int} {w w' w'' : World} (h : Tq B th t A A2 n2 A3 n3 L2 k x w w') (hb : Below w'.heap.size w' w'') : Tq B th t A A2 n2 A3 n3 L2 k x w w'' :=
  ⟨h.1.below hb, h.2.1.below hb, h.2.2.1.below hb, h.2.2.2.1.below hb, keep1 hb h.2.2.2.2.1, below_on h.2.2.2.2.2 hb⟩

set_option maxRecDepth 100000 in
set_option maxHeartbeats 4000000 in
theorem Told.nil (B th : Nat) (t : Tr Int) (x : Int) (A : Option Addr) (c : Nat) (w : World) (h : Grove B th t w) (hl : RdU .i64 w A t.list.length t.list) (hn : t.list.length ≤ 300000) (hk : t.list.isEmpty = true) :
    Calls Try.prog 32 #[.pointer (some ⟨th, 0, none⟩), .slice A t.list.length c, .int .i64 x] w (Ans (.bool true) w) := by
  have HG := hid h
  have HL := hid hl
  have HK := hid hk
  have HN := hid hn
  have EQ : Hid ((t.list == t.list) = true) := hid (by simp)
  have EQ2 : Hid ((t.list.filter (fun y => decide (y < x)) == t.list.filter (fun y => decide (y < x))) = true) := hid (by simp)
  have HH : Hid (Tr.has ltI x t = decide (x ∈ t.list)) := hid (by
    rw [Bool.eq_iff_iff, decide_eq_true_iff]
    exact Tr.has_iff x t h.2.2.1)
  have HF : Hid (foldT (fun y => decide (y < x)) t [] = t.list.filter (fun y => decide (y < x))) := hid (by
    rw [foldT_eq (fun y => decide (y < x)) (fun a b h1 h2 => by simp at h2 ⊢; omega) t [] h.2.2.1]; rfl)
  have HN2 : Hid ((t.list.filter (fun y => decide (y < x))).length ≤ 300000) := hid (Nat.le_trans (List.length_filter_le _ _) hn)
  have HZ : Hid (t.least 0 = 0) := hid (by cases t with
    | nil => rfl
    | node g c l x r => simp [Tr.list] at hk)
  have HP : Hid ((t.list.length : Int) = 0) := hid (by cases t with
    | nil => rfl
    | node g c l x r => simp [Tr.list] at hk)
  clear h hl hk
  go_enter Try.func32, Try.ntmps32
  go_wp2_with fail
  have HB0 := hid ((Below.refl w.heap.size w).alloc (Nat.le_refl _) (.cells #[.int .i64 x] 3))
  refine (Gr.min B th t _ (HG.out.below HB0.out)).mono ?_
  rintro e w1 ⟨rfl, hb⟩
  rw [HK.out]
  rw [HZ.out]
  have HB1 := hid (below_on HB0.out hb)
  have HC1 : Hid (w1.cell? ⟨w.heap.size, 0, none⟩ = some (.int .i64 x)) := hid (keep1 hb (by simp))
  clear hb
  go_wp2_with fail
  have hfold := Rb.foldTold th w.heap.size t (fun y => decide (y < x)) w1 (HG.out.below HB1.out).1 (by omega) (fun y w' hb' => Told.lt w.heap.size y x w' (keep1 hb' HC1.out))
  rw [HF.out] at hfold
  refine hfold.mono ?_
  clear hfold
  rintro e w2 ⟨A2, n2, c2, b2, rfl, hp, hb⟩
  have HB2 := hid (below_on HB1.out hb)
  have HP2 := hid hp.rd
  have HC2 := hid (keep1 hb HC1.out)
  have q2 := HC2.out
  clear hb hp
  go_wp2_with fail
  refine (Ref6.below A t.list.length c t.list x _ (HL.out.below HB2.out) (by omega)).mono ?_
  rintro e w3 ⟨A3, n3, c3, rfl, ho, hb⟩
  have HTQ : Hid (Tq B th t A A2 n2 A3 n3 (t.list.filter (fun y => decide (y < x))) w.heap.size x w w3) := hid ⟨HG.out.below (below_on HB2.out hb), HL.out.below (below_on HB2.out hb), HP2.out.1.below hb, ho.rdi, keep1 hb HC2.out, below_on HB2.out hb⟩
  have HLN : Hid (n2 = (t.list.filter (fun y => decide (y < x))).length ∧ n3 = (t.list.filter (fun y => decide (y < x))).length) := hid ⟨HP2.out.1.1.symm, ho.rdi.1.symm⟩
  have hn2 : n2 ≤ 300000 := by have := HLN.out.1; have := HN2.out; omega
  have hn3 : n3 ≤ 300000 := by have := HLN.out.2; have := HN2.out; omega
  clear hb ho q2
  go_wp2_with fail
  have HSEE : Hid (∀ w', Tq B th t A A2 n2 A3 n3 (t.list.filter (fun y => decide (y < x))) w.heap.size x w w' → (fun w' => w'.cell? ⟨w.heap.size, 0, none⟩ = some (.int .i64 x) ∧ Tq B th t A A2 n2 A3 n3 (t.list.filter (fun y => decide (y < x))) w.heap.size x w w') w') := hid (fun w' h => ⟨h.2.2.2.2.1, h⟩)
  have hpos := HP.out
  refine wp_region_held_drew (S := fun w' => w'.cell? ⟨w.heap.size, 0, none⟩ = some (.int .i64 x) ∧ Tq B th t A A2 n2 A3 n3 (t.list.filter (fun y => decide (y < x))) w.heap.size x w w') (by kernel_rfl) (HSEE.out _ (HTQ.out.below (Below.refl _ _).drew)) (fun hHeld => ?_)
  refine wpAnyH_take (i := 0) (v := ?_) rfl (by kernel_rfl) (by kernel_rfl) (by kernel_rfl) (fun _ _ _ h => h) (Or.inl ⟨by rfl, ?_⟩) (by assumption) ?_
  rotate_left
  · intro w hSw; (try dsimp only at hSw); go_simp; (try with_reducible rfl)
  try simp only [List.getElem_toArray, List.getElem_cons_zero, List.getElem_cons_succ, Act.put, List.setIfInBounds_toArray, List.set_cons_zero, List.set_cons_succ]
  refine wpAnyH_take (i := 2) (v := ?_) rfl (by kernel_rfl) (by kernel_rfl) (by kernel_rfl) (fun _ _ _ h => h) (Or.inl ⟨by rfl, ?_⟩) (by assumption) ?_
  rotate_left
  · intro w hSw; (try dsimp only at hSw); go_simp; (try with_reducible rfl)
  try simp only [List.getElem_toArray, List.getElem_cons_zero, List.getElem_cons_succ, Act.put, List.setIfInBounds_toArray, List.set_cons_zero, List.set_cons_succ]
  refine wpAnyH_ready (rs := [1]) (by kernel_rfl) (by simp) ?_
  refine AllReadyH.cons rfl (fun K hK => ?_) AllReadyH.nil
  go_simp
  go_at_call 38
  refine (Rb.all th t _ hHeld.2.1.1 (by omega)).mono ?_
  rintro e w4 ⟨A4, n4, c4, rfl, ho4, hb3, _, _⟩
  have HO4 := hid ho4; clear ho4
  refine hK.out _ _ ?_ (fun hHeld => ?_)
  · first | with_reducible exact HSEE.out _ (hHeld.2.below hb3) | with_reducible exact HSEE.out _ hHeld.2
  clear hK K
  try simp only [List.getElem_toArray, List.getElem_cons_zero, List.getElem_cons_succ, Act.put, List.setIfInBounds_toArray, List.set_cons_zero, List.set_cons_succ]
  refine wpAnyH_ready (rs := [3]) (by kernel_rfl) (by simp) ?_
  refine AllReadyH.cons rfl (fun K hK => ?_) AllReadyH.nil
  go_simp
  go_at_call 37
  refine (Sls.equal A4 _ n4 c4 t.list.length c t.list t.list _ HO4.out.rdi hHeld.2.2.1 (by have := HO4.out.len; omega) (by omega)).mono ?_
  rintro e w5 ⟨rfl, hb3⟩
  rw [EQ.out]
  refine hK.out _ _ ?_ (fun hHeld => ?_)
  · first | with_reducible exact HSEE.out _ (hHeld.2.below hb3) | with_reducible exact HSEE.out _ hHeld.2
  clear hK K
  try simp only [List.getElem_toArray, List.getElem_cons_zero, List.getElem_cons_succ, Act.put, List.setIfInBounds_toArray, List.set_cons_zero, List.set_cons_succ]
  refine wpAnyH_take (i := 4) (v := ?_) rfl (by kernel_rfl) (by kernel_rfl) (by kernel_rfl) (fun _ _ _ h => h) (Or.inl ⟨by rfl, ?_⟩) (by assumption) ?_
  rotate_left
  · intro w hSw; (try dsimp only at hSw); go_simp; (try with_reducible rfl)
  try simp only [List.getElem_toArray, List.getElem_cons_zero, List.getElem_cons_succ, Act.put, List.setIfInBounds_toArray, List.set_cons_zero, List.set_cons_succ]
  refine wpAnyH_take (i := 5) (v := ?_) rfl (by kernel_rfl) (by kernel_rfl) (by kernel_rfl) (fun _ _ _ h => h) (Or.inl ⟨by rfl, ?_⟩) (by assumption) ?_
  rotate_left
  · intro w hSw; (try dsimp only at hSw); go_simp; (try with_reducible rfl)
  try simp only [List.getElem_toArray, List.getElem_cons_zero, List.getElem_cons_succ, Act.put, List.setIfInBounds_toArray, List.set_cons_zero, List.set_cons_succ]
  refine wpAnyH_take (i := 7) (v := ?_) rfl (by kernel_rfl) (by kernel_rfl) (by kernel_rfl) (fun _ _ _ h => h) (Or.inl ⟨by rfl, ?_⟩) (by assumption) ?_
  rotate_left
  · intro w hSw; (try dsimp only at hSw); go_simp; (try with_reducible rfl)
  try simp only [List.getElem_toArray, List.getElem_cons_zero, List.getElem_cons_succ, Act.put, List.setIfInBounds_toArray, List.set_cons_zero, List.set_cons_succ]
  refine wpAnyH_take (i := 8) (v := ?_) rfl (by kernel_rfl) (by kernel_rfl) (by kernel_rfl) (fun _ _ _ h => h) (Or.inl ⟨by rfl, ?_⟩) (by assumption) ?_
  rotate_left
  · intro w hSw; (try dsimp only at hSw); go_simp; (try with_reducible rfl)
  try simp only [List.getElem_toArray, List.getElem_cons_zero, List.getElem_cons_succ, Act.put, List.setIfInBounds_toArray, List.set_cons_zero, List.set_cons_succ]
  refine wpAnyH_ready (rs := [6]) (by kernel_rfl) (by simp) ?_
  refine AllReadyH.cons rfl (fun K hK => ?_) AllReadyH.nil
  go_simp
  go_at_call 41
  refine (Rb.len th t _ hHeld.2.1.1).mono ?_
  rintro e w6 ⟨rfl, hb3⟩
  refine hK.out _ _ ?_ (fun hHeld => ?_)
  · first | with_reducible exact HSEE.out _ (hHeld.2.below hb3) | with_reducible exact HSEE.out _ hHeld.2
  clear hK K
  try simp only [List.getElem_toArray, List.getElem_cons_zero, List.getElem_cons_succ, Act.put, List.setIfInBounds_toArray, List.set_cons_zero, List.set_cons_succ]
  refine wpAnyH_take (i := 9) (v := ?_) rfl (by kernel_rfl) (by kernel_rfl) (by kernel_rfl) (fun _ _ _ h => h) (Or.inl ⟨by rfl, ?_⟩) (by assumption) ?_
  rotate_left
  · intro w hSw; (try dsimp only at hSw); go_simp; (try with_reducible rfl)
  try simp only [List.getElem_toArray, List.getElem_cons_zero, List.getElem_cons_succ, Act.put, List.setIfInBounds_toArray, List.set_cons_zero, List.set_cons_succ]
  refine wpAnyH_take (i := 10) (v := ?_) rfl (by kernel_rfl) (by kernel_rfl) (by kernel_rfl) (fun _ _ _ h => h) (Or.inl ⟨by rfl, ?_⟩) (by assumption) ?_
  rotate_left
  · intro w hSw; (try dsimp only at hSw); go_simp; (try with_reducible rfl)
  try simp only [List.getElem_toArray, List.getElem_cons_zero, List.getElem_cons_succ, Act.put, List.setIfInBounds_toArray, List.set_cons_zero, List.set_cons_succ]
  refine wpAnyH_take (i := 11) (v := ?_) rfl (by kernel_rfl) (by kernel_rfl) (by kernel_rfl) (fun _ _ _ h => h) (Or.inl ⟨by rfl, ?_⟩) (by assumption) ?_
  rotate_left
  · intro w hSw; (try dsimp only at hSw); go_simp; (try with_reducible rfl)
  try simp only [List.getElem_toArray, List.getElem_cons_zero, List.getElem_cons_succ, Act.put, List.setIfInBounds_toArray, List.set_cons_zero, List.set_cons_succ]
  refine wpAnyH_take (i := 12) (v := ?_) rfl (by kernel_rfl) (by kernel_rfl) (by kernel_rfl) (fun _ _ _ h => h) (Or.inl ⟨by rfl, ?_⟩) (by assumption) ?_
  rotate_left
  · intro w hSw; (try dsimp only at hSw); go_simp; (try with_reducible rfl)
  try simp only [List.getElem_toArray, List.getElem_cons_zero, List.getElem_cons_succ, Act.put, List.setIfInBounds_toArray, List.set_cons_zero, List.set_cons_succ]
  refine wpAnyH_take (i := 13) (v := ?_) rfl (by kernel_rfl) (by kernel_rfl) (by kernel_rfl) (fun _ _ _ h => h) (Or.inl ⟨by rfl, ?_⟩) (by assumption) ?_
  rotate_left
  · intro w hSw; (try dsimp only at hSw); go_simp; (try with_reducible rfl)
  try simp only [List.getElem_toArray, List.getElem_cons_zero, List.getElem_cons_succ, Act.put, List.setIfInBounds_toArray, List.set_cons_zero, List.set_cons_succ]
  refine wpAnyH_take (i := 15) (v := ?_) rfl (by kernel_rfl) (by kernel_rfl) (by kernel_rfl) (fun _ _ _ h => h) (Or.inl ⟨by rfl, ?_⟩) (by assumption) ?_
  rotate_left
  · intro w hSw; (try dsimp only at hSw); go_simp; (try with_reducible rfl)
  try simp only [List.getElem_toArray, List.getElem_cons_zero, List.getElem_cons_succ, Act.put, List.setIfInBounds_toArray, List.set_cons_zero, List.set_cons_succ]
  refine wpAnyH_take (i := 16) (v := ?_) rfl (by kernel_rfl) (by kernel_rfl) (by kernel_rfl) (fun _ _ _ h => h) (Or.inl ⟨by rfl, ?_⟩) (by assumption) ?_
  rotate_left
  · intro w hSw; (try dsimp only at hSw); go_simp; (try with_reducible rfl)
  try simp only [List.getElem_toArray, List.getElem_cons_zero, List.getElem_cons_succ, Act.put, List.setIfInBounds_toArray, List.set_cons_zero, List.set_cons_succ]
  refine wpAnyH_ready (rs := [14]) (by kernel_rfl) (by simp) ?_
  refine AllReadyH.cons rfl (fun K hK => ?_) AllReadyH.nil
  go_simp
  go_at_call 39
  refine (Rb.has th t x _ hHeld.2.1.1).mono ?_
  rintro e w7 ⟨rfl, hb3⟩
  rw [HH.out]
  refine hK.out _ _ ?_ (fun hHeld => ?_)
  · first | with_reducible exact HSEE.out _ (hHeld.2.below hb3) | with_reducible exact HSEE.out _ hHeld.2
  clear hK K
  try simp only [List.getElem_toArray, List.getElem_cons_zero, List.getElem_cons_succ, Act.put, List.setIfInBounds_toArray, List.set_cons_zero, List.set_cons_succ]
  refine wpAnyH_ready (rs := [17]) (by kernel_rfl) (by simp) ?_
  refine AllReadyH.cons rfl (fun K hK => ?_) AllReadyH.nil
  go_simp
  go_at_call 72
  refine (Ref6.has _ t.list.length c t.list x _ hHeld.2.2.1 (by omega)).mono ?_
  rintro e w8 ⟨rfl, rfl⟩
  refine hK.out _ _ ?_ (fun hHeld => ?_)
  · first | with_reducible exact HSEE.out _ (hHeld.2.below hb3) | with_reducible exact HSEE.out _ hHeld.2
  clear hK K
  try simp only [List.getElem_toArray, List.getElem_cons_zero, List.getElem_cons_succ, Act.put, List.setIfInBounds_toArray, List.set_cons_zero, List.set_cons_succ]
  refine wpAnyH_take (i := 18) (v := ?_) rfl (by kernel_rfl) (by kernel_rfl) (by kernel_rfl) (fun _ _ _ h => h) (Or.inl ⟨by rfl, ?_⟩) (by assumption) ?_
  rotate_left
  · intro w hSw; (try dsimp only at hSw); go_simp; (try with_reducible rfl)
  try simp only [List.getElem_toArray, List.getElem_cons_zero, List.getElem_cons_succ, Act.put, List.setIfInBounds_toArray, List.set_cons_zero, List.set_cons_succ]
  refine wpAnyH_take (i := 19) (v := ?_) rfl (by kernel_rfl) (by kernel_rfl) (by kernel_rfl) (fun _ _ _ h => h) (Or.inl ⟨by rfl, ?_⟩) (by assumption) ?_
  rotate_left
  · intro w hSw; (try dsimp only at hSw); go_simp; (try with_reducible rfl)
  try simp only [List.getElem_toArray, List.getElem_cons_zero, List.getElem_cons_succ, Act.put, List.setIfInBounds_toArray, List.set_cons_zero, List.set_cons_succ]
  refine wpAnyH_take (i := 20) (v := ?_) rfl (by kernel_rfl) (by kernel_rfl) (by kernel_rfl) (fun _ _ _ h => h) (Or.inl ⟨by rfl, ?_⟩) (by assumption) ?_
  rotate_left
  · intro w hSw; (try dsimp only at hSw); go_simp; (try with_reducible rfl)
  try simp only [List.getElem_toArray, List.getElem_cons_zero, List.getElem_cons_succ, Act.put, List.setIfInBounds_toArray, List.set_cons_zero, List.set_cons_succ]
  refine wpAnyH_take (i := 21) (v := ?_) rfl (by kernel_rfl) (by kernel_rfl) (by kernel_rfl) (fun _ _ _ h => h) (Or.inl ⟨by rfl, ?_⟩) (by assumption) ?_
  rotate_left
  · intro w hSw; (try dsimp only at hSw); go_simp; (try with_reducible rfl)
  try simp only [List.getElem_toArray, List.getElem_cons_zero, List.getElem_cons_succ, Act.put, List.setIfInBounds_toArray, List.set_cons_zero, List.set_cons_succ]
  refine wpAnyH_take (i := 22) (v := ?_) rfl (by kernel_rfl) (by kernel_rfl) (by kernel_rfl) (fun _ _ _ h => h) (Or.inl ⟨by rfl, ?_⟩) (by assumption) ?_
  rotate_left
  · intro w hSw; (try dsimp only at hSw); go_simp; (try with_reducible rfl)
  try simp only [List.getElem_toArray, List.getElem_cons_zero, List.getElem_cons_succ, Act.put, List.setIfInBounds_toArray, List.set_cons_zero, List.set_cons_succ]
  refine wpAnyH_take (i := 23) (v := ?_) rfl (by kernel_rfl) (by kernel_rfl) (by kernel_rfl) (fun _ _ _ h => h) (Or.inl ⟨by rfl, ?_⟩) (by assumption) ?_
  rotate_left
  · intro w hSw; (try dsimp only at hSw); go_simp; (try with_reducible rfl)
  try simp only [List.getElem_toArray, List.getElem_cons_zero, List.getElem_cons_succ, Act.put, List.setIfInBounds_toArray, List.set_cons_zero, List.set_cons_succ]
  refine wpAnyH_take (i := 24) (v := ?_) rfl (by kernel_rfl) (by kernel_rfl) (by kernel_rfl) (fun _ _ _ h => h) (Or.inl ⟨by rfl, ?_⟩) (by assumption) ?_
  rotate_left
  · intro w hSw; (try dsimp only at hSw); go_simp; (try with_reducible rfl)
  try simp only [List.getElem_toArray, List.getElem_cons_zero, List.getElem_cons_succ, Act.put, List.setIfInBounds_toArray, List.set_cons_zero, List.set_cons_succ]
  refine wpAnyH_take (i := 25) (v := ?_) rfl (by kernel_rfl) (by kernel_rfl) (by kernel_rfl) (fun _ _ _ h => h) (Or.inl ⟨by rfl, ?_⟩) (by assumption) ?_
  rotate_left
  · intro w hSw; (try dsimp only at hSw); go_simp; (try with_reducible rfl)
  try simp only [List.getElem_toArray, List.getElem_cons_zero, List.getElem_cons_succ, Act.put, List.setIfInBounds_toArray, List.set_cons_zero, List.set_cons_succ]
  refine wpAnyH_take (i := 26) (v := ?_) rfl (by kernel_rfl) (by kernel_rfl) (by kernel_rfl) (fun _ _ _ h => h) (Or.inl ⟨by rfl, ?_⟩) (by assumption) ?_
  rotate_left
  · intro w hSw; (try dsimp only at hSw); go_simp; (try with_reducible rfl)
  try simp only [List.getElem_toArray, List.getElem_cons_zero, List.getElem_cons_succ, Act.put, List.setIfInBounds_toArray, List.set_cons_zero, List.set_cons_succ]
  refine wpAnyH_take (i := 27) (v := ?_) rfl (by kernel_rfl) (by kernel_rfl) (by kernel_rfl) (fun _ _ _ h => h) (Or.inl ⟨by rfl, ?_⟩) (by assumption) ?_
  rotate_left
  · intro w hSw; (try dsimp only at hSw); go_simp; (try with_reducible rfl)
  try simp only [List.getElem_toArray, List.getElem_cons_zero, List.getElem_cons_succ, Act.put, List.setIfInBounds_toArray, List.set_cons_zero, List.set_cons_succ]
  refine wpAnyH_take (i := 28) (v := ?_) rfl (by kernel_rfl) (by kernel_rfl) (by kernel_rfl) (fun _ _ _ h => h) (Or.inl ⟨by rfl, ?_⟩) (by assumption) ?_
  rotate_left
  · intro w hSw; (try dsimp only at hSw); go_simp; (try with_reducible rfl)
  try simp only [List.getElem_toArray, List.getElem_cons_zero, List.getElem_cons_succ, Act.put, List.setIfInBounds_toArray, List.set_cons_zero, List.set_cons_succ]
  refine wpAnyH_take (i := 29) (v := ?_) rfl (by kernel_rfl) (by kernel_rfl) (by kernel_rfl) (fun _ _ _ h => h) (Or.inl ⟨by rfl, ?_⟩) (by assumption) ?_
  rotate_left
  · intro w hSw; (try dsimp only at hSw); go_simp; (try with_reducible rfl)
  try simp only [List.getElem_toArray, List.getElem_cons_zero, List.getElem_cons_succ, Act.put, List.setIfInBounds_toArray, List.set_cons_zero, List.set_cons_succ]
  refine wpAnyH_take (i := 30) (v := ?_) rfl (by kernel_rfl) (by kernel_rfl) (by kernel_rfl) (fun _ _ _ h => h) (Or.inl ⟨by rfl, ?_⟩) (by assumption) ?_
  rotate_left
  · intro w hSw; (try dsimp only at hSw); go_simp; (try with_reducible rfl)
  try simp only [List.getElem_toArray, List.getElem_cons_zero, List.getElem_cons_succ, Act.put, List.setIfInBounds_toArray, List.set_cons_zero, List.set_cons_succ]
  refine wpAnyH_take (i := 31) (v := ?_) rfl (by kernel_rfl) (by kernel_rfl) (by kernel_rfl) (fun _ _ _ h => h) (Or.inl ⟨by rfl, ?_⟩) (by assumption) ?_
  rotate_left
  · intro w hSw; (try dsimp only at hSw); go_simp; (try with_reducible rfl)
  try simp only [List.getElem_toArray, List.getElem_cons_zero, List.getElem_cons_succ, Act.put, List.setIfInBounds_toArray, List.set_cons_zero, List.set_cons_succ]
  refine wpAnyH_take (i := 32) (v := ?_) rfl (by kernel_rfl) (by kernel_rfl) (by kernel_rfl) (fun _ _ _ h => h) (Or.inl ⟨by rfl, ?_⟩) (by assumption) ?_
  rotate_left
  · intro w hSw; (try dsimp only at hSw); go_simp; (try with_reducible rfl)
  try simp only [List.getElem_toArray, List.getElem_cons_zero, List.getElem_cons_succ, Act.put, List.setIfInBounds_toArray, List.set_cons_zero, List.set_cons_succ]
  refine wpAnyH_take (i := 33) (v := ?_) rfl (by kernel_rfl) (by kernel_rfl) (by kernel_rfl) (fun _ _ _ h => h) (Or.inl ⟨by rfl, ?_⟩) (by assumption) ?_
  rotate_left
  · intro w hSw; (try dsimp only at hSw); go_simp; (try with_reducible rfl)
  try simp only [List.getElem_toArray, List.getElem_cons_zero, List.getElem_cons_succ, Act.put, List.setIfInBounds_toArray, List.set_cons_zero, List.set_cons_succ]
  refine wpAnyH_take (i := 34) (v := ?_) rfl (by kernel_rfl) (by kernel_rfl) (by kernel_rfl) (fun _ _ _ h => h) (Or.inl ⟨by rfl, ?_⟩) (by assumption) ?_
  rotate_left
  · intro w hSw; (try dsimp only at hSw); go_simp; (try with_reducible rfl)
  try simp only [List.getElem_toArray, List.getElem_cons_zero, List.getElem_cons_succ, Act.put, List.setIfInBounds_toArray, List.set_cons_zero, List.set_cons_succ]
  refine wpAnyH_take (i := 35) (v := undef) rfl (by kernel_rfl) (by kernel_rfl) (by kernel_rfl) (fun _ _ _ h => h) (Or.inr ⟨by rfl, rfl⟩) (by assumption) ?_
  try simp only [List.getElem_toArray, List.getElem_cons_zero, List.getElem_cons_succ, Act.put, List.setIfInBounds_toArray, List.set_cons_zero, List.set_cons_succ]
  refine wpAnyH_take (i := 36) (v := undef) rfl (by kernel_rfl) (by kernel_rfl) (by kernel_rfl) (fun _ _ _ h => h) (Or.inr ⟨by rfl, rfl⟩) (by assumption) ?_
  try simp only [List.getElem_toArray, List.getElem_cons_zero, List.getElem_cons_succ, Act.put, List.setIfInBounds_toArray, List.set_cons_zero, List.set_cons_succ]
  refine wpAnyH_take (i := 37) (v := undef) rfl (by kernel_rfl) (by kernel_rfl) (by kernel_rfl) (fun _ _ _ h => h) (Or.inr ⟨by rfl, rfl⟩) (by assumption) ?_
  try simp only [List.getElem_toArray, List.getElem_cons_zero, List.getElem_cons_succ, Act.put, List.setIfInBounds_toArray, List.set_cons_zero, List.set_cons_succ]
  refine wpAnyH_take (i := 38) (v := undef) rfl (by kernel_rfl) (by kernel_rfl) (by kernel_rfl) (fun _ _ _ h => h) (Or.inr ⟨by rfl, rfl⟩) (by assumption) ?_
  try simp only [List.getElem_toArray, List.getElem_cons_zero, List.getElem_cons_succ, Act.put, List.setIfInBounds_toArray, List.set_cons_zero, List.set_cons_succ]
  refine wpAnyH_take (i := 39) (v := undef) rfl (by kernel_rfl) (by kernel_rfl) (by kernel_rfl) (fun _ _ _ h => h) (Or.inr ⟨by rfl, rfl⟩) (by assumption) ?_
  try simp only [List.getElem_toArray, List.getElem_cons_zero, List.getElem_cons_succ, Act.put, List.setIfInBounds_toArray, List.set_cons_zero, List.set_cons_succ]
  refine wpAnyH_take (i := 40) (v := undef) rfl (by kernel_rfl) (by kernel_rfl) (by kernel_rfl) (fun _ _ _ h => h) (Or.inr ⟨by rfl, rfl⟩) (by assumption) ?_
  try simp only [List.getElem_toArray, List.getElem_cons_zero, List.getElem_cons_succ, Act.put, List.setIfInBounds_toArray, List.set_cons_zero, List.set_cons_succ]
  refine wpAnyH_take (i := 41) (v := undef) rfl (by kernel_rfl) (by kernel_rfl) (by kernel_rfl) (fun _ _ _ h => h) (Or.inr ⟨by rfl, rfl⟩) (by assumption) ?_
  try simp only [List.getElem_toArray, List.getElem_cons_zero, List.getElem_cons_succ, Act.put, List.setIfInBounds_toArray, List.set_cons_zero, List.set_cons_succ]
  refine wpAnyH_take (i := 42) (v := undef) rfl (by kernel_rfl) (by kernel_rfl) (by kernel_rfl) (fun _ _ _ h => h) (Or.inr ⟨by rfl, rfl⟩) (by assumption) ?_
  try simp only [List.getElem_toArray, List.getElem_cons_zero, List.getElem_cons_succ, Act.put, List.setIfInBounds_toArray, List.set_cons_zero, List.set_cons_succ]
  refine wpAnyH_take (i := 43) (v := ?_) rfl (by kernel_rfl) (by kernel_rfl) (by kernel_rfl) (fun _ _ _ h => h) (Or.inl ⟨by rfl, ?_⟩) (by assumption) ?_
  rotate_left
  · intro w hSw; (try dsimp only at hSw); go_simp; (try with_reducible rfl)
  try simp only [List.getElem_toArray, List.getElem_cons_zero, List.getElem_cons_succ, Act.put, List.setIfInBounds_toArray, List.set_cons_zero, List.set_cons_succ]
  refine wpAnyH_take (i := 44) (v := ?_) rfl (by kernel_rfl) (by kernel_rfl) (by kernel_rfl) (fun _ _ _ h => h) (Or.inl ⟨by rfl, ?_⟩) (by assumption) ?_
  rotate_left
  · intro w hSw; (try dsimp only at hSw); go_simp; (try with_reducible rfl)
  try simp only [List.getElem_toArray, List.getElem_cons_zero, List.getElem_cons_succ, Act.put, List.setIfInBounds_toArray, List.set_cons_zero, List.set_cons_succ]
  refine wpAnyH_take (i := 45) (v := ?_) rfl (by kernel_rfl) (by kernel_rfl) (by kernel_rfl) (fun _ _ _ h => h) (Or.inl ⟨by rfl, ?_⟩) (by assumption) ?_
  rotate_left
  · intro w hSw; (try dsimp only at hSw); go_simp; (try with_reducible rfl)
  try simp only [List.getElem_toArray, List.getElem_cons_zero, List.getElem_cons_succ, Act.put, List.setIfInBounds_toArray, List.set_cons_zero, List.set_cons_succ]
  refine wpAnyH_take (i := 46) (v := ?_) rfl (by kernel_rfl) (by kernel_rfl) (by kernel_rfl) (fun _ _ _ h => h) (Or.inl ⟨by rfl, ?_⟩) (by assumption) ?_
  rotate_left
  · intro w hSw; (try dsimp only at hSw); go_simp; (try with_reducible rfl)
  try simp only [List.getElem_toArray, List.getElem_cons_zero, List.getElem_cons_succ, Act.put, List.setIfInBounds_toArray, List.set_cons_zero, List.set_cons_succ]
  refine wpAnyH_take (i := 47) (v := ?_) rfl (by kernel_rfl) (by kernel_rfl) (by kernel_rfl) (fun _ _ _ h => h) (Or.inl ⟨by rfl, ?_⟩) (by assumption) ?_
  rotate_left
  · intro w hSw; (try dsimp only at hSw); go_simp; (try with_reducible rfl)
  try simp only [List.getElem_toArray, List.getElem_cons_zero, List.getElem_cons_succ, Act.put, List.setIfInBounds_toArray, List.set_cons_zero, List.set_cons_succ]
  refine wpAnyH_ready (rs := [48]) (by kernel_rfl) (by simp) ?_
  refine AllReadyH.cons rfl (fun K hK => ?_) AllReadyH.nil
  go_simp
  go_at_call 37
  refine (Sls.equal A2 A3 n2 c2 n3 c3 _ _ _ hHeld.2.2.2.1 hHeld.2.2.2.2.1 (by omega) (by omega)).mono ?_
  rintro e w9 ⟨rfl, hb3⟩
  rw [EQ2.out]
  refine hK.out _ _ ?_ (fun hHeld => ?_)
  · first | with_reducible exact HSEE.out _ (hHeld.2.below hb3) | with_reducible exact HSEE.out _ hHeld.2
  clear hK K
  try simp only [List.getElem_toArray, List.getElem_cons_zero, List.getElem_cons_succ, Act.put, List.setIfInBounds_toArray, List.set_cons_zero, List.set_cons_succ]
  refine wpAnyH_take (i := 49) (v := ?_) rfl (by kernel_rfl) (by kernel_rfl) (by kernel_rfl) (fun _ _ _ h => h) (Or.inl ⟨by rfl, ?_⟩) (by assumption) ?_
  rotate_left
  · intro w hSw; (try dsimp only at hSw); go_simp; (try with_reducible rfl)
  try simp only [List.getElem_toArray, List.getElem_cons_zero, List.getElem_cons_succ, Act.put, List.setIfInBounds_toArray, List.set_cons_zero, List.set_cons_succ]
  refine wpAnyH_take (i := 50) (v := ?_) rfl (by kernel_rfl) (by kernel_rfl) (by kernel_rfl) (fun _ _ _ h => h) (Or.inl ⟨by rfl, ?_⟩) (by assumption) ?_
  rotate_left
  · intro w hSw; (try dsimp only at hSw); go_simp; (try with_reducible rfl)
  try simp only [List.getElem_toArray, List.getElem_cons_zero, List.getElem_cons_succ, Act.put, List.setIfInBounds_toArray, List.set_cons_zero, List.set_cons_succ]
  refine wpAnyH_take (i := 51) (v := ?_) rfl (by kernel_rfl) (by kernel_rfl) (by kernel_rfl) (fun _ _ _ h => h) (Or.inl ⟨by rfl, ?_⟩) (by assumption) ?_
  rotate_left
  · intro w hSw; (try dsimp only at hSw); go_simp; (try with_reducible rfl)
  try simp only [List.getElem_toArray, List.getElem_cons_zero, List.getElem_cons_succ, Act.put, List.setIfInBounds_toArray, List.set_cons_zero, List.set_cons_succ]
  refine wpAnyH_take (i := 52) (v := ?_) rfl (by kernel_rfl) (by kernel_rfl) (by kernel_rfl) (fun _ _ _ h => h) (Or.inl ⟨by rfl, ?_⟩) (by assumption) ?_
  rotate_left
  · intro w hSw; (try dsimp only at hSw); go_simp; (try with_reducible rfl)
  try simp only [List.getElem_toArray, List.getElem_cons_zero, List.getElem_cons_succ, Act.put, List.setIfInBounds_toArray, List.set_cons_zero, List.set_cons_succ]
  refine wpAnyH_take (i := 53) (v := ?_) rfl (by kernel_rfl) (by kernel_rfl) (by kernel_rfl) (fun _ _ _ h => h) (Or.inl ⟨by rfl, ?_⟩) (by assumption) ?_
  rotate_left
  · intro w hSw; (try dsimp only at hSw); go_simp; (try with_reducible rfl)
  try simp only [List.getElem_toArray, List.getElem_cons_zero, List.getElem_cons_succ, Act.put, List.setIfInBounds_toArray, List.set_cons_zero, List.set_cons_succ]
  refine wpAnyH_take (i := 54) (v := ?_) rfl (by kernel_rfl) (by kernel_rfl) (by kernel_rfl) (fun _ _ _ h => h) (Or.inl ⟨by rfl, ?_⟩) (by assumption) ?_
  rotate_left
  · intro w hSw; (try dsimp only at hSw); go_simp; (try with_reducible rfl)
  try simp only [List.getElem_toArray, List.getElem_cons_zero, List.getElem_cons_succ, Act.put, List.setIfInBounds_toArray, List.set_cons_zero, List.set_cons_succ]
  refine wpAnyH_take (i := 55) (v := ?_) rfl (by kernel_rfl) (by kernel_rfl) (by kernel_rfl) (fun _ _ _ h => h) (Or.inl ⟨by rfl, ?_⟩) (by assumption) ?_
  rotate_left
  · intro w hSw; (try dsimp only at hSw); go_simp; (try with_reducible rfl)
  try simp only [List.getElem_toArray, List.getElem_cons_zero, List.getElem_cons_succ, Act.put, List.setIfInBounds_toArray, List.set_cons_zero, List.set_cons_succ]
  refine wpAnyH_take (i := 56) (v := ?_) rfl (by kernel_rfl) (by kernel_rfl) (by kernel_rfl) (fun _ _ _ h => h) (Or.inl ⟨by rfl, ?_⟩) (by assumption) ?_
  rotate_left
  · intro w hSw; (try dsimp only at hSw); go_simp; (try with_reducible rfl)
  try simp only [List.getElem_toArray, List.getElem_cons_zero, List.getElem_cons_succ, Act.put, List.setIfInBounds_toArray, List.set_cons_zero, List.set_cons_succ]
  refine wpAnyH_take (i := 57) (v := ?_) rfl (by kernel_rfl) (by kernel_rfl) (by kernel_rfl) (fun _ _ _ h => h) (Or.inl ⟨by rfl, ?_⟩) (by assumption) ?_
  rotate_left
  · intro w hSw; (try dsimp only at hSw); go_simp; (try with_reducible rfl)
  try simp only [List.getElem_toArray, List.getElem_cons_zero, List.getElem_cons_succ, Act.put, List.setIfInBounds_toArray, List.set_cons_zero, List.set_cons_succ]
  refine wpAnyH_done (by kernel_rfl) ?_ _
  have HFIN := hid hHeld.2.2.2.2.2.2
  go_wp2
  go_ret
  have hfin : (b2 == decide (0 < n3)) = true := by
    rw [HP2.out.2, HLN.out.2]
    cases t.list.filter (fun y => decide (y < x)) <;> simp
  exact ⟨congrArg (fun z => Ending.returned (.bool z)) hfin, HFIN.out⟩
end

/- The tree of numbers: what is told of one that is not empty. -/
section
open Go.RowKit

set_option maxRecDepth 100000 in
set_option maxHeartbeats 4000000 in
theorem Told.node (B th : Nat) (t : Tr Int) (x : Int) (A : Option Addr) (c : Nat) (w : World) (h : Grove B th t w) (hl : RdU .i64 w A t.list.length t.list) (hn : t.list.length ≤ 300000) (hk : t.list.isEmpty = false) :
    Calls Try.prog 32 #[.pointer (some ⟨th, 0, none⟩), .slice A t.list.length c, .int .i64 x] w (Ans (.bool true) w) := by
  have HG := hid h
  have HL := hid hl
  have HK := hid hk
  have HN := hid hn
  have EQ : Hid ((t.list == t.list) = true) := hid (by simp)
  have EQ2 : Hid ((t.list.filter (fun y => decide (y < x)) == t.list.filter (fun y => decide (y < x))) = true) := hid (by simp)
  have HH : Hid (Tr.has ltI x t = decide (x ∈ t.list)) := hid (by
    rw [Bool.eq_iff_iff, decide_eq_true_iff]
    exact Tr.has_iff x t h.2.2.1)
  have HF : Hid (foldT (fun y => decide (y < x)) t [] = t.list.filter (fun y => decide (y < x))) := hid (by
    rw [foldT_eq (fun y => decide (y < x)) (fun a b h1 h2 => by simp at h2 ⊢; omega) t [] h.2.2.1]; rfl)
  have HN2 : Hid ((t.list.filter (fun y => decide (y < x))).length ≤ 300000) := hid (Nat.le_trans (List.length_filter_le _ _) hn)
  have HZ : Hid (∃ b off, A = some ⟨b, off, none⟩ ∧ ∀ w', RdU .i64 w' A t.list.length t.list → w'.cell? ⟨b, off, none⟩ = some (.int .i64 (t.least 0))) := hid (by
    have hp : 0 < t.list.length := by cases ht : t.list with
      | nil => rw [ht] at hk; simp at hk
      | cons a l => simp
    obtain ⟨b, off, e, _⟩ := hl.2 0 hp
    refine ⟨b, off, e, fun w' hr => ?_⟩
    obtain ⟨b', off', e', _, hc⟩ := hr.2 0 hp
    rw [e] at e'
    injection e' with e'
    injection e' with e1 e2
    subst e1 e2
    have := hc 0 hp
    rw [Nat.add_zero] at this
    rw [this, ← Tr.least_list t 0]
    cases t.list with
    | nil => rfl
    | cons a l => rfl)
  have HP : Hid ((0 : Int) < t.list.length) := hid (by cases ht : t.list with
      | nil => rw [ht] at hk; simp at hk
      | cons a l => simp)
  obtain ⟨b, off, hA, hsee⟩ := HZ.out
  have HSC := hid hsee
  have HA := hid hA
  clear hA hsee HZ
  clear h hl hk
  go_enter Try.func32, Try.ntmps32
  go_wp2_with fail
  have HB0 := hid ((Below.refl w.heap.size w).alloc (Nat.le_refl _) (.cells #[.int .i64 x] 3))
  refine (Gr.min B th t _ (HG.out.below HB0.out)).mono ?_
  rintro e w1 ⟨rfl, hb⟩
  rw [HK.out]
  have HB1 := hid (below_on HB0.out hb)
  have HC1 : Hid (w1.cell? ⟨w.heap.size, 0, none⟩ = some (.int .i64 x)) := hid (keep1 hb (by simp))
  clear hb
  go_wp2_with fail
  have hfold := Rb.foldTold th w.heap.size t (fun y => decide (y < x)) w1 (HG.out.below HB1.out).1 (by omega) (fun y w' hb' => Told.lt w.heap.size y x w' (keep1 hb' HC1.out))
  rw [HF.out] at hfold
  refine hfold.mono ?_
  clear hfold
  rintro e w2 ⟨A2, n2, c2, b2, rfl, hp, hb⟩
  have HB2 := hid (below_on HB1.out hb)
  have HP2 := hid hp.rd
  have HC2 := hid (keep1 hb HC1.out)
  have q2 := HC2.out
  clear hb hp
  go_wp2_with fail
  refine (Ref6.below A t.list.length c t.list x _ (HL.out.below HB2.out) (by omega)).mono ?_
  rintro e w3 ⟨A3, n3, c3, rfl, ho, hb⟩
  have HTQ : Hid (Tq B th t A A2 n2 A3 n3 (t.list.filter (fun y => decide (y < x))) w.heap.size x w w3) := hid ⟨HG.out.below (below_on HB2.out hb), HL.out.below (below_on HB2.out hb), HP2.out.1.below hb, ho.rdi, keep1 hb HC2.out, below_on HB2.out hb⟩
  have HLN : Hid (n2 = (t.list.filter (fun y => decide (y < x))).length ∧ n3 = (t.list.filter (fun y => decide (y < x))).length) := hid ⟨HP2.out.1.1.symm, ho.rdi.1.symm⟩
  have hn2 : n2 ≤ 300000 := by have := HLN.out.1; have := HN2.out; omega
  have hn3 : n3 ≤ 300000 := by have := HLN.out.2; have := HN2.out; omega
  clear hb ho q2
  go_wp2_with fail
  have HSEE : Hid (∀ w', Tq B th t A A2 n2 A3 n3 (t.list.filter (fun y => decide (y < x))) w.heap.size x w w' → (fun w' => (w'.cell? ⟨w.heap.size, 0, none⟩ = some (.int .i64 x) ∧ w'.cell? ⟨b, off, none⟩ = some (.int .i64 (t.least 0))) ∧ Tq B th t A A2 n2 A3 n3 (t.list.filter (fun y => decide (y < x))) w.heap.size x w w') w') := hid (fun w' h => ⟨⟨h.2.2.2.2.1, HSC.out _ h.2.1⟩, h⟩)
  have hA := HA.out
  subst hA
  have hpos := HP.out
  have hposn : 0 < t.list.length := by omega
  refine wp_region_held_drew (S := fun w' => (w'.cell? ⟨w.heap.size, 0, none⟩ = some (.int .i64 x) ∧ w'.cell? ⟨b, off, none⟩ = some (.int .i64 (t.least 0))) ∧ Tq B th t (some ⟨b, off, none⟩) A2 n2 A3 n3 (t.list.filter (fun y => decide (y < x))) w.heap.size x w w') (by kernel_rfl) (HSEE.out _ (HTQ.out.below (Below.refl _ _).drew)) (fun hHeld => ?_)
  refine wpAnyH_take (i := 0) (v := ?_) rfl (by kernel_rfl) (by kernel_rfl) (by kernel_rfl) (fun _ _ _ h => h) (Or.inl ⟨by rfl, ?_⟩) (by assumption) ?_
  rotate_left
  · intro w hSw; (try dsimp only at hSw); go_simp; (try with_reducible rfl)
  try simp only [List.getElem_toArray, List.getElem_cons_zero, List.getElem_cons_succ, Act.put, List.setIfInBounds_toArray, List.set_cons_zero, List.set_cons_succ]
  refine wpAnyH_take (i := 2) (v := ?_) rfl (by kernel_rfl) (by kernel_rfl) (by kernel_rfl) (fun _ _ _ h => h) (Or.inl ⟨by rfl, ?_⟩) (by assumption) ?_
  rotate_left
  · intro w hSw; (try dsimp only at hSw); go_simp; (try with_reducible rfl)
  try simp only [List.getElem_toArray, List.getElem_cons_zero, List.getElem_cons_succ, Act.put, List.setIfInBounds_toArray, List.set_cons_zero, List.set_cons_succ]
  refine wpAnyH_ready (rs := [1]) (by kernel_rfl) (by simp) ?_
  refine AllReadyH.cons rfl (fun K hK => ?_) AllReadyH.nil
  go_simp
  go_at_call 38
  refine (Rb.all th t _ hHeld.2.1.1 (by omega)).mono ?_
  rintro e w4 ⟨A4, n4, c4, rfl, ho4, hb3, _, _⟩
  have HO4 := hid ho4; clear ho4
  refine hK.out _ _ ?_ (fun hHeld => ?_)
  · first | with_reducible exact HSEE.out _ (hHeld.2.below hb3) | with_reducible exact HSEE.out _ hHeld.2
  clear hK K
  try simp only [List.getElem_toArray, List.getElem_cons_zero, List.getElem_cons_succ, Act.put, List.setIfInBounds_toArray, List.set_cons_zero, List.set_cons_succ]
  refine wpAnyH_ready (rs := [3]) (by kernel_rfl) (by simp) ?_
  refine AllReadyH.cons rfl (fun K hK => ?_) AllReadyH.nil
  go_simp
  go_at_call 37
  refine (Sls.equal A4 _ n4 c4 t.list.length c t.list t.list _ HO4.out.rdi hHeld.2.2.1 (by have := HO4.out.len; omega) (by omega)).mono ?_
  rintro e w5 ⟨rfl, hb3⟩
  rw [EQ.out]
  refine hK.out _ _ ?_ (fun hHeld => ?_)
  · first | with_reducible exact HSEE.out _ (hHeld.2.below hb3) | with_reducible exact HSEE.out _ hHeld.2
  clear hK K
  try simp only [List.getElem_toArray, List.getElem_cons_zero, List.getElem_cons_succ, Act.put, List.setIfInBounds_toArray, List.set_cons_zero, List.set_cons_succ]
  refine wpAnyH_take (i := 4) (v := ?_) rfl (by kernel_rfl) (by kernel_rfl) (by kernel_rfl) (fun _ _ _ h => h) (Or.inl ⟨by rfl, ?_⟩) (by assumption) ?_
  rotate_left
  · intro w hSw; (try dsimp only at hSw); go_simp; (try with_reducible rfl)
  try simp only [List.getElem_toArray, List.getElem_cons_zero, List.getElem_cons_succ, Act.put, List.setIfInBounds_toArray, List.set_cons_zero, List.set_cons_succ]
  refine wpAnyH_take (i := 5) (v := ?_) rfl (by kernel_rfl) (by kernel_rfl) (by kernel_rfl) (fun _ _ _ h => h) (Or.inl ⟨by rfl, ?_⟩) (by assumption) ?_
  rotate_left
  · intro w hSw; (try dsimp only at hSw); go_simp; (try with_reducible rfl)
  try simp only [List.getElem_toArray, List.getElem_cons_zero, List.getElem_cons_succ, Act.put, List.setIfInBounds_toArray, List.set_cons_zero, List.set_cons_succ]
  refine wpAnyH_take (i := 7) (v := ?_) rfl (by kernel_rfl) (by kernel_rfl) (by kernel_rfl) (fun _ _ _ h => h) (Or.inl ⟨by rfl, ?_⟩) (by assumption) ?_
  rotate_left
  · intro w hSw; (try dsimp only at hSw); go_simp; (try with_reducible rfl)
  try simp only [List.getElem_toArray, List.getElem_cons_zero, List.getElem_cons_succ, Act.put, List.setIfInBounds_toArray, List.set_cons_zero, List.set_cons_succ]
  refine wpAnyH_take (i := 8) (v := ?_) rfl (by kernel_rfl) (by kernel_rfl) (by kernel_rfl) (fun _ _ _ h => h) (Or.inl ⟨by rfl, ?_⟩) (by assumption) ?_
  rotate_left
  · intro w hSw; (try dsimp only at hSw); go_simp; (try with_reducible rfl)
  try simp only [List.getElem_toArray, List.getElem_cons_zero, List.getElem_cons_succ, Act.put, List.setIfInBounds_toArray, List.set_cons_zero, List.set_cons_succ]
  refine wpAnyH_ready (rs := [6]) (by kernel_rfl) (by simp) ?_
  refine AllReadyH.cons rfl (fun K hK => ?_) AllReadyH.nil
  go_simp
  go_at_call 41
  refine (Rb.len th t _ hHeld.2.1.1).mono ?_
  rintro e w6 ⟨rfl, hb3⟩
  refine hK.out _ _ ?_ (fun hHeld => ?_)
  · first | with_reducible exact HSEE.out _ (hHeld.2.below hb3) | with_reducible exact HSEE.out _ hHeld.2
  clear hK K
  try simp only [List.getElem_toArray, List.getElem_cons_zero, List.getElem_cons_succ, Act.put, List.setIfInBounds_toArray, List.set_cons_zero, List.set_cons_succ]
  refine wpAnyH_take (i := 9) (v := ?_) rfl (by kernel_rfl) (by kernel_rfl) (by kernel_rfl) (fun _ _ _ h => h) (Or.inl ⟨by rfl, ?_⟩) (by assumption) ?_
  rotate_left
  · intro w hSw; (try dsimp only at hSw); go_simp; (try with_reducible rfl)
  try simp only [List.getElem_toArray, List.getElem_cons_zero, List.getElem_cons_succ, Act.put, List.setIfInBounds_toArray, List.set_cons_zero, List.set_cons_succ]
  refine wpAnyH_take (i := 10) (v := ?_) rfl (by kernel_rfl) (by kernel_rfl) (by kernel_rfl) (fun _ _ _ h => h) (Or.inl ⟨by rfl, ?_⟩) (by assumption) ?_
  rotate_left
  · intro w hSw; (try dsimp only at hSw); go_simp; (try with_reducible rfl)
  try simp only [List.getElem_toArray, List.getElem_cons_zero, List.getElem_cons_succ, Act.put, List.setIfInBounds_toArray, List.set_cons_zero, List.set_cons_succ]
  refine wpAnyH_take (i := 11) (v := ?_) rfl (by kernel_rfl) (by kernel_rfl) (by kernel_rfl) (fun _ _ _ h => h) (Or.inl ⟨by rfl, ?_⟩) (by assumption) ?_
  rotate_left
  · intro w hSw; (try dsimp only at hSw); go_simp; (try with_reducible rfl)
  try simp only [List.getElem_toArray, List.getElem_cons_zero, List.getElem_cons_succ, Act.put, List.setIfInBounds_toArray, List.set_cons_zero, List.set_cons_succ]
  refine wpAnyH_take (i := 12) (v := ?_) rfl (by kernel_rfl) (by kernel_rfl) (by kernel_rfl) (fun _ _ _ h => h) (Or.inl ⟨by rfl, ?_⟩) (by assumption) ?_
  rotate_left
  · intro w hSw; (try dsimp only at hSw); go_simp; (try with_reducible rfl)
  try simp only [List.getElem_toArray, List.getElem_cons_zero, List.getElem_cons_succ, Act.put, List.setIfInBounds_toArray, List.set_cons_zero, List.set_cons_succ]
  refine wpAnyH_take (i := 13) (v := ?_) rfl (by kernel_rfl) (by kernel_rfl) (by kernel_rfl) (fun _ _ _ h => h) (Or.inl ⟨by rfl, ?_⟩) (by assumption) ?_
  rotate_left
  · intro w hSw; (try dsimp only at hSw); go_simp; (try with_reducible rfl)
  try simp only [List.getElem_toArray, List.getElem_cons_zero, List.getElem_cons_succ, Act.put, List.setIfInBounds_toArray, List.set_cons_zero, List.set_cons_succ]
  refine wpAnyH_take (i := 15) (v := ?_) rfl (by kernel_rfl) (by kernel_rfl) (by kernel_rfl) (fun _ _ _ h => h) (Or.inl ⟨by rfl, ?_⟩) (by assumption) ?_
  rotate_left
  · intro w hSw; (try dsimp only at hSw); go_simp; (try with_reducible rfl)
  try simp only [List.getElem_toArray, List.getElem_cons_zero, List.getElem_cons_succ, Act.put, List.setIfInBounds_toArray, List.set_cons_zero, List.set_cons_succ]
  refine wpAnyH_take (i := 16) (v := ?_) rfl (by kernel_rfl) (by kernel_rfl) (by kernel_rfl) (fun _ _ _ h => h) (Or.inl ⟨by rfl, ?_⟩) (by assumption) ?_
  rotate_left
  · intro w hSw; (try dsimp only at hSw); go_simp; (try with_reducible rfl)
  try simp only [List.getElem_toArray, List.getElem_cons_zero, List.getElem_cons_succ, Act.put, List.setIfInBounds_toArray, List.set_cons_zero, List.set_cons_succ]
  refine wpAnyH_ready (rs := [14]) (by kernel_rfl) (by simp) ?_
  refine AllReadyH.cons rfl (fun K hK => ?_) AllReadyH.nil
  go_simp
  go_at_call 39
  refine (Rb.has th t x _ hHeld.2.1.1).mono ?_
  rintro e w7 ⟨rfl, hb3⟩
  rw [HH.out]
  refine hK.out _ _ ?_ (fun hHeld => ?_)
  · first | with_reducible exact HSEE.out _ (hHeld.2.below hb3) | with_reducible exact HSEE.out _ hHeld.2
  clear hK K
  try simp only [List.getElem_toArray, List.getElem_cons_zero, List.getElem_cons_succ, Act.put, List.setIfInBounds_toArray, List.set_cons_zero, List.set_cons_succ]
  refine wpAnyH_ready (rs := [17]) (by kernel_rfl) (by simp) ?_
  refine AllReadyH.cons rfl (fun K hK => ?_) AllReadyH.nil
  go_simp
  go_at_call 72
  refine (Ref6.has _ t.list.length c t.list x _ hHeld.2.2.1 (by omega)).mono ?_
  rintro e w8 ⟨rfl, rfl⟩
  refine hK.out _ _ ?_ (fun hHeld => ?_)
  · first | with_reducible exact HSEE.out _ (hHeld.2.below hb3) | with_reducible exact HSEE.out _ hHeld.2
  clear hK K
  try simp only [List.getElem_toArray, List.getElem_cons_zero, List.getElem_cons_succ, Act.put, List.setIfInBounds_toArray, List.set_cons_zero, List.set_cons_succ]
  refine wpAnyH_take (i := 18) (v := ?_) rfl (by kernel_rfl) (by kernel_rfl) (by kernel_rfl) (fun _ _ _ h => h) (Or.inl ⟨by rfl, ?_⟩) (by assumption) ?_
  rotate_left
  · intro w hSw; (try dsimp only at hSw); go_simp; (try with_reducible rfl)
  try simp only [List.getElem_toArray, List.getElem_cons_zero, List.getElem_cons_succ, Act.put, List.setIfInBounds_toArray, List.set_cons_zero, List.set_cons_succ]
  refine wpAnyH_take (i := 19) (v := ?_) rfl (by kernel_rfl) (by kernel_rfl) (by kernel_rfl) (fun _ _ _ h => h) (Or.inl ⟨by rfl, ?_⟩) (by assumption) ?_
  rotate_left
  · intro w hSw; (try dsimp only at hSw); go_simp; (try with_reducible rfl)
  try simp only [List.getElem_toArray, List.getElem_cons_zero, List.getElem_cons_succ, Act.put, List.setIfInBounds_toArray, List.set_cons_zero, List.set_cons_succ]
  refine wpAnyH_take (i := 20) (v := ?_) rfl (by kernel_rfl) (by kernel_rfl) (by kernel_rfl) (fun _ _ _ h => h) (Or.inl ⟨by rfl, ?_⟩) (by assumption) ?_
  rotate_left
  · intro w hSw; (try dsimp only at hSw); go_simp; (try with_reducible rfl)
  try simp only [List.getElem_toArray, List.getElem_cons_zero, List.getElem_cons_succ, Act.put, List.setIfInBounds_toArray, List.set_cons_zero, List.set_cons_succ]
  refine wpAnyH_take (i := 21) (v := ?_) rfl (by kernel_rfl) (by kernel_rfl) (by kernel_rfl) (fun _ _ _ h => h) (Or.inl ⟨by rfl, ?_⟩) (by assumption) ?_
  rotate_left
  · intro w hSw; (try dsimp only at hSw); go_simp; (try with_reducible rfl)
  try simp only [List.getElem_toArray, List.getElem_cons_zero, List.getElem_cons_succ, Act.put, List.setIfInBounds_toArray, List.set_cons_zero, List.set_cons_succ]
  refine wpAnyH_take (i := 22) (v := ?_) rfl (by kernel_rfl) (by kernel_rfl) (by kernel_rfl) (fun _ _ _ h => h) (Or.inl ⟨by rfl, ?_⟩) (by assumption) ?_
  rotate_left
  · intro w hSw; (try dsimp only at hSw); go_simp; (try with_reducible rfl)
  try simp only [List.getElem_toArray, List.getElem_cons_zero, List.getElem_cons_succ, Act.put, List.setIfInBounds_toArray, List.set_cons_zero, List.set_cons_succ]
  refine wpAnyH_take (i := 23) (v := ?_) rfl (by kernel_rfl) (by kernel_rfl) (by kernel_rfl) (fun _ _ _ h => h) (Or.inl ⟨by rfl, ?_⟩) (by assumption) ?_
  rotate_left
  · intro w hSw; (try dsimp only at hSw); go_simp; (try with_reducible rfl)
  try simp only [List.getElem_toArray, List.getElem_cons_zero, List.getElem_cons_succ, Act.put, List.setIfInBounds_toArray, List.set_cons_zero, List.set_cons_succ]
  refine wpAnyH_take (i := 24) (v := ?_) rfl (by kernel_rfl) (by kernel_rfl) (by kernel_rfl) (fun _ _ _ h => h) (Or.inl ⟨by rfl, ?_⟩) (by assumption) ?_
  rotate_left
  · intro w hSw; (try dsimp only at hSw); go_simp; (try with_reducible rfl)
  try simp only [List.getElem_toArray, List.getElem_cons_zero, List.getElem_cons_succ, Act.put, List.setIfInBounds_toArray, List.set_cons_zero, List.set_cons_succ]
  refine wpAnyH_take (i := 25) (v := ?_) rfl (by kernel_rfl) (by kernel_rfl) (by kernel_rfl) (fun _ _ _ h => h) (Or.inl ⟨by rfl, ?_⟩) (by assumption) ?_
  rotate_left
  · intro w hSw; (try dsimp only at hSw); go_simp; (try with_reducible rfl)
  try simp only [List.getElem_toArray, List.getElem_cons_zero, List.getElem_cons_succ, Act.put, List.setIfInBounds_toArray, List.set_cons_zero, List.set_cons_succ]
  refine wpAnyH_take (i := 26) (v := ?_) rfl (by kernel_rfl) (by kernel_rfl) (by kernel_rfl) (fun _ _ _ h => h) (Or.inl ⟨by rfl, ?_⟩) (by assumption) ?_
  rotate_left
  · intro w hSw; (try dsimp only at hSw); go_simp; (try with_reducible rfl)
  try simp only [List.getElem_toArray, List.getElem_cons_zero, List.getElem_cons_succ, Act.put, List.setIfInBounds_toArray, List.set_cons_zero, List.set_cons_succ]
  refine wpAnyH_take (i := 27) (v := ?_) rfl (by kernel_rfl) (by kernel_rfl) (by kernel_rfl) (fun _ _ _ h => h) (Or.inl ⟨by rfl, ?_⟩) (by assumption) ?_
  rotate_left
  · intro w hSw; (try dsimp only at hSw); go_simp; (try with_reducible rfl)
  try simp only [List.getElem_toArray, List.getElem_cons_zero, List.getElem_cons_succ, Act.put, List.setIfInBounds_toArray, List.set_cons_zero, List.set_cons_succ]
  refine wpAnyH_take (i := 28) (v := ?_) rfl (by kernel_rfl) (by kernel_rfl) (by kernel_rfl) (fun _ _ _ h => h) (Or.inl ⟨by rfl, ?_⟩) (by assumption) ?_
  rotate_left
  · intro w hSw; (try dsimp only at hSw); go_simp; (try with_reducible rfl)
  try simp only [List.getElem_toArray, List.getElem_cons_zero, List.getElem_cons_succ, Act.put, List.setIfInBounds_toArray, List.set_cons_zero, List.set_cons_succ]
  refine wpAnyH_take (i := 29) (v := ?_) rfl (by kernel_rfl) (by kernel_rfl) (by kernel_rfl) (fun _ _ _ h => h) (Or.inl ⟨by rfl, ?_⟩) (by assumption) ?_
  rotate_left
  · intro w hSw; (try dsimp only at hSw); go_simp; (try with_reducible rfl)
  try simp only [List.getElem_toArray, List.getElem_cons_zero, List.getElem_cons_succ, Act.put, List.setIfInBounds_toArray, List.set_cons_zero, List.set_cons_succ]
  refine wpAnyH_take (i := 30) (v := ?_) rfl (by kernel_rfl) (by kernel_rfl) (by kernel_rfl) (fun _ _ _ h => h) (Or.inl ⟨by rfl, ?_⟩) (by assumption) ?_
  rotate_left
  · intro w hSw; (try dsimp only at hSw); go_simp; (try with_reducible rfl)
  try simp only [List.getElem_toArray, List.getElem_cons_zero, List.getElem_cons_succ, Act.put, List.setIfInBounds_toArray, List.set_cons_zero, List.set_cons_succ]
  refine wpAnyH_take (i := 31) (v := undef) rfl (by kernel_rfl) (by kernel_rfl) (by kernel_rfl) (fun _ _ _ h => h) (Or.inr ⟨by rfl, rfl⟩) (by assumption) ?_
  try simp only [List.getElem_toArray, List.getElem_cons_zero, List.getElem_cons_succ, Act.put, List.setIfInBounds_toArray, List.set_cons_zero, List.set_cons_succ]
  refine wpAnyH_take (i := 32) (v := undef) rfl (by kernel_rfl) (by kernel_rfl) (by kernel_rfl) (fun _ _ _ h => h) (Or.inr ⟨by rfl, rfl⟩) (by assumption) ?_
  try simp only [List.getElem_toArray, List.getElem_cons_zero, List.getElem_cons_succ, Act.put, List.setIfInBounds_toArray, List.set_cons_zero, List.set_cons_succ]
  refine wpAnyH_take (i := 33) (v := ?_) rfl (by kernel_rfl) (by kernel_rfl) (by kernel_rfl) (fun _ _ _ h => h) (Or.inl ⟨by rfl, ?_⟩) (by assumption) ?_
  rotate_left
  · intro w hSw; (try dsimp only at hSw); go_simp; (try with_reducible rfl)
  try simp only [List.getElem_toArray, List.getElem_cons_zero, List.getElem_cons_succ, Act.put, List.setIfInBounds_toArray, List.set_cons_zero, List.set_cons_succ]
  refine wpAnyH_take (i := 34) (v := ?_) rfl (by kernel_rfl) (by kernel_rfl) (by kernel_rfl) (fun _ _ _ h => h) (Or.inl ⟨by rfl, ?_⟩) (by assumption) ?_
  rotate_left
  · intro w hSw; (try dsimp only at hSw); go_simp; (try with_reducible rfl)
  try simp only [List.getElem_toArray, List.getElem_cons_zero, List.getElem_cons_succ, Act.put, List.setIfInBounds_toArray, List.set_cons_zero, List.set_cons_succ]
  refine wpAnyH_take (i := 35) (v := ?_) rfl (by kernel_rfl) (by kernel_rfl) (by kernel_rfl) (fun _ _ _ h => h) (Or.inl ⟨by rfl, ?_⟩) (by assumption) ?_
  rotate_left
  · intro w hSw; (try dsimp only at hSw); go_simp; (try with_reducible rfl)
  try simp only [List.getElem_toArray, List.getElem_cons_zero, List.getElem_cons_succ, Act.put, List.setIfInBounds_toArray, List.set_cons_zero, List.set_cons_succ]
  refine wpAnyH_take (i := 36) (v := ?_) rfl (by kernel_rfl) (by kernel_rfl) (by kernel_rfl) (fun _ _ _ h => h) (Or.inl ⟨by rfl, ?_⟩) (by assumption) ?_
  rotate_left
  · intro w hSw; (try dsimp only at hSw); go_simp; (try with_reducible rfl)
  try simp only [List.getElem_toArray, List.getElem_cons_zero, List.getElem_cons_succ, Act.put, List.setIfInBounds_toArray, List.set_cons_zero, List.set_cons_succ]
  refine wpAnyH_take (i := 37) (v := ?_) rfl (by kernel_rfl) (by kernel_rfl) (by kernel_rfl) (fun _ _ _ h => h) (Or.inl ⟨by rfl, ?_⟩) (by assumption) ?_
  rotate_left
  · intro w hSw; (try dsimp only at hSw); go_simp; (try with_reducible rfl)
  try simp only [List.getElem_toArray, List.getElem_cons_zero, List.getElem_cons_succ, Act.put, List.setIfInBounds_toArray, List.set_cons_zero, List.set_cons_succ]
  refine wpAnyH_take (i := 38) (v := ?_) rfl (by kernel_rfl) (by kernel_rfl) (by kernel_rfl) (fun _ _ _ h => h) (Or.inl ⟨by rfl, ?_⟩) (by assumption) ?_
  rotate_left
  · intro w hSw; (try dsimp only at hSw); go_simp; (try with_reducible rfl)
  try simp only [List.getElem_toArray, List.getElem_cons_zero, List.getElem_cons_succ, Act.put, List.setIfInBounds_toArray, List.set_cons_zero, List.set_cons_succ]
  refine wpAnyH_take (i := 39) (v := ?_) rfl (by kernel_rfl) (by kernel_rfl) (by kernel_rfl) (fun _ _ _ h => h) (Or.inl ⟨by rfl, ?_⟩) (by assumption) ?_
  rotate_left
  · intro w hSw; (try dsimp only at hSw); go_simp; (try with_reducible rfl)
  try simp only [List.getElem_toArray, List.getElem_cons_zero, List.getElem_cons_succ, Act.put, List.setIfInBounds_toArray, List.set_cons_zero, List.set_cons_succ]
  refine wpAnyH_take (i := 40) (v := ?_) rfl (by kernel_rfl) (by kernel_rfl) (by kernel_rfl) (fun _ _ _ h => h) (Or.inl ⟨by rfl, ?_⟩) (by assumption) ?_
  rotate_left
  · intro w hSw; (try dsimp only at hSw); go_simp; (try with_reducible rfl)
  try simp only [List.getElem_toArray, List.getElem_cons_zero, List.getElem_cons_succ, Act.put, List.setIfInBounds_toArray, List.set_cons_zero, List.set_cons_succ]
  refine wpAnyH_take (i := 41) (v := ?_) rfl (by kernel_rfl) (by kernel_rfl) (by kernel_rfl) (fun _ _ _ h => h) (Or.inl ⟨by rfl, ?_⟩) (by assumption) ?_
  rotate_left
  · intro w hSw; (try dsimp only at hSw); go_simp; (try with_reducible rfl)
  try simp only [List.getElem_toArray, List.getElem_cons_zero, List.getElem_cons_succ, Act.put, List.setIfInBounds_toArray, List.set_cons_zero, List.set_cons_succ]
  refine wpAnyH_take (i := 42) (v := ?_) rfl (by kernel_rfl) (by kernel_rfl) (by kernel_rfl) (fun _ _ _ h => h) (Or.inl ⟨by rfl, ?_⟩) (by assumption) ?_
  rotate_left
  · intro w hSw; (try dsimp only at hSw); go_simp; (try with_reducible rfl)
  try simp only [List.getElem_toArray, List.getElem_cons_zero, List.getElem_cons_succ, Act.put, List.setIfInBounds_toArray, List.set_cons_zero, List.set_cons_succ]
  refine wpAnyH_take (i := 43) (v := ?_) rfl (by kernel_rfl) (by kernel_rfl) (by kernel_rfl) (fun _ _ _ h => h) (Or.inl ⟨by rfl, ?_⟩) (by assumption) ?_
  rotate_left
  · intro w hSw; (try dsimp only at hSw); go_simp; (try with_reducible rfl)
  try simp only [List.getElem_toArray, List.getElem_cons_zero, List.getElem_cons_succ, Act.put, List.setIfInBounds_toArray, List.set_cons_zero, List.set_cons_succ]
  refine wpAnyH_take (i := 44) (v := ?_) rfl (by kernel_rfl) (by kernel_rfl) (by kernel_rfl) (fun _ _ _ h => h) (Or.inl ⟨by rfl, ?_⟩) (by assumption) ?_
  rotate_left
  · intro w hSw; (try dsimp only at hSw); go_simp; (try with_reducible rfl)
  try simp only [List.getElem_toArray, List.getElem_cons_zero, List.getElem_cons_succ, Act.put, List.setIfInBounds_toArray, List.set_cons_zero, List.set_cons_succ]
  refine wpAnyH_take (i := 45) (v := ?_) rfl (by kernel_rfl) (by kernel_rfl) (by kernel_rfl) (fun _ _ _ h => h) (Or.inl ⟨by rfl, ?_⟩) (by assumption) ?_
  rotate_left
  · intro w hSw; (try dsimp only at hSw); go_simp; (try with_reducible rfl)
  try simp only [List.getElem_toArray, List.getElem_cons_zero, List.getElem_cons_succ, Act.put, List.setIfInBounds_toArray, List.set_cons_zero, List.set_cons_succ]
  refine wpAnyH_take (i := 46) (v := ?_) rfl (by kernel_rfl) (by kernel_rfl) (by kernel_rfl) (fun _ _ _ h => h) (Or.inl ⟨by rfl, ?_⟩) (by assumption) ?_
  rotate_left
  · intro w hSw; (try dsimp only at hSw); go_simp; (try with_reducible rfl)
  try simp only [List.getElem_toArray, List.getElem_cons_zero, List.getElem_cons_succ, Act.put, List.setIfInBounds_toArray, List.set_cons_zero, List.set_cons_succ]
  refine wpAnyH_take (i := 47) (v := ?_) rfl (by kernel_rfl) (by kernel_rfl) (by kernel_rfl) (fun _ _ _ h => h) (Or.inl ⟨by rfl, ?_⟩) (by assumption) ?_
  rotate_left
  · intro w hSw; (try dsimp only at hSw); go_simp; (try with_reducible rfl)
  try simp only [List.getElem_toArray, List.getElem_cons_zero, List.getElem_cons_succ, Act.put, List.setIfInBounds_toArray, List.set_cons_zero, List.set_cons_succ]
  refine wpAnyH_ready (rs := [48]) (by kernel_rfl) (by simp) ?_
  refine AllReadyH.cons rfl (fun K hK => ?_) AllReadyH.nil
  go_simp
  go_at_call 37
  refine (Sls.equal A2 A3 n2 c2 n3 c3 _ _ _ hHeld.2.2.2.1 hHeld.2.2.2.2.1 (by omega) (by omega)).mono ?_
  rintro e w9 ⟨rfl, hb3⟩
  rw [EQ2.out]
  refine hK.out _ _ ?_ (fun hHeld => ?_)
  · first | with_reducible exact HSEE.out _ (hHeld.2.below hb3) | with_reducible exact HSEE.out _ hHeld.2
  clear hK K
  try simp only [List.getElem_toArray, List.getElem_cons_zero, List.getElem_cons_succ, Act.put, List.setIfInBounds_toArray, List.set_cons_zero, List.set_cons_succ]
  refine wpAnyH_take (i := 49) (v := ?_) rfl (by kernel_rfl) (by kernel_rfl) (by kernel_rfl) (fun _ _ _ h => h) (Or.inl ⟨by rfl, ?_⟩) (by assumption) ?_
  rotate_left
  · intro w hSw; (try dsimp only at hSw); go_simp; (try with_reducible rfl)
  try simp only [List.getElem_toArray, List.getElem_cons_zero, List.getElem_cons_succ, Act.put, List.setIfInBounds_toArray, List.set_cons_zero, List.set_cons_succ]
  refine wpAnyH_take (i := 50) (v := ?_) rfl (by kernel_rfl) (by kernel_rfl) (by kernel_rfl) (fun _ _ _ h => h) (Or.inl ⟨by rfl, ?_⟩) (by assumption) ?_
  rotate_left
  · intro w hSw; (try dsimp only at hSw); go_simp; (try with_reducible rfl)
  try simp only [List.getElem_toArray, List.getElem_cons_zero, List.getElem_cons_succ, Act.put, List.setIfInBounds_toArray, List.set_cons_zero, List.set_cons_succ]
  refine wpAnyH_take (i := 51) (v := ?_) rfl (by kernel_rfl) (by kernel_rfl) (by kernel_rfl) (fun _ _ _ h => h) (Or.inl ⟨by rfl, ?_⟩) (by assumption) ?_
  rotate_left
  · intro w hSw; (try dsimp only at hSw); go_simp; (try with_reducible rfl)
  try simp only [List.getElem_toArray, List.getElem_cons_zero, List.getElem_cons_succ, Act.put, List.setIfInBounds_toArray, List.set_cons_zero, List.set_cons_succ]
  refine wpAnyH_take (i := 52) (v := ?_) rfl (by kernel_rfl) (by kernel_rfl) (by kernel_rfl) (fun _ _ _ h => h) (Or.inl ⟨by rfl, ?_⟩) (by assumption) ?_
  rotate_left
  · intro w hSw; (try dsimp only at hSw); go_simp; (try with_reducible rfl)
  try simp only [List.getElem_toArray, List.getElem_cons_zero, List.getElem_cons_succ, Act.put, List.setIfInBounds_toArray, List.set_cons_zero, List.set_cons_succ]
  refine wpAnyH_take (i := 53) (v := ?_) rfl (by kernel_rfl) (by kernel_rfl) (by kernel_rfl) (fun _ _ _ h => h) (Or.inl ⟨by rfl, ?_⟩) (by assumption) ?_
  rotate_left
  · intro w hSw; (try dsimp only at hSw); go_simp; (try with_reducible rfl)
  try simp only [List.getElem_toArray, List.getElem_cons_zero, List.getElem_cons_succ, Act.put, List.setIfInBounds_toArray, List.set_cons_zero, List.set_cons_succ]
  refine wpAnyH_take (i := 54) (v := ?_) rfl (by kernel_rfl) (by kernel_rfl) (by kernel_rfl) (fun _ _ _ h => h) (Or.inl ⟨by rfl, ?_⟩) (by assumption) ?_
  rotate_left
  · intro w hSw; (try dsimp only at hSw); go_simp; (try with_reducible rfl)
  try simp only [List.getElem_toArray, List.getElem_cons_zero, List.getElem_cons_succ, Act.put, List.setIfInBounds_toArray, List.set_cons_zero, List.set_cons_succ]
  refine wpAnyH_take (i := 55) (v := ?_) rfl (by kernel_rfl) (by kernel_rfl) (by kernel_rfl) (fun _ _ _ h => h) (Or.inl ⟨by rfl, ?_⟩) (by assumption) ?_
  rotate_left
  · intro w hSw; (try dsimp only at hSw); go_simp; (try with_reducible rfl)
  try simp only [List.getElem_toArray, List.getElem_cons_zero, List.getElem_cons_succ, Act.put, List.setIfInBounds_toArray, List.set_cons_zero, List.set_cons_succ]
  refine wpAnyH_take (i := 56) (v := ?_) rfl (by kernel_rfl) (by kernel_rfl) (by kernel_rfl) (fun _ _ _ h => h) (Or.inl ⟨by rfl, ?_⟩) (by assumption) ?_
  rotate_left
  · intro w hSw; (try dsimp only at hSw); go_simp; (try with_reducible rfl)
  try simp only [List.getElem_toArray, List.getElem_cons_zero, List.getElem_cons_succ, Act.put, List.setIfInBounds_toArray, List.set_cons_zero, List.set_cons_succ]
  refine wpAnyH_take (i := 57) (v := ?_) rfl (by kernel_rfl) (by kernel_rfl) (by kernel_rfl) (fun _ _ _ h => h) (Or.inl ⟨by rfl, ?_⟩) (by assumption) ?_
  rotate_left
  · intro w hSw; (try dsimp only at hSw); go_simp; (try with_reducible rfl)
  try simp only [List.getElem_toArray, List.getElem_cons_zero, List.getElem_cons_succ, Act.put, List.setIfInBounds_toArray, List.set_cons_zero, List.set_cons_succ]
  refine wpAnyH_done (by kernel_rfl) ?_ _
  have HFIN := hid hHeld.2.2.2.2.2.2
  go_wp2
  go_ret
  have hfin : (b2 == decide (0 < n3)) = true := by
    rw [HP2.out.2, HLN.out.2]
    cases t.list.filter (fun y => decide (y < x)) <;> simp
  exact ⟨congrArg (fun z => Ending.returned (.bool z)) hfin, HFIN.out⟩

theorem Law6.told (B th : Nat) (t : Tr Int) (x : Int) (A : Option Addr) (c : Nat) (w : World) (h : Grove B th t w) (hl : RdU .i64 w A t.list.length t.list) (hn : t.list.length ≤ 300000) :
    Calls Try.prog 32 #[.pointer (some ⟨th, 0, none⟩), .slice A t.list.length c, .int .i64 x] w (Ans (.bool true) w) := by
  cases hk : t.list.isEmpty with
  | true => exact Told.nil B th t x A c w h hl hn hk
  | false => exact Told.node B th t x A c w h hl hn hk
end

/- RbtreePlays: the walk. -/
section
open Go.RowKit

theorem RdU.chg {F : List Nat} {w w' : World} {A : Option Addr} {n : Nat} {L : List Int} (h : RdU .i64 w A n L) (hc : Chg F w w') (hF : 0 < n → ∀ k ∈ rowOf A, k ∉ F) : RdU .i64 w' A n L :=
  ⟨h.1, fun i hi => by
    obtain ⟨b, off, e, hl, hcs⟩ := h.2 i hi
    have hb : b ∉ F := hF (by omega) b (by rw [e]; simp [rowOf])
    exact ⟨b, off, e, Nat.lt_of_lt_of_le hl hc.size, fun j hj => (hc.cell (p := ⟨b, off + j, none⟩) hl hb).trans (hcs j hj)⟩⟩
theorem RdU.row_lt {w : World} {A : Option Addr} {n : Nat} {L : List Int} (h : RdU .i64 w A n L) (hn : 0 < n) : ∀ k ∈ rowOf A, k < w.heap.size := fun k hk => by
  obtain ⟨b, off, e, hl, _⟩ := h.2 0 hn
  rw [e] at hk
  simp [rowOf] at hk
  omega
theorem Grove.weak {B B' th : Nat} {t : Tr Int} {w : World} (h : Grove B th t w) (hB : B' ≤ B) : Grove B' th t w := ⟨h.1, h.2.1, h.2.2.1, Nat.le_trans hB h.2.2.2.1, fun g hg => Nat.le_trans hB (h.2.2.2.2 g hg)⟩
theorem Grove.lt {B th : Nat} {t : Tr Int} {w : World} (h : Grove B th t w) : ∀ g ∈ th :: t.blocks, g < w.heap.size := fun g hg => (h.1.nl2 g hg).lt
theorem Grove.ge {B th : Nat} {t : Tr Int} {w : World} (h : Grove B th t w) : ∀ g ∈ th :: t.blocks, B ≤ g := fun g hg => by
  rcases List.mem_cons.1 hg with rfl | h1
  · exact h.2.2.2.1
  · exact h.2.2.2.2 g h1

/-- The tree, and the list that it should be. -/
def Pl (w : World) (th : Nat) (t : Tr Int) (A : Option Addr) (n : Nat) (L : List Int) (wr : World) : Prop := Grove w.heap.size th t wr ∧ Below w.heap.size w wr ∧ RdU .i64 wr A n L ∧ (0 < n → ∀ k ∈ rowOf A, k ∉ th :: t.blocks)
/-- The elder tree, and its list. -/
def Ol (w : World) (th : Nat) (t : Tr Int) (u : Option Addr) (A : Option Addr) (n : Nat) (wr : World) : Prop := u = none ∨ ∃ oth ot, u = some ⟨oth, 0, none⟩ ∧ n = ot.list.length ∧ Grove w.heap.size oth ot wr ∧ (∀ g ∈ th :: t.blocks, g ∉ oth :: ot.blocks) ∧ RdU .i64 wr A n ot.list ∧ (0 < n → ∀ k ∈ rowOf A, k ∉ th :: t.blocks) ∧ n ≤ 200
theorem Pl.below {w wr w' : World} {th : Nat} {t : Tr Int} {A : Option Addr} {n : Nat} {L : List Int} (h : Pl w th t A n L wr) (hb : Below wr.heap.size wr w') : Pl w th t A n L w' := ⟨h.1.below hb, below_on h.2.1 hb, h.2.2.1.below hb, h.2.2.2⟩
theorem Ol.below {w wr w' : World} {th : Nat} {t : Tr Int} {u A : Option Addr} {n : Nat} (h : Ol w th t u A n wr) (hb : Below wr.heap.size wr w') : Ol w th t u A n w' := by
  rcases h with h | ⟨oth, ot, h1, h2, h3, h4, h5, h6, h7⟩
  · exact Or.inl h
  · exact Or.inr ⟨oth, ot, h1, h2, h3.below hb, h4, h5.below hb, h6, h7⟩
theorem Pl.act {w w1 w2 : World} {th : Nat} {t t' : Tr Int} {A : Option Addr} {n : Nat} {L : List Int} (h : Pl w th t A n L w1) (hg : Grove w.heap.size th t' w2) (hc : Chg (th :: t.blocks) w1 w2) (hn : ∀ g ∈ t'.blocks, g ∈ t.blocks ∨ w1.heap.size ≤ g) : Pl w th t' A n L w2 :=
  ⟨hg, Below.chg h.2.1 hc h.1.ge, h.2.2.1.chg hc h.2.2.2, fun h0 k hk hm => by
    rcases List.mem_cons.1 hm with rfl | h1
    · exact h.2.2.2 h0 _ hk (by simp)
    · rcases hn k h1 with h2 | h2
      · exact h.2.2.2 h0 k hk (by simp [h2])
      · have := h.2.2.1.row_lt h0 k hk; omega⟩
theorem Ol.act {w w1 w2 : World} {th : Nat} {t t' : Tr Int} {u A : Option Addr} {n : Nat} (h : Ol w th t u A n w1) (hg : Grove w.heap.size th t w1) (hc : Chg (th :: t.blocks) w1 w2) (hn : ∀ g ∈ t'.blocks, g ∈ t.blocks ∨ w1.heap.size ≤ g) : Ol w th t' u A n w2 := by
  rcases h with h | ⟨oth, ot, h1, h2, h3, h4, h5, h6, h7⟩
  · exact Or.inl h
  · refine Or.inr ⟨oth, ot, h1, h2, h3.chg2 hc hg.1.nl2 (fun g hg hg' => h4 g hg' hg), fun g hg hg' => ?_, h5.chg hc h6, fun h0 k hk hm => ?_, h7⟩
    · rcases List.mem_cons.1 hg with rfl | h8
      · exact h4 _ (by simp) hg'
      · rcases hn g h8 with h9 | h9
        · exact h4 g (by simp [h9]) hg'
        · have := h3.lt g hg'; omega
    · rcases List.mem_cons.1 hm with rfl | h8
      · exact h6 h0 _ hk (by simp)
      · rcases hn k h8 with h9 | h9
        · exact h6 h0 k hk (by simp [h9])
        · have := h5.row_lt h0 k hk; omega
/-- A list of its own. -/
theorem Pl.own {w w1 w2 : World} {th : Nat} {t : Tr Int} {A B : Option Addr} {n m c : Nat} {L M : List Int} (h : Pl w th t A n L w1) (ho : Own w2 w1.heap.size B m c M) (hb : Below w1.heap.size w1 w2) : Pl w th t B m M w2 :=
  ⟨h.1.below hb, below_on h.2.1 hb, ho.rdi, fun _ k hk hm => by have := (ho.rowIn k hk).1; have := h.1.lt k hm; omega⟩
theorem Pl.clone {w w1 w2 : World} {th th' : Nat} {t t' : Tr Int} {A : Option Addr} {n : Nat} {L : List Int} (h : Pl w th t A n L w1) (hg : Grove w1.heap.size th' t' w2) (hb : Below w1.heap.size w1 w2) : Pl w th' t' A n L w2 :=
  ⟨hg.weak h.2.1.size, below_on h.2.1 hb, h.2.2.1.below hb, fun h0 k hk hm => by have := h.2.2.1.row_lt h0 k hk; have := hg.ge k hm; omega⟩
theorem Ol.clone {w w1 w2 : World} {th th' : Nat} {t t' : Tr Int} {A : Option Addr} (h : Pl w th t A t.list.length t.list w1) (hg : Grove w1.heap.size th' t' w2) (hb : Below w1.heap.size w1 w2) (hn : t.list.length ≤ 200) : Ol w th' t' (some ⟨th, 0, none⟩) A t.list.length w2 :=
  Or.inr ⟨th, t, rfl, rfl, h.1.below hb, fun g hg1 hg2 => by have := h.1.lt g hg2; have := hg.ge g hg1; omega, h.2.2.1.below hb, (h.clone hg hb).2.2.2, hn⟩
/-- The act, as a variable. -/
def Av (av : Nat) (o : Bool) (x : Int) (th : Nat) (t : Tr Int) (wr : World) : Prop := Cs wr av [.bool o, .int .i64 x] ∧ av ∉ th :: t.blocks ∧ av < wr.heap.size
theorem Av.act {w1 w2 : World} {av th : Nat} {o : Bool} {x : Int} {t t' : Tr Int} (h : Av av o x th t w1) (hc : Chg (th :: t.blocks) w1 w2) (hn : ∀ g ∈ t'.blocks, g ∈ t.blocks ∨ w1.heap.size ≤ g) : Av av o x th t' w2 :=
  ⟨h.1.chg hc h.2.1, fun hm => by
    rcases List.mem_cons.1 hm with rfl | h1
    · exact h.2.1 (by simp)
    · rcases hn _ h1 with h2 | h2
      · exact h.2.1 (by simp [h2])
      · have := h.2.2; omega, Nat.lt_of_lt_of_le h.2.2 hc.size⟩
theorem Av.below {w1 w2 : World} {av th : Nat} {o : Bool} {x : Int} {t : Tr Int} (h : Av av o x th t w1) (hb : Below w1.heap.size w1 w2) : Av av o x th t w2 := ⟨h.1.below hb, h.2.1, Nat.lt_of_lt_of_le h.2.2 hb.size⟩
theorem Av.clone {w1 w2 : World} {av th th' : Nat} {o : Bool} {x : Int} {t t' : Tr Int} (h : Av av o x th t w1) (hg : Grove w1.heap.size th' t' w2) (hb : Below w1.heap.size w1 w2) : Av av o x th' t' w2 :=
  ⟨h.1.below hb, fun hm => by have := hg.ge _ hm; have := h.2.2; omega, Nat.lt_of_lt_of_le h.2.2 hb.size⟩
theorem Av.new {B th : Nat} {o : Bool} {x : Int} {t : Tr Int} {wr : World} (h : Grove B th t wr) (T : TypeId) : Av wr.heap.size o x th t (wr.alloc (.cells #[.bool o, .int .i64 x] T)) :=
  ⟨Cs.new2 wr T _ _, fun hm => by have := h.lt _ hm; omega, by simp⟩
/-- What has one number more, or less. -/
theorem len_del {x : Int} {L : List Int} {k : Nat} (h : L.length ≤ k) : (delL x L).length ≤ k + 1 := by have := length_delL x L; omega
theorem len_ins {x : Int} {L : List Int} {k : Nat} (h : L.length ≤ k) : (if x ∈ L then L else insL x L).length ≤ k + 1 := by have := @ins_len x L; omega

theorem bounds_u8 {n : Int} (h : (Lit.int .u8 n).wf = true) : 0 ≤ n ∧ n ≤ 255 := by
  simp [Lit.wf, IntKind.min, IntKind.max, IntKind.bits, IntKind.signed] at h
  omega

theorem Rplays.away (A : Option Addr) (n c : Nat) (cut : Int) (hn : 200 < n) (hm : n ≤ 9223372036854775807) (w : World) :
    Calls Try.prog 5 #[.slice A n c, .int .u8 cut] w (Ans (.bool true) w) := by
  have h1 : (200 : Int) < n := by omega
  go_enter Try.func5, Try.ntmps5
  go_wp2_with fail
  refine (Law6.awake _).mono ?_
  rintro e w1 ⟨rfl, hb⟩
  have HB := hid hb
  clear hb
  go_wp2_with fail
  go_ret
  exact ⟨rfl, HB.out⟩

set_option maxRecDepth 100000 in
set_option maxHeartbeats 8000000 in
theorem Rplays.core (A : Option Addr) (n c : Nat) (ps : List (Bool × Int)) (cut : Int) (hn : n ≤ 200) (hc0 : 0 ≤ cut) (hc1 : cut ≤ 255) (w : World) (h : RdA w A n ps) :
    Calls Try.prog 5 #[.slice A n c, .int .u8 cut] w (Ans (.bool true) w) := by
  have HR := hid h
  have h1 : (n : Int) ≤ 200 := by omega
  have HW : Hid (IntKind.i64.wrap cut = cut) := hid (by rw [IntKind.wrap_i64]; omega)
  clear h hc0 hc1
  go_enter Try.func5, Try.ntmps5
  go_wp2_with fail
  refine (Law6.awake _).mono ?_
  rintro e w1 ⟨rfl, hb⟩
  have HB := hid hb
  clear hb
  go_wp2_with fail
  refine (Law6.new _).mono ?_
  rintro e w2 ⟨th, rfl, hth, ht, hb⟩
  have HG : Hid (Pl w th .nil none 0 [] w2) := hid ⟨News.grove ht (Nat.le_trans HB.out.size hth), below_on HB.out hb, ⟨rfl, fun i hi => absurd hi (by omega)⟩, fun h => absurd h (by omega)⟩
  clear hth ht hb
  go_wp2_with fail
  go_loopg [5, 6, 7, 8, 21] n (fun s a5 a6 a7 a8 a21 wr => ∃ (k th : Nat) (t : Tr Int) (qA : Option Addr) (qc : Nat) (oA : Option Addr) (on oc : Nat) (u : Option Addr), a5 = .pointer (some ⟨th, 0, none⟩) ∧ a6 = .slice qA t.list.length qc ∧ a7 = .slice oA on oc ∧ a8 = .pointer u ∧ a21 = .int .i64 k ∧ k ≤ n ∧ s = n - k ∧ t.list.length ≤ k ∧ Pl w th t qA t.list.length t.list wr ∧ Ol w th t u oA on wr)
  case atStart => exact ⟨0, th, .nil, none, 0, none, 0, 0, none, rfl, rfl, rfl, rfl, rfl, Nat.zero_le _, by omega, by simp [Tr.list], HG.out, Or.inl rfl⟩
  case round =>
    obtain ⟨k, th, t, qA, qc, oA, on, oc, u, rfl, rfl, rfl, rfl, rfl, hk, hs, hl, hp, ho⟩ := hrel
    have HS := hid hs
    have HL := hid hl
    have HP := hid hp
    have HO := hid ho
    clear hs hl hp ho HG
    by_cases hkn : k < n
    · obtain ⟨b, off, rfl, hbs, hc⟩ := HR.out.2 0 (by omega)
      obtain ⟨c0, c1⟩ := hc k hkn
      have c0 := keep1 HP.out.2.1 c0
      have c1 := keep1 HP.out.2.1 c1
      generalize (ps.getD k (false, 0)).1 = o at c0
      generalize (ps.getD k (false, 0)).2 = x at c1
      have hki : (k : Int) < n := by omega
      clear hc hbs
      have HPa := hid (HP.out.below ((Below.refl _ _).alloc (Nat.le_refl _) (.cells #[.bool o, .int .i64 x] 57)))
      have HOa := hid (HO.out.below ((Below.refl _ _).alloc (Nat.le_refl _) (.cells #[.bool o, .int .i64 x] 57)))
      have HAa := hid (Av.new (o := o) (x := x) HP.out.1 57)
      have hw := HW.out
      by_cases hkc : (k : Int) = cut
      · subst hkc
        go_wp2_with fail
        refine (Gr.clone w.heap.size th t _ HPa.out.1 (by have := HL.out; omega)).mono ?_
        rintro e w2 ⟨th2, t2, rfl, hl2, hg2, hb2⟩
        have HP2 := hid (show Pl w th2 t2 qA t2.list.length t2.list w2 from by rw [hl2]; exact HPa.out.clone hg2 hb2)
        have HO2 := hid (Ol.clone HPa.out hg2 hb2 (by have := HL.out; omega))
        have HA2 := hid (HAa.out.clone hg2 hb2)
        have HL2 : Hid (t2.list.length ≤ k) := hid (by rw [hl2]; exact HL.out)
        have hlen : t.list.length = t2.list.length := by rw [hl2]
        have HLE := hid hlen
        clear hg2 hb2 c0 c1 hl2 hlen
        rw [HLE.out] at HO2
        rw [HLE.out]
        cases o with
        | true =>
          skip
          have q0 := HA2.out.1.at0
          have q1 := HA2.out.1.at1
          go_wp2_with fail
          refine (Gr.delete w.heap.size th2 t2 x _ HP2.out.1 HP2.out.2.1.size (by have := HL2.out; omega)).mono ?_
          rintro e w3 ⟨t3, rfl, hl3, hg3, hc3, hn3⟩
          have HP3 := hid (HP2.out.act hg3 hc3 hn3)
          have HO3 := hid (HO2.out.act HP2.out.1 hc3 hn3)
          have HA3 := hid (HA2.out.act hc3 hn3)
          have HL3 := hid hl3
          clear hl3 hg3 hc3 hn3 q0 q1
          have q0 := HA3.out.1.at0
          have q1 := HA3.out.1.at1
          generalize hdb : decide (x ∈ t2.list) = db
          have HDB := hid hdb
          clear hdb
          go_wp2_with fail
          refine (Ref6.delete qA t2.list.length qc t2.list x _ HP3.out.2.2.1 (by have := HL2.out; omega)).mono ?_
          rintro e w4 ⟨A4, n4, c4, rfl, ho4, hb4⟩
          rw [HDB.out]
          have hn4 : n4 = t3.list.length := by rw [HL3.out]; exact ho4.len.symm
          have HP4 := hid (show Pl w _ t3 A4 n4 t3.list w4 from by rw [HL3.out]; exact HP3.out.own ho4 hb4)
          have HO4 := hid (HO3.out.below hb4)
          have HA4 := hid (HA3.out.below hb4)
          subst hn4
          have HL4 : Hid (t3.list.length ≤ k + 1) := hid (by rw [HL3.out]; exact len_del HL2.out)
          clear ho4 hb4 q0 q1
          have q1 := HA4.out.1.at1
          go_wp2_with fail
          refine (Law6.told w.heap.size _ t3 x A4 c4 _ HP4.out.1 HP4.out.2.2.1 (by have := HL4.out; omega)).mono ?_
          rintro e w5 ⟨rfl, hb5⟩
          have HP5 := hid (HP4.out.below hb5)
          have HO5 := hid (HO4.out.below hb5)
          clear hb5 q1
          go_wp2_with fail
          go_roundg (n - (k + 1))
          case measure => have := HS.out; omega
          case rel => exact ⟨k + 1, _, t3, A4, c4, qA, _, qc, some ⟨th, 0, none⟩, rfl, rfl, rfl, rfl, by go_num, by omega, rfl, HL4.out, HP5.out, HO5.out⟩
        | false =>
          skip
          have q0 := HA2.out.1.at0
          have q1 := HA2.out.1.at1
          go_wp2_with fail
          refine (Gr.insert w.heap.size th2 t2 x _ HP2.out.1 HP2.out.2.1.size (by have := HL2.out; omega)).mono ?_
          rintro e w3 ⟨t3, rfl, hl3, hg3, hc3, hn3⟩
          have HP3 := hid (HP2.out.act hg3 hc3 hn3)
          have HO3 := hid (HO2.out.act HP2.out.1 hc3 hn3)
          have HA3 := hid (HA2.out.act hc3 hn3)
          have HL3 := hid hl3
          clear hl3 hg3 hc3 hn3 q0 q1
          have q0 := HA3.out.1.at0
          have q1 := HA3.out.1.at1
          by_cases hx : x ∈ t2.list
          · have HX := hid hx
            clear hx
            rw [decide_eq_true HX.out]
            go_wp2_with fail
            refine (Ref6.insert qA t2.list.length qc t2.list x _ HP3.out.2.2.1 (by have := HL2.out; omega)).mono ?_
            rintro e w4 hri
            rw [InsAns, if_pos HX.out] at hri
            obtain ⟨rfl, rfl⟩ := hri
            have hl3 : t3.list = t2.list := by rw [HL3.out, if_pos HX.out]
            have HP4 := hid (show Pl w _ t3 qA t3.list.length t3.list _ from by rw [hl3]; exact HP3.out)
            have HL4 : Hid (t3.list.length ≤ k + 1) := hid (by rw [hl3]; have := HL2.out; omega)
            have hlen : t2.list.length = t3.list.length := by rw [hl3]
            clear hl3 q0 q1
            have HLEN := hid hlen
            rw [hlen]
            clear hlen
            have HO4 := HO3.out
            (try rw [HLEN.out] at HO4)
            have HO4 := hid HO4
            have HA4 := HA3
            clear HO3
            have q1 := HA4.out.1.at1
            go_wp2_with fail
            refine (Law6.told w.heap.size _ t3 x qA qc _ HP4.out.1 HP4.out.2.2.1 (by have := HL4.out; omega)).mono ?_
            rintro e w5 ⟨rfl, hb5⟩
            have HP5 := hid (HP4.out.below hb5)
            have HO5 := hid (HO4.out.below hb5)
            clear hb5 q1
            go_wp2_with fail
            go_roundg (n - (k + 1))
            case measure => have := HS.out; omega
            case rel => exact ⟨k + 1, _, t3, qA, qc, qA, _, qc, some ⟨th, 0, none⟩, rfl, rfl, rfl, rfl, by go_num, by omega, rfl, HL4.out, HP5.out, HO5.out⟩
          · have HX := hid hx
            clear hx
            rw [decide_eq_false HX.out]
            go_wp2_with fail
            refine (Ref6.insert qA t2.list.length qc t2.list x _ HP3.out.2.2.1 (by have := HL2.out; omega)).mono ?_
            rintro e w4 hri
            rw [InsAns, if_neg HX.out] at hri
            obtain ⟨A4, n4, c4, rfl, ho4, hb4⟩ := hri
            have hl3 : t3.list = insL x t2.list := by rw [HL3.out, if_neg HX.out]
            have hn4 : n4 = t3.list.length := by rw [hl3]; exact ho4.len.symm
            have HP4 := hid (show Pl w _ t3 A4 n4 t3.list w4 from by rw [hl3]; exact HP3.out.own ho4 hb4)
            have HO4 := hid (HO3.out.below hb4)
            have HA4 := hid (HA3.out.below hb4)
            have HL4 : Hid (t3.list.length ≤ k + 1) := hid (by rw [HL3.out]; exact len_ins HL2.out)
            clear hl3 ho4 hb4 q0 q1
            subst hn4
            have q1 := HA4.out.1.at1
            go_wp2_with fail
            refine (Law6.told w.heap.size _ t3 x A4 c4 _ HP4.out.1 HP4.out.2.2.1 (by have := HL4.out; omega)).mono ?_
            rintro e w5 ⟨rfl, hb5⟩
            have HP5 := hid (HP4.out.below hb5)
            have HO5 := hid (HO4.out.below hb5)
            clear hb5 q1
            go_wp2_with fail
            go_roundg (n - (k + 1))
            case measure => have := HS.out; omega
            case rel => exact ⟨k + 1, _, t3, A4, c4, qA, _, qc, some ⟨th, 0, none⟩, rfl, rfl, rfl, rfl, by go_num, by omega, rfl, HL4.out, HP5.out, HO5.out⟩
      · have hkb : ((k : Int) == cut) = false := by rw [beq_eq_false_iff_ne]; exact hkc
        have HKC := hid hkc
        clear hkc
        cases o with
        | true =>
          skip
          have q0 := HAa.out.1.at0
          have q1 := HAa.out.1.at1
          go_wp2_with fail
          refine (Gr.delete w.heap.size th t x _ HPa.out.1 HPa.out.2.1.size (by have := HL.out; omega)).mono ?_
          rintro e w3 ⟨t3, rfl, hl3, hg3, hc3, hn3⟩
          have HP3 := hid (HPa.out.act hg3 hc3 hn3)
          have HO3 := hid (HOa.out.act HPa.out.1 hc3 hn3)
          have HA3 := hid (HAa.out.act hc3 hn3)
          have HL3 := hid hl3
          clear hl3 hg3 hc3 hn3 q0 q1
          have q0 := HA3.out.1.at0
          have q1 := HA3.out.1.at1
          generalize hdb : decide (x ∈ t.list) = db
          have HDB := hid hdb
          clear hdb
          go_wp2_with fail
          refine (Ref6.delete qA t.list.length qc t.list x _ HP3.out.2.2.1 (by have := HL.out; omega)).mono ?_
          rintro e w4 ⟨A4, n4, c4, rfl, ho4, hb4⟩
          rw [HDB.out]
          have hn4 : n4 = t3.list.length := by rw [HL3.out]; exact ho4.len.symm
          have HP4 := hid (show Pl w _ t3 A4 n4 t3.list w4 from by rw [HL3.out]; exact HP3.out.own ho4 hb4)
          have HO4 := hid (HO3.out.below hb4)
          have HA4 := hid (HA3.out.below hb4)
          subst hn4
          have HL4 : Hid (t3.list.length ≤ k + 1) := hid (by rw [HL3.out]; exact len_del HL.out)
          clear ho4 hb4 q0 q1
          have q1 := HA4.out.1.at1
          go_wp2_with fail
          refine (Law6.told w.heap.size _ t3 x A4 c4 _ HP4.out.1 HP4.out.2.2.1 (by have := HL4.out; omega)).mono ?_
          rintro e w5 ⟨rfl, hb5⟩
          have HP5 := hid (HP4.out.below hb5)
          have HO5 := hid (HO4.out.below hb5)
          clear hb5 q1
          go_wp2_with fail
          go_roundg (n - (k + 1))
          case measure => have := HS.out; omega
          case rel => exact ⟨k + 1, _, t3, A4, c4, oA, on, oc, u, rfl, rfl, rfl, rfl, by go_num, by omega, rfl, HL4.out, HP5.out, HO5.out⟩
        | false =>
          skip
          have q0 := HAa.out.1.at0
          have q1 := HAa.out.1.at1
          go_wp2_with fail
          refine (Gr.insert w.heap.size th t x _ HPa.out.1 HPa.out.2.1.size (by have := HL.out; omega)).mono ?_
          rintro e w3 ⟨t3, rfl, hl3, hg3, hc3, hn3⟩
          have HP3 := hid (HPa.out.act hg3 hc3 hn3)
          have HO3 := hid (HOa.out.act HPa.out.1 hc3 hn3)
          have HA3 := hid (HAa.out.act hc3 hn3)
          have HL3 := hid hl3
          clear hl3 hg3 hc3 hn3 q0 q1
          have q0 := HA3.out.1.at0
          have q1 := HA3.out.1.at1
          by_cases hx : x ∈ t.list
          · have HX := hid hx
            clear hx
            rw [decide_eq_true HX.out]
            go_wp2_with fail
            refine (Ref6.insert qA t.list.length qc t.list x _ HP3.out.2.2.1 (by have := HL.out; omega)).mono ?_
            rintro e w4 hri
            rw [InsAns, if_pos HX.out] at hri
            obtain ⟨rfl, rfl⟩ := hri
            have hl3 : t3.list = t.list := by rw [HL3.out, if_pos HX.out]
            have HP4 := hid (show Pl w _ t3 qA t3.list.length t3.list _ from by rw [hl3]; exact HP3.out)
            have HL4 : Hid (t3.list.length ≤ k + 1) := hid (by rw [hl3]; have := HL.out; omega)
            have hlen : t.list.length = t3.list.length := by rw [hl3]
            clear hl3 q0 q1
            have HLEN := hid hlen
            rw [hlen]
            clear hlen
            have HO4 := HO3.out
            (try rw [HLEN.out] at HO4)
            have HO4 := hid HO4
            have HA4 := HA3
            clear HO3
            have q1 := HA4.out.1.at1
            go_wp2_with fail
            refine (Law6.told w.heap.size _ t3 x qA qc _ HP4.out.1 HP4.out.2.2.1 (by have := HL4.out; omega)).mono ?_
            rintro e w5 ⟨rfl, hb5⟩
            have HP5 := hid (HP4.out.below hb5)
            have HO5 := hid (HO4.out.below hb5)
            clear hb5 q1
            go_wp2_with fail
            go_roundg (n - (k + 1))
            case measure => have := HS.out; omega
            case rel => exact ⟨k + 1, _, t3, qA, qc, oA, on, oc, u, rfl, rfl, rfl, rfl, by go_num, by omega, rfl, HL4.out, HP5.out, HO5.out⟩
          · have HX := hid hx
            clear hx
            rw [decide_eq_false HX.out]
            go_wp2_with fail
            refine (Ref6.insert qA t.list.length qc t.list x _ HP3.out.2.2.1 (by have := HL.out; omega)).mono ?_
            rintro e w4 hri
            rw [InsAns, if_neg HX.out] at hri
            obtain ⟨A4, n4, c4, rfl, ho4, hb4⟩ := hri
            have hl3 : t3.list = insL x t.list := by rw [HL3.out, if_neg HX.out]
            have hn4 : n4 = t3.list.length := by rw [hl3]; exact ho4.len.symm
            have HP4 := hid (show Pl w _ t3 A4 n4 t3.list w4 from by rw [hl3]; exact HP3.out.own ho4 hb4)
            have HO4 := hid (HO3.out.below hb4)
            have HA4 := hid (HA3.out.below hb4)
            have HL4 : Hid (t3.list.length ≤ k + 1) := hid (by rw [HL3.out]; exact len_ins HL.out)
            clear hl3 ho4 hb4 q0 q1
            subst hn4
            have q1 := HA4.out.1.at1
            go_wp2_with fail
            refine (Law6.told w.heap.size _ t3 x A4 c4 _ HP4.out.1 HP4.out.2.2.1 (by have := HL4.out; omega)).mono ?_
            rintro e w5 ⟨rfl, hb5⟩
            have HP5 := hid (HP4.out.below hb5)
            have HO5 := hid (HO4.out.below hb5)
            clear hb5 q1
            go_wp2_with fail
            go_roundg (n - (k + 1))
            case measure => have := HS.out; omega
            case rel => exact ⟨k + 1, _, t3, A4, c4, oA, on, oc, u, rfl, rfl, rfl, rfl, by go_num, by omega, rfl, HL4.out, HP5.out, HO5.out⟩
    · obtain rfl : k = n := by omega
      have hki : ¬ (k : Int) < k := by omega
      rcases HO.out with rfl | ⟨oth, ot, rfl, rfl, h3, _, h5, _, h7⟩
      · go_wp2_with fail
        go_ret
        exact ⟨rfl, HP.out.2.1⟩
      · have H3 := hid h3
        have H5 := hid h5
        have H7 := hid h7
        clear h3 h5 h7
        go_wp2_with fail
        refine (Law6.told w.heap.size oth ot 0 oA oc _ H3.out H5.out (by have := H7.out; omega)).mono ?_
        rintro e w5 ⟨rfl, hb5⟩
        have HP5 := hid (HP.out.below hb5)
        clear hb5
        go_wp2_with fail
        go_ret
        exact ⟨rfl, HP5.out.2.1⟩

theorem Rplays.law (A : Option Addr) (n c : Nat) (ps : List (Bool × Int)) (cut : Int) (w : World) (h : RdA w A n ps ∧ n ≤ 9223372036854775807) (hw : (Lit.int .u8 cut).wf = true) :
    Calls Try.prog 5 #[.slice A n c, .int .u8 cut] w (Ans (.bool true) w) := by
  have hc := bounds_u8 hw
  by_cases hn : n ≤ 200
  · exact Rplays.core A n c ps cut hn hc.1 hc.2 w h.1
  · exact Rplays.away A n c cut (by omega) h.2 w
end

end Go.Proofs.Ytmklbmiddeonkaa

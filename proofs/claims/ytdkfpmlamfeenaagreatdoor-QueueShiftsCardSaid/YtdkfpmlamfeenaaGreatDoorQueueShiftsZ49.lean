/- Texts of QueueShifts's proof, together. -/
import Derived.Test.YtdkfpmlamfeenaaGreatDoorQueueShiftsZ48
import Derived.Test.YtdkfpmlamfeenaaGreatDoorQueueShiftsZ44
import Derived.Test.YtdkfpmlamfeenaaGreatDoorQueueShiftsZ30
import Derived.Test.YtdkfpmlamfeenaaGreatDoorQueueShiftsZ29
import Derived.Test.YtdkfpmlamfeenaaGreatDoorQueueShiftsZ41
import Derived.Test.YtdkfpmlamfeenaaGreatDoorQueueShiftsZ10
import Derived.Deep.DeepCutAuto
namespace Go.Proofs.YtdkfpmlamfeenaaGreatDoor

section
open Go.RowKit
theorem DIn.cell0 {w : World} : ∀ {t : Tr It}, DIn w t → ∀ g ∈ t.blocks, ∃ u, w.cell? ⟨g, 0, none⟩ = some (.int .u64 u) := by
  intro t
  induction t with
  | nil => intro _ g hg; simp [Tr.blocks] at hg
  | node g c l y r ihl ihr =>
    intro h k hk
    rcases List.mem_cons.1 (show k ∈ g :: (l.blocks ++ r.blocks) by simpa [Tr.blocks] using hk) with rfl | hk
    · obtain ⟨A, hc⟩ := h.node
      exact ⟨_, hc.th.1⟩
    · rcases List.mem_append.1 hk with hk | hk
      · exact ihl h.2.1 k hk
      · exact ihr h.2.2 k hk
theorem QAt.footcell {w : World} {q mb th : Nat} {m : Mu} {t : Tr It} (h : QAt w q mb th m t) : ∀ g ∈ foot q mb th t, ∀ f a c, w.cell? ⟨g, 0, none⟩ = some (.func f a c) → f = .func 41 := by
  intro g hg f a c hc
  simp only [foot, List.mem_cons] at hg
  rcases hg with rfl | rfl | rfl | hg
  · rw [h.at.1] at hc; cases hc
  · rw [h.1.2.1.cell 0] at hc; cases hc
  · obtain ⟨_, _, t0, _⟩ := h.1.2.2.1
    rw [t0.at0] at hc
    injection hc with hc
    injection hc with e _ _
    exact e.symm
  · obtain ⟨u, hu⟩ := h.1.2.2.2.1.cell0 g hg
    rw [hu] at hc; cases hc
theorem DEnv.apart {F : List Nat} {w w' : World} {th : Nat} {root : Value} {n : Int} (h : DEnv w th root n) (hc : Chg F w w') (ht : th ∉ F) (hF : ∀ g ∈ F, ∀ f a c, w.cell? ⟨g, 0, none⟩ = some (.func f a c) → f = .func 41) : DEnv w' th root n := by
  obtain ⟨b1, b2, h0, h1, h2, n0, n1, n2, n3, n4⟩ := h
  have f1 : b1 ∉ F := fun hf => by have := hF _ hf _ _ _ h1.at0; injection this with e; exact absurd e (by decide)
  have f2 : b2 ∉ F := fun hf => by have := hF _ hf _ _ _ h2.at0; injection this with e; exact absurd e (by decide)
  exact ⟨b1, b2, h0.chg hc ht, h1.chg hc f1, h2.chg hc f2, (hc.cell (p := ⟨th, 14, none⟩) h0.lt ht).trans n0, (hc.cell (p := ⟨b1, 14, none⟩) h1.lt f1).trans n1, (hc.cell (p := ⟨b2, 14, none⟩) h2.lt f2).trans n2, n3, n4⟩
theorem QAt.apart {w w' : World} {q mb th p mc tc : Nat} {m k : Mu} {t u : Tr It} (h : QAt w q mb th m t) (h' : QAt w p mc tc k u) (hd : ∀ g ∈ foot q mb th t, g ∉ foot p mc tc u) (hc : Chg (foot p mc tc u) w w') : QAt w' q mb th m t :=
  ⟨⟨h.1.1.chg hc (hd q (by simp [foot])), h.1.2.1.chg hc (hd mb (by simp [foot])), ⟨h.1.2.2.1.apart hc (hd th (by simp [foot])) h'.footcell, h.1.2.2.2.1.chgF hc (fun g hg => hd g (by simp [foot, hg])), h.1.2.2.2.2⟩⟩, h.2⟩
def Stp (q mb th : Nat) (b' : Int) (l' : List It) (t : Tr It) (w w' : World) : Prop := ∃ t', t'.list = l' ∧ QAt w' q mb th (qM b' l') t' ∧ Qok b' l' ∧ Tr.Whole t' ∧ (∀ g ∈ t'.blocks, g ∈ t.blocks ∨ w.heap.size ≤ g) ∧ Chg (foot q mb th t) w w'
theorem Stp.same {q mb th : Nat} {b : Int} {t : Tr It} {w w' : World} (h : QAt w q mb th (qM b t.list) t) (hq : Qok b t.list) (hw : Tr.Whole t) (hb : Below w.heap.size w w') : Stp q mb th b t.list t w w' := ⟨t, rfl, h.below hb, hq, hw, fun g hg => Or.inl hg, Chg.below hb⟩
def leaC (i : Int) (l : List It) : Int := if anyI i l = true then 0 else 14
def leaB (i b : Int) (l : List It) : Int := if anyI i l = true then nowI b (lesI i l) else b
theorem Step.leave (q mb th : Nat) (b : Int) (t : Tr It) (hq : Qok b t.list) (hw : Tr.Whole t) (i : Int) (hi : -9223372036854775808 ≤ i ∧ i ≤ 9223372036854775807) (w : World) (h : QAt w q mb th (qM b t.list) t) : Calls Tryz.prog 9 #[.pointer (some ⟨q, 0, none⟩), .int .i64 i] w (fun e w' => (∃ x : It, e = .returned (.tuple #[x.val, .int .i64 (leaC i t.list)])) ∧ Stp q mb th (leaB i b t.list) (lesI i t.list) t w w') := by
  by_cases hx : ∃ x ∈ t.list, x.i = i
  · obtain ⟨x, hx, rfl⟩ := hx
    have ha : anyI x.i t.list = true := by unfold anyI; rw [List.any_eq_true]; exact ⟨x, hx, by simp⟩
    refine (Queue.leave_yes q mb th b t hq hw x hx w h).mono ?_
    rintro e w' ⟨rfl, t', A, B, hl, hl', hi', hq', hk, hw', hb, hc⟩
    have hle : lesI x.i t.list = A ++ B := by rw [hl]; exact rest_eq (a := x) rfl hi'
    refine ⟨⟨x, by unfold leaC; rw [if_pos ha]⟩, t', by rw [hle, hl'], ?_, ?_, hw', fun g hg => Or.inl (hb g hg), hc⟩
    · unfold leaB; rw [if_pos ha, hle]; exact hq'
    · unfold leaB; rw [if_pos ha, hle]; exact hk
  · have ha : anyI i t.list = false := by unfold anyI; rw [List.any_eq_false]; intro y hy; simpa using fun e => hx ⟨y, hy, e⟩
    refine (Queue.leave_no q mb th (qM b t.list) t i hi (fun x hm e => hx ⟨x, hm, e⟩) w h).mono ?_
    rintro e w' ⟨rfl, hb⟩
    refine ⟨⟨It.zero, by unfold leaC; rw [if_neg (by rw [ha]; simp)]⟩, ?_⟩
    unfold leaB
    rw [if_neg (by rw [ha]; simp), lesI_no ha]
    exact Stp.same h hq hw hb
def joiB (b : Int) (l : List It) (a : It) : Int := if joinC b l a = 0 then nowI (fromI b l a) (l ++ [a]) else b
def joiL (b : Int) (l : List It) (a : It) : List It := if joinC b l a = 0 then insI a l else l
theorem Step.join (q mb th : Nat) (b : Int) (t : Tr It) (hq : Qok b t.list) (hw : Tr.Whole t) (a : It) (ha : a.In) (w : World) (h : QAt w q mb th (qM b t.list) t) : Calls Tryz.prog 11 #[.pointer (some ⟨q, 0, none⟩), a.val] w (fun e w' => e = .returned (.int .i64 (joinC b t.list a)) ∧ Stp q mb th (joiB b t.list a) (joiL b t.list a) t w w') := by
  refine (Queue.join q mb th b t a hq ha w h).mono ?_
  rintro e w' ⟨rfl, ⟨hj, hb⟩ | ⟨hj, k, hk, hq', hc⟩⟩
  · refine ⟨rfl, ?_⟩
    unfold joiB joiL
    rw [if_neg hj, if_neg hj]
    exact Stp.same h hq hw hb
  · obtain ⟨_, hok, ht⟩ := hq.join ha hj
    have hl : ((Tr.put It.ahead k a t).paint false).list = insI a t.list := by rw [Tr.list_paint]; exact (ht t rfl).2 k
    refine ⟨rfl, _, ?_, ?_, ?_, hw.put It.ahead k a, fun g hg => ?_, hc⟩
    · unfold joiL; rw [if_pos hj]; exact hl
    · unfold joiB joiL; rw [if_pos hj, if_pos hj]; exact hq'
    · unfold joiB joiL; rw [if_pos hj, if_pos hj]; exact hok
    · rw [Tr.blocks_paint] at hg
      rcases List.mem_cons.1 ((Tr.perm_put It.ahead k a t).mem_iff.1 hg) with rfl | h1
      · exact Or.inr hk
      · exact Or.inl h1
def cngB (b : Int) (l : List It) (a : It) : Int := if chgC b l a = 0 then chgB b l a else b
def cngL (b : Int) (l : List It) (a : It) : List It := if chgC b l a = 0 then insI a (restI l a) else l
theorem Step.change (q mb th : Nat) (b : Int) (t : Tr It) (hq : Qok b t.list) (hw : Tr.Whole t) (a : It) (ha : a.In) (w : World) (h : QAt w q mb th (qM b t.list) t) : Calls Tryz.prog 10 #[.pointer (some ⟨q, 0, none⟩), a.val] w (fun e w' => e = .returned (.int .i64 (chgC b t.list a)) ∧ Stp q mb th (cngB b t.list a) (cngL b t.list a) t w w') := by
  refine (Queue.change q mb th b t a hq hw ha w h).mono ?_
  rintro e w' ⟨rfl, ⟨hj, hb⟩ | ⟨hj, t', hl, hq', hk, hw', hb, hc⟩⟩
  · refine ⟨rfl, ?_⟩
    unfold cngB cngL
    rw [if_neg hj, if_neg hj]
    exact Stp.same h hq hw hb
  · rw [hl] at hq' hk
    refine ⟨rfl, t', ?_, ?_, ?_, hw', hb, hc⟩
    · unfold cngL; rw [if_pos hj]; exact hl
    · unfold cngB cngL; rw [if_pos hj, if_pos hj]; exact hq'
    · unfold cngB cngL; rw [if_pos hj, if_pos hj]; exact hk
theorem lea_sh (i b d : Int) (l : List It) : leaC i (l.map (It.shift d)) = leaC i l ∧ leaB i (IntKind.u64.wrap (b + d)) (l.map (It.shift d)) = IntKind.u64.wrap (leaB i b l + d) := by
  unfold leaC leaB
  rw [anyI_sh, lesI_sh, nowI_sh]
  exact ⟨rfl, by split <;> rfl⟩
theorem joi_sh (b d : Int) (l : List It) (a : It) : joiB (IntKind.u64.wrap (b + d)) (l.map (It.shift d)) (It.shift d a) = IntKind.u64.wrap (joiB b l a + d) ∧ joiL (IntKind.u64.wrap (b + d)) (l.map (It.shift d)) (It.shift d a) = (joiL b l a).map (It.shift d) := by
  unfold joiB joiL
  rw [joinC_sh, now1_sh, insI_sh]
  exact ⟨by split <;> rfl, by split <;> rfl⟩
theorem rest_sh (d : Int) (l : List It) (a : It) : restI (l.map (It.shift d)) (It.shift d a) = (restI l a).map (It.shift d) := lesI_sh d a.i l
theorem chgC_sh (b d : Int) (l : List It) (a : It) : chgC (IntKind.u64.wrap (b + d)) (l.map (It.shift d)) (It.shift d a) = chgC b l a := by
  unfold chgC
  have h1 : ((l.map (It.shift d)).any fun y => y.i == (It.shift d a).i) = l.any fun y => y.i == a.i := anyI_sh d a.i l
  rw [right_sh, h1, rest_sh, nowI_sh, within1_sh]
theorem cng_sh (b d : Int) (l : List It) (a : It) : cngB (IntKind.u64.wrap (b + d)) (l.map (It.shift d)) (It.shift d a) = IntKind.u64.wrap (cngB b l a + d) ∧ cngL (IntKind.u64.wrap (b + d)) (l.map (It.shift d)) (It.shift d a) = (cngL b l a).map (It.shift d) := by
  unfold cngB cngL chgB
  rw [chgC_sh, rest_sh, nowI_sh, now1_sh, insI_sh]
  exact ⟨by split <;> rfl, by split <;> rfl⟩
def TI (w0 : World) (q mb th p mc tc : Nat) (b c : Int) (t u : Tr It) (w : World) : Prop :=
  ((QAt w q mb th (qM b t.list) t ∧ QAt w p mc tc (qM c u.list) u) ∧ (Tr.Whole t ∧ Tr.Whole u)) ∧ ((∀ g ∈ foot q mb th t, g ∉ foot p mc tc u) ∧ (∀ g ∈ foot q mb th t, w0.heap.size ≤ g) ∧ (∀ g ∈ foot p mc tc u, w0.heap.size ≤ g)) ∧ Below w0.heap.size w0 w
theorem TI.below {w0 : World} {q mb th p mc tc : Nat} {b c : Int} {t u : Tr It} {w w' : World} (h : TI w0 q mb th p mc tc b c t u w) (hb : Below w.heap.size w w') : TI w0 q mb th p mc tc b c t u w' := ⟨⟨⟨h.1.1.1.below hb, h.1.1.2.below hb⟩, h.1.2⟩, h.2.1, below_on h.2.2 hb⟩
theorem foot_old {q mb th n : Nat} {t t' : Tr It} (hb : ∀ g ∈ t'.blocks, g ∈ t.blocks ∨ n ≤ g) : ∀ g ∈ foot q mb th t', g ∈ foot q mb th t ∨ n ≤ g := fun g hg => by
  simp only [foot, List.mem_cons] at hg ⊢
  rcases hg with rfl | rfl | rfl | hg
  · exact Or.inl (Or.inl rfl)
  · exact Or.inl (Or.inr (Or.inl rfl))
  · exact Or.inl (Or.inr (Or.inr (Or.inl rfl)))
  · exact (hb g hg).imp (fun h => Or.inr (Or.inr (Or.inr h))) id
theorem TI.fst {w0 : World} {q mb th p mc tc : Nat} {b c b' : Int} {t u : Tr It} {l' : List It} {w w' : World} (h : TI w0 q mb th p mc tc b c t u w) (s : Stp q mb th b' l' t w w') : ∃ t', t'.list = l' ∧ Qok b' l' ∧ TI w0 q mb th p mc tc b' c t' u w' := by
  obtain ⟨t', hl, hq, hk, hw, hb, hc⟩ := s
  refine ⟨t', hl, hk, ⟨⟨by rw [hl]; exact hq, h.1.1.2.apart h.1.1.1 (fun g hg hm => h.2.1.1 g hm hg) hc⟩, hw, h.1.2.2⟩, ⟨fun g hg hm => ?_, foot_sub h.2.1.2.1 h.2.2.size hb, h.2.1.2.2⟩, Below.chg h.2.2 hc h.2.1.2.1⟩
  rcases foot_old hb g hg with h1 | h1
  · exact h.2.1.1 g h1 hm
  · exact absurd (h.1.1.2.footlt g hm) (by omega)
theorem TI.snd {w0 : World} {q mb th p mc tc : Nat} {b c c' : Int} {t u : Tr It} {l' : List It} {w w' : World} (h : TI w0 q mb th p mc tc b c t u w) (s : Stp p mc tc c' l' u w w') : ∃ u', u'.list = l' ∧ TI w0 q mb th p mc tc b c' t u' w' := by
  obtain ⟨u', hl, hq, hk, hw, hb, hc⟩ := s
  refine ⟨u', hl, ⟨⟨h.1.1.1.apart h.1.1.2 h.2.1.1 hc, by rw [hl]; exact hq⟩, h.1.2.1, hw⟩, ⟨fun g hg hm => ?_, h.2.1.2.1, foot_sub h.2.1.2.2 h.2.2.size hb⟩, Below.chg h.2.2 hc h.2.1.2.2⟩
  rcases foot_old hb g hm with h1 | h1
  · exact h.2.1.1 g hg h1
  · exact absurd (h.1.1.1.footlt g hg) (by omega)
end


section
open Go.RowKit
set_option maxRecDepth 100000
set_option maxHeartbeats 32000000
theorem Queue.items_nil (w : World) : Calls Tryz.prog 16 #[(.pointer none)] w (Ans (.slice none 0 0) w) := by
  go_enter Tryz.func16, Tryz.ntmps16
  go_wp2_with fail
  go_ret
  exact ⟨rfl, Below.refl _ _⟩
theorem Queue.now_nil (w : World) : Calls Tryz.prog 13 #[(.pointer none)] w (Ans (.int .u64 0) w) := by
  go_enter Tryz.func13, Tryz.ntmps13
  go_wp2_with fail
  go_ret
  exact ⟨rfl, Below.refl _ _⟩
theorem Queue.spread_nil (w : World) : Calls Tryz.prog 14 #[(.pointer none)] w (Ans (.int .u64 0) w) := by
  have E : spreadI 0 [] = 0 := Go.Proofs.YtdkfpmlamfeenaaGreatDoor.spread_nil 0
  go_enter Tryz.func14, Tryz.ntmps14
  go_wp2_with fail
  refine (Queue.now_nil _).mono ?_
  rintro e w1 ⟨rfl, hb⟩
  have HB1 := hid hb
  clear hb
  go_wp2_with fail
  refine (Queue.items_nil _).mono ?_
  rintro e w2 ⟨rfl, hb⟩
  have HB2 := hid (below_on HB1.out hb)
  clear hb HB1
  go_wp2_with fail
  refine (Item.spread 0 none 0 0 [] _ ⟨rfl, fun i hi => absurd hi (by omega)⟩ (by omega)).mono ?_
  rw [E]
  rintro e w3 ⟨rfl, hb⟩
  have HB3 := hid (below_on HB2.out hb)
  clear hb HB2
  go_wp2_with fail
  go_ret
  exact ⟨rfl, HB3.out⟩
theorem Law13.Awake (w : World) (htab : Tab10 w.heap.size w) : Calls Tryz.prog 22 #[] w (Ans (.bool true) w) := by
  go_enter Tryz.func22, Tryz.ntmps22
  go_wp2_with (go_at_call 44; refine (Law13.awake _ htab).mono ?_; rintro e w' ⟨rfl, hb⟩)
  go_ret
  exact ⟨rfl, hb⟩
theorem foot_ge {b q mb th : Nat} {t : Tr It} (h : ∀ g ∈ foot q mb th t, b ≤ g) {k : Nat} (hk : b ≤ k) (x : It) : ∀ g ∈ foot q mb th ((Tr.put It.ahead k x t).paint false), b ≤ g := fun g hg => by
  simp only [foot, List.mem_cons] at hg
  rcases hg with rfl | rfl | rfl | hg
  · exact h _ (by simp [foot])
  · exact h _ (by simp [foot])
  · exact h _ (by simp [foot])
  · rw [Tr.blocks_paint] at hg
    rcases List.mem_cons.1 ((Tr.perm_put It.ahead k x t).mem_iff.1 hg) with rfl | hg
    · exact hk
    · exact h g (by simp [foot, hg])
theorem foot_lt {b q mb th : Nat} {t : Tr It} (h : ∀ g ∈ foot q mb th t, g < b) {k : Nat} (hk : b ≤ k) (x : It) {g : Nat} (h1 : g ∈ foot q mb th ((Tr.put It.ahead k x t).paint false)) (h2 : g < b) : g ∈ foot q mb th t := by
  simp only [foot, List.mem_cons] at h1 ⊢
  rcases h1 with rfl | rfl | rfl | hg
  · simp
  · simp
  · simp
  · rw [Tr.blocks_paint] at hg
    rcases List.mem_cons.1 ((Tr.perm_put It.ahead k x t).mem_iff.1 hg) with rfl | hg
    · omega
    · simp [hg]
section
attribute [local go_sem] Item.eqB
theorem Law14.awake (w : World) (htab : Tab10 w.heap.size w) : Calls Tryz.prog 6 #[] w (Ans (.bool true) w) := by
  have HT := hid htab
  have z1 : hiW 0 = 0 := by decide
  clear htab
  go_enter Tryz.func6, Tryz.ntmps6
  go_wp2_with fail
  refine (Queue.new 0 ⟨by decide, by decide⟩ _).mono ?_
  rintro e w1 ⟨q, mb, th, rfl, hq, hge, hb⟩
  have hA : Cs (w1.alloc (.cells #[.int .u64 5, .int .u32 0, .int .u32 1, .int .i64 1, .int .u64 9, .int .u32 0, .int .u32 1] 32)) w1.heap.size exA.cells := Cs.new7 w1 32 exA
  have hB : Cs ((w1.alloc (.cells #[.int .u64 5, .int .u32 0, .int .u32 1, .int .i64 1, .int .u64 9, .int .u32 0, .int .u32 1] 32)).alloc (.cells #[.int .u64 8, .int .u32 0, .int .u32 1, .int .i64 2, .int .u64 8, .int .u32 0, .int .u32 1] 32)) (w1.heap.size + 1) exB.cells := by have := Cs.new7 (w1.alloc (.cells #[.int .u64 5, .int .u32 0, .int .u32 1, .int .i64 1, .int .u64 9, .int .u32 0, .int .u32 1] 32)) 32 exB; simp only [World.size_alloc] at this; exact this
  have hba := (Below.refl w1.heap.size w1).alloc (Nat.le_refl _) (.cells #[.int .u64 5, .int .u32 0, .int .u32 1, .int .i64 1, .int .u64 9, .int .u32 0, .int .u32 1] 32)
  have hbb := (Below.refl (w1.alloc (.cells #[.int .u64 5, .int .u32 0, .int .u32 1, .int .i64 1, .int .u64 9, .int .u32 0, .int .u32 1] 32)).heap.size (w1.alloc (.cells #[.int .u64 5, .int .u32 0, .int .u32 1, .int .i64 1, .int .u64 9, .int .u32 0, .int .u32 1] 32))).alloc (Nat.le_refl _) (.cells #[.int .u64 8, .int .u32 0, .int .u32 1, .int .i64 2, .int .u64 8, .int .u32 0, .int .u32 1] 32)
  have HQ : Hid (((Cs ((w1.alloc (.cells #[.int .u64 5, .int .u32 0, .int .u32 1, .int .i64 1, .int .u64 9, .int .u32 0, .int .u32 1] 32)).alloc (.cells #[.int .u64 8, .int .u32 0, .int .u32 1, .int .i64 2, .int .u64 8, .int .u32 0, .int .u32 1] 32)) w1.heap.size exA.cells ∧ Cs ((w1.alloc (.cells #[.int .u64 5, .int .u32 0, .int .u32 1, .int .i64 1, .int .u64 9, .int .u32 0, .int .u32 1] 32)).alloc (.cells #[.int .u64 8, .int .u32 0, .int .u32 1, .int .i64 2, .int .u64 8, .int .u32 0, .int .u32 1] 32)) (w1.heap.size + 1) exB.cells) ∧ Below w.heap.size w ((w1.alloc (.cells #[.int .u64 5, .int .u32 0, .int .u32 1, .int .i64 1, .int .u64 9, .int .u32 0, .int .u32 1] 32)).alloc (.cells #[.int .u64 8, .int .u32 0, .int .u32 1, .int .i64 2, .int .u64 8, .int .u32 0, .int .u32 1] 32))) ∧ QAt ((w1.alloc (.cells #[.int .u64 5, .int .u32 0, .int .u32 1, .int .i64 1, .int .u64 9, .int .u32 0, .int .u32 1] 32)).alloc (.cells #[.int .u64 8, .int .u32 0, .int .u32 1, .int .i64 2, .int .u64 8, .int .u32 0, .int .u32 1] 32)) q mb th ⟨0, 0, 0, 0⟩ .nil) := hid ⟨⟨⟨hA.below hbb, hB⟩, below_on (below_on hb hba) hbb⟩, (hq.below hba).below hbb⟩
  have HGE := hid hge
  have HNF : Hid (∀ g ∈ foot q mb th .nil, g < w1.heap.size) := hid hq.footlt
  have HWG : Hid (w.heap.size ≤ w1.heap.size) := hid hb.size
  clear hq hge hb hA hB hba hbb
  go_wp2_with fail
  generalize ((w1.alloc (.cells #[.int .u64 5, .int .u32 0, .int .u32 1, .int .i64 1, .int .u64 9, .int .u32 0, .int .u32 1] 32)).alloc (.cells #[.int .u64 8, .int .u32 0, .int .u32 1, .int .i64 2, .int .u64 8, .int .u32 0, .int .u32 1] 32)) = W1 at HQ ⊢
  generalize hgb : w1.heap.size + 1 = gb at HQ ⊢
  generalize hga : w1.heap.size = ga at HQ HNF HWG hgb ⊢
  have HGB : Hid (ga < gb) := hid (by omega)
  clear hgb hga
  have hsT : Stays (fun wx => (Cs wx ga exA.cells ∧ Cs wx gb exB.cells) ∧ Below w.heap.size w wx) := fun _ _ h hb => ⟨⟨h.1.1.below hb, h.1.2.below hb⟩, below_on h.2 hb⟩
  have hsU : Stays (fun wx => ((Cs wx ga exA.cells ∧ Cs wx gb exB.cells) ∧ Below w.heap.size w wx) ∧ QAt wx q mb th ⟨0, 0, 0, 0⟩ .nil) := fun _ _ h hb => ⟨hsT _ _ h.1 hb, h.2.below hb⟩
  have E1 : qM 0 [] = ⟨0, 0, 0, 0⟩ := by simp [qM, Mu.sums, sumD, sumW]
  have HE1 := hid E1
  clear E1
  refine wp_region_any (by kernel_rfl) (wpAny_of_E (S0 := fun wx => (Cs wx ga exA.cells ∧ Cs wx gb exB.cells) ∧ Below w.heap.size w wx) (n := 8) _ (fun wx => ((Cs wx ga exA.cells ∧ Cs wx gb exB.cells) ∧ Below w.heap.size w wx) ∧ QAt wx q mb th ⟨0, 0, 0, 0⟩ .nil) _ _ _ (hsU _ _ HQ.out (Below.refl _ _).drew) ?_)
  refine tE 0 (v := ?_) (hsU) (fun _ h => h.1) rfl (by kernel_rfl) (by rfl) ?_ ?_
  rotate_left
  · intro wq hSw
    go_simp; try with_reducible rfl
  try simp only [tdy]
  refine tE 1 (v := ?_) (hsU) (fun _ h => h.1) rfl (by kernel_rfl) (by rfl) ?_ ?_
  rotate_left
  · intro wq hSw
    obtain ⟨a0, a1, a2, a3, a4, a5, a6⟩ := It.at exA hSw.1.1
    go_simp; try with_reducible rfl
  try simp only [tdy]
  refine tE 3 (v := ?_) (hsU) (fun _ h => h.1) rfl (by kernel_rfl) (by rfl) ?_ ?_
  rotate_left
  · intro wq hSw
    go_simp; try with_reducible rfl
  try simp only [tdy]
  refine tE 4 (v := ?_) (hsU) (fun _ h => h.1) rfl (by kernel_rfl) (by rfl) ?_ ?_
  rotate_left
  · intro wq hSw
    obtain ⟨a0, a1, a2, a3, a4, a5, a6⟩ := It.at exB hSw.1.2
    go_simp; try with_reducible rfl
  try simp only [tdy]
  refine wpAnyE_callC (i := 2) (foot q mb th .nil) (fun wx => (Cs wx ga exA.cells ∧ Cs wx gb exB.cells) ∧ Below w.heap.size w wx) (fun _ : Nat => Value.int .i64 0) (fun k1 wx => gb < k1 ∧ QAt wx q mb th (qM 5 [exA]) ((Tr.put It.ahead k1 exA .nil).paint false)) rfl (by kernel_rfl) (by decide) (by rfl) hsT (fun _ h => h) (fun k1 => fun _ _ h hb => ⟨h.1, h.2.below hb⟩) (fun w2 w3 h hc => ⟨⟨h.1.1.1.chg hc (fun hg => by have := HNF.out _ hg; omega), h.1.1.2.chg hc (fun hg => by have := HNF.out _ hg; have := HGB.out; omega)⟩, Below.chg h.1.2 hc HGE.out⟩) (fun wq hSw => ?_) (fun k1 => ?_)
  · refine RunC.of_calls (Queue.join q mb th 0 .nil exA ex_ok0 exA_in wq (by rw [show (Tr.nil : Tr It).list = [] from rfl, HE1.out]; exact hSw.2)) (by go_simp) (fun e w' h => ?_)
    obtain ⟨he, hr⟩ := h
    rw [show (Tr.nil : Tr It).list = [] from rfl, ex_join1] at he hr
    rcases hr with ⟨h0, _⟩ | ⟨_, k, hk, hq', hc⟩
    · exact absurd rfl h0
    · rw [ex_now1, ex_ins1] at hq'
      exact ⟨k, he, ⟨Nat.lt_of_lt_of_le hSw.1.1.2.lt hk, hq'⟩, hc⟩
  try simp only [tdy]
  refine wpAnyE_callC (i := 5) (foot q mb th ((Tr.put It.ahead k1 exA .nil).paint false)) (fun wx => (Cs wx ga exA.cells ∧ Cs wx gb exB.cells) ∧ Below w.heap.size w wx) (fun _ : Nat => Value.int .i64 0) (fun k2 wx => QAt wx q mb th (qM 6 [exA, exB]) ((Tr.put It.ahead k2 exB ((Tr.put It.ahead k1 exA .nil).paint false)).paint false)) rfl (by kernel_rfl) (by decide) (by rfl) hsT (fun _ h => h) (fun k2 => fun _ _ h hb => h.below hb) (fun w2 w3 h hc => ⟨⟨h.1.1.1.chg hc (fun hg => by have := HNF.out _ (foot_lt (b := gb) (fun g hg => by have := HNF.out g hg; have := HGB.out; omega) (by have := h.2.1; omega) exA hg HGB.out); omega), h.1.1.2.chg hc (fun hg => by have := HNF.out _ (foot_lt (b := gb + 1) (fun g hg => by have := HNF.out g hg; have := HGB.out; omega) (by have := h.2.1; omega) exA hg (by omega)); have := HGB.out; omega)⟩, Below.chg h.1.2 hc (foot_ge HGE.out (by have := h.2.1; have := HWG.out; have := HGB.out; omega) exA)⟩) (fun wq hSw => ?_) (fun k2 => ?_)
  · refine RunC.of_calls (Queue.join q mb th 5 ((Tr.put It.ahead k1 exA .nil).paint false) exB (by rw [ex_tree1]; exact ex_ok1) exB_in wq (by rw [ex_tree1]; exact hSw.2.2)) (by go_simp) (fun e w' h => ?_)
    obtain ⟨he, hr⟩ := h
    rw [ex_tree1, ex_join2] at he hr
    rcases hr with ⟨h0, _⟩ | ⟨_, k, hk, hq', hc⟩
    · exact absurd rfl h0
    · rw [ex_now2, ex_ins2] at hq'
      exact ⟨k, he, hq', hc⟩
  try simp only [tdy]
  refine tE 6 (v := ?_) (fun _ _ h hb => ⟨hsT _ _ h.1 hb, h.2.below hb⟩) (fun _ h => h.1) rfl (by kernel_rfl) (by rfl) ?_ ?_
  rotate_left
  · intro wq hSw
    go_simp; try with_reducible rfl
  try simp only [tdy]
  refine tE 7 (v := ?_) (fun _ _ h hb => ⟨hsT _ _ h.1 hb, h.2.below hb⟩) (fun _ h => h.1) rfl (by kernel_rfl) (by rfl) ?_ ?_
  rotate_left
  · intro wq hSw
    go_simp; try with_reducible rfl
  try simp only [tdy]
  refine wpAnyE_done (by kernel_rfl) (fun wz hSz => ?_) _
  have HQ2 := hid hSz
  clear hSz HQ
  have HO1 : Hid (∀ wq, QAt wq q mb th (qM 6 [exA, exB]) ((Tr.put It.ahead k2 exB ((Tr.put It.ahead k1 exA .nil).paint false)).paint false) → Calls Tryz.prog 18 #[(.pointer (some ⟨q, 0, none⟩)), .int .i64 1] wq (Ans (.tuple #[.int .i64 1, .int .i64 0]) wq)) := hid (fun wq hq => by have := Queue.owed_yes q mb th _ _ exA (by rw [ex_tree2]; simp) wq hq; rwa [ex_sign1] at this)
  have HO2 : Hid (∀ wq, QAt wq q mb th (qM 6 [exA, exB]) ((Tr.put It.ahead k2 exB ((Tr.put It.ahead k1 exA .nil).paint false)).paint false) → Calls Tryz.prog 18 #[(.pointer (some ⟨q, 0, none⟩)), .int .i64 2] wq (Ans (.tuple #[.int .i64 (-1), .int .i64 0]) wq)) := hid (fun wq hq => by have := Queue.owed_yes q mb th _ _ exB (by rw [ex_tree2]; simp) wq hq; rwa [ex_sign2] at this)
  have HO3 : Hid (∀ wq, QAt wq q mb th (qM 6 [exA, exB]) ((Tr.put It.ahead k2 exB ((Tr.put It.ahead k1 exA .nil).paint false)).paint false) → Calls Tryz.prog 12 #[(.pointer (some ⟨q, 0, none⟩))] wq (Ans (.tuple #[.agg #[.int .u64 5, .int .u32 0, .int .u32 1, .int .i64 1, .int .u64 9, .int .u32 0, .int .u32 1], .bool true]) wq)) := hid (fun wq hq => by have := Queue.soonest q mb th _ _ wq hq; rwa [ex_soon] at this)
  go_wp2_with fail
  refine (HO1.out _ HQ2.out.2).mono ?_
  rintro e w3 ⟨rfl, hb⟩
  have HQ3 := hid (And.intro (hsT _ _ HQ2.out.1 hb) (HQ2.out.2.below hb))
  clear hb HQ2
  go_wp2_with fail
  refine (HO2.out _ HQ3.out.2).mono ?_
  rintro e w4 ⟨rfl, hb⟩
  have HQ4 := hid (And.intro (hsT _ _ HQ3.out.1 hb) (HQ3.out.2.below hb))
  clear hb HQ3
  go_wp2_with fail
  refine (HO3.out _ HQ4.out.2).mono ?_
  rintro e w5 ⟨rfl, hb⟩
  have ha := (Below.refl w5.heap.size w5).alloc (Nat.le_refl _) (.cells #[.int .u64 5, .int .u32 0, .int .u32 1, .int .i64 1, .int .u64 9, .int .u32 0, .int .u32 1] 32)
  have HX5 : Hid (Cs (w5.alloc (.cells #[.int .u64 5, .int .u32 0, .int .u32 1, .int .i64 1, .int .u64 9, .int .u32 0, .int .u32 1] 32)) w5.heap.size exA.cells) := hid (Cs.new7 w5 32 exA)
  have HQ5 := hid (hsT _ _ (hsT _ _ HQ4.out.1 hb) ha)
  clear hb ha HQ4
  go_wp2_with fail
  generalize (w5.alloc (.cells #[.int .u64 5, .int .u32 0, .int .u32 1, .int .i64 1, .int .u64 9, .int .u32 0, .int .u32 1] 32)) = W5 at HX5 HQ5 ⊢
  generalize w5.heap.size = gx at HX5 ⊢
  refine (Law13.Awake _ (HT.out.at2 HQ5.out.2)).mono ?_
  rintro e w6 ⟨rfl, hb⟩
  have HB6 := hid (below_on HQ5.out.2 hb)
  obtain ⟨a0, a1, a2, a3, a4, a5, a6⟩ := It.at exA (HQ5.out.1.1.below hb)
  obtain ⟨x0, x1, x2, x3, x4, x5, x6⟩ := It.at exA (HX5.out.below hb)
  clear hb
  go_wp2_with fail
  go_ret
  exact ⟨by first | rfl | simp, HB6.out⟩
end
end


section
open Go.RowKit
set_option maxRecDepth 100000 in
set_option maxHeartbeats 2000000 in
theorem Queue.spread (q mb th : Nat) (m : Mu) (t : Tr It) (w : World) (h : QAt w q mb th m t) : Calls Tryz.prog 14 #[.pointer (some ⟨q, 0, none⟩)] w (Ans (.int .u64 (spreadI m.b t.list)) w) := by
  have HQ := hid h
  clear h
  go_enter Tryz.func14, Tryz.ntmps14
  go_wp2_with fail
  refine (Queue.now q mb th m t _ HQ.out).mono ?_
  rintro e w1 ⟨rfl, hb⟩
  have HQ1 := hid (HQ.out.below hb)
  have HB1 := hid hb
  clear hb
  go_wp2_with fail
  refine (Queue.items q mb th m t _ HQ1.out).mono ?_
  rintro e w2 ⟨A, c, rfl, ho, hb⟩
  have HR := hid ho.rdi
  have HB2 := hid (below_on HB1.out hb)
  have hl := HQ.out.2.2.2.2
  clear hb ho
  go_wp2_with fail
  refine (Item.spread m.b A t.list.length c t.list w2 HR.out (by omega)).mono ?_
  rintro e w3 ⟨rfl, hb⟩
  have HB3 := hid (below_on HB2.out hb)
  clear hb
  go_wp2_with fail
  go_ret
  exact ⟨rfl, HB3.out⟩
theorem lag_sh {b d : Int} {l : List It} (h : Qok b l) {x : It} (hx : x ∈ l) : (qM (IntKind.u64.wrap (b + d)) (l.map (It.shift d))).lag (It.shift d x).pp = (qM b l).lag x.pp := by
  rw [(sums_ovI h.fw hx).2, (sums_ovI (h.sh d).fw (List.mem_map_of_mem hx)).2, ov_sh, qM_sh]
end


section
open Go.RowKit
theorem Cs.alloc_new8 (w : World) (ty : TypeId) (v0 v1 v2 v3 v4 v5 v6 v7 : Value) : Cs (w.alloc (.cells #[v0, v1, v2, v3, v4, v5, v6, v7] ty)) w.heap.size [v0, v1, v2, v3, v4, v5, v6, v7] := Cs.alloc_new6 w ty [v0, v1, v2, v3, v4, v5, v6, v7]
end


section
open Go.RowKit
set_option maxRecDepth 100000
set_option maxHeartbeats 32000000
def T1 (w0 : World) (q mb th p mc tc : Nat) (b c : Int) (l : List It) (u t : Tr It) (w : World) : Prop := (t.list = l ∧ Qok b l) ∧ TI w0 q mb th p mc tc b c t u w
theorem T1.st (w0 : World) (q mb th p mc tc : Nat) (b c : Int) (l : List It) (u t : Tr It) : Stays (T1 w0 q mb th p mc tc b c l u t) := fun _ _ h hb => ⟨h.1, TI.below h.2 hb⟩
def T2 (w0 : World) (q mb th p mc tc : Nat) (b d : Int) (l : List It) (t u : Tr It) (w : World) : Prop := ((t.list = l ∧ Qok b l) ∧ u.list = l.map (It.shift d)) ∧ TI w0 q mb th p mc tc b (IntKind.u64.wrap (b + d)) t u w
theorem T2.st (w0 : World) (q mb th p mc tc : Nat) (b d : Int) (l : List It) (t u : Tr It) : Stays (T2 w0 q mb th p mc tc b d l t u) := fun _ _ h hb => ⟨h.1, TI.below h.2 hb⟩
theorem TI.own {F : List Nat} {w0 : World} {q mb th p mc tc : Nat} {b c : Int} {t u : Tr It} {w w' : World} (h : TI w0 q mb th p mc tc b c t u w) (hc : Chg F w w') (hF : ∀ g ∈ F, ∀ f a c, w.cell? ⟨g, 0, none⟩ ≠ some (.func f a c)) (hd : ∀ g ∈ F, g ∉ foot q mb th t ∧ g ∉ foot p mc tc u ∧ w0.heap.size ≤ g) : TI w0 q mb th p mc tc b c t u w' :=
  ⟨⟨⟨h.1.1.1.away hc hF (fun g hg hm => (hd g hm).1 hg), h.1.1.2.away hc hF (fun g hg hm => (hd g hm).2.1 hg)⟩, h.1.2⟩, h.2.1, Below.chg h.2.2 hc (fun g hg => (hd g hg).2.2)⟩
def NI (w0 : World) (q mb th p mc tc : Nat) (d : Int) (w : World) : Prop := ∃ b t u, (u.list = t.list.map (It.shift d) ∧ Qok b t.list) ∧ TI w0 q mb th p mc tc b (IntKind.u64.wrap (b + d)) t u w
theorem NI.of {w0 : World} {q mb th p mc tc : Nat} {b d : Int} {l : List It} {t u : Tr It} {w : World} (h : T2 w0 q mb th p mc tc b d l t u w) : NI w0 q mb th p mc tc d w := ⟨b, t, u, ⟨by rw [h.1.1.1]; exact h.1.2, by rw [h.1.1.1]; exact h.1.1.2⟩, h.2⟩
theorem NI.below {w0 : World} {q mb th p mc tc : Nat} {d : Int} {w w' : World} (h : NI w0 q mb th p mc tc d w) (hb : Below w.heap.size w w') : NI w0 q mb th p mc tc d w' := by
  obtain ⟨b, t, u, h1, h2⟩ := h
  exact ⟨b, t, u, h1, h2.below hb⟩
theorem Two.new (c d : Int) (hc : IsT c) (w : World) (q mb th : Nat) (wr : World) (h : QI w q mb th c .nil wr) (wf : World) (p mc tc : Nat) (hp : QI wr p mc tc (IntKind.u64.wrap (c + d)) .nil wf) : NI w q mb th p mc tc d wf :=
  ⟨c, .nil, .nil, ⟨rfl, h.1.2.1⟩, ⟨⟨h.1.1.below hp.2.2, hp.1.1⟩, h.1.2.2, hp.1.2.2⟩, ⟨fun g hg hm => absurd (h.1.1.footlt g hg) (by have := hp.2.1 g hm; omega), h.2.1, fun g hg => Nat.le_trans h.2.2.size (hp.2.1 g hg)⟩, below_on h.2.2 hp.2.2⟩
theorem Serve.new' (c : Int) (hc : IsT c) (w : World) : Calls Tryz.prog 7 #[.int .u64 c] w (fun e w' => ∃ q mb th, e = .returned (.pointer (some ⟨q, 0, none⟩)) ∧ QI w q mb th c .nil w') := by
  refine (Queue.new c hc w).mono ?_
  rintro e w' ⟨q, mb, th, rfl, h, hf, hb⟩
  refine ⟨q, mb, th, rfl, ⟨⟨?_, Qok.nil hc, Tr.Whole.nil⟩, hf, hb⟩⟩
  have e : (⟨c, 0, 0, 0⟩ : Mu) = qM c (Tr.nil : Tr It).list := by simp [qM, Mu.sums, sumD, sumW, Tr.list]
  rw [← e]
  exact h
theorem Qshift.away (c0 by1 : Int) (A : Option Addr) (n c : Nat) (hn : 40 < n) (hm : n ≤ 9223372036854775807) (w : World) (htab : Tab10 w.heap.size w) : Calls Tryz.prog 3 #[.int .u64 c0, .int .u64 by1, .slice A n c] w fun e w' => e = .returned (.bool true) ∧ Below w.heap.size w w' := by
  have h1 : (40 : Int) < n := by omega
  go_enter Tryz.func3, Tryz.ntmps3
  go_wp2_with fail
  refine (Law14.awake _ htab).mono ?_
  rintro e w1 ⟨rfl, hb⟩
  go_wp2_with fail
  go_ret
  exact ⟨rfl, hb⟩
section
attribute [local go_sem] Item.eqB
theorem Qshift.law (c0 by1 : Int) (A : Option Addr) (n c : Nat) (l : List (Int × It)) (w : World) (w0 : (Lit.int .u64 c0).wf = true) (wby : (Lit.int .u64 by1).wf = true) (h : (RdQ w A n l ∧ InQ l) ∧ n ≤ 9223372036854775807) (htab : Tab10 w.heap.size w) : Calls Tryz.prog 3 #[.int .u64 c0, .int .u64 by1, .slice A n c] w fun e w' => e = .returned (.bool true) ∧ Below w.heap.size w w' := by
  by_cases hn : 40 < n
  · exact Qshift.away c0 by1 A n c hn h.2 w htab
  have hT : IsT c0 := bounds_u64 w0
  have HIN := hid h.1.2
  have hni : (n : Int) ≤ 40 := by omega
  have hn40 : ¬ (40 : Int) < n := by omega
  have HR := hid h.1.1
  clear h w0 wby
  go_enter Tryz.func3, Tryz.ntmps3
  go_wp2_with fail
  refine (Law14.awake _ htab).mono ?_
  rintro e w1 ⟨rfl, hb⟩
  have HR1 := hid (HR.out.below hb)
  have HB1 := hid hb
  clear hb htab HR
  go_wp2_with fail
  refine (Serve.new' c0 hT _).mono ?_
  rintro e w2 ⟨q, mb, th, rfl, hq⟩
  have HQ2 := hid hq
  clear hq
  go_wp2_with fail
  refine (Serve.new' (IntKind.u64.wrap (c0 + by1)) (by unfold IsT; rw [IntKind.wrap_u64]; omega) _).mono ?_
  rintro e w3 ⟨p, mc, tc, rfl, hp⟩
  have HX2 := hid (Two.new c0 by1 hT _ q mb th _ HQ2.out _ p mc tc hp)
  clear hp HQ2
  go_wp2_with fail
  go_loopg [39] n (fun s i wr => ∃ k : Nat, i = .int .i64 k ∧ k ≤ n ∧ s = n - k ∧ NI w1 q mb th p mc tc by1 wr)
  case atStart => exact ⟨0, rfl, Nat.zero_le _, by omega, HX2.out⟩
  case round =>
    obtain ⟨k, rfl, hk, hs, hx⟩ := hrel
    have HS := hid hs
    obtain ⟨b, t, u, hbu, hti⟩ := hx
    have HBU := hid hbu
    have HTI := hid hti
    have HBW := hid hti.2.2
    clear hs hbu hti
    by_cases hkn : k < n
    · obtain ⟨bb, off, hA, _, hc⟩ := (HR1.out.below HBW.out).2 0 (by omega)
      obtain ⟨d0, p0, p1, p2, p3, p4, p5, p6⟩ := hc k hkn
      have HP : Hid ((0 ≤ (l.getD k (0, It.zero)).1 ∧ (l.getD k (0, It.zero)).1 ≤ 255) ∧ (l.getD k (0, It.zero)).2.In) := hid (by
        have hkl : k < l.length := by have := HR1.out.1; omega
        have e : l.getD k (0, It.zero) = l[k] := by simp [List.getD, hkl]
        rw [e]; exact HIN.out _ (List.getElem_mem hkl))
      generalize (l.getD k (0, It.zero)) = pa at *
      obtain ⟨d, a⟩ := pa
      dsimp only at d0 p0 p1 p2 p3 p4 p5 p6 HP
      subst hA
      have hki : (k : Int) < n := by omega
      have hk0 : (0 : Int) ≤ k := by omega
      simp only [Nat.add_assoc (off + k * 8), Nat.reduceAdd] at p1 p2 p3 p4 p5 p6
      clear hc
      have HSA : Hid (It.In (It.shift by1 a)) := hid (It.shift_in by1 HP.out.2)
      have hal := (Below.refl wr.heap.size wr).alloc (Nat.le_refl _) (.cells #[.int .u8 d, .int .u64 a.t, .int .u32 a.r, .int .u32 a.v, .int .i64 a.i, .int .u64 a.u, .int .u32 a.s, .int .u32 a.y] 34)
      have HAC : Hid (Cs (wr.alloc (.cells #[.int .u8 d, .int .u64 a.t, .int .u32 a.r, .int .u32 a.v, .int .i64 a.i, .int .u64 a.u, .int .u32 a.s, .int .u32 a.y] 34)) wr.heap.size [.int .u8 d, .int .u64 a.t, .int .u32 a.r, .int .u32 a.v, .int .i64 a.i, .int .u64 a.u, .int .u32 a.s, .int .u32 a.y]) := hid (Cs.alloc_new8 wr 34 _ _ _ _ _ _ _ _)
      have HX3 := hid (HTI.out.below hal)
      have HGA : Hid (∀ g, (g ∈ foot q mb th t ∨ g ∈ foot p mc tc u) → g < wr.heap.size) := hid (fun g hg => hg.elim (HTI.out.1.1.1.footlt g) (HTI.out.1.1.2.footlt g))
      have HGB := hid HBW.out.size
      clear hal HTI
      go_upto_region 10 with fail
      generalize hW3 : (wr.alloc (.cells #[.int .u8 d, .int .u64 a.t, .int .u32 a.r, .int .u32 a.v, .int .i64 a.i, .int .u64 a.u, .int .u32 a.s, .int .u32 a.y] 34)) = W3 at HAC HX3 ⊢
      have HSZ3 : Hid (wr.heap.size < W3.heap.size) := hid HAC.out.lt
      clear d0 p0 p1 p2 p3 p4 p5 p6 hW3
      generalize wr.heap.size = ga at HAC HGA HSZ3 HGB ⊢
      have a0 := HAC.out.at0
      have a1 := (HAC.out 1 _ rfl).1
      have a2 := (HAC.out 2 _ rfl).1
      have a3 := (HAC.out 3 _ rfl).1
      have a4 := (HAC.out 4 _ rfl).1
      have a5 := (HAC.out 5 _ rfl).1
      have a6 := (HAC.out 6 _ rfl).1
      have a7 := (HAC.out 7 _ rfl).1
      have hal := (Below.refl W3.heap.size W3).alloc (Nat.le_refl _) (.cells #[.int .u8 d, .int .u64 a.t, .int .u32 a.r, .int .u32 a.v, .int .i64 a.i, .int .u64 a.u, .int .u32 a.s, .int .u32 a.y] 34)
      have HBC : Hid (Cs (W3.alloc (.cells #[.int .u8 d, .int .u64 a.t, .int .u32 a.r, .int .u32 a.v, .int .i64 a.i, .int .u64 a.u, .int .u32 a.s, .int .u32 a.y] 34)) W3.heap.size [.int .u8 d, .int .u64 a.t, .int .u32 a.r, .int .u32 a.v, .int .i64 a.i, .int .u64 a.u, .int .u32 a.s, .int .u32 a.y]) := hid (Cs.alloc_new8 W3 34 _ _ _ _ _ _ _ _)
      have HAC4 := hid (HAC.out.below hal)
      have HX4 := hid (HX3.out.below hal)
      clear hal HAC HX3
      go_upto_region 11 with fail
      generalize hW4 : (W3.alloc (.cells #[.int .u8 d, .int .u64 a.t, .int .u32 a.r, .int .u32 a.v, .int .i64 a.i, .int .u64 a.u, .int .u32 a.s, .int .u32 a.y] 34)) = W4 at HBC HAC4 HX4 ⊢
      clear a0 a1 a2 a3 a4 a5 a6 a7 hW4
      generalize W3.heap.size = gb at HBC HSZ3 ⊢
      have a1 := (HAC4.out 1 _ rfl).1
      have a2 := (HAC4.out 2 _ rfl).1
      have a3 := (HAC4.out 3 _ rfl).1
      have a4 := (HAC4.out 4 _ rfl).1
      have a5 := (HAC4.out 5 _ rfl).1
      have a6 := (HAC4.out 6 _ rfl).1
      have a7 := (HAC4.out 7 _ rfl).1
      go_wp2_with fail
      refine (Item.shiftTo a (It.shift by1 a) by1 rfl _).mono ?_
      rintro e w5 ⟨rfl, hb⟩
      have HBC5 := hid (HBC.out.below hb)
      have HAC5 := hid (HAC4.out.below hb)
      have HX5 := hid (HX4.out.below hb)
      clear hb a1 a2 a3 a4 a5 a6 a7 HBC HAC4 HX4
      have HT5 : Hid (w5.there gb 1 7) := hid (fun j hj => by have := HBC5.out.thereL (1 + j) (by simp; omega); rw [Nat.zero_add] at this; exact this)
      go_upto_region 12 with (first | ((with_reducible refine wpList_put_rowQ 32 (It.shift by1 a).cells infoItem rfl (.tmp 48) (.tmp 47) rfl gb 1 HT5.out ?qba ?qbb ?qbc ?qbd ?qbe); (case qba => rfl); (case qbb => rfl); (case qbc => rfl); (case qbd => rfl); (intro W6 hW6); (have HY6 := hid (show (Cs W6 ga [.int .u8 d, .int .u64 a.t, .int .u32 a.r, .int .u32 a.v, .int .i64 a.i, .int .u64 a.u, .int .u32 a.s, .int .u32 a.y] ∧ Cs W6 gb [.int .u8 d, .int .u64 (It.shift by1 a).t, .int .u32 (It.shift by1 a).r, .int .u32 (It.shift by1 a).v, .int .i64 (It.shift by1 a).i, .int .u64 (It.shift by1 a).u, .int .u32 (It.shift by1 a).s, .int .u32 (It.shift by1 a).y]) ∧ TI w1 q mb th p mc tc b (IntKind.u64.wrap (b + by1)) t u W6 by (subst hW6; exact ⟨⟨HAC5.out.fars (by have := HSZ3.out; omega) _ 1, Cs.putL (It.shift by1 a).cells 1 HBC5.out (by simp [It.cells])⟩, HX5.out.own (F := [gb]) (Chg.sets _ _ (Chg.refl _ _) (Or.inl (by simp))) (fun g hg f x y hcell => by simp at hg; subst hg; rw [HBC5.out.at0] at hcell; cases hcell) (fun g hg => by simp at hg; subst hg; exact ⟨fun hm => by have := HGA.out _ (Or.inl hm); have := HSZ3.out; omega, fun hm => by have := HGA.out _ (Or.inr hm); have := HSZ3.out; omega, by have := HGB.out; have := HSZ3.out; omega⟩)⟩))); (clear hW6)) | fail)
      clear HX5 HAC5 HBC5 HT5
      have a0 := HY6.out.1.1.at0
      have a1 := (HY6.out.1.1 1 _ rfl).1
      have a2 := (HY6.out.1.1 2 _ rfl).1
      have a3 := (HY6.out.1.1 3 _ rfl).1
      have a4 := (HY6.out.1.1 4 _ rfl).1
      have a5 := (HY6.out.1.1 5 _ rfl).1
      have a6 := (HY6.out.1.1 6 _ rfl).1
      have a7 := (HY6.out.1.1 7 _ rfl).1
      go_upto_block 2 with fail
      go_cut [13, 14] (fun s13 s14 wx => ∃ e9 : Int, s13 = .int .i64 e9 ∧ s14 = .int .i64 e9 ∧ NI w1 q mb th p mc tc by1 wx)
      case first =>
        have HNF : Hid ((ga ∉ foot q mb th t ∧ gb ∉ foot q mb th t) ∧ ga ∉ foot p mc tc u ∧ gb ∉ foot p mc tc u) := hid (by
          have h1 := HSZ3.out
          refine ⟨⟨fun hm => ?_, fun hm => ?_⟩, fun hm => ?_, fun hm => ?_⟩
          · have := HGA.out _ (Or.inl hm); omega
          · have := HGA.out _ (Or.inl hm); omega
          · have := HGA.out _ (Or.inr hm); omega
          · have := HGA.out _ (Or.inr hm); omega)
        have HQU : Hid (Qok (IntKind.u64.wrap (b + by1)) u.list) := hid (by rw [HBU.out.1]; exact HBU.out.2.sh by1)
        go_wp2_with fail
        · refine (Step.leave q mb th b t HBU.out.2 HY6.out.2.1.2.1 a.i HP.out.2.2.2.2.1 _ HY6.out.2.1.1.1).mono ?_
          rintro e w7 ⟨⟨x9, rfl⟩, hs⟩
          obtain ⟨t1, h1, h2, h3⟩ := HY6.out.2.fst hs
          have HC7 : Hid (Cs w7 gb [.int .u8 d, .int .u64 (It.shift by1 a).t, .int .u32 (It.shift by1 a).r, .int .u32 (It.shift by1 a).v, .int .i64 (It.shift by1 a).i, .int .u64 (It.shift by1 a).u, .int .u32 (It.shift by1 a).s, .int .u32 (It.shift by1 a).y]) := hid (by obtain ⟨_, _, _, _, _, _, hc⟩ := hs; exact HY6.out.1.2.chg hc HNF.out.1.2)
          have HH := hid (And.intro h1 h2)
          have HT1 := hid h3
          clear h1 h2 h3 hs HY6 a0 a1 a2 a3 a4 a5 a6 a7
          have b4 := (HC7.out 4 _ rfl).1
          try unfold It.val
          go_wp2_with fail
          have h7 := Step.leave p mc tc (IntKind.u64.wrap (b + by1)) u HQU.out HT1.out.1.2.2 a.i HP.out.2.2.2.2.1 w7 HT1.out.1.1.2
          rw [HBU.out.1, (lea_sh a.i b by1 t.list).1, (lea_sh a.i b by1 t.list).2, lesI_sh] at h7
          refine h7.mono ?_
          clear h7
          rintro e w8 ⟨⟨x10, rfl⟩, hs8⟩
          obtain ⟨u1, g1, g2⟩ := HT1.out.snd hs8
          have hx4 : NI w1 q mb th p mc tc by1 w8 := NI.of ⟨⟨HH.out, g1⟩, g2⟩
          clear g1 g2 hs8 HT1 HC7 b4
          generalize leaC a.i t.list = e9
          go_wp2_with fail
          go_meet
          exact ⟨e9, rfl, rfl, hx4⟩
        · clear a0 a1 a2 a3 a4 a5 a6 a7
          have hsT1 : Stays (fun wx => Cs wx ga [.int .u8 d, .int .u64 a.t, .int .u32 a.r, .int .u32 a.v, .int .i64 a.i, .int .u64 a.u, .int .u32 a.s, .int .u32 a.y] ∧ Cs wx gb [.int .u8 d, .int .u64 (It.shift by1 a).t, .int .u32 (It.shift by1 a).r, .int .u32 (It.shift by1 a).v, .int .i64 (It.shift by1 a).i, .int .u64 (It.shift by1 a).u, .int .u32 (It.shift by1 a).s, .int .u32 (It.shift by1 a).y]) := fun _ _ h hb => ⟨h.1.below hb, h.2.below hb⟩
          have hsU1 : Stays (fun wx => (fun wx => Cs wx ga [.int .u8 d, .int .u64 a.t, .int .u32 a.r, .int .u32 a.v, .int .i64 a.i, .int .u64 a.u, .int .u32 a.s, .int .u32 a.y] ∧ Cs wx gb [.int .u8 d, .int .u64 (It.shift by1 a).t, .int .u32 (It.shift by1 a).r, .int .u32 (It.shift by1 a).v, .int .i64 (It.shift by1 a).i, .int .u64 (It.shift by1 a).u, .int .u32 (It.shift by1 a).s, .int .u32 (It.shift by1 a).y]) wx ∧ TI w1 q mb th p mc tc b (IntKind.u64.wrap (b + by1)) t u wx) := Stays.and_ hsT1 (fun _ _ h hb => TI.below h hb)
          refine wp_region_any (by kernel_rfl) (wpAny_of_E (S0 := fun wx => Cs wx ga [.int .u8 d, .int .u64 a.t, .int .u32 a.r, .int .u32 a.v, .int .i64 a.i, .int .u64 a.u, .int .u32 a.s, .int .u32 a.y] ∧ Cs wx gb [.int .u8 d, .int .u64 (It.shift by1 a).t, .int .u32 (It.shift by1 a).r, .int .u32 (It.shift by1 a).v, .int .i64 (It.shift by1 a).i, .int .u64 (It.shift by1 a).u, .int .u32 (It.shift by1 a).s, .int .u32 (It.shift by1 a).y]) (n := 10) _ (fun wx => (fun wx => Cs wx ga [.int .u8 d, .int .u64 a.t, .int .u32 a.r, .int .u32 a.v, .int .i64 a.i, .int .u64 a.u, .int .u32 a.s, .int .u32 a.y] ∧ Cs wx gb [.int .u8 d, .int .u64 (It.shift by1 a).t, .int .u32 (It.shift by1 a).r, .int .u32 (It.shift by1 a).v, .int .i64 (It.shift by1 a).i, .int .u64 (It.shift by1 a).u, .int .u32 (It.shift by1 a).s, .int .u32 (It.shift by1 a).y]) wx ∧ TI w1 q mb th p mc tc b (IntKind.u64.wrap (b + by1)) t u wx) _ _ _ (hsU1 _ _ (HY6.out) (Below.refl _ _).drew) ?_)
          refine tE 0 (v := ?_) (hsU1) (fun _ h => h.1) rfl (by kernel_rfl) (by rfl) ?_ ?_
          rotate_left
          · intro wq hSw
            go_simp; try with_reducible rfl
          try simp only [tdy]
          refine tE 1 (v := ?_) (hsU1) (fun _ h => h.1) rfl (by kernel_rfl) (by rfl) ?_ ?_
          rotate_left
          · intro wq hSw
            go_simp; try with_reducible rfl
          try simp only [tdy]
          refine tE 2 (v := ?_) (hsU1) (fun _ h => h.1) rfl (by kernel_rfl) (by rfl) ?_ ?_
          rotate_left
          · intro wq hSw
            have a1 := (hSw.1 1 _ rfl).1
            have a2 := (hSw.1 2 _ rfl).1
            have a3 := (hSw.1 3 _ rfl).1
            have a4 := (hSw.1 4 _ rfl).1
            have a5 := (hSw.1 5 _ rfl).1
            have a6 := (hSw.1 6 _ rfl).1
            have a7 := (hSw.1 7 _ rfl).1
            have b1 := (hSw.2 1 _ rfl).1
            have b2 := (hSw.2 2 _ rfl).1
            have b3 := (hSw.2 3 _ rfl).1
            have b4 := (hSw.2 4 _ rfl).1
            have b5 := (hSw.2 5 _ rfl).1
            have b6 := (hSw.2 6 _ rfl).1
            have b7 := (hSw.2 7 _ rfl).1
            go_simp; try with_reducible rfl
          try simp only [tdy]
          refine tE 4 (v := ?_) (hsU1) (fun _ h => h.1) rfl (by kernel_rfl) (by rfl) ?_ ?_
          rotate_left
          · intro wq hSw
            go_simp; try with_reducible rfl
          try simp only [tdy]
          refine tE 5 (v := ?_) (hsU1) (fun _ h => h.1) rfl (by kernel_rfl) (by rfl) ?_ ?_
          rotate_left
          · intro wq hSw
            go_simp; try with_reducible rfl
          try simp only [tdy]
          refine tE 6 (v := ?_) (hsU1) (fun _ h => h.1) rfl (by kernel_rfl) (by rfl) ?_ ?_
          rotate_left
          · intro wq hSw
            have a1 := (hSw.1 1 _ rfl).1
            have a2 := (hSw.1 2 _ rfl).1
            have a3 := (hSw.1 3 _ rfl).1
            have a4 := (hSw.1 4 _ rfl).1
            have a5 := (hSw.1 5 _ rfl).1
            have a6 := (hSw.1 6 _ rfl).1
            have a7 := (hSw.1 7 _ rfl).1
            have b1 := (hSw.2 1 _ rfl).1
            have b2 := (hSw.2 2 _ rfl).1
            have b3 := (hSw.2 3 _ rfl).1
            have b4 := (hSw.2 4 _ rfl).1
            have b5 := (hSw.2 5 _ rfl).1
            have b6 := (hSw.2 6 _ rfl).1
            have b7 := (hSw.2 7 _ rfl).1
            go_simp; try with_reducible rfl
          try simp only [tdy]
          refine wpAnyE_callC (i := 3) (foot q mb th t) (fun wx => Cs wx ga [.int .u8 d, .int .u64 a.t, .int .u32 a.r, .int .u32 a.v, .int .i64 a.i, .int .u64 a.u, .int .u32 a.s, .int .u32 a.y] ∧ Cs wx gb [.int .u8 d, .int .u64 (It.shift by1 a).t, .int .u32 (It.shift by1 a).r, .int .u32 (It.shift by1 a).v, .int .i64 (It.shift by1 a).i, .int .u64 (It.shift by1 a).u, .int .u32 (It.shift by1 a).s, .int .u32 (It.shift by1 a).y]) (fun _ : Tr It => .int .i64 (chgC b t.list a)) (T1 w1 q mb th p mc tc (cngB b t.list a) (IntKind.u64.wrap (b + by1)) (cngL b t.list a) u) rfl (by kernel_rfl) (by decide) (by rfl) (fun _ _ h hb => ⟨h.1.below hb, h.2.below hb⟩) (fun _ h => h) (fun yq => T1.st w1 q mb th p mc tc (cngB b t.list a) (IntKind.u64.wrap (b + by1)) (cngL b t.list a) u yq) (fun _ _ h hc => ⟨h.1.1.chg hc HNF.out.1.1, h.1.2.chg hc HNF.out.1.2⟩) (fun wq hSw => ?_) (fun yq => ?_)
          · exact RunC.of_calls (Step.change q mb th b t HBU.out.2 hSw.2.1.2.1 a HP.out.2 wq hSw.2.1.1.1) (by go_simp) (fun e w' h => by
              obtain ⟨he, hs⟩ := h
              obtain ⟨t', h1, h2, h3⟩ := hSw.2.fst hs
              obtain ⟨_, _, _, _, _, _, hc⟩ := hs
              exact ⟨t', he, ⟨⟨h1, h2⟩, h3⟩, hc⟩)
          revert yq; intro t1
          try dsimp only
          try simp only [tdy]
          refine wpAnyE_callC (i := 7) (foot p mc tc u) (fun wx => Cs wx ga [.int .u8 d, .int .u64 a.t, .int .u32 a.r, .int .u32 a.v, .int .i64 a.i, .int .u64 a.u, .int .u32 a.s, .int .u32 a.y] ∧ Cs wx gb [.int .u8 d, .int .u64 (It.shift by1 a).t, .int .u32 (It.shift by1 a).r, .int .u32 (It.shift by1 a).v, .int .i64 (It.shift by1 a).i, .int .u64 (It.shift by1 a).u, .int .u32 (It.shift by1 a).s, .int .u32 (It.shift by1 a).y]) (fun _ : Tr It => .int .i64 (chgC b t.list a)) (T2 w1 q mb th p mc tc (cngB b t.list a) by1 (cngL b t.list a) t1) rfl (by kernel_rfl) (by decide) (by rfl) (fun _ _ h hb => ⟨h.1.below hb, h.2.below hb⟩) (fun _ h => h) (fun yq => T2.st w1 q mb th p mc tc (cngB b t.list a) by1 (cngL b t.list a) t1 yq) (fun _ _ h hc => ⟨h.1.1.chg hc HNF.out.2.1, h.1.2.chg hc HNF.out.2.2⟩) (fun wq hSw => ?_) (fun yq => ?_)
          · have h7 := Step.change p mc tc (IntKind.u64.wrap (b + by1)) u HQU.out hSw.2.2.1.2.2 (It.shift by1 a) HSA.out wq hSw.2.2.1.1.2
            rw [HBU.out.1, chgC_sh, (cng_sh b by1 t.list a).1, (cng_sh b by1 t.list a).2] at h7
            exact RunC.of_calls h7 (by go_simp) (fun e w' h => by
              obtain ⟨he, hs⟩ := h
              obtain ⟨u', h1, h2⟩ := hSw.2.2.snd hs
              obtain ⟨_, _, _, _, _, _, hc⟩ := hs
              exact ⟨u', he, ⟨⟨hSw.2.1, h1⟩, h2⟩, hc⟩)
          revert yq; intro u1
          try dsimp only
          try simp only [tdy]
          refine tE 8 (v := ?_) (Stays.and_ (fun _ _ h hb => ⟨h.1.below hb, h.2.below hb⟩) (T2.st w1 q mb th p mc tc (cngB b t.list a) by1 (cngL b t.list a) t1 u1)) (fun _ h => h.1) rfl (by kernel_rfl) (by rfl) ?_ ?_
          rotate_left
          · intro wq hSw
            go_simp; try with_reducible rfl
          try simp only [tdy]
          refine tE 9 (v := ?_) (Stays.and_ (fun _ _ h hb => ⟨h.1.below hb, h.2.below hb⟩) (T2.st w1 q mb th p mc tc (cngB b t.list a) by1 (cngL b t.list a) t1 u1)) (fun _ h => h.1) rfl (by kernel_rfl) (by rfl) ?_ ?_
          rotate_left
          · intro wq hSw
            go_simp; try with_reducible rfl
          try simp only [tdy]
          refine wpAnyE_done (by kernel_rfl) (fun wz hSz => ?_) _
          have hx4 := NI.of hSz.2
          clear hSz HY6
          generalize chgC b t.list a = e9
          go_wp2_with fail
          go_meet
          exact ⟨e9, rfl, rfl, hx4⟩
        · clear a0 a1 a2 a3 a4 a5 a6 a7
          have hsT2 : Stays (fun wx => Cs wx ga [.int .u8 d, .int .u64 a.t, .int .u32 a.r, .int .u32 a.v, .int .i64 a.i, .int .u64 a.u, .int .u32 a.s, .int .u32 a.y] ∧ Cs wx gb [.int .u8 d, .int .u64 (It.shift by1 a).t, .int .u32 (It.shift by1 a).r, .int .u32 (It.shift by1 a).v, .int .i64 (It.shift by1 a).i, .int .u64 (It.shift by1 a).u, .int .u32 (It.shift by1 a).s, .int .u32 (It.shift by1 a).y]) := fun _ _ h hb => ⟨h.1.below hb, h.2.below hb⟩
          have hsU2 : Stays (fun wx => (fun wx => Cs wx ga [.int .u8 d, .int .u64 a.t, .int .u32 a.r, .int .u32 a.v, .int .i64 a.i, .int .u64 a.u, .int .u32 a.s, .int .u32 a.y] ∧ Cs wx gb [.int .u8 d, .int .u64 (It.shift by1 a).t, .int .u32 (It.shift by1 a).r, .int .u32 (It.shift by1 a).v, .int .i64 (It.shift by1 a).i, .int .u64 (It.shift by1 a).u, .int .u32 (It.shift by1 a).s, .int .u32 (It.shift by1 a).y]) wx ∧ TI w1 q mb th p mc tc b (IntKind.u64.wrap (b + by1)) t u wx) := Stays.and_ hsT2 (fun _ _ h hb => TI.below h hb)
          refine wp_region_any (by kernel_rfl) (wpAny_of_E (S0 := fun wx => Cs wx ga [.int .u8 d, .int .u64 a.t, .int .u32 a.r, .int .u32 a.v, .int .i64 a.i, .int .u64 a.u, .int .u32 a.s, .int .u32 a.y] ∧ Cs wx gb [.int .u8 d, .int .u64 (It.shift by1 a).t, .int .u32 (It.shift by1 a).r, .int .u32 (It.shift by1 a).v, .int .i64 (It.shift by1 a).i, .int .u64 (It.shift by1 a).u, .int .u32 (It.shift by1 a).s, .int .u32 (It.shift by1 a).y]) (n := 10) _ (fun wx => (fun wx => Cs wx ga [.int .u8 d, .int .u64 a.t, .int .u32 a.r, .int .u32 a.v, .int .i64 a.i, .int .u64 a.u, .int .u32 a.s, .int .u32 a.y] ∧ Cs wx gb [.int .u8 d, .int .u64 (It.shift by1 a).t, .int .u32 (It.shift by1 a).r, .int .u32 (It.shift by1 a).v, .int .i64 (It.shift by1 a).i, .int .u64 (It.shift by1 a).u, .int .u32 (It.shift by1 a).s, .int .u32 (It.shift by1 a).y]) wx ∧ TI w1 q mb th p mc tc b (IntKind.u64.wrap (b + by1)) t u wx) _ _ _ (hsU2 _ _ (HY6.out) (Below.refl _ _).drew) ?_)
          refine tE 0 (v := ?_) (hsU2) (fun _ h => h.1) rfl (by kernel_rfl) (by rfl) ?_ ?_
          rotate_left
          · intro wq hSw
            go_simp; try with_reducible rfl
          try simp only [tdy]
          refine tE 1 (v := ?_) (hsU2) (fun _ h => h.1) rfl (by kernel_rfl) (by rfl) ?_ ?_
          rotate_left
          · intro wq hSw
            go_simp; try with_reducible rfl
          try simp only [tdy]
          refine tE 2 (v := ?_) (hsU2) (fun _ h => h.1) rfl (by kernel_rfl) (by rfl) ?_ ?_
          rotate_left
          · intro wq hSw
            have a1 := (hSw.1 1 _ rfl).1
            have a2 := (hSw.1 2 _ rfl).1
            have a3 := (hSw.1 3 _ rfl).1
            have a4 := (hSw.1 4 _ rfl).1
            have a5 := (hSw.1 5 _ rfl).1
            have a6 := (hSw.1 6 _ rfl).1
            have a7 := (hSw.1 7 _ rfl).1
            have b1 := (hSw.2 1 _ rfl).1
            have b2 := (hSw.2 2 _ rfl).1
            have b3 := (hSw.2 3 _ rfl).1
            have b4 := (hSw.2 4 _ rfl).1
            have b5 := (hSw.2 5 _ rfl).1
            have b6 := (hSw.2 6 _ rfl).1
            have b7 := (hSw.2 7 _ rfl).1
            go_simp; try with_reducible rfl
          try simp only [tdy]
          refine tE 4 (v := ?_) (hsU2) (fun _ h => h.1) rfl (by kernel_rfl) (by rfl) ?_ ?_
          rotate_left
          · intro wq hSw
            go_simp; try with_reducible rfl
          try simp only [tdy]
          refine tE 5 (v := ?_) (hsU2) (fun _ h => h.1) rfl (by kernel_rfl) (by rfl) ?_ ?_
          rotate_left
          · intro wq hSw
            go_simp; try with_reducible rfl
          try simp only [tdy]
          refine tE 6 (v := ?_) (hsU2) (fun _ h => h.1) rfl (by kernel_rfl) (by rfl) ?_ ?_
          rotate_left
          · intro wq hSw
            have a1 := (hSw.1 1 _ rfl).1
            have a2 := (hSw.1 2 _ rfl).1
            have a3 := (hSw.1 3 _ rfl).1
            have a4 := (hSw.1 4 _ rfl).1
            have a5 := (hSw.1 5 _ rfl).1
            have a6 := (hSw.1 6 _ rfl).1
            have a7 := (hSw.1 7 _ rfl).1
            have b1 := (hSw.2 1 _ rfl).1
            have b2 := (hSw.2 2 _ rfl).1
            have b3 := (hSw.2 3 _ rfl).1
            have b4 := (hSw.2 4 _ rfl).1
            have b5 := (hSw.2 5 _ rfl).1
            have b6 := (hSw.2 6 _ rfl).1
            have b7 := (hSw.2 7 _ rfl).1
            go_simp; try with_reducible rfl
          try simp only [tdy]
          refine wpAnyE_callC (i := 3) (foot q mb th t) (fun wx => Cs wx ga [.int .u8 d, .int .u64 a.t, .int .u32 a.r, .int .u32 a.v, .int .i64 a.i, .int .u64 a.u, .int .u32 a.s, .int .u32 a.y] ∧ Cs wx gb [.int .u8 d, .int .u64 (It.shift by1 a).t, .int .u32 (It.shift by1 a).r, .int .u32 (It.shift by1 a).v, .int .i64 (It.shift by1 a).i, .int .u64 (It.shift by1 a).u, .int .u32 (It.shift by1 a).s, .int .u32 (It.shift by1 a).y]) (fun _ : Tr It => .int .i64 (joinC b t.list a)) (T1 w1 q mb th p mc tc (joiB b t.list a) (IntKind.u64.wrap (b + by1)) (joiL b t.list a) u) rfl (by kernel_rfl) (by decide) (by rfl) (fun _ _ h hb => ⟨h.1.below hb, h.2.below hb⟩) (fun _ h => h) (fun yq => T1.st w1 q mb th p mc tc (joiB b t.list a) (IntKind.u64.wrap (b + by1)) (joiL b t.list a) u yq) (fun _ _ h hc => ⟨h.1.1.chg hc HNF.out.1.1, h.1.2.chg hc HNF.out.1.2⟩) (fun wq hSw => ?_) (fun yq => ?_)
          · exact RunC.of_calls (Step.join q mb th b t HBU.out.2 hSw.2.1.2.1 a HP.out.2 wq hSw.2.1.1.1) (by go_simp) (fun e w' h => by
              obtain ⟨he, hs⟩ := h
              obtain ⟨t', h1, h2, h3⟩ := hSw.2.fst hs
              obtain ⟨_, _, _, _, _, _, hc⟩ := hs
              exact ⟨t', he, ⟨⟨h1, h2⟩, h3⟩, hc⟩)
          revert yq; intro t1
          try dsimp only
          try simp only [tdy]
          refine wpAnyE_callC (i := 7) (foot p mc tc u) (fun wx => Cs wx ga [.int .u8 d, .int .u64 a.t, .int .u32 a.r, .int .u32 a.v, .int .i64 a.i, .int .u64 a.u, .int .u32 a.s, .int .u32 a.y] ∧ Cs wx gb [.int .u8 d, .int .u64 (It.shift by1 a).t, .int .u32 (It.shift by1 a).r, .int .u32 (It.shift by1 a).v, .int .i64 (It.shift by1 a).i, .int .u64 (It.shift by1 a).u, .int .u32 (It.shift by1 a).s, .int .u32 (It.shift by1 a).y]) (fun _ : Tr It => .int .i64 (joinC b t.list a)) (T2 w1 q mb th p mc tc (joiB b t.list a) by1 (joiL b t.list a) t1) rfl (by kernel_rfl) (by decide) (by rfl) (fun _ _ h hb => ⟨h.1.below hb, h.2.below hb⟩) (fun _ h => h) (fun yq => T2.st w1 q mb th p mc tc (joiB b t.list a) by1 (joiL b t.list a) t1 yq) (fun _ _ h hc => ⟨h.1.1.chg hc HNF.out.2.1, h.1.2.chg hc HNF.out.2.2⟩) (fun wq hSw => ?_) (fun yq => ?_)
          · have h7 := Step.join p mc tc (IntKind.u64.wrap (b + by1)) u HQU.out hSw.2.2.1.2.2 (It.shift by1 a) HSA.out wq hSw.2.2.1.1.2
            rw [HBU.out.1, joinC_sh, (joi_sh b by1 t.list a).1, (joi_sh b by1 t.list a).2] at h7
            exact RunC.of_calls h7 (by go_simp) (fun e w' h => by
              obtain ⟨he, hs⟩ := h
              obtain ⟨u', h1, h2⟩ := hSw.2.2.snd hs
              obtain ⟨_, _, _, _, _, _, hc⟩ := hs
              exact ⟨u', he, ⟨⟨hSw.2.1, h1⟩, h2⟩, hc⟩)
          revert yq; intro u1
          try dsimp only
          try simp only [tdy]
          refine tE 8 (v := ?_) (Stays.and_ (fun _ _ h hb => ⟨h.1.below hb, h.2.below hb⟩) (T2.st w1 q mb th p mc tc (joiB b t.list a) by1 (joiL b t.list a) t1 u1)) (fun _ h => h.1) rfl (by kernel_rfl) (by rfl) ?_ ?_
          rotate_left
          · intro wq hSw
            go_simp; try with_reducible rfl
          try simp only [tdy]
          refine tE 9 (v := ?_) (Stays.and_ (fun _ _ h hb => ⟨h.1.below hb, h.2.below hb⟩) (T2.st w1 q mb th p mc tc (joiB b t.list a) by1 (joiL b t.list a) t1 u1)) (fun _ h => h.1) rfl (by kernel_rfl) (by rfl) ?_ ?_
          rotate_left
          · intro wq hSw
            go_simp; try with_reducible rfl
          try simp only [tdy]
          refine wpAnyE_done (by kernel_rfl) (fun wz hSz => ?_) _
          have hx4 := NI.of hSz.2
          clear hSz HY6
          generalize joinC b t.list a = e9
          go_wp2_with fail
          go_meet
          exact ⟨e9, rfl, rfl, hx4⟩
      case rest =>
        obtain ⟨e9, rfl, rfl, hx4⟩ := hcut
        clear HY6 a0 a1 a2 a3 a4 a5 a6 a7
        obtain ⟨b2, t2, u2, hb2, ht2⟩ := hx4
        have HT2 := hid ht2
        have HB2 := hid hb2
        obtain ⟨x, hf, hx0, hx1⟩ := first_elig hb2.2.fw hb2.2.srt
        have HFX := hid hf
        have HX0 := hid hx0
        have HX1 := hid hx1
        have hqu : Qok (IntKind.u64.wrap (b2 + by1)) u2.list := by rw [hb2.1]; exact hb2.2.sh by1
        obtain ⟨y, hf, hy0, hy1⟩ := first_elig hqu.fw hqu.srt
        have HFY := hid hf
        have HY0 := hid hy0
        have HY1 := hid hy1
        have HULN : Hid (u2.list.length = t2.list.length) := hid (by rw [hb2.1, List.length_map])
        clear hb2 ht2 hf hx0 hx1 hy0 hy1 hqu
        try unfold It.val
        go_wp2_with fail
        refine (Queue.soonest q mb th (qM b2 t2.list) t2 _ HT2.out.1.1.1).mono ?_
        rintro e w9 ⟨rfl, hb⟩
        rw [HFX.out]
        have HT9 := hid (HT2.out.below hb)
        clear hb HT2
        dsimp only
        by_cases h0 : 0 < t2.list.length
        · have HLN : Hid ((0 : Int) < t2.list.length ∧ (t2.list.length : Int) ≤ 32) := hid (by have := HB2.out.2.fw.few; omega)
          have HYS : Hid (y = It.shift by1 x) := hid (first_sh HB2.out.2 HB2.out.1 (HX1.out h0) (HY1.out (by rw [HULN.out]; exact h0)))
          have HDU : Hid (decide (0 < u2.list.length) = true) := hid (decide_eq_true (by rw [HULN.out]; exact h0))
          rw [decide_eq_true h0]
          clear h0
          have hal := (Below.refl w9.heap.size w9).alloc (Nat.le_refl _) (.cells #[.int .u64 x.t, .int .u32 x.r, .int .u32 x.v, .int .i64 x.i, .int .u64 x.u, .int .u32 x.s, .int .u32 x.y] 32)
          have HT10 := hid (HT9.out.below hal)
          have HXV : Hid (Cs (w9.alloc (.cells #[.int .u64 x.t, .int .u32 x.r, .int .u32 x.v, .int .i64 x.i, .int .u64 x.u, .int .u32 x.s, .int .u32 x.y] 32)) w9.heap.size x.cells) := hid (Cs.new7 w9 32 x)
          clear hal HT9
          try unfold It.val
          go_upto_region 21 with fail
          generalize w9.alloc (.cells #[.int .u64 x.t, .int .u32 x.r, .int .u32 x.v, .int .i64 x.i, .int .u64 x.u, .int .u32 x.s, .int .u32 x.y] 32) = W10 at HT10 HXV ⊢
          generalize w9.heap.size = gx at HXV ⊢
          go_wp2_with fail
          refine (Queue.soonest p mc tc (qM (IntKind.u64.wrap (b2 + by1)) u2.list) u2 _ HT10.out.1.1.2).mono ?_
          rintro e w11 ⟨rfl, hb⟩
          rw [HFY.out]
          dsimp only
          rw [HDU.out]
          rw [HYS.out]
          have HT11 := hid (HT10.out.below hb)
          have HXV11 := hid (HXV.out.below hb)
          clear hb HT10 HXV
          have hal := (Below.refl w11.heap.size w11).alloc (Nat.le_refl _) (.cells #[.int .u64 (It.shift by1 x).t, .int .u32 (It.shift by1 x).r, .int .u32 (It.shift by1 x).v, .int .i64 (It.shift by1 x).i, .int .u64 (It.shift by1 x).u, .int .u32 (It.shift by1 x).s, .int .u32 (It.shift by1 x).y] 32)
          have HT12 := hid (HT11.out.below hal)
          have HXV12 := hid (HXV11.out.below hal)
          have HYV : Hid (Cs (w11.alloc (.cells #[.int .u64 (It.shift by1 x).t, .int .u32 (It.shift by1 x).r, .int .u32 (It.shift by1 x).v, .int .i64 (It.shift by1 x).i, .int .u64 (It.shift by1 x).u, .int .u32 (It.shift by1 x).s, .int .u32 (It.shift by1 x).y] 32)) w11.heap.size (It.shift by1 x).cells) := hid (Cs.new7 w11 32 (It.shift by1 x))
          clear hal HT11 HXV11
          try unfold It.val
          go_upto_region 22 with fail
          generalize w11.alloc (.cells #[.int .u64 (It.shift by1 x).t, .int .u32 (It.shift by1 x).r, .int .u32 (It.shift by1 x).v, .int .i64 (It.shift by1 x).i, .int .u64 (It.shift by1 x).u, .int .u32 (It.shift by1 x).s, .int .u32 (It.shift by1 x).y] 32) = W12 at HT12 HXV12 HYV ⊢
          generalize w11.heap.size = gy at HYV ⊢
          have HNQ : Hid (∀ wq, Below W12.heap.size W12 wq → Calls Tryz.prog 13 #[.pointer (some ⟨q, 0, none⟩)] wq (Ans (.int .u64 b2) wq)) := hid (fun wq h => Queue.now q mb th (qM b2 t2.list) t2 wq (HT12.out.below h).1.1.1)
          have HNP : Hid (∀ wq, Below W12.heap.size W12 wq → Calls Tryz.prog 13 #[.pointer (some ⟨p, 0, none⟩)] wq (Ans (.int .u64 (IntKind.u64.wrap (b2 + by1))) wq)) := hid (fun wq h => Queue.now p mc tc (qM (IntKind.u64.wrap (b2 + by1)) u2.list) u2 wq (HT12.out.below h).1.1.2)
          have HSQ : Hid (∀ wq, Below W12.heap.size W12 wq → Calls Tryz.prog 14 #[.pointer (some ⟨q, 0, none⟩)] wq (Ans (.int .u64 (spreadI b2 t2.list)) wq)) := hid (fun wq h => Queue.spread q mb th (qM b2 t2.list) t2 wq (HT12.out.below h).1.1.1)
          have HSP : Hid (∀ wq, Below W12.heap.size W12 wq → Calls Tryz.prog 14 #[.pointer (some ⟨p, 0, none⟩)] wq (Ans (.int .u64 (spreadI b2 t2.list)) wq)) := hid (fun wq h => by
              have h8 : Calls Tryz.prog 14 #[.pointer (some ⟨p, 0, none⟩)] wq (Ans (.int .u64 (spreadI (IntKind.u64.wrap (b2 + by1)) u2.list)) wq) := Queue.spread p mc tc (qM (IntKind.u64.wrap (b2 + by1)) u2.list) u2 wq (HT12.out.below h).1.1.2
              rw [HB2.out.1, spread_shift] at h8
              exact h8)
          have HLQ : Hid (∀ wq, Below W12.heap.size W12 wq → Calls Tryz.prog 15 #[.pointer (some ⟨q, 0, none⟩)] wq (Ans (.int .i64 t2.list.length) wq)) := hid (fun wq h => Queue.len q mb th (qM b2 t2.list) t2 wq (HT12.out.below h).1.1.1)
          have HLP : Hid (∀ wq, Below W12.heap.size W12 wq → Calls Tryz.prog 15 #[.pointer (some ⟨p, 0, none⟩)] wq (Ans (.int .i64 t2.list.length) wq)) := hid (fun wq h => by
              have h8 := Queue.len p mc tc (qM (IntKind.u64.wrap (b2 + by1)) u2.list) u2 wq (HT12.out.below h).1.1.2
              rw [HB2.out.1, List.length_map] at h8
              exact h8)
          have hsT3 : Stays (fun wx => Below W12.heap.size W12 wx) := fun _ _ h hb => below_on h hb
          refine wp_region_grow (S := fun wx => Below W12.heap.size W12 wx) 41 (by kernel_rfl) (hsT3 _ _ ((Below.refl W12.heap.size W12)) (Below.refl _ _).drew) ?_
          refine tE 0 (v := ?_) (hsT3) (fun _ h => h) rfl (by kernel_rfl) (by rfl) ?_ ?_
          rotate_left
          · intro wq hSw
            go_simp; try with_reducible rfl
          try simp only [tdy]
          refine tE 1 (v := ?_) (hsT3) (fun _ h => h) rfl (by kernel_rfl) (by rfl) ?_ ?_
          rotate_left
          · intro wq hSw
            go_simp; try with_reducible rfl
          try simp only [tdy]
          refine tE 2 (v := ?_) (hsT3) (fun _ h => h) rfl (by kernel_rfl) (by rfl) ?_ ?_
          rotate_left
          · intro wq hSw
            go_simp; try with_reducible rfl
          try simp only [tdy]
          refine tE 3 (v := ?_) (hsT3) (fun _ h => h) rfl (by kernel_rfl) (by rfl) ?_ ?_
          rotate_left
          · intro wq hSw
            go_simp; try with_reducible rfl
          try simp only [tdy]
          refine tE 4 (v := ?_) (hsT3) (fun _ h => h) rfl (by kernel_rfl) (by rfl) ?_ ?_
          rotate_left
          · intro wq hSw
            go_simp; try with_reducible rfl
          try simp only [tdy]
          refine tE 5 (v := ?_) (hsT3) (fun _ h => h) rfl (by kernel_rfl) (by rfl) ?_ ?_
          rotate_left
          · intro wq hSw
            go_simp; try with_reducible rfl
          try simp only [tdy]
          refine tE 6 (v := ?_) (hsT3) (fun _ h => h) rfl (by kernel_rfl) (by rfl) ?_ ?_
          rotate_left
          · intro wq hSw
            go_simp; try with_reducible rfl
          try simp only [tdy]
          refine tE 7 (v := ?_) (hsT3) (fun _ h => h) rfl (by kernel_rfl) (by rfl) ?_ ?_
          rotate_left
          · intro wq hSw
            go_simp; try with_reducible rfl
          try simp only [tdy]
          refine tE 8 (v := ?_) (hsT3) (fun _ h => h) rfl (by kernel_rfl) (by rfl) ?_ ?_
          rotate_left
          · intro wq hSw
            go_simp; try with_reducible rfl
          try simp only [tdy]
          refine tE 9 (v := ?_) (hsT3) (fun _ h => h) rfl (by kernel_rfl) (by rfl) ?_ ?_
          rotate_left
          · intro wq hSw
            go_simp; try with_reducible rfl
          try simp only [tdy]
          refine tE 10 (v := ?_) (hsT3) (fun _ h => h) rfl (by kernel_rfl) (by rfl) ?_ ?_
          rotate_left
          · intro wq hSw
            go_simp; try with_reducible rfl
          try simp only [tdy]
          refine tE 11 (v := ?_) (hsT3) (fun _ h => h) rfl (by kernel_rfl) (by rfl) ?_ ?_
          rotate_left
          · intro wq hSw
            obtain ⟨x0, x1, x2, x3, x4, x5, x6⟩ := It.at x (HXV12.out.below hSw)
            obtain ⟨y0, y1, y2, y3, y4, y5, y6⟩ := It.at (It.shift by1 x) (HYV.out.below hSw)
            go_simp; try with_reducible rfl
          try simp only [tdy]
          refine tE 12 (v := ?_) (hsT3) (fun _ h => h) rfl (by kernel_rfl) (by rfl) ?_ ?_
          rotate_left
          · intro wq hSw
            go_simp; try with_reducible rfl
          try simp only [tdy]
          refine wpAnyE_take (i := 13) (v := (It.shift by1 x).val) (hsT3) (fun _ h => h) rfl (by kernel_rfl) (by kernel_rfl) (by kernel_rfl) (by kernel_rfl) (fun _ _ _ h => h) (Or.inl ⟨by rfl, fun wq hSw => ?_⟩) ?_
          · refine RunB.of_calls (Item.shiftTo x (It.shift by1 x) by1 rfl wq) (by go_simp) ?_
            rintro e wr ⟨rfl, hb⟩
            exact ⟨rfl, hb⟩
          try simp only [tdy]
          refine tE 14 (v := ?_) (hsT3) (fun _ h => h) rfl (by kernel_rfl) (by rfl) ?_ ?_
          rotate_left
          · intro wq hSw
            obtain ⟨x0, x1, x2, x3, x4, x5, x6⟩ := It.at x (HXV12.out.below hSw)
            obtain ⟨y0, y1, y2, y3, y4, y5, y6⟩ := It.at (It.shift by1 x) (HYV.out.below hSw)
            go_simp; try with_reducible rfl
          try simp only [tdy]
          refine tE 15 (v := ?_) (hsT3) (fun _ h => h) rfl (by kernel_rfl) (by rfl) ?_ ?_
          rotate_left
          · intro wq hSw
            go_simp; try with_reducible rfl
          try simp only [tdy]
          refine tE 16 (v := ?_) (hsT3) (fun _ h => h) rfl (by kernel_rfl) (by rfl) ?_ ?_
          rotate_left
          · intro wq hSw
            go_simp; try with_reducible rfl
          try simp only [tdy]
          refine tE 17 (v := ?_) (hsT3) (fun _ h => h) rfl (by kernel_rfl) (by rfl) ?_ ?_
          rotate_left
          · intro wq hSw
            go_simp; try with_reducible rfl
          try simp only [tdy]
          refine tE 18 (v := ?_) (hsT3) (fun _ h => h) rfl (by kernel_rfl) (by rfl) ?_ ?_
          rotate_left
          · intro wq hSw
            go_simp; try with_reducible rfl
          try simp only [tdy]
          refine tE 19 (v := ?_) (hsT3) (fun _ h => h) rfl (by kernel_rfl) (by rfl) ?_ ?_
          rotate_left
          · intro wq hSw
            go_simp; try with_reducible rfl
          try simp only [tdy]
          refine wpAnyE_take (i := 20) (v := .int .u64 (IntKind.u64.wrap (b2 + by1))) (hsT3) (fun _ h => h) rfl (by kernel_rfl) (by kernel_rfl) (by kernel_rfl) (by kernel_rfl) (fun _ _ _ h => h) (Or.inl ⟨by rfl, fun wq hSw => ?_⟩) ?_
          · refine RunB.of_calls (HNP.out wq hSw) (by go_simp) ?_
            rintro e wr ⟨rfl, hb⟩
            exact ⟨rfl, hb⟩
          try simp only [tdy]
          refine tE 21 (v := ?_) (hsT3) (fun _ h => h) rfl (by kernel_rfl) (by rfl) ?_ ?_
          rotate_left
          · intro wq hSw
            go_simp; try with_reducible rfl
          try simp only [tdy]
          refine wpAnyE_take (i := 22) (v := .int .u64 b2) (hsT3) (fun _ h => h) rfl (by kernel_rfl) (by kernel_rfl) (by kernel_rfl) (by kernel_rfl) (fun _ _ _ h => h) (Or.inl ⟨by rfl, fun wq hSw => ?_⟩) ?_
          · refine RunB.of_calls (HNQ.out wq hSw) (by go_simp) ?_
            rintro e wr ⟨rfl, hb⟩
            exact ⟨rfl, hb⟩
          try simp only [tdy]
          refine tE 23 (v := ?_) (hsT3) (fun _ h => h) rfl (by kernel_rfl) (by rfl) ?_ ?_
          rotate_left
          · intro wq hSw
            go_simp; try with_reducible rfl
          try simp only [tdy]
          refine tE 24 (v := ?_) (hsT3) (fun _ h => h) rfl (by kernel_rfl) (by rfl) ?_ ?_
          rotate_left
          · intro wq hSw
            go_simp; try with_reducible rfl
          try simp only [tdy]
          refine tE 25 (v := ?_) (hsT3) (fun _ h => h) rfl (by kernel_rfl) (by rfl) ?_ ?_
          rotate_left
          · intro wq hSw
            go_simp; try with_reducible rfl
          try simp only [tdy]
          refine tE 26 (v := ?_) (hsT3) (fun _ h => h) rfl (by kernel_rfl) (by rfl) ?_ ?_
          rotate_left
          · intro wq hSw
            go_simp; try with_reducible rfl
          try simp only [tdy]
          refine tE 27 (v := ?_) (hsT3) (fun _ h => h) rfl (by kernel_rfl) (by rfl) ?_ ?_
          rotate_left
          · intro wq hSw
            go_simp; try with_reducible rfl
          try simp only [tdy]
          refine tE 28 (v := ?_) (hsT3) (fun _ h => h) rfl (by kernel_rfl) (by rfl) ?_ ?_
          rotate_left
          · intro wq hSw
            go_simp; try with_reducible rfl
          try simp only [tdy]
          refine wpAnyE_take (i := 29) (v := .int .u64 (spreadI b2 t2.list)) (hsT3) (fun _ h => h) rfl (by kernel_rfl) (by kernel_rfl) (by kernel_rfl) (by kernel_rfl) (fun _ _ _ h => h) (Or.inl ⟨by rfl, fun wq hSw => ?_⟩) ?_
          · refine RunB.of_calls (HSP.out wq hSw) (by go_simp) ?_
            rintro e wr ⟨rfl, hb⟩
            exact ⟨rfl, hb⟩
          try simp only [tdy]
          refine tE 30 (v := ?_) (hsT3) (fun _ h => h) rfl (by kernel_rfl) (by rfl) ?_ ?_
          rotate_left
          · intro wq hSw
            go_simp; try with_reducible rfl
          try simp only [tdy]
          refine wpAnyE_take (i := 31) (v := .int .u64 (spreadI b2 t2.list)) (hsT3) (fun _ h => h) rfl (by kernel_rfl) (by kernel_rfl) (by kernel_rfl) (by kernel_rfl) (fun _ _ _ h => h) (Or.inl ⟨by rfl, fun wq hSw => ?_⟩) ?_
          · refine RunB.of_calls (HSQ.out wq hSw) (by go_simp) ?_
            rintro e wr ⟨rfl, hb⟩
            exact ⟨rfl, hb⟩
          try simp only [tdy]
          refine tE 32 (v := ?_) (hsT3) (fun _ h => h) rfl (by kernel_rfl) (by rfl) ?_ ?_
          rotate_left
          · intro wq hSw
            go_simp; try with_reducible rfl
          try simp only [tdy]
          refine tE 33 (v := ?_) (hsT3) (fun _ h => h) rfl (by kernel_rfl) (by rfl) ?_ ?_
          rotate_left
          · intro wq hSw
            go_simp; try with_reducible rfl
          try simp only [tdy]
          refine tE 34 (v := ?_) (hsT3) (fun _ h => h) rfl (by kernel_rfl) (by rfl) ?_ ?_
          rotate_left
          · intro wq hSw
            go_simp; try with_reducible rfl
          try simp only [tdy]
          refine tE 35 (v := ?_) (hsT3) (fun _ h => h) rfl (by kernel_rfl) (by rfl) ?_ ?_
          rotate_left
          · intro wq hSw
            go_simp; try with_reducible rfl
          try simp only [tdy]
          refine wpAnyE_take (i := 36) (v := .int .i64 t2.list.length) (hsT3) (fun _ h => h) rfl (by kernel_rfl) (by kernel_rfl) (by kernel_rfl) (by kernel_rfl) (fun _ _ _ h => h) (Or.inl ⟨by rfl, fun wq hSw => ?_⟩) ?_
          · refine RunB.of_calls (HLP.out wq hSw) (by go_simp) ?_
            rintro e wr ⟨rfl, hb⟩
            exact ⟨rfl, hb⟩
          try simp only [tdy]
          refine tE 37 (v := ?_) (hsT3) (fun _ h => h) rfl (by kernel_rfl) (by rfl) ?_ ?_
          rotate_left
          · intro wq hSw
            go_simp; try with_reducible rfl
          try simp only [tdy]
          refine wpAnyE_take (i := 38) (v := .int .i64 t2.list.length) (hsT3) (fun _ h => h) rfl (by kernel_rfl) (by kernel_rfl) (by kernel_rfl) (by kernel_rfl) (fun _ _ _ h => h) (Or.inl ⟨by rfl, fun wq hSw => ?_⟩) ?_
          · refine RunB.of_calls (HLQ.out wq hSw) (by go_simp) ?_
            rintro e wr ⟨rfl, hb⟩
            exact ⟨rfl, hb⟩
          try simp only [tdy]
          refine tE 39 (v := ?_) (hsT3) (fun _ h => h) rfl (by kernel_rfl) (by rfl) ?_ ?_
          rotate_left
          · intro wq hSw
            go_simp; try with_reducible rfl
          try simp only [tdy]
          refine tE 40 (v := ?_) (hsT3) (fun _ h => h) rfl (by kernel_rfl) (by rfl) ?_ ?_
          rotate_left
          · intro wq hSw
            go_simp; try with_reducible rfl
          try simp only [tdy]
          refine wpAnyE_done (by kernel_rfl) (fun wz hSz => ?_) _
          have HT13 := hid (HT12.out.below hSz)
          clear hSz HT12 HXV12 HYV HNQ HNP HSQ HSP HLQ HLP
          go_wp2_with fail
          refine (Queue.items q mb th _ t2 _ HT13.out.1.1.1).mono ?_
          rintro e w14 ⟨A2, c2, rfl, ho, hb⟩
          have HR14 := hid ho.rdi
          have HT14 := hid (HT13.out.below hb)
          clear hb ho HT13
          obtain ⟨n2, hn2⟩ : ∃ n2, n2 = t2.list.length := ⟨_, rfl⟩
          rw [← hn2] at HR14 HLN ⊢
          go_wp2_with fail
          go_loopg [142] n2 (fun s i wr => ∃ j : Nat, i = .int .i64 j ∧ j ≤ n2 ∧ s = n2 - j ∧ Below w14.heap.size w14 wr)
          case atStart => exact ⟨0, rfl, Nat.zero_le _, by omega, Below.refl _ _⟩
          case round =>
            obtain ⟨j, rfl, hj, hs, hb⟩ := hrel
            have HSJ := hid hs
            have HBJ := hid hb
            clear hs hb
            by_cases hjn : j < n2
            · obtain ⟨bb2, off2, hA2, _, hc2⟩ := (HR14.out.below HBJ.out).2 0 (by omega)
              obtain ⟨p0, p1, p2, p3, p4, p5, p6⟩ := hc2 j hjn
              have HM : Hid (t2.list.getD j It.zero ∈ t2.list) := hid (by
                  have e : t2.list.getD j It.zero = t2.list[j] := by simp [List.getD, (show j < t2.list.length by omega)]
                  rw [e]; exact List.getElem_mem _)
              generalize t2.list.getD j It.zero = z at *
              subst hA2
              have hji : (j : Int) < n2 := by omega
              have hj0 : (0 : Int) ≤ j := by omega
              have hj32 : (n2 : Int) ≤ 32 := HLN.out.2
              clear hc2
              have hal := (Below.refl wr.heap.size wr).alloc (Nat.le_refl _) (.cells #[.int .u64 z.t, .int .u32 z.r, .int .u32 z.v, .int .i64 z.i, .int .u64 z.u, .int .u32 z.s, .int .u32 z.y] 32)
              have HYV : Hid (Cs (wr.alloc (.cells #[.int .u64 z.t, .int .u32 z.r, .int .u32 z.v, .int .i64 z.i, .int .u64 z.u, .int .u32 z.s, .int .u32 z.y] 32)) wr.heap.size z.cells) := hid (Cs.new7 wr 32 z)
              have HBA := hid (below_on HBJ.out hal)
              clear hal
              go_upto_region 27 with fail
              generalize (wr.alloc (.cells #[.int .u64 z.t, .int .u32 z.r, .int .u32 z.v, .int .i64 z.i, .int .u64 z.u, .int .u32 z.s, .int .u32 z.y] 32)) = Wy at HYV HBA ⊢
              clear p0 p1 p2 p3 p4 p5 p6
              generalize wr.heap.size = gz at HYV ⊢
              obtain ⟨y0, y1, y2, y3, y4, y5, y6⟩ := It.at z HYV.out
              go_wp2_with fail
              refine (Queue.lag_yes q mb th (qM b2 t2.list) t2 z HM.out _ (HT14.out.below HBA.out).1.1.1).mono ?_
              rintro e w15 ⟨rfl, hb⟩
              have HB15 := hid (below_on HBA.out hb)
              have HYV15 := hid (HYV.out.below hb)
              clear hb y0 y1 y2 y3 y4 y5 y6
              have HLG : Hid ((qM (IntKind.u64.wrap (b2 + by1)) u2.list).lag (It.shift by1 z).pp = (qM b2 t2.list).lag z.pp) := hid (by rw [HB2.out.1]; exact lag_sh HB2.out.2 HM.out)
              obtain ⟨L, hL⟩ : ∃ L, ((qM b2 t2.list).lag z.pp).2 = L := ⟨_, rfl⟩
              rw [hL]
              have HLL := hid hL
              clear hL
              unfold wv
              have hal := (Below.refl w15.heap.size w15).alloc (Nat.le_refl _) (.cells #[.int .i64 (hiW L), .int .u64 (loW L)] 48)
              have HV1 : Hid (Cs (w15.alloc (.cells #[.int .i64 (hiW L), .int .u64 (loW L)] 48)) w15.heap.size [.int .i64 (hiW L), .int .u64 (loW L)]) := hid (Cs.new2 w15 48 _ _)
              have HB16 := hid (below_on HB15.out hal)
              have HYV16 := hid (HYV15.out.below hal)
              clear hal HB15 HYV15
              go_upto_region 28 with fail
              generalize (w15.alloc (.cells #[.int .i64 (hiW L), .int .u64 (loW L)] 48)) = W16 at HV1 HB16 HYV16 ⊢
              generalize w15.heap.size = gv at HV1 ⊢
              obtain ⟨y0, y1, y2, y3, y4, y5, y6⟩ := It.at z HYV16.out
              go_wp2_with fail
              have h8 := Queue.lag_yes p mc tc (qM (IntKind.u64.wrap (b2 + by1)) u2.list) u2 (It.shift by1 z) (by rw [HB2.out.1]; exact List.mem_map_of_mem HM.out) _ (HT14.out.below HB16.out).1.1.2
              rw [HLG.out, HLL.out] at h8
              refine h8.mono ?_
              clear h8
              rintro e w17 ⟨rfl, hb⟩
              unfold wv
              have HB17 := hid (below_on HB16.out hb)
              have HV17 := hid (HV1.out.below hb)
              clear hb y0 y1 y2 y3 y4 y5 y6 HB16 HV1
              have hal := (Below.refl w17.heap.size w17).alloc (Nat.le_refl _) (.cells #[.int .i64 (hiW L), .int .u64 (loW L)] 48)
              have HV2 : Hid (Cs (w17.alloc (.cells #[.int .i64 (hiW L), .int .u64 (loW L)] 48)) w17.heap.size [.int .i64 (hiW L), .int .u64 (loW L)]) := hid (Cs.new2 w17 48 _ _)
              have HB18 := hid (below_on HB17.out hal)
              have HV18 := hid (HV17.out.below hal)
              clear hal HB17 HV17
              go_upto_region 29 with fail
              generalize (w17.alloc (.cells #[.int .i64 (hiW L), .int .u64 (loW L)] 48)) = W18 at HV2 HB18 HV18 ⊢
              generalize w17.heap.size = gw at HV2 ⊢
              have v0 := HV18.out.at0
              have v1 := HV18.out.at1
              have v2 := HV2.out.at0
              have v3 := HV2.out.at1
              go_wp2_with fail
              go_roundg (n2 - (j + 1))
              case measure => have := HSJ.out; omega
              case rel => exact ⟨j + 1, by go_num, by omega, rfl, HB18.out⟩
            · obtain rfl : j = n2 := by omega
              have hji : ¬ (j : Int) < j := by omega
              have HXE : Hid (NI w1 q mb th p mc tc by1 wr) := hid ⟨b2, t2, u2, HB2.out, HT14.out.below HBJ.out⟩
              go_wp2_with fail
              go_roundg (n - (k + 1))
              case measure => have := HS.out; omega
              case rel => exact ⟨k + 1, by go_num, by omega, rfl, HXE.out⟩
        · have HLN : Hid (t2.list.length = 0) := hid (by omega)
          obtain rfl : x = It.zero := HX0.out HLN.out
          have HYZ : Hid (y = It.zero) := hid (HY0.out (by rw [HULN.out]; exact HLN.out))
          have HDU : Hid (decide (0 < u2.list.length) = false) := hid (decide_eq_false (by rw [HULN.out]; exact h0))
          rw [decide_eq_false h0]
          clear h0
          have hal := (Below.refl w9.heap.size w9).alloc (Nat.le_refl _) (.cells #[.int .u64 0, .int .u32 0, .int .u32 0, .int .i64 0, .int .u64 0, .int .u32 0, .int .u32 0] 32)
          have HT10 := hid (HT9.out.below hal)
          have HXV : Hid (Cs (w9.alloc (.cells #[.int .u64 0, .int .u32 0, .int .u32 0, .int .i64 0, .int .u64 0, .int .u32 0, .int .u32 0] 32)) w9.heap.size It.zero.cells) := hid (Cs.new7 w9 32 It.zero)
          clear hal HT9
          try unfold It.val
          go_upto_region 21 with fail
          generalize w9.alloc (.cells #[.int .u64 0, .int .u32 0, .int .u32 0, .int .i64 0, .int .u64 0, .int .u32 0, .int .u32 0] 32) = W10 at HT10 HXV ⊢
          generalize w9.heap.size = gx at HXV ⊢
          go_wp2_with fail
          refine (Queue.soonest p mc tc (qM (IntKind.u64.wrap (b2 + by1)) u2.list) u2 _ HT10.out.1.1.2).mono ?_
          rintro e w11 ⟨rfl, hb⟩
          rw [HFY.out]
          dsimp only
          rw [HDU.out]
          rw [HYZ.out]
          have HT11 := hid (HT10.out.below hb)
          have HXV11 := hid (HXV.out.below hb)
          clear hb HT10 HXV
          have hal := (Below.refl w11.heap.size w11).alloc (Nat.le_refl _) (.cells #[.int .u64 0, .int .u32 0, .int .u32 0, .int .i64 0, .int .u64 0, .int .u32 0, .int .u32 0] 32)
          have HT12 := hid (HT11.out.below hal)
          have HXV12 := hid (HXV11.out.below hal)
          have HYV : Hid (Cs (w11.alloc (.cells #[.int .u64 0, .int .u32 0, .int .u32 0, .int .i64 0, .int .u64 0, .int .u32 0, .int .u32 0] 32)) w11.heap.size It.zero.cells) := hid (Cs.new7 w11 32 It.zero)
          clear hal HT11 HXV11
          try unfold It.val
          go_upto_region 22 with fail
          generalize w11.alloc (.cells #[.int .u64 0, .int .u32 0, .int .u32 0, .int .i64 0, .int .u64 0, .int .u32 0, .int .u32 0] 32) = W12 at HT12 HXV12 HYV ⊢
          generalize w11.heap.size = gy at HYV ⊢
          have HNQ : Hid (∀ wq, Below W12.heap.size W12 wq → Calls Tryz.prog 13 #[.pointer (some ⟨q, 0, none⟩)] wq (Ans (.int .u64 b2) wq)) := hid (fun wq h => Queue.now q mb th (qM b2 t2.list) t2 wq (HT12.out.below h).1.1.1)
          have HNP : Hid (∀ wq, Below W12.heap.size W12 wq → Calls Tryz.prog 13 #[.pointer (some ⟨p, 0, none⟩)] wq (Ans (.int .u64 (IntKind.u64.wrap (b2 + by1))) wq)) := hid (fun wq h => Queue.now p mc tc (qM (IntKind.u64.wrap (b2 + by1)) u2.list) u2 wq (HT12.out.below h).1.1.2)
          have HSQ : Hid (∀ wq, Below W12.heap.size W12 wq → Calls Tryz.prog 14 #[.pointer (some ⟨q, 0, none⟩)] wq (Ans (.int .u64 (spreadI b2 t2.list)) wq)) := hid (fun wq h => Queue.spread q mb th (qM b2 t2.list) t2 wq (HT12.out.below h).1.1.1)
          have HSP : Hid (∀ wq, Below W12.heap.size W12 wq → Calls Tryz.prog 14 #[.pointer (some ⟨p, 0, none⟩)] wq (Ans (.int .u64 (spreadI b2 t2.list)) wq)) := hid (fun wq h => by
              have h8 : Calls Tryz.prog 14 #[.pointer (some ⟨p, 0, none⟩)] wq (Ans (.int .u64 (spreadI (IntKind.u64.wrap (b2 + by1)) u2.list)) wq) := Queue.spread p mc tc (qM (IntKind.u64.wrap (b2 + by1)) u2.list) u2 wq (HT12.out.below h).1.1.2
              rw [HB2.out.1, spread_shift] at h8
              exact h8)
          have HLQ : Hid (∀ wq, Below W12.heap.size W12 wq → Calls Tryz.prog 15 #[.pointer (some ⟨q, 0, none⟩)] wq (Ans (.int .i64 t2.list.length) wq)) := hid (fun wq h => Queue.len q mb th (qM b2 t2.list) t2 wq (HT12.out.below h).1.1.1)
          have HLP : Hid (∀ wq, Below W12.heap.size W12 wq → Calls Tryz.prog 15 #[.pointer (some ⟨p, 0, none⟩)] wq (Ans (.int .i64 t2.list.length) wq)) := hid (fun wq h => by
              have h8 := Queue.len p mc tc (qM (IntKind.u64.wrap (b2 + by1)) u2.list) u2 wq (HT12.out.below h).1.1.2
              rw [HB2.out.1, List.length_map] at h8
              exact h8)
          have hsT4 : Stays (fun wx => Below W12.heap.size W12 wx) := fun _ _ h hb => below_on h hb
          refine wp_region_grow (S := fun wx => Below W12.heap.size W12 wx) 41 (by kernel_rfl) (hsT4 _ _ ((Below.refl W12.heap.size W12)) (Below.refl _ _).drew) ?_
          refine tE 0 (v := ?_) (hsT4) (fun _ h => h) rfl (by kernel_rfl) (by rfl) ?_ ?_
          rotate_left
          · intro wq hSw
            go_simp; try with_reducible rfl
          try simp only [tdy]
          refine tE 1 (v := ?_) (hsT4) (fun _ h => h) rfl (by kernel_rfl) (by rfl) ?_ ?_
          rotate_left
          · intro wq hSw
            go_simp; try with_reducible rfl
          try simp only [tdy]
          refine tE 2 (v := ?_) (hsT4) (fun _ h => h) rfl (by kernel_rfl) (by rfl) ?_ ?_
          rotate_left
          · intro wq hSw
            go_simp; try with_reducible rfl
          try simp only [tdy]
          refine tE 3 (v := ?_) (hsT4) (fun _ h => h) rfl (by kernel_rfl) (by rfl) ?_ ?_
          rotate_left
          · intro wq hSw
            go_simp; try with_reducible rfl
          try simp only [tdy]
          refine tE 4 (v := ?_) (hsT4) (fun _ h => h) rfl (by kernel_rfl) (by rfl) ?_ ?_
          rotate_left
          · intro wq hSw
            go_simp; try with_reducible rfl
          try simp only [tdy]
          refine tE 5 (v := ?_) (hsT4) (fun _ h => h) rfl (by kernel_rfl) (by rfl) ?_ ?_
          rotate_left
          · intro wq hSw
            go_simp; try with_reducible rfl
          try simp only [tdy]
          refine tE 6 (v := ?_) (hsT4) (fun _ h => h) rfl (by kernel_rfl) (by rfl) ?_ ?_
          rotate_left
          · intro wq hSw
            go_simp; try with_reducible rfl
          try simp only [tdy]
          refine tE 7 (v := ?_) (hsT4) (fun _ h => h) rfl (by kernel_rfl) (by rfl) ?_ ?_
          rotate_left
          · intro wq hSw
            go_simp; try with_reducible rfl
          try simp only [tdy]
          refine tE 8 (v := ?_) (hsT4) (fun _ h => h) rfl (by kernel_rfl) (by rfl) ?_ ?_
          rotate_left
          · intro wq hSw
            go_simp; try with_reducible rfl
          try simp only [tdy]
          refine tE 9 (v := ?_) (hsT4) (fun _ h => h) rfl (by kernel_rfl) (by rfl) ?_ ?_
          rotate_left
          · intro wq hSw
            go_simp; try with_reducible rfl
          try simp only [tdy]
          refine tE 10 (v := ?_) (hsT4) (fun _ h => h) rfl (by kernel_rfl) (by rfl) ?_ ?_
          rotate_left
          · intro wq hSw
            go_simp; try with_reducible rfl
          try simp only [tdy]
          refine wpAnyE_take (i := 11) (v := undef) (hsT4) (fun _ h => h) rfl (by kernel_rfl) (by kernel_rfl) (by kernel_rfl) (by kernel_rfl) (fun _ _ _ h => h) (Or.inr ⟨by rfl, rfl⟩) ?_
          try simp only [tdy]
          refine wpAnyE_take (i := 12) (v := undef) (hsT4) (fun _ h => h) rfl (by kernel_rfl) (by kernel_rfl) (by kernel_rfl) (by kernel_rfl) (fun _ _ _ h => h) (Or.inr ⟨by rfl, rfl⟩) ?_
          try simp only [tdy]
          refine wpAnyE_take (i := 13) (v := undef) (hsT4) (fun _ h => h) rfl (by kernel_rfl) (by kernel_rfl) (by kernel_rfl) (by kernel_rfl) (fun _ _ _ h => h) (Or.inr ⟨by rfl, rfl⟩) ?_
          try simp only [tdy]
          refine wpAnyE_take (i := 14) (v := undef) (hsT4) (fun _ h => h) rfl (by kernel_rfl) (by kernel_rfl) (by kernel_rfl) (by kernel_rfl) (fun _ _ _ h => h) (Or.inr ⟨by rfl, rfl⟩) ?_
          try simp only [tdy]
          refine wpAnyE_take (i := 15) (v := undef) (hsT4) (fun _ h => h) rfl (by kernel_rfl) (by kernel_rfl) (by kernel_rfl) (by kernel_rfl) (fun _ _ _ h => h) (Or.inr ⟨by rfl, rfl⟩) ?_
          try simp only [tdy]
          refine tE 16 (v := ?_) (hsT4) (fun _ h => h) rfl (by kernel_rfl) (by rfl) ?_ ?_
          rotate_left
          · intro wq hSw
            go_simp; try with_reducible rfl
          try simp only [tdy]
          refine tE 17 (v := ?_) (hsT4) (fun _ h => h) rfl (by kernel_rfl) (by rfl) ?_ ?_
          rotate_left
          · intro wq hSw
            go_simp; try with_reducible rfl
          try simp only [tdy]
          refine tE 18 (v := ?_) (hsT4) (fun _ h => h) rfl (by kernel_rfl) (by rfl) ?_ ?_
          rotate_left
          · intro wq hSw
            go_simp; try with_reducible rfl
          try simp only [tdy]
          refine tE 19 (v := ?_) (hsT4) (fun _ h => h) rfl (by kernel_rfl) (by rfl) ?_ ?_
          rotate_left
          · intro wq hSw
            go_simp; try with_reducible rfl
          try simp only [tdy]
          refine wpAnyE_take (i := 20) (v := .int .u64 (IntKind.u64.wrap (b2 + by1))) (hsT4) (fun _ h => h) rfl (by kernel_rfl) (by kernel_rfl) (by kernel_rfl) (by kernel_rfl) (fun _ _ _ h => h) (Or.inl ⟨by rfl, fun wq hSw => ?_⟩) ?_
          · refine RunB.of_calls (HNP.out wq hSw) (by go_simp) ?_
            rintro e wr ⟨rfl, hb⟩
            exact ⟨rfl, hb⟩
          try simp only [tdy]
          refine tE 21 (v := ?_) (hsT4) (fun _ h => h) rfl (by kernel_rfl) (by rfl) ?_ ?_
          rotate_left
          · intro wq hSw
            go_simp; try with_reducible rfl
          try simp only [tdy]
          refine wpAnyE_take (i := 22) (v := .int .u64 b2) (hsT4) (fun _ h => h) rfl (by kernel_rfl) (by kernel_rfl) (by kernel_rfl) (by kernel_rfl) (fun _ _ _ h => h) (Or.inl ⟨by rfl, fun wq hSw => ?_⟩) ?_
          · refine RunB.of_calls (HNQ.out wq hSw) (by go_simp) ?_
            rintro e wr ⟨rfl, hb⟩
            exact ⟨rfl, hb⟩
          try simp only [tdy]
          refine tE 23 (v := ?_) (hsT4) (fun _ h => h) rfl (by kernel_rfl) (by rfl) ?_ ?_
          rotate_left
          · intro wq hSw
            go_simp; try with_reducible rfl
          try simp only [tdy]
          refine tE 24 (v := ?_) (hsT4) (fun _ h => h) rfl (by kernel_rfl) (by rfl) ?_ ?_
          rotate_left
          · intro wq hSw
            go_simp; try with_reducible rfl
          try simp only [tdy]
          refine tE 25 (v := ?_) (hsT4) (fun _ h => h) rfl (by kernel_rfl) (by rfl) ?_ ?_
          rotate_left
          · intro wq hSw
            go_simp; try with_reducible rfl
          try simp only [tdy]
          refine tE 26 (v := ?_) (hsT4) (fun _ h => h) rfl (by kernel_rfl) (by rfl) ?_ ?_
          rotate_left
          · intro wq hSw
            go_simp; try with_reducible rfl
          try simp only [tdy]
          refine tE 27 (v := ?_) (hsT4) (fun _ h => h) rfl (by kernel_rfl) (by rfl) ?_ ?_
          rotate_left
          · intro wq hSw
            go_simp; try with_reducible rfl
          try simp only [tdy]
          refine tE 28 (v := ?_) (hsT4) (fun _ h => h) rfl (by kernel_rfl) (by rfl) ?_ ?_
          rotate_left
          · intro wq hSw
            go_simp; try with_reducible rfl
          try simp only [tdy]
          refine wpAnyE_take (i := 29) (v := .int .u64 (spreadI b2 t2.list)) (hsT4) (fun _ h => h) rfl (by kernel_rfl) (by kernel_rfl) (by kernel_rfl) (by kernel_rfl) (fun _ _ _ h => h) (Or.inl ⟨by rfl, fun wq hSw => ?_⟩) ?_
          · refine RunB.of_calls (HSP.out wq hSw) (by go_simp) ?_
            rintro e wr ⟨rfl, hb⟩
            exact ⟨rfl, hb⟩
          try simp only [tdy]
          refine tE 30 (v := ?_) (hsT4) (fun _ h => h) rfl (by kernel_rfl) (by rfl) ?_ ?_
          rotate_left
          · intro wq hSw
            go_simp; try with_reducible rfl
          try simp only [tdy]
          refine wpAnyE_take (i := 31) (v := .int .u64 (spreadI b2 t2.list)) (hsT4) (fun _ h => h) rfl (by kernel_rfl) (by kernel_rfl) (by kernel_rfl) (by kernel_rfl) (fun _ _ _ h => h) (Or.inl ⟨by rfl, fun wq hSw => ?_⟩) ?_
          · refine RunB.of_calls (HSQ.out wq hSw) (by go_simp) ?_
            rintro e wr ⟨rfl, hb⟩
            exact ⟨rfl, hb⟩
          try simp only [tdy]
          refine tE 32 (v := ?_) (hsT4) (fun _ h => h) rfl (by kernel_rfl) (by rfl) ?_ ?_
          rotate_left
          · intro wq hSw
            go_simp; try with_reducible rfl
          try simp only [tdy]
          refine tE 33 (v := ?_) (hsT4) (fun _ h => h) rfl (by kernel_rfl) (by rfl) ?_ ?_
          rotate_left
          · intro wq hSw
            go_simp; try with_reducible rfl
          try simp only [tdy]
          refine tE 34 (v := ?_) (hsT4) (fun _ h => h) rfl (by kernel_rfl) (by rfl) ?_ ?_
          rotate_left
          · intro wq hSw
            go_simp; try with_reducible rfl
          try simp only [tdy]
          refine tE 35 (v := ?_) (hsT4) (fun _ h => h) rfl (by kernel_rfl) (by rfl) ?_ ?_
          rotate_left
          · intro wq hSw
            go_simp; try with_reducible rfl
          try simp only [tdy]
          refine wpAnyE_take (i := 36) (v := .int .i64 t2.list.length) (hsT4) (fun _ h => h) rfl (by kernel_rfl) (by kernel_rfl) (by kernel_rfl) (by kernel_rfl) (fun _ _ _ h => h) (Or.inl ⟨by rfl, fun wq hSw => ?_⟩) ?_
          · refine RunB.of_calls (HLP.out wq hSw) (by go_simp) ?_
            rintro e wr ⟨rfl, hb⟩
            exact ⟨rfl, hb⟩
          try simp only [tdy]
          refine tE 37 (v := ?_) (hsT4) (fun _ h => h) rfl (by kernel_rfl) (by rfl) ?_ ?_
          rotate_left
          · intro wq hSw
            go_simp; try with_reducible rfl
          try simp only [tdy]
          refine wpAnyE_take (i := 38) (v := .int .i64 t2.list.length) (hsT4) (fun _ h => h) rfl (by kernel_rfl) (by kernel_rfl) (by kernel_rfl) (by kernel_rfl) (fun _ _ _ h => h) (Or.inl ⟨by rfl, fun wq hSw => ?_⟩) ?_
          · refine RunB.of_calls (HLQ.out wq hSw) (by go_simp) ?_
            rintro e wr ⟨rfl, hb⟩
            exact ⟨rfl, hb⟩
          try simp only [tdy]
          refine tE 39 (v := ?_) (hsT4) (fun _ h => h) rfl (by kernel_rfl) (by rfl) ?_ ?_
          rotate_left
          · intro wq hSw
            go_simp; try with_reducible rfl
          try simp only [tdy]
          refine tE 40 (v := ?_) (hsT4) (fun _ h => h) rfl (by kernel_rfl) (by rfl) ?_ ?_
          rotate_left
          · intro wq hSw
            go_simp; try with_reducible rfl
          try simp only [tdy]
          refine wpAnyE_done (by kernel_rfl) (fun wz hSz => ?_) _
          have HT13 := hid (HT12.out.below hSz)
          clear hSz HT12 HXV12 HYV HNQ HNP HSQ HSP HLQ HLP
          go_wp2_with fail
          refine (Queue.items q mb th _ t2 _ HT13.out.1.1.1).mono ?_
          rintro e w14 ⟨A2, c2, rfl, ho, hb⟩
          have HR14 := hid ho.rdi
          have HT14 := hid (HT13.out.below hb)
          clear hb ho HT13
          rw [HLN.out]
          go_wp2_with fail
          go_loopg [142] 0 (fun s i wr => i = .int .i64 0 ∧ Below w14.heap.size w14 wr)
          case atStart => exact ⟨rfl, Below.refl _ _⟩
          case round =>
            obtain ⟨rfl, hb⟩ := hrel
            have HXE : Hid (NI w1 q mb th p mc tc by1 wr) := hid ⟨b2, t2, u2, HB2.out, HT14.out.below hb⟩
            clear hb
            go_wp2_with fail
            go_roundg (n - (k + 1))
            case measure => have := HS.out; omega
            case rel => exact ⟨k + 1, by go_num, by omega, rfl, HXE.out⟩
    · obtain rfl : k = n := by omega
      have hki : ¬ (k : Int) < k := by omega
      go_wp2_with fail
      go_ret
      exact ⟨rfl, below_on HB1.out HBW.out⟩
end
end

end Go.Proofs.YtdkfpmlamfeenaaGreatDoor

/- Texts of QueueServes's proof, together. -/
import Derived.Test.YtdkfpmlamfeenaaGreatDoorQueueServesZ48
import Derived.Test.YtdkfpmlamfeenaaGreatDoorQueueServesZ44
import Derived.Test.YtdkfpmlamfeenaaGreatDoorQueueServesZ30
import Derived.Test.YtdkfpmlamfeenaaGreatDoorQueueServesZ41
import Derived.Test.YtdkfpmlamfeenaaGreatDoorQueueServesZ10
namespace Go.Proofs.YtdkfpmlamfeenaaGreatDoor

section
open Go.RowKit
def QI (w0 : World) (q mb th : Nat) (b : Int) (t : Tr It) (w : World) : Prop :=
  (QAt w q mb th (qM b t.list) t ∧ Qok b t.list ∧ Tr.Whole t) ∧ (∀ g ∈ foot q mb th t, w0.heap.size ≤ g) ∧ Below w0.heap.size w0 w
theorem QI.below {w0 : World} {q mb th : Nat} {b : Int} {t : Tr It} {w1 w2 : World} (h : QI w0 q mb th b t w1) (hb : Below w1.heap.size w1 w2) : QI w0 q mb th b t w2 := ⟨⟨h.1.1.below hb, h.1.2⟩, h.2.1, below_on h.2.2 hb⟩
def QX (w0 : World) (q mb th : Nat) (w : World) : Prop := ∃ b t, QI w0 q mb th b t w
theorem QX.below {w0 : World} {q mb th : Nat} {w1 w2 : World} (h : QX w0 q mb th w1) (hb : Below w1.heap.size w1 w2) : QX w0 q mb th w2 := by
  obtain ⟨b, t, h⟩ := h
  exact ⟨b, t, h.below hb⟩
theorem foot_sub {B q mb th : Nat} {t t' : Tr It} {n : Nat} (h : ∀ g ∈ foot q mb th t, B ≤ g) (hn : B ≤ n) (hb : ∀ g ∈ t'.blocks, g ∈ t.blocks ∨ n ≤ g) : ∀ g ∈ foot q mb th t', B ≤ g := fun g hg => by
  simp only [foot, List.mem_cons] at hg
  rcases hg with rfl | rfl | rfl | hg
  · exact h _ (by simp [foot])
  · exact h _ (by simp [foot])
  · exact h _ (by simp [foot])
  · rcases hb g hg with h1 | h1
    · exact h _ (by simp [foot, h1])
    · omega
theorem QI.on {w0 : World} {q mb th : Nat} {b b' : Int} {t t' : Tr It} {w w' : World} (h : QI w0 q mb th b t w) (hq : QAt w' q mb th (qM b' t'.list) t') (hk : Qok b' t'.list) (hw : Tr.Whole t') (hb : ∀ g ∈ t'.blocks, g ∈ t.blocks ∨ w.heap.size ≤ g) (hc : Chg (foot q mb th t) w w') : QI w0 q mb th b' t' w' :=
  ⟨⟨hq, hk, hw⟩, foot_sub h.2.1 h.2.2.size hb, Below.chg h.2.2 hc h.2.1⟩
theorem Serve.new (c : Int) (hc : IsT c) (w : World) : Calls Tryz.prog 7 #[.int .u64 c] w (fun e w' => ∃ q mb th, e = .returned (.pointer (some ⟨q, 0, none⟩)) ∧ QX w q mb th w') := by
  refine (Queue.new c hc w).mono ?_
  rintro e w' ⟨q, mb, th, rfl, h, hf, hb⟩
  refine ⟨q, mb, th, rfl, c, .nil, ⟨⟨?_, Qok.nil hc, Tr.Whole.nil⟩, hf, hb⟩⟩
  have e : (⟨c, 0, 0, 0⟩ : Mu) = qM c (Tr.nil : Tr It).list := by simp [qM, Mu.sums, sumD, sumW, Tr.list]
  rw [← e]
  exact h
theorem Serve.leave (w0 : World) (q mb th : Nat) (i : Int) (hi : -9223372036854775808 ≤ i ∧ i ≤ 9223372036854775807) (w : World) (h : QX w0 q mb th w) : Calls Tryz.prog 9 #[.pointer (some ⟨q, 0, none⟩), .int .i64 i] w (fun e w' => (∃ (x : It) (s : Int), e = .returned (.tuple #[x.val, .int .i64 s])) ∧ QX w0 q mb th w') := by
  obtain ⟨b, t, h⟩ := h
  by_cases hx : ∃ x ∈ t.list, x.i = i
  · obtain ⟨x, hx, rfl⟩ := hx
    refine (Queue.leave_yes q mb th b t h.1.2.1 h.1.2.2 x hx w h.1.1).mono ?_
    rintro e w' ⟨rfl, t', A, B, hl, hl', hi', hq, hk, hw, hb, hc⟩
    rw [← hl'] at hq hk
    exact ⟨⟨x, 0, rfl⟩, _, t', h.on hq hk hw (fun g hg => Or.inl (hb g hg)) hc⟩
  · refine (Queue.leave_no q mb th (qM b t.list) t i hi (fun x hm e => hx ⟨x, hm, e⟩) w h.1.1).mono ?_
    rintro e w' ⟨rfl, hb⟩
    exact ⟨⟨It.zero, 14, rfl⟩, b, t, h.below hb⟩
theorem Serve.change (w0 : World) (q mb th : Nat) (a : It) (ha : a.In) (w : World) (h : QX w0 q mb th w) : Calls Tryz.prog 10 #[.pointer (some ⟨q, 0, none⟩), a.val] w (fun e w' => (∃ (s : Int), e = .returned (.int .i64 s)) ∧ QX w0 q mb th w') := by
  obtain ⟨b, t, h⟩ := h
  refine (Queue.change q mb th b t a h.1.2.1 h.1.2.2 ha w h.1.1).mono ?_
  rintro e w' ⟨rfl, ⟨_, hb⟩ | ⟨_, t', hl, hq, hk, hw, hb, hc⟩⟩
  · exact ⟨⟨_, rfl⟩, b, t, ⟨⟨h.1.1.below hb, h.1.2⟩, h.2.1, below_on h.2.2 hb⟩⟩
  · exact ⟨⟨_, rfl⟩, _, t', h.on hq hk hw hb hc⟩
theorem Serve.join (w0 : World) (q mb th : Nat) (a : It) (ha : a.In) (w : World) (h : QX w0 q mb th w) : Calls Tryz.prog 11 #[.pointer (some ⟨q, 0, none⟩), a.val] w (fun e w' => (∃ (s : Int), e = .returned (.int .i64 s)) ∧ QX w0 q mb th w') := by
  obtain ⟨b, t, h⟩ := h
  refine (Queue.join q mb th b t a h.1.2.1 ha w h.1.1).mono ?_
  rintro e w' ⟨rfl, ⟨_, hb⟩ | ⟨hj, k, hk, hq, hc⟩⟩
  · exact ⟨⟨_, rfl⟩, b, t, ⟨⟨h.1.1.below hb, h.1.2⟩, h.2.1, below_on h.2.2 hb⟩⟩
  · obtain ⟨_, hok, ht⟩ := h.1.2.1.join ha hj
    have hl : ((Tr.put It.ahead k a t).paint false).list = insI a t.list := by rw [Tr.list_paint]; exact (ht t rfl).2 k
    refine ⟨⟨_, rfl⟩, _, _, h.on (by rw [hl]; exact hq) (by rw [hl]; exact hok) (h.1.2.2.put It.ahead k a) (fun g hg => ?_) hc⟩
    rw [Tr.blocks_paint] at hg
    rcases List.mem_cons.1 ((Tr.perm_put It.ahead k a t).mem_iff.1 hg) with rfl | h1
    · exact Or.inr hk
    · exact Or.inl h1
theorem sign_elig {b : Int} {l : List It} (h : Fw b l) {x : It} (hx : x ∈ l) : 0 ≤ ((qM b l).sign x.pp).2 ↔ (qM b l).elig x.pp = true := by
  have h1 := (sums_ovI h hx).1
  unfold Mu.sign Mu.elig
  rw [h1]
  simp
end


section
open Go.RowKit
set_option maxRecDepth 100000 in
set_option maxHeartbeats 4000000 in
theorem Queue.items_nil (w : World) : Calls Tryz.prog 16 #[(.pointer none)] w (Ans (.slice none 0 0) w) := by
  go_enter Tryz.func16, Tryz.ntmps16
  go_wp2_with fail
  go_ret
  exact ⟨rfl, Below.refl _ _⟩
set_option maxRecDepth 100000 in
set_option maxHeartbeats 4000000 in
theorem Queue.now_nil (w : World) : Calls Tryz.prog 13 #[(.pointer none)] w (Ans (.int .u64 0) w) := by
  go_enter Tryz.func13, Tryz.ntmps13
  go_wp2_with fail
  go_ret
  exact ⟨rfl, Below.refl _ _⟩
set_option maxRecDepth 100000 in
set_option maxHeartbeats 4000000 in
theorem Queue.spread_nil (w : World) : Calls Tryz.prog 14 #[(.pointer none)] w (Ans (.int .u64 0) w) := by
  have E : spreadI 0 [] = 0 := Go.Proofs.YtdkfpmlamfeenaaGreatDoor.spread_nil 0
  go_enter Tryz.func14, Tryz.ntmps14
  go_wp2_with fail
  refine (Queue.now_nil _).mono ?_
  rintro e w1 ⟨rfl, hb⟩
  have HB1 := hid hb
  clear hb
  go_wp2_with fail
  refine (Queue.items_nil _).mono ?_
  rintro e w2 ⟨rfl, hb⟩
  have HB2 := hid (below_on HB1.out hb)
  clear hb HB1
  go_wp2_with fail
  refine (Item.spread 0 none 0 0 [] _ ⟨rfl, fun i hi => absurd hi (by omega)⟩ (by omega)).mono ?_
  rw [E]
  rintro e w3 ⟨rfl, hb⟩
  have HB3 := hid (below_on HB2.out hb)
  clear hb HB2
  go_wp2_with fail
  go_ret
  exact ⟨rfl, HB3.out⟩
theorem Law13.Awake (w : World) (htab : Tab10 w.heap.size w) : Calls Tryz.prog 22 #[] w (Ans (.bool true) w) := by
  go_enter Tryz.func22, Tryz.ntmps22
  go_wp2_with (go_at_call 44; refine (Law13.awake _ htab).mono ?_; rintro e w' ⟨rfl, hb⟩)
  go_ret
  exact ⟨rfl, hb⟩
theorem foot_ge {b q mb th : Nat} {t : Tr It} (h : ∀ g ∈ foot q mb th t, b ≤ g) {k : Nat} (hk : b ≤ k) (x : It) : ∀ g ∈ foot q mb th ((Tr.put It.ahead k x t).paint false), b ≤ g := fun g hg => by
  simp only [foot, List.mem_cons] at hg
  rcases hg with rfl | rfl | rfl | hg
  · exact h _ (by simp [foot])
  · exact h _ (by simp [foot])
  · exact h _ (by simp [foot])
  · rw [Tr.blocks_paint] at hg
    rcases List.mem_cons.1 ((Tr.perm_put It.ahead k x t).mem_iff.1 hg) with rfl | hg
    · exact hk
    · exact h g (by simp [foot, hg])
theorem foot_lt {b q mb th : Nat} {t : Tr It} (h : ∀ g ∈ foot q mb th t, g < b) {k : Nat} (hk : b ≤ k) (x : It) {g : Nat} (h1 : g ∈ foot q mb th ((Tr.put It.ahead k x t).paint false)) (h2 : g < b) : g ∈ foot q mb th t := by
  simp only [foot, List.mem_cons] at h1 ⊢
  rcases h1 with rfl | rfl | rfl | hg
  · simp
  · simp
  · simp
  · rw [Tr.blocks_paint] at hg
    rcases List.mem_cons.1 ((Tr.perm_put It.ahead k x t).mem_iff.1 hg) with rfl | hg
    · omega
    · simp [hg]
section
attribute [local go_sem] Item.eqB
set_option maxRecDepth 100000 in
set_option maxHeartbeats 16000000 in
theorem Law14.awake (w : World) (htab : Tab10 w.heap.size w) : Calls Tryz.prog 6 #[] w (Ans (.bool true) w) := by
  have HT := hid htab
  have z1 : hiW 0 = 0 := by decide
  clear htab
  go_enter Tryz.func6, Tryz.ntmps6
  go_wp2_with fail
  refine (Queue.new 0 ⟨by decide, by decide⟩ _).mono ?_
  rintro e w1 ⟨q, mb, th, rfl, hq, hge, hb⟩
  have hA : Cs (w1.alloc (.cells #[.int .u64 5, .int .u32 0, .int .u32 1, .int .i64 1, .int .u64 9, .int .u32 0, .int .u32 1] 32)) w1.heap.size exA.cells := Cs.new7 w1 32 exA
  have hB : Cs ((w1.alloc (.cells #[.int .u64 5, .int .u32 0, .int .u32 1, .int .i64 1, .int .u64 9, .int .u32 0, .int .u32 1] 32)).alloc (.cells #[.int .u64 8, .int .u32 0, .int .u32 1, .int .i64 2, .int .u64 8, .int .u32 0, .int .u32 1] 32)) (w1.heap.size + 1) exB.cells := by have := Cs.new7 (w1.alloc (.cells #[.int .u64 5, .int .u32 0, .int .u32 1, .int .i64 1, .int .u64 9, .int .u32 0, .int .u32 1] 32)) 32 exB; simp only [World.size_alloc] at this; exact this
  have hba := (Below.refl w1.heap.size w1).alloc (Nat.le_refl _) (.cells #[.int .u64 5, .int .u32 0, .int .u32 1, .int .i64 1, .int .u64 9, .int .u32 0, .int .u32 1] 32)
  have hbb := (Below.refl (w1.alloc (.cells #[.int .u64 5, .int .u32 0, .int .u32 1, .int .i64 1, .int .u64 9, .int .u32 0, .int .u32 1] 32)).heap.size (w1.alloc (.cells #[.int .u64 5, .int .u32 0, .int .u32 1, .int .i64 1, .int .u64 9, .int .u32 0, .int .u32 1] 32))).alloc (Nat.le_refl _) (.cells #[.int .u64 8, .int .u32 0, .int .u32 1, .int .i64 2, .int .u64 8, .int .u32 0, .int .u32 1] 32)
  have HQ : Hid (((Cs ((w1.alloc (.cells #[.int .u64 5, .int .u32 0, .int .u32 1, .int .i64 1, .int .u64 9, .int .u32 0, .int .u32 1] 32)).alloc (.cells #[.int .u64 8, .int .u32 0, .int .u32 1, .int .i64 2, .int .u64 8, .int .u32 0, .int .u32 1] 32)) w1.heap.size exA.cells ∧ Cs ((w1.alloc (.cells #[.int .u64 5, .int .u32 0, .int .u32 1, .int .i64 1, .int .u64 9, .int .u32 0, .int .u32 1] 32)).alloc (.cells #[.int .u64 8, .int .u32 0, .int .u32 1, .int .i64 2, .int .u64 8, .int .u32 0, .int .u32 1] 32)) (w1.heap.size + 1) exB.cells) ∧ Below w.heap.size w ((w1.alloc (.cells #[.int .u64 5, .int .u32 0, .int .u32 1, .int .i64 1, .int .u64 9, .int .u32 0, .int .u32 1] 32)).alloc (.cells #[.int .u64 8, .int .u32 0, .int .u32 1, .int .i64 2, .int .u64 8, .int .u32 0, .int .u32 1] 32))) ∧ QAt ((w1.alloc (.cells #[.int .u64 5, .int .u32 0, .int .u32 1, .int .i64 1, .int .u64 9, .int .u32 0, .int .u32 1] 32)).alloc (.cells #[.int .u64 8, .int .u32 0, .int .u32 1, .int .i64 2, .int .u64 8, .int .u32 0, .int .u32 1] 32)) q mb th ⟨0, 0, 0, 0⟩ .nil) := hid ⟨⟨⟨hA.below hbb, hB⟩, below_on (below_on hb hba) hbb⟩, (hq.below hba).below hbb⟩
  have HGE := hid hge
  have HNF : Hid (∀ g ∈ foot q mb th .nil, g < w1.heap.size) := hid hq.footlt
  have HWG : Hid (w.heap.size ≤ w1.heap.size) := hid hb.size
  clear hq hge hb hA hB hba hbb
  go_wp2_with fail
  generalize ((w1.alloc (.cells #[.int .u64 5, .int .u32 0, .int .u32 1, .int .i64 1, .int .u64 9, .int .u32 0, .int .u32 1] 32)).alloc (.cells #[.int .u64 8, .int .u32 0, .int .u32 1, .int .i64 2, .int .u64 8, .int .u32 0, .int .u32 1] 32)) = W1 at HQ ⊢
  generalize hgb : w1.heap.size + 1 = gb at HQ ⊢
  generalize hga : w1.heap.size = ga at HQ HNF HWG hgb ⊢
  have HGB : Hid (ga < gb) := hid (by omega)
  clear hgb hga
  have hsT : Stays (fun wx => (Cs wx ga exA.cells ∧ Cs wx gb exB.cells) ∧ Below w.heap.size w wx) := fun _ _ h hb => ⟨⟨h.1.1.below hb, h.1.2.below hb⟩, below_on h.2 hb⟩
  have hsU : Stays (fun wx => ((Cs wx ga exA.cells ∧ Cs wx gb exB.cells) ∧ Below w.heap.size w wx) ∧ QAt wx q mb th ⟨0, 0, 0, 0⟩ .nil) := fun _ _ h hb => ⟨hsT _ _ h.1 hb, h.2.below hb⟩
  have E1 : qM 0 [] = ⟨0, 0, 0, 0⟩ := by simp [qM, Mu.sums, sumD, sumW]
  have HE1 := hid E1
  clear E1
  refine wp_region_any (by kernel_rfl) (wpAny_of_E (S0 := fun wx => (Cs wx ga exA.cells ∧ Cs wx gb exB.cells) ∧ Below w.heap.size w wx) (n := 8) _ (fun wx => ((Cs wx ga exA.cells ∧ Cs wx gb exB.cells) ∧ Below w.heap.size w wx) ∧ QAt wx q mb th ⟨0, 0, 0, 0⟩ .nil) _ _ _ (hsU _ _ HQ.out (Below.refl _ _).drew) ?_)
  refine wpAnyE_take (i := 0) (v := ?_) (hsU) (fun _ h => h.1) rfl (by kernel_rfl) (by kernel_rfl) (by kernel_rfl) (by kernel_rfl) (fun _ _ _ h => h) (SteadyB.of_yields (Or.inl ⟨by rfl, ?_⟩)) ?_
  rotate_left
  · intro wq hSw
    go_simp
    (try with_reducible rfl)
  try simp only [tdy]
  refine wpAnyE_take (i := 1) (v := ?_) (hsU) (fun _ h => h.1) rfl (by kernel_rfl) (by kernel_rfl) (by kernel_rfl) (by kernel_rfl) (fun _ _ _ h => h) (SteadyB.of_yields (Or.inl ⟨by rfl, ?_⟩)) ?_
  rotate_left
  · intro wq hSw
    obtain ⟨a0, a1, a2, a3, a4, a5, a6⟩ := It.at exA hSw.1.1
    go_simp
    (try with_reducible rfl)
  try simp only [tdy]
  refine wpAnyE_take (i := 3) (v := ?_) (hsU) (fun _ h => h.1) rfl (by kernel_rfl) (by kernel_rfl) (by kernel_rfl) (by kernel_rfl) (fun _ _ _ h => h) (SteadyB.of_yields (Or.inl ⟨by rfl, ?_⟩)) ?_
  rotate_left
  · intro wq hSw
    go_simp
    (try with_reducible rfl)
  try simp only [tdy]
  refine wpAnyE_take (i := 4) (v := ?_) (hsU) (fun _ h => h.1) rfl (by kernel_rfl) (by kernel_rfl) (by kernel_rfl) (by kernel_rfl) (fun _ _ _ h => h) (SteadyB.of_yields (Or.inl ⟨by rfl, ?_⟩)) ?_
  rotate_left
  · intro wq hSw
    obtain ⟨a0, a1, a2, a3, a4, a5, a6⟩ := It.at exB hSw.1.2
    go_simp
    (try with_reducible rfl)
  try simp only [tdy]
  refine wpAnyE_callC (i := 2) (foot q mb th .nil) (fun wx => (Cs wx ga exA.cells ∧ Cs wx gb exB.cells) ∧ Below w.heap.size w wx) (fun _ : Nat => Value.int .i64 0) (fun k1 wx => gb < k1 ∧ QAt wx q mb th (qM 5 [exA]) ((Tr.put It.ahead k1 exA .nil).paint false)) rfl (by kernel_rfl) (by decide) (by rfl) hsT (fun _ h => h) (fun k1 => fun _ _ h hb => ⟨h.1, h.2.below hb⟩) (fun w2 w3 h hc => ⟨⟨h.1.1.1.chg hc (fun hg => by have := HNF.out _ hg; omega), h.1.1.2.chg hc (fun hg => by have := HNF.out _ hg; have := HGB.out; omega)⟩, Below.chg h.1.2 hc HGE.out⟩) (fun wq hSw => ?_) (fun k1 => ?_)
  · refine RunC.of_calls (Queue.join q mb th 0 .nil exA ex_ok0 exA_in wq (by rw [show (Tr.nil : Tr It).list = [] from rfl, HE1.out]; exact hSw.2)) (by go_simp) (fun e w' h => ?_)
    obtain ⟨he, hr⟩ := h
    rw [show (Tr.nil : Tr It).list = [] from rfl, ex_join1] at he hr
    rcases hr with ⟨h0, _⟩ | ⟨_, k, hk, hq', hc⟩
    · exact absurd rfl h0
    · rw [ex_now1, ex_ins1] at hq'
      exact ⟨k, he, ⟨Nat.lt_of_lt_of_le hSw.1.1.2.lt hk, hq'⟩, hc⟩
  try simp only [tdy]
  refine wpAnyE_callC (i := 5) (foot q mb th ((Tr.put It.ahead k1 exA .nil).paint false)) (fun wx => (Cs wx ga exA.cells ∧ Cs wx gb exB.cells) ∧ Below w.heap.size w wx) (fun _ : Nat => Value.int .i64 0) (fun k2 wx => QAt wx q mb th (qM 6 [exA, exB]) ((Tr.put It.ahead k2 exB ((Tr.put It.ahead k1 exA .nil).paint false)).paint false)) rfl (by kernel_rfl) (by decide) (by rfl) hsT (fun _ h => h) (fun k2 => fun _ _ h hb => h.below hb) (fun w2 w3 h hc => ⟨⟨h.1.1.1.chg hc (fun hg => by have := HNF.out _ (foot_lt (b := gb) (fun g hg => by have := HNF.out g hg; have := HGB.out; omega) (by have := h.2.1; omega) exA hg HGB.out); omega), h.1.1.2.chg hc (fun hg => by have := HNF.out _ (foot_lt (b := gb + 1) (fun g hg => by have := HNF.out g hg; have := HGB.out; omega) (by have := h.2.1; omega) exA hg (by omega)); have := HGB.out; omega)⟩, Below.chg h.1.2 hc (foot_ge HGE.out (by have := h.2.1; have := HWG.out; have := HGB.out; omega) exA)⟩) (fun wq hSw => ?_) (fun k2 => ?_)
  · refine RunC.of_calls (Queue.join q mb th 5 ((Tr.put It.ahead k1 exA .nil).paint false) exB (by rw [ex_tree1]; exact ex_ok1) exB_in wq (by rw [ex_tree1]; exact hSw.2.2)) (by go_simp) (fun e w' h => ?_)
    obtain ⟨he, hr⟩ := h
    rw [ex_tree1, ex_join2] at he hr
    rcases hr with ⟨h0, _⟩ | ⟨_, k, hk, hq', hc⟩
    · exact absurd rfl h0
    · rw [ex_now2, ex_ins2] at hq'
      exact ⟨k, he, hq', hc⟩
  try simp only [tdy]
  refine wpAnyE_take (i := 6) (v := ?_) (fun _ _ h hb => ⟨hsT _ _ h.1 hb, h.2.below hb⟩) (fun _ h => h.1) rfl (by kernel_rfl) (by kernel_rfl) (by kernel_rfl) (by kernel_rfl) (fun _ _ _ h => h) (SteadyB.of_yields (Or.inl ⟨by rfl, ?_⟩)) ?_
  rotate_left
  · intro wq hSw
    go_simp
    (try with_reducible rfl)
  try simp only [tdy]
  refine wpAnyE_take (i := 7) (v := ?_) (fun _ _ h hb => ⟨hsT _ _ h.1 hb, h.2.below hb⟩) (fun _ h => h.1) rfl (by kernel_rfl) (by kernel_rfl) (by kernel_rfl) (by kernel_rfl) (fun _ _ _ h => h) (SteadyB.of_yields (Or.inl ⟨by rfl, ?_⟩)) ?_
  rotate_left
  · intro wq hSw
    go_simp
    (try with_reducible rfl)
  try simp only [tdy]
  refine wpAnyE_done (by kernel_rfl) (fun wz hSz => ?_) _
  have HQ2 := hid hSz
  clear hSz HQ
  have HO1 : Hid (∀ wq, QAt wq q mb th (qM 6 [exA, exB]) ((Tr.put It.ahead k2 exB ((Tr.put It.ahead k1 exA .nil).paint false)).paint false) → Calls Tryz.prog 18 #[(.pointer (some ⟨q, 0, none⟩)), .int .i64 1] wq (Ans (.tuple #[.int .i64 1, .int .i64 0]) wq)) := hid (fun wq hq => by have := Queue.owed_yes q mb th _ _ exA (by rw [ex_tree2]; simp) wq hq; rwa [ex_sign1] at this)
  have HO2 : Hid (∀ wq, QAt wq q mb th (qM 6 [exA, exB]) ((Tr.put It.ahead k2 exB ((Tr.put It.ahead k1 exA .nil).paint false)).paint false) → Calls Tryz.prog 18 #[(.pointer (some ⟨q, 0, none⟩)), .int .i64 2] wq (Ans (.tuple #[.int .i64 (-1), .int .i64 0]) wq)) := hid (fun wq hq => by have := Queue.owed_yes q mb th _ _ exB (by rw [ex_tree2]; simp) wq hq; rwa [ex_sign2] at this)
  have HO3 : Hid (∀ wq, QAt wq q mb th (qM 6 [exA, exB]) ((Tr.put It.ahead k2 exB ((Tr.put It.ahead k1 exA .nil).paint false)).paint false) → Calls Tryz.prog 12 #[(.pointer (some ⟨q, 0, none⟩))] wq (Ans (.tuple #[.agg #[.int .u64 5, .int .u32 0, .int .u32 1, .int .i64 1, .int .u64 9, .int .u32 0, .int .u32 1], .bool true]) wq)) := hid (fun wq hq => by have := Queue.soonest q mb th _ _ wq hq; rwa [ex_soon] at this)
  go_wp2_with fail
  refine (HO1.out _ HQ2.out.2).mono ?_
  rintro e w3 ⟨rfl, hb⟩
  have HQ3 := hid (And.intro (hsT _ _ HQ2.out.1 hb) (HQ2.out.2.below hb))
  clear hb HQ2
  go_wp2_with fail
  refine (HO2.out _ HQ3.out.2).mono ?_
  rintro e w4 ⟨rfl, hb⟩
  have HQ4 := hid (And.intro (hsT _ _ HQ3.out.1 hb) (HQ3.out.2.below hb))
  clear hb HQ3
  go_wp2_with fail
  refine (HO3.out _ HQ4.out.2).mono ?_
  rintro e w5 ⟨rfl, hb⟩
  have ha := (Below.refl w5.heap.size w5).alloc (Nat.le_refl _) (.cells #[.int .u64 5, .int .u32 0, .int .u32 1, .int .i64 1, .int .u64 9, .int .u32 0, .int .u32 1] 32)
  have HX5 : Hid (Cs (w5.alloc (.cells #[.int .u64 5, .int .u32 0, .int .u32 1, .int .i64 1, .int .u64 9, .int .u32 0, .int .u32 1] 32)) w5.heap.size exA.cells) := hid (Cs.new7 w5 32 exA)
  have HQ5 := hid (hsT _ _ (hsT _ _ HQ4.out.1 hb) ha)
  clear hb ha HQ4
  go_wp2_with fail
  generalize (w5.alloc (.cells #[.int .u64 5, .int .u32 0, .int .u32 1, .int .i64 1, .int .u64 9, .int .u32 0, .int .u32 1] 32)) = W5 at HX5 HQ5 ⊢
  generalize w5.heap.size = gx at HX5 ⊢
  refine (Law13.Awake _ (HT.out.at2 HQ5.out.2)).mono ?_
  rintro e w6 ⟨rfl, hb⟩
  have HB6 := hid (below_on HQ5.out.2 hb)
  obtain ⟨a0, a1, a2, a3, a4, a5, a6⟩ := It.at exA (HQ5.out.1.1.below hb)
  obtain ⟨x0, x1, x2, x3, x4, x5, x6⟩ := It.at exA (HX5.out.below hb)
  clear hb
  go_wp2_with fail
  go_ret
  exact ⟨by first | rfl | simp, HB6.out⟩
end
end


section
open Go.RowKit
theorem Cs.alloc_new8 (w : World) (ty : TypeId) (v0 v1 v2 v3 v4 v5 v6 v7 : Value) : Cs (w.alloc (.cells #[v0, v1, v2, v3, v4, v5, v6, v7] ty)) w.heap.size [v0, v1, v2, v3, v4, v5, v6, v7] := Cs.alloc_new6 w ty [v0, v1, v2, v3, v4, v5, v6, v7]
set_option maxRecDepth 100000 in
set_option maxHeartbeats 8000000 in
theorem Qserve.away (c0 : Int) (A : Option Addr) (n c : Nat) (hn : 40 < n) (hm : n ≤ 9223372036854775807) (w : World) (htab : Tab10 w.heap.size w) : Calls Tryz.prog 4 #[.int .u64 c0, .slice A n c] w fun e w' => e = .returned (.bool true) ∧ Below w.heap.size w w' := by
  have h1 : (40 : Int) < n := by omega
  go_enter Tryz.func4, Tryz.ntmps4
  go_wp2_with fail
  refine (Law14.awake _ htab).mono ?_
  rintro e w1 ⟨rfl, hb⟩
  go_wp2_with fail
  go_ret
  exact ⟨rfl, hb⟩
set_option maxRecDepth 100000 in
set_option maxHeartbeats 16000000 in
theorem Qserve.law (c0 : Int) (A : Option Addr) (n c : Nat) (l : List (Int × It)) (w : World) (w0 : (Lit.int .u64 c0).wf = true) (h : (RdQ w A n l ∧ InQ l) ∧ n ≤ 9223372036854775807) (htab : Tab10 w.heap.size w) : Calls Tryz.prog 4 #[.int .u64 c0, .slice A n c] w fun e w' => e = .returned (.bool true) ∧ Below w.heap.size w w' := by
  by_cases hn : 40 < n
  · exact Qserve.away c0 A n c hn h.2 w htab
  have hT : IsT c0 := bounds_u64 w0
  have HIN := hid h.1.2
  have hni : (n : Int) ≤ 40 := by omega
  have hn40 : ¬ (40 : Int) < n := by omega
  have HR := hid h.1.1
  clear h w0
  go_enter Tryz.func4, Tryz.ntmps4
  go_wp2_with fail
  refine (Law14.awake _ htab).mono ?_
  rintro e w1 ⟨rfl, hb⟩
  have HR1 := hid (HR.out.below hb)
  have HB1 := hid hb
  clear hb htab HR
  go_wp2_with fail
  refine (Serve.new c0 hT _).mono ?_
  rintro e w2 ⟨q, mb, th, rfl, hx⟩
  have HX2 := hid hx
  clear hx
  go_wp2_with fail
  go_loopg [25] n (fun s i wr => ∃ k : Nat, i = .int .i64 k ∧ k ≤ n ∧ s = n - k ∧ QX w1 q mb th wr)
  case atStart => exact ⟨0, rfl, Nat.zero_le _, by omega, HX2.out⟩
  case round =>
    obtain ⟨k, rfl, hk, hs, hx⟩ := hrel
    have HS := hid hs
    have HX := hid hx
    have hbw : Below w1.heap.size w1 wr := by obtain ⟨_, _, h⟩ := hx; exact h.2.2
    have HBW := hid hbw
    clear hs hx
    by_cases hkn : k < n
    · obtain ⟨bb, off, hA, _, hc⟩ := (HR1.out.below hbw).2 0 (by omega)
      obtain ⟨d0, p0, p1, p2, p3, p4, p5, p6⟩ := hc k hkn
      have HP : Hid ((0 ≤ (l.getD k (0, It.zero)).1 ∧ (l.getD k (0, It.zero)).1 ≤ 255) ∧ (l.getD k (0, It.zero)).2.In) := hid (by
        have hkl : k < l.length := by have := HR1.out.1; omega
        have e : l.getD k (0, It.zero) = l[k] := by simp [List.getD, hkl]
        rw [e]; exact HIN.out _ (List.getElem_mem hkl))
      generalize (l.getD k (0, It.zero)) = pa at *
      obtain ⟨d, a⟩ := pa
      dsimp only at d0 p0 p1 p2 p3 p4 p5 p6 HP
      subst hA
      have hki : (k : Int) < n := by omega
      have hk0 : (0 : Int) ≤ k := by omega
      simp only [Nat.add_assoc (off + k * 8), Nat.reduceAdd] at p1 p2 p3 p4 p5 p6
      clear hc hbw
      have hal := (Below.refl wr.heap.size wr).alloc (Nat.le_refl _) (.cells #[.int .u8 d, .int .u64 a.t, .int .u32 a.r, .int .u32 a.v, .int .i64 a.i, .int .u64 a.u, .int .u32 a.s, .int .u32 a.y] 34)
      have HAC : Hid (Cs (wr.alloc (.cells #[.int .u8 d, .int .u64 a.t, .int .u32 a.r, .int .u32 a.v, .int .i64 a.i, .int .u64 a.u, .int .u32 a.s, .int .u32 a.y] 34)) wr.heap.size [.int .u8 d, .int .u64 a.t, .int .u32 a.r, .int .u32 a.v, .int .i64 a.i, .int .u64 a.u, .int .u32 a.s, .int .u32 a.y]) := hid (Cs.alloc_new8 wr 34 _ _ _ _ _ _ _ _)
      have HX3 := hid (HX.out.below hal)
      clear hal HX
      go_upto_region 9 with fail
      generalize (wr.alloc (.cells #[.int .u8 d, .int .u64 a.t, .int .u32 a.r, .int .u32 a.v, .int .i64 a.i, .int .u64 a.u, .int .u32 a.s, .int .u32 a.y] 34)) = W3 at HAC HX3 ⊢
      clear d0 p0 p1 p2 p3 p4 p5 p6
      generalize wr.heap.size = ga at HAC ⊢
      have a0 := HAC.out.at0
      have a1 := (HAC.out 1 _ rfl).1
      have a2 := (HAC.out 2 _ rfl).1
      have a3 := (HAC.out 3 _ rfl).1
      have a4 := (HAC.out 4 _ rfl).1
      have a5 := (HAC.out 5 _ rfl).1
      have a6 := (HAC.out 6 _ rfl).1
      have a7 := (HAC.out 7 _ rfl).1
      go_wp2_with fail
      · refine (Serve.leave w1 q mb th a.i HP.out.2.2.2.2.1 _ HX3.out).mono ?_
        rintro e w4 ⟨⟨x9, s9, rfl⟩, hx4⟩
        obtain ⟨b, t, hq⟩ := hx4
        have HQ := hid hq
        obtain ⟨x, hf, hx0, hx1⟩ := first_elig hq.1.2.1.fw hq.1.2.1.srt
        have HFO := hid hf
        have HX0 := hid hx0
        have HX1 := hid hx1
        clear hq hf hx0 hx1 a0 a1 a2 a3 a4 a5 a6 a7 HX3 HAC
        try unfold It.val
        go_wp2_with fail
        refine (Queue.soonest q mb th (qM b t.list) t _ HQ.out.1.1).mono ?_
        rintro e w5 ⟨rfl, hb⟩
        rw [HFO.out]
        have HQ5 := hid (HQ.out.below hb)
        clear hb
        dsimp only
        by_cases h0 : 0 < t.list.length
        · have HXM : Hid (x ∈ t.list ∧ (qM b t.list).elig x.pp = true ∧ ∀ y ∈ t.list, (qM b t.list).elig y.pp = true → It.due y x = false) := hid (by
              obtain ⟨h1, h2⟩ := HX1.out h0
              rw [List.mem_filter] at h1
              exact ⟨h1.1, h1.2, fun y hy he => h2 y (List.mem_filter.2 ⟨hy, he⟩)⟩)
          have HXI : Hid x.In := hid (HQ.out.1.2.1.fw.inI x HXM.out.1)
          have HSG : Hid (0 ≤ ((qM b t.list).sign x.pp).2) := hid ((sign_elig HQ.out.1.2.1.fw HXM.out.1).2 HXM.out.2.1)
          have HLN : Hid ((0 : Int) < t.list.length ∧ (t.list.length : Int) ≤ 32) := hid (by have := HQ.out.1.2.1.fw.few; omega)
          rw [decide_eq_true h0]
          clear h0
          have hal := (Below.refl w5.heap.size w5).alloc (Nat.le_refl _) (.cells #[.int .u64 x.t, .int .u32 x.r, .int .u32 x.v, .int .i64 x.i, .int .u64 x.u, .int .u32 x.s, .int .u32 x.y] 32)
          have HQ6 := hid (HQ5.out.below hal)
          have HXV : Hid (Cs (w5.alloc (.cells #[.int .u64 x.t, .int .u32 x.r, .int .u32 x.v, .int .i64 x.i, .int .u64 x.u, .int .u32 x.s, .int .u32 x.y] 32)) w5.heap.size x.cells) := hid (Cs.new7 w5 32 x)
          clear hal HQ5
          unfold It.val
          go_upto_region 16 with fail
          generalize w5.alloc (.cells #[.int .u64 x.t, .int .u32 x.r, .int .u32 x.v, .int .i64 x.i, .int .u64 x.u, .int .u32 x.s, .int .u32 x.y] 32) = W6 at HQ6 HXV ⊢
          generalize w5.heap.size = gx at HXV ⊢
          go_wp2_with fail
          refine (Queue.len q mb th _ t _ HQ6.out.1.1).mono ?_
          rintro e w7 ⟨rfl, hb⟩
          have HQ7 := hid (HQ6.out.below hb)
          have HXV7 := hid (HXV.out.below hb)
          clear hb HQ6 HXV
          obtain ⟨x0, x1, x2, x3, x4, x5, x6⟩ := It.at x HXV7.out
          have hl0 := HLN.out.1
          have hl4 : (!decide (0 < t.list.length)) = false := by rw [decide_eq_true (show 0 < t.list.length by omega)]; rfl
          go_wp2_with fail
          refine (Queue.owed_yes q mb th _ t x HXM.out.1 _ HQ7.out.1.1).mono ?_
          rintro e w8 ⟨rfl, hb⟩
          have HQ8 := hid (HQ7.out.below hb)
          have HXV8 := hid (HXV7.out.below hb)
          clear hb HQ7 HXV7 x0 x1 x2 x3 x4 x5 x6
          have hs0 : ¬ ((qM b t.list).sign x.pp).2 < 0 := by have := HSG.out; omega
          go_wp2_with fail
          refine (Queue.items q mb th _ t _ HQ8.out.1.1).mono ?_
          rintro e w9 ⟨A2, c2, rfl, ho, hb⟩
          have HR9 := hid ho.rdi
          have HQ9 := hid (HQ8.out.below hb)
          have HXV9 := hid (HXV8.out.below hb)
          clear hb ho HQ8 HXV8
          obtain ⟨n2, hn2⟩ : ∃ n2, n2 = t.list.length := ⟨_, rfl⟩
          rw [← hn2] at HR9 HLN ⊢
          go_wp2_with fail
          go_loopg [74] n2 (fun s i wr => ∃ j : Nat, i = .int .i64 j ∧ j ≤ n2 ∧ s = n2 - j ∧ Below w9.heap.size w9 wr)
          case atStart => exact ⟨0, rfl, Nat.zero_le _, by omega, Below.refl _ _⟩
          case round =>
            obtain ⟨j, rfl, hj, hs, hb⟩ := hrel
            have HSJ := hid hs
            have HBJ := hid hb
            clear hs hb
            by_cases hjn : j < n2
            · obtain ⟨bb2, off2, hA2, _, hc2⟩ := (HR9.out.below HBJ.out).2 0 (by omega)
              obtain ⟨p0, p1, p2, p3, p4, p5, p6⟩ := hc2 j hjn
              have HM : Hid (t.list.getD j It.zero ∈ t.list) := hid (by
                  have e : t.list.getD j It.zero = t.list[j] := by simp [List.getD, (show j < t.list.length by omega)]
                  rw [e]; exact List.getElem_mem _)
              generalize t.list.getD j It.zero = y at *
              subst hA2
              have hji : (j : Int) < n2 := by omega
              have hj0 : (0 : Int) ≤ j := by omega
              have hj32 : (n2 : Int) ≤ 32 := HLN.out.2
              clear hc2
              have hal := (Below.refl wr.heap.size wr).alloc (Nat.le_refl _) (.cells #[.int .u64 y.t, .int .u32 y.r, .int .u32 y.v, .int .i64 y.i, .int .u64 y.u, .int .u32 y.s, .int .u32 y.y] 32)
              have HYV : Hid (Cs (wr.alloc (.cells #[.int .u64 y.t, .int .u32 y.r, .int .u32 y.v, .int .i64 y.i, .int .u64 y.u, .int .u32 y.s, .int .u32 y.y] 32)) wr.heap.size y.cells) := hid (Cs.new7 wr 32 y)
              have HBA := hid (below_on HBJ.out hal)
              clear hal
              go_upto_region 24 with fail
              generalize (wr.alloc (.cells #[.int .u64 y.t, .int .u32 y.r, .int .u32 y.v, .int .i64 y.i, .int .u64 y.u, .int .u32 y.s, .int .u32 y.y] 32)) = Wy at HYV HBA ⊢
              clear p0 p1 p2 p3 p4 p5 p6
              generalize wr.heap.size = gy at HYV ⊢
              obtain ⟨y0, y1, y2, y3, y4, y5, y6⟩ := It.at y HYV.out
              go_wp2_with fail
              refine (Queue.owed_yes q mb th _ t y HM.out _ (HQ9.out.below HBA.out).1.1).mono ?_
              rintro e w10 ⟨rfl, hb⟩
              have HB10 := hid (below_on HBA.out hb)
              have HYV10 := hid (HYV.out.below hb)
              clear hb y0 y1 y2 y3 y4 y5 y6
              obtain ⟨y0, y1, y2, y3, y4, y5, y6⟩ := It.at y HYV10.out
              obtain ⟨x0, x1, x2, x3, x4, x5, x6⟩ := It.at x (HXV9.out.below HB10.out)
              by_cases hsy : (0 : Int) ≤ ((qM b t.list).sign y.pp).2
              · have HDU := hid (HXM.out.2.2 y HM.out ((sign_elig HQ.out.1.2.1.fw HM.out).1 hsy))
                go_wp2_with fail
                refine (Item.due y x (HQ.out.1.2.1.fw.inI y HM.out) HXI.out _).mono ?_
                rw [HDU.out]
                rintro e w11 ⟨rfl, hb⟩
                have HB11 := hid (below_on HB10.out hb)
                clear hb y0 y1 y2 y3 y4 y5 y6 x0 x1 x2 x3 x4 x5 x6
                go_wp2_with fail
                go_roundg (n2 - (j + 1))
                case measure => have := HSJ.out; omega
                case rel => exact ⟨j + 1, by go_num, by omega, rfl, HB11.out⟩
              · go_wp2_with fail
                go_roundg (n2 - (j + 1))
                case measure => have := HSJ.out; omega
                case rel => exact ⟨j + 1, by go_num, by omega, rfl, HB10.out⟩
            · obtain rfl : j = n2 := by omega
              have hji : ¬ (j : Int) < j := by omega
              have HXE : Hid (QX w1 q mb th wr) := hid ⟨b, t, HQ9.out.below HBJ.out⟩
              go_wp2_with fail
              go_roundg (n - (k + 1))
              case measure => have := HS.out; omega
              case rel => exact ⟨k + 1, by go_num, by omega, rfl, HXE.out⟩
        · have HLN : Hid (t.list.length = 0) := hid (by omega)
          have HNIL : Hid (t.list = []) := hid (List.eq_nil_of_length_eq_zero HLN.out)
          obtain rfl : x = It.zero := HX0.out HLN.out
          rw [decide_eq_false h0]
          clear h0
          have hal := (Below.refl w5.heap.size w5).alloc (Nat.le_refl _) (.cells #[.int .u64 0, .int .u32 0, .int .u32 0, .int .i64 0, .int .u64 0, .int .u32 0, .int .u32 0] 32)
          have HQ6 := hid (HQ5.out.below hal)
          have HXV : Hid (Cs (w5.alloc (.cells #[.int .u64 0, .int .u32 0, .int .u32 0, .int .i64 0, .int .u64 0, .int .u32 0, .int .u32 0] 32)) w5.heap.size It.zero.cells) := hid (Cs.new7 w5 32 It.zero)
          clear hal HQ5
          unfold It.val
          go_upto_region 16 with fail
          generalize w5.alloc (.cells #[.int .u64 0, .int .u32 0, .int .u32 0, .int .i64 0, .int .u64 0, .int .u32 0, .int .u32 0] 32) = W6 at HQ6 HXV ⊢
          generalize w5.heap.size = gx at HXV ⊢
          go_wp2_with fail
          refine (Queue.len q mb th _ t _ HQ6.out.1.1).mono ?_
          rintro e w7 ⟨rfl, hb⟩
          have HQ7 := hid (HQ6.out.below hb)
          have HXV7 := hid (HXV.out.below hb)
          clear hb HQ6 HXV
          obtain ⟨x0, x1, x2, x3, x4, x5, x6⟩ := It.at It.zero HXV7.out
          have hl0 : ¬ (0 : Int) < t.list.length := by have := HLN.out; omega
          go_wp2_with fail
          refine (Queue.owed_no q mb th _ t 0 (by omega) (by rw [HNIL.out]; simp) _ HQ7.out.1.1).mono ?_
          rintro e w8 ⟨rfl, hb⟩
          have HQ8 := hid (HQ7.out.below hb)
          have HXV8 := hid (HXV7.out.below hb)
          clear hb HQ7 HXV7 x0 x1 x2 x3 x4 x5 x6
          go_wp2_with fail
          refine (Queue.items q mb th _ t _ HQ8.out.1.1).mono ?_
          rintro e w9 ⟨A2, c2, rfl, ho, hb⟩
          have HR9 := hid ho.rdi
          have HQ9 := hid (HQ8.out.below hb)
          have HXV9 := hid (HXV8.out.below hb)
          clear hb ho HQ8 HXV8
          rw [HLN.out]
          go_wp2_with fail
          go_loopg [74] 0 (fun s i wr => i = .int .i64 0 ∧ Below w9.heap.size w9 wr)
          case atStart => exact ⟨rfl, Below.refl _ _⟩
          case round =>
            obtain ⟨rfl, hb⟩ := hrel
            have HXE : Hid (QX w1 q mb th wr) := hid ⟨b, t, HQ9.out.below hb⟩
            clear hb
            go_wp2_with fail
            go_roundg (n - (k + 1))
            case measure => have := HS.out; omega
            case rel => exact ⟨k + 1, by go_num, by omega, rfl, HXE.out⟩
      · refine (Serve.change w1 q mb th a HP.out.2 _ HX3.out).mono ?_
        rintro e w4 ⟨⟨s9, rfl⟩, hx4⟩
        obtain ⟨b, t, hq⟩ := hx4
        have HQ := hid hq
        obtain ⟨x, hf, hx0, hx1⟩ := first_elig hq.1.2.1.fw hq.1.2.1.srt
        have HFO := hid hf
        have HX0 := hid hx0
        have HX1 := hid hx1
        clear hq hf hx0 hx1 a0 a1 a2 a3 a4 a5 a6 a7 HX3 HAC
        try unfold It.val
        go_wp2_with fail
        refine (Queue.soonest q mb th (qM b t.list) t _ HQ.out.1.1).mono ?_
        rintro e w5 ⟨rfl, hb⟩
        rw [HFO.out]
        have HQ5 := hid (HQ.out.below hb)
        clear hb
        dsimp only
        by_cases h0 : 0 < t.list.length
        · have HXM : Hid (x ∈ t.list ∧ (qM b t.list).elig x.pp = true ∧ ∀ y ∈ t.list, (qM b t.list).elig y.pp = true → It.due y x = false) := hid (by
              obtain ⟨h1, h2⟩ := HX1.out h0
              rw [List.mem_filter] at h1
              exact ⟨h1.1, h1.2, fun y hy he => h2 y (List.mem_filter.2 ⟨hy, he⟩)⟩)
          have HXI : Hid x.In := hid (HQ.out.1.2.1.fw.inI x HXM.out.1)
          have HSG : Hid (0 ≤ ((qM b t.list).sign x.pp).2) := hid ((sign_elig HQ.out.1.2.1.fw HXM.out.1).2 HXM.out.2.1)
          have HLN : Hid ((0 : Int) < t.list.length ∧ (t.list.length : Int) ≤ 32) := hid (by have := HQ.out.1.2.1.fw.few; omega)
          rw [decide_eq_true h0]
          clear h0
          have hal := (Below.refl w5.heap.size w5).alloc (Nat.le_refl _) (.cells #[.int .u64 x.t, .int .u32 x.r, .int .u32 x.v, .int .i64 x.i, .int .u64 x.u, .int .u32 x.s, .int .u32 x.y] 32)
          have HQ6 := hid (HQ5.out.below hal)
          have HXV : Hid (Cs (w5.alloc (.cells #[.int .u64 x.t, .int .u32 x.r, .int .u32 x.v, .int .i64 x.i, .int .u64 x.u, .int .u32 x.s, .int .u32 x.y] 32)) w5.heap.size x.cells) := hid (Cs.new7 w5 32 x)
          clear hal HQ5
          unfold It.val
          go_upto_region 16 with fail
          generalize w5.alloc (.cells #[.int .u64 x.t, .int .u32 x.r, .int .u32 x.v, .int .i64 x.i, .int .u64 x.u, .int .u32 x.s, .int .u32 x.y] 32) = W6 at HQ6 HXV ⊢
          generalize w5.heap.size = gx at HXV ⊢
          go_wp2_with fail
          refine (Queue.len q mb th _ t _ HQ6.out.1.1).mono ?_
          rintro e w7 ⟨rfl, hb⟩
          have HQ7 := hid (HQ6.out.below hb)
          have HXV7 := hid (HXV.out.below hb)
          clear hb HQ6 HXV
          obtain ⟨x0, x1, x2, x3, x4, x5, x6⟩ := It.at x HXV7.out
          have hl0 := HLN.out.1
          have hl4 : (!decide (0 < t.list.length)) = false := by rw [decide_eq_true (show 0 < t.list.length by omega)]; rfl
          go_wp2_with fail
          refine (Queue.owed_yes q mb th _ t x HXM.out.1 _ HQ7.out.1.1).mono ?_
          rintro e w8 ⟨rfl, hb⟩
          have HQ8 := hid (HQ7.out.below hb)
          have HXV8 := hid (HXV7.out.below hb)
          clear hb HQ7 HXV7 x0 x1 x2 x3 x4 x5 x6
          have hs0 : ¬ ((qM b t.list).sign x.pp).2 < 0 := by have := HSG.out; omega
          go_wp2_with fail
          refine (Queue.items q mb th _ t _ HQ8.out.1.1).mono ?_
          rintro e w9 ⟨A2, c2, rfl, ho, hb⟩
          have HR9 := hid ho.rdi
          have HQ9 := hid (HQ8.out.below hb)
          have HXV9 := hid (HXV8.out.below hb)
          clear hb ho HQ8 HXV8
          obtain ⟨n2, hn2⟩ : ∃ n2, n2 = t.list.length := ⟨_, rfl⟩
          rw [← hn2] at HR9 HLN ⊢
          go_wp2_with fail
          go_loopg [74] n2 (fun s i wr => ∃ j : Nat, i = .int .i64 j ∧ j ≤ n2 ∧ s = n2 - j ∧ Below w9.heap.size w9 wr)
          case atStart => exact ⟨0, rfl, Nat.zero_le _, by omega, Below.refl _ _⟩
          case round =>
            obtain ⟨j, rfl, hj, hs, hb⟩ := hrel
            have HSJ := hid hs
            have HBJ := hid hb
            clear hs hb
            by_cases hjn : j < n2
            · obtain ⟨bb2, off2, hA2, _, hc2⟩ := (HR9.out.below HBJ.out).2 0 (by omega)
              obtain ⟨p0, p1, p2, p3, p4, p5, p6⟩ := hc2 j hjn
              have HM : Hid (t.list.getD j It.zero ∈ t.list) := hid (by
                  have e : t.list.getD j It.zero = t.list[j] := by simp [List.getD, (show j < t.list.length by omega)]
                  rw [e]; exact List.getElem_mem _)
              generalize t.list.getD j It.zero = y at *
              subst hA2
              have hji : (j : Int) < n2 := by omega
              have hj0 : (0 : Int) ≤ j := by omega
              have hj32 : (n2 : Int) ≤ 32 := HLN.out.2
              clear hc2
              have hal := (Below.refl wr.heap.size wr).alloc (Nat.le_refl _) (.cells #[.int .u64 y.t, .int .u32 y.r, .int .u32 y.v, .int .i64 y.i, .int .u64 y.u, .int .u32 y.s, .int .u32 y.y] 32)
              have HYV : Hid (Cs (wr.alloc (.cells #[.int .u64 y.t, .int .u32 y.r, .int .u32 y.v, .int .i64 y.i, .int .u64 y.u, .int .u32 y.s, .int .u32 y.y] 32)) wr.heap.size y.cells) := hid (Cs.new7 wr 32 y)
              have HBA := hid (below_on HBJ.out hal)
              clear hal
              go_upto_region 24 with fail
              generalize (wr.alloc (.cells #[.int .u64 y.t, .int .u32 y.r, .int .u32 y.v, .int .i64 y.i, .int .u64 y.u, .int .u32 y.s, .int .u32 y.y] 32)) = Wy at HYV HBA ⊢
              clear p0 p1 p2 p3 p4 p5 p6
              generalize wr.heap.size = gy at HYV ⊢
              obtain ⟨y0, y1, y2, y3, y4, y5, y6⟩ := It.at y HYV.out
              go_wp2_with fail
              refine (Queue.owed_yes q mb th _ t y HM.out _ (HQ9.out.below HBA.out).1.1).mono ?_
              rintro e w10 ⟨rfl, hb⟩
              have HB10 := hid (below_on HBA.out hb)
              have HYV10 := hid (HYV.out.below hb)
              clear hb y0 y1 y2 y3 y4 y5 y6
              obtain ⟨y0, y1, y2, y3, y4, y5, y6⟩ := It.at y HYV10.out
              obtain ⟨x0, x1, x2, x3, x4, x5, x6⟩ := It.at x (HXV9.out.below HB10.out)
              by_cases hsy : (0 : Int) ≤ ((qM b t.list).sign y.pp).2
              · have HDU := hid (HXM.out.2.2 y HM.out ((sign_elig HQ.out.1.2.1.fw HM.out).1 hsy))
                go_wp2_with fail
                refine (Item.due y x (HQ.out.1.2.1.fw.inI y HM.out) HXI.out _).mono ?_
                rw [HDU.out]
                rintro e w11 ⟨rfl, hb⟩
                have HB11 := hid (below_on HB10.out hb)
                clear hb y0 y1 y2 y3 y4 y5 y6 x0 x1 x2 x3 x4 x5 x6
                go_wp2_with fail
                go_roundg (n2 - (j + 1))
                case measure => have := HSJ.out; omega
                case rel => exact ⟨j + 1, by go_num, by omega, rfl, HB11.out⟩
              · go_wp2_with fail
                go_roundg (n2 - (j + 1))
                case measure => have := HSJ.out; omega
                case rel => exact ⟨j + 1, by go_num, by omega, rfl, HB10.out⟩
            · obtain rfl : j = n2 := by omega
              have hji : ¬ (j : Int) < j := by omega
              have HXE : Hid (QX w1 q mb th wr) := hid ⟨b, t, HQ9.out.below HBJ.out⟩
              go_wp2_with fail
              go_roundg (n - (k + 1))
              case measure => have := HS.out; omega
              case rel => exact ⟨k + 1, by go_num, by omega, rfl, HXE.out⟩
        · have HLN : Hid (t.list.length = 0) := hid (by omega)
          have HNIL : Hid (t.list = []) := hid (List.eq_nil_of_length_eq_zero HLN.out)
          obtain rfl : x = It.zero := HX0.out HLN.out
          rw [decide_eq_false h0]
          clear h0
          have hal := (Below.refl w5.heap.size w5).alloc (Nat.le_refl _) (.cells #[.int .u64 0, .int .u32 0, .int .u32 0, .int .i64 0, .int .u64 0, .int .u32 0, .int .u32 0] 32)
          have HQ6 := hid (HQ5.out.below hal)
          have HXV : Hid (Cs (w5.alloc (.cells #[.int .u64 0, .int .u32 0, .int .u32 0, .int .i64 0, .int .u64 0, .int .u32 0, .int .u32 0] 32)) w5.heap.size It.zero.cells) := hid (Cs.new7 w5 32 It.zero)
          clear hal HQ5
          unfold It.val
          go_upto_region 16 with fail
          generalize w5.alloc (.cells #[.int .u64 0, .int .u32 0, .int .u32 0, .int .i64 0, .int .u64 0, .int .u32 0, .int .u32 0] 32) = W6 at HQ6 HXV ⊢
          generalize w5.heap.size = gx at HXV ⊢
          go_wp2_with fail
          refine (Queue.len q mb th _ t _ HQ6.out.1.1).mono ?_
          rintro e w7 ⟨rfl, hb⟩
          have HQ7 := hid (HQ6.out.below hb)
          have HXV7 := hid (HXV.out.below hb)
          clear hb HQ6 HXV
          obtain ⟨x0, x1, x2, x3, x4, x5, x6⟩ := It.at It.zero HXV7.out
          have hl0 : ¬ (0 : Int) < t.list.length := by have := HLN.out; omega
          go_wp2_with fail
          refine (Queue.owed_no q mb th _ t 0 (by omega) (by rw [HNIL.out]; simp) _ HQ7.out.1.1).mono ?_
          rintro e w8 ⟨rfl, hb⟩
          have HQ8 := hid (HQ7.out.below hb)
          have HXV8 := hid (HXV7.out.below hb)
          clear hb HQ7 HXV7 x0 x1 x2 x3 x4 x5 x6
          go_wp2_with fail
          refine (Queue.items q mb th _ t _ HQ8.out.1.1).mono ?_
          rintro e w9 ⟨A2, c2, rfl, ho, hb⟩
          have HR9 := hid ho.rdi
          have HQ9 := hid (HQ8.out.below hb)
          have HXV9 := hid (HXV8.out.below hb)
          clear hb ho HQ8 HXV8
          rw [HLN.out]
          go_wp2_with fail
          go_loopg [74] 0 (fun s i wr => i = .int .i64 0 ∧ Below w9.heap.size w9 wr)
          case atStart => exact ⟨rfl, Below.refl _ _⟩
          case round =>
            obtain ⟨rfl, hb⟩ := hrel
            have HXE : Hid (QX w1 q mb th wr) := hid ⟨b, t, HQ9.out.below hb⟩
            clear hb
            go_wp2_with fail
            go_roundg (n - (k + 1))
            case measure => have := HS.out; omega
            case rel => exact ⟨k + 1, by go_num, by omega, rfl, HXE.out⟩
      · refine (Serve.join w1 q mb th a HP.out.2 _ HX3.out).mono ?_
        rintro e w4 ⟨⟨s9, rfl⟩, hx4⟩
        obtain ⟨b, t, hq⟩ := hx4
        have HQ := hid hq
        obtain ⟨x, hf, hx0, hx1⟩ := first_elig hq.1.2.1.fw hq.1.2.1.srt
        have HFO := hid hf
        have HX0 := hid hx0
        have HX1 := hid hx1
        clear hq hf hx0 hx1 a0 a1 a2 a3 a4 a5 a6 a7 HX3 HAC
        try unfold It.val
        go_wp2_with fail
        refine (Queue.soonest q mb th (qM b t.list) t _ HQ.out.1.1).mono ?_
        rintro e w5 ⟨rfl, hb⟩
        rw [HFO.out]
        have HQ5 := hid (HQ.out.below hb)
        clear hb
        dsimp only
        by_cases h0 : 0 < t.list.length
        · have HXM : Hid (x ∈ t.list ∧ (qM b t.list).elig x.pp = true ∧ ∀ y ∈ t.list, (qM b t.list).elig y.pp = true → It.due y x = false) := hid (by
              obtain ⟨h1, h2⟩ := HX1.out h0
              rw [List.mem_filter] at h1
              exact ⟨h1.1, h1.2, fun y hy he => h2 y (List.mem_filter.2 ⟨hy, he⟩)⟩)
          have HXI : Hid x.In := hid (HQ.out.1.2.1.fw.inI x HXM.out.1)
          have HSG : Hid (0 ≤ ((qM b t.list).sign x.pp).2) := hid ((sign_elig HQ.out.1.2.1.fw HXM.out.1).2 HXM.out.2.1)
          have HLN : Hid ((0 : Int) < t.list.length ∧ (t.list.length : Int) ≤ 32) := hid (by have := HQ.out.1.2.1.fw.few; omega)
          rw [decide_eq_true h0]
          clear h0
          have hal := (Below.refl w5.heap.size w5).alloc (Nat.le_refl _) (.cells #[.int .u64 x.t, .int .u32 x.r, .int .u32 x.v, .int .i64 x.i, .int .u64 x.u, .int .u32 x.s, .int .u32 x.y] 32)
          have HQ6 := hid (HQ5.out.below hal)
          have HXV : Hid (Cs (w5.alloc (.cells #[.int .u64 x.t, .int .u32 x.r, .int .u32 x.v, .int .i64 x.i, .int .u64 x.u, .int .u32 x.s, .int .u32 x.y] 32)) w5.heap.size x.cells) := hid (Cs.new7 w5 32 x)
          clear hal HQ5
          unfold It.val
          go_upto_region 16 with fail
          generalize w5.alloc (.cells #[.int .u64 x.t, .int .u32 x.r, .int .u32 x.v, .int .i64 x.i, .int .u64 x.u, .int .u32 x.s, .int .u32 x.y] 32) = W6 at HQ6 HXV ⊢
          generalize w5.heap.size = gx at HXV ⊢
          go_wp2_with fail
          refine (Queue.len q mb th _ t _ HQ6.out.1.1).mono ?_
          rintro e w7 ⟨rfl, hb⟩
          have HQ7 := hid (HQ6.out.below hb)
          have HXV7 := hid (HXV.out.below hb)
          clear hb HQ6 HXV
          obtain ⟨x0, x1, x2, x3, x4, x5, x6⟩ := It.at x HXV7.out
          have hl0 := HLN.out.1
          have hl4 : (!decide (0 < t.list.length)) = false := by rw [decide_eq_true (show 0 < t.list.length by omega)]; rfl
          go_wp2_with fail
          refine (Queue.owed_yes q mb th _ t x HXM.out.1 _ HQ7.out.1.1).mono ?_
          rintro e w8 ⟨rfl, hb⟩
          have HQ8 := hid (HQ7.out.below hb)
          have HXV8 := hid (HXV7.out.below hb)
          clear hb HQ7 HXV7 x0 x1 x2 x3 x4 x5 x6
          have hs0 : ¬ ((qM b t.list).sign x.pp).2 < 0 := by have := HSG.out; omega
          go_wp2_with fail
          refine (Queue.items q mb th _ t _ HQ8.out.1.1).mono ?_
          rintro e w9 ⟨A2, c2, rfl, ho, hb⟩
          have HR9 := hid ho.rdi
          have HQ9 := hid (HQ8.out.below hb)
          have HXV9 := hid (HXV8.out.below hb)
          clear hb ho HQ8 HXV8
          obtain ⟨n2, hn2⟩ : ∃ n2, n2 = t.list.length := ⟨_, rfl⟩
          rw [← hn2] at HR9 HLN ⊢
          go_wp2_with fail
          go_loopg [74] n2 (fun s i wr => ∃ j : Nat, i = .int .i64 j ∧ j ≤ n2 ∧ s = n2 - j ∧ Below w9.heap.size w9 wr)
          case atStart => exact ⟨0, rfl, Nat.zero_le _, by omega, Below.refl _ _⟩
          case round =>
            obtain ⟨j, rfl, hj, hs, hb⟩ := hrel
            have HSJ := hid hs
            have HBJ := hid hb
            clear hs hb
            by_cases hjn : j < n2
            · obtain ⟨bb2, off2, hA2, _, hc2⟩ := (HR9.out.below HBJ.out).2 0 (by omega)
              obtain ⟨p0, p1, p2, p3, p4, p5, p6⟩ := hc2 j hjn
              have HM : Hid (t.list.getD j It.zero ∈ t.list) := hid (by
                  have e : t.list.getD j It.zero = t.list[j] := by simp [List.getD, (show j < t.list.length by omega)]
                  rw [e]; exact List.getElem_mem _)
              generalize t.list.getD j It.zero = y at *
              subst hA2
              have hji : (j : Int) < n2 := by omega
              have hj0 : (0 : Int) ≤ j := by omega
              have hj32 : (n2 : Int) ≤ 32 := HLN.out.2
              clear hc2
              have hal := (Below.refl wr.heap.size wr).alloc (Nat.le_refl _) (.cells #[.int .u64 y.t, .int .u32 y.r, .int .u32 y.v, .int .i64 y.i, .int .u64 y.u, .int .u32 y.s, .int .u32 y.y] 32)
              have HYV : Hid (Cs (wr.alloc (.cells #[.int .u64 y.t, .int .u32 y.r, .int .u32 y.v, .int .i64 y.i, .int .u64 y.u, .int .u32 y.s, .int .u32 y.y] 32)) wr.heap.size y.cells) := hid (Cs.new7 wr 32 y)
              have HBA := hid (below_on HBJ.out hal)
              clear hal
              go_upto_region 24 with fail
              generalize (wr.alloc (.cells #[.int .u64 y.t, .int .u32 y.r, .int .u32 y.v, .int .i64 y.i, .int .u64 y.u, .int .u32 y.s, .int .u32 y.y] 32)) = Wy at HYV HBA ⊢
              clear p0 p1 p2 p3 p4 p5 p6
              generalize wr.heap.size = gy at HYV ⊢
              obtain ⟨y0, y1, y2, y3, y4, y5, y6⟩ := It.at y HYV.out
              go_wp2_with fail
              refine (Queue.owed_yes q mb th _ t y HM.out _ (HQ9.out.below HBA.out).1.1).mono ?_
              rintro e w10 ⟨rfl, hb⟩
              have HB10 := hid (below_on HBA.out hb)
              have HYV10 := hid (HYV.out.below hb)
              clear hb y0 y1 y2 y3 y4 y5 y6
              obtain ⟨y0, y1, y2, y3, y4, y5, y6⟩ := It.at y HYV10.out
              obtain ⟨x0, x1, x2, x3, x4, x5, x6⟩ := It.at x (HXV9.out.below HB10.out)
              by_cases hsy : (0 : Int) ≤ ((qM b t.list).sign y.pp).2
              · have HDU := hid (HXM.out.2.2 y HM.out ((sign_elig HQ.out.1.2.1.fw HM.out).1 hsy))
                go_wp2_with fail
                refine (Item.due y x (HQ.out.1.2.1.fw.inI y HM.out) HXI.out _).mono ?_
                rw [HDU.out]
                rintro e w11 ⟨rfl, hb⟩
                have HB11 := hid (below_on HB10.out hb)
                clear hb y0 y1 y2 y3 y4 y5 y6 x0 x1 x2 x3 x4 x5 x6
                go_wp2_with fail
                go_roundg (n2 - (j + 1))
                case measure => have := HSJ.out; omega
                case rel => exact ⟨j + 1, by go_num, by omega, rfl, HB11.out⟩
              · go_wp2_with fail
                go_roundg (n2 - (j + 1))
                case measure => have := HSJ.out; omega
                case rel => exact ⟨j + 1, by go_num, by omega, rfl, HB10.out⟩
            · obtain rfl : j = n2 := by omega
              have hji : ¬ (j : Int) < j := by omega
              have HXE : Hid (QX w1 q mb th wr) := hid ⟨b, t, HQ9.out.below HBJ.out⟩
              go_wp2_with fail
              go_roundg (n - (k + 1))
              case measure => have := HS.out; omega
              case rel => exact ⟨k + 1, by go_num, by omega, rfl, HXE.out⟩
        · have HLN : Hid (t.list.length = 0) := hid (by omega)
          have HNIL : Hid (t.list = []) := hid (List.eq_nil_of_length_eq_zero HLN.out)
          obtain rfl : x = It.zero := HX0.out HLN.out
          rw [decide_eq_false h0]
          clear h0
          have hal := (Below.refl w5.heap.size w5).alloc (Nat.le_refl _) (.cells #[.int .u64 0, .int .u32 0, .int .u32 0, .int .i64 0, .int .u64 0, .int .u32 0, .int .u32 0] 32)
          have HQ6 := hid (HQ5.out.below hal)
          have HXV : Hid (Cs (w5.alloc (.cells #[.int .u64 0, .int .u32 0, .int .u32 0, .int .i64 0, .int .u64 0, .int .u32 0, .int .u32 0] 32)) w5.heap.size It.zero.cells) := hid (Cs.new7 w5 32 It.zero)
          clear hal HQ5
          unfold It.val
          go_upto_region 16 with fail
          generalize w5.alloc (.cells #[.int .u64 0, .int .u32 0, .int .u32 0, .int .i64 0, .int .u64 0, .int .u32 0, .int .u32 0] 32) = W6 at HQ6 HXV ⊢
          generalize w5.heap.size = gx at HXV ⊢
          go_wp2_with fail
          refine (Queue.len q mb th _ t _ HQ6.out.1.1).mono ?_
          rintro e w7 ⟨rfl, hb⟩
          have HQ7 := hid (HQ6.out.below hb)
          have HXV7 := hid (HXV.out.below hb)
          clear hb HQ6 HXV
          obtain ⟨x0, x1, x2, x3, x4, x5, x6⟩ := It.at It.zero HXV7.out
          have hl0 : ¬ (0 : Int) < t.list.length := by have := HLN.out; omega
          go_wp2_with fail
          refine (Queue.owed_no q mb th _ t 0 (by omega) (by rw [HNIL.out]; simp) _ HQ7.out.1.1).mono ?_
          rintro e w8 ⟨rfl, hb⟩
          have HQ8 := hid (HQ7.out.below hb)
          have HXV8 := hid (HXV7.out.below hb)
          clear hb HQ7 HXV7 x0 x1 x2 x3 x4 x5 x6
          go_wp2_with fail
          refine (Queue.items q mb th _ t _ HQ8.out.1.1).mono ?_
          rintro e w9 ⟨A2, c2, rfl, ho, hb⟩
          have HR9 := hid ho.rdi
          have HQ9 := hid (HQ8.out.below hb)
          have HXV9 := hid (HXV8.out.below hb)
          clear hb ho HQ8 HXV8
          rw [HLN.out]
          go_wp2_with fail
          go_loopg [74] 0 (fun s i wr => i = .int .i64 0 ∧ Below w9.heap.size w9 wr)
          case atStart => exact ⟨rfl, Below.refl _ _⟩
          case round =>
            obtain ⟨rfl, hb⟩ := hrel
            have HXE : Hid (QX w1 q mb th wr) := hid ⟨b, t, HQ9.out.below hb⟩
            clear hb
            go_wp2_with fail
            go_roundg (n - (k + 1))
            case measure => have := HS.out; omega
            case rel => exact ⟨k + 1, by go_num, by omega, rfl, HXE.out⟩
    · obtain rfl : k = n := by omega
      have hki : ¬ (k : Int) < k := by omega
      go_wp2_with fail
      go_ret
      exact ⟨rfl, below_on HB1.out HBW.out⟩
end

end Go.Proofs.YtdkfpmlamfeenaaGreatDoor

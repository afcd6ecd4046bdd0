/- MeanBetween: the walk. -/
import Derived.Test.YtoioeginfhkjjaaGreatDoorMeanBetweenZ48
import Derived.Test.YtoioeginfhkjjaaGreatDoorMeanBetweenZ16
namespace Go.Proofs.YtoioeginfhkjjaaGreatDoor
open Go.RowKit

theorem fold_takeP {f : P3 → P3 → P3} {l : List P3} {k : Nat} (hk : k < l.length) (a : P3) : (l.take (k + 1)).foldl f a = f ((l.take k).foldl f a) (l.getD k (0, 0, 0)) := by
  have e : l.getD k (0, 0, 0) = l[k] := by simp [List.getD, hk]
  rw [e, List.take_succ_eq_append_getElem hk, List.foldl_append]; rfl
theorem fold_PIn {f : P3 → P3 → P3} (hf : ∀ a b, f a b = a ∨ f a b = b) : ∀ (l : List P3) (a : P3), PIn a → (∀ q ∈ l, PIn q) → PIn (l.foldl f a)
  | [], _, h, _ => h
  | p :: l, a, h, hl => by
    rw [List.foldl_cons]
    refine fold_PIn hf l _ ?_ (fun q hq => hl q (by simp [hq]))
    rcases hf a p with e | e <;> rw [e]
    · exact h
    · exact hl p (by simp)
theorem firP_or (a b : P3) : firP a b = a ∨ firP a b = b := by unfold firP; split; exact Or.inr rfl; exact Or.inl rfl
theorem lasP_or (a b : P3) : lasP a b = a ∨ lasP a b = b := by unfold lasP; split; exact Or.inr rfl; exact Or.inl rfl
/-- The first one's and the last one's variables. -/
def Fl (w : World) (ga gb : Nat) (f e : P3) (W : World) : Prop := Cs W ga (pcells f) ∧ Cs W gb (pcells e) ∧ Below w.heap.size w W
theorem Fl.below {w w1 w2 : World} {ga gb : Nat} {f e : P3} (h : Fl w ga gb f e w1) (hb : Below w1.heap.size w1 w2) : Fl w ga gb f e w2 := ⟨h.1.below hb, h.2.1.below hb, below_on h.2.2 hb⟩
theorem Fl.put1 {w w1 : World} {ga gb : Nat} {f e : P3} (h : Fl w ga gb f e w1) (hg : ga ≠ gb ∧ w.heap.size ≤ ga ∧ w.heap.size ≤ gb) (x : P3) {W : World} (hW : W = w1.setCells ga 0 [.int .u64 x.1, .int .u32 x.2.1, .int .u32 x.2.2]) : Fl w ga gb x e W := by
  rw [hW]; exact ⟨Cs.putL _ 0 h.1 (by simp [pcells]), h.2.1.fars hg.1 _ _, below_sets hg.2.1 _ _ h.2.2⟩
theorem Fl.put1x {w w1 : World} {ga gb gx : Nat} {f e x : P3} (h : Fl w ga gb f e w1) (hg : ga ≠ gb ∧ w.heap.size ≤ ga ∧ w.heap.size ≤ gb) (hx : Cs w1 gx (pcells x)) (hne : ga ≠ gx) {W : World} (hW : W = w1.setCells ga 0 [.int .u64 x.1, .int .u32 x.2.1, .int .u32 x.2.2]) : Fl w ga gb x e W ∧ Cs W gx (pcells x) := by
  rw [hW]; exact ⟨⟨Cs.putL _ 0 h.1 (by simp [pcells]), h.2.1.fars hg.1 _ _, below_sets hg.2.1 _ _ h.2.2⟩, hx.fars hne _ _⟩
theorem between' {t : Int} {p0 : P3} {l : List P3} (h0 : 0 < l.length) (hp : l.getD 0 (0, 0, 0) = p0) (hl : ∀ p ∈ l, NrP 1152921504606846976 t p) :
    0 ≤ dif (adv t (sumD t l / sumW l)) (l.foldl firP p0).1 ∧ 0 ≤ dif (l.foldl lasP p0).1 (adv t (sumD t l / sumW l)) := by
  cases l with
  | nil => simp at h0
  | cons a l =>
    have : a = p0 := by simpa using hp
    subst this
    exact between hl
theorem Fl.put2 {w w1 : World} {ga gb : Nat} {f e : P3} (h : Fl w ga gb f e w1) (hg : ga ≠ gb ∧ w.heap.size ≤ ga ∧ w.heap.size ≤ gb) (x : P3) {W : World} (hW : W = w1.setCells gb 0 [.int .u64 x.1, .int .u32 x.2.1, .int .u32 x.2.2]) : Fl w ga gb f x W := by
  rw [hW]; exact ⟨h.1.fars (Ne.symm hg.1) _ _, Cs.putL _ 0 h.2.1 (by simp [pcells]), below_sets hg.2.2 _ _ h.2.2⟩

set_option maxHeartbeats 1000000 in
theorem Mbetw.away1 (t b : Int) (A : Option Addr) (n c : Nat) (w : World) (hn : 32 < n) (htab : Tab10 w.heap.size w) :
    Calls Tryz.prog 4 #[.int .u64 t, .slice A n c, .int .i64 b] w (Ans (.bool true) w) := by
  have HT := hid htab
  have h2 : (32 : Int) < (n : Int) := by omega
  clear hn
  clear htab
  go_enter Tryz.func4, Tryz.ntmps4
  go_wp2_with fail
  refine (Law8.awake _ HT.out).mono ?_
  rintro e w1 ⟨rfl, hb1⟩
  go_wp2_with fail
  go_ret
  exact ⟨rfl, hb1⟩

set_option maxHeartbeats 1000000 in
theorem Mbetw.away2 (t b : Int) (A : Option Addr) (n c : Nat) (w : World) (hn : n = 0) (htab : Tab10 w.heap.size w) :
    Calls Tryz.prog 4 #[.int .u64 t, .slice A n c, .int .i64 b] w (Ans (.bool true) w) := by
  have HT := hid htab
  subst hn
  clear htab
  go_enter Tryz.func4, Tryz.ntmps4
  go_wp2_with fail
  refine (Law8.awake _ HT.out).mono ?_
  rintro e w1 ⟨rfl, hb1⟩
  go_wp2_with fail
  go_ret
  exact ⟨rfl, hb1⟩

set_option maxHeartbeats 1000000 in
theorem Mbetw.away3 (t b : Int) (A : Option Addr) (n c : Nat) (w : World) (hn : n ≤ 32) (h0 : 0 < n) (hb : b ≤ -1152921504606846976) (htab : Tab10 w.heap.size w) :
    Calls Tryz.prog 4 #[.int .u64 t, .slice A n c, .int .i64 b] w (Ans (.bool true) w) := by
  have HT := hid htab
  have h2 : ¬ (32 : Int) < (n : Int) := by omega
  have h3 : ((n : Int) == 0) = false := by rw [beq_eq_false_iff_ne]; omega
  clear hn h0
  clear htab
  go_enter Tryz.func4, Tryz.ntmps4
  go_wp2_with fail
  refine (Law8.awake _ HT.out).mono ?_
  rintro e w1 ⟨rfl, hb1⟩
  go_wp2_with fail
  go_ret
  exact ⟨rfl, hb1⟩

set_option maxHeartbeats 1000000 in
theorem Mbetw.away4 (t b : Int) (A : Option Addr) (n c : Nat) (w : World) (hn : n ≤ 32) (h0 : 0 < n) (hb0 : ¬ b ≤ -1152921504606846976) (hb : 1152921504606846976 ≤ b) (htab : Tab10 w.heap.size w) :
    Calls Tryz.prog 4 #[.int .u64 t, .slice A n c, .int .i64 b] w (Ans (.bool true) w) := by
  have HT := hid htab
  have h2 : ¬ (32 : Int) < (n : Int) := by omega
  have h3 : ((n : Int) == 0) = false := by rw [beq_eq_false_iff_ne]; omega
  clear hn h0
  clear htab
  go_enter Tryz.func4, Tryz.ntmps4
  go_wp2_with fail
  refine (Law8.awake _ HT.out).mono ?_
  rintro e w1 ⟨rfl, hb1⟩
  go_wp2_with fail
  go_ret
  exact ⟨rfl, hb1⟩

set_option maxRecDepth 100000 in
set_option maxHeartbeats 32000000 in
theorem Mbetw.core (t b : Int) (ht : IsT t) (A : Option Addr) (n c : Nat) (l : List P3) (w : World) (hr : RdP w A n l) (hl : ∀ q ∈ l, PIn q) (hn : n ≤ 32) (h0 : 0 < n) (b0 : -1152921504606846976 < b) (b1 : b < 1152921504606846976) (htab : Tab10 w.heap.size w) :
    Calls Tryz.prog 4 #[.int .u64 t, .slice A n c, .int .i64 b] w (Ans (.bool true) w) := by
  have HT := hid htab
  have HR := hid hr
  have HL := hid hl
  have HBB := hid (And.intro b0 b1)
  have HTT := hid ht
  have HLN := hid hr.1
  have H0 := hid h0
  have h2 : ¬ (32 : Int) < (n : Int) := by omega
  have h3 : ((n : Int) == 0) = false := by rw [beq_eq_false_iff_ne]; omega
  have h4 : ¬ b ≤ -1152921504606846976 := by omega
  have h5 : ¬ 1152921504606846976 ≤ b := by omega
  have h6 : (0 : Int) < n := by omega
  clear hr hl htab b0 b1 ht
  go_enter Tryz.func4, Tryz.ntmps4
  go_wp2_with fail
  refine (Law8.awake _ HT.out).mono ?_
  rintro e w1 ⟨rfl, hb⟩
  have HB1 := hid hb
  obtain ⟨bb, off, hA, _, _⟩ := (HR.out.below hb).2 0 h0
  have HP0 := hid (HL.out _ (getD_mem (l := l) (k := 0) (by have := HLN.out; omega)))
  obtain ⟨p0v, hp0⟩ : ∃ p0v, l.getD 0 (0, 0, 0) = p0v := ⟨_, rfl⟩
  rw [hp0] at HP0
  have HPE := hid hp0
  subst hA
  clear hb hp0
  go_wp2_with fail
  refine wp_region_grow (S := fun wx => Below w.heap.size w wx) 10 (by kernel_rfl) (HB1.out.drew) ?_
  refine wpAnyE_take (i := 0) (v := ?_) (((fun _ _ h hb => below_on h hb) : Stays (fun wx => Below w.heap.size w wx))) (fun _ h => h) rfl (by kernel_rfl) (by kernel_rfl) (by kernel_rfl) (by kernel_rfl) (fun _ _ _ h => h) (SteadyB.of_yields (Or.inl ⟨by rfl, ?_⟩)) ?_
  rotate_left
  · intro wq hSw
    go_simp
    (try with_reducible rfl)
  try simp only [List.getElem_toArray, List.getElem_cons_zero, List.getElem_cons_succ, Act.put, List.setIfInBounds_toArray, List.set_cons_zero, List.set_cons_succ]
  refine wpAnyE_take (i := 1) (v := ?_) (((fun _ _ h hb => below_on h hb) : Stays (fun wx => Below w.heap.size w wx))) (fun _ h => h) rfl (by kernel_rfl) (by kernel_rfl) (by kernel_rfl) (by kernel_rfl) (fun _ _ _ h => h) (SteadyB.of_yields (Or.inl ⟨by rfl, ?_⟩)) ?_
  rotate_left
  · intro wq hSw
    go_simp
    (try with_reducible rfl)
  try simp only [List.getElem_toArray, List.getElem_cons_zero, List.getElem_cons_succ, Act.put, List.setIfInBounds_toArray, List.set_cons_zero, List.set_cons_succ]
  refine wpAnyE_take (i := 2) (v := ?_) (((fun _ _ h hb => below_on h hb) : Stays (fun wx => Below w.heap.size w wx))) (fun _ h => h) rfl (by kernel_rfl) (by kernel_rfl) (by kernel_rfl) (by kernel_rfl) (fun _ _ _ h => h) (SteadyB.of_yields (Or.inl ⟨by rfl, ?_⟩)) ?_
  rotate_left
  · intro wq hSw
    obtain ⟨b9, o9, hA9, _, hc9⟩ := (HR.out.below hSw).2 0 H0.out
    obtain ⟨p0, p1, p2⟩ := hc9 0 H0.out
    injection hA9 with hA9
    injection hA9 with hA9 hA8
    subst hA9 hA8
    simp only [Nat.zero_mul, Nat.add_zero] at p0 p1 p2
    rw [HPE.out] at p0 p1 p2
    go_simp
    (try with_reducible rfl)
  try simp only [List.getElem_toArray, List.getElem_cons_zero, List.getElem_cons_succ, Act.put, List.setIfInBounds_toArray, List.set_cons_zero, List.set_cons_succ]
  refine wpAnyE_take (i := 3) (v := ?_) (((fun _ _ h hb => below_on h hb) : Stays (fun wx => Below w.heap.size w wx))) (fun _ h => h) rfl (by kernel_rfl) (by kernel_rfl) (by kernel_rfl) (by kernel_rfl) (fun _ _ _ h => h) (SteadyB.of_yields (Or.inl ⟨by rfl, ?_⟩)) ?_
  rotate_left
  · intro wq hSw
    go_simp
    (try with_reducible rfl)
  try simp only [List.getElem_toArray, List.getElem_cons_zero, List.getElem_cons_succ, Act.put, List.setIfInBounds_toArray, List.set_cons_zero, List.set_cons_succ]
  refine wpAnyE_take (i := 4) (v := ?_) (((fun _ _ h hb => below_on h hb) : Stays (fun wx => Below w.heap.size w wx))) (fun _ h => h) rfl (by kernel_rfl) (by kernel_rfl) (by kernel_rfl) (by kernel_rfl) (fun _ _ _ h => h) (SteadyB.of_yields (Or.inl ⟨by rfl, ?_⟩)) ?_
  rotate_left
  · intro wq hSw
    go_simp
    (try with_reducible rfl)
  try simp only [List.getElem_toArray, List.getElem_cons_zero, List.getElem_cons_succ, Act.put, List.setIfInBounds_toArray, List.set_cons_zero, List.set_cons_succ]
  refine wpAnyE_take (i := 5) (v := ?_) (((fun _ _ h hb => below_on h hb) : Stays (fun wx => Below w.heap.size w wx))) (fun _ h => h) rfl (by kernel_rfl) (by kernel_rfl) (by kernel_rfl) (by kernel_rfl) (fun _ _ _ h => h) (SteadyB.of_yields (Or.inl ⟨by rfl, ?_⟩)) ?_
  rotate_left
  · intro wq hSw
    obtain ⟨b9, o9, hA9, _, hc9⟩ := (HR.out.below hSw).2 0 H0.out
    obtain ⟨p0, p1, p2⟩ := hc9 0 H0.out
    injection hA9 with hA9
    injection hA9 with hA9 hA8
    subst hA9 hA8
    simp only [Nat.zero_mul, Nat.add_zero] at p0 p1 p2
    rw [HPE.out] at p0 p1 p2
    go_simp
    (try with_reducible rfl)
  try simp only [List.getElem_toArray, List.getElem_cons_zero, List.getElem_cons_succ, Act.put, List.setIfInBounds_toArray, List.set_cons_zero, List.set_cons_succ]
  refine wpAnyE_alloc2 (i := 6) (j := 7) (fun wx g => Cs wx g [.int .u64 0, .int .u32 0, .int .u32 0] ∧ w.heap.size ≤ g) rfl rfl (by kernel_rfl) (by kernel_rfl) (by kernel_rfl) (by decide) (by decide) (by decide) (by kernel_rfl) (fun _ => rfl) (fun _ => rfl) (((fun _ _ h hb => below_on h hb) : Stays (fun wx => Below w.heap.size w wx))) (fun _ h => h) (fun g => (fun _ _ h hb => ⟨h.1.below hb, h.2⟩)) (fun _ _ h => h.1.lt) (fun aq wq hSw => ?_) (fun aq wq hSw => ?_) (fun gA gB gAB => ?_)
  · exact ⟨_, by go_simp; (try with_reducible rfl), (Below.refl _ _).alloc (Nat.le_refl _) _, Cs.alloc_new6 _ _ [.int .u64 0, .int .u32 0, .int .u32 0], hSw.size⟩
  · exact ⟨_, by go_simp; (try with_reducible rfl), (Below.refl _ _).alloc (Nat.le_refl _) _, Cs.alloc_new6 _ _ [.int .u64 0, .int .u32 0, .int .u32 0], hSw.size⟩
  try simp only [List.getElem_toArray, List.getElem_cons_zero, List.getElem_cons_succ, Act.put, List.setIfInBounds_toArray, List.set_cons_zero, List.set_cons_succ]
  refine wpAnyE_store (i := 8) (fun wx => (fun wx => Below w.heap.size w wx) wx ∧ ((Cs wx gA [.int .u64 p0v.1, .int .u32 p0v.2.1, .int .u32 p0v.2.2] ∧ w.heap.size ≤ gA) ∧ (Cs wx gB [.int .u64 0, .int .u32 0, .int .u32 0] ∧ w.heap.size ≤ gB))) 29 [.int .u64 p0v.1, .int .u32 p0v.2.1, .int .u32 p0v.2.2] [.int .u64 0, .int .u32 0, .int .u32 0] gA infoPos (.tmp 8) (.tmp 44) rfl rfl (by kernel_rfl) (by decide) (by rfl) ?st8_1a ?st8_1b ?st8_1c ?st8_1d ?st8_1e (fun _ h => h.1.2.1) (fun _ h => ⟨below_sets h.1.2.2 _ _ h.1.1, ⟨Cs.putL _ 0 h.1.2.1 (by simp), h.1.2.2⟩, h.2.1.fars gAB _ _, h.2.2⟩) (fun _ h => h.1) (Stays.and_ ((fun _ _ h hb => below_on h hb) : Stays (fun wx => Below w.heap.size w wx)) (fun _ _ h hb => ⟨⟨h.1.1.below hb, h.1.2⟩, h.2.1.below hb, h.2.2⟩)) ?st8_1f
  case st8_1a => rfl
  case st8_1b => rfl
  case st8_1c => rfl
  case st8_1d => rfl
  case st8_1e => rfl
  try simp only [List.getElem_toArray, List.getElem_cons_zero, List.getElem_cons_succ, Act.put, List.setIfInBounds_toArray, List.set_cons_zero, List.set_cons_succ]
  refine wpAnyE_store (i := 9) (fun wx => (fun wx => Below w.heap.size w wx) wx ∧ ((Cs wx gA [.int .u64 p0v.1, .int .u32 p0v.2.1, .int .u32 p0v.2.2] ∧ w.heap.size ≤ gA) ∧ (Cs wx gB [.int .u64 p0v.1, .int .u32 p0v.2.1, .int .u32 p0v.2.2] ∧ w.heap.size ≤ gB))) 29 [.int .u64 p0v.1, .int .u32 p0v.2.1, .int .u32 p0v.2.2] [.int .u64 0, .int .u32 0, .int .u32 0] gB infoPos (.tmp 9) (.tmp 47) rfl rfl (by kernel_rfl) (by decide) (by rfl) ?st9_2a ?st9_2b ?st9_2c ?st9_2d ?st9_2e (fun _ h => h.2.2.1) (fun _ h => ⟨below_sets h.2.2.2 _ _ h.1, ⟨h.2.1.1.fars (Ne.symm gAB) _ _, h.2.1.2⟩, Cs.putL _ 0 h.2.2.1 (by simp), h.2.2.2⟩) (fun _ h => h.1) (Stays.and_ ((fun _ _ h hb => below_on h hb) : Stays (fun wx => Below w.heap.size w wx)) (fun _ _ h hb => ⟨⟨h.1.1.below hb, h.1.2⟩, h.2.1.below hb, h.2.2⟩)) ?st9_2f
  case st9_2a => rfl
  case st9_2b => rfl
  case st9_2c => rfl
  case st9_2d => rfl
  case st9_2e => rfl
  try simp only [List.getElem_toArray, List.getElem_cons_zero, List.getElem_cons_succ, Act.put, List.setIfInBounds_toArray, List.set_cons_zero, List.set_cons_succ]
  refine wpAnyE_done (by kernel_rfl) (fun wz hSz => ?_) _
  have HF1 := hid (show Fl w gA gB p0v p0v wz from ⟨hSz.2.1.1, hSz.2.2.1, hSz.1⟩)
  have HGE := hid (show gA ≠ gB ∧ w.heap.size ≤ gA ∧ w.heap.size ≤ gB from ⟨gAB, hSz.2.1.2, hSz.2.2.2⟩)
  clear hSz HB1 h2 h3 h4 h5 h0
  go_wp2_with fail
  generalize gA = ga at HF1 HGE ⊢
  generalize gB = gb at HF1 HGE ⊢
  go_loopg [50] n (fun s i wr => ∃ k : Nat, i = .int .i64 k ∧ k ≤ n ∧ s = n - k ∧ (∀ p ∈ l.take k, NrP 1152921504606846976 t p) ∧ Fl w ga gb ((l.take k).foldl firP p0v) ((l.take k).foldl lasP p0v) wr)
  case atStart => exact ⟨0, rfl, Nat.zero_le _, by omega, (by simp), HF1.out⟩
  case round =>
    obtain ⟨k, rfl, hk, hs, hnr, hf⟩ := hrel
    have HS := hid hs
    have HNR := hid hnr
    have HF := hid hf
    clear hs hnr hf HF1
    by_cases hkn : k < n
    · obtain ⟨b9, o9, hA9, _, hc⟩ := (HR.out.below HF.out.2.2).2 0 (by omega)
      injection hA9 with hA9
      injection hA9 with hA9 hA8
      subst hA9 hA8
      obtain ⟨p0, p1, p2⟩ := hc k hkn
      have hkl : k < l.length := by have := HLN.out; omega
      have HX := hid (HL.out _ (getD_mem hkl))
      have HNQ := hid (fun hx => mem_take1 (C := fun p => NrP 1152921504606846976 t p) hkl HNR.out hx)
      have HS1 := hid (fold_takeP (f := firP) hkl p0v)
      have HS2 := hid (fold_takeP (f := lasP) hkl p0v)
      have HFI := hid (fold_PIn firP_or (l.take k) p0v HP0.out (fun q hq => HL.out q (List.mem_of_mem_take hq)))
      have HE := hid (fold_PIn lasP_or (l.take k) p0v HP0.out (fun q hq => HL.out q (List.mem_of_mem_take hq)))
      generalize l.getD k (0, 0, 0) = x at *
      generalize (l.take k).foldl firP p0v = f at *
      generalize (l.take k).foldl lasP p0v = e at *
      have hki : (k : Int) < n := by omega
      clear hc hkl
      have ha := (Below.refl wr.heap.size wr).alloc (Nat.le_refl _) (.cells #[.int .u64 x.1, .int .u32 x.2.1, .int .u32 x.2.2] 29)
      have HF2 := hid (HF.out.below ha)
      have HNE := hid (show ga ≠ wr.heap.size by have := HF.out.1.lt; omega)
      have HX2 : Hid (Cs (wr.alloc (.cells #[.int .u64 x.1, .int .u32 x.2.1, .int .u32 x.2.2] 29)) wr.heap.size (pcells x)) := hid (Cs.alloc_new6 wr 29 (pcells x))
      clear ha HF
      go_wp2_with fail
      refine (Vtime.since x.1 t _).mono ?_
      rintro e9 w2 ⟨rfl, hb⟩
      have HF3 := hid (HF2.out.below hb)
      have HX3 := hid (HX2.out.below hb)
      obtain ⟨q0, q1, q2⟩ := P3.at x HX3.out
      clear hb HF2 HX2 p0 p1 p2
      go_wp2_with fail
      refine (Pos.rightF x _).mono ?_
      rintro e9 w3 ⟨rfl, hb⟩
      have HF4 := hid (HF3.out.below hb)
      have HX4 := hid (HX3.out.below hb)
      clear hb HF3 HX3 q0 q1 q2
      cases hpr : pR x with
      | false =>
        go_wp2_with fail
        go_ret
        exact ⟨rfl, HF4.out.2.2⟩
      | true =>
        have HPR := hid hpr
        clear hpr
        by_cases g1 : dif x.1 t ≤ -1152921504606846976
        · go_wp2_with fail
          go_ret
          exact ⟨rfl, HF4.out.2.2⟩
        · by_cases g2 : 1152921504606846976 ≤ dif x.1 t
          · go_wp2_with fail
            go_ret
            exact ⟨rfl, HF4.out.2.2⟩
          · have HNK := hid (HNQ.out ⟨⟨HPR.out, HX.out⟩, by omega, by omega⟩)
            obtain ⟨q0, q1, q2⟩ := P3.at x HX4.out
            obtain ⟨r0, r1, r2⟩ := P3.at f HF4.out.1
            go_wp2_with fail
            clear g1 g2
            refine (Pos.cmpF HX.out HFI.out _).mono ?_
            rintro e9 w4 ⟨rfl, hb⟩
            have HF5a := hid (HF4.out.below hb)
            have HX5 := hid (HX4.out.below hb)
            clear hb q0 q1 q2 r0 r1 r2 HF4 HX4
            by_cases c1 : cmpP x f < 0
            · have HL1 := hid (show firP f x = x by unfold firP; rw [if_pos c1])
              obtain ⟨q0, q1, q2⟩ := P3.at x HX5.out
              have HCr := hid HF5a.out.1
              obtain ⟨r0, r1, r2⟩ := P3.at e HF5a.out.2.1
              go_upto_region 15 with (first | ((with_reducible refine wpList_put_cs 29 [.int .u64 x.1, .int .u32 x.2.1, .int .u32 x.2.2] infoPos rfl (.tmp 8) (.tmp 73) rfl ga _ HCr.out ?h2001_1 ?h2001_2 ?h2001_3 ?h2001_4 ?h2001_5 ?h2001_6); (case h2001_1 => rfl); (case h2001_2 => rfl); (case h2001_3 => rfl); (case h2001_4 => rfl); (case h2001_5 => rfl); (intro W2 hW2); (have HFX := hid (HF5a.out.put1x HGE.out HX5.out HNE.out hW2)); (clear hW2)) | fail)
              clear q0 q1 q2 r0 r1 r2 c1
              have HF5 := hid HFX.out.1
              have HX5' := hid HFX.out.2
              clear HX5 HFX HF5a
              have HX5 := HX5'
              clear HX5'
              obtain ⟨q0, q1, q2⟩ := P3.at x HX5.out
              obtain ⟨r0, r1, r2⟩ := P3.at e HF5.out.2.1
              go_wp2_with fail
              refine (Pos.cmpF HX.out HE.out _).mono ?_
              rintro e9 w6 ⟨rfl, hb⟩
              have HF6 := hid (HF5.out.below hb)
              have HX6 := hid (HX5.out.below hb)
              clear hb q0 q1 q2 r0 r1 r2 HF5 HX5
              by_cases c2 : 0 < cmpP x e
              · have HL2 := hid (show lasP e x = x by unfold lasP; rw [if_pos c2])
                obtain ⟨q0, q1, q2⟩ := P3.at x HX6.out
                have HCr := hid HF6.out.2.1
                go_wp2_with (first | ((with_reducible refine wpList_put_cs 29 [.int .u64 x.1, .int .u32 x.2.1, .int .u32 x.2.2] infoPos rfl (.tmp 9) (.tmp 78) rfl gb _ HCr.out ?h2002_1 ?h2002_2 ?h2002_3 ?h2002_4 ?h2002_5 ?h2002_6); (case h2002_1 => rfl); (case h2002_2 => rfl); (case h2002_3 => rfl); (case h2002_4 => rfl); (case h2002_5 => rfl); (intro W2 hW2); (have HF7a := hid (HF6.out.put2 HGE.out x hW2)); (clear hW2)) | fail)
                clear q0 q1 q2
                go_roundg (n - (k + 1))
                case measure => have := HS.out; omega
                case rel => exact ⟨k + 1, by go_num, by omega, rfl, HNK.out, by rw [HS1.out, HS2.out, HL1.out, HL2.out]; exact HF7a.out⟩
              · have HL2 := hid (show lasP e x = e by unfold lasP; rw [if_neg c2])
                go_wp2_with fail
                go_roundg (n - (k + 1))
                case measure => have := HS.out; omega
                case rel => exact ⟨k + 1, by go_num, by omega, rfl, HNK.out, by rw [HS1.out, HS2.out, HL1.out, HL2.out]; exact HF6.out⟩
            · have HL1 := hid (show firP f x = f by unfold firP; rw [if_neg c1])
              have HF5 := HF5a
              clear HF5a
              obtain ⟨q0, q1, q2⟩ := P3.at x HX5.out
              obtain ⟨r0, r1, r2⟩ := P3.at e HF5.out.2.1
              go_wp2_with fail
              refine (Pos.cmpF HX.out HE.out _).mono ?_
              rintro e9 w6 ⟨rfl, hb⟩
              have HF6 := hid (HF5.out.below hb)
              have HX6 := hid (HX5.out.below hb)
              clear hb q0 q1 q2 r0 r1 r2 HF5 HX5
              by_cases c2 : 0 < cmpP x e
              · have HL2 := hid (show lasP e x = x by unfold lasP; rw [if_pos c2])
                obtain ⟨q0, q1, q2⟩ := P3.at x HX6.out
                have HCr := hid HF6.out.2.1
                go_wp2_with (first | ((with_reducible refine wpList_put_cs 29 [.int .u64 x.1, .int .u32 x.2.1, .int .u32 x.2.2] infoPos rfl (.tmp 9) (.tmp 78) rfl gb _ HCr.out ?h2003_1 ?h2003_2 ?h2003_3 ?h2003_4 ?h2003_5 ?h2003_6); (case h2003_1 => rfl); (case h2003_2 => rfl); (case h2003_3 => rfl); (case h2003_4 => rfl); (case h2003_5 => rfl); (intro W2 hW2); (have HF7b := hid (HF6.out.put2 HGE.out x hW2)); (clear hW2)) | fail)
                clear q0 q1 q2
                go_roundg (n - (k + 1))
                case measure => have := HS.out; omega
                case rel => exact ⟨k + 1, by go_num, by omega, rfl, HNK.out, by rw [HS1.out, HS2.out, HL1.out, HL2.out]; exact HF7b.out⟩
              · have HL2 := hid (show lasP e x = e by unfold lasP; rw [if_neg c2])
                go_wp2_with fail
                go_roundg (n - (k + 1))
                case measure => have := HS.out; omega
                case rel => exact ⟨k + 1, by go_num, by omega, rfl, HNK.out, by rw [HS1.out, HS2.out, HL1.out, HL2.out]; exact HF6.out⟩
    · obtain rfl : k = n := by omega
      have hki : ¬ (k : Int) < k := by omega
      have HNL : Hid (∀ p ∈ l, NrP 1152921504606846976 t p) := hid (by have := HNR.out; rwa [List.take_of_length_le (by have := HLN.out; omega)] at this)
      have hf := HF.out
      rw [List.take_of_length_le (by have := HLN.out; omega)] at hf
      have HFF := hid hf
      clear hf HF HNR HS
      have HOK : Hid (∀ p ∈ l, pR p = true ∧ PIn p) := hid (fun p hp => (HNL.out p hp).1)
      have E1 := hid (of_yes t HOK.out (by have := HLN.out; omega))
      have E2 := hid (of_yes (adv t b) HOK.out (by have := HLN.out; omega))
      have HI1 := hid (sums_in HTT.out HOK.out (by have := HLN.out; omega))
      have HI2 := hid (sums_in (adv_T t b) HOK.out (by have := HLN.out; omega))
      have HRB : Hid (∀ wq, Calls Tryz.prog 28 #[(Mu.sums t l).val, .int .u64 (adv t b)] wq (Ans (.tuple #[Mu.val (Mu.sums (adv t b) l), .bool true]) wq)) := hid (fun wq => by
        have h := Mean.rebase (Mu.sums t l) (adv t b) HI1.out wq
        rwa [base_reb HNL.out HBB.out.1 HBB.out.2 (by have := HLN.out; omega)] at h)
      have F1 := hid (near_fl HTT.out HNL.out (by have := HLN.out; have := H0.out; omega) (by have := HLN.out; omega))
      have F2 := hid (base_fl HNL.out HBB.out.1 HBB.out.2 (by have := HLN.out; have := H0.out; omega) (by have := HLN.out; omega))
      have HBE := hid (between' (by have := HLN.out; have := H0.out; omega) HPE.out HNL.out)
      generalize l.foldl firP p0v = f at *
      generalize l.foldl lasP p0v = e at *
      generalize adv t (sumD t l / sumW l) = X at *
      have k1 : ¬ dif X f.1 < 0 := by have := HBE.out; omega
      have k2 : ¬ dif e.1 X < 0 := by have := HBE.out; omega
      clear h6
      go_wp2_with fail
      refine (Mean.of t HTT.out (some ⟨bb, off, none⟩) k c l _ (HR.out.below HFF.out.2.2) HL.out (by omega)).mono ?_
      rw [E1.out]
      rintro e9 w4 ⟨rfl, hb⟩
      have ha := (Below.refl w4.heap.size w4).alloc (Nat.le_refl _) (.cells #[.int .u64 (Mu.sums t l).b, .int .i64 (hiW (Mu.sums t l).a), .int .u64 (loW (Mu.sums t l).a), .int .u64 (Mu.sums t l).w, .int .i64 (Mu.sums t l).n] 36)
      have HG4 : Hid (Fl w ga gb f e (w4.alloc (.cells #[.int .u64 (Mu.sums t l).b, .int .i64 (hiW (Mu.sums t l).a), .int .u64 (loW (Mu.sums t l).a), .int .u64 (Mu.sums t l).w, .int .i64 (Mu.sums t l).n] 36)) ∧ Cs (w4.alloc (.cells #[.int .u64 (Mu.sums t l).b, .int .i64 (hiW (Mu.sums t l).a), .int .u64 (loW (Mu.sums t l).a), .int .u64 (Mu.sums t l).w, .int .i64 (Mu.sums t l).n] 36)) w4.heap.size (Mu.sums t l).cells) := hid ⟨(HFF.out.below hb).below ha, Cs.alloc_new6 w4 _ (Mu.sums t l).cells⟩
      clear hb ha HFF
      go_wp2_with fail
      generalize w4.alloc (.cells #[.int .u64 (Mu.sums t l).b, .int .i64 (hiW (Mu.sums t l).a), .int .u64 (loW (Mu.sums t l).a), .int .u64 (Mu.sums t l).w, .int .i64 (Mu.sums t l).n] 36) = W4 at HG4 ⊢
      generalize w4.heap.size = gm at HG4 ⊢
      refine (Vtime.add t b _).mono ?_
      rintro e9 w5 ⟨rfl, hb⟩
      have HG4b := hid (And.intro (HG4.out.1.below hb) (HG4.out.2.below hb))
      clear hb HG4
      go_wp2_with fail
      refine (Mean.of (adv t b) (adv_T t b) (some ⟨bb, off, none⟩) k c l _ (HR.out.below HG4b.out.1.2.2) HL.out (by omega)).mono ?_
      rw [E2.out]
      rintro e9 w6 ⟨rfl, hb⟩
      have ha := (Below.refl w6.heap.size w6).alloc (Nat.le_refl _) (.cells #[.int .u64 (Mu.sums (adv t b) l).b, .int .i64 (hiW (Mu.sums (adv t b) l).a), .int .u64 (loW (Mu.sums (adv t b) l).a), .int .u64 (Mu.sums (adv t b) l).w, .int .i64 (Mu.sums (adv t b) l).n] 36)
      have HG5 : Hid (Fl w ga gb f e (w6.alloc (.cells #[.int .u64 (Mu.sums (adv t b) l).b, .int .i64 (hiW (Mu.sums (adv t b) l).a), .int .u64 (loW (Mu.sums (adv t b) l).a), .int .u64 (Mu.sums (adv t b) l).w, .int .i64 (Mu.sums (adv t b) l).n] 36)) ∧ Cs (w6.alloc (.cells #[.int .u64 (Mu.sums (adv t b) l).b, .int .i64 (hiW (Mu.sums (adv t b) l).a), .int .u64 (loW (Mu.sums (adv t b) l).a), .int .u64 (Mu.sums (adv t b) l).w, .int .i64 (Mu.sums (adv t b) l).n] 36)) gm (Mu.sums t l).cells ∧ Cs (w6.alloc (.cells #[.int .u64 (Mu.sums (adv t b) l).b, .int .i64 (hiW (Mu.sums (adv t b) l).a), .int .u64 (loW (Mu.sums (adv t b) l).a), .int .u64 (Mu.sums (adv t b) l).w, .int .i64 (Mu.sums (adv t b) l).n] 36)) w6.heap.size (Mu.sums (adv t b) l).cells) := hid ⟨(HG4b.out.1.below hb).below ha, (HG4b.out.2.below hb).below ha, Cs.alloc_new6 w6 _ (Mu.sums (adv t b) l).cells⟩
      clear hb ha HG4b
      go_wp2_with fail
      generalize w6.alloc (.cells #[.int .u64 (Mu.sums (adv t b) l).b, .int .i64 (hiW (Mu.sums (adv t b) l).a), .int .u64 (loW (Mu.sums (adv t b) l).a), .int .u64 (Mu.sums (adv t b) l).w, .int .i64 (Mu.sums (adv t b) l).n] 36) = W6 at HG5 ⊢
      generalize w6.heap.size = gn at HG5 ⊢
      refine wp_region_grow (S := fun wx => Fl w ga gb f e wx ∧ (Cs wx gm (Mu.sums t l).cells ∧ Cs wx gn (Mu.sums (adv t b) l).cells)) 11 (by kernel_rfl) (((fun _ _ h hb => ⟨h.1.below hb, h.2.1.below hb, h.2.2.below hb⟩) : Stays (fun wx => Fl w ga gb f e wx ∧ (Cs wx gm (Mu.sums t l).cells ∧ Cs wx gn (Mu.sums (adv t b) l).cells))) _ _ HG5.out (Below.refl _ _).drew) ?_
      refine wpAnyE_take (i := 0) (v := ?_) (((fun _ _ h hb => ⟨h.1.below hb, h.2.1.below hb, h.2.2.below hb⟩) : Stays (fun wx => Fl w ga gb f e wx ∧ (Cs wx gm (Mu.sums t l).cells ∧ Cs wx gn (Mu.sums (adv t b) l).cells)))) (fun _ h => h) rfl (by kernel_rfl) (by kernel_rfl) (by kernel_rfl) (by kernel_rfl) (fun _ _ _ h => h) (SteadyB.of_yields (Or.inl ⟨by rfl, ?_⟩)) ?_
      rotate_left
      · intro wq hSw
        obtain ⟨m0, m1, m2, m3, m4⟩ := Mu.at _ hSw.2.1
        go_simp
        (try with_reducible rfl)
      try simp only [List.getElem_toArray, List.getElem_cons_zero, List.getElem_cons_succ, Act.put, List.setIfInBounds_toArray, List.set_cons_zero, List.set_cons_succ]
      refine wpAnyE_take (i := 1) (v := ?_) (((fun _ _ h hb => ⟨h.1.below hb, h.2.1.below hb, h.2.2.below hb⟩) : Stays (fun wx => Fl w ga gb f e wx ∧ (Cs wx gm (Mu.sums t l).cells ∧ Cs wx gn (Mu.sums (adv t b) l).cells)))) (fun _ h => h) rfl (by kernel_rfl) (by kernel_rfl) (by kernel_rfl) (by kernel_rfl) (fun _ _ _ h => h) (SteadyB.of_yields (Or.inl ⟨by rfl, ?_⟩)) ?_
      rotate_left
      · intro wq hSw
        go_simp
        (try with_reducible rfl)
      try simp only [List.getElem_toArray, List.getElem_cons_zero, List.getElem_cons_succ, Act.put, List.setIfInBounds_toArray, List.set_cons_zero, List.set_cons_succ]
      refine wpAnyE_take (i := 2) (v := ?_) (((fun _ _ h hb => ⟨h.1.below hb, h.2.1.below hb, h.2.2.below hb⟩) : Stays (fun wx => Fl w ga gb f e wx ∧ (Cs wx gm (Mu.sums t l).cells ∧ Cs wx gn (Mu.sums (adv t b) l).cells)))) (fun _ h => h) rfl (by kernel_rfl) (by kernel_rfl) (by kernel_rfl) (by kernel_rfl) (fun _ _ _ h => h) (SteadyB.of_yields (Or.inl ⟨by rfl, ?_⟩)) ?_
      rotate_left
      · intro wq hSw
        go_simp
        (try with_reducible rfl)
      try simp only [List.getElem_toArray, List.getElem_cons_zero, List.getElem_cons_succ, Act.put, List.setIfInBounds_toArray, List.set_cons_zero, List.set_cons_succ]
      refine wpAnyE_take (i := 3) (v := .int .u64 (adv t b)) (((fun _ _ h hb => ⟨h.1.below hb, h.2.1.below hb, h.2.2.below hb⟩) : Stays (fun wx => Fl w ga gb f e wx ∧ (Cs wx gm (Mu.sums t l).cells ∧ Cs wx gn (Mu.sums (adv t b) l).cells)))) (fun _ h => h) rfl (by kernel_rfl) (by kernel_rfl) (by kernel_rfl) (by kernel_rfl) (fun _ _ _ h => h) (Or.inl ⟨by rfl, fun wq hSw => ?_⟩) ?_
      · refine RunB.of_calls (Vtime.add t b wq) (by go_simp) ?_
        rintro e wr ⟨rfl, hb⟩
        exact ⟨rfl, hb⟩
      try simp only [List.getElem_toArray, List.getElem_cons_zero, List.getElem_cons_succ, Act.put, List.setIfInBounds_toArray, List.set_cons_zero, List.set_cons_succ]
      refine wpAnyE_take (i := 4) (v := (.tuple #[Mu.val (Mu.sums (adv t b) l), .bool true])) (((fun _ _ h hb => ⟨h.1.below hb, h.2.1.below hb, h.2.2.below hb⟩) : Stays (fun wx => Fl w ga gb f e wx ∧ (Cs wx gm (Mu.sums t l).cells ∧ Cs wx gn (Mu.sums (adv t b) l).cells)))) (fun _ h => h) rfl (by kernel_rfl) (by kernel_rfl) (by kernel_rfl) (by kernel_rfl) (fun _ _ _ h => h) (Or.inl ⟨by rfl, fun wq hSw => ?_⟩) ?_
      · refine RunB.of_calls (HRB.out wq) (by go_simp) ?_
        rintro e wr ⟨rfl, hb⟩
        exact ⟨rfl, hb⟩
      try simp only [List.getElem_toArray, List.getElem_cons_zero, List.getElem_cons_succ, Act.put, List.setIfInBounds_toArray, List.set_cons_zero, List.set_cons_succ]
      refine wpAnyE_take (i := 5) (v := ?_) (((fun _ _ h hb => ⟨h.1.below hb, h.2.1.below hb, h.2.2.below hb⟩) : Stays (fun wx => Fl w ga gb f e wx ∧ (Cs wx gm (Mu.sums t l).cells ∧ Cs wx gn (Mu.sums (adv t b) l).cells)))) (fun _ h => h) rfl (by kernel_rfl) (by kernel_rfl) (by kernel_rfl) (by kernel_rfl) (fun _ _ _ h => h) (SteadyB.of_yields (Or.inl ⟨by rfl, ?_⟩)) ?_
      rotate_left
      · intro wq hSw
        go_simp
        (try with_reducible rfl)
      try simp only [List.getElem_toArray, List.getElem_cons_zero, List.getElem_cons_succ, Act.put, List.setIfInBounds_toArray, List.set_cons_zero, List.set_cons_succ]
      refine wpAnyE_take (i := 6) (v := ?_) (((fun _ _ h hb => ⟨h.1.below hb, h.2.1.below hb, h.2.2.below hb⟩) : Stays (fun wx => Fl w ga gb f e wx ∧ (Cs wx gm (Mu.sums t l).cells ∧ Cs wx gn (Mu.sums (adv t b) l).cells)))) (fun _ h => h) rfl (by kernel_rfl) (by kernel_rfl) (by kernel_rfl) (by kernel_rfl) (fun _ _ _ h => h) (SteadyB.of_yields (Or.inl ⟨by rfl, ?_⟩)) ?_
      rotate_left
      · intro wq hSw
        go_simp
        (try with_reducible rfl)
      try simp only [List.getElem_toArray, List.getElem_cons_zero, List.getElem_cons_succ, Act.put, List.setIfInBounds_toArray, List.set_cons_zero, List.set_cons_succ]
      refine wpAnyE_take (i := 7) (v := ?_) (((fun _ _ h hb => ⟨h.1.below hb, h.2.1.below hb, h.2.2.below hb⟩) : Stays (fun wx => Fl w ga gb f e wx ∧ (Cs wx gm (Mu.sums t l).cells ∧ Cs wx gn (Mu.sums (adv t b) l).cells)))) (fun _ h => h) rfl (by kernel_rfl) (by kernel_rfl) (by kernel_rfl) (by kernel_rfl) (fun _ _ _ h => h) (SteadyB.of_yields (Or.inl ⟨by rfl, ?_⟩)) ?_
      rotate_left
      · intro wq hSw
        go_simp
        (try with_reducible rfl)
      try simp only [List.getElem_toArray, List.getElem_cons_zero, List.getElem_cons_succ, Act.put, List.setIfInBounds_toArray, List.set_cons_zero, List.set_cons_succ]
      refine wpAnyE_alloc (i := 8) (fun wx g9 => Cs wx g9 [.int .u64 0, .int .i64 0, .int .u64 0, .int .u64 0, .int .i64 0] ∧ ((ga < g9 ∧ gb < g9) ∧ gm < g9 ∧ gn < g9)) rfl (by kernel_rfl) (by decide) (by rfl) (((fun _ _ h hb => ⟨h.1.below hb, h.2.1.below hb, h.2.2.below hb⟩) : Stays (fun wx => Fl w ga gb f e wx ∧ (Cs wx gm (Mu.sums t l).cells ∧ Cs wx gn (Mu.sums (adv t b) l).cells)))) (fun _ h => h) (fun g9 => (fun _ _ h hb => ⟨h.1.below hb, h.2⟩)) (fun wq hSw => ?_) (fun gA => ?_)
      · exact ⟨_, by go_simp; (try with_reducible rfl), (Below.refl _ _).alloc (Nat.le_refl _) _, Cs.alloc_new6 _ _ [.int .u64 0, .int .i64 0, .int .u64 0, .int .u64 0, .int .i64 0], ⟨hSw.1.1.lt, hSw.1.2.1.lt⟩, hSw.2.1.lt, hSw.2.2.lt⟩
      try simp only [List.getElem_toArray, List.getElem_cons_zero, List.getElem_cons_succ, Act.put, List.setIfInBounds_toArray, List.set_cons_zero, List.set_cons_succ]
      refine wpAnyE_store (i := 9) (fun wx => (fun wx => Fl w ga gb f e wx ∧ (Cs wx gm (Mu.sums t l).cells ∧ Cs wx gn (Mu.sums (adv t b) l).cells)) wx ∧ Cs wx gA [.int .u64 (Mu.sums (adv t b) l).b, .int .i64 (hiW (Mu.sums (adv t b) l).a), .int .u64 (loW (Mu.sums (adv t b) l).a), .int .u64 (Mu.sums (adv t b) l).w, .int .i64 (Mu.sums (adv t b) l).n]) 36 [.int .u64 (Mu.sums (adv t b) l).b, .int .i64 (hiW (Mu.sums (adv t b) l).a), .int .u64 (loW (Mu.sums (adv t b) l).a), .int .u64 (Mu.sums (adv t b) l).w, .int .i64 (Mu.sums (adv t b) l).n] [.int .u64 0, .int .i64 0, .int .u64 0, .int .u64 0, .int .i64 0] gA infoMean (.tmp 17) (.tmp 100) rfl rfl (by kernel_rfl) (by decide) (by rfl) ?st9_3a ?st9_3b ?st9_3c ?st9_3d ?st9_3e (fun _ h => h.2.1) (fun _ h => ⟨⟨⟨h.1.1.1.fars (by have := h.2.2; omega) _ _, h.1.1.2.1.fars (by have := h.2.2; omega) _ _, below_sets (by have := h.2.2; have := HGE.out; omega) _ _ h.1.1.2.2⟩, h.1.2.1.fars (by have := h.2.2; omega) _ _, h.1.2.2.fars (by have := h.2.2; omega) _ _⟩, Cs.putL _ 0 h.2.1 (by simp)⟩) (fun _ h => h.1) (Stays.and_ ((fun _ _ h hb => ⟨h.1.below hb, h.2.1.below hb, h.2.2.below hb⟩) : Stays (fun wx => Fl w ga gb f e wx ∧ (Cs wx gm (Mu.sums t l).cells ∧ Cs wx gn (Mu.sums (adv t b) l).cells))) (fun _ _ h hb => h.below hb)) ?st9_3f
      case st9_3a => rfl
      case st9_3b => rfl
      case st9_3c => rfl
      case st9_3d => rfl
      case st9_3e => rfl
      try simp only [List.getElem_toArray, List.getElem_cons_zero, List.getElem_cons_succ, Act.put, List.setIfInBounds_toArray, List.set_cons_zero, List.set_cons_succ]
      refine wpAnyE_take (i := 10) (v := ?_) (Stays.and_ ((fun _ _ h hb => ⟨h.1.below hb, h.2.1.below hb, h.2.2.below hb⟩) : Stays (fun wx => Fl w ga gb f e wx ∧ (Cs wx gm (Mu.sums t l).cells ∧ Cs wx gn (Mu.sums (adv t b) l).cells))) (fun _ _ h hb => h.below hb)) (fun _ h => h.1) rfl (by kernel_rfl) (by kernel_rfl) (by kernel_rfl) (by kernel_rfl) (fun _ _ _ h => h) (SteadyB.of_yields (Or.inl ⟨by rfl, ?_⟩)) ?_
      rotate_left
      · intro wq hSw
        go_simp
        (try with_reducible rfl)
      try simp only [List.getElem_toArray, List.getElem_cons_zero, List.getElem_cons_succ, Act.put, List.setIfInBounds_toArray, List.set_cons_zero, List.set_cons_succ]
      refine wpAnyE_done (by kernel_rfl) (fun wz hSz => ?_) _
      have HG6 := hid hSz
      clear hSz HG5 HRB
      obtain ⟨m0, m1, m2, m3, m4⟩ := Mu.at _ HG6.out.1.2.1
      go_wp2_with fail
      refine (Mean.floor (Mu.sums t l) HI1.out _).mono ?_
      rw [F1.out]
      rintro e9 w7 ⟨rfl, hb⟩
      have HG7 := hid (And.intro (And.intro (HG6.out.1.1.below hb) (HG6.out.1.2.2.below hb)) (HG6.out.2.below hb))
      clear hb HG6 m0 m1 m2 m3 m4
      obtain ⟨m0, m1, m2, m3, m4⟩ := Mu.at _ HG7.out.1.2
      go_wp2_with fail
      refine (Mean.floor (Mu.sums (adv t b) l) HI2.out _).mono ?_
      rw [F2.out]
      rintro e9 w8 ⟨rfl, hb⟩
      have HG8 := hid (And.intro (And.intro (HG7.out.1.1.below hb) (HG7.out.1.2.below hb)) (HG7.out.2.below hb))
      clear hb HG7 m0 m1 m2 m3 m4
      obtain ⟨m0, m1, m2, m3, m4⟩ := Mu.at _ HG8.out.1.2
      obtain ⟨k0, k3, k4, k5, k6⟩ := HG8.out.2.five
      obtain ⟨r0, r1, r2⟩ := P3.at f HG8.out.1.1.1
      go_wp2_with fail
      refine (Vtime.before X f.1 _).mono ?_
      rintro e9 w9 ⟨rfl, hb⟩
      have HG9 := hid (HG8.out.1.1.below hb)
      clear hb HG8 m0 m1 m2 m3 m4 k0 k3 k4 k5 k6 r0 r1 r2
      obtain ⟨r0, r1, r2⟩ := P3.at e HG9.out.2.1
      go_wp2_with fail
      refine (Vtime.before e.1 X _).mono ?_
      rintro e9 w10 ⟨rfl, hb⟩
      have HB10 := hid (HG9.out.below hb).2.2
      clear hb HG9 r0 r1 r2
      go_wp2_with fail
      go_ret
      exact ⟨by have g := HBE.out; simp; omega, HB10.out⟩
theorem Mbetw.law (t : Int) (A : Option Addr) (n c : Nat) (l : List P3) (b : Int) (w : World) (w0 : (Lit.int .u64 t).wf = true) (h : RdP w A n l ∧ InP l ∧ n ≤ 9223372036854775807) (_w2 : (Lit.int .i64 b).wf = true) (htab : Tab10 w.heap.size w) :
    Calls Tryz.prog 4 #[.int .u64 t, .slice A n c, .int .i64 b] w fun e w' => e = .returned (.bool true) ∧ Below w.heap.size w w' := by
  by_cases hn : 32 < n
  · exact Mbetw.away1 t b A n c w hn htab
  · by_cases h0 : n = 0
    · exact Mbetw.away2 t b A n c w h0 htab
    · by_cases h1 : b ≤ -1152921504606846976
      · exact Mbetw.away3 t b A n c w (by omega) (by omega) h1 htab
      · by_cases h2 : 1152921504606846976 ≤ b
        · exact Mbetw.away4 t b A n c w (by omega) (by omega) h1 h2 htab
        · exact Mbetw.core t b (bounds_u64 w0) A n c l w h.1 (fun q hq => h.2.1 q hq) (by omega) (by omega) (by omega) (by omega) htab

end Go.Proofs.YtoioeginfhkjjaaGreatDoor

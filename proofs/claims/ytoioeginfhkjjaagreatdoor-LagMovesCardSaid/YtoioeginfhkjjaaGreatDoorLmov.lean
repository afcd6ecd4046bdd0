/- LagMoves: the walk. -/
import Derived.Test.YtoioeginfhkjjaaGreatDoorMuT
import Derived.Test.YtoioeginfhkjjaaGreatDoorLagMovesZ50
namespace Go.Proofs.YtoioeginfhkjjaaGreatDoor
open Go.RowKit

set_option maxRecDepth 100000 in
set_option maxHeartbeats 1000000 in
theorem Lmov.away1 (t : Int) (A : Option Addr) (n c : Nat) (i g : Int) (w : World) (hn : 32 < n) (htab : Tab10 w.heap.size w) :
    Calls Tryz.prog 11 #[.int .u64 t, .slice A n c, .int .u8 i, .int .u64 g] w (Ans (.bool true) w) := by
  have HT := hid htab
  have h2 : (32 : Int) < (n : Int) := by omega
  clear hn
  clear htab
  go_enter Tryz.func11, Tryz.ntmps11
  go_wp2_with fail
  refine (Law9.awake _ HT.out).mono ?_
  rintro e w1 ⟨rfl, hb1⟩
  go_wp2_with fail
  go_ret
  exact ⟨rfl, hb1⟩

set_option maxRecDepth 100000 in
set_option maxHeartbeats 1000000 in
theorem Lmov.away2 (t : Int) (A : Option Addr) (n c : Nat) (i g : Int) (w : World) (hn : n = 0) (htab : Tab10 w.heap.size w) :
    Calls Tryz.prog 11 #[.int .u64 t, .slice A n c, .int .u8 i, .int .u64 g] w (Ans (.bool true) w) := by
  have HT := hid htab
  subst hn
  clear htab
  go_enter Tryz.func11, Tryz.ntmps11
  go_wp2_with fail
  refine (Law9.awake _ HT.out).mono ?_
  rintro e w1 ⟨rfl, hb1⟩
  go_wp2_with fail
  go_ret
  exact ⟨rfl, hb1⟩

set_option maxRecDepth 100000 in
set_option maxHeartbeats 1000000 in
theorem Lmov.away3 (t : Int) (A : Option Addr) (n c : Nat) (i g : Int) (w : World) (hn : n ≤ 32) (h0 : 0 < n) (hg : 288230376151711744 < g) (htab : Tab10 w.heap.size w) :
    Calls Tryz.prog 11 #[.int .u64 t, .slice A n c, .int .u8 i, .int .u64 g] w (Ans (.bool true) w) := by
  have HT := hid htab
  have h2 : ¬ (32 : Int) < (n : Int) := by omega
  have h3 : ((n : Int) == 0) = false := by rw [beq_eq_false_iff_ne]; omega
  clear hn h0
  clear htab
  go_enter Tryz.func11, Tryz.ntmps11
  go_wp2_with fail
  refine (Law9.awake _ HT.out).mono ?_
  rintro e w1 ⟨rfl, hb1⟩
  go_wp2_with fail
  go_ret
  exact ⟨rfl, hb1⟩

set_option maxRecDepth 100000 in
set_option maxHeartbeats 32000000 in
theorem Lmov.core (t g : Int) (iN : Nat) (ht : IsT t) (g0 : 0 ≤ g) (g1 : g ≤ 288230376151711744) (hi : iN ≤ 255) (A : Option Addr) (n c : Nat) (l : List P3) (w : World) (hr : RdP w A n l) (hl : ∀ q ∈ l, PIn q) (hn : n ≤ 32) (h0 : 0 < n) (htab : Tab10 w.heap.size w) :
    Calls Tryz.prog 11 #[.int .u64 t, .slice A n c, .int .u8 (iN : Int), .int .u64 g] w (Ans (.bool true) w) := by
  have HT := hid htab
  have HR := hid hr
  have HL := hid hl
  have HGG := hid (And.intro g0 g1)
  have HIN := hid hi
  have HTT := hid ht
  have HLN := hid hr.1
  have H0 := hid h0
  have h2 : ¬ (32 : Int) < (n : Int) := by omega
  have h3 : ((n : Int) == 0) = false := by rw [beq_eq_false_iff_ne]; omega
  have h4 : ¬ 288230376151711744 < g := by omega
  clear hr hl htab g0 g1 ht hi h0
  go_enter Tryz.func11, Tryz.ntmps11
  go_wp2_with fail
  refine (Law9.awake _ HT.out).mono ?_
  rintro e w1 ⟨rfl, hb⟩
  have HB1 := hid hb
  clear hb HT
  go_wp2_with fail
  go_loopg [48] n (fun s i wr => ∃ k : Nat, i = .int .i64 k ∧ k ≤ n ∧ s = n - k ∧ (∀ p ∈ l.take k, NrP 576460752303423488 t p) ∧ Below w.heap.size w wr)
  case atStart => exact ⟨0, rfl, Nat.zero_le _, by omega, (by simp), HB1.out⟩
  case round =>
    obtain ⟨k, rfl, hk, hs, hnr, hb⟩ := hrel
    have HS := hid hs
    have HNR := hid hnr
    have HB := hid hb
    clear hs hnr hb
    by_cases hkn : k < n
    · obtain ⟨bb, off, hA, _, hc⟩ := (HR.out.below HB.out).2 0 (by omega)
      obtain ⟨p0, p1, p2⟩ := hc k hkn
      have hkl : k < l.length := by have := HLN.out; omega
      have HX := hid (HL.out _ (getD_mem hkl))
      have HNK := hid (fun hx => mem_take1 (C := fun p => NrP 576460752303423488 t p) hkl HNR.out hx)
      generalize l.getD k (0, 0, 0) = x at *
      subst hA
      have hki : (k : Int) < n := by omega
      clear hc hkl
      have HBa := hid (below_on HB.out ((Below.refl wr.heap.size wr).alloc (Nat.le_refl _) (.cells #[.int .u64 x.1, .int .u32 x.2.1, .int .u32 x.2.2] 29)))
      have HXc := hid (Cs.alloc_new6 wr 29 (pcells x))
      go_wp2_with fail
      refine (Vtime.since x.1 t _).mono ?_
      rintro e w2 ⟨rfl, hb⟩
      have HB2 := hid (below_on HBa.out hb)
      have HXd := hid ((show Cs (wr.alloc (.cells #[.int .u64 x.1, .int .u32 x.2.1, .int .u32 x.2.2] 29)) wr.heap.size (pcells x) from HXc.out).below hb)
      obtain ⟨q0, q1, q2⟩ := P3.at x HXd.out
      clear hb HBa HXc p0 p1 p2
      go_wp2_with fail
      refine (Pos.rightF x _).mono ?_
      rintro e w3 ⟨rfl, hb⟩
      have HB3 := hid (below_on HB2.out hb)
      clear hb HB2 HXd q0 q1 q2
      cases hpr : pR x with
      | false =>
        go_wp2_with fail
        go_ret
        exact ⟨rfl, HB3.out⟩
      | true =>
        have HPR := hid hpr
        clear hpr
        by_cases g1 : dif x.1 t ≤ -576460752303423488
        · go_wp2_with fail
          go_ret
          exact ⟨rfl, HB3.out⟩
        · by_cases g2 : 576460752303423488 ≤ dif x.1 t
          · go_wp2_with fail
            go_ret
            exact ⟨rfl, HB3.out⟩
          · have HN := hid (HNK.out ⟨⟨HPR.out, HX.out⟩, by omega, by omega⟩)
            go_wp2_with fail
            go_roundg (n - (k + 1))
            case measure => have := HS.out; omega
            case rel => exact ⟨k + 1, by go_num, by omega, rfl, HN.out, HB3.out⟩
    · obtain rfl : k = n := by omega
      have hki : ¬ (k : Int) < k := by omega
      have HNL : Hid (∀ p ∈ l, NrP 576460752303423488 t p) := hid (by have := HNR.out; rwa [List.take_of_length_le (by have := HLN.out; omega)] at this)
      clear HNR HS
      have HOK : Hid (∀ p ∈ l, pR p = true ∧ PIn p) := hid (fun p hp => (HNL.out p hp).1)
      have E1 := hid (of_yes t HOK.out (by have := HLN.out; omega))
      have HI1 := hid (sums_in HTT.out HOK.out (by have := HLN.out; omega))
      obtain ⟨K, hKe⟩ : ∃ K, K = iN % k := ⟨_, rfl⟩
      have hK : K < k := by rw [hKe]; exact Nat.mod_lt _ (by have := H0.out; omega)
      have HK := hid hK
      have hKl : K < l.length := by have := HLN.out; omega
      have HMV := hid (moved (HNL.out _ (getD_mem hKl)) HGG.out.1 HGG.out.2)
      have HLM := hid (lag_moves (k := K) HNL.out hKl (by have := HLN.out; omega) HGG.out.1 HGG.out.2)
      have HTKE := hid (sums_take t HOK.out hKl (by have := HLN.out; omega))
      have HPB := hid (put_back t HOK.out ⟨HMV.out.2.1, HMV.out.2.2.1⟩ HMV.out.2.2.2.1 HMV.out.2.2.2.2 hKl (by have := HLN.out; omega))
      have HY := hid (HOK.out _ (getD_mem hKl))
      have HRI0 := hid (sums_in HTT.out (l := l.take K ++ l.drop (K + 1)) (fun q hq => HOK.out q (mem_split hq)) (by rw [len_split hKl]; have := HLN.out; omega))
      obtain ⟨y, hy⟩ : ∃ y, l.getD K (0, 0, 0) = y := ⟨_, rfl⟩
      rw [hy] at HMV HLM HTKE HPB HY
      have HYE := hid hy
      have HI2 : Hid ((Mu.served t l g).In) := hid (by
        have h1 := sums_a t HOK.out (by have := HLN.out; omega)
        have h2 := HI1.out.2.2
        have h3 := HGG.out
        exact ⟨HTT.out, by show WR (sumD t l + g); unfold WR; omega, h2⟩)
      have HTK : Hid (∀ wq, Calls Tryz.prog 23 #[(Mu.sums t l).val, pv y] wq (Ans (.tuple #[Mu.val (Mu.sums t (l.take K ++ l.drop (K + 1))), .bool true]) wq)) := hid (fun wq => by
        have h := Mean.take (Mu.sums t l) y HI1.out HY.out.2 wq
        rwa [HTKE.out] at h)
      have EM : Hid (atOk (g + y.2.1) y.2.2 = true) := hid (atOk_iff.2 HMV.out.1)
      have t1 : Int.tmod (iN : Int) (k : Int) = (K : Int) := by rw [hKe, Int.tmod_eq_emod_of_nonneg (by omega)]; rfl
      have t2 : ((k : Int) == 0) = false := by rw [beq_eq_false_iff_ne]; have := H0.out; omega
      have t3 : IntKind.i64.wrap (iN : Int) = iN := by have := HIN.out; rw [IntKind.wrap_i64]; omega
      have t4 : (K : Int) < k := by omega
      obtain ⟨bb, off, hA, _, hc⟩ := (HR.out.below HB.out).2 K hK
      obtain ⟨p0, p1, p2⟩ := hc K hK
      rw [hy] at p0 p1 p2
      subst hA
      clear hy hKe hKl hc
      go_wp2_with fail
      refine (Pos.moveF HY.out.2 HGG.out.1 (by have := HGG.out; omega) _).mono ?_
      rw [EM.out]
      rintro e w4 ⟨rfl, hb⟩
      have ha := (Below.refl w4.heap.size w4).alloc (Nat.le_refl _) (.cells #[.int .u64 (atP y.1 (g + y.2.1) y.2.2).1, .int .u32 (atP y.1 (g + y.2.1) y.2.2).2.1, .int .u32 (atP y.1 (g + y.2.1) y.2.2).2.2] 29)
      have HG2 : Hid (Cs (w4.alloc (.cells #[.int .u64 (atP y.1 (g + y.2.1) y.2.2).1, .int .u32 (atP y.1 (g + y.2.1) y.2.2).2.1, .int .u32 (atP y.1 (g + y.2.1) y.2.2).2.2] 29)) w4.heap.size (pcells (atP y.1 (g + y.2.1) y.2.2)) ∧ Below w.heap.size w (w4.alloc (.cells #[.int .u64 (atP y.1 (g + y.2.1) y.2.2).1, .int .u32 (atP y.1 (g + y.2.1) y.2.2).2.1, .int .u32 (atP y.1 (g + y.2.1) y.2.2).2.2] 29))) := hid ⟨Cs.alloc_new6 w4 29 (pcells (atP y.1 (g + y.2.1) y.2.2)), below_on (below_on HB.out hb) ha⟩
      clear hb ha HB p0 p1 p2 t1 t2 t3
      go_wp2_with fail
      generalize w4.alloc (.cells #[.int .u64 (atP y.1 (g + y.2.1) y.2.2).1, .int .u32 (atP y.1 (g + y.2.1) y.2.2).2.1, .int .u32 (atP y.1 (g + y.2.1) y.2.2).2.2] 29) = W2 at HG2 ⊢
      generalize w4.heap.size = gq at HG2 ⊢
      refine (Mean.of t HTT.out (some ⟨bb, off, none⟩) k c l _ (HR.out.below HG2.out.2) HL.out (by omega)).mono ?_
      rw [E1.out]
      rintro e w5 ⟨rfl, hb⟩
      have ha := (Below.refl w5.heap.size w5).alloc (Nat.le_refl _) (.cells #[.int .u64 (Mu.sums t l).b, .int .i64 (hiW (Mu.sums t l).a), .int .u64 (loW (Mu.sums t l).a), .int .u64 (Mu.sums t l).w, .int .i64 (Mu.sums t l).n] 36)
      have HG4 : Hid ((Cs (w5.alloc (.cells #[.int .u64 (Mu.sums t l).b, .int .i64 (hiW (Mu.sums t l).a), .int .u64 (loW (Mu.sums t l).a), .int .u64 (Mu.sums t l).w, .int .i64 (Mu.sums t l).n] 36)) w5.heap.size (Mu.sums t l).cells ∧ Cs (w5.alloc (.cells #[.int .u64 (Mu.sums t l).b, .int .i64 (hiW (Mu.sums t l).a), .int .u64 (loW (Mu.sums t l).a), .int .u64 (Mu.sums t l).w, .int .i64 (Mu.sums t l).n] 36)) gq (pcells (atP y.1 (g + y.2.1) y.2.2))) ∧ Below w.heap.size w (w5.alloc (.cells #[.int .u64 (Mu.sums t l).b, .int .i64 (hiW (Mu.sums t l).a), .int .u64 (loW (Mu.sums t l).a), .int .u64 (Mu.sums t l).w, .int .i64 (Mu.sums t l).n] 36))) := hid ⟨⟨Cs.alloc_new6 w5 36 (Mu.sums t l).cells, (HG2.out.1.below hb).below ha⟩, below_on (below_on HG2.out.2 hb) ha⟩
      clear hb ha HG2
      go_wp2_with fail
      generalize w5.alloc (.cells #[.int .u64 (Mu.sums t l).b, .int .i64 (hiW (Mu.sums t l).a), .int .u64 (loW (Mu.sums t l).a), .int .u64 (Mu.sums t l).w, .int .i64 (Mu.sums t l).n] 36) = W4 at HG4 ⊢
      generalize w5.heap.size = gm at HG4 ⊢
      refine wp_region_grow (S := fun wx => (Cs wx gm (Mu.sums t l).cells ∧ Cs wx gq (pcells (atP y.1 (g + y.2.1) y.2.2))) ∧ Below w.heap.size w wx) 12 (by kernel_rfl) (((fun _ _ h hb => ⟨⟨h.1.1.below hb, h.1.2.below hb⟩, below_on h.2 hb⟩) : Stays (fun wx => (Cs wx gm (Mu.sums t l).cells ∧ Cs wx gq (pcells (atP y.1 (g + y.2.1) y.2.2))) ∧ Below w.heap.size w wx)) _ _ HG4.out (Below.refl _ _).drew) ?_
      refine wpAnyE_take (i := 0) (v := ?_) (((fun _ _ h hb => ⟨⟨h.1.1.below hb, h.1.2.below hb⟩, below_on h.2 hb⟩) : Stays (fun wx => (Cs wx gm (Mu.sums t l).cells ∧ Cs wx gq (pcells (atP y.1 (g + y.2.1) y.2.2))) ∧ Below w.heap.size w wx))) (fun _ h => h) rfl (by kernel_rfl) (by kernel_rfl) (by kernel_rfl) (by kernel_rfl) (fun _ _ _ h => h) (SteadyB.of_yields (Or.inl ⟨by rfl, ?_⟩)) ?_
      rotate_left
      · intro wq hSw
        obtain ⟨m0, m1, m2, m3, m4⟩ := Mu.at _ hSw.1.1
        obtain ⟨b9, o9, hA9, _, hc9⟩ := (HR.out.below hSw.2).2 K HK.out
        injection hA9 with hA9
        injection hA9 with hA9 hA8
        subst hA9 hA8
        obtain ⟨p0, p1, p2⟩ := hc9 K HK.out
        rw [HYE.out] at p0 p1 p2
        clear hc9
        go_simp
        (try with_reducible rfl)
      try simp only [List.getElem_toArray, List.getElem_cons_zero, List.getElem_cons_succ, Act.put, List.setIfInBounds_toArray, List.set_cons_zero, List.set_cons_succ]
      refine wpAnyE_take (i := 1) (v := ?_) (((fun _ _ h hb => ⟨⟨h.1.1.below hb, h.1.2.below hb⟩, below_on h.2 hb⟩) : Stays (fun wx => (Cs wx gm (Mu.sums t l).cells ∧ Cs wx gq (pcells (atP y.1 (g + y.2.1) y.2.2))) ∧ Below w.heap.size w wx))) (fun _ h => h) rfl (by kernel_rfl) (by kernel_rfl) (by kernel_rfl) (by kernel_rfl) (fun _ _ _ h => h) (SteadyB.of_yields (Or.inl ⟨by rfl, ?_⟩)) ?_
      rotate_left
      · intro wq hSw
        go_simp
        (try with_reducible rfl)
      try simp only [List.getElem_toArray, List.getElem_cons_zero, List.getElem_cons_succ, Act.put, List.setIfInBounds_toArray, List.set_cons_zero, List.set_cons_succ]
      refine wpAnyE_take (i := 2) (v := ?_) (((fun _ _ h hb => ⟨⟨h.1.1.below hb, h.1.2.below hb⟩, below_on h.2 hb⟩) : Stays (fun wx => (Cs wx gm (Mu.sums t l).cells ∧ Cs wx gq (pcells (atP y.1 (g + y.2.1) y.2.2))) ∧ Below w.heap.size w wx))) (fun _ h => h) rfl (by kernel_rfl) (by kernel_rfl) (by kernel_rfl) (by kernel_rfl) (fun _ _ _ h => h) (SteadyB.of_yields (Or.inl ⟨by rfl, ?_⟩)) ?_
      rotate_left
      · intro wq hSw
        go_simp
        (try with_reducible rfl)
      try simp only [List.getElem_toArray, List.getElem_cons_zero, List.getElem_cons_succ, Act.put, List.setIfInBounds_toArray, List.set_cons_zero, List.set_cons_succ]
      refine wpAnyE_take (i := 3) (v := ?_) (((fun _ _ h hb => ⟨⟨h.1.1.below hb, h.1.2.below hb⟩, below_on h.2 hb⟩) : Stays (fun wx => (Cs wx gm (Mu.sums t l).cells ∧ Cs wx gq (pcells (atP y.1 (g + y.2.1) y.2.2))) ∧ Below w.heap.size w wx))) (fun _ h => h) rfl (by kernel_rfl) (by kernel_rfl) (by kernel_rfl) (by kernel_rfl) (fun _ _ _ h => h) (SteadyB.of_yields (Or.inl ⟨by rfl, ?_⟩)) ?_
      rotate_left
      · intro wq hSw
        go_simp
        (try with_reducible rfl)
      try simp only [List.getElem_toArray, List.getElem_cons_zero, List.getElem_cons_succ, Act.put, List.setIfInBounds_toArray, List.set_cons_zero, List.set_cons_succ]
      refine wpAnyE_take (i := 4) (v := ?_) (((fun _ _ h hb => ⟨⟨h.1.1.below hb, h.1.2.below hb⟩, below_on h.2 hb⟩) : Stays (fun wx => (Cs wx gm (Mu.sums t l).cells ∧ Cs wx gq (pcells (atP y.1 (g + y.2.1) y.2.2))) ∧ Below w.heap.size w wx))) (fun _ h => h) rfl (by kernel_rfl) (by kernel_rfl) (by kernel_rfl) (by kernel_rfl) (fun _ _ _ h => h) (SteadyB.of_yields (Or.inl ⟨by rfl, ?_⟩)) ?_
      rotate_left
      · intro wq hSw
        obtain ⟨m0, m1, m2, m3, m4⟩ := Mu.at _ hSw.1.1
        obtain ⟨b9, o9, hA9, _, hc9⟩ := (HR.out.below hSw.2).2 K HK.out
        injection hA9 with hA9
        injection hA9 with hA9 hA8
        subst hA9 hA8
        obtain ⟨p0, p1, p2⟩ := hc9 K HK.out
        rw [HYE.out] at p0 p1 p2
        clear hc9
        go_simp
        (try with_reducible rfl)
      try simp only [List.getElem_toArray, List.getElem_cons_zero, List.getElem_cons_succ, Act.put, List.setIfInBounds_toArray, List.set_cons_zero, List.set_cons_succ]
      refine wpAnyE_take (i := 5) (v := (.tuple #[Mu.val (Mu.sums t (l.take K ++ l.drop (K + 1))), .bool true])) (((fun _ _ h hb => ⟨⟨h.1.1.below hb, h.1.2.below hb⟩, below_on h.2 hb⟩) : Stays (fun wx => (Cs wx gm (Mu.sums t l).cells ∧ Cs wx gq (pcells (atP y.1 (g + y.2.1) y.2.2))) ∧ Below w.heap.size w wx))) (fun _ h => h) rfl (by kernel_rfl) (by kernel_rfl) (by kernel_rfl) (by kernel_rfl) (fun _ _ _ h => h) (Or.inl ⟨by rfl, fun wq hSw => ?_⟩) ?_
      · refine RunB.of_calls (HTK.out wq) (by go_simp) ?_
        rintro e wr ⟨rfl, hb⟩
        exact ⟨rfl, hb⟩
      try simp only [List.getElem_toArray, List.getElem_cons_zero, List.getElem_cons_succ, Act.put, List.setIfInBounds_toArray, List.set_cons_zero, List.set_cons_succ]
      refine wpAnyE_take (i := 6) (v := ?_) (((fun _ _ h hb => ⟨⟨h.1.1.below hb, h.1.2.below hb⟩, below_on h.2 hb⟩) : Stays (fun wx => (Cs wx gm (Mu.sums t l).cells ∧ Cs wx gq (pcells (atP y.1 (g + y.2.1) y.2.2))) ∧ Below w.heap.size w wx))) (fun _ h => h) rfl (by kernel_rfl) (by kernel_rfl) (by kernel_rfl) (by kernel_rfl) (fun _ _ _ h => h) (SteadyB.of_yields (Or.inl ⟨by rfl, ?_⟩)) ?_
      rotate_left
      · intro wq hSw
        go_simp
        (try with_reducible rfl)
      try simp only [List.getElem_toArray, List.getElem_cons_zero, List.getElem_cons_succ, Act.put, List.setIfInBounds_toArray, List.set_cons_zero, List.set_cons_succ]
      refine wpAnyE_take (i := 7) (v := ?_) (((fun _ _ h hb => ⟨⟨h.1.1.below hb, h.1.2.below hb⟩, below_on h.2 hb⟩) : Stays (fun wx => (Cs wx gm (Mu.sums t l).cells ∧ Cs wx gq (pcells (atP y.1 (g + y.2.1) y.2.2))) ∧ Below w.heap.size w wx))) (fun _ h => h) rfl (by kernel_rfl) (by kernel_rfl) (by kernel_rfl) (by kernel_rfl) (fun _ _ _ h => h) (SteadyB.of_yields (Or.inl ⟨by rfl, ?_⟩)) ?_
      rotate_left
      · intro wq hSw
        go_simp
        (try with_reducible rfl)
      try simp only [List.getElem_toArray, List.getElem_cons_zero, List.getElem_cons_succ, Act.put, List.setIfInBounds_toArray, List.set_cons_zero, List.set_cons_succ]
      refine wpAnyE_take (i := 8) (v := ?_) (((fun _ _ h hb => ⟨⟨h.1.1.below hb, h.1.2.below hb⟩, below_on h.2 hb⟩) : Stays (fun wx => (Cs wx gm (Mu.sums t l).cells ∧ Cs wx gq (pcells (atP y.1 (g + y.2.1) y.2.2))) ∧ Below w.heap.size w wx))) (fun _ h => h) rfl (by kernel_rfl) (by kernel_rfl) (by kernel_rfl) (by kernel_rfl) (fun _ _ _ h => h) (SteadyB.of_yields (Or.inl ⟨by rfl, ?_⟩)) ?_
      rotate_left
      · intro wq hSw
        go_simp
        (try with_reducible rfl)
      try simp only [List.getElem_toArray, List.getElem_cons_zero, List.getElem_cons_succ, Act.put, List.setIfInBounds_toArray, List.set_cons_zero, List.set_cons_succ]
      refine wpAnyE_alloc (i := 9) (fun wx g9 => Cs wx g9 [.int .u64 0, .int .i64 0, .int .u64 0, .int .u64 0, .int .i64 0] ∧ gm < g9 ∧ gq < g9 ∧ w.heap.size ≤ g9) rfl (by kernel_rfl) (by decide) (by rfl) (((fun _ _ h hb => ⟨⟨h.1.1.below hb, h.1.2.below hb⟩, below_on h.2 hb⟩) : Stays (fun wx => (Cs wx gm (Mu.sums t l).cells ∧ Cs wx gq (pcells (atP y.1 (g + y.2.1) y.2.2))) ∧ Below w.heap.size w wx))) (fun _ h => h) (fun g9 => (fun _ _ h hb => ⟨h.1.below hb, h.2⟩)) (fun wq hSw => ?_) (fun gA => ?_)
      · exact ⟨_, by go_simp; (try with_reducible rfl), (Below.refl _ _).alloc (Nat.le_refl _) _, Cs.alloc_new6 _ _ [.int .u64 0, .int .i64 0, .int .u64 0, .int .u64 0, .int .i64 0], hSw.1.1.lt, hSw.1.2.lt, hSw.2.size⟩
      try simp only [List.getElem_toArray, List.getElem_cons_zero, List.getElem_cons_succ, Act.put, List.setIfInBounds_toArray, List.set_cons_zero, List.set_cons_succ]
      refine wpAnyE_store (i := 10) (fun wx => (fun wx => (Cs wx gm (Mu.sums t l).cells ∧ Cs wx gq (pcells (atP y.1 (g + y.2.1) y.2.2))) ∧ Below w.heap.size w wx) wx ∧ Cs wx gA [.int .u64 (Mu.sums t (l.take K ++ l.drop (K + 1))).b, .int .i64 (hiW (Mu.sums t (l.take K ++ l.drop (K + 1))).a), .int .u64 (loW (Mu.sums t (l.take K ++ l.drop (K + 1))).a), .int .u64 (Mu.sums t (l.take K ++ l.drop (K + 1))).w, .int .i64 (Mu.sums t (l.take K ++ l.drop (K + 1))).n]) 36 [.int .u64 (Mu.sums t (l.take K ++ l.drop (K + 1))).b, .int .i64 (hiW (Mu.sums t (l.take K ++ l.drop (K + 1))).a), .int .u64 (loW (Mu.sums t (l.take K ++ l.drop (K + 1))).a), .int .u64 (Mu.sums t (l.take K ++ l.drop (K + 1))).w, .int .i64 (Mu.sums t (l.take K ++ l.drop (K + 1))).n] [.int .u64 0, .int .i64 0, .int .u64 0, .int .u64 0, .int .i64 0] gA infoMean (.tmp 17) (.tmp 95) rfl rfl (by kernel_rfl) (by decide) (by rfl) ?st10_1a ?st10_1b ?st10_1c ?st10_1d ?st10_1e (fun _ h => h.2.1) (fun _ h => ⟨⟨⟨h.1.1.1.fars (by have := h.2.2; omega) _ _, h.1.1.2.fars (by have := h.2.2; omega) _ _⟩, below_sets (by have := h.2.2; omega) _ _ h.1.2⟩, Cs.putL _ 0 h.2.1 (by simp)⟩) (fun _ h => h.1) (Stays.and_ ((fun _ _ h hb => ⟨⟨h.1.1.below hb, h.1.2.below hb⟩, below_on h.2 hb⟩) : Stays (fun wx => (Cs wx gm (Mu.sums t l).cells ∧ Cs wx gq (pcells (atP y.1 (g + y.2.1) y.2.2))) ∧ Below w.heap.size w wx)) (fun _ _ h hb => h.below hb)) ?st10_1f
      case st10_1a => rfl
      case st10_1b => rfl
      case st10_1c => rfl
      case st10_1d => rfl
      case st10_1e => rfl
      try simp only [List.getElem_toArray, List.getElem_cons_zero, List.getElem_cons_succ, Act.put, List.setIfInBounds_toArray, List.set_cons_zero, List.set_cons_succ]
      refine wpAnyE_take (i := 11) (v := ?_) (Stays.and_ ((fun _ _ h hb => ⟨⟨h.1.1.below hb, h.1.2.below hb⟩, below_on h.2 hb⟩) : Stays (fun wx => (Cs wx gm (Mu.sums t l).cells ∧ Cs wx gq (pcells (atP y.1 (g + y.2.1) y.2.2))) ∧ Below w.heap.size w wx)) (fun _ _ h hb => h.below hb)) (fun _ h => h.1) rfl (by kernel_rfl) (by kernel_rfl) (by kernel_rfl) (by kernel_rfl) (fun _ _ _ h => h) (SteadyB.of_yields (Or.inl ⟨by rfl, ?_⟩)) ?_
      rotate_left
      · intro wq hSw
        go_simp
        (try with_reducible rfl)
      try simp only [List.getElem_toArray, List.getElem_cons_zero, List.getElem_cons_succ, Act.put, List.setIfInBounds_toArray, List.set_cons_zero, List.set_cons_succ]
      refine wpAnyE_done (by kernel_rfl) (fun wz hSz => ?_) _
      have HG5 := hid hSz
      clear hSz HG4 HTK t4
      obtain ⟨m0, m1, m2, m3, m4⟩ := HG5.out.2.five
      obtain ⟨q0, q1, q2⟩ := P3.at _ HG5.out.1.1.2
      go_wp2_with fail
      refine (Mean.add (Mu.sums t (l.take K ++ l.drop (K + 1))) (atP y.1 (g + y.2.1) y.2.2) HRI0.out HMV.out.2.2.1 _).mono ?_
      rw [HPB.out]
      rintro e w6 ⟨rfl, hb⟩
      have ha := (Below.refl w6.heap.size w6).alloc (Nat.le_refl _) (.cells #[.int .u64 (Mu.served t l g).b, .int .i64 (hiW (Mu.served t l g).a), .int .u64 (loW (Mu.served t l g).a), .int .u64 (Mu.served t l g).w, .int .i64 (Mu.served t l g).n] 36)
      have HG6 : Hid (((Cs (w6.alloc (.cells #[.int .u64 (Mu.served t l g).b, .int .i64 (hiW (Mu.served t l g).a), .int .u64 (loW (Mu.served t l g).a), .int .u64 (Mu.served t l g).w, .int .i64 (Mu.served t l g).n] 36)) gm (Mu.sums t l).cells ∧ Cs (w6.alloc (.cells #[.int .u64 (Mu.served t l g).b, .int .i64 (hiW (Mu.served t l g).a), .int .u64 (loW (Mu.served t l g).a), .int .u64 (Mu.served t l g).w, .int .i64 (Mu.served t l g).n] 36)) w6.heap.size (Mu.served t l g).cells) ∧ Cs (w6.alloc (.cells #[.int .u64 (Mu.served t l g).b, .int .i64 (hiW (Mu.served t l g).a), .int .u64 (loW (Mu.served t l g).a), .int .u64 (Mu.served t l g).w, .int .i64 (Mu.served t l g).n] 36)) gq (pcells (atP y.1 (g + y.2.1) y.2.2))) ∧ Below w.heap.size w (w6.alloc (.cells #[.int .u64 (Mu.served t l g).b, .int .i64 (hiW (Mu.served t l g).a), .int .u64 (loW (Mu.served t l g).a), .int .u64 (Mu.served t l g).w, .int .i64 (Mu.served t l g).n] 36))) := hid ⟨⟨⟨(HG5.out.1.1.1.below hb).below ha, Cs.alloc_new6 w6 36 (Mu.served t l g).cells⟩, (HG5.out.1.1.2.below hb).below ha⟩, below_on (below_on HG5.out.1.2 hb) ha⟩
      clear hb ha HG5 m0 m1 m2 m3 m4 q0 q1 q2
      go_wp2_with fail
      rw [show (w6.alloc (.cells #[.int .u64 (Mu.mk t (sumD t l + g) (sumW l) l.length).b, .int .i64 (hiW (Mu.mk t (sumD t l + g) (sumW l) l.length).a), .int .u64 (loW (Mu.mk t (sumD t l + g) (sumW l) l.length).a), .int .u64 (Mu.mk t (sumD t l + g) (sumW l) l.length).w, .int .i64 (Mu.mk t (sumD t l + g) (sumW l) l.length).n] 36)) = w6.alloc (.cells #[.int .u64 (Mu.served t l g).b, .int .i64 (hiW (Mu.served t l g).a), .int .u64 (loW (Mu.served t l g).a), .int .u64 (Mu.served t l g).w, .int .i64 (Mu.served t l g).n] 36) from rfl]
      generalize w6.alloc (.cells #[.int .u64 (Mu.served t l g).b, .int .i64 (hiW (Mu.served t l g).a), .int .u64 (loW (Mu.served t l g).a), .int .u64 (Mu.served t l g).w, .int .i64 (Mu.served t l g).n] 36) = W6 at HG6 ⊢
      generalize w6.heap.size = gn at HG6 ⊢
      go_loopg [119] k (fun s i wr => ∃ j : Nat, i = .int .i64 j ∧ j ≤ k ∧ s = k - j ∧ ((Cs wr gm (Mu.sums t l).cells ∧ Cs wr gn (Mu.served t l g).cells) ∧ Cs wr gq (pcells (atP y.1 (g + y.2.1) y.2.2))) ∧ Below w.heap.size w wr)
      case atStart => exact ⟨0, rfl, Nat.zero_le _, by omega, HG6.out⟩
      case round =>
        obtain ⟨j, rfl, hj, hs, hg⟩ := hrel
        have HS := hid hs
        have HG := hid hg
        clear hs hg HG6
        by_cases hjn : j < k
        · obtain ⟨b9, o9, hA9, _, hc⟩ := (HR.out.below HG.out.2).2 0 (by omega)
          injection hA9 with hA9
          injection hA9 with hA9 hA8
          subst hA9 hA8
          obtain ⟨p0, p1, p2⟩ := hc j hjn
          have hjl : j < l.length := by have := HLN.out; omega
          have hji : (j : Int) < k := by omega
          have hm := getD_mem hjl
          clear hc
          by_cases hjk : j = K
          · subst hjk
            rw [HYE.out] at p0 p1 p2
            have hje : ((j : Int) == (j : Int)) = true := by simp
            obtain ⟨a, b, e1, e2, e3, e4⟩ := HLM.out.1
            have HZ : Hid (-g ≤ b - a ∧ b - a ≤ 0) := hid ⟨e3, e4⟩
            have HX := HY
            have HRI := hid HMV.out.2.2.1
            have L1 := hid e1
            have L2 := hid e2
            have HWA : Hid (WR a) := hid (by have := lag_wr (Mu.sums t l) y; rwa [e1] at this)
            have HWB : Hid (WR b) := hid (by have := lag_wr (Mu.served t l g) (atP y.1 (g + y.2.1) y.2.2); rwa [e2] at this)
            have HOK : Hid (okW (b - a) = true) := hid (by have := HGG.out; exact okW_bd (by omega) (by omega))
            have HSM : Hid (smI (b - a) = true) := hid (by have := HGG.out; unfold smI; rw [decide_eq_true_eq]; omega)
            have HWD := hid (okW_iff.1 HOK.out)
            have HCL := hid (clW_ok HOK.out)
            clear e1 e2 e3 e4 hm hjl
            have ha := ((Below.refl wr.heap.size wr).alloc (Nat.le_refl _) (.cells #[.int .u64 y.1, .int .u32 y.2.1, .int .u32 y.2.2] 29)).alloc (by simp) (.cells #[.int .u64 (atP y.1 (g + y.2.1) y.2.2).1, .int .u32 (atP y.1 (g + y.2.1) y.2.2).2.1, .int .u32 (atP y.1 (g + y.2.1) y.2.2).2.2] 29)
            have hb7 := Cs.alloc_new6 (wr.alloc (.cells #[.int .u64 y.1, .int .u32 y.2.1, .int .u32 y.2.2] 29)) 29 (pcells (atP y.1 (g + y.2.1) y.2.2))
            simp only [World.size_alloc] at hb7
            have HG6 : Hid ((((Cs ((wr.alloc (.cells #[.int .u64 y.1, .int .u32 y.2.1, .int .u32 y.2.2] 29)).alloc (.cells #[.int .u64 (atP y.1 (g + y.2.1) y.2.2).1, .int .u32 (atP y.1 (g + y.2.1) y.2.2).2.1, .int .u32 (atP y.1 (g + y.2.1) y.2.2).2.2] 29)) gm (Mu.sums t l).cells ∧ Cs ((wr.alloc (.cells #[.int .u64 y.1, .int .u32 y.2.1, .int .u32 y.2.2] 29)).alloc (.cells #[.int .u64 (atP y.1 (g + y.2.1) y.2.2).1, .int .u32 (atP y.1 (g + y.2.1) y.2.2).2.1, .int .u32 (atP y.1 (g + y.2.1) y.2.2).2.2] 29)) gn (Mu.served t l g).cells) ∧ Cs ((wr.alloc (.cells #[.int .u64 y.1, .int .u32 y.2.1, .int .u32 y.2.2] 29)).alloc (.cells #[.int .u64 (atP y.1 (g + y.2.1) y.2.2).1, .int .u32 (atP y.1 (g + y.2.1) y.2.2).2.1, .int .u32 (atP y.1 (g + y.2.1) y.2.2).2.2] 29)) gq (pcells (atP y.1 (g + y.2.1) y.2.2))) ∧ Cs ((wr.alloc (.cells #[.int .u64 y.1, .int .u32 y.2.1, .int .u32 y.2.2] 29)).alloc (.cells #[.int .u64 (atP y.1 (g + y.2.1) y.2.2).1, .int .u32 (atP y.1 (g + y.2.1) y.2.2).2.1, .int .u32 (atP y.1 (g + y.2.1) y.2.2).2.2] 29)) wr.heap.size (pcells y) ∧ Cs ((wr.alloc (.cells #[.int .u64 y.1, .int .u32 y.2.1, .int .u32 y.2.2] 29)).alloc (.cells #[.int .u64 (atP y.1 (g + y.2.1) y.2.2).1, .int .u32 (atP y.1 (g + y.2.1) y.2.2).2.1, .int .u32 (atP y.1 (g + y.2.1) y.2.2).2.2] 29)) (wr.heap.size + 1) (pcells (atP y.1 (g + y.2.1) y.2.2))) ∧ Below w.heap.size w ((wr.alloc (.cells #[.int .u64 y.1, .int .u32 y.2.1, .int .u32 y.2.2] 29)).alloc (.cells #[.int .u64 (atP y.1 (g + y.2.1) y.2.2).1, .int .u32 (atP y.1 (g + y.2.1) y.2.2).2.1, .int .u32 (atP y.1 (g + y.2.1) y.2.2).2.2] 29))) := hid ⟨⟨⟨⟨HG.out.1.1.1.below ha, HG.out.1.1.2.below ha⟩, HG.out.1.2.below ha⟩, (Cs.alloc_new6 wr 29 (pcells y)).alloc _, hb7⟩, below_on HG.out.2 ha⟩
            obtain ⟨m0, m1, m2, m3, m4⟩ := Mu.at _ HG6.out.1.1.1.1
            have hq := ((HG.out.1.2.below ((Below.refl wr.heap.size wr).alloc (Nat.le_refl _) (.cells #[.int .u64 y.1, .int .u32 y.2.1, .int .u32 y.2.2] 29))).below ((Below.refl _ _).alloc (Nat.le_refl _) (.cells #[.int .u64 y.1, .int .u32 y.2.1, .int .u32 y.2.2] 29)))
            obtain ⟨r0, r1, r2⟩ := P3.at _ hq
            clear ha hb7
            go_wp2_with fail
            clear m0 m1 m2 m3 m4 p0 p1 p2 r0 r1 r2 hq
            generalize ((wr.alloc (.cells #[.int .u64 y.1, .int .u32 y.2.1, .int .u32 y.2.2] 29)).alloc (.cells #[.int .u64 (atP y.1 (g + y.2.1) y.2.2).1, .int .u32 (atP y.1 (g + y.2.1) y.2.2).2.1, .int .u32 (atP y.1 (g + y.2.1) y.2.2).2.2] 29)) = W6 at HG6 ⊢
            generalize wr.heap.size = gp at HG6 ⊢
            refine (Lag.read (Mu.sums t l) y HI1.out HX.out.2 _).mono ?_
            rw [L1.out]
            rintro e w9 ⟨rfl, hb⟩
            have ha := (Below.refl w9.heap.size w9).alloc (Nat.le_refl _) (.cells #[.int .i64 (hiW a), .int .u64 (loW a)] 34)
            have HG7 : Hid ((((Cs (w9.alloc (.cells #[.int .i64 (hiW a), .int .u64 (loW a)] 34)) gm (Mu.sums t l).cells ∧ Cs (w9.alloc (.cells #[.int .i64 (hiW a), .int .u64 (loW a)] 34)) gn (Mu.served t l g).cells) ∧ Cs (w9.alloc (.cells #[.int .i64 (hiW a), .int .u64 (loW a)] 34)) gq (pcells (atP y.1 (g + y.2.1) y.2.2))) ∧ Cs (w9.alloc (.cells #[.int .i64 (hiW a), .int .u64 (loW a)] 34)) (gp + 1) (pcells (atP y.1 (g + y.2.1) y.2.2)) ∧ Cs (w9.alloc (.cells #[.int .i64 (hiW a), .int .u64 (loW a)] 34)) w9.heap.size [.int .i64 (hiW a), .int .u64 (loW a)]) ∧ Below w.heap.size w (w9.alloc (.cells #[.int .i64 (hiW a), .int .u64 (loW a)] 34))) := hid ⟨⟨⟨⟨(HG6.out.1.1.1.1.below hb).below ha, (HG6.out.1.1.1.2.below hb).below ha⟩, (HG6.out.1.1.2.below hb).below ha⟩, (HG6.out.1.2.2.below hb).below ha, Cs.new2 w9 _ _ _⟩, below_on (below_on HG6.out.2 hb) ha⟩
            clear hb ha HG6
            obtain ⟨m0, m1, m2, m3, m4⟩ := Mu.at _ HG7.out.1.1.1.2
            obtain ⟨q0, q1, q2⟩ := P3.at (atP y.1 (g + y.2.1) y.2.2) HG7.out.1.2.1
            go_wp2_with fail
            clear m0 m1 m2 m3 m4 q0 q1 q2
            generalize w9.alloc (.cells #[.int .i64 (hiW a), .int .u64 (loW a)] 34) = W7 at HG7 ⊢
            generalize w9.heap.size = ga at HG7 ⊢
            refine (Lag.read (Mu.served t l g) (atP y.1 (g + y.2.1) y.2.2) HI2.out HRI.out _).mono ?_
            rw [L2.out]
            rintro e w10 ⟨rfl, hb⟩
            have ha := (Below.refl w10.heap.size w10).alloc (Nat.le_refl _) (.cells #[.int .i64 (hiW b), .int .u64 (loW b)] 34)
            have HG8 : Hid ((((Cs (w10.alloc (.cells #[.int .i64 (hiW b), .int .u64 (loW b)] 34)) gm (Mu.sums t l).cells ∧ Cs (w10.alloc (.cells #[.int .i64 (hiW b), .int .u64 (loW b)] 34)) gn (Mu.served t l g).cells) ∧ Cs (w10.alloc (.cells #[.int .i64 (hiW b), .int .u64 (loW b)] 34)) gq (pcells (atP y.1 (g + y.2.1) y.2.2))) ∧ Cs (w10.alloc (.cells #[.int .i64 (hiW b), .int .u64 (loW b)] 34)) ga [.int .i64 (hiW a), .int .u64 (loW a)]) ∧ Below w.heap.size w (w10.alloc (.cells #[.int .i64 (hiW b), .int .u64 (loW b)] 34))) := hid ⟨⟨⟨⟨(HG7.out.1.1.1.1.below hb).below ha, (HG7.out.1.1.1.2.below hb).below ha⟩, (HG7.out.1.1.2.below hb).below ha⟩, (HG7.out.1.2.2.below hb).below ha⟩, below_on (below_on HG7.out.2 hb) ha⟩
            clear hb ha HG7
            obtain ⟨a0, a1⟩ := HG8.out.1.2.two
            go_wp2_with fail
            clear a0 a1
            generalize w10.alloc (.cells #[.int .i64 (hiW b), .int .u64 (loW b)] 34) = W8 at HG8 ⊢
            refine (Wide.subF HWB.out HWA.out _).mono ?_
            rw [HCL.out, HOK.out]
            rintro e w11 ⟨rfl, hb⟩
            have ha := (Below.refl w11.heap.size w11).alloc (Nat.le_refl _) (.cells #[.int .i64 (hiW (b - a)), .int .u64 (loW (b - a))] 34)
            have HG9 : Hid (((Cs (w11.alloc (.cells #[.int .i64 (hiW (b - a)), .int .u64 (loW (b - a))] 34)) gm (Mu.sums t l).cells ∧ Cs (w11.alloc (.cells #[.int .i64 (hiW (b - a)), .int .u64 (loW (b - a))] 34)) gn (Mu.served t l g).cells) ∧ Cs (w11.alloc (.cells #[.int .i64 (hiW (b - a)), .int .u64 (loW (b - a))] 34)) gq (pcells (atP y.1 (g + y.2.1) y.2.2))) ∧ Below w.heap.size w (w11.alloc (.cells #[.int .i64 (hiW (b - a)), .int .u64 (loW (b - a))] 34))) := hid ⟨⟨⟨(HG8.out.1.1.1.1.below hb).below ha, (HG8.out.1.1.1.2.below hb).below ha⟩, (HG8.out.1.1.2.below hb).below ha⟩, below_on (below_on HG8.out.2 hb) ha⟩
            clear hb ha HG8
            go_wp2_with fail
            generalize w11.alloc (.cells #[.int .i64 (hiW (b - a)), .int .u64 (loW (b - a))] 34) = W9 at HG9 ⊢
            refine (Wide.smallF HWD.out _).mono ?_
            rw [HSM.out, if_pos rfl]
            rintro e w12 ⟨rfl, hb⟩
            have HG10 := hid (And.intro (And.intro (And.intro (HG9.out.1.1.1.below hb) (HG9.out.1.1.2.below hb)) (HG9.out.1.2.below hb)) (below_on HG9.out.2 hb))
            clear hb HG9 L1 L2 HWA HWB HOK HSM HCL HWD
            generalize b - a = z at *
            have g1 : IntKind.i64.wrap g = g := by have := HGG.out; rw [IntKind.wrap_i64]; omega
            have g2 : wrap64 (-g) = -g := by have := HGG.out; unfold wrap64; omega
            have g2' : IntKind.i64.wrap (-g) = -g := by have := HGG.out; rw [IntKind.wrap_i64]; omega
            have k1 : ¬ 0 < z := by have := HZ.out; omega
            have k2 : ¬ z < -g := by have := HZ.out; omega
            go_wp2_with fail
            go_roundg (k - (j + 1))
            case measure => have := HS.out; omega
            case rel => exact ⟨j + 1, by go_num, by omega, rfl, HG10.out⟩
          · have hje : ((j : Int) == (K : Int)) = false := by rw [beq_eq_false_iff_ne]; omega
            have hje2 : ((j : Int) != (K : Int)) = true := by simp; omega
            have HX := hid (HOK.out _ hm)
            obtain ⟨a, b, e1, e2, e3, e4⟩ := HLM.out.2 _ hm
            have HZ : Hid (0 ≤ b - a ∧ b - a ≤ g + 1) := hid ⟨e3, e4⟩
            have HRI := hid HX.out.2
            have L1 := hid e1
            have L2 := hid e2
            have HWA : Hid (WR a) := hid (by have := lag_wr (Mu.sums t l) (l.getD j (0, 0, 0)); rwa [e1] at this)
            have HWB : Hid (WR b) := hid (by have := lag_wr (Mu.served t l g) (l.getD j (0, 0, 0)); rwa [e2] at this)
            have HOK : Hid (okW (b - a) = true) := hid (by have := HGG.out; exact okW_bd (by omega) (by omega))
            have HSM : Hid (smI (b - a) = true) := hid (by have := HGG.out; unfold smI; rw [decide_eq_true_eq]; omega)
            have HWD := hid (okW_iff.1 HOK.out)
            have HCL := hid (clW_ok HOK.out)
            clear e1 e2 e3 e4 hm hjl hjk
            generalize l.getD j (0, 0, 0) = x at *
            have ha := ((Below.refl wr.heap.size wr).alloc (Nat.le_refl _) (.cells #[.int .u64 x.1, .int .u32 x.2.1, .int .u32 x.2.2] 29)).alloc (by simp) (.cells #[.int .u64 x.1, .int .u32 x.2.1, .int .u32 x.2.2] 29)
            have hb7 := Cs.alloc_new6 (wr.alloc (.cells #[.int .u64 x.1, .int .u32 x.2.1, .int .u32 x.2.2] 29)) 29 (pcells x)
            simp only [World.size_alloc] at hb7
            have HG6 : Hid ((((Cs ((wr.alloc (.cells #[.int .u64 x.1, .int .u32 x.2.1, .int .u32 x.2.2] 29)).alloc (.cells #[.int .u64 x.1, .int .u32 x.2.1, .int .u32 x.2.2] 29)) gm (Mu.sums t l).cells ∧ Cs ((wr.alloc (.cells #[.int .u64 x.1, .int .u32 x.2.1, .int .u32 x.2.2] 29)).alloc (.cells #[.int .u64 x.1, .int .u32 x.2.1, .int .u32 x.2.2] 29)) gn (Mu.served t l g).cells) ∧ Cs ((wr.alloc (.cells #[.int .u64 x.1, .int .u32 x.2.1, .int .u32 x.2.2] 29)).alloc (.cells #[.int .u64 x.1, .int .u32 x.2.1, .int .u32 x.2.2] 29)) gq (pcells (atP y.1 (g + y.2.1) y.2.2))) ∧ Cs ((wr.alloc (.cells #[.int .u64 x.1, .int .u32 x.2.1, .int .u32 x.2.2] 29)).alloc (.cells #[.int .u64 x.1, .int .u32 x.2.1, .int .u32 x.2.2] 29)) wr.heap.size (pcells x) ∧ Cs ((wr.alloc (.cells #[.int .u64 x.1, .int .u32 x.2.1, .int .u32 x.2.2] 29)).alloc (.cells #[.int .u64 x.1, .int .u32 x.2.1, .int .u32 x.2.2] 29)) (wr.heap.size + 1) (pcells x)) ∧ Below w.heap.size w ((wr.alloc (.cells #[.int .u64 x.1, .int .u32 x.2.1, .int .u32 x.2.2] 29)).alloc (.cells #[.int .u64 x.1, .int .u32 x.2.1, .int .u32 x.2.2] 29))) := hid ⟨⟨⟨⟨HG.out.1.1.1.below ha, HG.out.1.1.2.below ha⟩, HG.out.1.2.below ha⟩, (Cs.alloc_new6 wr 29 (pcells x)).alloc _, hb7⟩, below_on HG.out.2 ha⟩
            obtain ⟨m0, m1, m2, m3, m4⟩ := Mu.at _ HG6.out.1.1.1.1
            clear ha hb7
            go_wp2_with fail
            clear m0 m1 m2 m3 m4 p0 p1 p2
            generalize ((wr.alloc (.cells #[.int .u64 x.1, .int .u32 x.2.1, .int .u32 x.2.2] 29)).alloc (.cells #[.int .u64 x.1, .int .u32 x.2.1, .int .u32 x.2.2] 29)) = W6 at HG6 ⊢
            generalize wr.heap.size = gp at HG6 ⊢
            refine (Lag.read (Mu.sums t l) x HI1.out HX.out.2 _).mono ?_
            rw [L1.out]
            rintro e w9 ⟨rfl, hb⟩
            have ha := (Below.refl w9.heap.size w9).alloc (Nat.le_refl _) (.cells #[.int .i64 (hiW a), .int .u64 (loW a)] 34)
            have HG7 : Hid ((((Cs (w9.alloc (.cells #[.int .i64 (hiW a), .int .u64 (loW a)] 34)) gm (Mu.sums t l).cells ∧ Cs (w9.alloc (.cells #[.int .i64 (hiW a), .int .u64 (loW a)] 34)) gn (Mu.served t l g).cells) ∧ Cs (w9.alloc (.cells #[.int .i64 (hiW a), .int .u64 (loW a)] 34)) gq (pcells (atP y.1 (g + y.2.1) y.2.2))) ∧ Cs (w9.alloc (.cells #[.int .i64 (hiW a), .int .u64 (loW a)] 34)) (gp + 1) (pcells x) ∧ Cs (w9.alloc (.cells #[.int .i64 (hiW a), .int .u64 (loW a)] 34)) w9.heap.size [.int .i64 (hiW a), .int .u64 (loW a)]) ∧ Below w.heap.size w (w9.alloc (.cells #[.int .i64 (hiW a), .int .u64 (loW a)] 34))) := hid ⟨⟨⟨⟨(HG6.out.1.1.1.1.below hb).below ha, (HG6.out.1.1.1.2.below hb).below ha⟩, (HG6.out.1.1.2.below hb).below ha⟩, (HG6.out.1.2.2.below hb).below ha, Cs.new2 w9 _ _ _⟩, below_on (below_on HG6.out.2 hb) ha⟩
            clear hb ha HG6
            obtain ⟨m0, m1, m2, m3, m4⟩ := Mu.at _ HG7.out.1.1.1.2
            obtain ⟨q0, q1, q2⟩ := P3.at x HG7.out.1.2.1
            go_wp2_with fail
            clear m0 m1 m2 m3 m4 q0 q1 q2
            generalize w9.alloc (.cells #[.int .i64 (hiW a), .int .u64 (loW a)] 34) = W7 at HG7 ⊢
            generalize w9.heap.size = ga at HG7 ⊢
            refine (Lag.read (Mu.served t l g) x HI2.out HRI.out _).mono ?_
            rw [L2.out]
            rintro e w10 ⟨rfl, hb⟩
            have ha := (Below.refl w10.heap.size w10).alloc (Nat.le_refl _) (.cells #[.int .i64 (hiW b), .int .u64 (loW b)] 34)
            have HG8 : Hid ((((Cs (w10.alloc (.cells #[.int .i64 (hiW b), .int .u64 (loW b)] 34)) gm (Mu.sums t l).cells ∧ Cs (w10.alloc (.cells #[.int .i64 (hiW b), .int .u64 (loW b)] 34)) gn (Mu.served t l g).cells) ∧ Cs (w10.alloc (.cells #[.int .i64 (hiW b), .int .u64 (loW b)] 34)) gq (pcells (atP y.1 (g + y.2.1) y.2.2))) ∧ Cs (w10.alloc (.cells #[.int .i64 (hiW b), .int .u64 (loW b)] 34)) ga [.int .i64 (hiW a), .int .u64 (loW a)]) ∧ Below w.heap.size w (w10.alloc (.cells #[.int .i64 (hiW b), .int .u64 (loW b)] 34))) := hid ⟨⟨⟨⟨(HG7.out.1.1.1.1.below hb).below ha, (HG7.out.1.1.1.2.below hb).below ha⟩, (HG7.out.1.1.2.below hb).below ha⟩, (HG7.out.1.2.2.below hb).below ha⟩, below_on (below_on HG7.out.2 hb) ha⟩
            clear hb ha HG7
            obtain ⟨a0, a1⟩ := HG8.out.1.2.two
            go_wp2_with fail
            clear a0 a1
            generalize w10.alloc (.cells #[.int .i64 (hiW b), .int .u64 (loW b)] 34) = W8 at HG8 ⊢
            refine (Wide.subF HWB.out HWA.out _).mono ?_
            rw [HCL.out, HOK.out]
            rintro e w11 ⟨rfl, hb⟩
            have ha := (Below.refl w11.heap.size w11).alloc (Nat.le_refl _) (.cells #[.int .i64 (hiW (b - a)), .int .u64 (loW (b - a))] 34)
            have HG9 : Hid (((Cs (w11.alloc (.cells #[.int .i64 (hiW (b - a)), .int .u64 (loW (b - a))] 34)) gm (Mu.sums t l).cells ∧ Cs (w11.alloc (.cells #[.int .i64 (hiW (b - a)), .int .u64 (loW (b - a))] 34)) gn (Mu.served t l g).cells) ∧ Cs (w11.alloc (.cells #[.int .i64 (hiW (b - a)), .int .u64 (loW (b - a))] 34)) gq (pcells (atP y.1 (g + y.2.1) y.2.2))) ∧ Below w.heap.size w (w11.alloc (.cells #[.int .i64 (hiW (b - a)), .int .u64 (loW (b - a))] 34))) := hid ⟨⟨⟨(HG8.out.1.1.1.1.below hb).below ha, (HG8.out.1.1.1.2.below hb).below ha⟩, (HG8.out.1.1.2.below hb).below ha⟩, below_on (below_on HG8.out.2 hb) ha⟩
            clear hb ha HG8
            go_wp2_with fail
            generalize w11.alloc (.cells #[.int .i64 (hiW (b - a)), .int .u64 (loW (b - a))] 34) = W9 at HG9 ⊢
            refine (Wide.smallF HWD.out _).mono ?_
            rw [HSM.out, if_pos rfl]
            rintro e w12 ⟨rfl, hb⟩
            have HG10 := hid (And.intro (And.intro (And.intro (HG9.out.1.1.1.below hb) (HG9.out.1.1.2.below hb)) (HG9.out.1.2.below hb)) (below_on HG9.out.2 hb))
            clear hb HG9 L1 L2 HWA HWB HOK HSM HCL HWD
            generalize b - a = z at *
            have g1 : IntKind.i64.wrap g = g := by have := HGG.out; rw [IntKind.wrap_i64]; omega
            have g3 : IntKind.i64.wrap (g + 1) = g + 1 := by have := HGG.out; rw [IntKind.wrap_i64]; omega
            have k1 : ¬ z < 0 := by have := HZ.out; omega
            have k2 : ¬ g + 1 < z := by have := HZ.out; omega
            go_wp2_with fail
            go_roundg (k - (j + 1))
            case measure => have := HS.out; omega
            case rel => exact ⟨j + 1, by go_num, by omega, rfl, HG10.out⟩
        · obtain rfl : j = k := by omega
          have hji : ¬ (j : Int) < j := by omega
          go_wp2_with fail
          go_ret
          exact ⟨rfl, HG.out.2⟩
theorem Lmov.law (t : Int) (A : Option Addr) (n c : Nat) (l : List P3) (i g : Int) (w : World) (w0 : (Lit.int .u64 t).wf = true) (h : RdP w A n l ∧ InP l ∧ n ≤ 9223372036854775807) (w2 : (Lit.int .u8 i).wf = true) (w3 : (Lit.int .u64 g).wf = true) (htab : Tab10 w.heap.size w) :
    Calls Tryz.prog 11 #[.int .u64 t, .slice A n c, .int .u8 i, .int .u64 g] w fun e w' => e = .returned (.bool true) ∧ Below w.heap.size w w' := by
  have hi := bounds_u8 w2
  by_cases hn : 32 < n
  · exact Lmov.away1 t A n c i g w hn htab
  · by_cases h0 : n = 0
    · exact Lmov.away2 t A n c i g w h0 htab
    · by_cases h1 : 288230376151711744 < g
      · exact Lmov.away3 t A n c i g w (by omega) (by omega) h1 htab
      · obtain ⟨iN, rfl⟩ := Int.eq_ofNat_of_zero_le hi.1
        exact Lmov.core t g iN (bounds_u64 w0) (bounds_u64 w3).1 (by omega) (by omega) A n c l w h.1 (fun q hq => h.2.1 q hq) (by omega) (by omega) htab

end Go.Proofs.YtoioeginfhkjjaaGreatDoor

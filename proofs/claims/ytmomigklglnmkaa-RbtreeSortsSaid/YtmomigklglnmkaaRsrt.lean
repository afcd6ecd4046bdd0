/- RbtreeSorts: the walk. -/
import Derived.Test.YtmomigklglnmkaaSrt
import Derived.Test.YtmomigklglnmkaaRbtreeSortsZ11
import Derived.Test.YtmomigklglnmkaaRbtreeSortsZ9
import Derived.Test.YtmomigklglnmkaaRdepth
import Derived.Test.YtmomigklglnmkaaOpenN
import Derived.Test.YtmomigklglnmkaaOrdG
import Derived.Test.YtmomigklglnmkaaRefD
import Derived.Deep.DeepCutAuto
namespace Go.Proofs.Ytmomigklglnmkaa
open Go.RowKit
theorem stays_tu (_x : Unit) : Stays (fun _ : World => True) := fun _ _ _ _ => trivial
/-- A row of one's own that holds a tree's numbers. -/
def AlN (B : Nat) (L : List Int) (y : Option Addr × Nat) (w : World) : Prop := Own w B y.1 L.length y.2 L
theorem AlN.st (B : Nat) (L : List Int) (y : Option Addr × Nat) : Stays (AlN B L y) := fun _ _ h hb => Own.below h hb
theorem Rb.allN (B th : Nat) (t : Tr Int) (w : World) (h : TreeAt w th t) (hn : t.list.length ≤ 900000) (hB : B ≤ w.heap.size) : Calls Try.prog 12 #[.pointer (some ⟨th, 0, none⟩)] w (fun e w' => ∃ y : Option Addr × Nat, e = .returned (.slice y.1 t.list.length y.2) ∧ AlN B t.list y w' ∧ Below w.heap.size w w') := by
  refine (Rb.all th t w h hn).mono ?_
  rintro e w' ⟨A, n, c, rfl, ho, hb, _⟩
  obtain rfl := ho.len
  refine ⟨(A, c), rfl, ?_, hb⟩
  rcases ho.2 with ⟨h1, h2⟩ | ⟨g, cap, cur, h1, h2, h3⟩
  · exact ⟨ho.1, Or.inl ⟨h1, h2⟩⟩
  · exact ⟨ho.1, Or.inr ⟨g, cap, cur, h1, Nat.le_trans hB h2, h3⟩⟩
theorem Rsort.away (A : Option Addr) (n c : Nat) (b : Int) (hn : 300 < n) (hm : n ≤ 9223372036854775807) (w : World) : Calls Try.prog 3 #[.slice A n c, .int .u8 b] w (Ans (.bool true) w) := by
  have h1 : (300 : Int) < n := by omega
  go_enter Try.func3, Try.ntmps3
  go_wp2_with fail
  refine (Law6.awake _).mono ?_
  rintro e w1 ⟨rfl, hb⟩
  have HB := hid hb
  clear hb
  go_wp2_with fail
  go_ret
  exact ⟨rfl, HB.out⟩
/-- The row that is put in: any order of the numbers. -/
def InRow (w0 : World) (A : Option Addr) (n c : Nat) (zs : List Int) (w : World) : Prop := ∃ L, (∀ x, x ∈ L ↔ x ∈ zs) ∧ Own w w0.heap.size A n c L ∧ Below w0.heap.size w0 w
set_option maxRecDepth 100000 in
set_option maxHeartbeats 16000000 in
theorem Rsort.core (A : Option Addr) (n c : Nat) (b : Int) (zs : List Int) (hb0 : 0 ≤ b ∧ b ≤ 255) (hn : n ≤ 300) (w : World) (h : RdU .i64 w A n zs) : Calls Try.prog 3 #[.slice A n c, .int .u8 b] w (Ans (.bool true) w) := by
  have HR := hid h
  have hni : (n : Int) ≤ 300 := by omega
  have hn300 : ¬ (300 : Int) < n := by omega
  clear h
  go_enter Try.func3, Try.ntmps3
  go_wp2_with fail
  refine (Law6.awake _).mono ?_
  rintro e w1 ⟨rfl, hb⟩
  have HB1 := hid hb
  have HR1 := hid (HR.out.below hb)
  clear hb HR
  go_wp2_with fail
  refine (Sls.clone A n c zs (by omega) _ HR1.out).mono ?_
  rintro e w2 ⟨A1, c1, rfl, ho, hb⟩
  have HI2 : Hid (InRow w1 A1 n c1 zs w2) := hid ⟨zs, fun _ => Iff.rfl, ho, hb⟩
  have HO2 := hid (And.intro ho hb)
  clear ho hb
  go_upto_block 0 with fail
  go_cut [24] (fun s24 wx => InRow w1 A1 n c1 zs wx)
  case first =>
    go_wp2_with fail
    · refine (Sls.sort w1.heap.size A1 n c1 zs (by omega) _ HO2.out.1).mono ?_
      rintro e w3 ⟨rfl, ho, hc⟩
      have HO3 := hid (And.intro ho (Below.chg HO2.out.2 hc (fun k hk => (HO2.out.1.rowIn k hk).1)))
      clear ho hc
      go_wp2_with fail
      go_meet
      exact ⟨_, fun _ => sortI_mem, HO3.out.1, HO3.out.2⟩
    · refine (Sls.sort w1.heap.size A1 n c1 zs (by omega) _ HO2.out.1).mono ?_
      rintro e w3 ⟨rfl, ho, hc⟩
      have HO3 := hid (And.intro ho (Below.chg HO2.out.2 hc (fun k hk => (HO2.out.1.rowIn k hk).1)))
      clear ho hc
      go_wp2_with fail
      refine (Sls.reverse w1.heap.size A1 n c1 (sortI zs) (by omega) _ HO3.out.1).mono ?_
      rintro e w4 ⟨rfl, ho, hc⟩
      have HO4 := hid (And.intro ho (Below.chg HO3.out.2 hc (fun k hk => (HO3.out.1.rowIn k hk).1)))
      clear ho hc
      go_wp2_with fail
      go_meet
      exact ⟨_, fun x => by rw [List.mem_reverse]; exact sortI_mem, HO4.out.1, HO4.out.2⟩
    · go_meet
      exact HI2.out
  case rest =>
    obtain ⟨L, hL, ho, hb⟩ := hcut
    have HL := hid hL
    have HRL := hid ho.rdi
    have HB2 := hid (below_on HB1.out hb)
    have HR2 := hid (HR1.out.below hb)
    clear hL ho hb HI2 HO2 HR1 HB1
    rename World => wq
    go_wp2_with fail
    refine (Law6.new _).mono ?_
    rintro e w6 ⟨th, rfl, hth, ht, hb⟩
    have HG : Hid (Gw wq th .nil w6) := hid ⟨News.grove ht hth, hb⟩
    clear hth ht hb
    go_wp2_with fail
    go_loopg [34] n (fun s a wr => ∃ (k : Nat) (t : Tr Int), a = .int .i64 k ∧ k ≤ n ∧ s = n - k ∧ (t.list.length ≤ k ∧ ∀ x, x ∈ t.list ↔ x ∈ L.take k) ∧ Gw wq th t wr)
    case atStart => exact ⟨0, .nil, rfl, Nat.zero_le _, by omega, ⟨by simp [Tr.list], by simp [Tr.list]⟩, HG.out⟩
    case round =>
      obtain ⟨k, t, rfl, hk, hs, hl, hg⟩ := hrel
      have HS := hid hs
      have HLT := hid hl
      have HGr := hid hg
      clear hs hl hg
      by_cases hkn : k < n
      · obtain ⟨bb, off, hA, hbs, hc⟩ := HRL.out.2 0 (by omega)
        have c0 := keep1 HGr.out.2 (hc k hkn)
        have HLK : Hid (L.take (k + 1) = L.take k ++ [L.getD k 0]) := hid (by
          have hkl : k < L.length := by have := HRL.out.1; omega
          rw [List.take_add_one, List.getElem?_eq_getElem hkl]
          simp [List.getD, hkl])
        generalize L.getD k 0 = x at *
        subst hA
        have hki : (k : Int) < n := by omega
        have hk0 : (0 : Int) ≤ k := by omega
        clear hc
        go_wp2_with fail
        refine (Gr.insert wq.heap.size th t x _ HGr.out.1 HGr.out.2.size (by have := HLT.out.1; omega)).mono ?_
        rintro e w7 ⟨t', rfl, hl', hg', hch, _⟩
        have HG3 := hid (HGr.out.act hg' hch)
        have HL3 : Hid (t'.list.length ≤ k + 1 ∧ ∀ y, y ∈ t'.list ↔ y ∈ L.take (k + 1)) := hid (by
          rw [hl', HLK.out]
          have h1 := HLT.out
          by_cases hx : x ∈ t.list
          · rw [if_pos hx]
            refine ⟨by omega, fun y => ?_⟩
            rw [List.mem_append, List.mem_singleton, ← h1.2 y]
            exact ⟨Or.inl, fun h => h.elim id (fun e => by rw [e]; exact hx)⟩
          · rw [if_neg hx, length_insL]
            refine ⟨by omega, fun y => ?_⟩
            rw [mem_insL, List.mem_append, List.mem_singleton, ← h1.2 y]
            exact Or.comm)
        clear hl' hg' hch c0
        go_wp2_with fail
        go_roundg (n - (k + 1))
        case measure => have := HS.out; omega
        case rel => exact ⟨k + 1, t', by go_num, by omega, rfl, HL3.out, HG3.out⟩
      · obtain rfl : k = n := by omega
        have hki : ¬ (k : Int) < k := by omega
        have HMT : Hid (∀ x, x ∈ t.list ↔ x ∈ zs) := hid (fun x => by
          rw [HLT.out.2 x, List.take_of_length_le (by have := HRL.out.1; omega)]
          exact HL.out x)
        have HTL : Hid (t.list.length ≤ k) := hid HLT.out.1
        have HR0 := hid HR2.out
        have HB0 := hid HB2.out
        have HR3 := hid (HR2.out.below HGr.out.2)
        have HB3 := hid (below_on HB2.out HGr.out.2)
        clear HLT HL HRL HR2 HB2 HG
        go_wp2_with fail
        refine (Sls.clone A k c zs (by omega) _ HR3.out).mono ?_
        rintro e w8 ⟨A2, c2, rfl, ho, hb⟩
        have HO := hid (And.intro ho hb)
        clear ho hb
        go_wp2_with fail
        refine (Sls.sort wr.heap.size A2 k c2 zs (by omega) _ HO.out.1).mono ?_
        rintro e w9 ⟨rfl, ho, hc⟩
        have HP := hid (And.intro ho (Below.chg HO.out.2 hc (fun j hj => (HO.out.1.rowIn j hj).1)))
        clear ho hc HO
        go_wp2_with fail
        refine (Sls.compact wr.heap.size A2 k c2 (sortI zs) (by omega) _ HP.out.1).mono ?_
        rintro e w10 ⟨rfl, ho, hc⟩
        have HQ := hid (And.intro ho (Below.chg HP.out.2 hc (fun j hj => (HP.out.1.rowIn j hj).1)))
        clear ho hc HP
        have HCL : Hid (t.list = Lib.compact (sortI zs)) := hid (srt_one HGr.out.1.2.2.1 (compact_srt zs).1 (fun x => (HMT.out x).trans ((compact_srt zs).2 x).symm))
        have HG10 := hid (HGr.out.below HQ.out.2)
        rw [← HCL.out] at HQ ⊢
        clear HCL
        go_wp2_with fail
        refine (Rb.allN wr.heap.size th t _ HG10.out.1.1 (by have := HTL.out; omega) HQ.out.2.size).mono ?_
        rintro e w11 ⟨⟨A3, c3⟩, rfl, ho, hb⟩
        have HA := hid ho
        have HQR := hid (HQ.out.1.below hb)
        have HG11 := hid (HG10.out.below hb)
        have HR4 := hid ((HR3.out.below HQ.out.2).below hb)
        have HB4 := hid (below_on (below_on HB3.out HQ.out.2) hb)
        clear ho hb HG10 HQ HR3 HB3 HGr
        dsimp only at HA ⊢
        go_wp2_with fail
        refine (Sls.equal A3 A2 t.list.length c3 t.list.length c2 t.list t.list _ HA.out.rdi HQR.out.rdi (by have := HTL.out; omega) (by have := HTL.out; omega)).mono ?_
        rw [beq_self_eq_true]
        rintro e w12 ⟨rfl, hb⟩
        have HG12 := hid (HG11.out.below hb)
        have HR5 := hid (HR4.out.below hb)
        have HB5 := hid (below_on HB4.out hb)
        clear hb HG11 HR4 HB4 HA HQR HS
        go_wp2_with fail
        go_loopg [55] k (fun s a wr => ∃ (j : Nat) (t : Tr Int), a = .int .i64 j ∧ j ≤ k ∧ s = k - j ∧ (t.list.length ≤ k ∧ ∀ x, x ∈ t.list → x ∈ zs ∧ x ∉ zs.take j) ∧ Gw wq th t wr)
        case atStart => exact ⟨0, t, rfl, Nat.zero_le _, by omega, ⟨HTL.out, fun x hx => ⟨(HMT.out x).1 hx, by simp⟩⟩, HG12.out⟩
        case round =>
          clear HTL HMT HG12
          obtain ⟨j, t, rfl, hj, hs, hl, hg⟩ := hrel
          have HS := hid hs
          have HLT := hid hl
          have HGr := hid hg
          clear hs hl hg
          by_cases hjn : j < k
          · obtain ⟨bb, off, hA, hbs, hc⟩ := HR0.out.2 0 (by omega)
            have c0 := keep1 HGr.out.2 (hc j hjn)
            have HLK : Hid (zs.take (j + 1) = zs.take j ++ [zs.getD j 0]) := hid (by
              have hkl : j < zs.length := by have := HR0.out.1; omega
              rw [List.take_add_one, List.getElem?_eq_getElem hkl]
              simp [List.getD, hkl])
            generalize zs.getD j 0 = x at *
            subst hA
            have hki : (j : Int) < k := by omega
            have hk0 : (0 : Int) ≤ j := by omega
            clear hc
            go_wp2_with fail
            refine (Gr.delete wq.heap.size th t x _ HGr.out.1 HGr.out.2.size (by have := HLT.out.1; omega)).mono ?_
            rintro e w13 ⟨t', rfl, hl', hg', hch, _⟩
            have HG3 := hid (HGr.out.act hg' hch)
            have HL3 : Hid (t'.list.length ≤ k ∧ (∀ y, y ∈ t'.list → y ∈ zs ∧ y ∉ zs.take (j + 1)) ∧ x ∉ t'.list) := hid (by
              rw [hl', HLK.out]
              have h1 := HLT.out
              have h2 := length_delL x t.list
              refine ⟨by omega, fun y hy => ?_, fun hx => (mem_delL.1 hx).1 rfl⟩
              obtain ⟨h3, h4⟩ := mem_delL.1 hy
              obtain ⟨h5, h6⟩ := h1.2 y h4
              exact ⟨h5, by rw [List.mem_append, List.mem_singleton]; exact fun h => h.elim h6 h3⟩)
            clear hl' hg' hch c0
            have HHS : Hid (Tr.has ltI x t' = false) := hid (by
              cases hc : Tr.has ltI x t' with
              | false => rfl
              | true => exact absurd ((Tr.has_iff x t' HG3.out.1.2.2.1).1 hc) HL3.out.2.2)
            have hdl : t'.depth ≤ 301 := by have := Tr.depth_le t'; have := HL3.out.1; omega
            have hll : t'.list.length ≤ 301 := by have := HL3.out.1; omega
            have HNU := hid (depth_nums t'.depth t'.list.length hdl hll HG3.out.1.2.1.deep)
            obtain ⟨M, P, e1, e2, M0, M1, e3, e4, e5⟩ := HNU.out
            have d0 : (0 : Int) ≤ t'.depth := by omega
            have d1 : (t'.depth : Int) ≤ 301 := by omega
            have l1 : (t'.list.length : Int) ≤ 301 := by omega
            clear hdl hll HNU
            go_upto_region 27 with fail
            have hsT1 : Stays (fun wx => Below w13.heap.size w13 wx) := fun _ _ h hb => below_on h hb
            refine wp_region_grow (S := fun wx => Below w13.heap.size w13 wx) 20 (by kernel_rfl) (hsT1 _ _ ((Below.refl w13.heap.size w13)) (Below.refl _ _).drew) ?_
            refine wpAnyE_take (i := 0) (v := ?_) (hsT1) (fun _ h => h) rfl (by kernel_rfl) (by kernel_rfl) (by kernel_rfl) (by kernel_rfl) (fun _ _ _ h => h) (SteadyB.of_yields (Or.inl ⟨by rfl, ?_⟩)) ?_
            rotate_left
            · intro wq hSw
              go_simp
              (try with_reducible rfl)
            try simp only [List.getElem_toArray, List.getElem_cons_zero, List.getElem_cons_succ, Act.put, List.setIfInBounds_toArray, List.set_cons_zero, List.set_cons_succ]
            refine wpAnyE_take (i := 1) (v := ?_) (hsT1) (fun _ h => h) rfl (by kernel_rfl) (by kernel_rfl) (by kernel_rfl) (by kernel_rfl) (fun _ _ _ h => h) (SteadyB.of_yields (Or.inl ⟨by rfl, ?_⟩)) ?_
            rotate_left
            · intro wq hSw
              go_simp
              (try with_reducible rfl)
            try simp only [List.getElem_toArray, List.getElem_cons_zero, List.getElem_cons_succ, Act.put, List.setIfInBounds_toArray, List.set_cons_zero, List.set_cons_succ]
            refine wpAnyE_take (i := 2) (v := .bool false) (hsT1) (fun _ h => h) rfl (by kernel_rfl) (by kernel_rfl) (by kernel_rfl) (by kernel_rfl) (fun _ _ _ h => h) (Or.inl ⟨by rfl, fun wq hSw => ?_⟩) ?_
            · refine RunB.of_calls ((by have h8 := Rb.has th t' x wq (HG3.out.below hSw).1.1; rw [HHS.out] at h8; exact h8)) (by go_simp) ?_
              rintro e wr ⟨rfl, hb⟩
              exact ⟨rfl, hb⟩
            try simp only [List.getElem_toArray, List.getElem_cons_zero, List.getElem_cons_succ, Act.put, List.setIfInBounds_toArray, List.set_cons_zero, List.set_cons_succ]
            refine wpAnyE_take (i := 3) (v := ?_) (hsT1) (fun _ h => h) rfl (by kernel_rfl) (by kernel_rfl) (by kernel_rfl) (by kernel_rfl) (fun _ _ _ h => h) (SteadyB.of_yields (Or.inl ⟨by rfl, ?_⟩)) ?_
            rotate_left
            · intro wq hSw
              go_simp
              (try with_reducible rfl)
            try simp only [List.getElem_toArray, List.getElem_cons_zero, List.getElem_cons_succ, Act.put, List.setIfInBounds_toArray, List.set_cons_zero, List.set_cons_succ]
            refine wpAnyE_take (i := 4) (v := ?_) (hsT1) (fun _ h => h) rfl (by kernel_rfl) (by kernel_rfl) (by kernel_rfl) (by kernel_rfl) (fun _ _ _ h => h) (SteadyB.of_yields (Or.inl ⟨by rfl, ?_⟩)) ?_
            rotate_left
            · intro wq hSw
              go_simp
              (try with_reducible rfl)
            try simp only [List.getElem_toArray, List.getElem_cons_zero, List.getElem_cons_succ, Act.put, List.setIfInBounds_toArray, List.set_cons_zero, List.set_cons_succ]
            refine wpAnyE_take (i := 5) (v := .int .i64 t'.depth) (hsT1) (fun _ h => h) rfl (by kernel_rfl) (by kernel_rfl) (by kernel_rfl) (by kernel_rfl) (fun _ _ _ h => h) (Or.inl ⟨by rfl, fun wq hSw => ?_⟩) ?_
            · refine RunB.of_calls (Rb.depth th t' wq (HG3.out.below hSw).1.1 (by have := HL3.out.1; omega)) (by go_simp) ?_
              rintro e wr ⟨rfl, hb⟩
              exact ⟨rfl, hb⟩
            try simp only [List.getElem_toArray, List.getElem_cons_zero, List.getElem_cons_succ, Act.put, List.setIfInBounds_toArray, List.set_cons_zero, List.set_cons_succ]
            refine wpAnyE_take (i := 6) (v := ?_) (hsT1) (fun _ h => h) rfl (by kernel_rfl) (by kernel_rfl) (by kernel_rfl) (by kernel_rfl) (fun _ _ _ h => h) (SteadyB.of_yields (Or.inl ⟨by rfl, ?_⟩)) ?_
            rotate_left
            · intro wq hSw
              go_simp
              (try with_reducible rfl)
            try simp only [List.getElem_toArray, List.getElem_cons_zero, List.getElem_cons_succ, Act.put, List.setIfInBounds_toArray, List.set_cons_zero, List.set_cons_succ]
            refine wpAnyE_take (i := 7) (v := ?_) (hsT1) (fun _ h => h) rfl (by kernel_rfl) (by kernel_rfl) (by kernel_rfl) (by kernel_rfl) (fun _ _ _ h => h) (SteadyB.of_yields (Or.inl ⟨by rfl, ?_⟩)) ?_
            rotate_left
            · intro wq hSw
              go_simp
              (try with_reducible rfl)
            try simp only [List.getElem_toArray, List.getElem_cons_zero, List.getElem_cons_succ, Act.put, List.setIfInBounds_toArray, List.set_cons_zero, List.set_cons_succ]
            refine wpAnyE_take (i := 8) (v := ?_) (hsT1) (fun _ h => h) rfl (by kernel_rfl) (by kernel_rfl) (by kernel_rfl) (by kernel_rfl) (fun _ _ _ h => h) (SteadyB.of_yields (Or.inl ⟨by rfl, ?_⟩)) ?_
            rotate_left
            · intro wq hSw
              go_simp
              (try with_reducible rfl)
            try simp only [List.getElem_toArray, List.getElem_cons_zero, List.getElem_cons_succ, Act.put, List.setIfInBounds_toArray, List.set_cons_zero, List.set_cons_succ]
            refine wpAnyE_take (i := 9) (v := ?_) (hsT1) (fun _ h => h) rfl (by kernel_rfl) (by kernel_rfl) (by kernel_rfl) (by kernel_rfl) (fun _ _ _ h => h) (SteadyB.of_yields (Or.inl ⟨by rfl, ?_⟩)) ?_
            rotate_left
            · intro wq hSw
              go_simp
              (try with_reducible rfl)
            try simp only [List.getElem_toArray, List.getElem_cons_zero, List.getElem_cons_succ, Act.put, List.setIfInBounds_toArray, List.set_cons_zero, List.set_cons_succ]
            refine wpAnyE_take (i := 10) (v := .int .i64 t'.list.length) (hsT1) (fun _ h => h) rfl (by kernel_rfl) (by kernel_rfl) (by kernel_rfl) (by kernel_rfl) (fun _ _ _ h => h) (Or.inl ⟨by rfl, fun wq hSw => ?_⟩) ?_
            · refine RunB.of_calls (Rb.len th t' wq (HG3.out.below hSw).1.1) (by go_simp) ?_
              rintro e wr ⟨rfl, hb⟩
              exact ⟨rfl, hb⟩
            try simp only [List.getElem_toArray, List.getElem_cons_zero, List.getElem_cons_succ, Act.put, List.setIfInBounds_toArray, List.set_cons_zero, List.set_cons_succ]
            refine wpAnyE_take (i := 11) (v := ?_) (hsT1) (fun _ h => h) rfl (by kernel_rfl) (by kernel_rfl) (by kernel_rfl) (by kernel_rfl) (fun _ _ _ h => h) (SteadyB.of_yields (Or.inl ⟨by rfl, ?_⟩)) ?_
            rotate_left
            · intro wq hSw
              go_simp
              (try with_reducible rfl)
            try simp only [List.getElem_toArray, List.getElem_cons_zero, List.getElem_cons_succ, Act.put, List.setIfInBounds_toArray, List.set_cons_zero, List.set_cons_succ]
            refine wpAnyE_take (i := 12) (v := ?_) (hsT1) (fun _ h => h) rfl (by kernel_rfl) (by kernel_rfl) (by kernel_rfl) (by kernel_rfl) (fun _ _ _ h => h) (SteadyB.of_yields (Or.inl ⟨by rfl, ?_⟩)) ?_
            rotate_left
            · intro wq hSw
              go_simp
              (try with_reducible rfl)
            try simp only [List.getElem_toArray, List.getElem_cons_zero, List.getElem_cons_succ, Act.put, List.setIfInBounds_toArray, List.set_cons_zero, List.set_cons_succ]
            refine wpAnyE_take (i := 13) (v := ?_) (hsT1) (fun _ h => h) rfl (by kernel_rfl) (by kernel_rfl) (by kernel_rfl) (by kernel_rfl) (fun _ _ _ h => h) (SteadyB.of_yields (Or.inl ⟨by rfl, ?_⟩)) ?_
            rotate_left
            · intro wq hSw
              go_simp
              (try with_reducible rfl)
            try simp only [List.getElem_toArray, List.getElem_cons_zero, List.getElem_cons_succ, Act.put, List.setIfInBounds_toArray, List.set_cons_zero, List.set_cons_succ]
            refine wpAnyE_take (i := 14) (v := ?_) (hsT1) (fun _ h => h) rfl (by kernel_rfl) (by kernel_rfl) (by kernel_rfl) (by kernel_rfl) (fun _ _ _ h => h) (SteadyB.of_yields (Or.inl ⟨by rfl, ?_⟩)) ?_
            rotate_left
            · intro wq hSw
              go_simp
              (try with_reducible rfl)
            try simp only [List.getElem_toArray, List.getElem_cons_zero, List.getElem_cons_succ, Act.put, List.setIfInBounds_toArray, List.set_cons_zero, List.set_cons_succ]
            refine wpAnyE_take (i := 15) (v := ?_) (hsT1) (fun _ h => h) rfl (by kernel_rfl) (by kernel_rfl) (by kernel_rfl) (by kernel_rfl) (fun _ _ _ h => h) (SteadyB.of_yields (Or.inl ⟨by rfl, ?_⟩)) ?_
            rotate_left
            · intro wq hSw
              go_simp
              (try with_reducible rfl)
            try simp only [List.getElem_toArray, List.getElem_cons_zero, List.getElem_cons_succ, Act.put, List.setIfInBounds_toArray, List.set_cons_zero, List.set_cons_succ]
            refine wpAnyE_call (i := 16) (fun y : Option Addr × Nat => .slice y.1 t'.list.length y.2) (AlN w13.heap.size t'.list) rfl (by kernel_rfl) (by decide) (by rfl) (hsT1) (fun _ h => h) (fun yq => AlN.st w13.heap.size t'.list yq) (fun wq hSw => ?_) (fun yq => ?_)
            · exact RunI.of_calls (Rb.allN w13.heap.size th t' wq (HG3.out.below hSw).1.1 (by have := HL3.out.1; omega) hSw.size) (by go_simp) (fun e w' h => h)
            obtain ⟨A5, c5⟩ := yq
            try dsimp only
            try simp only [List.getElem_toArray, List.getElem_cons_zero, List.getElem_cons_succ, Act.put, List.setIfInBounds_toArray, List.set_cons_zero, List.set_cons_succ]
            refine wpAnyE_call (i := 17) (fun _ : Unit => .bool true) (fun (_ : Unit) (_ : World) => True) rfl (by kernel_rfl) (by decide) (by rfl) (Stays.and_ (hsT1) (AlN.st w13.heap.size t'.list (A5, c5))) (fun _ h => h.1) (fun yq => stays_tu yq) (fun wq hSw => ?_) (fun yq => ?_)
            · exact RunI.of_calls (Sls.isSorted w13.heap.size A5 t'.list.length c5 t'.list HG3.out.1.2.2.1 (by have := HL3.out.1; omega) wq hSw.2) (by go_simp) (fun e w' h => ⟨(), h.1, trivial, h.2⟩)
            obtain ⟨⟩ := yq
            skip
            try simp only [List.getElem_toArray, List.getElem_cons_zero, List.getElem_cons_succ, Act.put, List.setIfInBounds_toArray, List.set_cons_zero, List.set_cons_succ]
            refine wpAnyE_take (i := 18) (v := ?_) (Stays.and_ (Stays.and_ (hsT1) (AlN.st w13.heap.size t'.list (A5, c5))) (stays_tu ())) (fun _ h => h.1.1) rfl (by kernel_rfl) (by kernel_rfl) (by kernel_rfl) (by kernel_rfl) (fun _ _ _ h => h) (SteadyB.of_yields (Or.inl ⟨by rfl, ?_⟩)) ?_
            rotate_left
            · intro wq hSw
              go_simp
              (try with_reducible rfl)
            try simp only [List.getElem_toArray, List.getElem_cons_zero, List.getElem_cons_succ, Act.put, List.setIfInBounds_toArray, List.set_cons_zero, List.set_cons_succ]
            refine wpAnyE_take (i := 19) (v := ?_) (Stays.and_ (Stays.and_ (hsT1) (AlN.st w13.heap.size t'.list (A5, c5))) (stays_tu ())) (fun _ h => h.1.1) rfl (by kernel_rfl) (by kernel_rfl) (by kernel_rfl) (by kernel_rfl) (fun _ _ _ h => h) (SteadyB.of_yields (Or.inl ⟨by rfl, ?_⟩)) ?_
            rotate_left
            · intro wq hSw
              go_simp
              (try with_reducible rfl)
            try simp only [List.getElem_toArray, List.getElem_cons_zero, List.getElem_cons_succ, Act.put, List.setIfInBounds_toArray, List.set_cons_zero, List.set_cons_succ]
            refine wpAnyE_done (by kernel_rfl) (fun wz hSz => ?_) _
            have HG4 := hid (HG3.out.below hSz.1.1)
            clear hSz HG3 e1 e2 M0 M1 e3 e4 e5
            go_wp2_with fail
            go_roundg (k - (j + 1))
            case measure => have := HS.out; omega
            case rel => exact ⟨j + 1, t', by go_num, by omega, rfl, ⟨HL3.out.1, HL3.out.2.1⟩, HG4.out⟩
          · obtain rfl : j = k := by omega
            have hki : ¬ (j : Int) < j := by omega
            have ht : t.list = [] := List.eq_nil_iff_forall_not_mem.2 (fun x hx => by
              obtain ⟨h1, h2⟩ := HLT.out.2 x hx
              rw [List.take_of_length_le (by have := HR0.out.1; omega)] at h2
              exact h2 h1)
            have HZ : Hid (t.list.length = 0 ∧ t.depth = 0) := hid (by have := Tr.depth_le t; rw [ht] at this ⊢; simp at this ⊢; exact this)
            clear ht
            go_wp2_with fail
            refine (Rb.len th t _ HGr.out.1.1).mono ?_
            rw [HZ.out.1]
            rintro e w14 ⟨rfl, hb⟩
            have HG5 := hid (HGr.out.below hb)
            clear hb
            go_wp2_with fail
            refine (Rb.depth th t _ HG5.out.1.1 (by have := HZ.out.1; omega)).mono ?_
            rw [HZ.out.2]
            rintro e w15 ⟨rfl, hb⟩
            have HG6 := hid (HG5.out.below hb)
            clear hb
            go_wp2_with fail
            go_ret
            exact ⟨rfl, below_on HB0.out HG6.out.2⟩
theorem Rsort.law (A : Option Addr) (n c : Nat) (zs : List Int) (b : Int) (w : World) (h : RdU .i64 w A n zs ∧ (∀ z ∈ zs, (Lit.int .i64 z).wf = true) ∧ n ≤ c ∧ n ≤ 9223372036854775807) (hb : (Lit.int .u8 b).wf = true) : Calls Try.prog 3 #[.slice A n c, .int .u8 b] w (Ans (.bool true) w) := by
  have hb0 : 0 ≤ b ∧ b ≤ 255 := by
    simp [Lit.wf, IntKind.min, IntKind.max, IntKind.signed, IntKind.bits] at hb
    omega
  by_cases hn : n ≤ 300
  · exact Rsort.core A n c b zs hb0 hn w h.1
  · exact Rsort.away A n c b (by omega) h.2.2.2 w
end Go.Proofs.Ytmomigklglnmkaa

/- RbtreeFolds: the walk. -/
import Derived.Test.YtcnmobehamgmbaaRbR
namespace Go.Proofs.Ytcnmobehamgmbaa
open Go.RowKit

theorem Rfolds.away (A : Option Addr) (n c : Nat) (e : Int) (hn : 200 < n) (hm : n ≤ 9223372036854775807) (w : World) :
    Calls Try.prog 10 #[.slice A n c, .int .i64 e] w (Ans (.bool true) w) := by
  have h1 : (200 : Int) < n := by omega
  go_enter Try.func10, Try.ntmps10
  go_wp2_with fail
  refine (Law6.awake _).mono ?_
  rintro e w1 ⟨rfl, hb⟩
  have HB := hid (below_on ((Below.refl w.heap.size w).alloc (Nat.le_refl _) _) hb)
  clear hb
  go_wp2_with fail
  go_ret
  exact ⟨rfl, HB.out⟩

set_option maxRecDepth 100000 in
set_option maxHeartbeats 8000000 in
theorem Rfolds.core (A : Option Addr) (n c : Nat) (zs : List Int) (en : Int) (hn : n ≤ 200) (w : World) (h : RdU .i64 w A n zs) :
    Calls Try.prog 10 #[.slice A n c, .int .i64 en] w (Ans (.bool true) w) := by
  have HR := hid h
  have h1 : (n : Int) ≤ 200 := by omega
  clear h
  go_enter Try.func10, Try.ntmps10
  go_wp2_with fail
  have HK0 : Hid ((w.alloc (.cells #[.int .i64 en] 3)).cell? ⟨w.heap.size, 0, none⟩ = some (.int .i64 en)) := hid (by simp)
  refine (Law6.awake _).mono ?_
  rintro e w1 ⟨rfl, hb⟩
  have HB := hid (below_on ((Below.refl w.heap.size w).alloc (Nat.le_refl _) (.cells #[.int .i64 en] 3)) hb)
  have HK1 := hid (keep1 hb HK0.out)
  clear hb
  go_wp2_with fail
  refine (Law6.new _).mono ?_
  rintro e w2 ⟨ta, rfl, hth, ht, hb⟩
  have HA : Hid (Grove w1.heap.size ta .nil w2) := hid (News.grove ht hth)
  have HB2 := hid hb
  clear hth ht hb
  go_wp2_with fail
  refine (Law6.new _).mono ?_
  rintro e w3 ⟨tb, rfl, hth, ht, hb⟩
  have HG : Hid (Gw2 w1 ta .nil tb .nil w3) := hid ⟨HA.out.below hb, News.grove ht (Nat.le_trans HB2.out.size hth), below_on HB2.out hb, fun g hg => by
    simp [Tr.blocks] at hg; subst hg; simp [Tr.blocks]; intro e; have := (HA.out.1.nl2 g (by simp)).lt; omega⟩
  clear hth ht hb
  go_wp2_with fail
  go_loopg [29] n (fun s a wr => ∃ (k : Nat) (s' t' : Tr Int), a = .int .i64 k ∧ k ≤ n ∧ s = n - k ∧ s'.list.length ≤ k ∧ t'.list.length ≤ k ∧ (∀ y, y ∈ s'.list ↔ ∃ j, j < k ∧ y = zs.getD j 0) ∧ (∀ y, y ∈ t'.list ↔ ∃ j, j < k ∧ y = zs.getD (n - 1 - j) 0) ∧ Gw2 w1 ta s' tb t' wr)
  case atStart => exact ⟨0, .nil, .nil, rfl, Nat.zero_le _, by omega, by simp [Tr.list], by simp [Tr.list], by simp [Tr.list], by simp [Tr.list], HG.out⟩
  case round =>
    obtain ⟨k, s', t', rfl, hk, hs, hl1, hl2, hm1, hm2, hg⟩ := hrel
    have HS := hid hs
    have HL := hid (And.intro hl1 hl2)
    have HM1 := hid hm1
    have HM2 := hid hm2
    have HGr := hid hg
    clear hs hl1 hl2 hm1 hm2 hg
    by_cases hkn : k < n
    · obtain ⟨b, off, hA, hbs, hc⟩ := HR.out.2 0 (by omega)
      have c0 := keep1 HGr.out.2.2.1 (keep1 HB.out (hc k hkn))
      have C1 := hid (keep1 HB.out (hc (n - 1 - k) (by omega)))
      have HX := hid (show zs.getD k 0 = zs.getD k 0 from rfl)
      have HY := hid (show zs.getD (n - 1 - k) 0 = zs.getD (n - 1 - k) 0 from rfl)
      have HIX : Hid (∀ y, (y = zs.getD k 0 ∨ ∃ j, j < k ∧ y = zs.getD j 0) ↔ ∃ j, j < k + 1 ∧ y = zs.getD j 0) := hid (fun y => by
        constructor
        · rintro (h | ⟨j, hj, h⟩)
          · exact ⟨k, by omega, h⟩
          · exact ⟨j, by omega, h⟩
        · rintro ⟨j, hj, h⟩
          by_cases e : j = k
          · subst e; exact Or.inl h
          · exact Or.inr ⟨j, by omega, h⟩)
      have HIY : Hid (∀ y, (y = zs.getD (n - 1 - k) 0 ∨ ∃ j, j < k ∧ y = zs.getD (n - 1 - j) 0) ↔ ∃ j, j < k + 1 ∧ y = zs.getD (n - 1 - j) 0) := hid (fun y => by
        constructor
        · rintro (h | ⟨j, hj, h⟩)
          · exact ⟨k, by omega, h⟩
          · exact ⟨j, by omega, h⟩
        · rintro ⟨j, hj, h⟩
          by_cases e : j = k
          · subst e; exact Or.inl h
          · exact Or.inr ⟨j, by omega, h⟩)
      generalize zs.getD k 0 = x at c0 HX HIX
      generalize zs.getD (n - 1 - k) 0 = y at C1 HY HIY
      subst hA
      have hki : (k : Int) < n := by omega
      have hkc : ((n - 1 - k : Nat) : Int) = n - 1 - k := by omega
      have HKC := hid hkc
      clear hc hkc
      go_wp2_with fail
      refine (Gr.insert w1.heap.size ta s' x _ HGr.out.1 HGr.out.2.2.1.size (by have := HL.out.1; omega)).mono ?_
      rintro e w4 ⟨s2, rfl, hl2, hg2, hc2, hn2⟩
      have HG4 := hid (HGr.out.act hg2 hc2 hn2)
      have HL2 := hid hl2
      clear hl2 hg2 hc2 hn2 c0
      have c1 : w4.cell? ⟨b, off + (n - 1 - k), none⟩ = some (.int .i64 y) := keep1 HG4.out.2.2.1 C1.out
      have i0 : (0 : Int) ≤ n - 1 - k := by omega
      have i1 : (n : Int) - 1 - k < n := by omega
      have i2 : ((n : Int) - 1 - k).toNat = n - 1 - k := by omega
      go_wp2_with fail
      refine (Gr.insert w1.heap.size tb t' y _ HG4.out.2.1 HG4.out.2.2.1.size (by have := HL.out.2; omega)).mono ?_
      rintro e w5 ⟨t2, rfl, hl3, hg3, hc3, hn3⟩
      have HG5 := hid (HG4.out.symm.act hg3 hc3 hn3).symm
      have HL3 := hid hl3
      clear hl3 hg3 hc3 hn3 c1
      go_wp2_with fail
      go_roundg (n - (k + 1))
      case measure => have := HS.out; omega
      case rel =>
        refine ⟨k + 1, s2, t2, by go_num, by omega, rfl, ?_, ?_, fun z => ?_, fun z => ?_, HG5.out⟩
        · rw [HL2.out]; have h1 := @ins_len x s'.list; have := HL.out.1; omega
        · rw [HL3.out]; have h1 := @ins_len y t'.list; have := HL.out.2; omega
        · rw [HL2.out, mem_ins, HM1.out, HIX.out]
        · rw [HL3.out, mem_ins, HM2.out, HIY.out]
    · obtain rfl : k = n := by omega
      have hki : ¬ (k : Int) < k := by omega
      have HLL : Hid (t'.list = s'.list) := hid (srt_eq HGr.out.2.1.2.2.1 HGr.out.1.2.2.1 (fun y => by
        rw [HM1.out, HM2.out]
        constructor
        · rintro ⟨j, hj, h⟩; exact ⟨k - 1 - j, by omega, h⟩
        · rintro ⟨j, hj, h⟩; exact ⟨k - 1 - j, by omega, by rw [show k - 1 - (k - 1 - j) = j by omega]; exact h⟩))
      have HP : Hid (∀ a b : Int, a < b → decide (b ≤ en) = true → decide (a ≤ en) = true) := hid (fun a b h1 h2 => by simp at h2 ⊢; omega)
      go_wp2_with fail
      refine (Rb.fold1 ta w.heap.size s' (fun y => decide (y ≤ en)) _ HGr.out.1.1 (by have := HL.out.1; omega) (fun y w' hb => Folds.le1 _ y en w' (keep1 hb (keep1 HGr.out.2.2.1 HK1.out)))).mono ?_
      rintro e w4 ⟨X1, x1, y1, o1, rfl, hp1, hb4⟩
      rw [foldT_eq _ HP.out s' [] HGr.out.1.2.2.1, List.nil_append] at hp1
      have HP1 := hid hp1
      have HG4 := hid (HGr.out.below hb4)
      clear hp1 hb4
      go_wp2_with fail
      refine (Rb.fold2 tb w.heap.size t' (fun y => decide (y ≤ en)) _ HG4.out.2.1.1 (by have := HL.out.2; omega) (fun y w' hb => Folds.le2 _ y en w' (keep1 hb (keep1 HG4.out.2.2.1 HK1.out)))).mono ?_
      rintro e w5 ⟨X2, x2, y2, o2, rfl, hp2, hb5⟩
      rw [foldT_eq _ HP.out t' [] HG4.out.2.1.2.2.1, List.nil_append, HLL.out] at hp2
      have HP2 := hid hp2
      have HP1 := hid (HP1.out.below hb5)
      have HG5 := hid (HG4.out.below hb5)
      clear hp2 hb5
      go_wp2_with fail
      refine (Rb.fold3 ta s' (fun _ => true) _ HG5.out.1.1 (by have := HL.out.1; omega) (fun y w' _ => Folds.yes y w')).mono ?_
      rintro e w6 ⟨X3, x3, y3, o3, rfl, hp3, hb6⟩
      rw [foldT_eq (fun _ => true) (fun _ _ _ _ => rfl) s' [] HG5.out.1.2.2.1, List.nil_append, List.filter_eq_self.2 (fun _ _ => rfl)] at hp3
      have HP3 := hid hp3
      have HP1 := hid (HP1.out.below hb6)
      have HP2 := hid (HP2.out.below hb6)
      have HG6 := hid (HG5.out.below hb6)
      clear hp3 hb6
      go_wp2_with fail
      refine (Rb.fold4 ta s' (fun _ => false) _ HG6.out.1.1 (by have := HL.out.1; omega) (fun y w' _ => Folds.no y w')).mono ?_
      rintro e w7 ⟨X4, x4, y4, o4, rfl, hp4, hb7⟩
      rw [foldT_eq (fun _ => false) (fun _ _ _ h => h) s' [] HG6.out.1.2.2.1, List.nil_append, List.filter_eq_nil_iff.2 (fun _ _ => by simp)] at hp4
      obtain ⟨rfl, rfl, rfl⟩ : X4 = none ∧ x4 = 0 ∧ o4 = false := by
        rcases hp4 with ⟨h1, h2, _⟩ | ⟨_, s, cap, _, h3, _⟩
        · injection h1 with e1 e2 e3; exact ⟨e1, e2, h2⟩
        · simp at h3
      have HP1 := hid (HP1.out.below hb7)
      have HP2 := hid (HP2.out.below hb7)
      have HP3 := hid (HP3.out.below hb7)
      have HG7 := hid (HG6.out.below hb7)
      clear hp4 hb7
      go_wp2_with fail
      refine (Rb.all ta s' _ HG7.out.1.1 (by have := HL.out.1; omega)).mono ?_
      rintro e w8 ⟨X5, x5, y5, rfl, ho5, hb8, _, _⟩
      have HO5 := hid ho5
      have HP1 := hid (HP1.out.below hb8)
      have HP2 := hid (HP2.out.below hb8)
      have HP3 := hid (HP3.out.below hb8)
      have HG8 := hid (HG7.out.below hb8)
      have HX5 := hid ho5.len
      clear ho5 hb8
      go_wp2_with fail
      have hx5 : x5 = s'.list.length := HX5.out.symm
      have HX5' := hid hx5
      clear hx5
      have K8 : w8.cell? ⟨w.heap.size, 0, none⟩ = some (.int .i64 en) := keep1 HG8.out.2.2.1 HK1.out
      have hxb : x5 ≤ 200 := by have := HX5'.out; have := HL.out.1; omega
      have hxi : (x5 : Int) ≤ 200 := by omega
      go_loopg [17, 73] x5 (fun s a b wr => wr = w8 ∧ ∃ (j cnt : Nat), a = .int .i64 cnt ∧ b = .int .i64 j ∧ j ≤ x5 ∧ s = x5 - j ∧ cnt = ((s'.list.take j).filter (fun y => decide (y ≤ en))).length ∧ cnt ≤ j)
      case atStart => exact ⟨rfl, 0, 0, rfl, rfl, Nat.zero_le _, by omega, by simp, Nat.le_refl _⟩
      case round =>
        obtain ⟨rfl, j, cnt, rfl, rfl, hj, hs, hct, hcj⟩ := hrel
        have HSJ := hid hs
        have HCT := hid hct
        have HCJ := hid hcj
        clear hs hct
        by_cases hjx : j < x5
        · obtain ⟨b5, off5, hA5, _, hc5⟩ := HO5.out.rdi.2 0 (by omega)
          have c5 := hc5 j hjx
          have HNX := hid (filter_take_succ (fun y => decide (y ≤ en)) s'.list (k := j) (by have := HX5'.out; omega))
          generalize s'.list.getD j 0 = z at c5 HNX
          subst hA5
          have hji : (j : Int) < x5 := by omega
          have hci : (cnt : Int) ≤ j := by omega
          clear hc5
          by_cases hz : z ≤ en
          · go_wp2_with fail
            go_roundg (x5 - (j + 1))
            case measure => have := HSJ.out; omega
            case rel => exact ⟨rfl, j + 1, cnt + 1, by go_num, by go_num, by omega, rfl, by rw [HNX.out, HCT.out, if_pos (by simpa using hz)], by omega⟩
          · go_wp2_with fail
            go_roundg (x5 - (j + 1))
            case measure => have := HSJ.out; omega
            case rel => exact ⟨rfl, j + 1, cnt, rfl, by go_num, by omega, rfl, by rw [HNX.out, HCT.out, if_neg (by simpa using hz)]; rfl, by omega⟩
        · obtain rfl : j = x5 := by omega
          have hji : ¬ (j : Int) < j := by omega
          have HCF : Hid (cnt = (s'.list.filter (fun y => decide (y ≤ en))).length) := hid (by rw [HCT.out, List.take_of_length_le (by have := HX5'.out; omega)])
          have q1 := HP1.out.rd
          have q2 := HP2.out.rd
          have q3 := HP3.out.rd
          have HQ1 := hid q1.1
          have HQ2 := hid q2.1
          have HQ3 := hid q3.1
          have n1 := q1.1.1
          have n2 := q2.1.1
          have n3 := q3.1.1
          have ho1 : o2 = o1 := by rw [q1.2, q2.2]
          have b1 : o1 = decide ((0 : Int) < (cnt : Int)) := by
            have hc := HCF.out
            rw [q1.2]
            cases hL : s'.list.filter (fun y => decide (y ≤ en)) with
            | nil => rw [hL] at hc; simp at hc; subst hc; rfl
            | cons u us => rw [hL] at hc; simp at hc; subst hc; simp <;> omega
          have b3 : o3 = decide ((0 : Int) < (s'.list.length : Int)) := by
            rw [q3.2]
            cases hL : s'.list with
            | nil => rfl
            | cons u us => simp <;> omega
          have HN := hid (And.intro n1 (And.intro n2 n3))
          have HFT := hid (take_filter HP.out HGr.out.1.2.2.1)
          subst ho1
          subst b1
          subst b3
          clear n1 n2 n3 q1 q2 q3 K8
          go_wp2_with fail
          refine (Sls.equal _ _ _ _ _ _ _ _ _ HQ1.out HQ2.out (by have := HN.out.1; have := List.length_filter_le (fun y : Int => decide (y ≤ en)) s'.list; have := HL.out.1; omega) (by have := HN.out.2.1; have := List.length_filter_le (fun y : Int => decide (y ≤ en)) s'.list; have := HL.out.1; omega)).mono ?_
          rintro e v1 ⟨rfl, hb1⟩
          rw [beq_self_eq_true]
          have HG9 := hid (HG8.out.below hb1)
          have HQ1 := hid (HQ1.out.below hb1)
          have HQ3 := hid (HQ3.out.below hb1)
          clear hb1
          have hcm : (cnt : Int) ≤ j := by have := HCJ.out; omega
          go_wp2_with fail
          refine (Rb.all ta s' _ HG9.out.1.1 (by have := HL.out.1; omega)).mono ?_
          rintro e v2 ⟨X6, x6, y6, rfl, ho6, hb2, _, _⟩
          have HO6 := hid ho6
          have HG10 := hid (HG9.out.below hb2)
          have HQ1 := hid (HQ1.out.below hb2)
          have HQ3 := hid (HQ3.out.below hb2)
          have hx6 : x6 = j := by have := ho6.len; have := HX5'.out; omega
          have h6c : (cnt : Int) ≤ y6 := by have := ho6.cap; omega
          subst hx6
          clear ho6 hb2
          go_wp2_with fail
          refine (Sls.equal _ _ _ _ _ _ _ _ _ HQ1.out (HO6.out.rdi.take HCJ.out) (by have := HN.out.1; have := HCF.out; omega) (by omega)).mono ?_
          rintro e v3 ⟨rfl, hb3⟩
          rw [show (s'.list.filter (fun y => decide (y ≤ en)) == s'.list.take cnt) = true by rw [HCF.out, HFT.out, beq_self_eq_true]]
          have HG11 := hid (HG10.out.below hb3)
          have HQ3 := hid (HQ3.out.below hb3)
          clear hb3
          go_wp2_with fail
          refine (Rb.all ta s' _ HG11.out.1.1 (by have := HL.out.1; omega)).mono ?_
          rintro e v4 ⟨X7, x7, y7, rfl, ho7, hb4, _, _⟩
          have HO7 := hid ho7
          have HG12 := hid (HG11.out.below hb4)
          have HQ3 := hid (HQ3.out.below hb4)
          clear ho7 hb4
          go_wp2_with fail
          refine (Sls.equal _ _ _ _ _ _ _ _ _ HQ3.out HO7.out.rdi (by have := HN.out.2.2; have := HL.out.1; omega) (by have := HO7.out.len; have := HL.out.1; omega)).mono ?_
          rintro e v5 ⟨rfl, hb5⟩
          rw [beq_self_eq_true]
          have HG13 := hid (HG12.out.below hb5)
          clear hb5
          go_wp2_with fail
          refine (Rb.len ta s' _ HG13.out.1.1).mono ?_
          rintro e v6 ⟨rfl, hb6⟩
          have HG14 := hid (HG13.out.below hb6)
          clear hb6
          go_wp2_with fail
          refine (Rb.all ta s' _ HG14.out.1.1 (by have := HL.out.1; omega)).mono ?_
          rintro e v7 ⟨X8, x8, y8, rfl, ho8, hb7, _, _⟩
          have HO8 := hid ho8.rdi
          have HN8 := hid ho8.len
          have HG15 := hid (HG14.out.below hb7)
          clear ho8 hb7
          go_wp2_with fail
          refine (Rb.all tb t' _ HG15.out.2.1.1 (by have := HL.out.2; omega)).mono ?_
          rintro e v8 ⟨X9, x9, y9, rfl, ho9, hb8, _, _⟩
          have HO9 := hid ho9
          have HO8 := hid (HO8.out.below hb8)
          have HG16 := hid (HG15.out.below hb8)
          clear ho9 hb8
          go_wp2_with fail
          refine (Sls.equal _ _ _ _ _ _ _ _ _ HO8.out HO9.out.rdi (by have := HN8.out; have := HL.out.1; omega) (by have := HO9.out.len; have := HL.out.2; omega)).mono ?_
          rintro e v9 ⟨rfl, hb9⟩
          rw [HLL.out, beq_self_eq_true]
          have HG17 := hid (HG16.out.below hb9)
          clear hb9
          go_wp2_with fail
          go_ret
          exact ⟨rfl, below_on HB.out HG17.out.2.2.1⟩

theorem Rfolds.law (A : Option Addr) (n c : Nat) (zs : List Int) (en : Int) (w : World) (h : RdU .i64 w A n zs ∧ (∀ z ∈ zs, (Lit.int .i64 z).wf = true) ∧ n ≤ c ∧ n ≤ 9223372036854775807) {p : Prop} (_ : p) :
    Calls Try.prog 10 #[.slice A n c, .int .i64 en] w (Ans (.bool true) w) := by
  by_cases hn : n ≤ 200
  · exact Rfolds.core A n c zs en hn w h.1
  · exact Rfolds.away A n c en (by omega) h.2.2.2 w

end Go.Proofs.Ytcnmobehamgmbaa

/- Texts of LagMoves's proof, together. -/
import Derived.Test.YtoioeginfhkjjaaGreatDoorLagMovesZ49
import Derived.Test.YtoioeginfhkjjaaGreatDoorLagMovesZ22
namespace Go.Proofs.YtoioeginfhkjjaaGreatDoor
/- The laws of layer 10: the chapter's example; who is near. -/
section
open Go.RowKit

theorem RdP.new1 (w : World) (t : TypeId) (a b c : Int) : RdP (w.alloc (.cells #[.int .u64 a, .int .u32 b, .int .u32 c] t)) (some ⟨w.heap.size, 0, none⟩) 1 [(a, b, c)] :=
  ⟨rfl, fun _ _ => ⟨_, 0, rfl, by simp, fun j hj => by
    rcases j with _ | j
    · simp [go_sem]
    · omega⟩⟩
theorem ex10p : PIn (10, 0, 1) := ⟨⟨by decide, by decide⟩, ⟨by decide, by decide⟩, by decide, by decide⟩
theorem ex10 : Mu.of 0 [(10, 0, 1)] = (true, (Mu.mk 0 10 1 1)) := by
  rw [of_yes 0 (l := [(10, 0, 1)]) (fun p hp => by
    simp at hp
    subst hp
    exact ⟨by decide, ex10p⟩) (by decide)]
  rfl
theorem ex10in : (Mu.mk 0 10 1 1).In := by unfold Mu.In WR; refine ⟨⟨?_, ?_⟩, ⟨?_, ?_⟩, ⟨?_, ?_⟩, ?_, ?_⟩ <;> decide
theorem ex10pl : (Mu.mk 0 10 1 1).place 0 1 2 = (true, (6, 0, 1)) := by first | rfl | decide +kernel

set_option maxRecDepth 100000 in
set_option maxHeartbeats 4000000 in
theorem Law10.awake (w : World) (htab : Tab10 w.heap.size w) : Calls Tryz.prog 53 #[] w (Ans (.bool true) w) := by
  have HT := hid htab
  have HB0 := hid ((Below.refl w.heap.size w).alloc (Nat.le_refl _) (.cells #[.int .u64 10, .int .u32 0, .int .u32 1] 29))
  have HR := hid (RdP.new1 w 29 10 0 1)
  clear htab
  go_enter Tryz.func53, Tryz.ntmps53
  go_wp2_with fail
  generalize w.alloc (.cells #[.int .u64 10, .int .u32 0, .int .u32 1] 29) = W0 at HB0 HR ⊢
  refine (Mean.of 0 ⟨by decide, by decide⟩ (some ⟨w.heap.size, 0, none⟩) 1 1 [(10, 0, 1)] _ HR.out (fun p hp => by
    simp at hp
    subst hp
    exact ex10p) (by decide)).mono ?_
  rw [ex10]
  rintro e w1 ⟨rfl, hb⟩
  have HB1 := hid (below_on (below_on HB0.out hb) ((Below.refl w1.heap.size w1).alloc (Nat.le_refl _) (.cells #[.int .u64 0, .int .i64 (hiW 10), .int .u64 (loW 10), .int .u64 1, .int .i64 1] 36)))
  have HC1 : Hid (Cs (w1.alloc (.cells #[.int .u64 0, .int .i64 (hiW 10), .int .u64 (loW 10), .int .u64 1, .int .i64 1] 36)) w1.heap.size (Mu.mk 0 10 1 1).cells) := hid (Cs.alloc_new6 w1 _ (Mu.mk 0 10 1 1).cells)
  clear hb HB0 HR
  go_wp2_with fail
  generalize w1.alloc (.cells #[.int .u64 0, .int .i64 (hiW 10), .int .u64 (loW 10), .int .u64 1, .int .i64 1] 36) = W1 at HB1 HC1 ⊢
  generalize w1.heap.size = g at HC1 ⊢
  refine (Place.place (Mu.mk 0 10 1 1) 0 1 2 ex10in (by decide) (by decide) (by decide) (by decide) _).mono ?_
  rw [ex10pl]
  rintro e w2 ⟨rfl, hb⟩
  have HB2 := hid (below_on (below_on HB1.out hb) ((Below.refl w2.heap.size w2).alloc (Nat.le_refl _) (.cells #[.int .u64 6, .int .u32 0, .int .u32 1] 29)))
  have HC2 : Hid (Cs (w2.alloc (.cells #[.int .u64 6, .int .u32 0, .int .u32 1] 29)) w2.heap.size [.int .u64 6, .int .u32 0, .int .u32 1]) := hid (Cs.alloc_new6 w2 _ [.int .u64 6, .int .u32 0, .int .u32 1])
  clear hb HB1 HC1
  go_wp2_with fail
  generalize w2.alloc (.cells #[.int .u64 6, .int .u32 0, .int .u32 1] 29) = W2 at HB2 HC2 ⊢
  generalize w2.heap.size = g2 at HC2 ⊢
  refine (Law9.Awake _ (HT.out.at2 HB2.out)).mono ?_
  rintro e w3 ⟨rfl, hb⟩
  have HB3 := hid (below_on HB2.out hb)
  have HC3 := hid (HC2.out.below hb)
  obtain ⟨m0, m1, m2⟩ := HC3.out.three
  clear hb HB2 HC2
  go_wp2_with fail
  go_ret
  exact ⟨rfl, HB3.out⟩

/-- What near answers. -/
def NrAns (t : Int) (l : List P3) (w : World) (e : Ending) (w' : World) : Prop :=
  ∃ (ok : Bool) (m : Mu), e = .returned (.tuple #[m.val, .bool ok]) ∧ ((ok = true ∧ Ring t l ∧ m = (Mu.sums t l)) ∨ (ok = false ∧ m = Mu.no)) ∧ Below w.heap.size w w'
theorem N1.put {w w1 : World} {a b c d e : Value} (h : Cs w1 w.heap.size [a, b, c, d, e]) (hb : Below w.heap.size w w1) {a' b' c' d' e' : Value} {W : World} (hW : W = w1.setCells w.heap.size 0 [a', b', c', d', e']) : Cs W w.heap.size [a', b', c', d', e'] ∧ Below w.heap.size w W := by
  rw [hW]; exact ⟨Cs.putL _ 0 h (by simp), below_sets (Nat.le_refl _) _ _ hb⟩
set_option maxRecDepth 100000 in
set_option maxHeartbeats 8000000 in
theorem Law10.near (t : Int) (ht : IsT t) (A : Option Addr) (n c : Nat) (l : List P3) (w : World) (hr : RdP w A n l) (hl : ∀ q ∈ l, PIn q) :
    Calls Tryz.prog 56 #[.int .u64 t, .slice A n c] w (NrAns t l w) := by
  have HR := hid hr
  have HL := hid hl
  have HTT := hid ht
  have HLN := hid hr.1
  have HB0 := hid ((Below.refl w.heap.size w).alloc (Nat.le_refl _) (.cells #[.int .u64 0, .int .i64 0, .int .u64 0, .int .u64 0, .int .i64 0] 36))
  have HC0 : Hid (Cs (w.alloc (.cells #[.int .u64 0, .int .i64 0, .int .u64 0, .int .u64 0, .int .i64 0] 36)) w.heap.size [.int .u64 0, .int .i64 0, .int .u64 0, .int .u64 0, .int .i64 0]) := hid (Cs.alloc_new6 w _ [.int .u64 0, .int .i64 0, .int .u64 0, .int .u64 0, .int .i64 0])
  clear hr hl ht
  by_cases hn : n = 0 ∨ 31 < n
  · rcases hn with rfl | hn
    · go_enter Tryz.func56, Tryz.ntmps56
      generalize hW : w.alloc (.cells #[.int .u64 0, .int .i64 0, .int .u64 0, .int .u64 0, .int .i64 0] 36) = W0 at HB0 HC0
      clear hW HB0 HC0
      go_wp2_with fail
      refine bodyPost_ret (v := .tuple #[Mu.val Mu.no, .bool false]) (by simp [results, Tryz.results56, go_sem, hiW0, loW0]) rfl ⟨false, Mu.no, rfl, Or.inr ⟨rfl, rfl⟩, ?_⟩
      exact (Below.refl _ _).alloc (Nat.le_refl _) _
    · have hn' : (31 : Int) < n := by omega
      go_enter Tryz.func56, Tryz.ntmps56
      generalize hW : w.alloc (.cells #[.int .u64 0, .int .i64 0, .int .u64 0, .int .u64 0, .int .i64 0] 36) = W0 at HB0 HC0
      clear hW HB0 HC0
      go_wp2_with fail
      refine bodyPost_ret (v := .tuple #[Mu.val Mu.no, .bool false]) (by simp [results, Tryz.results56, go_sem, hiW0, loW0]) rfl ⟨false, Mu.no, rfl, Or.inr ⟨rfl, rfl⟩, ?_⟩
      exact (Below.refl _ _).alloc (Nat.le_refl _) _
  · have h2 : ¬ (31 : Int) < (n : Int) := by omega
    have h3 : ((n : Int) == 0) = false := by rw [beq_eq_false_iff_ne]; omega
    have HNN : Hid (0 < n ∧ n ≤ 31) := hid (by omega)
    have hni : (n : Int) ≤ 31 := by omega
    clear hn
    go_enter Tryz.func56, Tryz.ntmps56
    go_wp2_with fail
    generalize w.alloc (.cells #[.int .u64 0, .int .i64 0, .int .u64 0, .int .u64 0, .int .i64 0] 36) = W0 at HB0 HC0 ⊢
    go_loopg [20] n (fun s i wr => ∃ k : Nat, i = .int .i64 k ∧ k ≤ n ∧ s = n - k ∧ (∀ p ∈ l.take k, NrP 576460752303423488 t p) ∧ Cs wr w.heap.size [.int .u64 0, .int .i64 0, .int .u64 0, .int .u64 0, .int .i64 0] ∧ Below w.heap.size w wr)
    case atStart => exact ⟨0, rfl, Nat.zero_le _, by omega, (by simp), HC0.out, HB0.out⟩
    case round =>
      obtain ⟨k, rfl, hk, hs, hnr, hcz, hb⟩ := hrel
      have HS := hid hs
      have HNR := hid hnr
      have HB := hid hb
      have HC := hid hcz
      clear hs hnr hb hcz HB0 HC0
      by_cases hkn : k < n
      · obtain ⟨bb, off, hA, _, hc⟩ := (HR.out.below HB.out).2 0 (by omega)
        obtain ⟨p0, p1, p2⟩ := hc k hkn
        have hkl : k < l.length := by have := HLN.out; omega
        have HX := hid (HL.out _ (getD_mem hkl))
        have HNK := hid (fun hx => mem_take1 (C := fun p => NrP 576460752303423488 t p) hkl HNR.out hx)
        generalize l.getD k (0, 0, 0) = x at *
        subst hA
        have hki : (k : Int) < n := by omega
        clear hc hkl
        have ha := (Below.refl wr.heap.size wr).alloc (Nat.le_refl _) (.cells #[.int .u64 x.1, .int .u32 x.2.1, .int .u32 x.2.2] 29)
        have HBa := hid (below_on HB.out ha)
        have HCa := hid (HC.out.below ha)
        have HXc : Hid (Cs (wr.alloc (.cells #[.int .u64 x.1, .int .u32 x.2.1, .int .u32 x.2.2] 29)) wr.heap.size (pcells x)) := hid (Cs.alloc_new6 wr 29 (pcells x))
        clear ha
        go_wp2_with fail
        refine (Vtime.since x.1 t _).mono ?_
        rintro e w2 ⟨rfl, hb⟩
        have HB2 := hid (below_on HBa.out hb)
        have HC2 := hid (HCa.out.below hb)
        have HXd := hid (HXc.out.below hb)
        obtain ⟨q0, q1, q2⟩ := P3.at x HXd.out
        clear hb HBa HXc HCa p0 p1 p2
        go_wp2_with fail
        refine (Pos.rightF x _).mono ?_
        rintro e w3 ⟨rfl, hb⟩
        have HB3 := hid (below_on HB2.out hb)
        have HC3 := hid (HC2.out.below hb)
        clear hb HB2 HC2 HXd q0 q1 q2
        cases hpr : pR x with
        | false =>
          have HCr := hid HC3.out
          go_wp2_with (first | ((with_reducible refine wpList_put_cs 36 [.int .u64 0, .int .i64 0, .int .u64 0, .int .u64 0, .int .i64 0] infoMean rfl (.tmp 4) (.tmp 39) rfl w.heap.size _ HCr.out ?h7001_1 ?h7001_2 ?h7001_3 ?h7001_4 ?h7001_5 ?h7001_6); (case h7001_1 => rfl); (case h7001_2 => rfl); (case h7001_3 => rfl); (case h7001_4 => rfl); (case h7001_5 => rfl); (intro W2 hW2); (have HW := hid (N1.put HC3.out HB3.out hW2)); (clear hW2)) | fail)
          obtain ⟨z0, z1, z2, z3, z4⟩ := HW.out.1.five
          go_wp2_with fail
          refine bodyPost_ret (v := .tuple #[Mu.val Mu.no, .bool false]) (by simp [results, Tryz.results56, go_sem, z0, z1, z2, z3, z4, hiW0, loW0]) rfl ⟨false, Mu.no, rfl, Or.inr ⟨rfl, rfl⟩, HW.out.2⟩
        | true =>
          have HPR := hid hpr
          clear hpr
          by_cases g1 : dif x.1 t ≤ -576460752303423488
          · skip
            have HCr := hid HC3.out
            go_wp2_with (first | ((with_reducible refine wpList_put_cs 36 [.int .u64 0, .int .i64 0, .int .u64 0, .int .u64 0, .int .i64 0] infoMean rfl (.tmp 4) (.tmp 39) rfl w.heap.size _ HCr.out ?h7002_1 ?h7002_2 ?h7002_3 ?h7002_4 ?h7002_5 ?h7002_6); (case h7002_1 => rfl); (case h7002_2 => rfl); (case h7002_3 => rfl); (case h7002_4 => rfl); (case h7002_5 => rfl); (intro W2 hW2); (have HW := hid (N1.put HC3.out HB3.out hW2)); (clear hW2)) | fail)
            obtain ⟨z0, z1, z2, z3, z4⟩ := HW.out.1.five
            go_wp2_with fail
            refine bodyPost_ret (v := .tuple #[Mu.val Mu.no, .bool false]) (by simp [results, Tryz.results56, go_sem, z0, z1, z2, z3, z4, hiW0, loW0]) rfl ⟨false, Mu.no, rfl, Or.inr ⟨rfl, rfl⟩, HW.out.2⟩
          · by_cases g2 : 576460752303423488 ≤ dif x.1 t
            · skip
              have HCr := hid HC3.out
              go_wp2_with (first | ((with_reducible refine wpList_put_cs 36 [.int .u64 0, .int .i64 0, .int .u64 0, .int .u64 0, .int .i64 0] infoMean rfl (.tmp 4) (.tmp 39) rfl w.heap.size _ HCr.out ?h7003_1 ?h7003_2 ?h7003_3 ?h7003_4 ?h7003_5 ?h7003_6); (case h7003_1 => rfl); (case h7003_2 => rfl); (case h7003_3 => rfl); (case h7003_4 => rfl); (case h7003_5 => rfl); (intro W2 hW2); (have HW := hid (N1.put HC3.out HB3.out hW2)); (clear hW2)) | fail)
              obtain ⟨z0, z1, z2, z3, z4⟩ := HW.out.1.five
              go_wp2_with fail
              refine bodyPost_ret (v := .tuple #[Mu.val Mu.no, .bool false]) (by simp [results, Tryz.results56, go_sem, z0, z1, z2, z3, z4, hiW0, loW0]) rfl ⟨false, Mu.no, rfl, Or.inr ⟨rfl, rfl⟩, HW.out.2⟩
            · have HN := hid (HNK.out ⟨⟨HPR.out, HX.out⟩, by omega, by omega⟩)
              go_wp2_with fail
              go_roundg (n - (k + 1))
              case measure => have := HS.out; omega
              case rel => exact ⟨k + 1, by go_num, by omega, rfl, HN.out, HC3.out, HB3.out⟩
      · obtain rfl : k = n := by omega
        have hki : ¬ (k : Int) < k := by omega
        have HNL : Hid (∀ p ∈ l, NrP 576460752303423488 t p) := hid (by have := HNR.out; rwa [List.take_of_length_le (by have := HLN.out; omega)] at this)
        have HRG : Hid (Ring t l) := hid ⟨HNL.out, by have := HLN.out; have := HNN.out; omega, by have := HLN.out; have := HNN.out; omega⟩
        have E1 := hid (of_yes t HRG.out.ok (by have := HRG.out.few; omega))
        clear HNR HS
        go_wp2_with fail
        refine (Mean.of t HTT.out A k c l _ (HR.out.below HB.out) HL.out (by omega)).mono ?_
        rw [E1.out]
        rintro e w4 ⟨rfl, hb⟩
        have HB4 := hid (below_on HB.out hb)
        have HCr := hid (HC.out.below hb)
        clear hb HB HC
        go_wp2_with (first | ((with_reducible refine wpList_put_cs 36 [.int .u64 (Mu.sums t l).b, .int .i64 (hiW (Mu.sums t l).a), .int .u64 (loW (Mu.sums t l).a), .int .u64 (Mu.sums t l).w, .int .i64 (Mu.sums t l).n] infoMean rfl (.tmp 4) (.tmp 44) rfl w.heap.size _ HCr.out ?h7004_1 ?h7004_2 ?h7004_3 ?h7004_4 ?h7004_5 ?h7004_6); (case h7004_1 => rfl); (case h7004_2 => rfl); (case h7004_3 => rfl); (case h7004_4 => rfl); (case h7004_5 => rfl); (intro W2 hW2); (have HW := hid (N1.put HCr.out HB4.out hW2)); (clear hW2)) | fail)
        obtain ⟨z0, z1, z2, z3, z4⟩ := HW.out.1.five
        go_wp2_with fail
        refine bodyPost_ret (v := .tuple #[Mu.val (Mu.sums t l), .bool true]) (by simp [results, Tryz.results56, go_sem, z0, z1, z2, z3, z4]) rfl ⟨true, (Mu.sums t l), rfl, Or.inl ⟨rfl, HRG.out, rfl⟩, HW.out.2⟩
end

/- PlaceZero: the walk. -/
section
open Go.RowKit

theorem lag_wr (m : Mu) (p : P3) : WR (m.lag p).2 := by
  unfold Mu.lag
  split
  · rename_i h
    unfold Mu.ovOk at h
    simp only [Bool.and_eq_true, decide_eq_true_eq] at h
    have := right_w h.1.1.1.1 h.1.1.1.2
    exact div_wr (okW_iff.1 h.2) (by omega)
  · unfold WR; omega
theorem Ring.more_in {t : Int} {l : List P3} (ht : IsT t) (h : Ring t l) {w o : Int} (w0 : 1 ≤ w) (w1 : w ≤ 1048576) (o0 : -1125899906842624 < o) (o1 : o < 1125899906842624) : ((Mu.sums t l).more w o).In := by
  obtain ⟨_, hr, hn, a0, a1⟩ := h.add w0 w1 o0 o1
  have hb := right_bd hr
  exact ⟨ht, by unfold WR; omega, by omega, by omega⟩
theorem Ring.s_in {t : Int} {l : List P3} (ht : IsT t) (h : Ring t l) : (Mu.sums t l).In := sums_in ht h.ok (by have := h.few; omega)
/-- Where one comes in. -/
theorem Ring.place {t : Int} {l : List P3} (h : Ring t l) (clock : Int) {w o : Int} (w0 : 1 ≤ w) (w1 : w ≤ 1048576) (o0 : -1125899906842624 < o) (o1 : o < 1125899906842624) :
    (Mu.sums t l).place clock w o = (true, atP t ((Mu.sums t l).plD w o) w) := by
  obtain ⟨_, h2, h3⟩ := h.in_ w0 w1 o0 o1
  unfold Mu.place
  rw [if_pos h.right, if_neg h.n, h3, if_pos rfl, atOk_iff.2 h2]
  rfl
/-- The two means' variables. -/
def Z2v (w : World) (gm gn : Nat) (m n : Mu) (W : World) : Prop := (Cs W gm m.cells ∧ Cs W gn n.cells) ∧ Below w.heap.size w W
theorem Z2v.below {w w1 w2 : World} {gm gn : Nat} {m n : Mu} (h : Z2v w gm gn m n w1) (hb : Below w1.heap.size w1 w2) : Z2v w gm gn m n w2 := ⟨⟨h.1.1.below hb, h.1.2.below hb⟩, below_on h.2 hb⟩

set_option maxRecDepth 100000 in
set_option maxHeartbeats 16000000 in
theorem Pzero.core (t v : Int) (ht : IsT t) (v0 : 0 ≤ v) (v1 : v ≤ 4294967295) (A : Option Addr) (n c : Nat) (l : List P3) (w : World) (hr : RdP w A n l) (hl : ∀ q ∈ l, PIn q) (htab : Tab10 w.heap.size w) :
    Calls Tryz.prog 14 #[.int .u64 t, .slice A n c, .int .u32 v] w (Ans (.bool true) w) := by
  have HT := hid htab
  have HR := hid hr
  have HL := hid hl
  have HTT := hid ht
  have HV := hid (And.intro v0 v1)
  have HLN := hid hr.1
  clear hr hl htab ht v0 v1
  by_cases hv : 1 ≤ v ∧ v ≤ 1048576
  · have HVV := hid hv
    have hv1 : ¬ v < 1 := by omega
    have hv2 : ¬ 1048576 < v := by omega
    clear hv
    go_enter Tryz.func14, Tryz.ntmps14
    go_wp2_with fail
    refine (Law10.awake _ HT.out).mono ?_
    rintro e w1 ⟨rfl, hb⟩
    have HB1 := hid hb
    clear hb HT
    go_wp2_with fail
    refine (Law10.near t HTT.out A n c l _ (HR.out.below HB1.out) HL.out).mono ?_
    rintro e w2 ⟨ok, m, rfl, hor, hb⟩
    have HB2 := hid (below_on HB1.out hb)
    clear hb HB1
    rcases hor with ⟨rfl, hring, rfl⟩ | ⟨rfl, rfl⟩
    · have HRG := hid hring
      have HN31 : Hid (n ≤ 31 ∧ 0 < n) := hid (by have := hring.few; have := hring.some; have := HLN.out; omega)
      have HI1 := hid (hring.s_in HTT.out)
      have HI2 := hid (hring.more_in HTT.out HVV.out.1 HVV.out.2 (o := 0) (by decide) (by decide))
      have EP := hid (hring.place 0 HVV.out.1 HVV.out.2 (o := 0) (by decide) (by decide))
      have EA := hid (hring.add HVV.out.1 HVV.out.2 (o := 0) (by decide) (by decide)).1
      have HPI := hid (atP_right (b := t) (hring.in_ HVV.out.1 HVV.out.2 (o := 0) (by decide) (by decide)).2.1).2
      obtain ⟨fx, fy, e1, e2, e3, e4⟩ := hring.time HTT.out HVV.out.1 HVV.out.2
      have F1 := hid e1
      have F2 := hid e2
      have f3 : ¬ dif fx fy < 0 := by omega
      have f4 : ¬ 1 < dif fx fy := by omega
      clear hring e1 e2 e3 e4
      have hni : (n : Int) ≤ 31 := by have := HN31.out; omega
      have ha := (Below.refl w2.heap.size w2).alloc (Nat.le_refl _) (.cells #[.int .u64 (Mu.sums t l).b, .int .i64 (hiW (Mu.sums t l).a), .int .u64 (loW (Mu.sums t l).a), .int .u64 (Mu.sums t l).w, .int .i64 (Mu.sums t l).n] 36)
      have HC2 : Hid (Cs (w2.alloc (.cells #[.int .u64 (Mu.sums t l).b, .int .i64 (hiW (Mu.sums t l).a), .int .u64 (loW (Mu.sums t l).a), .int .u64 (Mu.sums t l).w, .int .i64 (Mu.sums t l).n] 36)) w2.heap.size (Mu.sums t l).cells ∧ Below w.heap.size w (w2.alloc (.cells #[.int .u64 (Mu.sums t l).b, .int .i64 (hiW (Mu.sums t l).a), .int .u64 (loW (Mu.sums t l).a), .int .u64 (Mu.sums t l).w, .int .i64 (Mu.sums t l).n] 36))) := hid ⟨Cs.alloc_new6 w2 _ (Mu.sums t l).cells, below_on HB2.out ha⟩
      clear ha HB2
      go_wp2_with fail
      generalize w2.alloc (.cells #[.int .u64 (Mu.sums t l).b, .int .i64 (hiW (Mu.sums t l).a), .int .u64 (loW (Mu.sums t l).a), .int .u64 (Mu.sums t l).w, .int .i64 (Mu.sums t l).n] 36) = W2 at HC2 ⊢
      generalize w2.heap.size = gm at HC2 ⊢
      try clear hv1 hv2
      obtain ⟨m0, m1, m2, m3, m4⟩ := Mu.at _ HC2.out.1
      go_wp2_with fail
      refine (Place.place (Mu.sums t l) 0 v 0 HI1.out HV.out.1 HV.out.2 (by decide) (by decide) _).mono ?_
      rw [EP.out]
      rintro e w3 ⟨rfl, hb⟩
      have ha := (Below.refl w3.heap.size w3).alloc (Nat.le_refl _) (.cells #[.int .u64 (atP t ((Mu.sums t l).plD v 0) v).1, .int .u32 (atP t ((Mu.sums t l).plD v 0) v).2.1, .int .u32 (atP t ((Mu.sums t l).plD v 0) v).2.2] 29)
      have HC3 : Hid ((Cs (w3.alloc (.cells #[.int .u64 (atP t ((Mu.sums t l).plD v 0) v).1, .int .u32 (atP t ((Mu.sums t l).plD v 0) v).2.1, .int .u32 (atP t ((Mu.sums t l).plD v 0) v).2.2] 29)) gm (Mu.sums t l).cells ∧ Cs (w3.alloc (.cells #[.int .u64 (atP t ((Mu.sums t l).plD v 0) v).1, .int .u32 (atP t ((Mu.sums t l).plD v 0) v).2.1, .int .u32 (atP t ((Mu.sums t l).plD v 0) v).2.2] 29)) w3.heap.size (pcells (atP t ((Mu.sums t l).plD v 0) v))) ∧ Below w.heap.size w (w3.alloc (.cells #[.int .u64 (atP t ((Mu.sums t l).plD v 0) v).1, .int .u32 (atP t ((Mu.sums t l).plD v 0) v).2.1, .int .u32 (atP t ((Mu.sums t l).plD v 0) v).2.2] 29))) := hid ⟨⟨(HC2.out.1.below hb).below ha, Cs.alloc_new6 w3 _ (pcells (atP t ((Mu.sums t l).plD v 0) v))⟩, below_on (below_on HC2.out.2 hb) ha⟩
      clear hb ha HC2 m0 m1 m2 m3 m4
      obtain ⟨m0, m1, m2, m3, m4⟩ := Mu.at _ HC3.out.1.1
      go_wp2_with fail
      generalize w3.alloc (.cells #[.int .u64 (atP t ((Mu.sums t l).plD v 0) v).1, .int .u32 (atP t ((Mu.sums t l).plD v 0) v).2.1, .int .u32 (atP t ((Mu.sums t l).plD v 0) v).2.2] 29) = W3 at HC3 ⊢
      generalize w3.heap.size = gp at HC3 ⊢
      clear m0 m1 m2 m3 m4
      refine (Mean.add (Mu.sums t l) (atP t ((Mu.sums t l).plD v 0) v) HI1.out HPI.out _).mono ?_
      rw [EA.out]
      rintro e w4 ⟨rfl, hb⟩
      have ha := (Below.refl w4.heap.size w4).alloc (Nat.le_refl _) (.cells #[.int .u64 ((Mu.sums t l).more v 0).b, .int .i64 (hiW ((Mu.sums t l).more v 0).a), .int .u64 (loW ((Mu.sums t l).more v 0).a), .int .u64 ((Mu.sums t l).more v 0).w, .int .i64 ((Mu.sums t l).more v 0).n] 36)
      have HC4 : Hid (Z2v w gm w4.heap.size (Mu.sums t l) ((Mu.sums t l).more v 0) (w4.alloc (.cells #[.int .u64 ((Mu.sums t l).more v 0).b, .int .i64 (hiW ((Mu.sums t l).more v 0).a), .int .u64 (loW ((Mu.sums t l).more v 0).a), .int .u64 ((Mu.sums t l).more v 0).w, .int .i64 ((Mu.sums t l).more v 0).n] 36))) := hid ⟨⟨(HC3.out.1.1.below hb).below ha, Cs.alloc_new6 w4 _ ((Mu.sums t l).more v 0).cells⟩, below_on (below_on HC3.out.2 hb) ha⟩
      clear hb ha HC3
      obtain ⟨m0, m1, m2, m3, m4⟩ := Mu.at _ HC4.out.1.1
      go_wp2_with fail
      generalize w4.alloc (.cells #[.int .u64 ((Mu.sums t l).more v 0).b, .int .i64 (hiW ((Mu.sums t l).more v 0).a), .int .u64 (loW ((Mu.sums t l).more v 0).a), .int .u64 ((Mu.sums t l).more v 0).w, .int .i64 ((Mu.sums t l).more v 0).n] 36) = W4 at HC4 ⊢
      generalize w4.heap.size = gn at HC4 ⊢
      clear m0 m1 m2 m3 m4
      refine (Mean.floor (Mu.sums t l) HI1.out _).mono ?_
      rw [F1.out]
      rintro e w5 ⟨rfl, hb⟩
      have HC5 := hid (HC4.out.below hb)
      obtain ⟨m0, m1, m2, m3, m4⟩ := Mu.at _ HC5.out.1.2
      clear hb HC4
      go_wp2_with fail
      refine (Mean.floor ((Mu.sums t l).more v 0) HI2.out _).mono ?_
      rw [F2.out]
      rintro e w6 ⟨rfl, hb⟩
      have HC6 := hid (HC5.out.below hb)
      clear hb HC5 m0 m1 m2 m3 m4
      go_wp2_with fail
      refine (Vtime.since fx fy _).mono ?_
      rintro e w7 ⟨rfl, hb⟩
      have HC7 := hid (HC6.out.below hb)
      clear hb HC6
      go_wp2_with fail
      refine (Vtime.since fx fy _).mono ?_
      rintro e w8 ⟨rfl, hb⟩
      have HC8 := hid (HC7.out.below hb)
      clear hb HC7
      go_wp2_with fail
      go_loopg [95] n (fun s i wr => ∃ j : Nat, i = .int .i64 j ∧ j ≤ n ∧ s = n - j ∧ Z2v w gm gn (Mu.sums t l) ((Mu.sums t l).more v 0) wr)
      case atStart => exact ⟨0, rfl, Nat.zero_le _, by omega, HC8.out⟩
      case round =>
        obtain ⟨j, rfl, hj, hs, hg⟩ := hrel
        have HS := hid hs
        have HG := hid hg
        clear hs hg HC8 f3 f4
        by_cases hjn : j < n
        · obtain ⟨bb, off, hA, _, hc⟩ := (HR.out.below HG.out.2).2 0 (by omega)
          obtain ⟨p0, p1, p2⟩ := hc j hjn
          have hjl : j < l.length := by have := HLN.out; omega
          have hm := getD_mem hjl
          have HX := hid (HRG.out.ok _ hm)
          obtain ⟨a, b, e1, e2, e3, _⟩ := HRG.out.other HVV.out.1 HVV.out.2 (o := 0) (by decide) (by decide) hm
          have L1 := hid e1
          have L2 := hid e2
          have e5 := e3 (by decide)
          have HWA : Hid (WR a) := hid (by have := lag_wr (Mu.sums t l) (l.getD j (0, 0, 0)); rwa [e1] at this)
          have HWB : Hid (WR b) := hid (by have := lag_wr ((Mu.sums t l).more v 0) (l.getD j (0, 0, 0)); rwa [e2] at this)
          have HOK : Hid (okW (a - b) = true) := hid (okW_bd (by omega) (by omega))
          have HSM : Hid (smI (a - b) = true) := hid (by unfold smI; rw [decide_eq_true_eq]; omega)
          have HWD := hid (okW_iff.1 HOK.out)
          have HCL := hid (clW_ok HOK.out)
          have k1 : ¬ a - b < 0 := by omega
          have k2 : ¬ 1 < a - b := by omega
          generalize l.getD j (0, 0, 0) = x at *
          subst hA
          have hji : (j : Int) < n := by omega
          have ha := (Below.refl wr.heap.size wr).alloc (Nat.le_refl _) (.cells #[.int .u64 x.1, .int .u32 x.2.1, .int .u32 x.2.2] 29)
          have HG6 : Hid (Z2v w gm gn (Mu.sums t l) ((Mu.sums t l).more v 0) (wr.alloc (.cells #[.int .u64 x.1, .int .u32 x.2.1, .int .u32 x.2.2] 29)) ∧ Cs (wr.alloc (.cells #[.int .u64 x.1, .int .u32 x.2.1, .int .u32 x.2.2] 29)) wr.heap.size (pcells x)) := hid ⟨HG.out.below ha, Cs.alloc_new6 wr _ (pcells x)⟩
          obtain ⟨m0, m1, m2, m3, m4⟩ := Mu.at _ HG6.out.1.1.1
          clear hc hjl hm ha e1 e2 e3 e5
          go_wp2_with fail
          clear m0 m1 m2 m3 m4 p0 p1 p2
          generalize wr.alloc (.cells #[.int .u64 x.1, .int .u32 x.2.1, .int .u32 x.2.2] 29) = W6 at HG6 ⊢
          generalize wr.heap.size = gp at HG6 ⊢
          refine (Lag.read (Mu.sums t l) x HI1.out HX.out.2 _).mono ?_
          rw [L1.out]
          rintro e w9 ⟨rfl, hb⟩
          have ha := (Below.refl w9.heap.size w9).alloc (Nat.le_refl _) (.cells #[.int .i64 (hiW a), .int .u64 (loW a)] 34)
          have HG7 : Hid ((Z2v w gm gn (Mu.sums t l) ((Mu.sums t l).more v 0) (w9.alloc (.cells #[.int .i64 (hiW a), .int .u64 (loW a)] 34)) ∧ Cs (w9.alloc (.cells #[.int .i64 (hiW a), .int .u64 (loW a)] 34)) gp (pcells x)) ∧ Cs (w9.alloc (.cells #[.int .i64 (hiW a), .int .u64 (loW a)] 34)) w9.heap.size [.int .i64 (hiW a), .int .u64 (loW a)]) := hid ⟨⟨(HG6.out.1.below hb).below ha, (HG6.out.2.below hb).below ha⟩, Cs.new2 w9 _ _ _⟩
          clear hb ha HG6
          obtain ⟨m0, m1, m2, m3, m4⟩ := Mu.at _ HG7.out.1.1.1.2
          obtain ⟨q0, q1, q2⟩ := P3.at x HG7.out.1.2
          go_wp2_with fail
          clear m0 m1 m2 m3 m4 q0 q1 q2
          generalize w9.alloc (.cells #[.int .i64 (hiW a), .int .u64 (loW a)] 34) = W7 at HG7 ⊢
          generalize w9.heap.size = ga at HG7 ⊢
          refine (Lag.read ((Mu.sums t l).more v 0) x HI2.out HX.out.2 _).mono ?_
          rw [L2.out]
          rintro e w10 ⟨rfl, hb⟩
          have ha := (Below.refl w10.heap.size w10).alloc (Nat.le_refl _) (.cells #[.int .i64 (hiW b), .int .u64 (loW b)] 34)
          have HG8 : Hid (Z2v w gm gn (Mu.sums t l) ((Mu.sums t l).more v 0) (w10.alloc (.cells #[.int .i64 (hiW b), .int .u64 (loW b)] 34)) ∧ Cs (w10.alloc (.cells #[.int .i64 (hiW b), .int .u64 (loW b)] 34)) ga [.int .i64 (hiW a), .int .u64 (loW a)]) := hid ⟨(HG7.out.1.1.below hb).below ha, (HG7.out.2.below hb).below ha⟩
          clear hb ha HG7
          obtain ⟨a0, a1⟩ := HG8.out.2.two
          go_wp2_with fail
          clear a0 a1
          generalize w10.alloc (.cells #[.int .i64 (hiW b), .int .u64 (loW b)] 34) = W8 at HG8 ⊢
          refine (Wide.subF HWA.out HWB.out _).mono ?_
          rw [HCL.out, HOK.out]
          rintro e w11 ⟨rfl, hb⟩
          have HG9 := hid ((HG8.out.1.below hb).below ((Below.refl _ _).alloc (Nat.le_refl _) (.cells #[.int .i64 (hiW (a - b)), .int .u64 (loW (a - b))] 34)))
          clear hb HG8
          go_wp2_with fail
          refine (Wide.smallF HWD.out _).mono ?_
          rw [HSM.out, if_pos rfl]
          rintro e w12 ⟨rfl, hb⟩
          have HG10 := hid (HG9.out.below hb)
          clear hb HG9
          go_wp2_with fail
          go_roundg (n - (j + 1))
          case measure => have := HS.out; omega
          case rel => exact ⟨j + 1, by go_num, by omega, rfl, HG10.out⟩
        · obtain rfl : j = n := by omega
          have hji : ¬ (j : Int) < j := by omega
          go_wp2_with fail
          go_ret
          exact ⟨rfl, HG.out.2⟩
    · go_wp2_with fail
      go_ret
      exact ⟨rfl, HB2.out.alloc HB2.out.size _⟩
  · go_enter Tryz.func14, Tryz.ntmps14
    go_wp2_with fail
    refine (Law10.awake _ HT.out).mono ?_
    rintro e w1 ⟨rfl, hb⟩
    have HB1 := hid hb
    clear hb HT
    go_wp2_with fail
    refine (Law10.near t HTT.out A n c l _ (HR.out.below HB1.out) HL.out).mono ?_
    rintro e w2 ⟨ok, m, rfl, hor, hb⟩
    have HB2 := hid (below_on HB1.out hb)
    clear hb HB1 hor
    by_cases h1 : v < 1
    · cases ok with
      | false =>
        go_wp2_with fail
        go_ret
        exact ⟨rfl, HB2.out.alloc HB2.out.size _⟩
      | true =>
        go_wp2_with fail
        go_ret
        exact ⟨rfl, HB2.out.alloc HB2.out.size _⟩
    · have h2 : 1048576 < v := by omega
      cases ok with
      | false =>
        go_wp2_with fail
        go_ret
        exact ⟨rfl, HB2.out.alloc HB2.out.size _⟩
      | true =>
        go_wp2_with fail
        go_ret
        exact ⟨rfl, HB2.out.alloc HB2.out.size _⟩
theorem Pzero.law (t : Int) (A : Option Addr) (n c : Nat) (l : List P3) (v : Int) (w : World) (w0 : (Lit.int .u64 t).wf = true) (h : RdP w A n l ∧ InP l ∧ n ≤ 9223372036854775807) (w2 : (Lit.int .u32 v).wf = true) (htab : Tab10 w.heap.size w) :
    Calls Tryz.prog 14 #[.int .u64 t, .slice A n c, .int .u32 v] w fun e w' => e = .returned (.bool true) ∧ Below w.heap.size w w' :=
  Pzero.core t v (bounds_u64 w0) (bounds_u32 w2).1 (bounds_u32 w2).2 A n c l w h.1 (fun q hq => h.2.1 q hq) htab
end

end Go.Proofs.YtoioeginfhkjjaaGreatDoor

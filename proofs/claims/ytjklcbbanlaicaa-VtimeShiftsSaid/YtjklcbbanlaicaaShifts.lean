/- VtimeShifts: the walk. -/
import Derived.Test.YtjklcbbanlaicaaOrder
namespace Go.Proofs.Ytjklcbbanlaicaa
open Go.RowKit

set_option maxHeartbeats 1000000 in
theorem Shifts.away (t by' : Int) (A : Option Addr) (n c : Nat) (h : 100 < n) (w : World) :
    Calls Try.prog 10 #[.int .u64 t, .int .u64 by', .slice A n c] w fun e w' => e = .returned (.bool true) ∧ Below w.heap.size w w' := by
  have h2 : (100 : Int) < (n : Int) := by omega
  clear h
  go_enter Try.func10, Try.ntmps10
  go_wp2_with fail
  refine (Law3.awake _).mono ?_
  rintro e w1 ⟨rfl, hb1⟩
  go_wp2_with fail
  go_ret
  exact ⟨rfl, hb1⟩

theorem TwoT.new (w : World) (base : Nat) (hb : base ≤ w.heap.size) (x y : Int) :
    TwoT ((w.alloc (.cells #[.int .u64 x] 54)).alloc (.cells #[.int .u64 y] 54)) base (some ⟨w.heap.size, 0, none⟩) 1 1 [x] (some ⟨w.heap.size + 1, 0, none⟩) 1 1 [y] := by
  have h1 := World.ownsRow_lit (base := base) (e := 54) (size := 1) w #[.int .u64 x] 1 hb (by decide) rfl
  have h2 := World.ownsRow_lit (base := base) (e := 54) (size := 1) (w.alloc (.cells #[.int .u64 x] 54)) #[.int .u64 y] 1 (by simp; omega) (by decide) rfl
  refine ⟨h1.alloc _, by unfold OwnT; simpa using h2, fun g hg e => ?_⟩
  simp [Value.ownBlock] at hg e
  omega

theorem dif_same (t u x : Int) : dif (adv t x) (adv t 0) = dif (adv u x) (adv u 0) := by unfold dif adv; omega

set_option maxRecDepth 100000 in
set_option maxHeartbeats 8000000 in
theorem Shifts.walk (t by' : Int) (t0 : 0 ≤ t) (t1 : t ≤ 18446744073709551615) (b0 : 0 ≤ by') (b1 : by' ≤ 18446744073709551615) (A : Option Addr) (n c : Nat) (ds : List Int) (w : World) (hz : RdU .i64 w A n ds) (hn : n ≤ 100) :
    Calls Try.prog 10 #[.int .u64 t, .int .u64 by', .slice A n c] w fun e w' => e = .returned (.bool true) ∧ Below w.heap.size w w' := by
  have HZ := hid hz
  have HL := hid hz.1
  have l1 : ¬ (100 : Int) < (n : Int) := by omega
  obtain ⟨t2, ht2⟩ : ∃ t2, IntKind.u64.wrap (t + by') = t2 := ⟨_, rfl⟩
  have HA0 := hid (show adv t 0 = t from adv_zero ⟨t0, t1⟩)
  have HA2 := hid (show adv t2 0 = t2 from adv_zero (by rw [← ht2]; unfold IsT; rw [IntKind.wrap_u64]; omega))
  have HBY := hid (show ∀ x, IntKind.u64.wrap (adv t2 x - adv t x) = by' from fun x => by rw [← ht2]; unfold adv; rw [IntKind.wrap_u64, IntKind.wrap_u64]; omega)
  clear hz t0 t1 b0 b1
  go_enter Try.func10, Try.ntmps10
  go_wp2_with fail
  refine (Law3.awake _).mono ?_
  rintro e w1 ⟨rfl, hb1⟩
  have HB1 := hid hb1
  clear hb1
  go_wp2_with fail
  go_loopg [7, 8, 9, 10, 29] n (fun g l m lo hi i wr => ∃ (k : Nat) (B : Option Addr) (b : Nat) (E : Option Addr) (e : Nat) (x y : Int), k ≤ n ∧ g = n - k ∧ i = .int .i64 k ∧ l = .slice B (k + 1) b ∧ m = .slice E (k + 1) e ∧ lo = .int .i64 x ∧ hi = .int .i64 y ∧
    Hid (TwoT wr w.heap.size B (k + 1) b ((0 :: ds.take k).map (adv t)) E (k + 1) e ((0 :: ds.take k).map (adv t2)) ∧ (∀ x ∈ ds.take k, Nr x) ∧ x = (ds.take k).foldl min 0 ∧ y = (ds.take k).foldl max 0) ∧ Below w.heap.size w wr)
  case atStart =>
    have h := TwoT.new w1 w.heap.size HB1.out.size t t2
    refine ⟨0, _, 1, _, 1, 0, 0, Nat.zero_le _, by omega, rfl, rfl, rfl, rfl, rfl, hid ⟨?_, (by intro x hx; cases hx), rfl, rfl⟩, (HB1.out.alloc HB1.out.size _).alloc (by have := HB1.out.size; simp; omega) _⟩
    simp only [List.take_zero, List.map_cons, List.map_nil]
    rw [HA0.out, HA2.out]
    exact h
  case round =>
    obtain ⟨k, B, b, E, e', lo, hi, hk, hg, rfl, rfl, rfl, rfl, rfl, hT, hb⟩ := hrel
    have HB := hid hb
    have HG := hid hg
    have hsz := hb.size
    clear hb hg
    by_cases hlt : k < n
    · obtain ⟨b2, off2, e2, hbl, hc⟩ := (HZ.out.below HB.out).2 k hlt
      subst e2
      have hcell := hc k hlt
      have HS := hid (show ∀ u, (0 :: ds.take (k + 1)).map (adv u) = (0 :: ds.take k).map (adv u) ++ [adv u (ds.getD k 0)] from fun u => by
        rw [List.map_cons, List.map_cons, take_map (by have := HL.out; omega)]; rfl)
      have HMN := hid (show (ds.take (k + 1)).foldl min 0 = min ((ds.take k).foldl min 0) (ds.getD k 0) from take_step (f := min) (by have := HL.out; omega))
      have HMX := hid (show (ds.take (k + 1)).foldl max 0 = max ((ds.take k).foldl max 0) (ds.getD k 0) from take_step (f := max) (by have := HL.out; omega))
      have HM := hid (show ∀ x ∈ ds.take (k + 1), x ∈ ds.take k ∨ x = ds.getD k 0 from fun x hx => by
        have e : ds.getD k 0 = ds[k]'(by have := HL.out; omega) := by simp [List.getD, show k < ds.length by have := HL.out; omega]
        rw [List.take_succ_eq_append_getElem (by have := HL.out; omega), ← e] at hx
        rcases List.mem_append.1 hx with hx | hx
        · exact .inl hx
        · exact .inr (by simpa using hx))
      generalize ds.getD k 0 = z at *
      clear hc
      go_upto_region 10 with fail
      clear hcell
      by_cases g1 : z ≤ -4611686018427387904
      · go_wp2_with fail
        go_ret
        exact ⟨rfl, HB.out⟩
      · by_cases g2 : 4611686018427387904 ≤ z
        · go_wp2_with fail
          go_ret
          exact ⟨rfl, HB.out⟩
        · have HN := hid (show Nr z from ⟨by omega, by omega⟩)
          go_wp2_with fail
          refine (Vtime.add t z _).mono ?_
          rintro e w2 ⟨rfl, hb2⟩
          have T2 := hid (hT.out.1.below hb2)
          have HB2 := hid (below_on HB.out hb2)
          have hsz2 := HB2.out.size
          clear hb2 g1 g2
          go_wp2_with (first | (at_builtin; refine wpList_append_two _ rfl (.tmp 39) (.tmp 43) rfl w.heap.size B (k + 1) b _ E (k + 1) e' _ rfl (T2.out.alloc _) w2.heap.size (adv t z) rfl (by simp) (by omega) (by simp; omega) ?_; intro B' b' w3 hown' hgrow; have T3 := hid hown'; have G3 := hid hgrow; clear hown' hgrow))
          have HB3 := hid ((HB2.out.alloc hsz2 _).grown G3.out (by simp; omega) (fun q hq => (World.ownsRow.lt T2.out.1 q hq).1))
          have hsz3 := HB3.out.size
          refine (Vtime.add t2 z _).mono ?_
          rintro e w4 ⟨rfl, hb4⟩
          have T4 := hid (T3.out.below hb4)
          have HB4 := hid (below_on HB3.out hb4)
          have hsz4 := HB4.out.size
          clear hb4
          go_wp2_with (first | (at_builtin; refine wpList_append_two _ rfl (.tmp 45) (.tmp 51) rfl w.heap.size E (k + 1) e' _ B' (k + 1 + 1) b' _ rfl (T4.out.flip.alloc _) w4.heap.size (adv t2 z) rfl (by simp) (by omega) (by simp; omega) ?_; intro E' d' w5 hown' hgrow; have T5 := hid hown'; have G5 := hid hgrow; clear hown' hgrow))
          have HB5 := hid ((HB4.out.alloc hsz4 _).grown G5.out (by simp; omega) (fun q hq => (World.ownsRow.lt T4.out.2.1 q hq).1))
          go_roundg (n - (k + 1))
          case measure => have := HG.out; omega
          case rel =>
            refine ⟨k + 1, B', b', E', d', _, _, by omega, rfl, by go_num, rfl, rfl, rfl, rfl, hid ⟨by rw [HS.out, HS.out]; exact T5.out.flip, fun x hx => ?_, by rw [HMN.out, ← hT.out.2.2.1], by rw [HMX.out, ← hT.out.2.2.2]⟩, HB5.out⟩
            rcases HM.out x hx with h | rfl
            · exact hT.out.2.1 x h
            · exact HN.out
    · have e1 : ds.take k = ds := List.take_of_length_le (by have := HL.out; omega)
      obtain rfl : k = n := by omega
      have hT2 := hT.out
      rw [e1] at hT2
      have HT := hid hT2.1
      have HNN := hid hT2.2.1
      have hlo := hT2.2.2.1
      have hhi := hT2.2.2.2
      clear e1 hT2 hT
      have hn0 : Nr 0 := by unfold Nr; omega
      have n1 : Nr lo := by rw [hlo]; exact foldl_min_nr hn0 HNN.out
      have n2 : Nr hi := by rw [hhi]; exact foldl_max_nr hn0 HNN.out
      have hn3 : lo ≤ hi := by have h1 := (foldl_min ds 0).1; have h2 := (foldl_max ds 0).1; omega
      have EF := hid (show ∀ u, firstL (adv u 0) ((0 :: ds).map (adv u)) = adv u lo from fun u => by rw [firstL_near u _ hn0 (fun x hx => by rcases List.mem_cons.1 hx with rfl | hx; exact hn0; exact HNN.out x hx), hlo]; rfl)
      have EL := hid (show ∀ u, lastL (adv u 0) ((0 :: ds).map (adv u)) = adv u hi from fun u => by rw [lastL_near u _ hn0 (fun x hx => by rcases List.mem_cons.1 hx with rfl | hx; exact hn0; exact HNN.out x hx), hhi]; rfl)
      have ES := hid (show ∀ u, spreadL (adv u 0 :: ds.map (adv u)) = IntKind.u64.wrap (hi - lo) from fun u => by
        have h1 := firstL_near u ds hn0 HNN.out
        have h2 := lastL_near u ds hn0 HNN.out
        show IntKind.u64.wrap (dif (lastL (adv u 0) (ds.map (adv u))) (firstL (adv u 0) (ds.map (adv u)))) = _
        rw [h1, h2, ← hlo, ← hhi, dif_near u (by unfold Nr at n1 n2; omega) (by unfold Nr at n1 n2; omega)])
      have EW := hid (show IntKind.i64.wrap (hi - lo) = hi - lo by rw [IntKind.wrap_i64]; unfold Nr at n1 n2; omega)
      have EW2 := hid (show wrap64 (hi - lo) = hi - lo by unfold wrap64; unfold Nr at n1 n2; omega)
      clear n1 n2 hn0 hlo hhi hn3
      have hR1 := HT.out.1.rd.head
      have hR2 := HT.out.2.1.rd.head
      obtain ⟨gb, go', rfl, hc0⟩ := hR1
      obtain ⟨eb, eo, rfl, hc1⟩ := hR2
      have HC0 := hid hc0
      have HC1 := hid hc1
      have l3 : (0 : Int) < (k : Int) + 1 := by omega
      clear hc0 hc1
      go_wp2_with fail
      go_loopg [62] (k + 1) (fun g i wx => ∃ (j : Nat), j ≤ k + 1 ∧ g = k + 1 - j ∧ i = .int .i64 j ∧ Hid (TwoT wx w.heap.size (some ⟨gb, go', none⟩) (k + 1) b ((0 :: ds).map (adv t)) (some ⟨eb, eo, none⟩) (k + 1) e' ((0 :: ds).map (adv t2))) ∧ Below w.heap.size w wx)
      case atStart => exact ⟨0, Nat.zero_le _, by omega, rfl, HT, HB.out⟩
      case round =>
        obtain ⟨j, hj, hg, rfl, hTj, hbj⟩ := hrel
        have HBJ := hid hbj
        have HGJ := hid hg
        clear hbj hg
        have hcL := hTj.out.1.rd.head
        obtain ⟨b3, o3, e3, hc0⟩ := hcL
        injection e3 with e3; injection e3 with e4 e5
        subst e4 e5
        have hcM := hTj.out.2.1.rd.head
        obtain ⟨b3, o3, e3, hc1⟩ := hcM
        injection e3 with e3; injection e3 with e4 e5
        subst e4 e5
        have HC0 := hid hc0
        have HC1 := hid hc1
        by_cases hlt2 : j < k + 1
        · obtain ⟨b3, o3, e3, _, hcl⟩ := hTj.out.1.rd.2 j hlt2
          injection e3 with e3; injection e3 with e4 e5
          subst e4 e5
          have hc2 := hcl j hlt2
          obtain ⟨b3, o3, e3, _, hcm⟩ := hTj.out.2.1.rd.2 j hlt2
          injection e3 with e3; injection e3 with e4 e5
          subst e4 e5
          have hc3 := hcm j hlt2
          have hget : ∀ u, ((0 :: ds).map (adv u)).getD j 0 = adv u ((0 :: ds).getD j 0) := fun u => by
            have : j < (0 :: ds).length := by have := HL.out; rw [List.length_cons]; omega
            rw [List.getD_eq_getElem?_getD, List.getElem?_map, List.getElem?_eq_getElem this]
            rw [List.getD_eq_getElem?_getD, List.getElem?_eq_getElem this]; rfl
          rw [hget] at hc2 hc3
          generalize (0 :: ds).getD j 0 = x at *
          have HC2 := hid hc2
          have HC3 := hid hc3
          have f1 : (dif (adv t x) (adv t 0) != dif (adv t2 x) (adv t2 0)) = false := by rw [bne_eq_false_iff_eq]; exact dif_same t t2 x
          have f2 : (IntKind.u64.wrap (adv t2 x - adv t x) != by') = false := by rw [bne_eq_false_iff_eq]; exact HBY.out x
          have hj3 : (j : Int) < (k : Int) + 1 := by omega
          clear hcl hcm hget hc0 hc1 hc2 hc3
          go_upto_region 18 with fail
          go_region_held3 (fun w' => (w'.cell? ⟨gb, go', none⟩ = some (.int .u64 (adv t 0)) ∧ w'.cell? ⟨eb, eo, none⟩ = some (.int .u64 (adv t2 0)) ∧ w'.cell? ⟨gb, go' + j, none⟩ = some (.int .u64 (adv t x)) ∧ w'.cell? ⟨eb, eo + j, none⟩ = some (.int .u64 (adv t2 x))) ∧ Below wr.heap.size wr w')
            (first | exact ⟨⟨HC0.out, HC1.out, HC2.out, HC3.out⟩, (Below.refl _ _).drew⟩ | exact ⟨keep4 (And.left (by assumption : _ ∧ Below wr.heap.size wr _)) hb3, below_on (And.right (by assumption : _ ∧ Below wr.heap.size wr _)) hb3⟩)
            (first
              | (go_at_call_of 42 (Value.int .u64 (adv t 0)); refine (Vtime.since (adv t x) (adv t 0) _).mono ?_; rintro e w3 ⟨rfl, hb3⟩)
              | (go_at_call_of 42 (Value.int .u64 (adv t2 0)); refine (Vtime.since (adv t2 x) (adv t2 0) _).mono ?_; rintro e w3 ⟨rfl, hb3⟩))
          have HB3 := hid (And.right (by assumption : _ ∧ Below wr.heap.size wr w3))
          have T3 := hid (hTj.out.below HB3.out)
          have HBW := hid (below_on HBJ.out HB3.out)
          go_wp2_with fail
          go_roundg (k + 1 - (j + 1))
          case measure => have := HGJ.out; omega
          case rel => exact ⟨j + 1, by omega, rfl, by go_num, T3, HBW.out⟩
        · have hj3 : ¬ (j : Int) < (k : Int) + 1 := by omega
          go_upto_region 21 with fail
          clear hc0 hc1
          go_region_held3 (fun w' => (w'.cell? ⟨gb, go', none⟩ = some (.int .u64 (adv t 0)) ∧ w'.cell? ⟨eb, eo, none⟩ = some (.int .u64 (adv t2 0))) ∧ Below wr.heap.size wr w')
            (first | exact ⟨⟨HC0.out, HC1.out⟩, (Below.refl _ _).drew⟩ | exact ⟨keep2 (And.left (by assumption : _ ∧ Below wr.heap.size wr _)) hb3, below_on (And.right (by assumption : _ ∧ Below wr.heap.size wr _)) hb3⟩)
            (first
              | (go_at_call 49; refine (Vtime.first (adv t 0) _ _ _ ((0 :: ds).map (adv t)) _ (hTj.out.1.rd.below (And.right (by assumption : _ ∧ Below wr.heap.size wr _))) (by omega)).mono ?_; rintro e w3 ⟨rfl, hb3⟩; rw [EF.out])
              | (go_at_call 51; refine (Vtime.last (adv t 0) _ _ _ ((0 :: ds).map (adv t)) _ (hTj.out.1.rd.below (And.right (by assumption : _ ∧ Below wr.heap.size wr _))) (by omega)).mono ?_; rintro e w3 ⟨rfl, hb3⟩; rw [EL.out]))
          obtain ⟨⟨_, hS4⟩, hS3⟩ : (_ ∧ _) ∧ Below wr.heap.size wr w3 := by assumption
          have T3 := hid (hTj.out.below hS3)
          have HB3 := hid (below_on HBJ.out hS3)
          have HC4 := hid hS4
          clear hS3 hb3
          go_wp2_with fail
          refine (Vtime.add t lo _).mono ?_
          rintro e w4 ⟨rfl, hb4⟩
          have T4 := hid (T3.out.below hb4)
          have HB4 := hid (below_on HB3.out hb4)
          have hc4 := keep1 hb4 HC4.out
          clear hb4
          go_wp2_with fail
          refine (Vtime.add t hi _).mono ?_
          rintro e w5 ⟨rfl, hb5⟩
          have T5 := hid (T4.out.below hb5)
          have HB5 := hid (below_on HB4.out hb5)
          have hc5 := keep1 hb5 hc4
          have f3 := HBY.out lo
          have f4 := HBY.out hi
          clear hb5 hc4
          go_wp2_with fail
          refine (Vtime.first (adv t2 0) _ _ _ ((0 :: ds).map (adv t2)) _ T5.out.2.1.rd (by omega)).mono ?_
          rw [EF.out]
          rintro e w6 ⟨rfl, hb6⟩
          have T6 := hid (T5.out.below hb6)
          have HB6 := hid (below_on HB5.out hb6)
          have hc6 := keep1 hb6 hc5
          clear hb6 hc5
          go_wp2_with fail
          refine (Vtime.last (adv t2 0) _ _ _ ((0 :: ds).map (adv t2)) _ T6.out.2.1.rd (by omega)).mono ?_
          rw [EL.out]
          rintro e w7 ⟨rfl, hb7⟩
          have T7 := hid (T6.out.below hb7)
          have HB7 := hid (below_on HB6.out hb7)
          clear hb7 hc6
          go_wp2_with fail
          refine (Vtime.spread _ k _ (adv t 0) (ds.map (adv t)) _ T7.out.1.rd T7.out.1.cap (by omega)).mono ?_
          rw [ES.out]
          rintro e w8 ⟨rfl, hb8⟩
          have T8 := hid (T7.out.below hb8)
          have HB8 := hid (below_on HB7.out hb8)
          clear hb8 f3 f4
          go_wp2_with fail
          refine (Vtime.spread _ k _ (adv t2 0) (ds.map (adv t2)) _ T8.out.2.1.rd T8.out.2.1.cap (by omega)).mono ?_
          rw [ES.out]
          rintro e w9 ⟨rfl, hb9⟩
          have T9 := hid (T8.out.below hb9)
          have HB9 := hid (below_on HB8.out hb9)
          clear hb9
          go_wp2_with fail
          refine (Vtime.spread _ k _ (adv t 0) (ds.map (adv t)) _ T9.out.1.rd T9.out.1.cap (by omega)).mono ?_
          rw [ES.out]
          rintro e w10 ⟨rfl, hb10⟩
          have HB10 := hid (below_on HB9.out hb10)
          have e1 := EW.out
          have e2 := EW2.out
          clear hb10
          go_wp2_with fail
          go_ret
          exact ⟨by simp, HB10.out⟩

theorem Shifts.law (t by' : Int) (A : Option Addr) (n c : Nat) (ds : List Int) (w : World) (w0 : (Lit.int .u64 t).wf = true) (w1 : (Lit.int .u64 by').wf = true) (h : RdU .i64 w A n ds ∧ (∀ z ∈ ds, (Lit.int .i64 z).wf = true) ∧ n ≤ c ∧ n ≤ 9223372036854775807) :
    Calls Try.prog 10 #[.int .u64 t, .int .u64 by', .slice A n c] w fun e w' => e = .returned (.bool true) ∧ Below w.heap.size w w' := by
  by_cases hn : 100 < n
  · exact Shifts.away t by' A n c hn w
  · exact Shifts.walk t by' (bounds_u64 w0).1 (bounds_u64 w0).2 (bounds_u64 w1).1 (bounds_u64 w1).2 A n c ds w h.1 (by omega)

end Go.Proofs.Ytjklcbbanlaicaa

/- VtimeOrder: the walk. -/
import Derived.Test.YtjklcbbanlaicaaNear
import Derived.Test.YtjklcbbanlaicaaOwnT2
import Derived.Test.YtjklcbbanlaicaaVturns
import Derived.Test.YtjklcbbanlaicaaOpenS
namespace Go.Proofs.Ytjklcbbanlaicaa
open Go.RowKit

/-- Nearer than 2^61. -/
def N1 (d : Int) : Prop := -2305843009213693952 < d ∧ d < 2305843009213693952
theorem N1.nr {d : Int} (h : N1 d) : Nr d := by unfold N1 at h; unfold Nr; omega
theorem rev_get {ds : List Int} {n k : Nat} (hl : ds.length = n) (hk : k < n) : ds.reverse.getD k 0 = ds.getD (n - 1 - k) 0 := by
  simp [List.getD, List.getElem?_reverse (show k < ds.length by omega), hl]
theorem take_map {f : Int → Int} {ds : List Int} {k : Nat} (hk : k < ds.length) : (ds.take (k + 1)).map f = (ds.take k).map f ++ [f (ds.getD k 0)] := by
  have e : ds.getD k 0 = ds[k] := by simp [List.getD, hk]
  rw [List.take_succ_eq_append_getElem hk, List.map_append, e]; rfl

set_option maxHeartbeats 1000000 in
theorem Order.away (t : Int) (A : Option Addr) (n c : Nat) (h : n = 0 ∨ 100 < n) (w : World) :
    Calls Try.prog 12 #[.int .u64 t, .slice A n c] w fun e w' => e = .returned (.bool true) ∧ Below w.heap.size w w' := by
  rcases h with rfl | h
  · go_enter Try.func12, Try.ntmps12
    go_wp2_with fail
    refine (Law3.awake _).mono ?_
    rintro e w1 ⟨rfl, hb1⟩
    go_wp2_with fail
    go_ret
    exact ⟨rfl, hb1⟩
  · have h2 : (100 : Int) < (n : Int) := by omega
    clear h
    go_enter Try.func12, Try.ntmps12
    go_wp2_with fail
    refine (Law3.awake _).mono ?_
    rintro e w1 ⟨rfl, hb1⟩
    go_wp2_with fail
    go_ret
    exact ⟨rfl, hb1⟩

set_option maxRecDepth 100000 in
set_option maxHeartbeats 8000000 in
theorem Order.walk (t : Int) (A : Option Addr) (n c : Nat) (ds : List Int) (w : World) (hz : RdU .i64 w A n ds) (hn0 : 0 < n) (hn : n ≤ 100) :
    Calls Try.prog 12 #[.int .u64 t, .slice A n c] w fun e w' => e = .returned (.bool true) ∧ Below w.heap.size w w' := by
  have HZ := hid hz
  have HL := hid hz.1
  have l1 : ¬ (100 : Int) < (n : Int) := by omega
  have l2 : ((n : Int) == 0) = false := by rw [beq_eq_false_iff_ne]; omega
  clear hz
  go_enter Try.func12, Try.ntmps12
  go_wp2_with fail
  refine (Law3.awake _).mono ?_
  rintro e w1 ⟨rfl, hb1⟩
  have HB1 := hid hb1
  clear hb1
  go_wp2_with fail
  go_loopg [5, 6, 26] n (fun g l m i wr => ∃ (k : Nat) (B : Option Addr) (b : Nat) (E : Option Addr) (e : Nat), k ≤ n ∧ g = n - k ∧ i = .int .i64 k ∧ l = .slice B k b ∧ m = .slice E k e ∧
    Hid (TwoT wr w.heap.size B k b ((ds.take k).map (adv t)) E k e ((ds.reverse.take k).map (adv t)) ∧ ∀ x ∈ ds.take k, N1 x) ∧ Below w.heap.size w wr)
  case atStart => exact ⟨0, none, 0, none, 0, Nat.zero_le _, by omega, rfl, rfl, rfl, hid ⟨TwoT.nil _ _, by intro x hx; cases hx⟩, HB1.out⟩
  case round =>
    obtain ⟨k, B, b, E, e', hk, hg, rfl, rfl, rfl, hT, hb⟩ := hrel
    have HB := hid hb
    have HG := hid hg
    have hsz := hb.size
    clear hb hg
    by_cases hlt : k < n
    · obtain ⟨b2, off2, e2, hbl, hc⟩ := (HZ.out.below HB.out).2 k hlt
      subst e2
      have hcell := hc k hlt
      have hcell2 := hc (n - 1 - k) (by omega)
      have HS := hid (take_map (f := adv t) (ds := ds) (k := k) (by have := HL.out; omega))
      have HR := hid (take_map (f := adv t) (ds := ds.reverse) (k := k) (by have := HL.out; rw [List.length_reverse]; omega))
      have HM := hid (show ∀ x ∈ ds.take (k + 1), x ∈ ds.take k ∨ x = ds.getD k 0 from fun x hx => by
        have e : ds.getD k 0 = ds[k]'(by have := HL.out; omega) := by simp [List.getD, show k < ds.length by have := HL.out; omega]
        rw [List.take_succ_eq_append_getElem (by have := HL.out; omega), ← e] at hx
        rcases List.mem_append.1 hx with hx | hx
        · exact .inl hx
        · exact .inr (by simpa using hx))
      rw [rev_get HL.out hlt] at HR
      have hj0 : IntKind.i64.wrap ((n : Int) - 1) = (n : Int) - 1 := by rw [IntKind.wrap_i64]; omega
      have hj1 : IntKind.i64.wrap ((n : Int) - 1 - (k : Int)) = (n : Int) - 1 - (k : Int) := by rw [IntKind.wrap_i64]; omega
      have hj2 : ((n : Int) - 1 - (k : Int)) = ((n - 1 - k : Nat) : Int) := by omega
      have hj3 : n - 1 - k < n := by omega
      generalize ds.getD k 0 = z at *
      generalize ds.getD (n - 1 - k) 0 = y at *
      generalize n - 1 - k = j at *
      clear hc
      go_upto_region 10 with fail
      clear hcell hcell2 hj0 hj1 hj2 hj3
      by_cases g1 : z ≤ -2305843009213693952
      · go_wp2_with fail
        go_ret
        exact ⟨rfl, HB.out⟩
      · by_cases g2 : 2305843009213693952 ≤ z
        · go_wp2_with fail
          go_ret
          exact ⟨rfl, HB.out⟩
        · have HN := hid (show N1 z from ⟨by omega, by omega⟩)
          go_wp2_with fail
          refine (Vtime.add t z _).mono ?_
          rintro e w2 ⟨rfl, hb2⟩
          have T2 := hid (hT.out.1.below hb2)
          have HB2 := hid (below_on HB.out hb2)
          have hsz2 := HB2.out.size
          clear hb2 g1 g2
          go_wp2_with (first | (at_builtin; refine wpList_append_two _ rfl (.tmp 45) (.tmp 49) rfl w.heap.size B k b _ E k e' _ rfl (T2.out.alloc _) w2.heap.size (adv t z) rfl (by simp) (by omega) (by simp; omega) ?_; intro B' b' w3 hown' hgrow; have T3 := hid hown'; have G3 := hid hgrow; clear hown' hgrow))
          have HB3 := hid ((HB2.out.alloc hsz2 _).grown G3.out (by simp; omega) (fun q hq => (World.ownsRow.lt T2.out.1 q hq).1))
          have hsz3 := HB3.out.size
          refine (Vtime.add t y _).mono ?_
          rintro e w4 ⟨rfl, hb4⟩
          have T4 := hid (T3.out.below hb4)
          have HB4 := hid (below_on HB3.out hb4)
          have hsz4 := HB4.out.size
          clear hb4
          go_wp2_with (first | (at_builtin; refine wpList_append_two _ rfl (.tmp 51) (.tmp 55) rfl w.heap.size E k e' _ B' (k + 1) b' _ rfl (T4.out.flip.alloc _) w4.heap.size (adv t y) rfl (by simp) (by omega) (by simp; omega) ?_; intro E' d' w5 hown' hgrow; have T5 := hid hown'; have G5 := hid hgrow; clear hown' hgrow))
          have HB5 := hid ((HB4.out.alloc hsz4 _).grown G5.out (by simp; omega) (fun q hq => (World.ownsRow.lt T4.out.2.1 q hq).1))
          go_roundg (n - (k + 1))
          case measure => have := HG.out; omega
          case rel =>
            refine ⟨k + 1, B', b', E', d', by omega, rfl, by go_num, rfl, rfl, hid ⟨by rw [HS.out, HR.out]; exact T5.out.flip, fun x hx => ?_⟩, HB5.out⟩
            rcases HM.out x hx with h | rfl
            · exact hT.out.2 x h
            · exact HN.out
    · have e1 : ds.take k = ds := List.take_of_length_le (by have := HL.out; omega)
      have e2 : ds.reverse.take k = ds.reverse := List.take_of_length_le (by have := HL.out; rw [List.length_reverse]; omega)
      obtain rfl : k = n := by omega
      have hT2 := hT.out
      rw [e1, e2] at hT2
      have HT := hid hT2.1
      have HNN := hid hT2.2
      clear e1 e2 hT2 hT
      obtain ⟨d0, dr, hds⟩ : ∃ d0 dr, ds = d0 :: dr := by
        cases ds with
        | nil => have := HL.out; simp at this; omega
        | cons d0 dr => exact ⟨d0, dr, rfl⟩
      obtain ⟨y0, yr, hes⟩ : ∃ y0 yr, ds.reverse = y0 :: yr := by
        cases h : ds.reverse with
        | nil => have := HL.out; rw [← List.length_reverse, h] at this; simp at this; omega
        | cons d0 dr => exact ⟨d0, dr, rfl⟩
      have hd0 : d0 ∈ ds := by rw [hds]; simp
      have hy0 : y0 ∈ ds.reverse := by rw [hes]; simp
      have hall : ∀ x ∈ ds, Nr x := fun x hx => (HNN.out x hx).nr
      have hall2 : ∀ x ∈ ds.reverse, Nr x := fun x hx => hall x (List.mem_reverse.1 hx)
      have hsame : ∀ x, x ∈ ds ↔ x ∈ ds.reverse := fun x => List.mem_reverse.symm
      obtain ⟨lo, hlo⟩ : ∃ lo, lo = ds.foldl min d0 := ⟨_, rfl⟩
      obtain ⟨hi, hhi⟩ : ∃ hi, hi = ds.foldl max d0 := ⟨_, rfl⟩
      have EF := hid (show firstL (adv t d0) (ds.map (adv t)) = adv t lo by rw [firstL_near t ds (hall _ hd0) hall, hlo])
      have EL := hid (show lastL (adv t d0) (ds.map (adv t)) = adv t hi by rw [lastL_near t ds (hall _ hd0) hall, hhi])
      have EF2 := hid (show firstL (adv t y0) (ds.reverse.map (adv t)) = adv t lo by rw [firstL_near t _ (hall2 _ hy0) hall2, hlo, foldl_min_same hd0 hy0 hsame])
      have EL2 := hid (show lastL (adv t y0) (ds.reverse.map (adv t)) = adv t hi by rw [lastL_near t _ (hall2 _ hy0) hall2, hhi, foldl_max_same hd0 hy0 hsame])
      have ES := hid (show spreadL (ds.reverse.map (adv t)) = IntKind.u64.wrap (dif (adv t hi) (adv t lo)) by
        rw [← EF2.out, ← EL2.out, hes, List.map_cons]
        unfold spreadL firstL lastL
        rw [List.foldl_cons, List.foldl_cons, show fstep (adv t y0) (adv t y0) = adv t y0 by unfold fstep; rw [dif_self]; rfl, show lstep (adv t y0) (adv t y0) = adv t y0 by unfold lstep; rw [dif_self]; rfl])
      have HLO := hid (show ∀ x ∈ ds, (decide (dif (adv t x) (adv t lo) < 0) = false ∧ decide (dif (adv t hi) (adv t x) < 0) = false) from fun x hx => by
        have h1 := (foldl_min ds d0).2.1 x hx
        have h2 := (foldl_max ds d0).2.1 x hx
        rw [← hlo] at h1
        rw [← hhi] at h2
        have n1 : Nr lo := by rw [hlo]; exact foldl_min_nr (hall _ hd0) hall
        have n2 : Nr hi := by rw [hhi]; exact foldl_max_nr (hall _ hd0) hall
        have n3 := hall x hx
        unfold Nr at n1 n2 n3
        rw [dif_near t (by omega) (by omega), dif_near t (by omega) (by omega), decide_eq_false_iff_not, decide_eq_false_iff_not]
        omega)
      have HM2 := hid (show ds.reverse.map (adv t) = adv t y0 :: yr.map (adv t) by rw [hes, List.map_cons])
      have hR1 := HT.out.1.rd
      obtain ⟨q, hq⟩ : ∃ q, k = q + 1 := ⟨k - 1, by omega⟩
      have hR1h : ∃ bb oo, B = some ⟨bb, oo, none⟩ ∧ wr.cell? ⟨bb, oo, none⟩ = some (.int .u64 (adv t d0)) := by
        rw [hq] at hR1
        refine RdU.head (n := q) (zs := dr.map (adv t)) ?_
        rw [hds, List.map_cons] at hR1
        exact hR1
      obtain ⟨bb, oo, rfl, hc0⟩ := hR1h
      have HC0 := hid hc0
      have HQ := hid hq
      have HDS := hid hds
      have l3 : (0 : Int) < (k : Int) := by omega
      clear hq hR1 hc0 hlo hhi hds hes hd0 hy0 hall hall2 hsame
      go_wp2_with fail
      go_region_held3 (fun w' => w'.cell? ⟨bb, oo, none⟩ = some (.int .u64 (adv t d0)) ∧ Below wr.heap.size wr w')
        (first | exact ⟨HC0.out, (Below.refl _ _).drew⟩ | exact ⟨keep1 hb2 (And.left (by assumption : _ ∧ Below wr.heap.size wr _)), below_on (And.right (by assumption : _ ∧ Below wr.heap.size wr _)) hb2⟩)
        (first
          | (go_at_call 49; refine (Vtime.first (adv t d0) _ _ _ (ds.map (adv t)) _ (HT.out.1.rd.below (And.right (by assumption : _ ∧ Below wr.heap.size wr _))) (by omega)).mono ?_; rintro e w2 ⟨rfl, hb2⟩; rw [EF.out])
          | (go_at_call 51; refine (Vtime.last (adv t d0) _ _ _ (ds.map (adv t)) _ (HT.out.1.rd.below (And.right (by assumption : _ ∧ Below wr.heap.size wr _))) (by omega)).mono ?_; rintro e w2 ⟨rfl, hb2⟩; rw [EL.out]))
      have HB2 := hid (And.right (by assumption : _ ∧ Below wr.heap.size wr w2))
      have T2 := hid (HT.out.below HB2.out)
      have HBW := hid (below_on HB.out HB2.out)
      clear hb2
      go_wp2_with fail
      go_loopg [70] k (fun g i wx => ∃ (j : Nat), j ≤ k ∧ g = k - j ∧ i = .int .i64 j ∧ Hid (TwoT wx w.heap.size (some ⟨bb, oo, none⟩) k b (ds.map (adv t)) E k e' (ds.reverse.map (adv t))) ∧ Below w.heap.size w wx)
      case atStart => exact ⟨0, Nat.zero_le _, by omega, rfl, T2, HBW.out⟩
      case round =>
        obtain ⟨j, hj, hg, rfl, hTj, hbj⟩ := hrel
        have HBJ := hid hbj
        have HGJ := hid hg
        clear hbj hg
        by_cases hlt2 : j < k
        · obtain ⟨b3, off3, e3, hbl, hc⟩ := hTj.out.1.rd.2 j hlt2
          injection e3 with e3; injection e3 with e4 e5
          subst e4 e5
          have hcell := hc j hlt2
          have hget : (ds.map (adv t)).getD j 0 = adv t (ds.getD j 0) := by
            have : j < ds.length := by have := HL.out; omega
            simp [List.getD, this]
          have hx : ds.getD j 0 ∈ ds := by
            have h : j < ds.length := by have := HL.out; omega
            rw [show ds.getD j 0 = ds[j] by simp [List.getD, h]]; exact List.getElem_mem h
          obtain ⟨f1, f2⟩ := HLO.out _ hx
          rw [hget] at hcell
          generalize ds.getD j 0 = x at *
          clear hc hget hx
          go_wp2_with fail
          refine (Vtime.before (adv t x) (adv t lo) _).mono ?_
          rintro e w3 ⟨rfl, hb3⟩
          have T3 := hid (hTj.out.below hb3)
          have HB3 := hid (below_on HBJ.out hb3)
          clear hb3 hcell
          go_wp2_with fail
          refine (Vtime.before (adv t hi) (adv t x) _).mono ?_
          rintro e w4 ⟨rfl, hb4⟩
          have T4 := hid (T3.out.below hb4)
          have HB4 := hid (below_on HB3.out hb4)
          clear hb4
          go_wp2_with fail
          go_roundg (k - (j + 1))
          case measure => have := HGJ.out; omega
          case rel => exact ⟨j + 1, by omega, rfl, by go_num, T4, HB4.out⟩
        · have hR2 := hTj.out.2.1.rd
          rw [HQ.out, HM2.out] at hR2
          obtain ⟨eb, eo, hE, hc0⟩ := RdU.head hR2
          subst hE
          clear hR2
          go_wp2_with fail
          refine (Vtime.first (adv t y0) _ _ _ (ds.reverse.map (adv t)) _ hTj.out.2.1.rd (by omega)).mono ?_
          rw [EF2.out]
          rintro e w3 ⟨rfl, hb3⟩
          have T3 := hid (hTj.out.below hb3)
          have HB3 := hid (below_on HBJ.out hb3)
          have hc1 := keep1 hb3 hc0
          clear hb3 hc0
          go_wp2_with fail
          refine (Vtime.last (adv t y0) _ _ _ (ds.reverse.map (adv t)) _ T3.out.2.1.rd (by omega)).mono ?_
          rw [EL2.out]
          rintro e w4 ⟨rfl, hb4⟩
          have T4 := hid (T3.out.below hb4)
          have HB4 := hid (below_on HB3.out hb4)
          clear hb4 hc1
          have hcap := T4.out.2.1.cap
          have hR4 := T4.out.2.1.rd
          rw [HM2.out] at hR4
          rw [HQ.out] at hR4 hcap
          have HR4 := hid hR4
          have HCAP := hid hcap
          have ES2 := ES.out
          rw [HM2.out] at ES2
          have HES := hid ES2
          clear hR4 hcap ES2
          go_wp2_with fail
          have HSP := hid (Vtime.spread _ q _ (adv t y0) (yr.map (adv t)) w4 HR4.out HCAP.out (by have := HQ.out; omega))
          rw [← HQ.out] at HSP
          refine HSP.out.mono ?_
          rw [HES.out]
          rintro e w5 ⟨rfl, hb5⟩
          have HB5 := hid (below_on HB4.out hb5)
          clear hb5
          go_wp2_with fail
          refine (Vtime.since (adv t hi) (adv t lo) _).mono ?_
          rintro e w6 ⟨rfl, hb6⟩
          have HB6 := hid (below_on HB5.out hb6)
          clear hb6
          go_wp2_with fail
          go_ret
          exact ⟨by simp, HB6.out⟩

theorem Order.law (t : Int) (A : Option Addr) (n c : Nat) (ds : List Int) (w : World) (_w0 : (Lit.int .u64 t).wf = true) (h : RdU .i64 w A n ds ∧ (∀ z ∈ ds, (Lit.int .i64 z).wf = true) ∧ n ≤ c ∧ n ≤ 9223372036854775807) :
    Calls Try.prog 12 #[.int .u64 t, .slice A n c] w fun e w' => e = .returned (.bool true) ∧ Below w.heap.size w w' := by
  by_cases hn : n = 0 ∨ 100 < n
  · exact Order.away t A n c hn w
  · exact Order.walk t A n c ds w h.1 (by omega) (by omega)

end Go.Proofs.Ytjklcbbanlaicaa

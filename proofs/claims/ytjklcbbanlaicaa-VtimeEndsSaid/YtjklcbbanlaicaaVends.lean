/- VtimeEnds: the walk. -/
import Derived.Test.YtjklcbbanlaicaaRef3F
import Derived.Test.YtjklcbbanlaicaaOwnT
import Derived.Test.YtjklcbbanlaicaaVturns
namespace Go.Proofs.Ytjklcbbanlaicaa
open Go.RowKit

set_option maxHeartbeats 1000000 in
/-- None, or more than a hundred. -/
theorem Vends.away (A : Option Addr) (n c : Nat) (h : n = 0 ∨ 100 < n) (hn : n ≤ 9223372036854775807) (w : World) :
    Calls Try.prog 9 #[.slice A n c] w fun e w' => e = .returned (.bool true) ∧ Below w.heap.size w w' := by
  rcases h with rfl | h
  · go_enter Try.func9, Try.ntmps9
    go_wp2_with fail
    refine (Law3.awake _).mono ?_
    rintro e w1 ⟨rfl, hb1⟩
    go_wp2_with fail
    refine (Vtime.spread0 _).mono ?_
    rintro e w2 ⟨rfl, hb2⟩
    go_wp2_with fail
    go_ret
    exact ⟨rfl, below_on hb1 hb2⟩
  · have h2 : (100 : Int) < (n : Int) := by omega
    clear h
    go_enter Try.func9, Try.ntmps9
    go_wp2_with fail
    refine (Law3.awake _).mono ?_
    rintro e w1 ⟨rfl, hb1⟩
    go_wp2_with fail
    refine (Vtime.spread0 _).mono ?_
    rintro e w2 ⟨rfl, hb2⟩
    go_wp2_with fail
    go_ret
    exact ⟨rfl, below_on hb1 hb2⟩

set_option maxRecDepth 100000 in
set_option maxHeartbeats 4000000 in
theorem Vends.core (A : Option Addr) (n c : Nat) (z0 : Int) (zs : List Int) (w : World) (hz : RdU .u64 w A (n + 1) (z0 :: zs)) (hi : InU (z0 :: zs)) (hn : n + 1 ≤ 100) (hnc : n + 1 ≤ c) :
    Calls Try.prog 9 #[.slice A (n + 1) c] w fun e w' => e = .returned (.bool true) ∧ Below w.heap.size w w' := by
  obtain ⟨b, off, rfl, hcell⟩ := hz.head
  have HZ := hid hz
  have HI := hid hi
  have HL := hid (show zs.length = n by have := hz.1; simpa using this)
  have l1 : (1 : Int) ≤ (n : Int) + 1 := by omega
  have l2 : (n : Int) + 1 ≤ (c : Int) := by omega
  have l3 : (0 : Int) < (n : Int) + 1 := by omega
  have l4 : (1 : Int) ≤ (c : Int) := by omega
  have l5 : ¬ (100 : Int) < (n : Int) + 1 := by omega
  have l6 : ((n : Int) + 1 == 0) = false := by rw [beq_eq_false_iff_ne]; omega
  obtain ⟨A1, HT, hA⟩ : ∃ A1 : Option Addr, Hid (RdU .u64 w A1 n zs) ∧ Hid (A1 = (if c = 1 then some ⟨b, off, none⟩ else some ⟨b, off + 1, none⟩)) := by
    by_cases h : c = 1
    · obtain rfl : n = 0 := by omega
      have h0 := hz.1
      obtain rfl : zs = [] := by simp at h0; exact h0
      exact ⟨_, hid ⟨rfl, fun i hi => absurd hi (by omega)⟩, hid (by rw [if_pos h])⟩
    · exact ⟨_, hid hz.tail, hid (by rw [if_neg h])⟩
  clear hz hi hcell
  by_cases hc : c = 1
  · rw [if_pos hc] at hA
    have hA' := hA.out
    clear hA
    subst hA'
    subst hc
    obtain rfl : n = 0 := by omega
    clear l1 l2 l3 l4 l5 l6
    go_enter Try.func9, Try.ntmps9
    go_wp2_with fail
    refine (Law3.awake _).mono ?_
    rintro e w1 ⟨rfl, hb1⟩
    have HB1 := hid hb1
    clear hb1
    go_wp2_with fail
    go_loopg [3, 21] 0 (fun g m i wr => ∃ (k : Nat) (B : Option Addr) (d : Nat), k ≤ 0 ∧ g = 0 - k ∧ i = .int .i64 k ∧ m = .slice B k d ∧ Hid (OwnT wr w.heap.size B k d (zs.take k)) ∧ Below w.heap.size w wr)
    case atStart => exact ⟨0, none, 0, Nat.zero_le _, by omega, rfl, rfl, hid (OwnT.nil _ _), HB1.out⟩
    case round =>
      obtain ⟨k, B, d, hk, hg, rfl, rfl, hO, hb⟩ := hrel
      have HB := hid hb
      have HG := hid hg
      have hsz := hb.size
      clear hb hg
      by_cases hlt : k < 0
      · exfalso; omega
      · have e : zs.take k = zs := List.take_of_length_le (by have := HL.out; omega)
        obtain rfl : k = 0 := by omega
        rw [e] at hO
        have hcell := (HZ.out.below HB.out).head
        obtain ⟨b2, off2, e2, hcell⟩ := hcell
        injection e2 with e2; injection e2 with e3 e4
        subst e3 e4
        clear e
        go_wp2_with fail
        refine (Vtime.first z0 B _ d zs _ hO.out.rd (by omega)).mono ?_
        rintro e w2 ⟨rfl, hb2⟩
        have HB2 := hid (below_on HB.out hb2)
        have HR2 := hid (hO.out.rd.below hb2)
        clear hb2 hcell
        go_wp2_with fail
        refine (Ref3.first _ _ _ z0 zs _ (HZ.out.below HB2.out) HI.out (by omega)).mono ?_
        rintro e w3 ⟨rfl, hb3⟩
        have HB3 := hid (below_on HB2.out hb3)
        have HR3 := hid (HR2.out.below hb3)
        have hcell := (HZ.out.below HB3.out).head
        obtain ⟨b2, off2, e2, hcell⟩ := hcell
        injection e2 with e2; injection e2 with e3 e4
        subst e3 e4
        clear hb3
        go_wp2_with fail
        refine (Vtime.last z0 B _ d zs _ HR3.out (by omega)).mono ?_
        rintro e w4 ⟨rfl, hb4⟩
        have HB4 := hid (below_on HB3.out hb4)
        clear hb4 hcell
        go_wp2_with fail
        refine (Ref3.last _ _ _ z0 zs _ (HZ.out.below HB4.out) HI.out (by omega)).mono ?_
        rintro e w5 ⟨rfl, hb5⟩
        have HB5 := hid (below_on HB4.out hb5)
        clear hb5
        go_wp2_with fail
        go_ret
        exact ⟨by simp, HB5.out⟩
  · rw [if_neg hc] at hA
    have hc2 : ¬ (c : Int) = 1 := by omega
    have hA' := hA.out
    clear hA
    subst hA'
    go_enter Try.func9, Try.ntmps9
    go_wp2_with fail
    refine (Law3.awake _).mono ?_
    rintro e w1 ⟨rfl, hb1⟩
    have HB1 := hid hb1
    clear hb1
    go_wp2_with fail
    go_loopg [3, 21] n (fun g m i wr => ∃ (k : Nat) (B : Option Addr) (d : Nat), k ≤ n ∧ g = n - k ∧ i = .int .i64 k ∧ m = .slice B k d ∧ Hid (OwnT wr w.heap.size B k d (zs.take k)) ∧ Below w.heap.size w wr)
    case atStart => exact ⟨0, none, 0, Nat.zero_le _, by omega, rfl, rfl, hid (OwnT.nil _ _), HB1.out⟩
    case round =>
      obtain ⟨k, B, d, hk, hg, rfl, rfl, hO, hb⟩ := hrel
      have HB := hid hb
      have HG := hid hg
      have hsz := hb.size
      clear hb hg
      by_cases hlt : k < n
      · obtain ⟨b2, off2, e2, hbl, hc⟩ := (HT.out.below HB.out).2 k hlt
        injection e2 with e2; injection e2 with e3 e4
        subst e3 e4
        have hcell := hc k hlt
        have HS := hid (show zs.take (k + 1) = zs.take k ++ [zs.getD k 0] from by
          have e : zs.getD k 0 = zs[k]'(by have := HL.out; omega) := by simp [List.getD, show k < zs.length by have := HL.out; omega]
          rw [List.take_succ_eq_append_getElem (by have := HL.out; omega), e])
        generalize zs.getD k 0 = z at *
        clear hc
        go_wp2_with (first | (at_builtin; refine wpList_append_time _ rfl (.tmp 25) (.tmp 27) rfl w.heap.size B k d (zs.take k) rfl (hO.out.alloc _) wr.heap.size z rfl (by simp) (by omega) (by simp; omega) ?_; intro B' d' w2 hown' hgrow; have HO2 := hid hown'; have HG2 := hid hgrow; clear hown' hgrow))
        go_roundg (n - (k + 1))
        case measure => have := HG.out; omega
        case rel => exact ⟨k + 1, B', d', by omega, rfl, by go_num, rfl, hid (by rw [HS.out]; exact HO2.out), (HB.out.alloc (by omega) _).grown HG2.out (by simp; omega) (fun q hq => by have := hO.out.rowGe q hq; omega)⟩
      · have e : zs.take k = zs := List.take_of_length_le (by have := HL.out; omega)
        obtain rfl : k = n := by omega
        rw [e] at hO
        have hcell := (HZ.out.below HB.out).head
        obtain ⟨b2, off2, e2, hcell⟩ := hcell
        injection e2 with e2; injection e2 with e3 e4
        subst e3 e4
        clear e
        go_wp2_with fail
        refine (Vtime.first z0 B _ d zs _ hO.out.rd (by omega)).mono ?_
        rintro e w2 ⟨rfl, hb2⟩
        have HB2 := hid (below_on HB.out hb2)
        have HR2 := hid (hO.out.rd.below hb2)
        clear hb2 hcell
        go_wp2_with fail
        refine (Ref3.first _ _ _ z0 zs _ (HZ.out.below HB2.out) HI.out (by omega)).mono ?_
        rintro e w3 ⟨rfl, hb3⟩
        have HB3 := hid (below_on HB2.out hb3)
        have HR3 := hid (HR2.out.below hb3)
        have hcell := (HZ.out.below HB3.out).head
        obtain ⟨b2, off2, e2, hcell⟩ := hcell
        injection e2 with e2; injection e2 with e3 e4
        subst e3 e4
        clear hb3
        go_wp2_with fail
        refine (Vtime.last z0 B _ d zs _ HR3.out (by omega)).mono ?_
        rintro e w4 ⟨rfl, hb4⟩
        have HB4 := hid (below_on HB3.out hb4)
        clear hb4 hcell
        go_wp2_with fail
        refine (Ref3.last _ _ _ z0 zs _ (HZ.out.below HB4.out) HI.out (by omega)).mono ?_
        rintro e w5 ⟨rfl, hb5⟩
        have HB5 := hid (below_on HB4.out hb5)
        clear hb5
        go_wp2_with fail
        go_ret
        exact ⟨by simp, HB5.out⟩

theorem Vends.law (A : Option Addr) (n c : Nat) (zs : List Int) (w : World) (h : RdU .u64 w A n zs ∧ InU zs ∧ n ≤ c ∧ n ≤ 9223372036854775807) :
    Calls Try.prog 9 #[.slice A n c] w fun e w' => e = .returned (.bool true) ∧ Below w.heap.size w w' := by
  obtain ⟨h1, h2, h3, h4⟩ := h
  by_cases h : n = 0 ∨ 100 < n
  · exact Vends.away A n c h h4 w
  · obtain ⟨m, rfl⟩ : ∃ m, n = m + 1 := ⟨n - 1, by omega⟩
    have hl := h1.1
    cases zs with
    | nil => simp at hl
    | cons z zs => exact Vends.core A m c z zs w h1 h2 (by omega) h3

end Go.Proofs.Ytjklcbbanlaicaa

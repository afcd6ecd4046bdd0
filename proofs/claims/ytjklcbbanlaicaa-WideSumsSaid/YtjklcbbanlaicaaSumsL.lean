/- WideSums: the walk. -/
import Derived.Test.YtjklcbbanlaicaaSum
namespace Go.Proofs.Ytjklcbbanlaicaa
open Go.RowKit

set_option maxHeartbeats 1000000 in
theorem Sums.away (A : Option Addr) (n c : Nat) (w : World) (hn : 100 < n) :
    Calls Try.prog 3 #[.slice A n c] w fun e w' => e = .returned (.bool true) ∧ Below w.heap.size w w' := by
  have h2 : (100 : Int) < (n : Int) := by omega
  clear hn
  go_enter Try.func3, Try.ntmps3
  go_wp2_with fail
  refine (Law1.awake _).mono ?_
  rintro e w1 ⟨rfl, hb1⟩
  go_wp2_with fail
  go_ret
  exact ⟨rfl, hb1⟩

set_option maxRecDepth 100000 in
set_option maxHeartbeats 8000000 in
theorem Sums.walk (A : Option Addr) (n c : Nat) (ps : List (Int × Int)) (w : World) (hz : RdW w A n ps) (hi : AllW ps) (hn : n ≤ 100) :
    Calls Try.prog 3 #[.slice A n c] w fun e w' => e = .returned (.bool true) ∧ Below w.heap.size w w' := by
  have HZ := hid hz
  have HL := hid hz.1
  have HI := hid hi
  have l1 : ¬ (100 : Int) < (n : Int) := by omega
  clear hz hi
  go_enter Try.func3, Try.ntmps3
  go_wp2_with fail
  refine (Law1.awake _).mono ?_
  rintro e w1 ⟨rfl, hb1⟩
  have HBW := hid hb1
  have hsz := hb1.size
  clear hb1
  go_wp2_with fail
  go_loopg [4, 16] n (fun g f i wr => ∃ (k : Nat) (s : Bool) (A' : Option Addr) (n' c' : Nat), f = .bool true ∧ i = .int .i64 k ∧ g = n - k ∧ k ≤ n ∧ IsB wr (18 + k) s A' n' c' (sumW (ps.take k)) ∧ Var wr w1.heap.size s A' n' c' ∧ (∀ j, j ≤ k → WR (sumW (ps.take j))) ∧ Below w.heap.size w wr)
  case atStart =>
    refine ⟨0, false, none, 0, 0, rfl, rfl, rfl, Nat.zero_le _, by simpa [sumW] using IsB.zero _ _, Var.new _ _ _ _ _ _, fun j hj => ?_, HBW.out.alloc hsz _⟩
    obtain rfl : j = 0 := by omega
    exact isW_0.wr
  case round =>
    obtain ⟨k, s, A', n', c', rfl, rfl, hg, hk, hB, hV, hP, hb⟩ := hrel
    have HG := hid hg
    have HO := hid hB
    have HV := hid hV
    have HP := hid hP
    have HB := hid hb
    have hlt := hV.lt
    obtain ⟨v0, v1, v2, v3, _⟩ := hV
    clear hg hB hP hb
    by_cases hlt2 : k < n
    · obtain ⟨b, off, e2, hbl, hc⟩ := (HZ.out.below HB.out).2 k hlt2
      subst e2
      obtain ⟨hc0, hc1⟩ := hc k hlt2
      have HS := hid (sumW_take ps (k := k) (by have := HL.out; omega))
      have HQ := hid (HI.out.get (k := k) (by have := HL.out; omega))
      generalize ps.getD k (0, 0) = z at *
      obtain ⟨z0, z1⟩ := z
      dsimp only at hc0 hc1
      clear hc
      go_wp2_with fail
      clear hc0 hc1
      go_region_with (first
        | (go_at_call 20; refine (Law.of z0 z1 _ HQ.out _).mono ?_; rintro e w2 ⟨s2, A2, n2, c2, rfl, hB, hb2⟩; have H2 := hid (hB.mono (show 18 ≤ 18 + k by omega)); have HV2 := hid (((HV.out.alloc _).drew).below hb2); have HO2 := hid (((HO.out.alloc _).drew).below hb2); have HB2 := hid (below_keep ((HB.out.alloc HB.out.size _).drew) hb2); obtain ⟨v0, v1, v2, v3, _⟩ := HV2.out; have hlt3 := HV2.out.lt; clear hB hb2)
        | (go_at_call 19; refine (Ref.add (18 + k) s s2 A' A2 n' c' n2 c2 _ _ _ HO2.out H2.out (by omega)).mono ?_; rintro e w3 ⟨s3, A3, n3, c3, rfl, hB, hb2⟩; rw [← HS.out] at hB; have H3 := hid hB; have HV3 := hid (HV2.out.below hb2); have HB3 := hid (below_keep HB2.out hb2); obtain ⟨v0, v1, v2, v3, _⟩ := HV3.out; clear hB hb2))
      all_goals
        have HB4 : Hid (Below w.heap.size w ((w3.setCell ⟨w1.heap.size, 0, none⟩ (.bool s3)).setCell ⟨w1.heap.size, 1, none⟩ (.slice A3 n3 c3))) := hid ((HB3.out.setCell hsz _).setCell hsz _)
        have HV4 := hid (HV3.out.store s3 A3 n3 c3)
        have H4 : Hid (IsB ((w3.setCell ⟨w1.heap.size, 0, none⟩ (.bool s3)).setCell ⟨w1.heap.size, 1, none⟩ (.slice A3 n3 c3)) (18 + k + 1) s3 A3 n3 c3 (sumW (ps.take (k + 1)))) := hid (H3.out.storeV HV3.out _ _ _ _)
        go_wp2_with fail
        by_cases hwr : WR (sumW (ps.take (k + 1)))
        · have HWR := hid hwr
          have GV := hid (show -170141183460469231731687303715884105728 ≤ sumW (ps.take (k + 1)) ∧ sumW (ps.take (k + 1)) < 170141183460469231731687303715884105728 by unfold WR at hwr; omega)
          clear hwr
          refine (Ref.is (18 + k + 1) (by omega) s3 A3 n3 c3 _ _ H4.out true ⟨fun _ => GV.out, fun _ => rfl⟩).mono ?_
          rintro e w5 ⟨rfl, hb5⟩
          have H5 := hid (H4.out.below hb5)
          have HV5 := hid (HV4.out.below hb5)
          have HB5 := hid (below_keep HB4.out hb5)
          clear hb5 v0 v1 v2 v3
          go_wp2_with fail
          go_roundg (n - (k + 1))
          case measure => have := HG.out; omega
          case rel =>
            refine ⟨k + 1, s3, A3, n3, c3, rfl, by go_num, rfl, by omega, H5.out, HV5.out, fun j hj => ?_, HB5.out⟩
            rcases Nat.lt_or_ge k j with hjk | hjk
            · obtain rfl : j = k + 1 := by omega
              exact HWR.out
            · exact HP.out j hjk
        · have HWR := hid hwr
          have GV := hid (show ¬ (-170141183460469231731687303715884105728 ≤ sumW (ps.take (k + 1)) ∧ sumW (ps.take (k + 1)) < 170141183460469231731687303715884105728) by unfold WR at hwr; omega)
          clear hwr
          refine (Ref.is (18 + k + 1) (by omega) s3 A3 n3 c3 _ _ H4.out false ⟨fun h => absurd h (by decide), fun h => absurd h GV.out⟩).mono ?_
          rintro e w5 ⟨rfl, hb5⟩
          have HB5 := hid (below_keep HB4.out hb5)
          clear hb5 v0 v1 v2 v3
          go_wp2_with fail
          refine (Wide.sum _ n c ps _ (HZ.out.below HB5.out) HI.out hn).mono ?_
          rintro e w6 ⟨h6, l6, ok6, rfl, hr6, hb6⟩
          have HB6 := hid (below_keep HB5.out hb6)
          clear hb6
          rcases hr6 with ⟨rfl, g1, _⟩ | ⟨rfl, rfl, rfl, _⟩
          · exact absurd (g1 (k + 1) (by have := HL.out; omega)) HWR.out
          · go_wp2_with fail
            go_ret
            exact ⟨rfl, HB6.out.alloc HB6.out.size _⟩
    · have e : ps.take k = ps := List.take_of_length_le (by have := HL.out; omega)
      have KN := hid (show k = n by omega)
      rw [e] at HO
      clear e
      go_wp2_with fail
      refine (Wide.sum _ n c ps _ (HZ.out.below HB.out) HI.out hn).mono ?_
      rintro e w6 ⟨h6, l6, ok6, rfl, hr6, hb6⟩
      have HB6 := hid (below_keep HB.out hb6)
      have HO6 := hid ((HO.out.below hb6).mono (show 18 + k ≤ 118 by omega))
      have HV6 := hid (HV.out.below hb6)
      clear hb6 v0 v1 v2 v3
      obtain ⟨v0, v1, v2, v3, _⟩ := HV6.out
      have vz := HV6.out.lt
      rcases hr6 with ⟨rfl, g1, g2⟩ | ⟨rfl, rfl, rfl, j, hj, hw⟩
      · have G2 := hid g2
        clear g1 g2
        go_wp2_with fail
        refine (Law.same 118 (by decide) h6 l6 _ G2.out s A' n' c' _ _ (HO6.out.alloc _) true ⟨fun _ => rfl, fun _ => rfl⟩).mono ?_
        rintro e w7 ⟨rfl, hb7⟩
        have HB7 := hid (below_keep (HB6.out.alloc HB6.out.size _) hb7)
        clear hb7
        go_wp2_with fail
        go_ret
        exact ⟨rfl, HB7.out⟩
      · exact absurd (HP.out j (by have := HL.out; have := KN.out; omega)) hw

theorem Sums.law (A : Option Addr) (n c : Nat) (ps : List (Int × Int)) (w : World) (h : RdW w A n ps ∧ AllW ps ∧ n ≤ 9223372036854775807) :
    Calls Try.prog 3 #[.slice A n c] w fun e w' => e = .returned (.bool true) ∧ Below w.heap.size w w' := by
  by_cases hn : n ≤ 100
  · exact Sums.walk A n c ps w h.1 h.2.1 hn
  · exact Sums.away A n c w (by omega)

end Go.Proofs.Ytjklcbbanlaicaa

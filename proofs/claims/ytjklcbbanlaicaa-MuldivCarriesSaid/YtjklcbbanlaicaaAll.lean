/- The contracts of the document's answer for layer 2 (turnstoneref02), continued: amounts times num, and rem, together. -/
import Derived.Test.YtjklcbbanlaicaaIs2
import Derived.Test.YtjklcbbanlaicaaFind
import Derived.Test.YtjklcbbanlaicaaMuldiv
import Derived.Deep.RegionWith
namespace Go.Proofs.Ytjklcbbanlaicaa
open Go.RowKit

set_option maxRecDepth 100000 in
set_option maxHeartbeats 4000000 in
theorem Ref2.all (num rem : Int) (n0 : 0 ≤ num) (n1 : num ≤ 18446744073709551615) (r0 : 0 ≤ rem) (r1 : rem ≤ 18446744073709551615) (A : Option Addr) (n c : Nat) (zs : List Int) (w : World) (hz : RdU .u64 w A n zs) (hi : InU zs) (hn : n ≤ 40) :
    Calls Try.prog 31 #[.int .u64 num, .int .u64 rem, .slice A n c] w (BAns 51 (zs.sum * num + rem) w) := by
  have HZ := hid hz
  have HL := hid hz.1
  have HI := hid hi
  have N0 := hid n0
  have N1 := hid n1
  clear hz hi n0 n1
  go_enter Try.func31, Try.ntmps31
  go_wp2_with fail
  refine (Ref.U rem r0 r1 _).mono ?_
  rintro e w1 ⟨s1, A1, n1, c1, rfl, hB1, hb1⟩
  have hF := (Fresh.new w 26).below hb1
  have hlt : w.heap.size < w1.heap.size := World.block_lt_of_cell? w1 _ hF.1
  have H1 := hid hB1
  have HF1 := hid hF
  have HB1 := hid (((Below.refl _ w).alloc (Nat.le_refl _) (Obj.cells #[Value.bool false, Value.slice none 0 0] 26)).trans (hb1.mono (by simp)))
  clear hB1 hb1 hF r0 r1
  go_wp2_with fail
  go_loopg [14] n (fun g i wr => ∃ (k : Nat) (s : Bool) (A' : Option Addr) (n' c' : Nat), i = .int .i64 k ∧ g = n - k ∧ k ≤ n ∧ IsB wr (11 + k) s A' n' c' ((zs.take k).sum * num + rem) ∧ Var wr w1.heap.size s A' n' c' ∧ Fresh wr w.heap.size ∧ Below w.heap.size w wr)
  case atStart =>
    have hba := (Below.refl _ w1).alloc (Nat.le_refl _) (Obj.cells #[.bool s1, .slice A1 n1 c1] 26)
    exact ⟨0, s1, A1, n1, c1, rfl, rfl, Nat.zero_le _, by have := (H1.out.alloc (.cells #[.bool s1, .slice A1 n1 c1] 26)).mono (show 5 ≤ 11 + 0 by decide); simpa using this, Var.new _ _ _ _ _ _, HF1.out.below hba, below_keep HB1.out hba⟩
  case round =>
    obtain ⟨k, s, A', n', c', rfl, hg, hk, hB, hV, hF, hb⟩ := hrel
    have HG := hid hg
    have HO := hid hB
    have HV := hid hV
    have HF := hid hF
    have HB := hid hb
    obtain ⟨v0, v1, v2, v3, _⟩ := hV
    clear hg hB hF hb
    by_cases hlt2 : k < n
    · obtain ⟨b2, off2, e2, hbl, hc⟩ := (HZ.out.below HB.out).2 k hlt2
      subst e2
      have hcell := hc k hlt2
      have HS := hid (sum_take zs (k := k) (by have := HL.out; omega))
      have HQ := hid (HI.out.get (k := k) (by have := HL.out; omega))
      generalize zs.getD k 0 = z at *
      clear hc
      go_wp2_with fail
      clear hcell
      go_region_with (first
        | (go_at_call_of 34 (Value.int .u64 z); refine (Ref.U z HQ.out.1 HQ.out.2 _).mono ?_; rintro e w2 ⟨s2, A2, n2, c2, rfl, hB, hb2⟩; have H2 := hid hB; have HV2 := hid (HV.out.drew.below hb2); have HO2 := hid (HO.out.drew.below hb2); have HF2 := hid (Fresh.below (w := wr.drew) HF.out hb2); have HB2 := hid (below_keep HB.out.drew hb2); obtain ⟨v0, v1, v2, v3, _⟩ := HV2.out; clear hB hb2)
        | (go_at_call_of 34 (Value.int .u64 num); refine (Ref.U num N0.out N1.out _).mono ?_; rintro e w3 ⟨s3, A3, n3, c3, rfl, hB, hb2⟩; have H3 := hid hB; have H2' := hid (H2.out.below hb2); have HV3 := hid (HV2.out.below hb2); have HO3 := hid (HO2.out.below hb2); have HF3 := hid (HF2.out.below hb2); have HB3 := hid (below_keep HB2.out hb2); obtain ⟨v0, v1, v2, v3, _⟩ := HV3.out; clear hB hb2)
        | (go_at_call 37; refine (Ref.mul 5 5 s2 s3 A2 A3 n2 c2 n3 c3 _ _ _ H2'.out H3.out (by decide) (by decide)).mono ?_; rintro e w4 ⟨s4, A4, n4, c4, rfl, hB, hb2⟩; have H4 := hid (hB.mono (show 5 + 5 + 1 ≤ 11 + k by omega)); have HV4 := hid (HV3.out.below hb2); have HO4 := hid (HO3.out.below hb2); have HF4 := hid (HF3.out.below hb2); have HB4 := hid (below_keep HB3.out hb2); obtain ⟨v0, v1, v2, v3, _⟩ := HV4.out; clear hB hb2)
        | (go_at_call 19; refine (Ref.add (11 + k) s s4 A' A4 n' c' n4 c4 _ _ _ HO4.out H4.out (by omega)).mono ?_; rintro e w5 ⟨s5, A5, n5, c5, rfl, hB, hb2⟩; have H5 := hid hB; have HV5 := hid (HV4.out.below hb2); have HF5 := hid (HF4.out.below hb2); have HB5 := hid (below_keep HB4.out hb2); obtain ⟨v0, v1, v2, v3, _⟩ := HV5.out; clear hB hb2))
      all_goals
        have HE : Hid ((zs.take (k + 1)).sum * num + rem = (zs.take k).sum * num + rem + z * num) := hid (by rw [HS.out, Int.add_mul]; omega)
        go_wp2_with fail
        go_roundg (n - (k + 1))
        case measure => have := HG.out; omega
        case rel =>
          refine ⟨k + 1, s5, A5, n5, c5, by go_num, rfl, by omega, ?_, HV5.out.store _ _ _ _, ?_, (HB5.out.setCell (Nat.le_of_lt hlt) _).setCell (Nat.le_of_lt hlt) _⟩
          · rw [HE.out]; exact H5.out.storeV HV5.out _ _ _ _
          · exact Fresh.ofVar ((Var.fresh HF5.out).far (by omega) _ _ _ _)
    · obtain ⟨t0, t1, t2, t3, _⟩ := HF.out
      have e : zs.take k = zs := List.take_of_length_le (by have := HL.out; omega)
      rw [e] at HO
      clear e
      go_wp2_with fail
      exact bodyPost_ret (v := .agg #[.bool s, .slice A' n' c']) (by simp [results, Try.results31, go_sem, t0, t1]) rfl ⟨_, _, _, _, rfl, (HO.out.mono (by omega)).store HF.out.2.2.2.2 _ _ _ _, (HB.out.setCell (by simp) _).setCell (by simp) _⟩

end Go.Proofs.Ytjklcbbanlaicaa

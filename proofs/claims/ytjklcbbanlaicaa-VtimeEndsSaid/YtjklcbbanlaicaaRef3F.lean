/- The contracts of the document's answer for layer 3, continued: the first and the last one. -/
import Derived.Test.YtjklcbbanlaicaaSince
import Derived.Test.YtjklcbbanlaicaaVspread
namespace Go.Proofs.Ytjklcbbanlaicaa
open Go.RowKit

set_option maxHeartbeats 2000000 in
theorem Ref3.first (A : Option Addr) (n c : Nat) (z0 : Int) (zs : List Int) (w : World) (hz : RdU .u64 w A (n + 1) (z0 :: zs)) (hi : InU (z0 :: zs)) (hn : n ≤ 1152921504606846976) :
    Calls Try.prog 50 #[.slice A (n + 1) c] w fun e w' => e = .returned (.int .u64 (firstL z0 zs)) ∧ Below w.heap.size w w' := by
  have HZ := hid hz
  have HL := hid hz.1
  have HI := hid hi
  have E0 : Hid ((z0 :: zs).foldl fstep z0 = firstL z0 zs) := hid (by simp only [List.foldl_cons]; rw [show fstep z0 z0 = z0 by unfold fstep; rw [dif_self]; rfl]; rfl)
  have ht0 : Hid (IsT z0) := hid (hi z0 (by simp))
  obtain ⟨b0, off0, e0, hc0⟩ := hz.head
  subst e0
  have l1 : (0 : Int) < (n : Int) + 1 := by omega
  clear hz hi
  go_enter Try.func50, Try.ntmps50
  go_wp2_with fail
  go_loopg [3, 11] (n + 1) (fun g a i wr => ∃ (k : Nat) (x : Int), k ≤ n + 1 ∧ g = n + 1 - k ∧ i = .int .i64 k ∧ a = .int .u64 x ∧ Hid (x = ((z0 :: zs).take k).foldl fstep z0 ∧ IsT x) ∧ Below w.heap.size w wr)
  case atStart => exact ⟨0, z0, Nat.zero_le _, by omega, rfl, rfl, hid ⟨rfl, ht0.out⟩, Below.refl _ _⟩
  case round =>
    obtain ⟨k, x, hk, hg, rfl, rfl, hx, hb⟩ := hrel
    have HB := hid hb
    have HG := hid hg
    clear hb hg
    by_cases hlt : k < n + 1
    · obtain ⟨b, off, e, hbl, hc⟩ := (HZ.out.below HB.out).2 k hlt
      injection e with e; injection e with e1 e2
      subst e1 e2
      have hcell := hc k hlt
      have HS := hid (take_step (f := fstep) (t := z0) (zs := z0 :: zs) (k := k) (by have := HL.out; omega))
      have HQ := hid (HI.out.get (k := k) (by have := HL.out; omega))
      generalize (z0 :: zs).getD k 0 = z at *
      have hlt2 : (k : Int) < (n : Int) + 1 := by omega
      clear hc hc0
      go_wp2_with fail
      refine (Ref3.before z x HQ.out.1 HQ.out.2 hx.out.2.1 hx.out.2.2 _).mono ?_
      rintro e w2 ⟨rfl, hb2⟩
      have HB2 := hid (HB.out.trans (hb2.mono HB.out.size))
      clear hb2
      by_cases c2 : dif z x < 0
      · go_wp2_with fail
        go_roundg (n + 1 - (k + 1))
        case measure => have := HG.out; omega
        case rel => exact ⟨k + 1, _, by omega, rfl, by go_num, rfl, hid ⟨by rw [HS.out, ← hx.out.1]; unfold fstep; rw [if_pos c2], HQ.out⟩, HB2.out⟩
      · go_wp2_with fail
        go_roundg (n + 1 - (k + 1))
        case measure => have := HG.out; omega
        case rel => exact ⟨k + 1, _, by omega, rfl, by go_num, rfl, hid ⟨by rw [HS.out, ← hx.out.1]; unfold fstep; rw [if_neg (by omega)], hx.out.2⟩, HB2.out⟩
    · have hlt2 : ¬ (k : Int) < (n : Int) + 1 := by omega
      go_wp2_with fail
      go_ret
      have e : (z0 :: zs).take k = z0 :: zs := List.take_of_length_le (by have := HL.out; omega)
      have hx2 := hx.out.1
      rw [e, E0.out] at hx2
      exact ⟨by rw [hx2]; rfl, HB.out⟩

set_option maxHeartbeats 2000000 in
theorem Ref3.last (A : Option Addr) (n c : Nat) (z0 : Int) (zs : List Int) (w : World) (hz : RdU .u64 w A (n + 1) (z0 :: zs)) (hi : InU (z0 :: zs)) (hn : n ≤ 1152921504606846976) :
    Calls Try.prog 52 #[.slice A (n + 1) c] w fun e w' => e = .returned (.int .u64 (lastL z0 zs)) ∧ Below w.heap.size w w' := by
  have HZ := hid hz
  have HL := hid hz.1
  have HI := hid hi
  have E0 : Hid ((z0 :: zs).foldl lstep z0 = lastL z0 zs) := hid (by simp only [List.foldl_cons]; rw [show lstep z0 z0 = z0 by unfold lstep; rw [dif_self]; rfl]; rfl)
  have ht0 : Hid (IsT z0) := hid (hi z0 (by simp))
  obtain ⟨b0, off0, e0, hc0⟩ := hz.head
  subst e0
  have l1 : (0 : Int) < (n : Int) + 1 := by omega
  clear hz hi
  go_enter Try.func52, Try.ntmps52
  go_wp2_with fail
  go_loopg [3, 11] (n + 1) (fun g a i wr => ∃ (k : Nat) (x : Int), k ≤ n + 1 ∧ g = n + 1 - k ∧ i = .int .i64 k ∧ a = .int .u64 x ∧ Hid (x = ((z0 :: zs).take k).foldl lstep z0 ∧ IsT x) ∧ Below w.heap.size w wr)
  case atStart => exact ⟨0, z0, Nat.zero_le _, by omega, rfl, rfl, hid ⟨rfl, ht0.out⟩, Below.refl _ _⟩
  case round =>
    obtain ⟨k, x, hk, hg, rfl, rfl, hx, hb⟩ := hrel
    have HB := hid hb
    have HG := hid hg
    clear hb hg
    by_cases hlt : k < n + 1
    · obtain ⟨b, off, e, hbl, hc⟩ := (HZ.out.below HB.out).2 k hlt
      injection e with e; injection e with e1 e2
      subst e1 e2
      have hcell := hc k hlt
      have HS := hid (take_step (f := lstep) (t := z0) (zs := z0 :: zs) (k := k) (by have := HL.out; omega))
      have HQ := hid (HI.out.get (k := k) (by have := HL.out; omega))
      generalize (z0 :: zs).getD k 0 = z at *
      have hlt2 : (k : Int) < (n : Int) + 1 := by omega
      clear hc hc0
      go_wp2_with fail
      refine (Ref3.before x z hx.out.2.1 hx.out.2.2 HQ.out.1 HQ.out.2 _).mono ?_
      rintro e w2 ⟨rfl, hb2⟩
      have HB2 := hid (HB.out.trans (hb2.mono HB.out.size))
      clear hb2
      by_cases c2 : dif x z < 0
      · go_wp2_with fail
        go_roundg (n + 1 - (k + 1))
        case measure => have := HG.out; omega
        case rel => exact ⟨k + 1, _, by omega, rfl, by go_num, rfl, hid ⟨by rw [HS.out, ← hx.out.1]; unfold lstep; rw [if_pos c2], HQ.out⟩, HB2.out⟩
      · go_wp2_with fail
        go_roundg (n + 1 - (k + 1))
        case measure => have := HG.out; omega
        case rel => exact ⟨k + 1, _, by omega, rfl, by go_num, rfl, hid ⟨by rw [HS.out, ← hx.out.1]; unfold lstep; rw [if_neg (by omega)], hx.out.2⟩, HB2.out⟩
    · have hlt2 : ¬ (k : Int) < (n : Int) + 1 := by omega
      go_wp2_with fail
      go_ret
      have e : (z0 :: zs).take k = z0 :: zs := List.take_of_length_le (by have := HL.out; omega)
      have hx2 := hx.out.1
      rw [e, E0.out] at hx2
      exact ⟨by rw [hx2]; rfl, HB.out⟩

end Go.Proofs.Ytjklcbbanlaicaa

/- Texts of DtreePlays's proof, together. -/
import Derived.Test.YtbcepkfdlaioaaaGreatDtreePlaysZ0
import Derived.Test.YtbcepkfdlaioaaaGreatDtreePlaysZ3
import Derived.Test.YtbcepkfdlaioaaaGreatVtime
import Derived.Test.YtbcepkfdlaioaaaGreatDtreePlaysZ7
import Derived.Test.YtbcepkfdlaioaaaGreatRdu
import Derived.Deep.LoopGhost
import Derived.OpenShut
namespace Go.Proofs.YtbcepkfdlaioaaaGreat

section
open Go.RowKit
theorem below_on {W w w' : World} (h : Below W.heap.size W w) (hb : Below w.heap.size w w') : Below W.heap.size W w' := h.trans (hb.mono h.size)
end


section
open Go.RowKit
set_option maxHeartbeats 400000 in
theorem Wide.small (h l n : Int) (hw : IsW h l n) (n0 : -9223372036854775808 ≤ n) (n1 : n ≤ 9223372036854775807) (w : World) :
  Calls Tryz.prog 117 #[.agg #[.int .i64 h, .int .u64 l]] w fun e w' => e = .returned (.tuple #[.int .i64 n, .bool true]) ∧ Below w.heap.size w w' := by
 have E : wrap64 l = n := by obtain ⟨h1, h2, h3, h4, h5⟩ := hw; unfold wrap64; omega
 have HE := hid E
 have HW := hid hw
 clear E hw
 go_enter Tryz.func117, Tryz.ntmps117
 go_wp2_with fail
 rw [HE.out]
 go_region_held3 (fun w' => (w'.cell? ⟨w.heap.size, 0, none⟩ = some (.int .i64 h) ∧ w'.cell? ⟨w.heap.size, 1, none⟩ = some (.int .u64 l)) ∧ Below w.heap.size w w')
  (first | exact ⟨⟨by simp [go_sem], by simp [go_sem]⟩, ((Below.refl _ _).alloc (Nat.le_refl _) _).drew⟩ | exact ⟨keep2 (And.left (by assumption : _ ∧ Below w.heap.size w _)) hb2, below_on (And.right (by assumption : _ ∧ Below w.heap.size w _)) hb2⟩)
  (first | (go_at_call 125; refine (Wide.ofN n n0 n1 _).mono ?_; rintro e w2 ⟨h2, l2, rfl, hw2, hb2⟩; obtain ⟨rfl, rfl⟩ := IsW.inj HW.out hw2))
 have HF := hid (And.right (by assumption : _ ∧ Below w.heap.size w w2))
 clear hb2
 go_wp2
 go_ret2
 exact ⟨rfl, HF.out⟩
set_option maxHeartbeats 400000 in
theorem Pos.weight (x : Int) (w : World) :
  Calls Tryz.prog 68 #[.int .u32 x] w fun e w' => e = .returned (.bool (decide (1 ≤ x ∧ x ≤ 1048576))) ∧ Below w.heap.size w w' := by
 by_cases h1 : 1 ≤ x
 ·by_cases h2 : x ≤ 1048576
  ·have e : decide (1 ≤ x ∧ x ≤ 1048576) = true := by rw [decide_eq_true_eq]; exact ⟨h1, h2⟩
   rw [e]
   clear e
   go_enter Tryz.func68, Tryz.ntmps68
   go_wp2
   go_ret
   exact ⟨rfl, Below.refl _ _⟩
  ·have e : decide (1 ≤ x ∧ x ≤ 1048576) = false := by rw [decide_eq_false_iff_not]; omega
   rw [e]
   clear e
   go_enter Tryz.func68, Tryz.ntmps68
   go_wp2
   go_ret
   exact ⟨rfl, Below.refl _ _⟩
 ·have e : decide (1 ≤ x ∧ x ≤ 1048576) = false := by rw [decide_eq_false_iff_not]; omega
  rw [e]
  clear e
  go_enter Tryz.func68, Tryz.ntmps68
  go_wp2
  go_ret
  exact ⟨rfl, Below.refl _ _⟩
set_option maxHeartbeats 1000000 in
theorem Pos.right (t r v : Int) (w : World) :
  Calls Tryz.prog 49 #[.agg #[.int .u64 t, .int .u32 r, .int .u32 v]] w fun e w' => e = .returned (.bool (decide (1 ≤ v ∧ v ≤ 1048576) && decide (r < v))) ∧ Below w.heap.size w w' := by
 by_cases h : 1 ≤ v ∧ v ≤ 1048576
 ·have e : decide (1 ≤ v ∧ v ≤ 1048576) = true := by rw [decide_eq_true_eq]; exact h
  have E := hid e
  rw [e]
  clear e h
  go_enter Tryz.func49, Tryz.ntmps49
  go_wp2_with fail
  refine (Pos.weight v _).mono ?_
  rintro e w1 ⟨rfl, hb⟩
  rw [E.out]
  obtain ⟨c0, c1⟩ : w1.cell? ⟨w.heap.size, 1, none⟩ = some (.int .u32 r) ∧ w1.cell? ⟨w.heap.size, 2, none⟩ = some (.int .u32 v) := keep2 ⟨by simp [go_sem], by simp [go_sem]⟩ hb
  have HB := hid (((Below.refl _ w).alloc (Nat.le_refl _) (.cells #[.int .u64 t, .int .u32 r, .int .u32 v] 33)).trans (hb.mono (by simp)))
  clear hb
  go_wp2
  go_ret
  exact ⟨rfl, HB.out⟩
 ·have e : decide (1 ≤ v ∧ v ≤ 1048576) = false := by rw [decide_eq_false_iff_not]; exact h
  have E := hid e
  rw [e]
  clear e h
  go_enter Tryz.func49, Tryz.ntmps49
  go_wp2_with fail
  refine (Pos.weight v _).mono ?_
  rintro e w1 ⟨rfl, hb⟩
  rw [E.out]
  have HB := hid (((Below.refl _ w).alloc (Nat.le_refl _) (.cells #[.int .u64 t, .int .u32 r, .int .u32 v] 33)).trans (hb.mono (by simp)))
  clear hb
  go_wp2
  go_ret
  exact ⟨rfl, HB.out⟩
end


section
open Go.RowKit
def StepR (a num den rem q r : Int) (ok : Bool) : Prop :=
 (ok = true ∧ rem < den ∧ q * den + r = a * num + rem ∧ 0 ≤ r ∧ r < den ∧ 0 ≤ q ∧ q ≤ 18446744073709551615) ∨
 (ok = false ∧ q = 0 ∧ r = 0 ∧ (den ≤ rem ∨ 18446744073709551616 * den ≤ a * num + rem))
def StepAns (a num den rem : Int) (w : World) (e : Ending) (w' : World) : Prop :=
 ∃ (q r : Int) (ok : Bool), e = .returned (.tuple #[.int .u64 q, .int .u64 r, .bool ok]) ∧ StepR a num den rem q r ok ∧ Below w.heap.size w w'
theorem step_no {a num den rem h l : Int} (e : h * 18446744073709551616 + l = a * num) (p : den ≤ h + (l + rem) / 18446744073709551616) : StepR a num den rem 0 0 false := by
 refine .inr ⟨rfl, rfl, rfl, .inr ?_⟩
 omega
theorem step_yes {a num den rem h l q r : Int} (e : h * 18446744073709551616 + l = a * num) (hr : rem < den) (d : q * den + r = (h + (l + rem) / 18446744073709551616) * 18446744073709551616 + (l + rem) % 18446744073709551616)
  (r0 : 0 ≤ r) (r1 : r < den) (q0 : 0 ≤ q) (q1 : q ≤ 18446744073709551615) : StepR a num den rem q r true :=
 .inl ⟨rfl, hr, by omega, r0, r1, q0, q1⟩
theorem mul_room {a num h l : Int} (a1 : a ≤ 18446744073709551615) (n0 : 0 ≤ num) (n1 : num ≤ 18446744073709551615) (e : h * 18446744073709551616 + l = a * num) (l0 : 0 ≤ l) : h ≤ 18446744073709551614 := by
 have : a * num ≤ 18446744073709551615 * 18446744073709551615 := Int.mul_le_mul a1 n1 n0 (by decide)
 omega
set_option maxHeartbeats 1000000 in
theorem Muldiv.step (a num den rem : Int) (a0 : 0 ≤ a) (a1 : a ≤ 18446744073709551615) (n0 : 0 ≤ num) (n1 : num ≤ 18446744073709551615) (d0 : 0 ≤ den) (d1 : den ≤ 18446744073709551615) (r0 : 0 ≤ rem) (r1 : rem ≤ 18446744073709551615) (w : World) :
  Calls Tryz.prog 119 #[.int .u64 a, .int .u64 num, .int .u64 den, .int .u64 rem] w (StepAns a num den rem w) := by
 by_cases c1 : den ≤ rem
 ·go_enter Tryz.func119, Tryz.ntmps119
  go_wp2
  go_ret3
  exact ⟨_, _, _, rfl, .inr ⟨rfl, rfl, rfl, .inl c1⟩, Below.refl _ _⟩
 ·go_enter Tryz.func119, Tryz.ntmps119
  go_wp2_with fail
  refine (Bits.mul64 a num a0 (by omega) n0 (by omega) _).mono ?_
  rintro e w' ⟨⟨h, l, rfl, e1, h0, h1, l0, l1⟩, rfl⟩
  have hm := mul_room a1 n0 n1 e1 l0
  have E1 := hid e1
  clear e1
  have k0 : 0 ≤ (l + rem) / 18446744073709551616 := by omega
  have k1 : (l + rem) / 18446744073709551616 ≤ 1 := by omega
  by_cases c2 : den ≤ h + (l + rem) / 18446744073709551616
  ·go_wp2_with (simp only [Bits.add64_0 _ _ l0 r0])
   go_ret3
   exact ⟨_, _, _, rfl, step_no E1.out c2, Below.refl _ _⟩
  ·go_wp2_with (simp only [Bits.add64_0 _ _ l0 r0])
   refine (Div.div64 _ _ den (by omega) (by omega) (by omega) (by omega) d1 _).mono ?_
   rintro e w2 ⟨q, r, rfl, ⟨e2, f0, f1, q0, q1⟩, hb⟩
   have SR := hid (step_yes E1.out (by omega) e2 f0 f1 q0 q1)
   clear e2
   go_wp2
   go_ret3
   exact ⟨_, _, _, rfl, SR.out, hb⟩
def Part (S num den rem q r : Int) : Prop := q * den + r = S * num + rem ∧ 0 ≤ r ∧ r < den ∧ 0 ≤ q ∧ q ≤ 18446744073709551615
theorem Part.step {S num den rem q r a p s : Int} (h : Part S num den rem q r) (d1 : den ≤ 18446744073709551615) (hs : StepR a num den r p s true) :
  ((q + p) / 18446744073709551616 = 0 → Part (S + a) num den rem ((q + p) % 18446744073709551616) s) ∧ (0 < (q + p) / 18446744073709551616 → 18446744073709551616 * den ≤ (S + a) * num + rem) := by
 obtain ⟨h1, h2, h3, h4, h5⟩ := h
 rcases hs with ⟨_, g1, g2, g3, g4, g5, g6⟩ | ⟨g, _⟩
 ·have e : (q + p) * den + s = (S + a) * num + rem := by rw [Int.add_mul, Int.add_mul]; omega
  refine ⟨fun c => ⟨?_, g3, g4, by omega, by omega⟩, fun c => ?_⟩
  ·rw [show (q + p) % 18446744073709551616 = q + p by omega]; exact e
  ·have : 18446744073709551616 * den ≤ (q + p) * den := Int.mul_le_mul_of_nonneg_right (by omega) (by omega)
   omega
 ·cases g
theorem Part.stop {S num den rem q r a p s : Int} (h : Part S num den rem q r) (hs : StepR a num den r p s false) : 18446744073709551616 * den ≤ (S + a) * num + rem := by
 obtain ⟨h1, h2, h3, h4, h5⟩ := h
 rcases hs with ⟨g, _⟩ | ⟨_, _, _, g | g⟩
 ·cases g
 ·omega
 ·have : 0 ≤ q * den := Int.mul_nonneg h4 (by omega)
  rw [Int.add_mul]; omega
theorem great_all {S T num den rem : Int} (h : 18446744073709551616 * den ≤ S * num + rem) (hle : S ≤ T) (n0 : 0 ≤ num) : StepR T num den rem 0 0 false := by
 refine .inr ⟨rfl, rfl, rfl, .inr ?_⟩
 have := Int.mul_le_mul_of_nonneg_right hle n0
 omega
set_option maxHeartbeats 2000000 in
theorem Muldiv.steps (num den rem : Int) (A : Option Addr) (n c : Nat) (zs : List Int) (n0 : 0 ≤ num) (n1 : num ≤ 18446744073709551615) (d0 : 0 ≤ den) (d1 : den ≤ 18446744073709551615) (r0 : 0 ≤ rem)
  (w : World) (hz : RdU .u64 w A n zs) (hi : InU zs) (hn : n ≤ 1152921504606846976) :
  Calls Tryz.prog 120 #[.int .u64 num, .int .u64 den, .int .u64 rem, .slice A n c] w (StepAns zs.sum num den rem w) := by
 have HI := hid hi
 clear hi
 by_cases c1 : den ≤ rem
 ·go_enter Tryz.func120, Tryz.ntmps120
  go_wp2
  go_ret3
  exact ⟨_, _, _, rfl, .inr ⟨rfl, rfl, rfl, .inl c1⟩, Below.refl _ _⟩
 ·have HZ := hid hz
  obtain ⟨hl, hz⟩ := hz
  have HL := hid hl
  clear hl hz
  go_enter Tryz.func120, Tryz.ntmps120
  go_wp2_with fail
  go_loopg [8, 2, 20] n (fun g a b i wr => ∃ (k : Nat) (q r : Int), k ≤ n ∧ g = n - k ∧ i = .int .i64 k ∧ a = .int .u64 q ∧ b = .int .u64 r ∧ Part (zs.take k).sum num den rem q r ∧ Below w.heap.size w wr)
  case atStart => exact ⟨0, 0, rem, Nat.zero_le _, by omega, rfl, rfl, rfl, ⟨by simp, r0, by omega, by decide, by decide⟩, Below.refl _ _⟩
  case round =>
   obtain ⟨k, q, r, hk, hg, rfl, rfl, rfl, hp, hb⟩ := hrel
   have HP := hid hp
   have HB := hid hb
   have HG := hid hg
   obtain ⟨_, p2, p3, p4, p5⟩ := hp
   clear hb hg
   by_cases hlt : k < n
   ·obtain ⟨b, off, rfl, hbl, hc⟩ := (HZ.out.below HB.out).2 k hlt
    have hcell := hc k hlt
    obtain ⟨z0, z1⟩ := HI.out.get (k := k) (by have := HL.out; omega)
    have HS := hid (sum_take zs (k := k) (by have := HL.out; omega))
    generalize zs.getD k 0 = z at *
    clear hc
    go_wp2_with fail
    refine (Muldiv.step z num den r z0 z1 n0 n1 d0 d1 p2 (by omega) _).mono ?_
    rintro e w2 ⟨p, s, ok, rfl, hsr, hb2⟩
    have HB2 := hid (HB.out.trans (hb2.mono HB.out.size))
    clear hb2
    rcases ok with _ | _
    ·have NO := hid (great_all (HP.out.stop hsr) (by rw [← HS.out]; exact sum_take_le zs HI.out (k + 1)) n0)
     clear hsr
     go_wp2_with fail
     go_ret3
     exact ⟨_, _, _, rfl, NO.out, HB2.out⟩
    ·have P2 := hid (HP.out.step d1 hsr)
     have q0 : 0 ≤ p := by rcases hsr with ⟨_, _, _, _, _, g5, _⟩ | ⟨g, _⟩; exact g5; cases g
     clear hsr
     by_cases c2 : (q + p) / 18446744073709551616 = 0
     ·have c3 : ((q + p) / 18446744073709551616 != 0) = false := by simpa using c2
      clear c2
      go_wp2_with (simp only [Bits.add64_0 _ _ p4 q0])
      go_roundg (n - (k + 1))
      case measure => have := HG.out; omega
      case rel => exact ⟨k + 1, _, _, by omega, rfl, by go_num, rfl, rfl, by rw [HS.out]; exact P2.out.1 (by simpa using c3), HB2.out⟩
     ·have c3 : ((q + p) / 18446744073709551616 != 0) = true := by simpa using c2
      have NO := hid (great_all (P2.out.2 (by omega)) (by rw [← HS.out]; exact sum_take_le zs HI.out (k + 1)) n0)
      clear c2
      go_wp2_with (simp only [Bits.add64_0 _ _ p4 q0])
      go_ret3
      exact ⟨_, _, _, rfl, NO.out, HB2.out⟩
   ·go_wp2_with fail
    go_ret3
    have e : zs.take k = zs := List.take_of_length_le (by have := HL.out; omega)
    have HP2 := HP.out
    rw [e] at HP2
    obtain ⟨g1, g2, g3, g4, g5⟩ := HP2
    exact ⟨_, _, _, rfl, .inl ⟨rfl, by omega, g1, g2, g3, g4, g5⟩, HB.out⟩
set_option maxHeartbeats 1000000 in
theorem Law2.awake (w : World) : Calls Tryz.prog 108 #[] w fun e w' => e = .returned (.bool true) ∧ Below w.heap.size w w' := by
 go_enter Tryz.func108, Tryz.ntmps108
 go_wp2_with fail
 refine (Muldiv.step 3 5 4 1 (by decide) (by decide) (by decide) (by decide) (by decide) (by decide) (by decide) (by decide) _).mono ?_
 rintro e w1 ⟨q, r, ok, rfl, hs, hb⟩
 obtain ⟨rfl, rfl, rfl⟩ : q = 4 ∧ r = 0 ∧ ok = true := by
  rcases hs with ⟨rfl, h1, h2, h3, h4, h5, h6⟩ | ⟨_, _, _, h1⟩
  ·exact ⟨by omega, by omega, rfl⟩
  ·omega
 clear hs
 go_wp2_with fail
 refine (Muldiv.steps 1 3 0 _ _ _ _ (by decide) (by decide) (by decide) (by decide) (by decide) _ (RdU.new3 _ _ _ _ _ _) (by intro z hz; simp at hz; omega) (by decide)).mono ?_
 rintro e w2 ⟨q, r, ok, rfl, hs, hb2⟩
 obtain ⟨rfl, rfl, rfl⟩ : q = 1 ∧ r = 0 ∧ ok = true := by
  simp only [List.sum_cons, List.sum_nil] at hs
  rcases hs with ⟨rfl, h1, h2, h3, h4, h5, h6⟩ | ⟨_, _, _, h1⟩
  ·exact ⟨by omega, by omega, rfl⟩
  ·omega
 clear hs
 have B2 := hid (hb.trans (((Below.refl _ _).alloc (Nat.le_refl _) _).trans (hb2.mono (by simp)) |>.mono hb.size))
 clear hb hb2
 go_wp2_with fail
 refine (Law1.Awake _).mono ?_
 rintro e w3 ⟨rfl, hb3⟩
 have B3 := hid (B2.out.trans (hb3.mono B2.out.size))
 clear hb3 B2
 go_wp2
 go_ret
 exact ⟨rfl, B3.out⟩
end

end Go.Proofs.YtbcepkfdlaioaaaGreat

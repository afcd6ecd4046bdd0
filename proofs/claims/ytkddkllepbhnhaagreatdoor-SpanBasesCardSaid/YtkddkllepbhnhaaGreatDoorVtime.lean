/- The contracts of the package vtime. -/
import Derived.Test.YtkddkllepbhnhaaGreatDoorRdu
import Derived.Test.YtkddkllepbhnhaaGreatDoorSpanBasesZ0
import Derived.Test.YtkddkllepbhnhaaGreatDoorRows
import Derived.Deep.LoopGhost
import Derived.Deep.RegionHeld3
import Derived.Deep.QuietTactic
import Derived.BigQuiet
import Derived.OpenShut
namespace Go.Proofs.YtkddkllepbhnhaaGreatDoor
open Go.RowKit
set_option maxHeartbeats 400000 in
theorem Vtime.add (t d : Int) (w : World) :
    Calls Tryz.prog 126 #[.int .u64 t, .int .i64 d] w fun e w' => e = .returned (.int .u64 (adv t d)) ∧ Below w.heap.size w w' := by
  have E := hid (show IntKind.u64.wrap (t + IntKind.u64.wrap d) = adv t d by unfold adv; rw [IntKind.wrap_u64, IntKind.wrap_u64]; omega)
  go_enter Tryz.func126, Tryz.ntmps126
  go_wp2
  go_ret
  exact ⟨by rw [← E.out]; rfl, Below.refl _ _⟩
set_option maxHeartbeats 400000 in
theorem Vtime.since (t u : Int) (w : World) :
    Calls Tryz.prog 22 #[.int .u64 t, .int .u64 u] w fun e w' => e = .returned (.int .i64 (dif t u)) ∧ Below w.heap.size w w' := by
  have E := hid (show wrap64 (IntKind.u64.wrap (t - u)) = dif t u by rw [IntKind.wrap_u64]; unfold dif wrap64; omega)
  go_enter Tryz.func22, Tryz.ntmps22
  go_wp2
  go_ret
  exact ⟨by rw [← E.out]; rfl, Below.refl _ _⟩
set_option maxHeartbeats 400000 in
theorem Vtime.before (t u : Int) (w : World) :
    Calls Tryz.prog 107 #[.int .u64 t, .int .u64 u] w fun e w' => e = .returned (.bool (decide (dif t u < 0))) ∧ Below w.heap.size w w' := by
  go_enter Tryz.func107, Tryz.ntmps107
  go_wp2_with fail
  refine (Vtime.since t u _).mono ?_
  rintro e w1 ⟨rfl, hb⟩
  go_wp2
  go_ret
  exact ⟨rfl, hb⟩
set_option maxHeartbeats 2000000 in
theorem Vtime.first (t : Int) (A : Option Addr) (n c : Nat) (zs : List Int) (w : World) (hz : RdU .u64 w A n zs) (hn : n ≤ 1152921504606846976) :
    Calls Tryz.prog 49 #[.int .u64 t, .slice A n c] w fun e w' => e = .returned (.int .u64 (firstL t zs)) ∧ Below w.heap.size w w' := by
  have HZ := hid hz
  have HL := hid hz.1
  clear hz
  go_enter Tryz.func49, Tryz.ntmps49
  go_wp2_with fail
  go_loopg [0, 9] n (fun g a i wr => ∃ (k : Nat) (x : Int), k ≤ n ∧ g = n - k ∧ i = .int .i64 k ∧ a = .int .u64 x ∧ Hid (x = (zs.take k).foldl fstep t) ∧ Below w.heap.size w wr)
  case atStart => exact ⟨0, t, Nat.zero_le _, by omega, rfl, rfl, hid rfl, Below.refl _ _⟩
  case round =>
    obtain ⟨k, x, hk, hg, rfl, rfl, hx, hb⟩ := hrel
    have HB := hid hb
    have HG := hid hg
    clear hb hg
    by_cases hlt : k < n
    · obtain ⟨b, off, rfl, hbl, hc⟩ := (HZ.out.below HB.out).2 k hlt
      have hcell := hc k hlt
      have HS := hid (take_step (f := fstep) (t := t) (zs := zs) (k := k) (by have := HL.out; omega))
      generalize zs.getD k 0 = z at *
      clear hc
      go_wp2_with fail
      refine (Vtime.before z x _).mono ?_
      rintro e w2 ⟨rfl, hb2⟩
      have HB2 := hid (HB.out.trans (hb2.mono HB.out.size))
      clear hb2
      by_cases c2 : dif z x < 0
      · go_wp2_with fail
        go_roundg (n - (k + 1))
        case measure => have := HG.out; omega
        case rel => exact ⟨k + 1, _, by omega, rfl, by go_num, rfl, hid (by rw [HS.out, ← hx.out]; unfold fstep; rw [if_pos c2]), HB2.out⟩
      · go_wp2_with fail
        go_roundg (n - (k + 1))
        case measure => have := HG.out; omega
        case rel => exact ⟨k + 1, _, by omega, rfl, by go_num, rfl, hid (by rw [HS.out, ← hx.out]; unfold fstep; rw [if_neg (by omega)]), HB2.out⟩
    · go_wp2_with fail
      go_ret
      have e : zs.take k = zs := List.take_of_length_le (by have := HL.out; omega)
      have hx2 := hx.out
      rw [e] at hx2
      exact ⟨by rw [hx2]; rfl, HB.out⟩
end Go.Proofs.YtkddkllepbhnhaaGreatDoor

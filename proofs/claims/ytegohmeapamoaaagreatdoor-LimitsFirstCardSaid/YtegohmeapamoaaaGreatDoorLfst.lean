/- LimitsFirst: the walk. -/
import Derived.Test.YtegohmeapamoaaaGreatDoorLimitsFirstZ31
import Derived.Test.YtegohmeapamoaaaGreatDoorLimitsFirstZ45
import Derived.Test.YtegohmeapamoaaaGreatDoorTxt
namespace Go.Proofs.YtegohmeapamoaaaGreatDoor
open Go.RowKit
set_option maxRecDepth 100000 in
set_option maxHeartbeats 4000000 in
theorem Lfst.away (A : Option Addr) (n c : Nat) (w : World) (hn : 100 < n) : Calls Tryz.prog 4 #[.slice A n c] w (Ans (.bool true) w) := by
  have h2 : (100 : Int) < (n : Int) := by omega
  clear hn
  go_enter Tryz.func4, Tryz.ntmps4
  go_wp2_with fail
  refine (aw19a _).mono ?_
  rintro e w1 ⟨rfl, hb⟩
  have HB1 := hid hb
  clear hb
  go_wp2_with fail
  go_ret
  exact ⟨rfl, HB1.out⟩
set_option maxRecDepth 100000 in
set_option maxHeartbeats 8000000 in
theorem Lfst.core (A : Option Addr) (n c : Nat) (l : List Int) (w : World) (hr : RdU .i64 w A n l) (hn : n ≤ 100) : Calls Tryz.prog 4 #[.slice A n c] w (Ans (.bool true) w) := by
  have h2 : ¬ (100 : Int) < (n : Int) := by omega
  have HR := hid hr
  have HN := hid hn
  have HLN : Hid (l.length = n) := hid hr.1
  clear hr hn
  go_enter Tryz.func4, Tryz.ntmps4
  go_wp2_with fail
  refine (aw19a _).mono ?_
  rintro e w1 ⟨rfl, hb⟩
  have HB1 := hid hb
  clear hb
  go_wp2_with fail
  refine (Limits.all A n c l _ (HR.out.below HB1.out) (by have := HN.out; omega)).mono ?_
  rintro e w2 ⟨rfl, hb⟩
  have HB2 := hid (below_on HB1.out hb)
  clear hb HB1
  obtain ⟨r, hr⟩ : ∃ r, allI l = r := ⟨_, rfl⟩
  rw [hr]
  have HRR := hid hr
  clear hr
  go_wp2_with fail
  go_loopg [15] n (fun s i wr => ∃ k : Nat, i = .int .i64 k ∧ k ≤ n ∧ s = n - k ∧ Hid (∀ e ∈ l.take k, e = 0) ∧ Below w.heap.size w wr)
  case atStart => exact ⟨0, rfl, Nat.zero_le _, by omega, hid (by simp), HB2.out⟩
  case round =>
    obtain ⟨k, rfl, hk, hs, hz, hb⟩ := hrel
    have HS := hid hs
    have HB := hid hb
    clear hs hb
    by_cases hkn : k < n
    · have hki : (k : Int) < n := by omega
      have hk0 : (0 : Int) ≤ k := by omega
      obtain ⟨bb, off, hA, _, hc⟩ := (HR.out.below HB.out).2 k hkn
      subst hA
      have hcase := hid (allI_take l k (by have := HLN.out; omega) hz.out)
      have hcell := hc k hkn
      generalize l.getD k 0 = e at hcell hcase
      rcases hcase.out with ⟨h1, h2'⟩ | ⟨h1, h2'⟩
      · subst h1
        have HZ2 := hid h2'
        clear h2' hcase hc hz
        go_wp2_with fail
        go_roundg (n - (k + 1))
        case measure => have := HS.out; omega
        case rel => exact ⟨k + 1, by go_num, by omega, rfl, HZ2, HB.out⟩
      · have hne : (e == 0) = false := by simpa using h1
        have HRE : Hid (r = e) := hid (by rw [← HRR.out]; exact h2')
        clear h2' hcase hc hz
        go_wp2_with fail
        go_ret
        exact ⟨by rw [HRE.out] <;> simp, HB.out⟩
    · have hki : ¬ (k : Int) < n := by omega
      have HE : Hid (r = 0) := hid (by rw [← HRR.out]; exact allI_end l (by have h := hz.out; rw [List.take_of_length_le (by have := HLN.out; omega)] at h; exact h))
      clear hz
      go_wp2_with fail
      go_ret
      exact ⟨by rw [HE.out] <;> rfl, HB.out⟩
theorem Lfst.law (A : Option Addr) (n c : Nat) (l : List Int) (w : World) (h1 : RdU .i64 w A n l ∧ (∀ z ∈ l, (Lit.int .i64 z).wf = true) ∧ n ≤ c ∧ n ≤ 9223372036854775807) (_ : Tab10 w.heap.size w) : Calls Tryz.prog 4 #[.slice A n c] w (Ans (.bool true) w) := by
  by_cases hn : n ≤ 100
  · exact Lfst.core A n c l w h1.1 hn
  · exact Lfst.away A n c w (by omega)
end Go.Proofs.YtegohmeapamoaaaGreatDoor

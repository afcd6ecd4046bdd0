/- Texts of ClampRises's proof, together. -/
import Derived.Test.YthmilhhihcmdhaaGreatDoorWgC
import Derived.Test.YthmilhhihcmdhaaGreatDoorClC
namespace Go.Proofs.YthmilhhihcmdhaaGreatDoor
/- The chapter's examples of layer 12, as the laws ask them. -/
section
open Go.RowKit
theorem ex12w : winI 1 1 = 3145728 ∧ winOk 1 1 = true := by constructor <;> decide
theorem ex12c : carI [-5, 0] = 9 := by decide
section
attribute [local go_sem] Wide.eqB
set_option maxRecDepth 100000 in
set_option maxHeartbeats 4000000 in
theorem Law12.awake (w : World) (htab : Tab10 w.heap.size w) : Calls Tryz.prog 50 #[] w (Ans (.bool true) w) := by
  have HT := hid htab
  clear htab
  go_enter Tryz.func50, Tryz.ntmps50
  go_wp2_with fail
  refine (Clamp.window 1 1 ⟨by decide, by decide⟩ ⟨by decide, by decide⟩ _).mono ?_
  rw [ex12w.1, ex12w.2]
  rintro e w1 ⟨rfl, hb⟩
  have HB1 := hid hb
  clear hb
  go_wp2_with fail
  refine (Law11.Awake _ (HT.out.at2 HB1.out)).mono ?_
  rintro e w2 ⟨rfl, hb⟩
  have HB2 := hid (below_on HB1.out hb)
  clear hb HB1
  go_wp2_with fail
  refine (Wide.ofF (x := -5) (by decide) (by decide) _).mono ?_
  rintro e w3 ⟨rfl, hb⟩
  have HB3 := hid (below_on HB2.out hb)
  clear hb HB2
  go_wp2_with fail
  refine (Wide.ofF (x := 0) (by decide) (by decide) _).mono ?_
  rintro e w4 ⟨rfl, hb⟩
  have HB4 := hid (below_on HB3.out hb)
  have HR := hid (RdW.new2 w4 34 (-5) 0)
  have HB5 := hid (HB4.out.alloc HB4.out.size (.cells #[.int .i64 (hiW (-5)), .int .u64 (loW (-5)), .int .i64 (hiW 0), .int .u64 (loW 0)] 34))
  clear hb HB3 HB4
  go_wp2_with fail
  refine (Clamp.carried (some ⟨w4.heap.size, 0, none⟩) 2 2 [-5, 0] _ HR.out (fun x hx => by
    simp at hx
    rcases hx with rfl | rfl <;> (unfold WR; omega)) (by decide)).mono ?_
  rw [ex12c]
  rintro e w5 ⟨rfl, hb⟩
  have HB6 := hid (below_on HB5.out hb)
  clear hb HB5 HR
  go_wp2_with fail
  refine (Wide.ofF (x := 9) (by decide) (by decide) _).mono ?_
  rintro e w6 ⟨rfl, hb⟩
  have HB7 := hid (below_on HB6.out hb)
  clear hb HB6
  go_wp2_with fail
  go_ret
  exact ⟨rfl, HB7.out⟩
end
end

/- ClampRises: the walk. -/
section
open Go.RowKit
set_option maxRecDepth 100000 in
set_option maxHeartbeats 4000000 in
theorem Crise.no (s t : Int) (hs : IsT s) (ht : IsT t) (w : World) (h : winOk s t = false) (htab : Tab10 w.heap.size w) : Calls Tryz.prog 15 #[.int .u64 s, .int .u64 t] w (Ans (.bool true) w) := by
  have HS := hid hs
  have HTT := hid ht
  have HOK := hid h
  have HE : Hid (winI s t = 0) := hid (by unfold winI; rw [h]; rfl)
  clear h hs ht
  have HT := hid htab
  clear htab
  go_enter Tryz.func15, Tryz.ntmps15
  go_wp2_with fail
  refine (Law12.awake _ HT.out).mono ?_
  rintro e w1 ⟨rfl, hb⟩
  have HB1 := hid hb
  clear hb HT
  go_wp2_with fail
  refine (Clamp.window (s) (t) HS.out HTT.out _).mono ?_
  rw [HE.out, HOK.out]
  rintro e w2 ⟨rfl, hb⟩
  have HB2 := hid (below_on HB1.out hb)
  clear hb HB1
  go_wp2_with fail
  go_ret
  exact ⟨rfl, HB2.out⟩
set_option maxRecDepth 100000 in
set_option maxHeartbeats 4000000 in
theorem Crise.yes00 (s t : Int) (hs : IsT s) (ht : IsT t) (w : World) (h : winOk s t = true) (hi : ¬ s < 1099511627776) (hj : ¬ t < 1099511627776) (htab : Tab10 w.heap.size w) : Calls Tryz.prog 15 #[.int .u64 s, .int .u64 t] w (Ans (.bool true) w) := by
  have hb := winOk_iff.1 h
  have HS := hid hs
  have HTT := hid ht
  have HS1 : Hid (IsT (s + 1)) := hid ⟨by omega, by omega⟩
  have HT1 : Hid (IsT (t + 1)) := hid ⟨by omega, by omega⟩
  have e1 : IntKind.u64.wrap (s + 1) = s + 1 := by rw [IntKind.wrap_u64]; omega
  have e2 : IntKind.u64.wrap (t + 1) = t + 1 := by rw [IntKind.wrap_u64]; omega
  obtain ⟨a, ha⟩ : ∃ a, winI s t = a := ⟨_, rfl⟩
  have hav : a = (2 * s + t) * 1048576 := by rw [← ha]; unfold winI; rw [if_pos h]
  have hge : 3145728 ≤ a := by omega
  have e3 : IntKind.i64.wrap (a + 2097152) = a + 2097152 := by rw [IntKind.wrap_i64]; omega
  have e4 : IntKind.i64.wrap (a + 1048576) = a + 1048576 := by rw [IntKind.wrap_i64]; omega
  have e5 : wrap64 (a + 2097152) = a + 2097152 := by unfold wrap64; omega
  have e6 : wrap64 (a + 1048576) = a + 1048576 := by unfold wrap64; omega
  have HOK := hid h
  have HA := hid ha
  have k1 : winOk (s + 1) t = false := (winOk_no (by omega)).2
  have HOK1 := hid k1
  have HA1 : Hid (winI (s + 1) t = 0) := hid (winOk_no (by omega)).1
  have k2 : winOk s (t + 1) = false := (winOk_no (by omega)).2
  have HOK2 := hid k2
  have HA2 : Hid (winI s (t + 1) = 0) := hid (winOk_no (by omega)).1
  clear h hs ht hb ha hav k1 k2
  have HT := hid htab
  clear htab
  go_enter Tryz.func15, Tryz.ntmps15
  go_wp2_with fail
  refine (Law12.awake _ HT.out).mono ?_
  rintro e w1 ⟨rfl, hb⟩
  have HB1 := hid hb
  clear hb HT
  go_wp2_with fail
  refine (Clamp.window (s) (t) HS.out HTT.out _).mono ?_
  rw [HA.out, HOK.out]
  rintro e w2 ⟨rfl, hb⟩
  have HB2 := hid (below_on HB1.out hb)
  clear hb HB1
  go_wp2_with fail
  refine (Clamp.window (s + 1) (t) HS1.out HTT.out _).mono ?_
  rw [HA1.out, HOK1.out]
  rintro e w3 ⟨rfl, hb⟩
  have HB3 := hid (below_on HB2.out hb)
  clear hb HB2
  go_wp2_with fail
  refine (Clamp.window (s) (t + 1) HS.out HT1.out _).mono ?_
  rw [HA2.out, HOK2.out]
  rintro e w4 ⟨rfl, hb⟩
  have HB4 := hid (below_on HB3.out hb)
  clear hb HB3
  go_wp2_with fail
  go_ret
  exact ⟨by first | rfl | simp [hi, hj], HB4.out⟩
set_option maxRecDepth 100000 in
set_option maxHeartbeats 4000000 in
theorem Crise.yes01 (s t : Int) (hs : IsT s) (ht : IsT t) (w : World) (h : winOk s t = true) (hi : ¬ s < 1099511627776) (hj : t < 1099511627776) (htab : Tab10 w.heap.size w) : Calls Tryz.prog 15 #[.int .u64 s, .int .u64 t] w (Ans (.bool true) w) := by
  have hb := winOk_iff.1 h
  have HS := hid hs
  have HTT := hid ht
  have HS1 : Hid (IsT (s + 1)) := hid ⟨by omega, by omega⟩
  have HT1 : Hid (IsT (t + 1)) := hid ⟨by omega, by omega⟩
  have e1 : IntKind.u64.wrap (s + 1) = s + 1 := by rw [IntKind.wrap_u64]; omega
  have e2 : IntKind.u64.wrap (t + 1) = t + 1 := by rw [IntKind.wrap_u64]; omega
  obtain ⟨a, ha⟩ : ∃ a, winI s t = a := ⟨_, rfl⟩
  have hav : a = (2 * s + t) * 1048576 := by rw [← ha]; unfold winI; rw [if_pos h]
  have hge : 3145728 ≤ a := by omega
  have e3 : IntKind.i64.wrap (a + 2097152) = a + 2097152 := by rw [IntKind.wrap_i64]; omega
  have e4 : IntKind.i64.wrap (a + 1048576) = a + 1048576 := by rw [IntKind.wrap_i64]; omega
  have e5 : wrap64 (a + 2097152) = a + 2097152 := by unfold wrap64; omega
  have e6 : wrap64 (a + 1048576) = a + 1048576 := by unfold wrap64; omega
  have HOK := hid h
  have HA := hid ha
  have k1 : winOk (s + 1) t = false := (winOk_no (by omega)).2
  have HOK1 := hid k1
  have HA1 : Hid (winI (s + 1) t = 0) := hid (winOk_no (by omega)).1
  have k2 : winOk s (t + 1) = true := winOk_iff.2 (by omega)
  have HOK2 := hid k2
  have HA2 : Hid (winI s (t + 1) = a + 1048576) := hid (by unfold winI; rw [if_pos k2]; omega)
  clear h hs ht hb ha hav k1 k2
  have HT := hid htab
  clear htab
  go_enter Tryz.func15, Tryz.ntmps15
  go_wp2_with fail
  refine (Law12.awake _ HT.out).mono ?_
  rintro e w1 ⟨rfl, hb⟩
  have HB1 := hid hb
  clear hb HT
  go_wp2_with fail
  refine (Clamp.window (s) (t) HS.out HTT.out _).mono ?_
  rw [HA.out, HOK.out]
  rintro e w2 ⟨rfl, hb⟩
  have HB2 := hid (below_on HB1.out hb)
  clear hb HB1
  go_wp2_with fail
  refine (Clamp.window (s + 1) (t) HS1.out HTT.out _).mono ?_
  rw [HA1.out, HOK1.out]
  rintro e w3 ⟨rfl, hb⟩
  have HB3 := hid (below_on HB2.out hb)
  clear hb HB2
  go_wp2_with fail
  refine (Clamp.window (s) (t + 1) HS.out HT1.out _).mono ?_
  rw [HA2.out, HOK2.out]
  rintro e w4 ⟨rfl, hb⟩
  have HB4 := hid (below_on HB3.out hb)
  clear hb HB3
  go_wp2_with fail
  go_ret
  exact ⟨by first | rfl | simp [hi, hj], HB4.out⟩
set_option maxRecDepth 100000 in
set_option maxHeartbeats 4000000 in
theorem Crise.yes10 (s t : Int) (hs : IsT s) (ht : IsT t) (w : World) (h : winOk s t = true) (hi : s < 1099511627776) (hj : ¬ t < 1099511627776) (htab : Tab10 w.heap.size w) : Calls Tryz.prog 15 #[.int .u64 s, .int .u64 t] w (Ans (.bool true) w) := by
  have hb := winOk_iff.1 h
  have HS := hid hs
  have HTT := hid ht
  have HS1 : Hid (IsT (s + 1)) := hid ⟨by omega, by omega⟩
  have HT1 : Hid (IsT (t + 1)) := hid ⟨by omega, by omega⟩
  have e1 : IntKind.u64.wrap (s + 1) = s + 1 := by rw [IntKind.wrap_u64]; omega
  have e2 : IntKind.u64.wrap (t + 1) = t + 1 := by rw [IntKind.wrap_u64]; omega
  obtain ⟨a, ha⟩ : ∃ a, winI s t = a := ⟨_, rfl⟩
  have hav : a = (2 * s + t) * 1048576 := by rw [← ha]; unfold winI; rw [if_pos h]
  have hge : 3145728 ≤ a := by omega
  have e3 : IntKind.i64.wrap (a + 2097152) = a + 2097152 := by rw [IntKind.wrap_i64]; omega
  have e4 : IntKind.i64.wrap (a + 1048576) = a + 1048576 := by rw [IntKind.wrap_i64]; omega
  have e5 : wrap64 (a + 2097152) = a + 2097152 := by unfold wrap64; omega
  have e6 : wrap64 (a + 1048576) = a + 1048576 := by unfold wrap64; omega
  have HOK := hid h
  have HA := hid ha
  have k1 : winOk (s + 1) t = true := winOk_iff.2 (by omega)
  have HOK1 := hid k1
  have HA1 : Hid (winI (s + 1) t = a + 2097152) := hid (by unfold winI; rw [if_pos k1]; omega)
  have k2 : winOk s (t + 1) = false := (winOk_no (by omega)).2
  have HOK2 := hid k2
  have HA2 : Hid (winI s (t + 1) = 0) := hid (winOk_no (by omega)).1
  clear h hs ht hb ha hav k1 k2
  have HT := hid htab
  clear htab
  go_enter Tryz.func15, Tryz.ntmps15
  go_wp2_with fail
  refine (Law12.awake _ HT.out).mono ?_
  rintro e w1 ⟨rfl, hb⟩
  have HB1 := hid hb
  clear hb HT
  go_wp2_with fail
  refine (Clamp.window (s) (t) HS.out HTT.out _).mono ?_
  rw [HA.out, HOK.out]
  rintro e w2 ⟨rfl, hb⟩
  have HB2 := hid (below_on HB1.out hb)
  clear hb HB1
  go_wp2_with fail
  refine (Clamp.window (s + 1) (t) HS1.out HTT.out _).mono ?_
  rw [HA1.out, HOK1.out]
  rintro e w3 ⟨rfl, hb⟩
  have HB3 := hid (below_on HB2.out hb)
  clear hb HB2
  go_wp2_with fail
  refine (Clamp.window (s) (t + 1) HS.out HT1.out _).mono ?_
  rw [HA2.out, HOK2.out]
  rintro e w4 ⟨rfl, hb⟩
  have HB4 := hid (below_on HB3.out hb)
  clear hb HB3
  go_wp2_with fail
  go_ret
  exact ⟨by first | rfl | simp [hi, hj], HB4.out⟩
set_option maxRecDepth 100000 in
set_option maxHeartbeats 4000000 in
theorem Crise.yes11 (s t : Int) (hs : IsT s) (ht : IsT t) (w : World) (h : winOk s t = true) (hi : s < 1099511627776) (hj : t < 1099511627776) (htab : Tab10 w.heap.size w) : Calls Tryz.prog 15 #[.int .u64 s, .int .u64 t] w (Ans (.bool true) w) := by
  have hb := winOk_iff.1 h
  have HS := hid hs
  have HTT := hid ht
  have HS1 : Hid (IsT (s + 1)) := hid ⟨by omega, by omega⟩
  have HT1 : Hid (IsT (t + 1)) := hid ⟨by omega, by omega⟩
  have e1 : IntKind.u64.wrap (s + 1) = s + 1 := by rw [IntKind.wrap_u64]; omega
  have e2 : IntKind.u64.wrap (t + 1) = t + 1 := by rw [IntKind.wrap_u64]; omega
  obtain ⟨a, ha⟩ : ∃ a, winI s t = a := ⟨_, rfl⟩
  have hav : a = (2 * s + t) * 1048576 := by rw [← ha]; unfold winI; rw [if_pos h]
  have hge : 3145728 ≤ a := by omega
  have e3 : IntKind.i64.wrap (a + 2097152) = a + 2097152 := by rw [IntKind.wrap_i64]; omega
  have e4 : IntKind.i64.wrap (a + 1048576) = a + 1048576 := by rw [IntKind.wrap_i64]; omega
  have e5 : wrap64 (a + 2097152) = a + 2097152 := by unfold wrap64; omega
  have e6 : wrap64 (a + 1048576) = a + 1048576 := by unfold wrap64; omega
  have HOK := hid h
  have HA := hid ha
  have k1 : winOk (s + 1) t = true := winOk_iff.2 (by omega)
  have HOK1 := hid k1
  have HA1 : Hid (winI (s + 1) t = a + 2097152) := hid (by unfold winI; rw [if_pos k1]; omega)
  have k2 : winOk s (t + 1) = true := winOk_iff.2 (by omega)
  have HOK2 := hid k2
  have HA2 : Hid (winI s (t + 1) = a + 1048576) := hid (by unfold winI; rw [if_pos k2]; omega)
  clear h hs ht hb ha hav k1 k2
  have HT := hid htab
  clear htab
  go_enter Tryz.func15, Tryz.ntmps15
  go_wp2_with fail
  refine (Law12.awake _ HT.out).mono ?_
  rintro e w1 ⟨rfl, hb⟩
  have HB1 := hid hb
  clear hb HT
  go_wp2_with fail
  refine (Clamp.window (s) (t) HS.out HTT.out _).mono ?_
  rw [HA.out, HOK.out]
  rintro e w2 ⟨rfl, hb⟩
  have HB2 := hid (below_on HB1.out hb)
  clear hb HB1
  go_wp2_with fail
  refine (Clamp.window (s + 1) (t) HS1.out HTT.out _).mono ?_
  rw [HA1.out, HOK1.out]
  rintro e w3 ⟨rfl, hb⟩
  have HB3 := hid (below_on HB2.out hb)
  clear hb HB2
  go_wp2_with fail
  refine (Clamp.window (s) (t + 1) HS.out HT1.out _).mono ?_
  rw [HA2.out, HOK2.out]
  rintro e w4 ⟨rfl, hb⟩
  have HB4 := hid (below_on HB3.out hb)
  clear hb HB3
  go_wp2_with fail
  go_ret
  exact ⟨by first | rfl | simp [hi, hj], HB4.out⟩
theorem Crise.law (s t : Int) (w : World) (w0 : (Lit.int .u64 s).wf = true) (w1 : (Lit.int .u64 t).wf = true) (htab : Tab10 w.heap.size w) :
    Calls Tryz.prog 15 #[.int .u64 s, .int .u64 t] w fun e w' => e = .returned (.bool true) ∧ Below w.heap.size w w' := by
  have hs := bounds_u64 w0
  have ht := bounds_u64 w1
  cases h : winOk s t with
  | false => exact Crise.no s t hs ht w h htab
  | true =>
    by_cases hi : s < 1099511627776
    · by_cases hj : t < 1099511627776
      · exact Crise.yes11 s t hs ht w h hi hj htab
      · exact Crise.yes10 s t hs ht w h hi hj htab
    · by_cases hj : t < 1099511627776
      · exact Crise.yes01 s t hs ht w h hi hj htab
      · exact Crise.yes00 s t hs ht w h hi hj htab
end

end Go.Proofs.YthmilhhihcmdhaaGreatDoor

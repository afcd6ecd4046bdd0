/- Texts of SpanTells's proof, together. -/
import Derived.Test.YtklaghleghncoaaGreatDoorSpanTellsZ42
import Derived.Test.YtklaghleghncoaaGreatDoorSpanTellsZ47
namespace Go.Proofs.YtklaghleghncoaaGreatDoor
/- The chapter's examples of layer 13, as the laws ask them. -/
section
open Go.RowKit
theorem RdI.nil0 (w : World) (A : Option Addr) : RdI w A 0 [] := ⟨rfl, fun i hi => absurd hi (by omega)⟩
theorem Cs.one {w : World} {g : Nat} {x : It} (h : Cs w g x.cells) : RdI w (some ⟨g, 0, none⟩) 1 [x] :=
  ⟨rfl, fun i hi => ⟨g, 0, rfl, World.block_lt_of_cell? w _ (It.at x h).1, fun j hj => by
    obtain rfl : j = 0 := by omega
    exact It.at x h⟩⟩
set_option maxRecDepth 100000 in
set_option maxHeartbeats 2000000 in
theorem Law12.Awake (w : World) (htab : Tab10 w.heap.size w) : Calls Tryz.prog 69 #[] w (Ans (.bool true) w) := by
  go_enter Tryz.func69, Tryz.ntmps69
  go_wp2_with (go_at_call 15; refine (Law12.awake _ htab).mono ?_; rintro e w' ⟨rfl, hb⟩)
  go_ret
  exact ⟨rfl, hb⟩
set_option maxRecDepth 100000 in
set_option maxHeartbeats 4000000 in
theorem Law13.awake (w : World) (htab : Tab10 w.heap.size w) : Calls Tryz.prog 22 #[] w (Ans (.bool true) w) := by
  have HT := hid htab
  clear htab
  have e1 : IntKind.u64.wrap (0 + 4611686018427387905) = 4611686018427387905 := by decide
  have hfd : ∀ w : World, (Instr.field 76 (.agg #[.int .u64 0, .int .u32 0, .int .u32 0, .int .i64 0, .int .u64 0, .int .u32 0, .int .u32 0]) 0).run Tryz.prog w = .ok (.agg #[.int .u64 0, .int .u32 0, .int .u32 0]) w := fun _ => by kernel_rfl
  go_enter Tryz.func22, Tryz.ntmps22
  go_wp2_with fail
  refine (Pos.shiftF (0, 0, 0) 4611686018427387905 _).mono ?_
  unfold shP
  simp only [e1]
  rintro e w1 ⟨rfl, hb⟩
  have ha := (Below.refl w1.heap.size w1).alloc (Nat.le_refl _) (.cells #[.int .u64 (It.mk 0 0 0 0 4611686018427387905 0 0).t, .int .u32 (It.mk 0 0 0 0 4611686018427387905 0 0).r, .int .u32 (It.mk 0 0 0 0 4611686018427387905 0 0).v, .int .i64 (It.mk 0 0 0 0 4611686018427387905 0 0).i, .int .u64 (It.mk 0 0 0 0 4611686018427387905 0 0).u, .int .u32 (It.mk 0 0 0 0 4611686018427387905 0 0).s, .int .u32 (It.mk 0 0 0 0 4611686018427387905 0 0).y] 76)
  have HC := hid (Cs.new7 w1 76 (It.mk 0 0 0 0 4611686018427387905 0 0))
  have HB1 := hid (below_on hb ha)
  clear hb ha
  go_wp2_with fail
  generalize (w1.alloc (.cells #[.int .u64 (It.mk 0 0 0 0 4611686018427387905 0 0).t, .int .u32 (It.mk 0 0 0 0 4611686018427387905 0 0).r, .int .u32 (It.mk 0 0 0 0 4611686018427387905 0 0).v, .int .i64 (It.mk 0 0 0 0 4611686018427387905 0 0).i, .int .u64 (It.mk 0 0 0 0 4611686018427387905 0 0).u, .int .u32 (It.mk 0 0 0 0 4611686018427387905 0 0).s, .int .u32 (It.mk 0 0 0 0 4611686018427387905 0 0).y] 76)) = W1 at HC HB1 ⊢
  generalize w1.heap.size = g at HC ⊢
  refine (Law12.Awake _ (HT.out.at2 HB1.out)).mono ?_
  rintro e w2 ⟨rfl, hb⟩
  have HB2 := hid (below_on HB1.out hb)
  have HC2 := hid ((show Cs W1 g (It.cells (It.mk 0 0 0 0 4611686018427387905 0 0)) from HC.out).below hb)
  clear hb HB1 HC
  go_wp2_with fail
  refine (Span.room 0 none 0 0 [] _ (RdI.nil0 _ _) (by omega)).mono ?_
  rw [ex13.1]
  rintro e w3 ⟨rfl, hb⟩
  have HB3 := hid (below_on HB2.out hb)
  have HC3 := hid (HC2.out.below hb)
  obtain ⟨p0, p1, p2, p3, p4, p5, p6⟩ := It.at _ HC3.out
  have HN := hid (Cs.new7 w3 76 (It.mk 0 0 0 0 4611686018427387905 0 0)).one
  have HB4 := hid (below_on HB3.out ((Below.refl w3.heap.size w3).alloc (Nat.le_refl _) (.cells #[.int .u64 (It.mk 0 0 0 0 4611686018427387905 0 0).t, .int .u32 (It.mk 0 0 0 0 4611686018427387905 0 0).r, .int .u32 (It.mk 0 0 0 0 4611686018427387905 0 0).v, .int .i64 (It.mk 0 0 0 0 4611686018427387905 0 0).i, .int .u64 (It.mk 0 0 0 0 4611686018427387905 0 0).u, .int .u32 (It.mk 0 0 0 0 4611686018427387905 0 0).s, .int .u32 (It.mk 0 0 0 0 4611686018427387905 0 0).y] 76)))
  clear hb HB2 HC2
  go_wp2_with fail
  refine (Span.within 0 (some ⟨w3.heap.size, 0, none⟩) 1 1 [(It.mk 0 0 0 0 4611686018427387905 0 0)] _ HN.out (by omega)).mono ?_
  rw [ex13.2]
  rintro e w4 ⟨rfl, hb⟩
  have HB5 := hid (below_on HB4.out hb)
  clear hb
  go_wp2_with fail
  go_ret
  exact ⟨rfl, HB5.out⟩
end

/- SpanTells: the walk. -/
section
open Go.RowKit
set_option maxRecDepth 100000 in
set_option maxHeartbeats 2000000 in
theorem Stel.away (b : Int) (A : Option Addr) (n c : Nat) (w : World) (hn : 40 < n) (htab : Tab10 w.heap.size w) :
    Calls Tryz.prog 5 #[.int .u64 b, .slice A n c] w (Ans (.bool true) w) := by
  have h2 : (40 : Int) < (n : Int) := by omega
  have HT := hid htab
  clear hn htab
  go_enter Tryz.func5, Tryz.ntmps5
  go_wp2_with fail
  refine (Law13.awake _ HT.out).mono ?_
  rintro e w1 ⟨rfl, hb1⟩
  go_wp2_with fail
  go_ret
  exact ⟨rfl, hb1⟩
set_option maxRecDepth 100000 in
set_option maxHeartbeats 16000000 in
theorem Stel.core (b : Int) (hb0 : IsT b) (A : Option Addr) (n c : Nat) (l : List It) (w : World) (hr : RdI w A n l) (hi : InI l) (hn : n ≤ 40) (htab : Tab10 w.heap.size w) :
    Calls Tryz.prog 5 #[.int .u64 b, .slice A n c] w (Ans (.bool true) w) := by
  have HT := hid htab
  have HR := hid hr
  have HI := hid hi
  have HB0 := hid hb0
  have HN := hid (show n ≤ 1000000 by omega)
  have HRM := hid (room_bd b l)
  have h2 : ¬ (40 : Int) < (n : Int) := by omega
  clear hr hi hb0 htab
  go_enter Tryz.func5, Tryz.ntmps5
  go_wp2_with fail
  refine (Law13.awake _ HT.out).mono ?_
  rintro e w1 ⟨rfl, hb⟩
  have HB1 := hid hb
  clear hb HT
  go_wp2_with fail
  refine (Span.anchor A n c l _ (HR.out.below HB1.out) HI.out HN.out).mono ?_
  rintro e w2 ⟨rfl, hb⟩
  have HB2 := hid (below_on HB1.out hb)
  clear hb HB1
  obtain ⟨an, hanch⟩ : ∃ an, anchorI l = an := ⟨_, rfl⟩
  have HAN := hid hanch
  rw [hanch]
  clear hanch
  obtain ⟨ok, at'⟩ := an
  dsimp only
  go_wp2_with fail
  refine (Law13.items A n c l _ (HR.out.below HB2.out) HN.out).mono ?_
  rintro e w3 ⟨A3, c3, rfl, ho, hb⟩
  have HO3 := hid ho.rdi
  have HB3 := hid (below_on HB2.out hb)
  clear hb ho HB2
  go_wp2_with fail
  refine (Ref13.anchor A3 n c3 l _ HO3.out HI.out HN.out).mono ?_
  rw [HAN.out]
  rintro e w4 ⟨rfl, hb⟩
  have HB4 := hid (below_on HB3.out hb)
  clear hb HO3 HB3
  dsimp only
  go_wp2_with fail
  refine (Span.within b A n c l _ (HR.out.below HB4.out) HN.out).mono ?_
  rintro e w5 ⟨rfl, hb⟩
  have HB5 := hid (below_on HB4.out hb)
  clear hb HB4
  obtain ⟨wi, hwi⟩ : ∃ wi, withinI b l = wi := ⟨_, rfl⟩
  have HWI := hid hwi
  rw [hwi]
  clear hwi
  go_wp2_with fail
  refine (Law13.items A n c l _ (HR.out.below HB5.out) HN.out).mono ?_
  rintro e w6 ⟨A6, c6, rfl, ho, hb⟩
  have HO6 := hid ho.rdi
  have HB6 := hid (below_on HB5.out hb)
  clear hb ho HB5
  go_wp2_with fail
  refine (Ref13.within b HB0.out A6 n c6 l _ HO6.out HI.out HN.out).mono ?_
  rw [HWI.out]
  rintro e w7 ⟨rfl, hb⟩
  have HB7 := hid (below_on HB6.out hb)
  clear hb HO6 HB6
  have hwe : (wi == wi) = true := by cases wi <;> rfl
  go_wp2_with fail
  refine (Span.room b A n c l _ (HR.out.below HB7.out) HN.out).mono ?_
  rintro e w8 ⟨rfl, hb⟩
  have HB8 := hid (below_on HB7.out hb)
  clear hb HB7
  go_wp2_with fail
  refine (Ref.U (roomI b l) HRM.out.1 (by have := HRM.out.2; omega) _).mono ?_
  rintro e w9 ⟨s9, A9, n9, c9, rfl, hB, hb⟩
  have HU9 := hid (hB.mono (show 5 ≤ 73 by decide))
  have HB9 := hid (below_on HB8.out hb)
  clear hb hB HB8
  go_wp2_with fail
  refine (Law13.items A n c l _ (HR.out.below HB9.out) HN.out).mono ?_
  rintro e w10 ⟨A10, c10, rfl, ho, hb⟩
  have HO10 := hid ho.rdi
  have HU10 := hid (HU9.out.below hb)
  have HB10 := hid (below_on HB9.out hb)
  clear hb ho HB9 HU9
  go_wp2_with fail
  refine (Ref13.room b HB0.out A10 n c10 l _ HO10.out HI.out HN.out).mono ?_
  rintro e w11 ⟨s11, A11, n11, c11, rfl, hB, hb⟩
  have HU11 := hid (HU10.out.below hb)
  have HRR := hid hB
  have HB11 := hid (below_on HB10.out hb)
  clear hb hB HB10 HU10 HO10
  go_wp2_with fail
  refine (Ref.cmp 73 s9 s11 A9 A11 n9 c9 n11 c11 (roomI b l) (roomI b l) _ HU11.out HRR.out (by decide)).mono ?_
  rw [cmpI_eq]
  rintro e w12 ⟨rfl, hb⟩
  have HB12 := hid (below_on HB11.out hb)
  clear hb HB11 HU11 HRR
  have ea : (at' == at') = true := by simp
  have eo : (ok == ok) = true := by cases ok <;> rfl
  go_wp2_with fail
  go_ret
  exact ⟨by first | rfl | simp, HB12.out⟩
theorem Stel.law (b : Int) (A : Option Addr) (n c : Nat) (l : List It) (w : World) (w0 : (Lit.int .u64 b).wf = true) (h1 : (RdI w A n l ∧ InI l) ∧ n ≤ 9223372036854775807) (htab : Tab10 w.heap.size w) : Calls Tryz.prog 5 #[.int .u64 b, .slice A n c] w fun e w' => e = .returned (.bool true) ∧ Below w.heap.size w w' := by
  by_cases hn : n ≤ 40
  · exact Stel.core b (bounds_u64 w0) A n c l w h1.1.1 h1.1.2 hn htab
  · exact Stel.away b A n c w (by omega) htab
end

end Go.Proofs.YtklaghleghncoaaGreatDoor

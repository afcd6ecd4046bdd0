/- WideTurns: the walk. -/
import Derived.Test.YtjklcbbanlaicaaPosB
import Derived.Test.YtjklcbbanlaicaaVs
import Derived.Test.YtjklcbbanlaicaaWideC
import Derived.Test.YtjklcbbanlaicaaAwake
import Derived.Test.YtjklcbbanlaicaaOpen
namespace Go.Proofs.Ytjklcbbanlaicaa
open Go.RowKit

theorem WRes.inj {h l k m n : Int} {ok is : Bool} (x : WRes h l ok n) (y : WRes k m is n) : h = k ∧ l = m ∧ ok = is := by
  rcases x with ⟨rfl, x1, x2⟩ | ⟨rfl, x1, rfl, rfl⟩ <;> rcases y with ⟨rfl, y1, y2⟩ | ⟨rfl, y1, rfl, rfl⟩
  · exact ⟨(IsW.inj x2 y2).1, (IsW.inj x2 y2).2, rfl⟩
  · exact absurd x1 y1
  · exact absurd y1 x1
  · exact ⟨rfl, rfl, rfl⟩
theorem WRes.num {h l n : Int} {ok : Bool} (x : WRes h l ok n) : ∃ m, IsW h l m ∧ (ok = true → m = n) := by
  rcases x with ⟨rfl, x1, x2⟩ | ⟨rfl, x1, rfl, rfl⟩
  · exact ⟨n, x2, fun _ => rfl⟩
  · exact ⟨0, isW_0, fun h => by cases h⟩

set_option maxRecDepth 100000 in
set_option maxHeartbeats 8000000 in
theorem Wturns.walk (ah al bh bl a b c d : Int) (ha : IsW ah al a) (hb : IsW bh bl b) (c0 : -2147483648 ≤ c) (c1 : c ≤ 2147483647) (d0 : -2147483648 ≤ d) (d1 : d ≤ 2147483647) (w : World) :
    Calls Try.prog 4 #[.agg #[.int .i64 ah, .int .u64 al], .agg #[.int .i64 bh, .int .u64 bl], .int .i32 c, .int .i32 d] w fun e w' => e = .returned (.bool true) ∧ Below w.heap.size w w' := by
  have e1 : wrap64 c = c := by unfold wrap64; omega
  have e2 : wrap64 d = d := by unfold wrap64; omega
  have e3 : wrap64 (c + d) = c + d := by unfold wrap64; omega
  have e4 : IntKind.i64.wrap c = c := by rw [IntKind.wrap_i64]; omega
  have e5 : IntKind.i64.wrap d = d := by rw [IntKind.wrap_i64]; omega
  have e6 : IntKind.i64.wrap (c + d) = c + d := by rw [IntKind.wrap_i64]; omega
  have HA := hid ha
  have HB := hid hb
  have HC := hid (And.intro c0 c1)
  have HD := hid (And.intro d0 d1)
  clear ha hb c0 c1 d0 d1
  go_enter Try.func4, Try.ntmps4
  go_wp2_with fail
  refine (Law1.awake _).mono ?_
  rintro e w1 ⟨rfl, hb1⟩
  have V1 : Hid (Vs w [(w.heap.size + 1, [.int .i64 bh, .int .u64 bl]), (w.heap.size, [.int .i64 ah, .int .u64 al])] w1) := hid (Vs.below (Vs.more (Vs.more (Vs.nil (((Below.refl _ _).alloc (Nat.le_refl _) _).alloc (by simp) _)) ((Cs.new2 _ _ _ _).alloc _)) (by have := Cs.new2 (w.alloc (.cells #[.int .i64 ah, .int .u64 al] 29)) 29 (.int .i64 bh) (.int .u64 bl); simpa using this)) hb1)
  clear hb1
  have pc := V1.out.at 1 rfl
  have p0 := pc.at0
  have p1 := pc.at1
  have pz := pc.lt
  clear pc
  have qc := V1.out.at 0 rfl
  have q0 := qc.at0
  have q1 := qc.at1
  have qz := qc.lt
  clear qc
  go_wp2_with fail
  refine (Wide.add ah al bh bl a b HA.out HB.out _).mono ?_
  rintro e w2 ⟨h2, l2, ok2, rfl, hr2, hb2⟩
  have R2 := hid hr2
  have V2 := hid (V1.out.below hb2)
  clear hb2 hr2 V1
  clear p0 p1 pz q0 q1 qz
  have pc := V2.out.at 1 rfl
  have p0 := pc.at0
  have p1 := pc.at1
  have pz := pc.lt
  clear pc
  have qc := V2.out.at 0 rfl
  have q0 := qc.at0
  have q1 := qc.at1
  have qz := qc.lt
  clear qc
  go_wp2_with fail
  refine (Wide.add bh bl ah al b a HB.out HA.out _).mono ?_
  rintro e w3 ⟨h3, l3, ok3, rfl, hr3, hb3⟩
  rw [Int.add_comm b a] at hr3
  obtain ⟨rfl, rfl, rfl⟩ := R2.out.inj hr3
  have V3 := hid (Vs.below (Vs.more (V2.out.alloc (.cells #[.int .i64 h2, .int .u64 l2] 29)) (Cs.new2 w2 29 (.int .i64 h2) (.int .u64 l2))) hb3)
  clear hb3 hr3 V2
  clear p0 p1 pz q0 q1 qz
  have pc := V3.out.at 2 rfl
  have p0 := pc.at0
  have p1 := pc.at1
  have pz := pc.lt
  clear pc
  have qc := V3.out.at 1 rfl
  have q0 := qc.at0
  have q1 := qc.at1
  have qz := qc.lt
  clear qc
  have xc := V3.out.at 0 rfl
  have x0 := xc.at0
  have x1 := xc.at1
  have xz := xc.lt
  clear xc
  obtain ⟨n2, hn2, hk2⟩ := R2.out.num
  have HN2 := hid hn2
  have HK2 := hid hk2
  clear hn2 hk2
  go_wp2_with fail
  refine (Wide.sub h2 l2 bh bl n2 b HN2.out HB.out _).mono ?_
  rintro e w4 ⟨h4, l4, ok4, rfl, hr4, hb4⟩
  have R4 := hid hr4
  have V4 := hid ((V3.out.alloc (.cells #[.int .i64 h2, .int .u64 l2] 29)).below hb4)
  clear hb4 hr4 V3
  clear p0 p1 pz q0 q1 qz x0 x1 xz
  have pc := V4.out.at 2 rfl
  have p0 := pc.at0
  have p1 := pc.at1
  have pz := pc.lt
  clear pc
  go_upto_region 8 with fail
  go_cut [64] (fun s wc => s = .bool false ∧ Vs w [(w.heap.size, [.int .i64 ah, .int .u64 al])] wc)
  case first =>
    rcases hok : ok2 with _ | _
    · subst hok
      go_wp2_with fail
      go_meet
      exact ⟨rfl, Vs.more (Vs.nil (V4.out.alloc _).2) ((V4.out.alloc _).at 2 rfl)⟩
    · subst hok
      have hn : n2 = a + b := HK2.out rfl
      obtain ⟨rfl, hw4⟩ := wres_ok (n := a) (by have := R4.out; rw [hn, Int.add_sub_cancel] at this; exact this) HA.out.wr
      obtain ⟨rfl, rfl⟩ := HA.out.inj hw4
      clear hn hw4
      go_wp2_with fail
      go_meet
      exact ⟨rfl, Vs.more (Vs.nil (V4.out.alloc _).2) ((V4.out.alloc _).at 2 rfl)⟩
  case rest =>
    obtain ⟨rfl, hV⟩ := hcut
    have V5 := hid hV
    clear hV V4 R2 R4 HN2 HK2
    clear p0 p1 pz
    have pc := V5.out.at 0 rfl
    have p0 := pc.at0
    have p1 := pc.at1
    have pz := pc.lt
    clear pc
    go_wp2_with fail
    refine (Wide.mul ah al (c + d) a HA.out (by have := HC.out; have := HD.out; omega) (by have := HC.out; have := HD.out; omega) _).mono ?_
    rintro e w6 ⟨h6, l6, ok6, rfl, hr6, hb6⟩
    have R6 := hid hr6
    have V6 := hid (Vs.below (V5.out) hb6)
    clear hb6 hr6 V5
    clear p0 p1 pz
    have pc := V6.out.at 0 rfl
    have p0 := pc.at0
    have p1 := pc.at1
    have pz := pc.lt
    clear pc
    go_wp2_with fail
    refine (Wide.mul ah al (c) a HA.out (by have := HC.out; have := HD.out; omega) (by have := HC.out; have := HD.out; omega) _).mono ?_
    rintro e w7 ⟨h7, l7, ok7, rfl, hr7, hb7⟩
    have R7 := hid hr7
    have V7 := hid (Vs.below (Vs.more (V6.out.alloc (.cells #[.int .i64 h6, .int .u64 l6] 29)) (Cs.new2 w6 29 (.int .i64 h6) (.int .u64 l6))) hb7)
    clear hb7 hr7 V6
    clear p0 p1 pz
    have pc := V7.out.at 1 rfl
    have p0 := pc.at0
    have p1 := pc.at1
    have pz := pc.lt
    clear pc
    go_wp2_with fail
    refine (Wide.mul ah al (d) a HA.out (by have := HC.out; have := HD.out; omega) (by have := HC.out; have := HD.out; omega) _).mono ?_
    rintro e w8 ⟨h8, l8, ok8, rfl, hr8, hb8⟩
    have R8 := hid hr8
    have V8 := hid (Vs.below (Vs.more (V7.out.alloc (.cells #[.int .i64 h7, .int .u64 l7] 29)) (Cs.new2 w7 29 (.int .i64 h7) (.int .u64 l7))) hb8)
    clear hb8 hr8 V7
    clear p0 p1 pz
    have pc := V8.out.at 2 rfl
    have p0 := pc.at0
    have p1 := pc.at1
    have pz := pc.lt
    clear pc
    have nc := V8.out.at 0 rfl
    have n0 := nc.at0
    have n1 := nc.at1
    have nz := nc.lt
    clear nc
    obtain ⟨n7, hn7, hk7⟩ := R7.out.num
    have HN7 := hid hn7
    have HK7 := hid hk7
    obtain ⟨n8, hn8, hk8⟩ := R8.out.num
    have HN8 := hid hn8
    have HK8 := hid hk8
    clear hn7 hk7 hn8 hk8
    go_wp2_with fail
    refine (Wide.add h7 l7 h8 l8 n7 n8 HN7.out HN8.out _).mono ?_
    rintro e w9 ⟨h9, l9, ok9, rfl, hr9, hb9⟩
    have R9 := hid hr9
    have V9 := hid (Vs.below (Vs.more (V8.out.alloc (.cells #[.int .i64 h8, .int .u64 l8] 29)) (Cs.new2 w8 29 (.int .i64 h8) (.int .u64 l8))) hb9)
    clear hb9 hr9 V8
    clear p0 p1 pz n0 n1 nz
    have pc := V9.out.at 3 rfl
    have p0 := pc.at0
    have p1 := pc.at1
    have pz := pc.lt
    clear pc
    have mc := V9.out.at 2 rfl
    have m0 := mc.at0
    have m1 := mc.at1
    have mz := mc.lt
    clear mc
    go_upto_region 14 with fail
    go_cut [110] (fun s wc => s = .bool false ∧ Vs w [(w.heap.size, [.int .i64 ah, .int .u64 al])] wc)
    case first =>
      rcases hok6 : ok6 with _ | _
      · subst hok6
        go_wp2_with fail
        go_meet
        exact ⟨rfl, Vs.more (Vs.nil (V9.out.alloc _).2) ((V9.out.alloc _).at 3 rfl)⟩
      · subst hok6
        rcases hok7 : ok7 with _ | _
        · subst hok7
          go_wp2_with fail
          go_meet
          exact ⟨rfl, Vs.more (Vs.nil (V9.out.alloc _).2) ((V9.out.alloc _).at 3 rfl)⟩
        · subst hok7
          rcases hok8 : ok8 with _ | _
          · subst hok8
            go_wp2_with fail
            go_meet
            exact ⟨rfl, Vs.more (Vs.nil (V9.out.alloc _).2) ((V9.out.alloc _).at 3 rfl)⟩
          · subst hok8
            have hn : n7 + n8 = a * (c + d) := by rw [HK7.out rfl, HK8.out rfl, Int.mul_add]
            have hr := R9.out
            rw [hn] at hr
            obtain ⟨rfl, rfl, rfl⟩ := R6.out.inj hr
            clear hn hr
            go_wp2_with fail
            go_meet
            exact ⟨rfl, Vs.more (Vs.nil (V9.out.alloc _).2) ((V9.out.alloc _).at 3 rfl)⟩
    case rest =>
      obtain ⟨rfl, hV⟩ := hcut
      have VA := hid hV
      clear hV V9 R6 R7 R8 R9 HN7 HN8 HK7 HK8 e1 e2 e3 e4 e5 e6
      clear p0 p1 pz m0 m1 mz
      have pc := VA.out.at 0 rfl
      have p0 := pc.at0
      have p1 := pc.at1
      have pz := pc.lt
      clear pc
      go_wp2_with fail
      refine (Wide.neg ah al a HA.out _).mono ?_
      rintro e w10 ⟨h10, l10, ok10, rfl, hr10, hb10⟩
      have R10 := hid hr10
      have VB := hid (VA.out.below hb10)
      obtain ⟨n10, hn10, hk10⟩ := hr10.num
      have HN10 := hid hn10
      have HK10 := hid hk10
      clear hb10 hr10 VA hn10 hk10
      clear p0 p1 pz
      go_wp2_with fail
      refine (Wide.neg h10 l10 n10 HN10.out _).mono ?_
      rintro e w11 ⟨h11, l11, ok11, rfl, hr11, hb11⟩
      have R11 := hid hr11
      have VC := hid (Vs.below (Vs.more (VB.out.alloc (.cells #[.int .i64 h10, .int .u64 l10] 29)) (Cs.new2 w10 29 (.int .i64 h10) (.int .u64 l10))) hb11)
      clear hb11 hr11 VB
      rcases hok : ok10 with _ | _
      · subst hok
        go_wp2_with fail
        have VD : Hid (Vs w [(w11.heap.size, [.int .i64 h11, .int .u64 l11]), (w10.heap.size, [.int .i64 h10, .int .u64 l10]), (w.heap.size, [.int .i64 ah, .int .u64 al])] _) := hid (Vs.more (VC.out.alloc (.cells #[.int .i64 h11, .int .u64 l11] 29)) (Cs.new2 w11 29 (.int .i64 h11) (.int .u64 l11)))
        have SEE : Hid (∀ W, Vs w [(w11.heap.size, [.int .i64 h11, .int .u64 l11]), (w10.heap.size, [.int .i64 h10, .int .u64 l10]), (w.heap.size, [.int .i64 ah, .int .u64 al])] W → ((W.cell? ⟨w11.heap.size, 0, none⟩ = some (.int .i64 h11) ∧ W.cell? ⟨w11.heap.size, 1, none⟩ = some (.int .u64 l11)) ∧ (W.cell? ⟨w10.heap.size, 0, none⟩ = some (.int .i64 h10) ∧ W.cell? ⟨w10.heap.size, 1, none⟩ = some (.int .u64 l10)) ∧ (W.cell? ⟨w.heap.size, 0, none⟩ = some (.int .i64 ah) ∧ W.cell? ⟨w.heap.size, 1, none⟩ = some (.int .u64 al))) ∧ Vs w [(w11.heap.size, [.int .i64 h11, .int .u64 l11]), (w10.heap.size, [.int .i64 h10, .int .u64 l10]), (w.heap.size, [.int .i64 ah, .int .u64 al])] W) := hid (fun W h => ⟨⟨⟨(h.at 0 rfl).at0, (h.at 0 rfl).at1⟩, ⟨(h.at 1 rfl).at0, (h.at 1 rfl).at1⟩, ⟨(h.at 2 rfl).at0, (h.at 2 rfl).at1⟩⟩, h⟩)
        refine wp_region_held_drew (S := (fun w' => ((w'.cell? ⟨w11.heap.size, 0, none⟩ = some (.int .i64 h11) ∧ w'.cell? ⟨w11.heap.size, 1, none⟩ = some (.int .u64 l11)) ∧ (w'.cell? ⟨w10.heap.size, 0, none⟩ = some (.int .i64 h10) ∧ w'.cell? ⟨w10.heap.size, 1, none⟩ = some (.int .u64 l10)) ∧ (w'.cell? ⟨w.heap.size, 0, none⟩ = some (.int .i64 ah) ∧ w'.cell? ⟨w.heap.size, 1, none⟩ = some (.int .u64 al))) ∧ Vs w [(w11.heap.size, [.int .i64 h11, .int .u64 l11]), (w10.heap.size, [.int .i64 h10, .int .u64 l10]), (w.heap.size, [.int .i64 ah, .int .u64 al])] w')) (by kernel_rfl) (SEE.out _ VD.out.drew) (fun hHeld => ?_)
        refine wpAnyH_take (i := 0) (v := ?_) rfl (by kernel_rfl) (by kernel_rfl) (by kernel_rfl) (fun _ _ _ h => h) (Or.inl ⟨by rfl, ?_⟩) (by assumption) ?_
        rotate_left
        · intro w hSw; (try dsimp only at hSw); go_simp; (try with_reducible rfl)
        try simp only [List.getElem_toArray, List.getElem_cons_zero, List.getElem_cons_succ, Act.put, List.setIfInBounds_toArray, List.set_cons_zero, List.set_cons_succ]
        refine wpAnyH_take (i := 1) (v := ?_) rfl (by kernel_rfl) (by kernel_rfl) (by kernel_rfl) (fun _ _ _ h => h) (Or.inl ⟨by rfl, ?_⟩) (by assumption) ?_
        rotate_left
        · intro w hSw; (try dsimp only at hSw); go_simp; (try with_reducible rfl)
        try simp only [List.getElem_toArray, List.getElem_cons_zero, List.getElem_cons_succ, Act.put, List.setIfInBounds_toArray, List.set_cons_zero, List.set_cons_succ]
        refine wpAnyH_take (i := 2) (v := ?_) rfl (by kernel_rfl) (by kernel_rfl) (by kernel_rfl) (fun _ _ _ h => h) (Or.inl ⟨by rfl, ?_⟩) (by assumption) ?_
        rotate_left
        · intro w hSw; (try dsimp only at hSw); go_simp; (try with_reducible rfl)
        try simp only [List.getElem_toArray, List.getElem_cons_zero, List.getElem_cons_succ, Act.put, List.setIfInBounds_toArray, List.set_cons_zero, List.set_cons_succ]
        refine wpAnyH_take (i := 3) (v := undef) rfl (by kernel_rfl) (by kernel_rfl) (by kernel_rfl) (fun _ _ _ h => h) (Or.inr ⟨by rfl, rfl⟩) (by assumption) ?_
        try simp only [List.getElem_toArray, List.getElem_cons_zero, List.getElem_cons_succ, Act.put, List.setIfInBounds_toArray, List.set_cons_zero, List.set_cons_succ]
        refine wpAnyH_take (i := 4) (v := undef) rfl (by kernel_rfl) (by kernel_rfl) (by kernel_rfl) (fun _ _ _ h => h) (Or.inr ⟨by rfl, rfl⟩) (by assumption) ?_
        try simp only [List.getElem_toArray, List.getElem_cons_zero, List.getElem_cons_succ, Act.put, List.setIfInBounds_toArray, List.set_cons_zero, List.set_cons_succ]
        refine wpAnyH_take (i := 5) (v := undef) rfl (by kernel_rfl) (by kernel_rfl) (by kernel_rfl) (fun _ _ _ h => h) (Or.inr ⟨by rfl, rfl⟩) (by assumption) ?_
        try simp only [List.getElem_toArray, List.getElem_cons_zero, List.getElem_cons_succ, Act.put, List.setIfInBounds_toArray, List.set_cons_zero, List.set_cons_succ]
        refine wpAnyH_take (i := 6) (v := undef) rfl (by kernel_rfl) (by kernel_rfl) (by kernel_rfl) (fun _ _ _ h => h) (Or.inr ⟨by rfl, rfl⟩) (by assumption) ?_
        try simp only [List.getElem_toArray, List.getElem_cons_zero, List.getElem_cons_succ, Act.put, List.setIfInBounds_toArray, List.set_cons_zero, List.set_cons_succ]
        refine wpAnyH_take (i := 7) (v := undef) rfl (by kernel_rfl) (by kernel_rfl) (by kernel_rfl) (fun _ _ _ h => h) (Or.inr ⟨by rfl, rfl⟩) (by assumption) ?_
        try simp only [List.getElem_toArray, List.getElem_cons_zero, List.getElem_cons_succ, Act.put, List.setIfInBounds_toArray, List.set_cons_zero, List.set_cons_succ]
        refine wpAnyH_take (i := 8) (v := undef) rfl (by kernel_rfl) (by kernel_rfl) (by kernel_rfl) (fun _ _ _ h => h) (Or.inr ⟨by rfl, rfl⟩) (by assumption) ?_
        try simp only [List.getElem_toArray, List.getElem_cons_zero, List.getElem_cons_succ, Act.put, List.setIfInBounds_toArray, List.set_cons_zero, List.set_cons_succ]
        refine wpAnyH_take (i := 9) (v := undef) rfl (by kernel_rfl) (by kernel_rfl) (by kernel_rfl) (fun _ _ _ h => h) (Or.inr ⟨by rfl, rfl⟩) (by assumption) ?_
        try simp only [List.getElem_toArray, List.getElem_cons_zero, List.getElem_cons_succ, Act.put, List.setIfInBounds_toArray, List.set_cons_zero, List.set_cons_succ]
        refine wpAnyH_take (i := 10) (v := undef) rfl (by kernel_rfl) (by kernel_rfl) (by kernel_rfl) (fun _ _ _ h => h) (Or.inr ⟨by rfl, rfl⟩) (by assumption) ?_
        try simp only [List.getElem_toArray, List.getElem_cons_zero, List.getElem_cons_succ, Act.put, List.setIfInBounds_toArray, List.set_cons_zero, List.set_cons_succ]
        refine wpAnyH_take (i := 11) (v := undef) rfl (by kernel_rfl) (by kernel_rfl) (by kernel_rfl) (fun _ _ _ h => h) (Or.inr ⟨by rfl, rfl⟩) (by assumption) ?_
        try simp only [List.getElem_toArray, List.getElem_cons_zero, List.getElem_cons_succ, Act.put, List.setIfInBounds_toArray, List.set_cons_zero, List.set_cons_succ]
        refine wpAnyH_take (i := 12) (v := undef) rfl (by kernel_rfl) (by kernel_rfl) (by kernel_rfl) (fun _ _ _ h => h) (Or.inr ⟨by rfl, rfl⟩) (by assumption) ?_
        try simp only [List.getElem_toArray, List.getElem_cons_zero, List.getElem_cons_succ, Act.put, List.setIfInBounds_toArray, List.set_cons_zero, List.set_cons_succ]
        refine wpAnyH_take (i := 13) (v := undef) rfl (by kernel_rfl) (by kernel_rfl) (by kernel_rfl) (fun _ _ _ h => h) (Or.inr ⟨by rfl, rfl⟩) (by assumption) ?_
        try simp only [List.getElem_toArray, List.getElem_cons_zero, List.getElem_cons_succ, Act.put, List.setIfInBounds_toArray, List.set_cons_zero, List.set_cons_succ]
        refine wpAnyH_take (i := 14) (v := undef) rfl (by kernel_rfl) (by kernel_rfl) (by kernel_rfl) (fun _ _ _ h => h) (Or.inr ⟨by rfl, rfl⟩) (by assumption) ?_
        try simp only [List.getElem_toArray, List.getElem_cons_zero, List.getElem_cons_succ, Act.put, List.setIfInBounds_toArray, List.set_cons_zero, List.set_cons_succ]
        refine wpAnyH_take (i := 15) (v := undef) rfl (by kernel_rfl) (by kernel_rfl) (by kernel_rfl) (fun _ _ _ h => h) (Or.inr ⟨by rfl, rfl⟩) (by assumption) ?_
        try simp only [List.getElem_toArray, List.getElem_cons_zero, List.getElem_cons_succ, Act.put, List.setIfInBounds_toArray, List.set_cons_zero, List.set_cons_succ]
        refine wpAnyH_take (i := 16) (v := undef) rfl (by kernel_rfl) (by kernel_rfl) (by kernel_rfl) (fun _ _ _ h => h) (Or.inr ⟨by rfl, rfl⟩) (by assumption) ?_
        try simp only [List.getElem_toArray, List.getElem_cons_zero, List.getElem_cons_succ, Act.put, List.setIfInBounds_toArray, List.set_cons_zero, List.set_cons_succ]
        refine wpAnyH_take (i := 17) (v := ?_) rfl (by kernel_rfl) (by kernel_rfl) (by kernel_rfl) (fun _ _ _ h => h) (Or.inl ⟨by rfl, ?_⟩) (by assumption) ?_
        rotate_left
        · intro w hSw; (try dsimp only at hSw); go_simp; (try with_reducible rfl)
        try simp only [List.getElem_toArray, List.getElem_cons_zero, List.getElem_cons_succ, Act.put, List.setIfInBounds_toArray, List.set_cons_zero, List.set_cons_succ]
        refine wpAnyH_take (i := 18) (v := ?_) rfl (by kernel_rfl) (by kernel_rfl) (by kernel_rfl) (fun _ _ _ h => h) (Or.inl ⟨by rfl, ?_⟩) (by assumption) ?_
        rotate_left
        · intro w hSw; (try dsimp only at hSw); go_simp; (try with_reducible rfl)
        try simp only [List.getElem_toArray, List.getElem_cons_zero, List.getElem_cons_succ, Act.put, List.setIfInBounds_toArray, List.set_cons_zero, List.set_cons_succ]
        refine wpAnyH_done (by kernel_rfl) ?_ _
        have HFIN := hid (And.right (by assumption : (_ ∧ _ ∧ _) ∧ Vs w [(w11.heap.size, [.int .i64 h11, .int .u64 l11]), (w10.heap.size, [.int .i64 h10, .int .u64 l10]), (w.heap.size, [.int .i64 ah, .int .u64 al])] _)).2
        go_wp2
        go_ret
        exact ⟨rfl, HFIN.out⟩
      · subst hok
        have hn : n10 = 0 - a := HK10.out rfl
        have hr := R11.out
        rw [hn, show 0 - (0 - a) = a by omega] at hr
        obtain ⟨rfl, hw11⟩ := wres_ok hr HA.out.wr
        obtain ⟨rfl, rfl⟩ := HA.out.inj hw11
        have f1 : (cmpI n10 0 == wrap64 (-cmpI a 0)) = true := by
          rw [beq_iff_eq, hn]
          unfold wrap64 cmpI
          split <;> split <;> (try split) <;> (try split) <;> omega
        have f2 : (cmpI n10 0 == IntKind.i64.wrap (-cmpI a 0)) = true := by
          rw [beq_iff_eq, hn, IntKind.wrap_i64]
          unfold cmpI
          split <;> split <;> (try split) <;> (try split) <;> omega
        clear hn hr hw11
        go_wp2_with fail
        have VD : Hid (Vs w [(w11.heap.size, [.int .i64 ah, .int .u64 al]), (w10.heap.size, [.int .i64 h10, .int .u64 l10]), (w.heap.size, [.int .i64 ah, .int .u64 al])] _) := hid (Vs.more (VC.out.alloc (.cells #[.int .i64 ah, .int .u64 al] 29)) (Cs.new2 w11 29 (.int .i64 ah) (.int .u64 al)))
        have SEE : Hid (∀ W, Vs w [(w11.heap.size, [.int .i64 ah, .int .u64 al]), (w10.heap.size, [.int .i64 h10, .int .u64 l10]), (w.heap.size, [.int .i64 ah, .int .u64 al])] W → ((W.cell? ⟨w11.heap.size, 0, none⟩ = some (.int .i64 ah) ∧ W.cell? ⟨w11.heap.size, 1, none⟩ = some (.int .u64 al)) ∧ (W.cell? ⟨w10.heap.size, 0, none⟩ = some (.int .i64 h10) ∧ W.cell? ⟨w10.heap.size, 1, none⟩ = some (.int .u64 l10)) ∧ (W.cell? ⟨w.heap.size, 0, none⟩ = some (.int .i64 ah) ∧ W.cell? ⟨w.heap.size, 1, none⟩ = some (.int .u64 al))) ∧ Vs w [(w11.heap.size, [.int .i64 ah, .int .u64 al]), (w10.heap.size, [.int .i64 h10, .int .u64 l10]), (w.heap.size, [.int .i64 ah, .int .u64 al])] W) := hid (fun W h => ⟨⟨⟨(h.at 0 rfl).at0, (h.at 0 rfl).at1⟩, ⟨(h.at 1 rfl).at0, (h.at 1 rfl).at1⟩, ⟨(h.at 2 rfl).at0, (h.at 2 rfl).at1⟩⟩, h⟩)
        go_region_held3 (fun w' => ((w'.cell? ⟨w11.heap.size, 0, none⟩ = some (.int .i64 ah) ∧ w'.cell? ⟨w11.heap.size, 1, none⟩ = some (.int .u64 al)) ∧ (w'.cell? ⟨w10.heap.size, 0, none⟩ = some (.int .i64 h10) ∧ w'.cell? ⟨w10.heap.size, 1, none⟩ = some (.int .u64 l10)) ∧ (w'.cell? ⟨w.heap.size, 0, none⟩ = some (.int .i64 ah) ∧ w'.cell? ⟨w.heap.size, 1, none⟩ = some (.int .u64 al))) ∧ Vs w [(w11.heap.size, [.int .i64 ah, .int .u64 al]), (w10.heap.size, [.int .i64 h10, .int .u64 l10]), (w.heap.size, [.int .i64 ah, .int .u64 al])] w')
          (first | with_reducible exact SEE.out _ VD.out.drew | with_reducible exact SEE.out _ (Vs.below (And.right (by assumption : (_ ∧ _ ∧ _) ∧ Vs w _ _)) hb12))
          (first
            | (go_at_call_of 28 (Value.agg #[Value.int .i64 h10, Value.int .u64 l10]); refine (Wide.signV h10 l10 n10 HN10.out _).mono ?_; rintro e w12 ⟨rfl, hb12⟩)
            | (go_at_call_of 28 (Value.agg #[Value.int .i64 ah, Value.int .u64 al]); refine (Wide.signV ah al a HA.out _).mono ?_; rintro e w12 ⟨rfl, hb12⟩))
        have HFIN := hid (And.right (by assumption : (_ ∧ _ ∧ _) ∧ Vs w [(w11.heap.size, [.int .i64 ah, .int .u64 al]), (w10.heap.size, [.int .i64 h10, .int .u64 l10]), (w.heap.size, [.int .i64 ah, .int .u64 al])] w12)).2
        go_wp2
        go_ret
        exact ⟨rfl, HFIN.out⟩

theorem Wturns.law (a0 b0 a1 b1 a2 a3 : Int) (w : World) (w0 : IsWd a0 b0) (w1 : IsWd a1 b1) (w2 : (Lit.int .i32 a2).wf = true) (w3 : (Lit.int .i32 a3).wf = true) :
    Calls Try.prog 4 #[.agg #[.int .i64 a0, .int .u64 b0], .agg #[.int .i64 a1, .int .u64 b1], .int .i32 a2, .int .i32 a3] w fun e w' => e = .returned (.bool true) ∧ Below w.heap.size w w' :=
  Wturns.walk a0 b0 a1 b1 _ _ a2 a3 w0 w1 (bounds_i32 w2).1 (bounds_i32 w2).2 (bounds_i32 w3).1 (bounds_i32 w3).2 w

end Go.Proofs.Ytjklcbbanlaicaa

/- Texts of SpanTells's proof, together. -/
import Derived.Test.YtklaghleghncoaaGreatDoorSpanTellsZ32
import Derived.Test.YtklaghleghncoaaGreatDoorSpanTellsZ34
import Derived.Test.YtklaghleghncoaaGreatDoorSpanTellsZ31
import Derived.Test.YtklaghleghncoaaGreatDoorSpanTellsZ30
import Derived.Laws.AppendOwnNone
import Derived.Test.YtklaghleghncoaaGreatDoorRsp
import Derived.Test.YtklaghleghncoaaGreatDoorSpanTellsZ39
import Derived.Test.YtklaghleghncoaaGreatDoorPsR
import Derived.Test.YtklaghleghncoaaGreatDoorSpanTellsZ26
import Derived.Test.YtklaghleghncoaaGreatDoorSpanTellsZ27
import Derived.Test.YtklaghleghncoaaGreatDoorSpanTellsZ25
namespace Go.Proofs.YtklaghleghncoaaGreatDoor
/- The contracts of the package span. -/
section
open Go.RowKit
set_option maxHeartbeats 2000000 in
theorem Span.within (base : Int) (A : Option Addr) (n c : Nat) (l : List It) (w : World) (hr : RdI w A n l) (hn : n ≤ 1000000) :
    Calls Tryz.prog 26 #[.int .u64 base, .slice A n c] w (Ans (.bool (withinI base l)) w) := by
  have HR := hid hr
  clear hr
  go_enter Tryz.func26, Tryz.ntmps26
  go_wp2_with fail
  refine (Item.spread base A n c l _ HR.out hn).mono ?_
  rintro e w1 ⟨rfl, hb⟩
  have HB := hid hb
  clear hb
  go_wp2_with fail
  go_ret
  exact ⟨rfl, HB.out⟩
theorem room_wrap (base : Int) (l : List It) : IntKind.u64.wrap (4611686018427387904 - min (spreadI base l) 4611686018427387904) = roomI base l := by
  have := room_bd base l
  unfold roomI at *
  rw [IntKind.wrap_u64]; omega
set_option maxHeartbeats 2000000 in
theorem Span.room (base : Int) (A : Option Addr) (n c : Nat) (l : List It) (w : World) (hr : RdI w A n l) (hn : n ≤ 1000000) :
    Calls Tryz.prog 30 #[.int .u64 base, .slice A n c] w (Ans (.int .u64 (roomI base l)) w) := by
  have HR := hid hr
  have E := hid (room_wrap base l)
  clear hr
  go_enter Tryz.func30, Tryz.ntmps30
  go_wp2_with fail
  refine (Item.spread base A n c l _ HR.out hn).mono ?_
  rintro e w1 ⟨rfl, hb⟩
  have HB := hid hb
  clear hb
  by_cases h : spreadI base l < 4611686018427387904
  · have e1 : min (spreadI base l) 4611686018427387904 = spreadI base l := by omega
    have E1 := hid e1
    clear e1
    go_wp2_with fail
    go_ret
    exact ⟨by rw [← E.out, E1.out]; rfl, HB.out⟩
  · have e1 : min (spreadI base l) 4611686018427387904 = 4611686018427387904 := by omega
    have E1 := hid e1
    clear e1
    go_wp2_with fail
    go_ret
    exact ⟨by rw [← E.out, E1.out]; rfl, HB.out⟩
theorem take_pp {l : List It} {k : Nat} (hk : k < l.length) : (l.take (k + 1)).map It.pp = (l.take k).map It.pp ++ [(l.getD k It.zero).pp] := by
  have e : l.getD k It.zero = l[k] := by simp [List.getD, hk]
  rw [List.take_succ_eq_append_getElem hk, List.map_append, e]; rfl
set_option maxHeartbeats 2000000 in
theorem Span.anchor_none (A : Option Addr) (c : Nat) (w : World) : Calls Tryz.prog 23 #[.slice A 0 c] w (Ans (.tuple #[.int .u64 0, .bool false]) w) := by
  go_enter Tryz.func23, Tryz.ntmps23
  go_wp2_with fail
  go_ret2
  exact ⟨rfl, Below.refl _ _⟩
set_option maxRecDepth 100000 in
set_option maxHeartbeats 8000000 in
theorem Span.anchor_some (A : Option Addr) (n c : Nat) (l : List It) (w : World) (hr : RdI w A n l) (hl : InI l) (h0 : 0 < n) (hn : n ≤ 1000000) :
    Calls Tryz.prog 23 #[.slice A n c] w (Ans (.tuple #[.int .u64 (anchorI l).2, .bool (anchorI l).1]) w) := by
  have HR := hid hr
  have HL := hid hl
  have HLN := hid hr.1
  have hni : (n : Int) ≤ 1000000 := by omega
  have hn0 : (n : Int) ≠ 0 := by omega
  have c0 : ((n : Int) == 0) = false := by rw [beq_eq_false_iff_ne]; exact hn0
  have hn1 : (0 : Int) < n := by omega
  have HT := hid (show IsT (l.getD 0 It.zero).t from (hl.get (by have := hr.1; omega)).1)
  have HP : Hid (∀ q ∈ l.map It.pp, PIn q) := hid (fun q hq => by
    obtain ⟨x, hx, rfl⟩ := List.mem_map.1 hq
    have := hl x hx
    exact ⟨this.1, this.2.1, this.2.2.1⟩)
  clear hr hl
  go_enter Tryz.func23, Tryz.ntmps23
  go_wp2_with fail
  go_loopg [4, 14] n (fun s a5 i wr => ∃ (k : Nat) (A1 : Option Addr) (c1 : Nat), a5 = .slice A1 k c1 ∧ i = .int .i64 k ∧ k ≤ n ∧ s = n - k ∧ OwnP wr w.heap.size A1 k c1 ((l.take k).map It.pp) ∧ Below w.heap.size w wr)
  case atStart => exact ⟨0, none, 0, rfl, rfl, Nat.zero_le _, by omega, by simpa using OwnP.nil _ _, Below.refl _ _⟩
  case round =>
    obtain ⟨k, A1, c1, rfl, rfl, hk, hs, ho, hb⟩ := hrel
    have HS := hid hs
    have HO := hid ho
    have HB := hid hb
    clear hs ho hb
    obtain ⟨bb, off, hA, _, hc⟩ := (HR.out.below HB.out).2 0 (by omega)
    by_cases hkn : k < n
    · obtain ⟨p0, p1, p2, p3, p4, p5, p6⟩ := hc k hkn
      have HTK := hid (take_pp (l := l) (k := k) (by have := HLN.out; omega))
      generalize l.getD k It.zero = x at *
      subst hA
      have hki : (k : Int) < n := by omega
      have hk0 : (0 : Int) ≤ k := by omega
      clear hc
      have ha1 := (Below.refl wr.heap.size wr).alloc (Nat.le_refl _) (.cells #[.int .u64 x.t, .int .u32 x.r, .int .u32 x.v, .int .i64 x.i, .int .u64 x.u, .int .u32 x.s, .int .u32 x.y] 76)
      have ha2 := ha1.alloc (by simp) (.cells #[.int .u64 x.t, .int .u32 x.r, .int .u32 x.v] 29)
      have HB2 := hid (below_on HB.out ha2)
      have hOW := HO.out.below ha2
      have hTP : Tp ((wr.alloc (.cells #[.int .u64 x.t, .int .u32 x.r, .int .u32 x.v, .int .i64 x.i, .int .u64 x.u, .int .u32 x.s, .int .u32 x.y] 76)).alloc (.cells #[.int .u64 x.t, .int .u32 x.r, .int .u32 x.v] 29)) (wr.heap.size + 1) x.pp := by
        have := Tp.new (wr.alloc (.cells #[.int .u64 x.t, .int .u32 x.r, .int .u32 x.v, .int .i64 x.i, .int .u64 x.u, .int .u32 x.s, .int .u32 x.y] 76)) 29 x.pp
        simp only [World.size_alloc] at this
        exact this
      have hk1 : k ≤ 1000000 := by omega
      have hbs := HB2.out.size
      clear ha1 ha2
      go_wp2_with (first
        | (at_builtin; (with_reducible refine wpList_append_pos _ rfl (.tmp 18) (.tmp 21) rfl w.heap.size A1 k c1 ((l.take k).map It.pp) ?a1 hOW (wr.heap.size + 1) x.pp ?a2 hTP hk1 hbs ?a3); (case a1 => rfl); (case a2 => rfl); (intro A3 c3 w3 ho3 hc3 hr3); (have HO3 := hid ho3); (have HB3 := hid (Below.chg HB2.out hc3 (fun q hq => (hOW.rowGe q hq).1))); (clear ho3 hc3 hr3 hTP hOW hbs p0 p1 p2 p3 p4 p5 p6))
        | fail)
      go_roundg (n - (k + 1))
      case measure => have := HS.out; omega
      case rel => exact ⟨k + 1, A3, c3, rfl, by go_num, by omega, rfl, by rw [HTK.out]; exact HO3.out, HB3.out⟩
    · obtain rfl : k = n := by omega
      have hki : ¬ (k : Int) < k := by omega
      have ho := HO.out
      rw [List.take_of_length_le (by have := HLN.out; omega)] at ho
      have HO1 := hid ho
      have HE : Hid (anchorI l = if (Mu.of (l.getD 0 It.zero).t (l.map It.pp)).1 = true then (Mu.of (l.getD 0 It.zero).t (l.map It.pp)).2.fl else (false, 0)) := hid (by
        unfold anchorI; rw [if_neg (by have := HLN.out; omega)])
      have HIN := hid (of_in (base := (l.getD 0 It.zero).t) (l := l.map It.pp) HT.out HP.out)
      obtain ⟨p0, p1, p2, p3, p4, p5, p6⟩ := hc 0 (by omega)
      rw [show off + 0 * 7 = off by omega] at p0 p1 p2 p3 p4 p5 p6
      generalize l.getD 0 It.zero = x at *
      subst hA
      clear ho HO hc
      go_wp2_with fail
      refine (Mean.of x.t HT.out A1 k c1 (l.map It.pp) _ HO1.out.rdp HP.out (by omega)).mono ?_
      rintro e w1 ⟨rfl, hb⟩
      have HB1 := hid (below_on HB.out hb)
      clear hb p0 p1 p2 p3 p4 p5 p6 HO1 HB
      generalize Mu.of x.t (l.map It.pp) = M at *
      obtain ⟨ok, m⟩ := M
      have HM := hid (show m.In from HIN.out)
      have HC1 := hid (Cs.alloc_new6 w1 36 m.cells)
      have HB2 := hid (below_on HB1.out ((Below.refl w1.heap.size w1).alloc (Nat.le_refl _) (.cells #[.int .u64 m.b, .int .i64 (hiW m.a), .int .u64 (loW m.a), .int .u64 m.w, .int .i64 m.n] 36)))
      clear HIN
      cases ok with
      | false =>
        go_wp2_with fail
        go_ret2
        exact ⟨by rw [HE.out, if_neg (show ¬ ((false, m) : Bool × Mu).1 = true by simp)]; rfl, HB2.out⟩
      | true =>
        obtain ⟨m0, m1, m2, m3, m4⟩ := Mu.at _ HC1.out
        simp only [Mu.cells] at m0 m1 m2 m3 m4
        go_wp2_with fail
        refine (Mean.floor m HM.out _).mono ?_
        rintro e w2 ⟨rfl, hb⟩
        have HB3 := hid (below_on HB2.out hb)
        clear hb
        go_wp2_with fail
        go_ret2
        exact ⟨by rw [HE.out]; rfl, HB3.out⟩
theorem Span.anchor (A : Option Addr) (n c : Nat) (l : List It) (w : World) (hr : RdI w A n l) (hl : InI l) (hn : n ≤ 1000000) :
    Calls Tryz.prog 23 #[.slice A n c] w (Ans (.tuple #[.int .u64 (anchorI l).2, .bool (anchorI l).1]) w) := by
  rcases Nat.eq_zero_or_pos n with h | h
  · subst h
    have e : l = [] := List.eq_nil_of_length_eq_zero hr.1
    subst e
    exact Span.anchor_none A c w
  · exact Span.anchor_some A n c l w hr hl h hn
/-- The chapter's examples. -/
theorem ex13 : roomI 0 [] = 4611686018427387904 ∧ withinI 0 [⟨0, 0, 0, 0, 4611686018427387905, 0, 0⟩] = false := by constructor <;> decide
end

/- The document's answers of layer 13 (and where all are together), as contracts. -/
section
open Go.RowKit
theorem take_it {l : List It} {k : Nat} (hk : k < l.length) : l.take (k + 1) = l.take k ++ [l.getD k It.zero] := by
  have e : l.getD k It.zero = l[k] := by simp [List.getD, hk]
  rw [List.take_succ_eq_append_getElem hk, e]
set_option maxRecDepth 100000 in
set_option maxHeartbeats 8000000 in
theorem Law13.items (A : Option Addr) (n c : Nat) (l : List It) (w : World) (hr : RdI w A n l) (hn : n ≤ 1000000) :
    Calls Tryz.prog 25 #[.slice A n c] w fun e w' => ∃ (A' : Option Addr) (c' : Nat), e = .returned (.slice A' n c') ∧ OwnR w' w.heap.size A' n c' l ∧ Below w.heap.size w w' := by
  have HR := hid hr
  have HLN := hid hr.1
  have hni : (n : Int) ≤ 1000000 := by omega
  clear hr
  go_enter Tryz.func25, Tryz.ntmps25
  go_wp2_with fail
  go_loopg [3, 8] n (fun s a i wr => ∃ (k : Nat) (A1 : Option Addr) (c1 : Nat), a = .slice A1 k c1 ∧ i = .int .i64 k ∧ k ≤ n ∧ s = n - k ∧ OwnR wr w.heap.size A1 k c1 (l.take k) ∧ Below w.heap.size w wr)
  case atStart => exact ⟨0, none, 0, rfl, rfl, Nat.zero_le _, by omega, by simpa using OwnR.nil _ _, Below.refl _ _⟩
  case round =>
    obtain ⟨k, A1, c1, rfl, rfl, hk, hs, ho, hb⟩ := hrel
    have HS := hid hs
    have HO := hid ho
    have HB := hid hb
    clear hs ho hb
    by_cases hkn : k < n
    · obtain ⟨bb, off, hA, _, hc⟩ := (HR.out.below HB.out).2 0 (by omega)
      obtain ⟨p0, p1, p2, p3, p4, p5, p6⟩ := hc k hkn
      have HTK := hid (take_it (l := l) (k := k) (by have := HLN.out; omega))
      generalize l.getD k It.zero = x at *
      subst hA
      have hki : (k : Int) < n := by omega
      have hk0 : (0 : Int) ≤ k := by omega
      clear hc
      have HXc := hid (show Cs (wr.alloc (.cells #[.int .u64 x.t, .int .u32 x.r, .int .u32 x.v, .int .i64 x.i, .int .u64 x.u, .int .u32 x.s, .int .u32 x.y] 76)) wr.heap.size x.cells from Cs.alloc_new6 wr 76 x.cells)
      have HOa := hid (HO.out.alloc (.cells #[.int .u64 x.t, .int .u32 x.r, .int .u32 x.v, .int .i64 x.i, .int .u64 x.u, .int .u32 x.s, .int .u32 x.y] 76))
      have HBa := hid (HB.out.alloc HB.out.size (.cells #[.int .u64 x.t, .int .u32 x.r, .int .u32 x.v, .int .i64 x.i, .int .u64 x.u, .int .u32 x.s, .int .u32 x.y] 76))
      go_upto_region 5 with fail
      clear p0 p1 p2 p3 p4 p5 p6 HO HB
      generalize (wr.alloc (.cells #[.int .u64 x.t, .int .u32 x.r, .int .u32 x.v, .int .i64 x.i, .int .u64 x.u, .int .u32 x.s, .int .u32 x.y] 76)) = Wa at HXc HOa HBa ⊢
      generalize wr.heap.size = gp at HXc ⊢
      obtain ⟨q0, q1, q2, q3, q4, q5, q6⟩ := It.at x HXc.out
      go_wp2_with fail
      clear q0 q1 q2 q3 q4 q5 q6 HXc
      refine (Law5.of x _).mono ?_
      rintro e w3 ⟨rfl, hb⟩
      have HO3 := hid (HOa.out.below hb)
      have HB3 := hid (below_on HBa.out hb)
      have hOW := HO3.out.alloc (.cells #[.int .u64 x.t, .int .u32 x.r, .int .u32 x.v, .int .i64 x.i, .int .u64 x.u, .int .u32 x.s, .int .u32 x.y] 114)
      have hTP : Th (w3.alloc (.cells #[.int .u64 x.t, .int .u32 x.r, .int .u32 x.v, .int .i64 x.i, .int .u64 x.u, .int .u32 x.s, .int .u32 x.y] 114)) w3.heap.size x := It.at x (Cs.new7 w3 114 x)
      have HB4 := hid (HB3.out.alloc HB3.out.size (.cells #[.int .u64 x.t, .int .u32 x.r, .int .u32 x.v, .int .i64 x.i, .int .u64 x.u, .int .u32 x.s, .int .u32 x.y] 114))
      have hbs := HB4.out.size
      have hk1 : k ≤ 1000000 := by omega
      clear hb HOa HBa HO3 HB3
      unfold It.val
      go_wp2_with (first
        | (at_builtin; (with_reducible refine wpList_append_ref _ rfl (.tmp 12) (.tmp 15) rfl w.heap.size A1 k c1 (l.take k) ?a1 hOW w3.heap.size x ?a2 hTP hk1 hbs ?a3); (case a1 => rfl); (case a2 => rfl); (intro A4 c4 w4 ho4 hc4 hr4); (have HO4 := hid ho4); (have HB5 := hid (Below.chg HB4.out hc4 (fun q hq => (hOW.rowGe q hq).1))); (clear ho4 hc4 hr4 hOW hTP hbs))
        | fail)
      go_roundg (n - (k + 1))
      case measure => have := HS.out; omega
      case rel => exact ⟨k + 1, A4, c4, rfl, by go_num, by omega, rfl, by rw [HTK.out]; exact HO4.out, HB5.out⟩
    · obtain rfl : k = n := by omega
      have hki : ¬ (k : Int) < k := by omega
      have ho := HO.out
      rw [List.take_of_length_le (by have := HLN.out; omega)] at ho
      have HO1 := hid ho
      clear ho HO
      go_wp2_with fail
      go_ret
      exact ⟨A1, c1, rfl, HO1.out, HB.out⟩
theorem cmp_le {a b : Int} : decide (cmpI a b ≤ 0) = decide (a ≤ b) := by
  unfold cmpI
  rcases Int.lt_trichotomy a b with h | h | h
  · simp [h]; omega
  · subst h; simp
  · have : ¬ a < b := by omega
    simp [this, h]; try omega
set_option maxRecDepth 100000 in
set_option maxHeartbeats 8000000 in
theorem Ref13.within (base : Int) (hb0 : IsT base) (A : Option Addr) (n c : Nat) (l : List It) (w : World) (hr : RdI w A n l) (hi : InI l) (hn : n ≤ 1000000) :
    Calls Tryz.prog 27 #[.int .u64 base, .slice A n c] w (Ans (.bool (withinI base l)) w) := by
  have HR := hid hr
  have HI := hid hi
  have HB0 := hid hb0
  obtain ⟨P, hP⟩ : ∃ P : Int, P = 2 ^ 62 := ⟨_, rfl⟩
  have HP : Hid (P = 4611686018427387904) := hid (by rw [hP]; rfl)
  have HPP := hid (by intro w; have := Ref.power 62 (by decide) w; rw [← hP] at this; exact this : ∀ w, Calls Tryz.prog 75 #[.int .i64 (62 : Nat)] w (BAns (5 + 62) P w))
  clear hr hi hb0 hP
  go_enter Tryz.func27, Tryz.ntmps27
  go_wp2_with fail
  refine (Ref5.spread base HB0.out A n c l _ HR.out HI.out hn).mono ?_
  rintro e w1 ⟨s1, A1, n1, c1, rfl, hB, hb⟩
  have HX := hid (hB.mono (show 71 ≤ 72 by decide))
  have HB1 := hid hb
  clear hB hb
  go_wp2_with fail
  refine (HPP.out _).mono ?_
  rintro e w2 ⟨s2, A2, n2, c2, rfl, hB, hb⟩
  have HX2 := hid (IsB.below HX.out hb)
  have HY := hid (hB.mono (show 5 + 62 ≤ 72 by decide))
  have HB2 := hid (below_on HB1.out hb)
  clear hB hb HX
  go_wp2_with fail
  refine (Ref.cmp 72 s1 s2 A1 A2 n1 c1 n2 c2 (spreadI base l) P _ HX2.out HY.out (by decide)).mono ?_
  rintro e w3 ⟨rfl, hb⟩
  have HB3 := hid (below_on HB2.out hb)
  clear hb
  go_wp2_with fail
  go_ret
  exact ⟨by unfold withinI; rw [← HP.out]; exact congrArg (fun b => Ending.returned (.bool b)) cmp_le, HB3.out⟩
end

/- The document's answers of layer 13, further: how much room there is, the mean, where all are together. -/
section
open Go.RowKit
theorem room_sub {base : Int} {l : List It} (h : withinI base l = true) : (4611686018427387904 : Int) - spreadI base l = roomI base l := by
  have h : spreadI base l ≤ 4611686018427387904 := of_decide_eq_true h
  unfold roomI; omega
theorem room_no {base : Int} {l : List It} (h : withinI base l = false) : (0 : Int) = roomI base l := by
  have h : ¬ spreadI base l ≤ 4611686018427387904 := of_decide_eq_false h
  unfold roomI; omega
set_option maxRecDepth 100000 in
set_option maxHeartbeats 8000000 in
theorem Ref13.room (base : Int) (hb0 : IsT base) (A : Option Addr) (n c : Nat) (l : List It) (w : World) (hr : RdI w A n l) (hi : InI l) (hn : n ≤ 1000000) :
    Calls Tryz.prog 31 #[.int .u64 base, .slice A n c] w (BAns 73 (roomI base l) w) := by
  have HR := hid hr
  have HI := hid hi
  have HB0 := hid hb0
  obtain ⟨P, hP⟩ : ∃ P : Int, P = 2 ^ 62 := ⟨_, rfl⟩
  have HP := hid hP
  have HP2 : Hid (P = 4611686018427387904) := hid (by rw [hP]; rfl)
  have HV0 := hid (Var.new w 41 false none 0 0)
  have HBa := hid ((Below.refl w.heap.size w).alloc (Nat.le_refl _) (.cells #[.bool false, .slice none 0 0] 41))
  clear hr hi hb0 hP
  go_enter Tryz.func31, Tryz.ntmps31
  go_upto_region 1 with fail
  generalize (w.alloc (.cells #[.bool false, .slice none 0 0] 41)) = W0 at HV0 HBa ⊢
  generalize hg : w.heap.size = g at HV0 ⊢
  have HG : Hid (w.heap.size ≤ g) := hid (by omega)
  clear hg
  go_wp2_with fail
  refine (Ref13.within base HB0.out A n c l _ (HR.out.below HBa.out) HI.out hn).mono ?_
  rintro e w1 ⟨rfl, hb⟩
  have HV1 := hid (HV0.out.below hb)
  have HB1 := hid (below_on HBa.out hb)
  clear hb HV0 HBa
  obtain ⟨ok, hok⟩ : ∃ ok, withinI base l = ok := ⟨_, rfl⟩
  have HOK := hid hok
  rw [hok]
  clear hok
  cases ok with
  | false =>
    have HF := hid (HV1.out.finB HB1.out HG.out (IsB.zero w1 73))
    obtain ⟨t0, t1, t2, t3, _⟩ := HV1.out
    go_wp2_with fail
    refine bodyPost_ret (v := .agg #[.bool false, .slice none 0 0]) (by simp [results, Tryz.results31, go_sem, t0, t1]) rfl ⟨_, _, _, _, rfl, ?_, HF.out.2⟩
    rw [← room_no HOK.out]
    exact HF.out.1
  | true =>
    go_wp2_with fail
    refine (Ref.power 62 (by decide) _).mono ?_
    rintro e w2 ⟨s2, A2, n2, c2, rfl, hB, hb⟩
    rw [← HP.out] at hB
    have HY := hid (hB.mono (show 5 + 62 ≤ 72 by decide))
    have HV2 := hid (HV1.out.below hb)
    have HB2 := hid (below_on HB1.out hb)
    clear hB hb HV1 HB1
    go_wp2_with fail
    refine (Ref5.spread base HB0.out A n c l _ (HR.out.below HB2.out) HI.out hn).mono ?_
    rintro e w3 ⟨s3, A3, n3, c3, rfl, hB, hb⟩
    have HX := hid (hB.mono (show 71 ≤ 72 by decide))
    have HY3 := hid (HY.out.below hb)
    have HV3 := hid (HV2.out.below hb)
    have HB3 := hid (below_on HB2.out hb)
    clear hB hb HY HV2 HB2
    go_wp2_with fail
    refine (Ref.sub 72 s2 s3 A2 A3 n2 c2 n3 c3 P (spreadI base l) _ HY3.out HX.out (by decide)).mono ?_
    rintro e w4 ⟨s4, A4, n4, c4, rfl, hB, hb⟩
    have HZ := hid hB
    have HV4 := hid (HV3.out.below hb)
    have HB4 := hid (below_on HB3.out hb)
    clear hB hb HX HY3 HV3 HB3
    have HF := hid (HV4.out.finB HB4.out HG.out HZ.out)
    obtain ⟨t0, t1, t2, t3, _⟩ := HV4.out
    go_wp2_with fail
    refine bodyPost_ret (v := .agg #[.bool s4, .slice A4 n4 c4]) (by simp [results, Tryz.results31, go_sem, t0, t1]) rfl ⟨_, _, _, _, rfl, ?_, HF.out.2⟩
    rw [← room_sub HOK.out, ← HP2.out]
    exact HF.out.1
end

/- The document's answers of layer 13, further: how much room there is, the mean, where all are together. -/
section
open Go.RowKit
theorem pin_pp {l : List It} (hi : InI l) : ∀ q ∈ l.map It.pp, PIn q := fun q hq => by
  obtain ⟨x, hx, rfl⟩ := List.mem_map.1 hq
  have := hi x hx
  exact ⟨this.1, this.2.1, this.2.2.1⟩
set_option maxRecDepth 100000 in
set_option maxHeartbeats 8000000 in
theorem Ref13.mean (base : Int) (hb0 : IsT base) (A : Option Addr) (n c : Nat) (l : List It) (w : World) (hr : RdI w A n l) (hi : InI l) (hn : n ≤ 1000000) :
    Calls Tryz.prog 70 #[.int .u64 base, .slice A n c] w (RmOkF (Mu.of base (l.map It.pp)) w) := by
  have HR := hid hr
  have HLN := hid hr.1
  have HTT := hid hb0
  have HP := hid (pin_pp hi)
  have hni : (n : Int) ≤ 1000000 := by omega
  have HC0 := hid (show Cs (w.alloc (.cells #[.int .u64 0, .bool false, .slice none 0 0, .int .u64 0, .int .i64 0] 43)) w.heap.size rmZ from Cs.alloc_new6 w 43 rmZ)
  have HBa := hid ((Below.refl w.heap.size w).alloc (Nat.le_refl _) (.cells #[.int .u64 0, .bool false, .slice none 0 0, .int .u64 0, .int .i64 0] 43))
  have HSZ : Hid ((w.alloc (.cells #[.int .u64 0, .bool false, .slice none 0 0, .int .u64 0, .int .i64 0] 43)).heap.size = w.heap.size + 1) := hid (by simp)
  clear hr hi hb0
  go_enter Tryz.func70, Tryz.ntmps70
  go_wp2_with fail
  generalize (w.alloc (.cells #[.int .u64 0, .bool false, .slice none 0 0, .int .u64 0, .int .i64 0] 43)) = W0 at HC0 HBa HSZ ⊢
  go_loopg [6, 11] n (fun s a i wr => ∃ (k : Nat) (A1 : Option Addr) (c1 : Nat), a = .slice A1 k c1 ∧ i = .int .i64 k ∧ k ≤ n ∧ s = n - k ∧ OwnQ wr W0.heap.size A1 k c1 ((l.take k).map It.pp) ∧ Below W0.heap.size W0 wr)
  case atStart => exact ⟨0, none, 0, rfl, rfl, Nat.zero_le _, by omega, by simpa using OwnQ.nil _ _, Below.refl _ _⟩
  case round =>
    obtain ⟨k, A1, c1, rfl, rfl, hk, hs, ho, hb⟩ := hrel
    have HS := hid hs
    have HO := hid ho
    have HB := hid hb
    clear hs ho hb
    by_cases hkn : k < n
    · obtain ⟨bb, off, hA, _, hc⟩ := (HR.out.below (below_on HBa.out HB.out)).2 0 (by omega)
      obtain ⟨p0, p1, p2, p3, p4, p5, p6⟩ := hc k hkn
      have HTK := hid (take_pp (l := l) (k := k) (by have := HLN.out; omega))
      generalize l.getD k It.zero = x at *
      subst hA
      have hki : (k : Int) < n := by omega
      have hk0 : (0 : Int) ≤ k := by omega
      clear hc
      have HXc := hid (show Cs (wr.alloc (.cells #[.int .u64 x.t, .int .u32 x.r, .int .u32 x.v, .int .i64 x.i, .int .u64 x.u, .int .u32 x.s, .int .u32 x.y] 114)) wr.heap.size x.cells from Cs.alloc_new6 wr 114 x.cells)
      have HOa := hid (HO.out.alloc (.cells #[.int .u64 x.t, .int .u32 x.r, .int .u32 x.v, .int .i64 x.i, .int .u64 x.u, .int .u32 x.s, .int .u32 x.y] 114))
      have HBb := hid (HB.out.alloc HB.out.size (.cells #[.int .u64 x.t, .int .u32 x.r, .int .u32 x.v, .int .i64 x.i, .int .u64 x.u, .int .u32 x.s, .int .u32 x.y] 114))
      go_upto_region 5 with fail
      clear p0 p1 p2 p3 p4 p5 p6 HO HB
      generalize (wr.alloc (.cells #[.int .u64 x.t, .int .u32 x.r, .int .u32 x.v, .int .i64 x.i, .int .u64 x.u, .int .u32 x.s, .int .u32 x.y] 114)) = Wa at HXc HOa HBb ⊢
      generalize wr.heap.size = gp at HXc ⊢
      obtain ⟨q0, q1, q2, q3, q4, q5, q6⟩ := It.at x HXc.out
      have hOW := HOa.out.alloc (.cells #[.int .u64 x.t, .int .u32 x.r, .int .u32 x.v] 31)
      have hTP : Tp (Wa.alloc (.cells #[.int .u64 x.t, .int .u32 x.r, .int .u32 x.v] 31)) Wa.heap.size x.pp := Tp.new Wa 31 x.pp
      have HB4 := hid (HBb.out.alloc HBb.out.size (.cells #[.int .u64 x.t, .int .u32 x.r, .int .u32 x.v] 31))
      have hbs := HB4.out.size
      have hk1 : k ≤ 1000000 := by omega
      clear HOa HBb HXc
      go_wp2_with (first
        | (at_builtin; (with_reducible refine wpList_append_p4 _ rfl (.tmp 15) (.tmp 18) rfl W0.heap.size A1 k c1 ((l.take k).map It.pp) ?a1 hOW Wa.heap.size x.pp ?a2 hTP hk1 hbs ?a3); (case a1 => rfl); (case a2 => rfl); (intro A4 c4 w4 ho4 hc4 hr4); (have HO4 := hid ho4); (have HB5 := hid (Below.chg HB4.out hc4 (fun q hq => (hOW.rowGe q hq).1))); (clear ho4 hc4 hr4 hOW hTP hbs q0 q1 q2 q3 q4 q5 q6))
        | fail)
      go_roundg (n - (k + 1))
      case measure => have := HS.out; omega
      case rel => exact ⟨k + 1, A4, c4, rfl, by go_num, by omega, rfl, by rw [HTK.out]; exact HO4.out, HB5.out⟩
    · obtain rfl : k = n := by omega
      have hki : ¬ (k : Int) < k := by omega
      have ho := HO.out
      rw [List.take_of_length_le (by have := HLN.out; omega)] at ho
      have HO1 := hid ho
      clear ho HO
      obtain ⟨ok, m, hm⟩ : ∃ ok m, Mu.of base (l.map It.pp) = (ok, m) := ⟨_, _, rfl⟩
      have HM := hid hm
      clear hm
      go_wp2_with fail
      refine (Ref8.ofF base HTT.out A1 k c1 (l.map It.pp) _ HO1.out.rdp HP.out (by omega)).mono ?_
      rw [HM.out]
      rintro e w2 ⟨⟨s2, A2, n2, c2⟩, rfl, hB2, hb, hf⟩
      have HF2 : Hid (frA (w.heap.size + 1) A2 n2) := hid (hf.mono (by have h1 := HB.out.size; have h2 := HSZ.out; omega))
      have HB2 : Hid (bqR 18 m.a (s2, A2, n2, c2) w2) := hid hB2
      have HBz := hid (below_on HBa.out (below_on HB.out hb))
      have HCr := hid (HC0.out.below (below_on HB.out hb))
      clear hb hf hB2 HO1 HC0 HB
      dsimp only
      go_wp2_with (first | ((with_reducible refine wpList_put_cs 43 (rmC m (s2, A2, n2, c2)) infoRm rfl (.tmp 4) (.tmp 24) rfl (w.heap.size) _ HCr.out ?rm_1 ?rm_2 ?rm_3 ?rm_4 ?rm_5 ?rm_6); (case rm_1 => rfl); (case rm_2 => rfl); (case rm_3 => rfl); (case rm_4 => rfl); (case rm_5 => rfl); (intro W2 hW2); (have HW := hid (show Cs W2 w.heap.size (rmC m (s2, A2, n2, c2)) ∧ bqR 18 m.a (s2, A2, n2, c2) W2 ∧ Below w.heap.size w W2 by subst hW2; exact ⟨Cs.putL (rmC m (s2, A2, n2, c2)) 0 HCr.out (by simp [rmC, rmZ]), IsB.setF HB2.out HF2.out 0 _, below_sets (Nat.le_refl _) _ _ HBz.out⟩)); (clear hW2)) | fail)
      obtain ⟨z0, z1, z2, z3, z4⟩ := rm_at HW.out.1
      go_wp2_with fail
      refine bodyPost_ret (v := .tuple #[rmV m (s2, A2, n2, c2), .bool ok]) (by simp [results, Tryz.results70, go_sem, z0, z1, z2, z3, z4]) rfl (by rw [HM.out]; exact ⟨(s2, A2, n2, c2), rfl, HW.out.2.1, HW.out.2.2, HF2.out.mono (by omega)⟩)
end

/- The document's answers of layer 13, further: how much room there is, the mean, where all are together. -/
section
open Go.RowKit
set_option maxRecDepth 100000 in
set_option maxHeartbeats 8000000 in
theorem Ref8.floor (m : Mu) (s1 : Bool) (A1 : Option Addr) (n1 c1 : Nat) (hm : m.In) (w : World) (hB : IsB w 18 s1 A1 n1 c1 m.a) : Calls Tryz.prog 71 #[rmV m (s1, A1, n1, c1)] w (Ans (.tuple #[.int .u64 m.fl.2, .bool m.fl.1]) w) := by
  have HBA := hid (hB.alloc (.cells #[.int .u64 m.b, .bool s1, .slice A1 n1 c1, .int .u64 m.w, .int .i64 m.n] 43))
  have HBW := hid ((Below.refl w.heap.size w).alloc (Nat.le_refl _) (.cells #[.int .u64 m.b, .bool s1, .slice A1 n1 c1, .int .u64 m.w, .int .i64 m.n] 43))
  have HC := hid (show Cs (w.alloc (.cells #[.int .u64 m.b, .bool s1, .slice A1 n1 c1, .int .u64 m.w, .int .i64 m.n] 43)) w.heap.size (rmC m (s1, A1, n1, c1)) from Cs.alloc_new6 w 43 (rmC m (s1, A1, n1, c1)))
  have HMI := hid hm
  have HBT := hid hm.1
  clear hB hm
  go_enter Tryz.func71, Tryz.ntmps71
  go_upto_region 1 with fail
  generalize (w.alloc (.cells #[.int .u64 m.b, .bool s1, .slice A1 n1 c1, .int .u64 m.w, .int .i64 m.n] 43)) = W0 at HBA HBW HC ⊢
  generalize w.heap.size = g0 at HC ⊢
  obtain ⟨k0, k1, k2, k3, k4⟩ := rm_at HC.out
  go_wp2_with fail
  refine (Ref8.right m s1 A1 n1 c1 _ HBA.out).mono ?_
  rintro e w1 ⟨rfl, hb⟩
  have HB1 := hid (HBA.out.below hb)
  have HW1 := hid (below_on HBW.out hb)
  have HC1 := hid (HC.out.below hb)
  clear hb k0 k1 k2 k3 k4 HBA HBW HC
  obtain ⟨k0, k1, k2, k3, k4⟩ := rm_at HC1.out
  obtain ⟨ok, hok⟩ : ∃ ok, m.right = ok := ⟨_, rfl⟩
  have HOK := hid hok
  rw [hok]
  clear hok
  cases ok with
  | false =>
    have E : Hid (m.fl = (false, 0)) := hid (by unfold Mu.fl Mu.flOk; rw [HOK.out]; rfl)
    go_wp2_with fail
    go_ret2
    exact ⟨by rw [E.out] <;> rfl, HW1.out⟩
  | true =>
    by_cases h0 : m.n = 0
    · have c0 : (m.n == 0) = true := by rw [h0]; rfl
      have E : Hid (m.fl = (false, 0)) := hid (by unfold Mu.fl Mu.flOk; rw [h0]; simp)
      clear h0
      go_wp2_with fail
      go_ret2
      exact ⟨by rw [E.out] <;> rfl, HW1.out⟩
    · have c0 : (m.n == 0) = false := by simpa using h0
      have HWB : Hid (1 ≤ m.w ∧ m.w ≤ 33554432) := hid (by
        have := HOK.out
        unfold Mu.right at this
        rw [if_neg h0] at this
        simp only [Bool.and_eq_true, decide_eq_true_eq] at this
        omega)
      have hwr : IntKind.i64.wrap m.w = m.w := by have := HWB.out; rw [IntKind.wrap_i64]; omega
      have hwr2 : wrap64 m.w = m.w := by have := HWB.out; first | (unfold wrap64; omega) | (rw [← IntKind.wrap_i64]; exact hwr) | exact hwr
      have HN0 := hid h0
      clear h0
      go_wp2_with fail
      refine (Ref.div 18 (by decide) s1 A1 n1 c1 m.a m.w HWB.out.1 HWB.out.2 _ HB1.out).mono ?_
      rintro e w2 ⟨s2, A2, n2, c2, rfl, hB, hb⟩
      obtain ⟨q, hq⟩ : ∃ q, m.a / m.w = q := ⟨_, rfl⟩
      have HQ := hid hq
      rw [hq] at hB
      have HB2 := hid (hB.alloc (.cells #[.bool s2, .slice A2 n2 c2] 41))
      have HW2 := hid ((below_on HW1.out hb).alloc (below_on HW1.out hb).size (.cells #[.bool s2, .slice A2 n2 c2] 41))
      have HC2 := hid ((HC1.out.below hb).below ((Below.refl w2.heap.size w2).alloc (Nat.le_refl _) (.cells #[.bool s2, .slice A2 n2 c2] 41)))
      have HV2 := hid (Cs.alloc_new6 w2 41 [.bool s2, .slice A2 n2 c2])
      clear hb hB hq k0 k1 k2 k3 k4 HC1 HB1 HW1
      dsimp only
      go_upto_region 4 with fail
      generalize (w2.alloc (.cells #[.bool s2, .slice A2 n2 c2] 41)) = W2 at HB2 HW2 HC2 HV2 ⊢
      generalize w2.heap.size = g2 at HV2 ⊢
      have v0 := HV2.out.at0
      have v1 := HV2.out.at1
      go_wp2_with fail
      refine (Ref.small (18 + 5 + 1) (by decide) s2 A2 n2 c2 q _ HB2.out (smI q) (by unfold smI; rw [decide_eq_true_eq]; omega)).mono ?_
      rintro e w3 ⟨rfl, hb⟩
      have HB3 := hid (HB2.out.below hb)
      have HW3 := hid (below_on HW2.out hb)
      have HC3 := hid (HC2.out.below hb)
      have HV3 := hid (HV2.out.below hb)
      clear hb v0 v1 HB2 HW2 HC2 HV2
      obtain ⟨sm, hsm⟩ : ∃ sm, smI q = sm := ⟨_, rfl⟩
      have HSM := hid hsm
      rw [hsm]
      clear hsm
      cases sm with
      | false =>
        have E : Hid (m.fl = (false, 0)) := hid (by unfold Mu.fl Mu.flOk; rw [HQ.out, HSM.out]; simp)
        go_wp2_with fail
        go_ret2
        exact ⟨by rw [E.out] <;> rfl, HW3.out⟩
      | true =>
        have E : Hid (m.fl = (true, adv m.b q)) := hid (by unfold Mu.fl Mu.flOk; rw [HQ.out, HSM.out, HOK.out]; simp [HN0.out])
        have HRG : Hid (-18446744073709551616 ≤ m.b + q ∧ m.b + q < 36893488147419103232) := hid (by
          have h1 := HSM.out
          have h2 := HBT.out
          unfold smI at h1
          simp only [decide_eq_true_eq] at h1
          omega)
        have HAD := hid (show (m.b + q) % 18446744073709551616 = adv m.b q from rfl)
        have HAT := hid (adv_T m.b q)
        have v0 := HV3.out.at0
        have v1 := HV3.out.at1
        obtain ⟨k0, _, _, _, _⟩ := rm_at HC3.out
        have HS0 := hid (And.intro (And.intro k0 (And.intro v0 v1)) HW3.out)
        have HQ3 := HB3
        clear k0 v0 v1
        go_wp2_with fail
        go_region_held3 (fun w' => (w'.cell? ⟨g0, 0, none⟩ = some (.int .u64 m.b) ∧ w'.cell? ⟨g2, 0, none⟩ = some (.bool s2) ∧ w'.cell? ⟨g2, 1, none⟩ = some (.slice A2 n2 c2)) ∧ Below w.heap.size w w')
          (first | exact ⟨HS0.out.1, HS0.out.2.drew⟩ | exact ⟨keep3 (And.left (by assumption : _ ∧ Below w.heap.size w _)) hb6, below_keep (And.right (by assumption : _ ∧ Below w.heap.size w _)) hb6⟩)
          (first
            | (go_at_call 29; refine (Ref.U m.b HBT.out.1 HBT.out.2 _).mono ?_; rintro e w6 ⟨s6, A6, n6, c6, rfl, hB, hb6⟩; have H6 := hid (hB.mono (show 5 ≤ 24 by decide)); have H56 := hid (IsB.below (w := w3.drew) HQ3.out hb6); clear hB)
            | (go_at_call 66; refine (Ref.add 24 s6 s2 A6 A2 n6 c6 n2 c2 _ _ _ H6.out H56.out (by decide)).mono ?_; rintro e w7 ⟨s7, A7, n7, c7, rfl, hB, hb6⟩; have H7 := hid (hB.mono (show 24 + 1 ≤ 100 by decide)); clear hB)
            | (go_at_call 122; refine (Ref3.round 100 (by decide) (by decide) s7 A7 n7 c7 _ HRG.out.1 HRG.out.2 _ H7.out).mono ?_; rintro e w8 ⟨s8, A8, n8, c8, rfl, hB, hb6⟩; rw [HAD.out] at hB; have H8 := hid hB; clear hB)
            | (go_at_call 121; refine (Ref4.word 102 (by decide) s8 A8 n8 c8 _ HAT.out.1 HAT.out.2 _ H8.out).mono ?_; rintro e w9 ⟨rfl, hb6⟩))
        have HFIN := hid (And.right (by assumption : (_ ∧ _ ∧ _) ∧ Below w.heap.size w w9))
        go_wp2_with fail
        go_ret2
        exact ⟨by rw [E.out] <;> rfl, HFIN.out⟩
set_option maxHeartbeats 2000000 in
theorem Ref13.anchor_none (A : Option Addr) (c : Nat) (w : World) : Calls Tryz.prog 24 #[.slice A 0 c] w (Ans (.tuple #[.int .u64 0, .bool false]) w) := by
  go_enter Tryz.func24, Tryz.ntmps24
  go_wp2_with fail
  go_ret2
  exact ⟨rfl, Below.refl _ _⟩
set_option maxRecDepth 100000 in
set_option maxHeartbeats 8000000 in
theorem Ref13.anchor_some (A : Option Addr) (n c : Nat) (l : List It) (w : World) (hr : RdI w A n l) (hl : InI l) (h0 : 0 < n) (hn : n ≤ 1000000) :
    Calls Tryz.prog 24 #[.slice A n c] w (Ans (.tuple #[.int .u64 (anchorI l).2, .bool (anchorI l).1]) w) := by
  have HR := hid hr
  have HL := hid hl
  have HLN := hid hr.1
  have hni : (n : Int) ≤ 1000000 := by omega
  have hn0 : (n : Int) ≠ 0 := by omega
  have c0 : ((n : Int) == 0) = false := by rw [beq_eq_false_iff_ne]; exact hn0
  have hn1 : (0 : Int) < n := by omega
  have HT := hid (show IsT (l.getD 0 It.zero).t from (hl.get (by have := hr.1; omega)).1)
  have HE : Hid (anchorI l = if (Mu.of (l.getD 0 It.zero).t (l.map It.pp)).1 = true then (Mu.of (l.getD 0 It.zero).t (l.map It.pp)).2.fl else (false, 0)) := hid (by
    unfold anchorI; rw [if_neg (by have := HLN.out; omega)])
  have HIN := hid (of_in (base := (l.getD 0 It.zero).t) (l := l.map It.pp) HT.out (pin_pp hl))
  obtain ⟨bb, off, hA, _, hc⟩ := hr.2 0 h0
  obtain ⟨p0, p1, p2, p3, p4, p5, p6⟩ := hc 0 h0
  rw [show off + 0 * 7 = off by omega] at p0 p1 p2 p3 p4 p5 p6
  obtain ⟨x, hx⟩ : ∃ x, l.getD 0 It.zero = x := ⟨_, rfl⟩
  rw [hx] at p0 p1 p2 p3 p4 p5 p6 HT HE HIN
  subst hA
  clear hr hl hc hx
  go_enter Tryz.func24, Tryz.ntmps24
  go_wp2_with fail
  refine (Ref13.mean x.t HT.out (some ⟨bb, off, none⟩) n c l _ HR.out HL.out hn).mono ?_
  obtain ⟨ok, m, hm⟩ : ∃ ok m, Mu.of x.t (l.map It.pp) = (ok, m) := ⟨_, _, rfl⟩
  have HM := hid hm
  rw [hm]
  rintro e w1 ⟨⟨s1, A1, n1, c1⟩, rfl, hB, hb, _⟩
  have HMI : Hid m.In := hid (by have := HIN.out; rwa [hm] at this)
  have HB1 : Hid (IsB (w1.alloc (.cells #[.int .u64 m.b, .bool s1, .slice A1 n1 c1, .int .u64 m.w, .int .i64 m.n] 43)) 18 s1 A1 n1 c1 m.a) := hid (IsB.alloc hB _)
  have HW1 := hid ((hb).alloc hb.size (.cells #[.int .u64 m.b, .bool s1, .slice A1 n1 c1, .int .u64 m.w, .int .i64 m.n] 43))
  have HC1 := hid (show Cs (w1.alloc (.cells #[.int .u64 m.b, .bool s1, .slice A1 n1 c1, .int .u64 m.w, .int .i64 m.n] 43)) w1.heap.size (rmC m (s1, A1, n1, c1)) from Cs.alloc_new6 w1 43 (rmC m (s1, A1, n1, c1)))
  clear hb hB hm p0 p1 p2 p3 p4 p5 p6 HIN
  dsimp only
  go_upto_region 4 with fail
  generalize (w1.alloc (.cells #[.int .u64 m.b, .bool s1, .slice A1 n1 c1, .int .u64 m.w, .int .i64 m.n] 43)) = W1 at HB1 HW1 HC1 ⊢
  generalize w1.heap.size = g1 at HC1 ⊢
  obtain ⟨k0, k1, k2, k3, k4⟩ := rm_at HC1.out
  cases ok with
  | false =>
    go_wp2_with fail
    go_ret2
    exact ⟨by rw [HE.out, HM.out, if_neg (show ¬ ((false, m) : Bool × Mu).1 = true by simp)] <;> rfl, HW1.out⟩
  | true =>
    go_wp2_with fail
    refine (Ref8.floor m s1 A1 n1 c1 HMI.out _ HB1.out).mono ?_
    rintro e w2 ⟨rfl, hb⟩
    have HW2 := hid (below_on HW1.out hb)
    clear hb
    go_wp2_with fail
    go_ret2
    exact ⟨by rw [HE.out, HM.out]; rfl, HW2.out⟩
theorem Ref13.anchor (A : Option Addr) (n c : Nat) (l : List It) (w : World) (hr : RdI w A n l) (hl : InI l) (hn : n ≤ 1000000) :
    Calls Tryz.prog 24 #[.slice A n c] w (Ans (.tuple #[.int .u64 (anchorI l).2, .bool (anchorI l).1]) w) := by
  rcases Nat.eq_zero_or_pos n with h | h
  · subst h
    have e : l = [] := List.eq_nil_of_length_eq_zero hr.1
    subst e
    exact Ref13.anchor_none A c w
  · exact Ref13.anchor_some A n c l w hr hl h hn
end

end Go.Proofs.YtklaghleghncoaaGreatDoor

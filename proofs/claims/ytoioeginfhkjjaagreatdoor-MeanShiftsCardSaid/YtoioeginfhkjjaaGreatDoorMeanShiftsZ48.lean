/- Texts of MeanShifts's proof, together. -/
import Derived.Test.YtoioeginfhkjjaaGreatDoorMeanShiftsZ21
import Derived.Test.YtoioeginfhkjjaaGreatDoorMeanShiftsZ25
import Derived.Test.YtoioeginfhkjjaaGreatDoorMeanShiftsZ36
import Derived.Test.YtoioeginfhkjjaaGreatDoorMeanShiftsZ43
import Derived.Test.YtoioeginfhkjjaaGreatDoorStr
import Derived.Test.YtoioeginfhkjjaaGreatDoorMeanShiftsZ30
namespace Go.Proofs.YtoioeginfhkjjaaGreatDoor
/- The chapter's example of layer 8, as the laws ask it. -/
section
open Go.RowKit

theorem Law7.Awake (w : World) : Calls Tryz.prog 58 #[] w (Ans (.bool true) w) := by
  go_enter Tryz.func58, Tryz.ntmps58
  go_wp2_with (go_at_call 91; refine (Law7.awake _).mono ?_; rintro e w' ⟨rfl, hb⟩)
  go_ret
  exact ⟨rfl, hb⟩

theorem ex8 : Mu.of 5 [(5, 0, 1), (8, 0, 1)] = (true, ⟨5, 3, 2, 2⟩) := by
  rw [of_yes 5 (l := [(5, 0, 1), (8, 0, 1)]) (fun p hp => by
    simp at hp
    rcases hp with rfl | rfl
    · exact ⟨by decide, ⟨by decide, by decide⟩, ⟨by decide, by decide⟩, by decide, by decide⟩
    · exact ⟨by decide, ⟨by decide, by decide⟩, ⟨by decide, by decide⟩, by decide, by decide⟩) (by decide)]
  rfl
theorem ex8f : Mu.fl ⟨5, 3, 2, 2⟩ = (true, 6) := by first | rfl | decide +kernel
theorem ex8t : txtOf 3 = [51] := by first | decide +kernel | (unfold txtOf; rw [if_neg (by decide)]; simp [Lib.decDigits])
theorem Tab10.at2 {w0 w : World} (h : Tab10 w0.heap.size w0) (hb : Below w0.heap.size w0 w) : Tab10 w.heap.size w := Tab10.of (h.on hb).here

set_option maxRecDepth 100000 in
set_option maxHeartbeats 4000000 in
theorem Law8.awake (w : World) (htab : Tab10 w.heap.size w) : Calls Tryz.prog 16 #[] w (Ans (.bool true) w) := by
  have HT := hid htab
  have HB0 := hid ((Below.refl w.heap.size w).alloc (Nat.le_refl _) (.cells #[.int .u64 5, .int .u32 0, .int .u32 1, .int .u64 8, .int .u32 0, .int .u32 1] 29))
  have HR := hid (RdP.new2 w 29 5 0 1 8 0 1)
  clear htab
  go_enter Tryz.func16, Tryz.ntmps16
  go_wp2_with fail

  generalize (w.alloc (.cells #[.int .u64 5, .int .u32 0, .int .u32 1, .int .u64 8, .int .u32 0, .int .u32 1] 29)) = W0 at HB0 HR ⊢
  refine (Mean.of 5 ⟨by decide, by decide⟩ (some ⟨w.heap.size, 0, none⟩) 2 2 [(5, 0, 1), (8, 0, 1)] _ HR.out (fun p hp => by
    simp at hp
    rcases hp with rfl | rfl
    · exact ⟨⟨by decide, by decide⟩, ⟨by decide, by decide⟩, by decide, by decide⟩
    · exact ⟨⟨by decide, by decide⟩, ⟨by decide, by decide⟩, by decide, by decide⟩) (by decide)).mono ?_
  rw [ex8]
  rintro e w1 ⟨rfl, hb⟩
  have ha := (Below.refl w1.heap.size w1).alloc (Nat.le_refl _) (.cells #[.int .u64 5, .int .i64 (hiW 3), .int .u64 (loW 3), .int .u64 2, .int .i64 2] 36)
  have HB1 := hid (below_on (below_on HB0.out hb) ha)
  have HC1 : Hid (Cs (w1.alloc (.cells #[.int .u64 5, .int .i64 (hiW 3), .int .u64 (loW 3), .int .u64 2, .int .i64 2] 36)) w1.heap.size (Mu.mk 5 3 2 2).cells) := hid (Cs.alloc_new6 w1 _ (Mu.mk 5 3 2 2).cells)
  clear hb ha HB0 HR
  go_wp2_with fail
  generalize (w1.alloc (.cells #[.int .u64 5, .int .i64 (hiW 3), .int .u64 (loW 3), .int .u64 2, .int .i64 2] 36)) = W1 at HB1 HC1 ⊢
  generalize w1.heap.size = g at HC1 ⊢
  refine (Mean.floor ⟨5, 3, 2, 2⟩ (by unfold Mu.In WR; refine ⟨⟨?_, ?_⟩, ⟨?_, ?_⟩, ⟨?_, ?_⟩, ?_, ?_⟩ <;> decide) _).mono ?_
  rw [ex8f]
  rintro e w2 ⟨rfl, hb⟩
  have HB2 := hid (below_on HB1.out hb)
  have HC2 := hid (HC1.out.below hb)
  clear hb HB1 HC1
  go_wp2_with fail
  refine (Law7.Awake _).mono ?_
  rintro e w3 ⟨rfl, hb⟩
  have HB3 := hid (below_on HB2.out hb)
  have HC3 := hid (HC2.out.below hb)
  clear hb HB2 HC2
  obtain ⟨m0, m1, m2, m3, m4⟩ := Mu.at _ HC3.out
  go_wp2_with fail
  refine (Wide.string (hiW 3) (loW 3) 3 (isW_of (by unfold WR; omega)) _ (HT.out.at2 HB3.out)).mono ?_
  rw [ex8t]
  rintro e w4 ⟨rfl, hb⟩
  have HB4 := hid (below_on HB3.out hb)
  have HC4 := hid (HC3.out.below hb)
  clear hb HB3 HC3 m0 m1 m2 m3 m4
  obtain ⟨m0, m1, m2, m3, m4⟩ := Mu.at _ HC4.out
  go_wp2_with fail
  go_ret
  exact ⟨rfl, HB4.out⟩
theorem Law8.Awake (w : World) (htab : Tab10 w.heap.size w) : Calls Tryz.prog 68 #[] w (Ans (.bool true) w) := by
  go_enter Tryz.func68, Tryz.ntmps68
  go_wp2_with (go_at_call 16; refine (Law8.awake _ htab).mono ?_; rintro e w' ⟨rfl, hb⟩)
  go_ret
  exact ⟨rfl, hb⟩
end

/- MeanShifts: the walk. -/
section
open Go.RowKit

theorem take_mapP {f : P3 → P3} {l : List P3} {k : Nat} (hk : k < l.length) : (l.take (k + 1)).map f = (l.take k).map f ++ [f (l.getD k (0, 0, 0))] := by
  have e : l.getD k (0, 0, 0) = l[k] := by simp [List.getD, hk]
  rw [List.take_succ_eq_append_getElem hk, List.map_append, e]; rfl
/-- Two means, and what is told of them, as the last line asks. -/
def ShF (base d : Int) (A B : Bool × Mu) : Prop :=
  ∃ (ok : Bool) (b1 b2 a v n : Int) (f : Bool) (x y : Int), A = (ok, ⟨b1, a, v, n⟩) ∧ B = (ok, ⟨b2, a, v, n⟩) ∧ Mu.fl ⟨b1, a, v, n⟩ = (f, x) ∧ Mu.fl ⟨b2, a, v, n⟩ = (f, y) ∧ (f = true → y = IntKind.u64.wrap (x + d)) ∧ (ok = true → b2 = IntKind.u64.wrap (b1 + d))
theorem shF (base d : Int) {l : List P3} (hl : ∀ q ∈ l, PIn q) : ShF base d (Mu.of base l) (Mu.of (IntKind.u64.wrap (base + d)) (l.map (shP d))) := by
  obtain ⟨h1, h2, h3, h4, h5, h6⟩ := of_sh base d hl
  obtain ⟨g1, g2⟩ := fl_sh base d hl
  generalize Mu.of base l = A at *
  generalize Mu.of (IntKind.u64.wrap (base + d)) (l.map (shP d)) = B at *
  obtain ⟨oa, b1, a, v, n⟩ := A
  obtain ⟨ob, b2, a2, v2, n2⟩ := B
  simp only at h1 h2 h3 h4
  subst h1 h2 h3 h4
  refine ⟨oa, b1, b2, a, v, n, (Mu.fl ⟨b1, a, v, n⟩).1, (Mu.fl ⟨b1, a, v, n⟩).2, (Mu.fl ⟨b2, a, v, n⟩).2, rfl, rfl, rfl, ?_, g2, fun h => ?_⟩
  · exact Prod.ext g1.symm rfl
  · obtain ⟨e1, e2⟩ := h5 h
    simp only at e1 e2
    rw [e1, e2]

set_option maxHeartbeats 1000000 in
theorem Mshifts.away (base d : Int) (A : Option Addr) (n c : Nat) (w : World) (hn : 40 < n) (htab : Tab10 w.heap.size w) :
    Calls Tryz.prog 5 #[.int .u64 base, .int .u64 d, .slice A n c] w (Ans (.bool true) w) := by
  have h2 : (40 : Int) < (n : Int) := by omega
  have HT := hid htab
  clear hn htab
  go_enter Tryz.func5, Tryz.ntmps5
  go_wp2_with fail
  refine (Law8.awake _ HT.out).mono ?_
  rintro e w1 ⟨rfl, hb1⟩
  go_wp2_with fail
  go_ret
  exact ⟨rfl, hb1⟩

set_option maxRecDepth 100000 in
set_option maxHeartbeats 8000000 in
theorem Mshifts.core (base d : Int) (hb0 : IsT base) (A : Option Addr) (n c : Nat) (l : List P3) (w : World) (hr : RdP w A n l) (hl : ∀ q ∈ l, PIn q) (hn : n ≤ 40) (htab : Tab10 w.heap.size w) :
    Calls Tryz.prog 5 #[.int .u64 base, .int .u64 d, .slice A n c] w (Ans (.bool true) w) := by
  have HT := hid htab
  have HR := hid hr
  have HL := hid hl
  have HB0 := hid hb0
  have HLN := hid hr.1
  have hn1 : ¬ (40 : Int) < (n : Int) := by omega
  clear hr hl htab hb0
  go_enter Tryz.func5, Tryz.ntmps5
  go_wp2_with fail
  refine (Law8.awake _ HT.out).mono ?_
  rintro e w1 ⟨rfl, hb⟩
  have HB1 := hid hb
  clear hb
  go_wp2_with fail
  go_loopg [8, 27] n (fun s a8 i wr => ∃ (k : Nat) (A1 : Option Addr) (c1 : Nat), a8 = .slice A1 k c1 ∧ i = .int .i64 k ∧ k ≤ n ∧ s = n - k ∧ OwnP wr w.heap.size A1 k c1 ((l.take k).map (shP d)) ∧ Below w.heap.size w wr)
  case atStart => exact ⟨0, none, 0, rfl, rfl, Nat.zero_le _, by omega, by simpa using OwnP.nil _ _, HB1.out⟩
  case round =>
    obtain ⟨k, A1, c1, rfl, rfl, hk, hs, ho, hb⟩ := hrel
    have HS := hid hs
    have HO := hid ho
    have HB := hid hb
    clear hs ho hb HB1
    by_cases hkn : k < n
    · obtain ⟨bb, off, hA, _, hc⟩ := (HR.out.below HB.out).2 0 (by omega)
      obtain ⟨p0, p1, p2⟩ := hc k hkn
      have HTK := hid (take_mapP (f := shP d) (l := l) (k := k) (by have := HLN.out; omega))
      generalize l.getD k (0, 0, 0) = x at *
      subst hA
      have hki : (k : Int) < n := by omega
      have hk1 : k ≤ 1000000 := by omega
      clear hc
      have ha := (Below.refl wr.heap.size wr).alloc (Nat.le_refl _) (.cells #[.int .u64 x.1, .int .u32 x.2.1, .int .u32 x.2.2] 29)
      have HO1 := hid (HO.out.below ha)
      have HBa := hid (below_on HB.out ha)
      clear ha
      go_wp2_with fail
      refine (Pos.shiftF x d _).mono ?_
      rintro e w3 ⟨rfl, hb⟩
      have ha := (Below.refl w3.heap.size w3).alloc (Nat.le_refl _) (.cells #[.int .u64 (shP d x).1, .int .u32 (shP d x).2.1, .int .u32 (shP d x).2.2] 29)
      have hOW := (HO1.out.below hb).below ha
      have HB3 := hid (below_on (below_on HBa.out hb) ha)
      have hTP : Tp (w3.alloc (.cells #[.int .u64 (shP d x).1, .int .u32 (shP d x).2.1, .int .u32 (shP d x).2.2] 29)) w3.heap.size (shP d x) := Tp.new w3 29 (shP d x)
      have hbs := HB3.out.size
      clear hb ha p0 p1 p2 HO1 HBa
      go_wp2_with (first
        | (at_builtin; (with_reducible refine wpList_append_pos _ rfl (.tmp 31) (.tmp 35) rfl w.heap.size A1 k c1 ((l.take k).map (shP d)) ?a1 hOW w3.heap.size (shP d x) ?a2 hTP hk1 hbs ?a3); (case a1 => rfl); (case a2 => rfl); (intro A3 c3 w4 ho3 hc3 hr3); (have HO4 := hid ho3); (have HB4 := hid (Below.chg HB3.out hc3 (fun q hq => (hOW.rowGe q hq).1))); (clear ho3 hc3 hr3 hTP hOW hbs))
        | fail)
      go_roundg (n - (k + 1))
      case measure => have := HS.out; omega
      case rel => exact ⟨k + 1, A3, c3, rfl, by go_num, by omega, rfl, by rw [HTK.out]; exact HO4.out, HB4.out⟩
    · obtain rfl : k = n := by omega
      have hki : ¬ (k : Int) < k := by omega
      have ho := HO.out
      rw [List.take_of_length_le (by have := HLN.out; omega)] at ho
      have HO1 := hid ho
      have HP2 : Hid (∀ q ∈ l.map (shP d), PIn q) := hid (fun q hq => by
        obtain ⟨p, hp, rfl⟩ := List.mem_map.1 hq
        exact shP_in d (HL.out p hp))
      have HI1 := hid (of_in (base := base) (l := l) HB0.out HL.out)
      have HW2 : Hid (IsT (IntKind.u64.wrap (base + d))) := hid (by unfold IsT; rw [IntKind.wrap_u64]; omega)
      have HI2 := hid (of_in (base := IntKind.u64.wrap (base + d)) (l := l.map (shP d)) HW2.out HP2.out)
      have HSF := hid (shF base d HL.out)
      clear ho HO HS
      go_wp2_with fail
      refine (Mean.of base HB0.out A k c l _ (HR.out.below HB.out) HL.out (by omega)).mono ?_
      rintro e w4 ⟨rfl, hb⟩
      have ha := (Below.refl w4.heap.size w4).alloc (Nat.le_refl _) (.cells #[.int .u64 (Mu.of base l).2.b, .int .i64 (hiW (Mu.of base l).2.a), .int .u64 (loW (Mu.of base l).2.a), .int .u64 (Mu.of base l).2.w, .int .i64 (Mu.of base l).2.n] 36)
      have HO4 := hid ((HO1.out.below hb).below ha)
      have HG4 := hid (And.intro (Cs.alloc_new6 w4 36 (Mu.of base l).2.cells) (below_on (below_on HB.out hb) ha))
      clear hb ha HO1 HB
      go_wp2_with fail
      refine (Mean.of (IntKind.u64.wrap (base + d)) HW2.out A1 k c1 (l.map (shP d)) _ HO4.out.rdp HP2.out (by omega)).mono ?_
      rintro e w5 ⟨rfl, hb⟩
      have ha := (Below.refl w5.heap.size w5).alloc (Nat.le_refl _) (.cells #[.int .u64 (Mu.of (IntKind.u64.wrap (base + d)) (l.map (shP d))).2.b, .int .i64 (hiW (Mu.of (IntKind.u64.wrap (base + d)) (l.map (shP d))).2.a), .int .u64 (loW (Mu.of (IntKind.u64.wrap (base + d)) (l.map (shP d))).2.a), .int .u64 (Mu.of (IntKind.u64.wrap (base + d)) (l.map (shP d))).2.w, .int .i64 (Mu.of (IntKind.u64.wrap (base + d)) (l.map (shP d))).2.n] 36)
      have HG5 : Hid (Cs (w5.alloc (.cells #[.int .u64 (Mu.of (IntKind.u64.wrap (base + d)) (l.map (shP d))).2.b, .int .i64 (hiW (Mu.of (IntKind.u64.wrap (base + d)) (l.map (shP d))).2.a), .int .u64 (loW (Mu.of (IntKind.u64.wrap (base + d)) (l.map (shP d))).2.a), .int .u64 (Mu.of (IntKind.u64.wrap (base + d)) (l.map (shP d))).2.w, .int .i64 (Mu.of (IntKind.u64.wrap (base + d)) (l.map (shP d))).2.n] 36)) w4.heap.size (Mu.of base l).2.cells ∧ Cs (w5.alloc (.cells #[.int .u64 (Mu.of (IntKind.u64.wrap (base + d)) (l.map (shP d))).2.b, .int .i64 (hiW (Mu.of (IntKind.u64.wrap (base + d)) (l.map (shP d))).2.a), .int .u64 (loW (Mu.of (IntKind.u64.wrap (base + d)) (l.map (shP d))).2.a), .int .u64 (Mu.of (IntKind.u64.wrap (base + d)) (l.map (shP d))).2.w, .int .i64 (Mu.of (IntKind.u64.wrap (base + d)) (l.map (shP d))).2.n] 36)) w5.heap.size (Mu.of (IntKind.u64.wrap (base + d)) (l.map (shP d))).2.cells ∧ Below w.heap.size w (w5.alloc (.cells #[.int .u64 (Mu.of (IntKind.u64.wrap (base + d)) (l.map (shP d))).2.b, .int .i64 (hiW (Mu.of (IntKind.u64.wrap (base + d)) (l.map (shP d))).2.a), .int .u64 (loW (Mu.of (IntKind.u64.wrap (base + d)) (l.map (shP d))).2.a), .int .u64 (Mu.of (IntKind.u64.wrap (base + d)) (l.map (shP d))).2.w, .int .i64 (Mu.of (IntKind.u64.wrap (base + d)) (l.map (shP d))).2.n] 36))) := hid (And.intro ((show Cs _ w4.heap.size (Mu.of base l).2.cells from HG4.out.1).below hb |>.below ha) (And.intro (Cs.alloc_new6 w5 36 (Mu.of (IntKind.u64.wrap (base + d)) (l.map (shP d))).2.cells) (below_on (below_on HG4.out.2 hb) ha)))
      clear hb ha HG4 HO4 HP2 HR HLN
      obtain ⟨m0, m1, m2, m3, m4⟩ := Mu.at _ HG5.out.1
      go_wp2_with fail
      generalize (w5.alloc (.cells #[.int .u64 (Mu.of (IntKind.u64.wrap (base + d)) (l.map (shP d))).2.b, .int .i64 (hiW (Mu.of (IntKind.u64.wrap (base + d)) (l.map (shP d))).2.a), .int .u64 (loW (Mu.of (IntKind.u64.wrap (base + d)) (l.map (shP d))).2.a), .int .u64 (Mu.of (IntKind.u64.wrap (base + d)) (l.map (shP d))).2.w, .int .i64 (Mu.of (IntKind.u64.wrap (base + d)) (l.map (shP d))).2.n] 36)) = W5 at *
      clear m0 m1 m2 m3 m4
      generalize Mu.of base l = P1 at *
      generalize Mu.of (IntKind.u64.wrap (base + d)) (l.map (shP d)) = P2 at *
      obtain ⟨ok, b1, b2, a, v, m, f, x, y, e1, e2, e3, e4, e5, e6⟩ := HSF.out
      subst e1 e2
      clear HSF
      have E3 := hid e3
      have E4 := hid e4
      have E5 := hid e5
      have E6 := hid e6
      clear e3 e4 e5 e6
      generalize hg1 : w4.heap.size = g1 at *
      generalize hg2 : w5.heap.size = g2 at *
      clear hg1 hg2
      refine (Mean.floor ⟨b1, a, v, m⟩ HI1.out _).mono ?_
      rw [E3.out]
      rintro e w6 ⟨rfl, hb⟩
      have HG6 := hid (And.intro (HG5.out.1.below hb) (And.intro (HG5.out.2.1.below hb) (below_on HG5.out.2.2 hb)))
      clear hb HG5
      obtain ⟨m0, m1, m2, m3, m4⟩ := Mu.at _ HG6.out.2.1
      go_wp2_with fail
      refine (Mean.floor ⟨b2, a, v, m⟩ HI2.out _).mono ?_
      rw [E4.out]
      rintro e w7 ⟨rfl, hb⟩
      have HG7 := hid (And.intro (HG6.out.1.below hb) (And.intro (HG6.out.2.1.below hb) (below_on HG6.out.2.2 hb)))
      clear hb m0 m1 m2 m3 m4 HG6
      obtain ⟨m0, m1, m2, m3, m4⟩ := Mu.at _ HG7.out.1
      obtain ⟨k0, k1, k2, k3, k4⟩ := Mu.at _ HG7.out.2.1
      dsimp only at m0 m1 m2 m3 m4 k0 k1 k2 k3 k4
      cases f with
      | false =>
        cases ok with
        | false =>
          go_wp2_with fail
          go_ret
          exact ⟨rfl, HG7.out.2.2⟩
        | true =>
          obtain rfl := E6.out rfl
          go_wp2_with fail
          go_ret
          exact ⟨rfl, HG7.out.2.2⟩
      | true =>
        obtain rfl := E5.out rfl
        cases ok with
        | false =>
          go_wp2_with fail
          go_ret
          exact ⟨rfl, HG7.out.2.2⟩
        | true =>
          obtain rfl := E6.out rfl
          go_wp2_with fail
          go_ret
          exact ⟨rfl, HG7.out.2.2⟩
theorem Mshifts.law (base d : Int) (A : Option Addr) (n c : Nat) (l : List P3) (w : World) (w0 : (Lit.int .u64 base).wf = true) (_w1 : (Lit.int .u64 d).wf = true) (h : RdP w A n l ∧ InP l ∧ n ≤ 9223372036854775807) (htab : Tab10 w.heap.size w) :
    Calls Tryz.prog 5 #[.int .u64 base, .int .u64 d, .slice A n c] w fun e w' => e = .returned (.bool true) ∧ Below w.heap.size w w' := by
  by_cases hn : 40 < n
  · exact Mshifts.away base d A n c w hn htab
  · exact Mshifts.core base d (bounds_u64 w0) A n c l w h.1 (fun q hq => h.2.1 q hq) (by omega) htab
end

end Go.Proofs.YtoioeginfhkjjaaGreatDoor

/- The contracts of the package span. -/
import Derived.Test.YtkddkllepbhnhaaGreatDoorSpanBasesZ31
import Derived.Test.YtkddkllepbhnhaaGreatDoorSpanBasesZ33
import Derived.Test.YtkddkllepbhnhaaGreatDoorItV
namespace Go.Proofs.YtkddkllepbhnhaaGreatDoor
open Go.RowKit
set_option maxHeartbeats 2000000 in
theorem Span.within (base : Int) (A : Option Addr) (n c : Nat) (l : List It) (w : World) (hr : RdI w A n l) (hn : n ≤ 1000000) :
    Calls Tryz.prog 43 #[.int .u64 base, .slice A n c] w (Ans (.bool (withinI base l)) w) := by
  have HR := hid hr
  clear hr
  go_enter Tryz.func43, Tryz.ntmps43
  go_wp2_with fail
  refine (Item.spread base A n c l _ HR.out hn).mono ?_
  rintro e w1 ⟨rfl, hb⟩
  have HB := hid hb
  clear hb
  go_wp2_with fail
  go_ret
  exact ⟨rfl, HB.out⟩
theorem room_wrap (base : Int) (l : List It) : IntKind.u64.wrap (4611686018427387904 - min (spreadI base l) 4611686018427387904) = roomI base l := by
  have := room_bd base l
  unfold roomI at *
  rw [IntKind.wrap_u64]; omega
set_option maxHeartbeats 2000000 in
theorem Span.room (base : Int) (A : Option Addr) (n c : Nat) (l : List It) (w : World) (hr : RdI w A n l) (hn : n ≤ 1000000) :
    Calls Tryz.prog 46 #[.int .u64 base, .slice A n c] w (Ans (.int .u64 (roomI base l)) w) := by
  have HR := hid hr
  have E := hid (room_wrap base l)
  clear hr
  go_enter Tryz.func46, Tryz.ntmps46
  go_wp2_with fail
  refine (Item.spread base A n c l _ HR.out hn).mono ?_
  rintro e w1 ⟨rfl, hb⟩
  have HB := hid hb
  clear hb
  by_cases h : spreadI base l < 4611686018427387904
  · have e1 : min (spreadI base l) 4611686018427387904 = spreadI base l := by omega
    have E1 := hid e1
    clear e1
    go_wp2_with fail
    go_ret
    exact ⟨by rw [← E.out, E1.out]; rfl, HB.out⟩
  · have e1 : min (spreadI base l) 4611686018427387904 = 4611686018427387904 := by omega
    have E1 := hid e1
    clear e1
    go_wp2_with fail
    go_ret
    exact ⟨by rw [← E.out, E1.out]; rfl, HB.out⟩
theorem take_pp {l : List It} {k : Nat} (hk : k < l.length) : (l.take (k + 1)).map It.pp = (l.take k).map It.pp ++ [(l.getD k It.zero).pp] := by
  have e : l.getD k It.zero = l[k] := by simp [List.getD, hk]
  rw [List.take_succ_eq_append_getElem hk, List.map_append, e]; rfl
set_option maxHeartbeats 2000000 in
theorem Span.anchor_none (A : Option Addr) (c : Nat) (w : World) : Calls Tryz.prog 40 #[.slice A 0 c] w (Ans (.tuple #[.int .u64 0, .bool false]) w) := by
  go_enter Tryz.func40, Tryz.ntmps40
  go_wp2_with fail
  go_ret2
  exact ⟨rfl, Below.refl _ _⟩
set_option maxRecDepth 100000 in
set_option maxHeartbeats 8000000 in
theorem Span.anchor_some (A : Option Addr) (n c : Nat) (l : List It) (w : World) (hr : RdI w A n l) (hl : InI l) (h0 : 0 < n) (hn : n ≤ 1000000) :
    Calls Tryz.prog 40 #[.slice A n c] w (Ans (.tuple #[.int .u64 (anchorI l).2, .bool (anchorI l).1]) w) := by
  have HR := hid hr
  have HL := hid hl
  have HLN := hid hr.1
  have hni : (n : Int) ≤ 1000000 := by omega
  have hn0 : (n : Int) ≠ 0 := by omega
  have c0 : ((n : Int) == 0) = false := by rw [beq_eq_false_iff_ne]; exact hn0
  have hn1 : (0 : Int) < n := by omega
  have HT := hid (show IsT (l.getD 0 It.zero).t from (hl.get (by have := hr.1; omega)).1)
  have HP : Hid (∀ q ∈ l.map It.pp, PIn q) := hid (fun q hq => by
    obtain ⟨x, hx, rfl⟩ := List.mem_map.1 hq
    have := hl x hx
    exact ⟨this.1, this.2.1, this.2.2.1⟩)
  clear hr hl
  go_enter Tryz.func40, Tryz.ntmps40
  go_wp2_with fail
  go_loopg [4, 14] n (fun s a5 i wr => ∃ (k : Nat) (A1 : Option Addr) (c1 : Nat), a5 = .slice A1 k c1 ∧ i = .int .i64 k ∧ k ≤ n ∧ s = n - k ∧ OwnP wr w.heap.size A1 k c1 ((l.take k).map It.pp) ∧ Below w.heap.size w wr)
  case atStart => exact ⟨0, none, 0, rfl, rfl, Nat.zero_le _, by omega, by simpa using OwnP.nil _ _, Below.refl _ _⟩
  case round =>
    obtain ⟨k, A1, c1, rfl, rfl, hk, hs, ho, hb⟩ := hrel
    have HS := hid hs
    have HO := hid ho
    have HB := hid hb
    clear hs ho hb
    obtain ⟨bb, off, hA, _, hc⟩ := (HR.out.below HB.out).2 0 (by omega)
    by_cases hkn : k < n
    · obtain ⟨p0, p1, p2, p3, p4, p5, p6⟩ := hc k hkn
      have HTK := hid (take_pp (l := l) (k := k) (by have := HLN.out; omega))
      generalize l.getD k It.zero = x at *
      subst hA
      have hki : (k : Int) < n := by omega
      have hk0 : (0 : Int) ≤ k := by omega
      clear hc
      have ha1 := (Below.refl wr.heap.size wr).alloc (Nat.le_refl _) (.cells #[.int .u64 x.t, .int .u32 x.r, .int .u32 x.v, .int .i64 x.i, .int .u64 x.u, .int .u32 x.s, .int .u32 x.y] 86)
      have ha2 := ha1.alloc (by simp) (.cells #[.int .u64 x.t, .int .u32 x.r, .int .u32 x.v] 29)
      have HB2 := hid (below_on HB.out ha2)
      have hOW := HO.out.below ha2
      have hTP : Tp ((wr.alloc (.cells #[.int .u64 x.t, .int .u32 x.r, .int .u32 x.v, .int .i64 x.i, .int .u64 x.u, .int .u32 x.s, .int .u32 x.y] 86)).alloc (.cells #[.int .u64 x.t, .int .u32 x.r, .int .u32 x.v] 29)) (wr.heap.size + 1) x.pp := by
        have := Tp.new (wr.alloc (.cells #[.int .u64 x.t, .int .u32 x.r, .int .u32 x.v, .int .i64 x.i, .int .u64 x.u, .int .u32 x.s, .int .u32 x.y] 86)) 29 x.pp
        simp only [World.size_alloc] at this
        exact this
      have hk1 : k ≤ 1000000 := by omega
      have hbs := HB2.out.size
      clear ha1 ha2
      go_wp2_with (first
        | (at_builtin; (with_reducible refine wpList_append_pos _ rfl (.tmp 18) (.tmp 21) rfl w.heap.size A1 k c1 ((l.take k).map It.pp) ?a1 hOW (wr.heap.size + 1) x.pp ?a2 hTP hk1 hbs ?a3); (case a1 => rfl); (case a2 => rfl); (intro A3 c3 w3 ho3 hc3 hr3); (have HO3 := hid ho3); (have HB3 := hid (Below.chg HB2.out hc3 (fun q hq => (hOW.rowGe q hq).1))); (clear ho3 hc3 hr3 hTP hOW hbs p0 p1 p2 p3 p4 p5 p6))
        | fail)
      go_roundg (n - (k + 1))
      case measure => have := HS.out; omega
      case rel => exact ⟨k + 1, A3, c3, rfl, by go_num, by omega, rfl, by rw [HTK.out]; exact HO3.out, HB3.out⟩
    · obtain rfl : k = n := by omega
      have hki : ¬ (k : Int) < k := by omega
      have ho := HO.out
      rw [List.take_of_length_le (by have := HLN.out; omega)] at ho
      have HO1 := hid ho
      have HE : Hid (anchorI l = if (Mu.of (l.getD 0 It.zero).t (l.map It.pp)).1 = true then (Mu.of (l.getD 0 It.zero).t (l.map It.pp)).2.fl else (false, 0)) := hid (by
        unfold anchorI; rw [if_neg (by have := HLN.out; omega)])
      have HIN := hid (of_in (base := (l.getD 0 It.zero).t) (l := l.map It.pp) HT.out HP.out)
      obtain ⟨p0, p1, p2, p3, p4, p5, p6⟩ := hc 0 (by omega)
      rw [show off + 0 * 7 = off by omega] at p0 p1 p2 p3 p4 p5 p6
      generalize l.getD 0 It.zero = x at *
      subst hA
      clear ho HO hc
      go_wp2_with fail
      refine (Mean.of x.t HT.out A1 k c1 (l.map It.pp) _ HO1.out.rdp HP.out (by omega)).mono ?_
      rintro e w1 ⟨rfl, hb⟩
      have HB1 := hid (below_on HB.out hb)
      clear hb p0 p1 p2 p3 p4 p5 p6 HO1 HB
      generalize Mu.of x.t (l.map It.pp) = M at *
      obtain ⟨ok, m⟩ := M
      have HM := hid (show m.In from HIN.out)
      have HC1 := hid (Cs.alloc_new6 w1 36 m.cells)
      have HB2 := hid (below_on HB1.out ((Below.refl w1.heap.size w1).alloc (Nat.le_refl _) (.cells #[.int .u64 m.b, .int .i64 (hiW m.a), .int .u64 (loW m.a), .int .u64 m.w, .int .i64 m.n] 36)))
      clear HIN
      cases ok with
      | false =>
        go_wp2_with fail
        go_ret2
        exact ⟨by rw [HE.out, if_neg (show ¬ ((false, m) : Bool × Mu).1 = true by simp)]; rfl, HB2.out⟩
      | true =>
        obtain ⟨m0, m1, m2, m3, m4⟩ := Mu.at _ HC1.out
        simp only [Mu.cells] at m0 m1 m2 m3 m4
        go_wp2_with fail
        refine (Mean.floor m HM.out _).mono ?_
        rintro e w2 ⟨rfl, hb⟩
        have HB3 := hid (below_on HB2.out hb)
        clear hb
        go_wp2_with fail
        go_ret2
        exact ⟨by rw [HE.out]; rfl, HB3.out⟩
theorem Span.anchor (A : Option Addr) (n c : Nat) (l : List It) (w : World) (hr : RdI w A n l) (hl : InI l) (hn : n ≤ 1000000) :
    Calls Tryz.prog 40 #[.slice A n c] w (Ans (.tuple #[.int .u64 (anchorI l).2, .bool (anchorI l).1]) w) := by
  rcases Nat.eq_zero_or_pos n with h | h
  · subst h
    have e : l = [] := List.eq_nil_of_length_eq_zero hr.1
    subst e
    exact Span.anchor_none A c w
  · exact Span.anchor_some A n c l w hr hl h hn
/-- The chapter's examples. -/
theorem ex13 : roomI 0 [] = 4611686018427387904 ∧ withinI 0 [⟨0, 0, 0, 0, 4611686018427387905, 0, 0⟩] = false := by constructor <;> decide
end Go.Proofs.YtkddkllepbhnhaaGreatDoor

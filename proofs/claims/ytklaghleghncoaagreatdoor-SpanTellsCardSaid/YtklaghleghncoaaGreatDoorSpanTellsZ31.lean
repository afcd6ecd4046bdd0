/- Texts of SpanTells's proof, together. -/
import Derived.Test.YtklaghleghncoaaGreatDoorSpanTellsZ19
import Derived.Test.YtklaghleghncoaaGreatDoorSpanTellsZ28
import Derived.Test.YtklaghleghncoaaGreatDoorSpanTellsZ30
import Derived.Test.YtklaghleghncoaaGreatDoorRbM
import Derived.Test.YtklaghleghncoaaGreatDoorSpanTellsZ22
import Derived.Deep.AppendLies
namespace Go.Proofs.YtklaghleghncoaaGreatDoor
/- How far items lie apart. -/
section
open Go.RowKit
abbrev It.pp (x : It) : Int × Int × Int := (x.t, x.r, x.v)
abbrev It.dp (x : It) : Int × Int × Int := (x.u, x.s, x.y)
def spreadI (base : Int) (l : List It) : Int := IntKind.u64.wrap (IntKind.u64.wrap (max (hiL base (l.map It.pp)) (hiL base (l.map It.dp))) - IntKind.u64.wrap (loL base (l.map It.pp)))
/-- Two slices of positions that grow by turns. -/
def Tw (w : World) (A : Option Addr) (n c : Nat) (L : List (Int × Int × Int)) (B : Option Addr) (m d : Nat) (M : List (Int × Int × Int)) (wr : World) : Prop :=
  OwnP wr w.heap.size A n c L ∧ OwnP wr w.heap.size B m d M ∧ (∀ q ∈ rowOf A, q ∉ rowOf B) ∧ Below w.heap.size w wr
theorem Tw.below {w w1 w2 : World} {A B : Option Addr} {n c m d : Nat} {L M : List (Int × Int × Int)} (h : Tw w A n c L B m d M w1) (hb : Below w1.heap.size w1 w2) : Tw w A n c L B m d M w2 := ⟨h.1.below hb, h.2.1.below hb, h.2.2.1, below_on h.2.2.2 hb⟩
theorem Tw.flip {w w1 : World} {A B : Option Addr} {n c m d : Nat} {L M : List (Int × Int × Int)} (h : Tw w A n c L B m d M w1) : Tw w B m d M A n c L w1 := ⟨h.2.1, h.1, fun q hq hq' => h.2.2.1 q hq' hq, h.2.2.2⟩
theorem Tw.grow {w w1 w2 : World} {A B A' : Option Addr} {n c c' m d : Nat} {L M : List (Int × Int × Int)} {x : Int × Int × Int} (h : Tw w A n c L B m d M w1) (ho : OwnP w2 w.heap.size A' (n + 1) c' (L ++ [x])) (hc : Chg (rowOf A) w1 w2) (hr : ∀ k ∈ rowOf A', k ∈ rowOf A ∨ w1.heap.size ≤ k) : Tw w A' (n + 1) c' (L ++ [x]) B m d M w2 :=
  ⟨ho, h.2.1.chg hc (fun k hk hk' => h.2.2.1 k hk' hk), fun q hq hq' => by
    rcases hr q hq with h1 | h1
    · exact h.2.2.1 q h1 hq'
    · have := (h.2.1.rowGe q hq').2; omega, Below.chg h.2.2.2 hc (fun k hk => (h.1.rowGe k hk).1)⟩
set_option maxRecDepth 100000 in
set_option maxHeartbeats 8000000 in
theorem Item.spread (base : Int) (A : Option Addr) (n c : Nat) (l : List It) (w : World) (hr : RdI w A n l) (hn : n ≤ 1000000) :
    Calls Tryz.prog 73 #[.int .u64 base, .slice A n c] w (Ans (.int .u64 (spreadI base l)) w) := by
  have HR := hid hr
  have hni : (n : Int) ≤ 1000000 := by omega
  clear hr
  go_enter Tryz.func73, Tryz.ntmps73
  go_wp2_with fail
  go_loopg [5, 6, 15] n (fun s a5 a6 i wr => ∃ (k : Nat) (A1 : Option Addr) (c1 : Nat) (A2 : Option Addr) (c2 : Nat), a5 = .slice A1 k c1 ∧ a6 = .slice A2 k c2 ∧ i = .int .i64 k ∧ k ≤ n ∧ s = n - k ∧ Tw w A1 k c1 ((l.take k).map It.pp) A2 k c2 ((l.take k).map It.dp) wr)
  case atStart => exact ⟨0, none, 0, none, 0, rfl, rfl, rfl, Nat.zero_le _, by omega, by simpa using OwnP.nil _ _, by simpa using OwnP.nil _ _, (fun q hq => by simp [rowOf] at hq), Below.refl _ _⟩
  case round =>
    obtain ⟨k, A1, c1, A2, c2, rfl, rfl, rfl, hk, hs, ht⟩ := hrel
    have HS := hid hs
    have HT := hid ht
    clear hs ht
    by_cases hkn : k < n
    · obtain ⟨bb, off, hA, _, hc⟩ := (HR.out.below HT.out.2.2.2).2 0 (by omega)
      obtain ⟨p0, p1, p2, p3, p4, p5, p6⟩ := hc k hkn
      have HTK : Hid (l.take (k + 1) = l.take k ++ [l.getD k It.zero]) := hid (by
        have hkl : k < l.length := by have := HR.out.1; omega
        rw [List.take_succ_eq_append_getElem hkl]; simp [List.getD, hkl])
      generalize l.getD k It.zero = x at *
      subst hA
      have hki : (k : Int) < n := by omega
      have hk0 : (0 : Int) ≤ k := by omega
      clear hc
      have ha1 := (Below.refl wr.heap.size wr).alloc (Nat.le_refl _) (.cells #[.int .u64 x.t, .int .u32 x.r, .int .u32 x.v, .int .i64 x.i, .int .u64 x.u, .int .u32 x.s, .int .u32 x.y] 76)
      have ha2 := ha1.alloc (by simp) (.cells #[.int .u64 x.t, .int .u32 x.r, .int .u32 x.v] 29)
      have HT2 := hid (HT.out.below ha2)
      have HX2 : Hid (Th ((wr.alloc (.cells #[.int .u64 x.t, .int .u32 x.r, .int .u32 x.v, .int .i64 x.i, .int .u64 x.u, .int .u32 x.s, .int .u32 x.y] 76)).alloc (.cells #[.int .u64 x.t, .int .u32 x.r, .int .u32 x.v] 29)) wr.heap.size x) := hid ((Cs.new7 wr 76 x).alloc _).th7
      have hTP : Tp ((wr.alloc (.cells #[.int .u64 x.t, .int .u32 x.r, .int .u32 x.v, .int .i64 x.i, .int .u64 x.u, .int .u32 x.s, .int .u32 x.y] 76)).alloc (.cells #[.int .u64 x.t, .int .u32 x.r, .int .u32 x.v] 29)) (wr.heap.size + 1) x.pp := by
        have := Tp.new (wr.alloc (.cells #[.int .u64 x.t, .int .u32 x.r, .int .u32 x.v, .int .i64 x.i, .int .u64 x.u, .int .u32 x.s, .int .u32 x.y] 76)) 29 x.pp
        simp only [World.size_alloc] at this
        exact this
      have hOW := HT2.out.1
      have hk1 : k ≤ 1000000 := by omega
      have hbs := HT2.out.2.2.2.size
      clear ha1 ha2
      go_wp2_with (first
        | (at_builtin; (with_reducible refine wpList_append_pos _ rfl (.tmp 19) (.tmp 22) rfl w.heap.size A1 k c1 ((l.take k).map It.pp) ?a1 hOW (wr.heap.size + 1) x.pp ?a2 hTP hk1 hbs ?a3); (case a1 => rfl); (case a2 => rfl); (intro A3 c3 w3 ho3 hc3 hr3); (have HX3 := hid (HX2.out.chg hc3 (fun hm => by have := (HT.out.1.rowGe _ hm).2; omega))); (have HT3 := hid (HT2.out.grow ho3 hc3 hr3)); (clear ho3 hc3 hr3 hTP hOW hbs p0 p1 p2 p3 p4 p5 p6); (obtain ⟨q0, q1, q2, q3, q4, q5, q6⟩ := HX3.out); (have hb4 := (Below.refl w3.heap.size w3).alloc (Nat.le_refl _) (.cells #[.int .u64 x.u, .int .u32 x.s, .int .u32 x.y] 29)); (have HT4 := hid (HT3.out.below hb4)); (have hOW4 := HT4.out.2.1); (have hTP4 : Tp (w3.alloc (.cells #[.int .u64 x.u, .int .u32 x.s, .int .u32 x.y] 29)) w3.heap.size x.dp := Tp.new w3 29 x.dp); (have hbs4 := HT4.out.2.2.2.size); (clear hb4))
        | (at_builtin; (with_reducible refine wpList_append_pos _ rfl (.tmp 24) (.tmp 27) rfl w.heap.size A2 k c2 ((l.take k).map It.dp) ?b1 hOW4 w3.heap.size x.dp ?b2 hTP4 hk1 hbs4 ?b3); (case b1 => rfl); (case b2 => rfl); (intro A5 c5 w5 ho5 hc5 hr5); (have HT5 := hid (HT4.out.flip.grow ho5 hc5 hr5).flip); (clear ho5 hc5 hr5 hTP4 hOW4 hbs4 q0 q1 q2 q3 q4 q5 q6))
        | fail)
      go_roundg (n - (k + 1))
      case measure => have := HS.out; omega
      case rel => exact ⟨k + 1, A3, c3, A5, c5, rfl, rfl, by go_num, by omega, rfl, by rw [HTK.out, List.map_append, List.map_append]; exact HT5.out⟩
    · obtain rfl : k = n := by omega
      have hki : ¬ (k : Int) < k := by omega
      have ht := HT.out
      rw [List.take_of_length_le (by have := HR.out.1; omega)] at ht
      have HTF := hid ht
      clear ht HT
      go_wp2_with fail
      refine (Pos.floors base A1 k c1 (l.map It.pp) _ HTF.out.1.rdp (by omega)).mono ?_
      rintro e w1 ⟨rfl, hb⟩
      have HT1 := hid (HTF.out.below hb)
      clear hb
      go_wp2_with fail
      refine (Pos.floors base A2 k c2 (l.map It.dp) _ HT1.out.2.1.rdp (by omega)).mono ?_
      rintro e w2 ⟨rfl, hb⟩
      have HB := hid (below_on HT1.out.2.2.2 hb)
      clear hb
      go_wp2_with fail
      go_ret
      exact ⟨rfl, HB.out⟩
end

/- The tree of items: New. -/
section
open Go.RowKit Go.Shelf
theorem eqDless (f : Fn) (a c : Array Value) (w : World) : (binOp .eql 165 (.func f a c) .nilFunc).run Tryz.prog w = .ok (.bool false) w := run_eql_func_nil w _ f a c Tryz.underlying165
theorem eqDone (f : Fn) (a c : Array Value) (w : World) : (binOp .eql 198 (.func f a c) .nilFunc).run Tryz.prog w = .ok (.bool false) w := run_eql_func_nil w _ f a c Tryz.underlying198
theorem eqDtwo (f : Fn) (a c : Array Value) (w : World) : (binOp .eql 166 (.func f a c) .nilFunc).run Tryz.prog w = .ok (.bool false) w := run_eql_func_nil w _ f a c Tryz.underlying166
theorem eqDin (f : Fn) (a c : Array Value) (w : World) : (binOp .eql 131 (.func f a c) .nilFunc).run Tryz.prog w = .ok (.bool false) w := run_eql_func_nil w _ f a c Tryz.underlying131
/-- What New answers. -/
def DNews (w : World) (e : Ending) (w' : World) : Prop := ∃ th, e = .returned (.pointer (some ⟨th, 0, none⟩)) ∧ w.heap.size ≤ th ∧ DTreeAt w' th .nil ∧ Below w.heap.size w w'
section
attribute [local go_sem] eqDless eqDone eqDtwo
set_option maxRecDepth 100000 in
set_option maxHeartbeats 1000000 in
theorem Dt.new (w : World) :
    Calls Tryz.prog 160 #[(.func (.func 161) #[] #[]), (.func (.func 157) #[] #[]), (.func (.func 158) #[] #[])] w (DNews w) := by
  have HN : Hid (∀ W, W = ((w.alloc (.cells #[(.func (.func 157) #[] #[])] 198)).alloc (.cells #[(.func (.func 158) #[] #[])] 166)) →
      DTreeAt (W.alloc (.cells #[(.func (.func 161) #[] #[]), (.func (.func 158) #[] #[]), (.func (.func 185) #[] #[.pointer (some ⟨w.heap.size, 0, none⟩), .pointer (some ⟨w.heap.size + 1, 0, none⟩)]), .pointer none, .int .i64 0] 170)) (w.heap.size + 2) .nil) := hid (by
    rintro W rfl
    have h1 := Cs.alloc_new w 198 [(.func (.func 157) #[] #[])]
    have h2 := Cs.alloc_new (w.alloc (.cells #[(.func (.func 157) #[] #[])] 198)) 166 [(.func (.func 158) #[] #[])]
    have h3 := Cs.alloc_new ((w.alloc (.cells #[(.func (.func 157) #[] #[])] 198)).alloc (.cells #[(.func (.func 158) #[] #[])] 166)) 170 [(.func (.func 161) #[] #[]), (.func (.func 158) #[] #[]), (.func (.func 185) #[] #[.pointer (some ⟨w.heap.size, 0, none⟩), .pointer (some ⟨w.heap.size + 1, 0, none⟩)]), .pointer none, .int .i64 0]
    simp only [World.size_alloc] at h2 h3
    refine ⟨⟨w.heap.size, w.heap.size + 1, h3, (h1.alloc _).alloc _, h2.alloc _, ?_, ?_, ?_, by omega, by omega⟩, trivial, List.nodup_nil⟩
    · simp [go_sem]
    · simp [go_sem]
    · simp [go_sem])
  go_enter Tryz.func160, Tryz.ntmps160
  go_wp2_with fail
  go_ret
  exact ⟨w.heap.size + 2, rfl, by omega, HN.out _ rfl, (((Below.refl _ _).alloc (Nat.le_refl _) _).alloc (by simp) _).alloc (by simp; omega) _⟩
end
/-- A tree into which these were put, one behind the other. -/
inductive Built : List It → Tr It → Prop
  | nil : Built [] .nil
  | put {l : List It} {t : Tr It} {x : It} {k : Nat} : Built l t → Tr.has It.ahead x t = false → Built (l ++ [x]) ((Tr.put It.ahead k x t).paint false)
  | skip {l : List It} {t : Tr It} {x : It} : Built l t → Tr.has It.ahead x t = true → Built (l ++ [x]) t
theorem Built.len {l : List It} {t : Tr It} (h : Built l t) : t.list.length ≤ l.length := by
  induction h with
  | nil => simp [Tr.list]
  | put _ _ ih => rw [Tr.list_paint, Tr.length_put]; simp; omega
  | skip _ _ ih => simp; omega
/-- A tree of one's own, of these. -/
def Gd (w : World) (th : Nat) (t : Tr It) (w' : World) : Prop := DTreeAt w' th t ∧ w.heap.size ≤ th ∧ (∀ g ∈ t.blocks, w.heap.size ≤ g) ∧ Below w.heap.size w w'
theorem Gd.below {w w1 w2 : World} {th : Nat} {t : Tr It} (h : Gd w th t w1) (hb : Below w1.heap.size w1 w2) : Gd w th t w2 := ⟨h.1.below hb, h.2.1, h.2.2.1, below_on h.2.2.2 hb⟩
theorem Gd.ins {w w1 w2 : World} {th : Nat} {t : Tr It} {x : It} {k : Nat} (h : Gd w th t w1) (hk : w1.heap.size ≤ k) (ht : DTreeAt w2 th ((Tr.put It.ahead k x t).paint false)) (hc : Chg (th :: t.blocks) w1 w2) : Gd w th ((Tr.put It.ahead k x t).paint false) w2 :=
  ⟨ht, h.2.1, fun g hg => by
    rw [Tr.blocks_paint] at hg
    rcases List.mem_cons.1 ((Tr.perm_put It.ahead k x t).mem_iff.1 hg) with rfl | h1
    · exact Nat.le_trans h.2.2.2.size hk
    · exact h.2.2.1 g h1, h.2.2.2.trans (hc.toBelow h.2.2.2.size (fun g hg => by
    rcases List.mem_cons.1 hg with rfl | h1
    · exact h.2.1
    · exact h.2.2.1 g h1))⟩
end

/- The tree of items: what a beginning counts. -/
section
open Go.RowKit
/-- What is gathered of a beginning. -/
def foldD (p : It → Bool) : Tr It → Bool × It → Bool × It
  | .nil, acc => acc
  | .node _ _ l x r, acc => if p x then foldD p r (true, if acc.1 then sooner acc.2 (bestL l x) else bestL l x) else foldD p l acc
/-- Fold's variables. -/
def Fv (w : World) (a : It) (w' : World) : Prop := (∃ z : It, Cs w' w.heap.size z.cells) ∧ Cs w' (w.heap.size + 1) a.cells ∧ Below w.heap.size w w'
theorem Fv.below {w w1 w2 : World} {a : It} (h : Fv w a w1) (hb : Below w1.heap.size w1 w2) : Fv w a w2 := ⟨by obtain ⟨z, hz⟩ := h.1; exact ⟨z, hz.below hb⟩, h.2.1.below hb, below_on h.2.2 hb⟩
theorem Fv.store {w w1 : World} {a : It} (h : Fv w a w1) (k : It) : ∀ W, W = w1.setCells (w.heap.size + 1) 0 k.cells → Fv w k W := fun W e => by
  obtain ⟨⟨z, hz⟩, h1, h2⟩ := h
  rw [e]
  exact ⟨⟨z, hz.fars (by omega) _ _⟩, h1.stored k, below_sets (by omega) _ _ h2⟩
theorem Fv.other {w w1 : World} {a : It} (h : Fv w a w1) {b : Nat} (hb : w.heap.size + 1 < b) (k : It) : Fv w a (w1.setCells b 0 k.cells) := by
  obtain ⟨⟨z, hz⟩, h1, h2⟩ := h
  exact ⟨⟨z, hz.fars (by omega) _ _⟩, h1.fars (by omega) _ _, below_sets (by omega) _ _ h2⟩
theorem Cs.lt7 {w : World} {g : Nat} {a : It} (h : Cs w g a.cells) : g < w.heap.size := World.block_lt_of_cell? w _ (h 0 _ rfl).1
section
attribute [local go_sem] eqDin
set_option maxRecDepth 100000 in
set_option maxHeartbeats 8000000 in
theorem Dt.foldAwake (th : Nat) (t : Tr It) (p : It → Bool) (w : World) (h : DTreeAt w th t)
    (hin : ∀ (y : It) (w' : World), y ∈ t.list → y.In → Below w.heap.size w w' → Calls Tryz.prog 138 #[y.val] w' (Ans (.bool (p y)) w')) :
    Calls Tryz.prog 128 #[.pointer (some ⟨th, 0, none⟩), (.func (.func 138) #[] #[])] w (Ans (.tuple #[It.val (foldD p t (false, It.zero)).2, .bool (foldD p t (false, It.zero)).1]) w) := by
  have HT := hid h
  have HIN := hid hin
  have HFV0 : Hid (Fv w It.zero ((w.alloc (.cells #[.int .u64 0, .int .u32 0, .int .u32 0, .int .i64 0, .int .u64 0, .int .u32 0, .int .u32 0] 76)).alloc (.cells #[.int .u64 0, .int .u32 0, .int .u32 0, .int .i64 0, .int .u64 0, .int .u32 0, .int .u32 0] 76))) := hid ⟨⟨It.zero, (Cs.new7 w 76 It.zero).alloc _⟩, by have := Cs.new7 (w.alloc (.cells #[.int .u64 0, .int .u32 0, .int .u32 0, .int .i64 0, .int .u64 0, .int .u32 0, .int .u32 0] 76)) 76 It.zero; simp only [World.size_alloc] at this; exact this, ((Below.refl w.heap.size w).alloc (Nat.le_refl _) (.cells #[.int .u64 0, .int .u32 0, .int .u32 0, .int .i64 0, .int .u64 0, .int .u32 0, .int .u32 0] 76)).alloc (by simp) (.cells #[.int .u64 0, .int .u32 0, .int .u32 0, .int .i64 0, .int .u64 0, .int .u32 0, .int .u32 0] 76)⟩
  obtain ⟨b1, b2, t0, t1, t2, _⟩ := HT.out.1
  have HE := hid (And.intro t0 (And.intro t1 t2))
  have e3 := keep1 HFV0.out.2.2 t0.at3
  clear t0 t1 t2 h hin
  go_enter Tryz.func128, Tryz.ntmps128
  go_wp2_with fail
  generalize ((w.alloc (.cells #[.int .u64 0, .int .u32 0, .int .u32 0, .int .i64 0, .int .u64 0, .int .u32 0, .int .u32 0] 76)).alloc (.cells #[.int .u64 0, .int .u32 0, .int .u32 0, .int .i64 0, .int .u64 0, .int .u32 0, .int .u32 0] 76)) = W0 at e3 HFV0 ⊢
  go_loopg [7, 8] t.size (fun s b u wr => ∃ (sm : Bool) (acc : It) (v : Tr It), b = .bool sm ∧ u = ptr v ∧ s = v.size ∧ foldD p v (sm, acc) = foldD p t (false, It.zero) ∧ acc.In ∧ DIn w v ∧ (∀ y ∈ v.list, y ∈ t.list) ∧ Fv w acc wr)
  case atStart => exact ⟨false, It.zero, t, rfl, rfl, rfl, rfl, It.zero_in, HT.out.2.1, fun y hy => hy, HFV0.out⟩
  case round =>
    obtain ⟨sm, acc, v, rfl, rfl, hs, hf, ha, hi, hm, hv⟩ := hrel
    have HS := hid hs
    have HF := hid hf
    have HI := hid hi
    have HM := hid hm
    have HFV := hid hv
    have HAI := hid ha
    have HC := hid (And.intro (HE.out.1.below hv.2.2) (And.intro (HE.out.2.1.below hv.2.2) (HE.out.2.2.below hv.2.2)))
    have e1 := HC.out.1.at1
    have e2 := HC.out.1.at2
    clear hs hf hi hm hv ha HFV0
    cases v with
    | nil =>
      simp only [ptr_nil]
      clear e1 e2
      have HF' : Hid (foldD p t (false, It.zero) = (sm, acc)) := hid (by rw [← HF.out]; rfl)
      obtain ⟨p0, p1, p2, p3, p4, p5, p6⟩ := It.at _ HFV.out.2.1
      have hth := there_it HFV.out.1
      have HAN := hid (answer_it (Nat.le_refl _) HFV.out.1 HFV.out.2.2 acc)
      go_wp2_with ((with_reducible refine wpList_put_it 76 infoItem rfl (.tmp 4) (.tmp 53) rfl w.heap.size 0 acc hth ?a1 ?a2 ?a3); (case a1 => rfl); (case a2 => rfl); (intro W2 hW2); (have HW := hid (HAN.out W2 hW2)); (clear hW2 hth p0 p1 p2 p3 p4 p5 p6); (obtain ⟨z0, z1, z2, z3, z4, z5, z6⟩ := HW.out.1))
      refine bodyPost_ret (v := .tuple #[It.val acc, .bool sm]) (by simp [results, Tryz.results128, go_sem, z0, z1, z2, z3, z4, z5, z6]) rfl ⟨by rw [HF'.out], HW.out.2⟩
    | node g cc l x r =>
      have HI2 := hid (HI.out.below HFV.out.2.2)
      obtain ⟨⟨v', hv', hc⟩, hl, _⟩ := HI2.out
      have HXI := hid hv'.2.2
      have HBI := hid (bestL_in hl hv'.2.2)
      obtain ⟨⟨vw, hvw, hcw⟩, _⟩ := HI.out
      have HC3w := hid hcw.nd3
      obtain ⟨p0, p1, p2, p3, p4, p5, p6⟩ := hc.th
      have c2 := hc.nd2
      clear hc hv' hl hvw hcw
      simp only [ptr_node]
      go_wp2_with fail
      refine (HIN.out x _ (HM.out x (by simp [Tr.list])) HXI.out HFV.out.2.2).mono ?_
      rintro e w1 ⟨rfl, hb1⟩
      have HB1 := hid hb1
      have e2 := keep1 hb1 e2
      have c2 := keep1 hb1 c2
      clear hb1 p0 p1 p2 p3 p4 p5 p6 e1
      cases hx : p x with
      | false =>
        have HX := hid hx
        clear hx e2
        go_wp2_with fail
        go_roundg l.size
        case measure => have := HS.out; simp only [Tr.size] at this; omega
        case rel => exact ⟨sm, acc, l, rfl, rfl, rfl, by rw [← HF.out, foldD, if_neg (by rw [HX.out]; simp)], HAI.out, HI.out.2.1, fun y hy => HM.out y (by simp [Tr.list, hy]), HFV.out.below HB1.out⟩
      | true =>
        have HX := hid hx
        clear hx c2
        go_wp2_with fail
        refine (Dt.upTo g b1 b2 cc l r x _ (HI2.out.st.below HB1.out) (HC.out.2.1.below HB1.out) (HC.out.2.2.below HB1.out)).mono ?_
        rintro e w2' ⟨rfl, hb2⟩
        have hb3 := (below_on HB1.out hb2).alloc (below_on HB1.out hb2).size (.cells #[.int .u64 (bestL l x).t, .int .u32 (bestL l x).r, .int .u32 (bestL l x).v, .int .i64 (bestL l x).i, .int .u64 (bestL l x).u, .int .u32 (bestL l x).s, .int .u32 (bestL l x).y] 76)
        have HB3 := hid hb3
        have HPT0 : Hid (Cs (w2'.alloc (.cells #[.int .u64 (bestL l x).t, .int .u32 (bestL l x).r, .int .u32 (bestL l x).v, .int .i64 (bestL l x).i, .int .u64 (bestL l x).u, .int .u32 (bestL l x).s, .int .u32 (bestL l x).y] 76)) w2'.heap.size (bestL l x).cells) := hid (Cs.new7 _ _ _)
        have HBP : Hid (w.heap.size + 1 < w2'.heap.size) := hid (Nat.lt_of_lt_of_le HFV.out.2.1.lt7 (below_on HB1.out hb2).size)
        clear hb2 hb3 e2
        have HNEW : Hid (∀ k, k = (if sm then sooner acc (bestL l x) else bestL l x) → foldD p r (true, k) = foldD p t (false, It.zero)) := hid (fun k hk => by rw [← HF.out, foldD, if_pos HX.out, hk])
        cases sm with
        | false =>
          have hth := (HFV.out.below HB3.out).2.1.there7
          have HST := hid ((HFV.out.below HB3.out).store (bestL l x))
          go_wp2_with ((with_reducible refine wpList_put_it 76 infoItem rfl (.tmp 6) (.tmp 48) rfl (w.heap.size + 1) 0 (bestL l x) hth ?b1 ?b2 ?b3); (case b1 => rfl); (case b2 => rfl); (intro W2 hW2); (have HW := hid (HST.out W2 hW2)); (clear hW2 hth); (have q3 := keep1 HW.out.2.2 HC3w.out))
          go_roundg r.size
          case measure => have := HS.out; simp only [Tr.size] at this; omega
          case rel => exact ⟨true, bestL l x, r, rfl, rfl, rfl, HNEW.out _ rfl, HBI.out, HI.out.2.2, fun y hy => HM.out y (by simp [Tr.list, hy]), HW.out⟩
        | true =>
          go_wp2_with fail
          generalize hbp : w2'.heap.size = bp at HPT0 HBP ⊢
          generalize (w2'.alloc (.cells #[.int .u64 (bestL l x).t, .int .u32 (bestL l x).r, .int .u32 (bestL l x).v, .int .i64 (bestL l x).i, .int .u64 (bestL l x).u, .int .u32 (bestL l x).s, .int .u32 (bestL l x).y] 76)) = w2 at HB3 HPT0 ⊢
          clear hbp
          have HQJ := hid (keep1 HB3.out HC.out.1.at1)
          have HFV2 := hid (HFV.out.below HB3.out)
          have HPT := hid HPT0.out.th7
          refine wp_region_steady (S := Bl w2) 7 (by kernel_rfl) (Bl.drew w2) ?_
          refine wpAnyU_take (i := 0) (v := ?_) rfl (by kernel_rfl) (by kernel_rfl) (by kernel_rfl) (by kernel_rfl) (fun _ _ _ h => h) (Steady.of_yields (Or.inl ⟨by rfl, ?_⟩)) ?_
          rotate_left
          · intro wq hSw
            go_simp
            (try with_reducible rfl)
          try simp only [List.getElem_toArray, List.getElem_cons_zero, List.getElem_cons_succ, Act.put, List.setIfInBounds_toArray, List.set_cons_zero, List.set_cons_succ]
          refine wpAnyU_take (i := 1) (v := ?_) rfl (by kernel_rfl) (by kernel_rfl) (by kernel_rfl) (by kernel_rfl) (fun _ _ _ h => h) (Steady.of_yields (Or.inl ⟨by rfl, ?_⟩)) ?_
          rotate_left
          · intro wq hSw
            go_simp
            (try with_reducible rfl)
          try simp only [List.getElem_toArray, List.getElem_cons_zero, List.getElem_cons_succ, Act.put, List.setIfInBounds_toArray, List.set_cons_zero, List.set_cons_succ]
          refine wpAnyU_take (i := 2) (v := ?_) rfl (by kernel_rfl) (by kernel_rfl) (by kernel_rfl) (by kernel_rfl) (fun _ _ _ h => h) (Steady.of_yields (Or.inl ⟨by rfl, ?_⟩)) ?_
          rotate_left
          · intro wq hSw
            go_simp
            (try with_reducible rfl)
          try simp only [List.getElem_toArray, List.getElem_cons_zero, List.getElem_cons_succ, Act.put, List.setIfInBounds_toArray, List.set_cons_zero, List.set_cons_succ]
          refine wpAnyU_take (i := 3) (v := ?_) rfl (by kernel_rfl) (by kernel_rfl) (by kernel_rfl) (by kernel_rfl) (fun _ _ _ h => h) (Steady.of_yields (Or.inl ⟨by rfl, ?_⟩)) ?_
          rotate_left
          · intro wq hSw
            have hSB : Below _ _ _ := hSw
            have q1 := keep1 hSB HQJ.out
            obtain ⟨p0, p1, p2, p3, p4, p5, p6⟩ := It.at _ (HFV2.out.2.1.below hSB)
            obtain ⟨m0, m1, m2, m3, m4, m5, m6⟩ := HPT.out.below hSB
            go_simp
            (try with_reducible rfl)
          try simp only [List.getElem_toArray, List.getElem_cons_zero, List.getElem_cons_succ, Act.put, List.setIfInBounds_toArray, List.set_cons_zero, List.set_cons_succ]
          refine wpAnyU_take (i := 4) (v := ?_) rfl (by kernel_rfl) (by kernel_rfl) (by kernel_rfl) (by kernel_rfl) (fun _ _ _ h => h) (Steady.of_yields (Or.inl ⟨by rfl, ?_⟩)) ?_
          rotate_left
          · intro wq hSw
            have hSB : Below _ _ _ := hSw
            have q1 := keep1 hSB HQJ.out
            obtain ⟨p0, p1, p2, p3, p4, p5, p6⟩ := It.at _ (HFV2.out.2.1.below hSB)
            obtain ⟨m0, m1, m2, m3, m4, m5, m6⟩ := HPT.out.below hSB
            go_simp
            (try with_reducible rfl)
          try simp only [List.getElem_toArray, List.getElem_cons_zero, List.getElem_cons_succ, Act.put, List.setIfInBounds_toArray, List.set_cons_zero, List.set_cons_succ]
          refine wpAnyU_take (i := 5) (v := ?_) rfl (by kernel_rfl) (by kernel_rfl) (by kernel_rfl) (by kernel_rfl) (fun _ _ _ h => h) (Steady.of_yields (Or.inl ⟨by rfl, ?_⟩)) ?_
          rotate_left
          · intro wq hSw
            have hSB : Below _ _ _ := hSw
            have q1 := keep1 hSB HQJ.out
            obtain ⟨p0, p1, p2, p3, p4, p5, p6⟩ := It.at _ (HFV2.out.2.1.below hSB)
            obtain ⟨m0, m1, m2, m3, m4, m5, m6⟩ := HPT.out.below hSB
            go_simp
            (try with_reducible rfl)
          try simp only [List.getElem_toArray, List.getElem_cons_zero, List.getElem_cons_succ, Act.put, List.setIfInBounds_toArray, List.set_cons_zero, List.set_cons_succ]
          refine wpAnyU_take (i := 6) (v := It.val (sooner acc (bestL l x))) rfl (by kernel_rfl) (by kernel_rfl) (by kernel_rfl) (by kernel_rfl) (fun _ _ _ h => h) (Or.inl ⟨by rfl, fun wq hSw => ?_⟩) ?_
          · refine SteadyRun.of_calls (Dtree.join acc (bestL l x) HAI.out HBI.out wq) (by go_simp) ?_
            rintro e wr ⟨rfl, hb⟩
            exact ⟨rfl, hSw.on hb⟩
          try simp only [List.getElem_toArray, List.getElem_cons_zero, List.getElem_cons_succ, Act.put, List.setIfInBounds_toArray, List.set_cons_zero, List.set_cons_succ]
          refine wpAnyU_last rfl rfl (by kernel_rfl) (fun wz hSz => ?_)
          have hth9 := (HPT0.out.below hSz).there7
          have HAN9 : Hid (∀ W, W = wz.setCells bp 0 (sooner acc (bestL l x)).cells → Cs W bp (sooner acc (bestL l x)).cells ∧ Fv w acc W) := hid (fun W e => by rw [e]; exact ⟨(HPT0.out.below hSz).stored _, (HFV2.out.below hSz).other HBP.out _⟩)
          clear hSz
          go_wp2_with (first | ((with_reducible refine wpList_put_it 76 infoItem rfl (.tmp 9) (.tmp 47) rfl bp 0 (sooner acc (bestL l x)) hth9 ?c1 ?c2 ?c3); (case c1 => rfl); (case c2 => rfl); (intro W2 hW2); (have HW := hid (HAN9.out W2 hW2)); (clear hW2 hth9); (obtain ⟨p0, p1, p2, p3, p4, p5, p6⟩ := It.at _ HW.out.1); (have hth := HW.out.2.2.1.there7); (have HST := hid (HW.out.2.store (sooner acc (bestL l x))))) | (with_reducible refine wpList_put_it 76 infoItem rfl (.tmp 6) (.tmp 48) rfl (w.heap.size + 1) 0 (sooner acc (bestL l x)) hth ?d1 ?d2 ?d3); (case d1 => rfl); (case d2 => rfl); (intro W3 hW3); (have HY := hid (HST.out W3 hW3)); (clear hW3 hth p0 p1 p2 p3 p4 p5 p6); (have q3 := keep1 HY.out.2.2 HC3w.out))
          go_roundg r.size
          case measure => have := HS.out; simp only [Tr.size] at this; omega
          case rel => exact ⟨true, sooner acc (bestL l x), r, rfl, rfl, rfl, HNEW.out _ rfl, sooner_in HAI.out HBI.out, HI.out.2.2, fun y hy => HM.out y (by simp [Tr.list, hy]), HY.out⟩
end
end

/- How far items lie apart, as a number. -/
section
open Go.RowKit
theorem foldMin_le (b : Int) (ps : List (Int × Int × Int)) : ∀ m : Int, ps.foldl (fun m q => min m (dif q.1 b)) m ≤ m := by
  induction ps with
  | nil => intro m; exact Int.le_refl _
  | cons p ps ih => intro m; exact Int.le_trans (ih _) (by show min m (dif p.1 b) ≤ m; omega)
theorem foldMax_ge (b : Int) (ps : List (Int × Int × Int)) : ∀ m : Int, m ≤ ps.foldl (fun m q => max m (dif q.1 b)) m := by
  induction ps with
  | nil => intro m; exact Int.le_refl _
  | cons p ps ih => intro m; exact Int.le_trans (by show m ≤ max m (dif p.1 b); omega) (ih _)
theorem foldMin_bd (b : Int) (ps : List (Int × Int × Int)) : ∀ m : Int, -9223372036854775808 ≤ m → -9223372036854775808 ≤ ps.foldl (fun m q => min m (dif q.1 b)) m := by
  induction ps with
  | nil => intro m h; exact h
  | cons p ps ih => intro m h; exact ih _ (by have := dif_bd p.1 b; show -9223372036854775808 ≤ min m (dif p.1 b); omega)
theorem foldMax_bd (b : Int) (ps : List (Int × Int × Int)) : ∀ m : Int, m ≤ 9223372036854775807 → ps.foldl (fun m q => max m (dif q.1 b)) m ≤ 9223372036854775807 := by
  induction ps with
  | nil => intro m h; exact h
  | cons p ps ih => intro m h; exact ih _ (by have := dif_bd p.1 b; show max m (dif p.1 b) ≤ 9223372036854775807; omega)
/-- Modulo 2^64 it is the number itself. -/
theorem spreadI_eq (b : Int) (l : List It) : spreadI b l = max (hiL b (l.map It.pp)) (hiL b (l.map It.dp)) - loL b (l.map It.pp) ∧ 0 ≤ spreadI b l ∧ spreadI b l ≤ 18446744073709551615 := by
  have key : ∀ M m : Int, m ≤ M → -9223372036854775808 ≤ m → M ≤ 9223372036854775807 → IntKind.u64.wrap (IntKind.u64.wrap M - IntKind.u64.wrap m) = M - m := by
    intro M m h1 h2 h3
    rw [IntKind.wrap_u64, IntKind.wrap_u64, IntKind.wrap_u64]
    omega
  unfold spreadI
  cases l with
  | nil =>
    have e : loL b ([].map It.pp) = 0 ∧ hiL b ([].map It.pp) = 0 ∧ hiL b ([].map It.dp) = 0 := ⟨rfl, rfl, rfl⟩
    rw [e.1, e.2.1, e.2.2, key (max 0 0) 0 (by omega) (by omega) (by omega)]
    omega
  | cons a l =>
    have h1 : loL b ((a :: l).map It.pp) ≤ dif a.t b := foldMin_le b (l.map It.pp) _
    have h2 : dif a.t b ≤ hiL b ((a :: l).map It.pp) := foldMax_ge b (l.map It.pp) _
    have h3 : -9223372036854775808 ≤ loL b ((a :: l).map It.pp) := foldMin_bd b (l.map It.pp) _ (dif_bd _ _).1
    have h4 : hiL b ((a :: l).map It.pp) ≤ 9223372036854775807 := foldMax_bd b (l.map It.pp) _ (dif_bd _ _).2
    have h5 : hiL b ((a :: l).map It.dp) ≤ 9223372036854775807 := foldMax_bd b (l.map It.dp) _ (dif_bd _ _).2
    rw [key _ _ (by omega) h3 (by omega)]
    omega
end

/- The tree of items: New of some, and who is due first of a beginning; the chapter's example. -/
section
open Go.RowKit
/-- What New answers of some items. -/
def DNew (l : List It) (w : World) (e : Ending) (w' : World) : Prop := ∃ th t, e = .returned (.agg #[.pointer (some ⟨th, 0, none⟩)]) ∧ Built l t ∧ Gd w th t w'
/-- New's variables. -/
def Dn (w : World) (b th : Nat) (t : Tr It) (wr : World) : Prop := Gd w th t wr ∧ Cs wr w.heap.size [.pointer none] ∧ Cs wr b [.pointer (some ⟨th, 0, none⟩)] ∧ (∀ g ∈ th :: t.blocks, g ≠ w.heap.size ∧ g ≠ b)
theorem Dn.below {w w1 w2 : World} {b th : Nat} {t : Tr It} (h : Dn w b th t w1) (hb : Below w1.heap.size w1 w2) : Dn w b th t w2 := ⟨h.1.below hb, h.2.1.below hb, h.2.2.1.below hb, h.2.2.2⟩
theorem Dn.ins {w w1 w2 : World} {b th : Nat} {t : Tr It} {x : It} {k : Nat} (h : Dn w b th t w1) (hk : w1.heap.size ≤ k) (ht : DTreeAt w2 th ((Tr.put It.ahead k x t).paint false)) (hc : Chg (th :: t.blocks) w1 w2) : Dn w b th ((Tr.put It.ahead k x t).paint false) w2 :=
  ⟨h.1.ins hk ht hc, h.2.1.chg hc (fun hm => (h.2.2.2 _ hm).1 rfl), h.2.2.1.chg hc (fun hm => (h.2.2.2 _ hm).2 rfl), fun g hg => by
    rcases List.mem_cons.1 hg with rfl | h1
    · exact h.2.2.2 _ (by simp)
    · rw [Tr.blocks_paint] at h1
      rcases List.mem_cons.1 ((Tr.perm_put It.ahead k x t).mem_iff.1 h1) with rfl | h2
      · have h3 := h.2.1.lt
        have h4 := h.2.2.1.lt
        exact ⟨by omega, by omega⟩
      · exact h.2.2.2 g (by simp [h2])⟩
theorem DIn.far1 {w W : World} {t : Tr It} (h : DIn w t) {b : Nat} {o : Nat} {u : Value} (e : W = w.setCell ⟨b, o, none⟩ u) (hb : b ∉ t.blocks) : DIn W t := by
  have hch : Chg [b] w W := by rw [e]; exact (Chg.refl _ _).set (Or.inl (by simp)) _ _
  induction t with
  | nil => trivial
  | node g c l x r ihl ihr =>
    obtain ⟨⟨v, hv, hc⟩, hl, hr⟩ := h
    simp only [Tr.blocks, List.mem_cons, List.mem_append, not_or] at hb
    exact ⟨⟨v, hv, hc.chg hch (by simp; exact fun e => hb.1 e.symm)⟩, ihl hl hb.2.1, ihr hr hb.2.2⟩
theorem DEnv.far1 {w W : World} {th : Nat} {rt : Value} {n : Int} {b : Nat} {v u : Value} (h : DEnv w th rt n) (hc : Cs w b [v]) (hp : ∃ p, v = .pointer p) (hth : th ≠ b) (e : W = w.setCell ⟨b, 0, none⟩ u) : DEnv W th rt n := by
  obtain ⟨p, rfl⟩ := hp
  obtain ⟨b1, b2, h0, h1, h2, n0, n1, n2, f1, f2⟩ := h
  have hch : Chg [b] w W := by rw [e]; exact (Chg.refl _ _).set (Or.inl (by simp)) _ _
  have g1 : b1 ∉ [b] := fun hm => by simp at hm; subst hm; have := hc.at0; rw [h1.at0] at this; cases this
  have g2 : b2 ∉ [b] := fun hm => by simp at hm; subst hm; have := hc.at0; rw [h2.at0] at this; cases this
  have g0 : th ∉ [b] := by simpa using hth
  exact ⟨b1, b2, h0.chg hch g0, h1.chg hch g1, h2.chg hch g2, (hch.cell (p := ⟨th, 14, none⟩) h0.lt g0).trans n0, (hch.cell (p := ⟨b1, 14, none⟩) h1.lt g1).trans n1, (hch.cell (p := ⟨b2, 14, none⟩) h2.lt g2).trans n2, f1, f2⟩
set_option maxRecDepth 100000 in
set_option maxHeartbeats 4000000 in
theorem Dtree.new (A : Option Addr) (n c : Nat) (l : List It) (w : World) (hr : RdI w A n l) (hl : InI l) (hn : n ≤ 800000) :
    Calls Tryz.prog 129 #[.slice A n c] w (DNew l w) := by
  have HR := hid hr
  have HL := hid hl
  have hni : (n : Int) ≤ 800000 := by omega
  clear hr hl
  go_enter Tryz.func129, Tryz.ntmps129
  go_wp2_with fail
  refine (Dt.new _).mono ?_
  rintro e w1 ⟨th, rfl, hth, ht, hb⟩
  have hb1 := below_on ((Below.refl w.heap.size w).alloc (Nat.le_refl _) (.cells #[.pointer none] 122)) hb
  have HD0 : Hid (Dn w w1.heap.size th .nil (w1.alloc (.cells #[.pointer (some ⟨th, 0, none⟩)] 122))) := hid (by
    have hz := Cs.alloc_new w 122 [.pointer none]
    have hz2 := Cs.alloc_new w1 122 [.pointer (some ⟨th, 0, none⟩)]
    have hlt : th < w1.heap.size := by obtain ⟨_, _, t0, _⟩ := ht.1; exact t0.lt
    simp at hth
    have ha := (Below.refl w1.heap.size w1).alloc (Nat.le_refl _) (.cells #[.pointer (some ⟨th, 0, none⟩)] 122)
    exact ⟨⟨ht.below ha, by omega, fun g hg => by simp [Tr.blocks] at hg, below_on hb1 ha⟩, (hz.below hb).below ha, hz2, fun g hg => by
      simp [Tr.blocks] at hg; subst hg; exact ⟨by omega, by omega⟩⟩)
  clear hth ht hb hb1
  go_wp2_with fail
  generalize hbb : w1.heap.size = b at HD0 ⊢
  generalize (w1.alloc (.cells #[.pointer (some ⟨th, 0, none⟩)] 122)) = W1 at HD0 ⊢
  go_loopg [14] n (fun s i wr => ∃ (k : Nat) (t : Tr It), i = .int .i64 k ∧ k ≤ n ∧ s = n - k ∧ Built (l.take k) t ∧ Dn w b th t wr)
  case atStart => exact ⟨0, .nil, rfl, Nat.zero_le _, by omega, by simpa using Built.nil, HD0.out⟩
  case round =>
    obtain ⟨k, t, rfl, hk, hs, hbt, hd⟩ := hrel
    have HS := hid hs
    have HBT := hid hbt
    have HD := hid hd
    clear hs hbt hd HD0
    by_cases hkn : k < n
    · obtain ⟨bb, off, hA, _, hc⟩ := (HR.out.below HD.out.1.2.2.2).2 0 (by omega)
      obtain ⟨p0, p1, p2, p3, p4, p5, p6⟩ := hc k hkn
      have HX := hid (HL.out.get (show k < l.length by have := HR.out.1; omega))
      have HTK : Hid (l.take (k + 1) = l.take k ++ [l.getD k It.zero]) := hid (by
        have hkl : k < l.length := by have := HR.out.1; omega
        rw [List.take_succ_eq_append_getElem hkl]; simp [List.getD, hkl])
      have HLT : Hid (t.list.length < 900000) := hid (by have h1 := HBT.out.len; simp at h1; omega)
      generalize l.getD k It.zero = x at *
      subst hA
      have hki : (k : Int) < n := by omega
      clear hc
      have HDa := hid (HD.out.below ((Below.refl wr.heap.size wr).alloc (Nat.le_refl _) (.cells #[.int .u64 x.t, .int .u32 x.r, .int .u32 x.v, .int .i64 x.i, .int .u64 x.u, .int .u32 x.s, .int .u32 x.y] 76)))
      have q := HDa.out.2.2.1.at0
      cases hh : Tr.has It.ahead x t with
      | true =>
        have HH := hid hh
        clear hh
        go_wp2_with fail
        refine (Dt.insert_no th t x HX.out _ HDa.out.1.1 HH.out).mono ?_
        rintro e w3 ⟨rfl, hb3⟩
        have HD3 := hid (HDa.out.below hb3)
        clear hb3 q p0 p1 p2 p3 p4 p5 p6
        go_wp2_with fail
        go_roundg (n - (k + 1))
        case measure => have := HS.out; omega
        case rel => exact ⟨k + 1, t, by go_num, by omega, rfl, by rw [HTK.out]; exact .skip HBT.out HH.out, HD3.out⟩
      | false =>
        have HH := hid hh
        clear hh
        go_wp2_with fail
        refine (Dt.insert th t x HX.out _ HDa.out.1.1 HLT.out HH.out).mono ?_
        rintro e w3 ⟨k', hk', rfl, ht', hc'⟩
        have HD3 := hid (HDa.out.ins hk' ht' hc')
        clear hk' ht' hc' q p0 p1 p2 p3 p4 p5 p6
        go_wp2_with fail
        go_roundg (n - (k + 1))
        case measure => have := HS.out; omega
        case rel => exact ⟨k + 1, _, by go_num, by omega, rfl, by rw [HTK.out]; exact .put HBT.out HH.out, HD3.out⟩
    · obtain rfl : k = n := by omega
      have hki : ¬ (k : Int) < k := by omega
      have hq := HBT.out
      rw [List.take_of_length_le (by have := HR.out.1; omega)] at hq
      have HQ := hid hq
      clear hq
      have q0 := HD.out.2.2.1.at0
      have q1 := HD.out.2.1.at0
      have q2 := HD.out.2.1.fr0
      have HFIN : Hid (∀ W, W = wr.setCell ⟨w.heap.size, 0, none⟩ (.pointer (some ⟨th, 0, none⟩)) → Gd w th t W ∧ W.cell? ⟨w.heap.size, 0, none⟩ = some (.pointer (some ⟨th, 0, none⟩))) := hid (by
        intro W e
        obtain ⟨⟨h1, h2, h3, h4⟩, h5, h6, h7⟩ := HD.out
        have hch : Chg [w.heap.size] wr W := by rw [e]; exact (Chg.refl _ _).set (Or.inl (by simp)) _ _
        have hno : ∀ g ∈ th :: t.blocks, g ∉ [w.heap.size] := fun g hg hg' => by simp at hg'; exact (h7 g hg).1 hg'
        refine ⟨⟨⟨DEnv.far1 h1.1 h5 ⟨_, rfl⟩ (h7 th (by simp)).1 e, DIn.far1 h1.2.1 e (fun hm => (h7 _ (by simp [hm])).1 rfl), h1.2.2⟩, h2, h3, h4.trans (hch.toBelow h4.size (fun g hg => by simp at hg; omega))⟩, by rw [e]; exact World.cell?_setCell_same _ _ _ q1⟩)
      go_wp2_with fail
      have HF2 := hid (HFIN.out _ rfl)
      clear HFIN q0 q1 q2
      generalize wr.setCell ⟨w.heap.size, 0, none⟩ (.pointer (some ⟨th, 0, none⟩)) = W9 at HF2 ⊢
      have q := HF2.out.2
      refine bodyPost_ret (v := .agg #[.pointer (some ⟨th, 0, none⟩)]) (by simp [results, Tryz.results129, go_sem, q]) rfl ⟨th, t, rfl, HQ.out, HF2.out.1⟩
set_option maxRecDepth 100000 in
set_option maxHeartbeats 2000000 in
theorem Dtree.soonestAwake (th : Nat) (t : Tr It) (p : It → Bool) (w : World) (h : DTreeAt w th t)
    (hin : ∀ (y : It) (w' : World), y ∈ t.list → y.In → Below w.heap.size w w' → Calls Tryz.prog 138 #[y.val] w' (Ans (.bool (p y)) w')) :
    Calls Tryz.prog 82 #[.agg #[.pointer (some ⟨th, 0, none⟩)], (.func (.func 138) #[] #[])] w (Ans (.tuple #[It.val (foldD p t (false, It.zero)).2, .bool (foldD p t (false, It.zero)).1]) w) := by
  have hb0 := ((Below.refl w.heap.size w).alloc (Nat.le_refl _) (.cells #[.pointer (some ⟨th, 0, none⟩)] 122)).alloc (by simp) (.cells #[.int .u64 0, .int .u32 0, .int .u32 0, .int .i64 0, .int .u64 0, .int .u32 0, .int .u32 0] 76)
  have HT := hid (h.below hb0)
  have HB0 := hid hb0
  have HIN := hid hin
  have HZ : Hid (Cs ((w.alloc (.cells #[.pointer (some ⟨th, 0, none⟩)] 122)).alloc (.cells #[.int .u64 0, .int .u32 0, .int .u32 0, .int .i64 0, .int .u64 0, .int .u32 0, .int .u32 0] 76)) (w.heap.size + 1) It.zero.cells) := hid (by have := Cs.new7 (w.alloc (.cells #[.pointer (some ⟨th, 0, none⟩)] 122)) 76 It.zero; simp only [World.size_alloc] at this; exact this)
  clear h hin hb0
  go_enter Tryz.func82, Tryz.ntmps82
  go_wp2_with fail
  refine (Dt.foldAwake th  t p _ HT.out (fun y w' hy hyi hb => HIN.out y w' hy hyi (below_on HB0.out hb))).mono ?_
  rintro e w1 ⟨rfl, hb⟩
  have HZ2 : Hid (∃ z : It, Cs w1 (w.heap.size + 1) z.cells) := hid ⟨It.zero, HZ.out.below hb⟩
  obtain ⟨sm, acc, hq⟩ : ∃ sm acc, foldD p t (false, It.zero) = (sm, acc) := ⟨_, _, rfl⟩
  have HQ := hid hq
  rw [hq]
  have HAN := hid (answer_it (b := w.heap.size + 1) (by omega) HZ2.out (below_on HB0.out hb) acc)
  have hth := there_it HZ2.out
  clear hb hq
  go_wp2_with ((with_reducible refine wpList_put_it 76 infoItem rfl (.tmp 4) (.tmp 10) rfl (w.heap.size + 1) 0 acc hth ?s1 ?s2 ?s3); (case s1 => rfl); (case s2 => rfl); (intro W2 hW2); (have HW := hid (HAN.out W2 hW2)); (clear hW2 hth); (obtain ⟨z0, z1, z2, z3, z4, z5, z6⟩ := HW.out.1))
  refine bodyPost_ret (v := .tuple #[It.val acc, .bool sm]) (by simp [results, Tryz.results82, go_sem, z0, z1, z2, z3, z4, z5, z6]) rfl ⟨by rw [HQ.out], HW.out.2⟩
set_option maxHeartbeats 1000000 in
theorem Law7.plain (i a d : Int) (w : World) : Calls Tryz.prog 137 #[.int .i64 i, .int .u64 a, .int .u64 d] w (Ans (It.val (It.mk a 0 1 i d 0 1)) w) := by
  go_enter Tryz.func137, Tryz.ntmps137
  go_wp2_with fail
  refine bodyPost_ret (v := It.val (It.mk a 0 1 i d 0 1)) (by simp [results, Tryz.results137, go_sem]) rfl ⟨rfl, ?_⟩
  exact (Below.refl _ _).alloc (Nat.le_refl _) _
theorem Law7.lt3 (y : It) (w : World) : Calls Tryz.prog 138 #[y.val] w (Ans (.bool (decide (y.t < 3))) w) := by
  unfold It.val
  go_enter Tryz.func138, Tryz.ntmps138
  go_wp2_with fail
  go_ret
  exact ⟨rfl, (Below.refl _ _).alloc (Nat.le_refl _) _⟩
theorem Built.snoc {L l : List It} {x : It} {t : Tr It} (h : Built L t) (e : L = l ++ [x]) : (∃ t' k, Built l t' ∧ Tr.has It.ahead x t' = false ∧ t = (Tr.put It.ahead k x t').paint false) ∨ (Built l t ∧ Tr.has It.ahead x t = true) := by
  cases h with
  | nil => exact absurd (congrArg List.length e) (by simp)
  | put h1 h2 =>
    obtain ⟨rfl, e2⟩ := List.append_inj' e rfl
    injection e2 with e3
    subst e3
    exact Or.inl ⟨_, _, h1, h2, rfl⟩
  | skip h1 h2 =>
    obtain ⟨rfl, e2⟩ := List.append_inj' e rfl
    injection e2 with e3
    subst e3
    exact Or.inr ⟨h1, h2⟩
theorem Built.nil_inv {t : Tr It} {L : List It} (h : Built L t) (e : L = []) : t = .nil := by
  cases h with
  | nil => rfl
  | put h1 h2 => exact absurd (congrArg List.length e) (by simp)
  | skip h1 h2 => exact absurd (congrArg List.length e) (by simp)
theorem Built.three {t : Tr It} (h : Built [(It.mk 1 0 1 1 9 0 1), (It.mk 2 0 1 2 5 0 1), (It.mk 3 0 1 3 4 0 1)] t) : foldD (fun y => decide (y.t < 3)) t (false, It.zero) = (true, (It.mk 2 0 1 2 5 0 1)) := by
  rcases h.snoc (l := [(It.mk 1 0 1 1 9 0 1), (It.mk 2 0 1 2 5 0 1)]) rfl with ⟨t2, k3, h2, g3, rfl⟩ | ⟨h2, g3⟩
  all_goals
    rcases h2.snoc (l := [(It.mk 1 0 1 1 9 0 1)]) rfl with ⟨t1, k2, h1, g2, rfl⟩ | ⟨h1, g2⟩
    all_goals
      rcases h1.snoc (l := []) rfl with ⟨t0, k1, h0, g1, rfl⟩ | ⟨h0, g1⟩
      all_goals
        obtain rfl := h0.nil_inv rfl
        first
          | (change false = true at g1; cases g1)
          | (change false = true at g2; cases g2)
          | (change false = true at g3; cases g3)
          | rfl
set_option maxHeartbeats 1000000 in
theorem Law5.Awake (w : World) : Calls Tryz.prog 139 #[] w (Ans (.bool true) w) := by
  go_enter Tryz.func139, Tryz.ntmps139
  go_wp2_with fail
  refine (Law5.awake _).mono ?_
  rintro e w1 ⟨rfl, hb⟩
  have HB := hid hb
  clear hb
  go_wp2_with fail
  go_ret
  exact ⟨rfl, HB.out⟩
set_option maxHeartbeats 1000000 in
theorem Law6.Awake (w : World) : Calls Tryz.prog 140 #[] w (Ans (.bool true) w) := by
  go_enter Tryz.func140, Tryz.ntmps140
  go_wp2_with fail
  refine (Law6.awake _).mono ?_
  rintro e w1 ⟨rfl, hb⟩
  have HB := hid hb
  clear hb
  go_wp2_with fail
  go_ret
  exact ⟨rfl, HB.out⟩
theorem in3 : InI [(It.mk 1 0 1 1 9 0 1), (It.mk 2 0 1 2 5 0 1), (It.mk 3 0 1 3 4 0 1)] := by
  intro x hx
  simp at hx
  rcases hx with rfl | rfl | rfl <;> (unfold It.In; refine ⟨?_, ?_, ?_, ?_, ?_, ?_, ?_⟩ <;> exact ⟨by decide, by decide⟩)
set_option maxRecDepth 100000 in
set_option maxHeartbeats 4000000 in
theorem Law7.awake (w : World) : Calls Tryz.prog 98 #[] w (Ans (.bool true) w) := by
  go_enter Tryz.func98, Tryz.ntmps98
  go_wp2_with fail
  refine (Law7.plain 1 1 9 _).mono ?_
  rintro e w1 ⟨rfl, hb1⟩
  have HB1 := hid hb1
  clear hb1
  go_wp2_with fail
  refine (Law7.plain 2 2 5 _).mono ?_
  rintro e w2 ⟨rfl, hb2⟩
  have HB2 := hid (below_on HB1.out hb2)
  clear hb2 HB1
  go_wp2_with fail
  refine (Law7.plain 3 3 4 _).mono ?_
  rintro e w3 ⟨rfl, hb3⟩
  have HB3 := hid (below_on HB2.out hb3)
  clear hb3 HB2
  have HR : Hid (RdI (w3.alloc (.cells #[.int .u64 1, .int .u32 0, .int .u32 1, .int .i64 1, .int .u64 9, .int .u32 0, .int .u32 1, .int .u64 2, .int .u32 0, .int .u32 1, .int .i64 2, .int .u64 5, .int .u32 0, .int .u32 1, .int .u64 3, .int .u32 0, .int .u32 1, .int .i64 3, .int .u64 4, .int .u32 0, .int .u32 1] 76)) (some ⟨w3.heap.size, 0, none⟩) 3 [(It.mk 1 0 1 1 9 0 1), (It.mk 2 0 1 2 5 0 1), (It.mk 3 0 1 3 4 0 1)]) := hid ⟨rfl, fun i hi => ⟨w3.heap.size, 0, rfl, by simp, fun j hj => by
    have hc := Cs.alloc_new w3 76 [.int .u64 1, .int .u32 0, .int .u32 1, .int .i64 1, .int .u64 9, .int .u32 0, .int .u32 1, .int .u64 2, .int .u32 0, .int .u32 1, .int .i64 2, .int .u64 5, .int .u32 0, .int .u32 1, .int .u64 3, .int .u32 0, .int .u32 1, .int .i64 3, .int .u64 4, .int .u32 0, .int .u32 1]
    match j, hj with
    | 0, _ => exact ⟨(hc 0 _ rfl).1, (hc 1 _ rfl).1, (hc 2 _ rfl).1, (hc 3 _ rfl).1, (hc 4 _ rfl).1, (hc 5 _ rfl).1, (hc 6 _ rfl).1⟩
    | 1, _ => exact ⟨(hc 7 _ rfl).1, (hc 8 _ rfl).1, (hc 9 _ rfl).1, (hc 10 _ rfl).1, (hc 11 _ rfl).1, (hc 12 _ rfl).1, (hc 13 _ rfl).1⟩
    | 2, _ => exact ⟨(hc 14 _ rfl).1, (hc 15 _ rfl).1, (hc 16 _ rfl).1, (hc 17 _ rfl).1, (hc 18 _ rfl).1, (hc 19 _ rfl).1, (hc 20 _ rfl).1⟩⟩⟩
  have HB4 := hid (HB3.out.alloc HB3.out.size (.cells #[.int .u64 1, .int .u32 0, .int .u32 1, .int .i64 1, .int .u64 9, .int .u32 0, .int .u32 1, .int .u64 2, .int .u32 0, .int .u32 1, .int .i64 2, .int .u64 5, .int .u32 0, .int .u32 1, .int .u64 3, .int .u32 0, .int .u32 1, .int .i64 3, .int .u64 4, .int .u32 0, .int .u32 1] 76))
  go_wp2_with fail
  refine (Dtree.new _ 3 3 [(It.mk 1 0 1 1 9 0 1), (It.mk 2 0 1 2 5 0 1), (It.mk 3 0 1 3 4 0 1)] _ HR.out in3 (by decide)).mono ?_
  rintro e w4 ⟨th, t, rfl, hbt, hg⟩
  have HT3 := hid hbt.three
  have HG := hid ((hg.below ((Below.refl _ _).alloc (Nat.le_refl _) (.cells #[.pointer (some ⟨th, 0, none⟩)] 122))))
  have HB5 := hid (below_on HB4.out HG.out.2.2.2)
  clear hbt hg HB3 HB4 HR
  go_wp2_with fail
  refine (Dtree.soonestAwake th t (fun y => decide (y.t < 3)) _ HG.out.1 (fun y w' _ _ _ => Law7.lt3 y w')).mono ?_
  rintro e w5 ⟨rfl, hb5⟩
  rw [HT3.out]
  have HB6 := hid (below_on HB5.out hb5)
  clear hb5 HG HT3 HB5
  go_wp2_with fail
  refine (Law5.Awake _).mono ?_
  rintro e w6 ⟨rfl, hb6⟩
  have hb7 := HB6.out.alloc HB6.out.size (.cells #[.int .u64 2, .int .u32 0, .int .u32 1, .int .i64 2, .int .u64 5, .int .u32 0, .int .u32 1] 76)
  have HC6 : Hid (Cs w6 w5.heap.size (It.cells (It.mk 2 0 1 2 5 0 1))) := hid (by
    have := Cs.new7 w5 76 (It.mk 2 0 1 2 5 0 1)
    exact this.below hb6)
  have HB7 := hid (below_on hb7 hb6)
  clear hb6 hb7 HB6
  go_wp2_with fail
  refine (Law6.Awake _).mono ?_
  rintro e w7 ⟨rfl, hb7⟩
  obtain ⟨z0, z1, z2, z3, z4, z5, z6⟩ := It.at _ (HC6.out.below hb7)
  have HB8 := hid (below_on HB7.out hb7)
  clear hb7 HC6 HB7
  go_wp2_with fail
  go_ret
  exact ⟨rfl, HB8.out⟩
end

/- Items shifted; DtreeShifts' closures. -/
section
open Go.RowKit
/-- An item, shifted. -/
def It.shift (d : Int) (a : It) : It := It.mk (IntKind.u64.wrap (a.t + d)) a.r a.v a.i (IntKind.u64.wrap (a.u + d)) a.s a.y
end

/- Slices of items that a call itself has made, and append. -/
section
open Go.RowKit
theorem It.cells_length (a : It) : a.cells.length = 7 := rfl
theorem flat_length (l : List It) : (l.flatMap It.cells).length = l.length * 7 := by
  induction l with
  | nil => rfl
  | cons a l ih => rw [List.flatMap_cons, List.length_append, ih, It.cells_length, List.length_cons]; omega
theorem flat_get : ∀ (l : List It) (j i : Nat), j < l.length → i < 7 → (l.flatMap It.cells)[j * 7 + i]? = (l.getD j It.zero).cells[i]?
  | [], j, i, h, _ => absurd h (by simp)
  | a :: l, 0, i, _, hi => by
    rw [List.flatMap_cons, List.getElem?_append_left (by rw [It.cells_length]; omega)]
    simp
  | a :: l, j + 1, i, h, hi => by
    rw [List.flatMap_cons, List.getElem?_append_right (by rw [It.cells_length]; omega), It.cells_length, show (j + 1) * 7 + i - 7 = j * 7 + i by omega, flat_get l j i (by simpa using h) hi]
    simp
end

/- Slices of the reference's items that a call itself has made, and append. -/
section
open Go.RowKit
/-- A slice of the reference's items of one's own. -/
def OwnR (w : World) (base : Nat) (A : Option Addr) (n c : Nat) (l : List It) : Prop := w.ownsRow base 114 7 (.slice A n c) n (l.flatMap It.cells)
theorem OwnR.nil (w : World) (base : Nat) : OwnR w base none 0 0 [] := World.ownsRow_nil _ _ _ _
theorem OwnR.len {w : World} {base : Nat} {A : Option Addr} {n c : Nat} {l : List It} (h : OwnR w base A n c l) : l.length = n := by
  have := h.1
  rw [flat_length] at this
  omega
theorem OwnR.cap {w : World} {base : Nat} {A : Option Addr} {n c : Nat} {l : List It} (h : OwnR w base A n c l) : n ≤ c := by
  rcases h.2 with ⟨hv, h0⟩ | ⟨g, cap, cur, hv, _, _, h1, _⟩
  · omega
  · injection hv with _ _ e; omega
theorem OwnR.rowGe {w : World} {base : Nat} {A : Option Addr} {n c : Nat} {l : List It} (h : OwnR w base A n c l) : ∀ k ∈ rowOf A, base ≤ k ∧ k < w.heap.size := by
  intro k hk
  rcases h.2 with ⟨hv, _⟩ | ⟨g, cap, cur, hv, hb, hg, _⟩
  · injection hv with e1; subst e1; simp [rowOf] at hk
  · injection hv with e1; subst e1
    have hkg : k = g := by simpa [rowOf, eq_comm] using hk
    rw [hkg]
    refine ⟨hb, ?_⟩
    rcases Nat.lt_or_ge g w.heap.size with h1 | h1
    · exact h1
    · rw [Array.getElem?_eq_none h1] at hg; cases hg
theorem OwnR.below {w w' : World} {base : Nat} {A : Option Addr} {n c : Nat} {l : List It} (h : OwnR w base A n c l) (hb : Below w.heap.size w w') : OwnR w' base A n c l := by
  obtain ⟨h1, h2⟩ := h
  refine ⟨h1, ?_⟩
  rcases h2 with h2 | ⟨g, cap, cur, hv, hg, hh, r⟩
  · exact .inl h2
  · refine .inr ⟨g, cap, cur, hv, hg, ?_, r⟩
    rw [hb.block g ?_]
    · exact hh
    · rcases Nat.lt_or_ge g w.heap.size with h1 | h1
      · exact h1
      · rw [Array.getElem?_eq_none h1] at hh; cases hh
theorem OwnR.alloc {w : World} {base : Nat} {A : Option Addr} {n c : Nat} {l : List It} (h : OwnR w base A n c l) (o : Obj) : OwnR (w.alloc o) base A n c l := h.below ((Below.refl _ _).alloc (Nat.le_refl _) o)
theorem OwnR.rdi {w : World} {base : Nat} {A : Option Addr} {n c : Nat} {l : List It} (h : OwnR w base A n c l) : RdI w A n l := by
  refine ⟨h.len, fun i hn => ?_⟩
  obtain ⟨g, cap, hv, _, hlt⟩ := h.form (by omega)
  have hA : A = some ⟨g, 0, none⟩ := by injection hv
  subst hA
  refine ⟨g, 0, rfl, hlt, fun j hj => ?_⟩
  have hc : ∀ i, i < 7 → w.cell? ⟨g, 0 + j * 7 + i, none⟩ = (l.getD j It.zero).cells[i]? := fun i hi => by
    rw [← flat_get l j i (by rw [h.len]; exact hj) hi, Nat.zero_add]
    injection hv with _ _ e
    subst e
    exact h.cellAt _ (by omega)
  exact ⟨hc 0 (by omega), hc 1 (by omega), hc 2 (by omega), hc 3 (by omega), hc 4 (by omega), hc 5 (by omega), hc 6 (by omega)⟩
/-- append of one item, in a region that goes in order. -/
theorem wpList_append_ref {ops : Array Oper} {o : Oper} {a : Act} {rest : List Oper} {Q : Exit → Act → World → Prop} (w : World) (hgd : o.guard = none) (s x : Operand)
    (ho : o.op = .call { callee := .builtin .append, args := #[s, x], argTypes := #[65, 65] })
    (base : Nat) (A : Option Addr) (n c : Nat) (l : List It) (hs : a.eval s = .slice A n c) (hown : OwnR w base A n c l) (b : Nat) (d : It) (hx : a.eval x = .slice (some ⟨b, 0, none⟩) 1 1)
    (hcell : Th w b d) (hn : n ≤ 1000000) (hbase : base ≤ w.heap.size)
    (h : ∀ A' c' w', OwnR w' base A' (n + 1) c' (l ++ [d]) → Chg (rowOf A) w w' → (∀ k ∈ rowOf A', k ∈ rowOf A ∨ w.heap.size ≤ k) → wpList Tryz.prog ops Q rest (a.put o.dst (.slice A' (n + 1) c')) w') : wpList Tryz.prog ops Q (o :: rest) a w := by
  obtain ⟨i0, hi, hz0, hz1, hz2⟩ : ∃ i0, Tryz.prog.info? 114 = some i0 ∧ i0.zero = some (.agg #[.int .u64 0, .int .u32 0, .int .u32 0, .int .i64 0, .int .u64 0, .int .u32 0, .int .u32 0]) ∧ i0.size = 7 ∧ i0.bytes = 40 := by
    have hq : (Tryz.prog.info? 114).map (fun i => (i.zero, i.size, i.bytes)) = some (some (.agg #[.int .u64 0, .int .u32 0, .int .u32 0, .int .i64 0, .int .u64 0, .int .u32 0, .int .u32 0]), 7, 40) := by kernel_rfl
    cases hi : Tryz.prog.info? 114 with
    | none => rw [hi] at hq; cases hq
    | some i =>
      rw [hi] at hq
      simp only [Option.map_some, Option.some.injEq, Prod.mk.injEq] at hq
      exact ⟨i, rfl, hq.1, hq.2.1, hq.2.2⟩
  obtain ⟨c0, c1, c2, c3, c4, c5, c6⟩ := hcell
  refine wpList_append_lies w hgd s x 65 ho base 114 i0 (.agg #[.int .u64 0, .int .u32 0, .int .u32 0, .int .i64 0, .int .u64 0, .int .u32 0, .int .u32 0]) 7 40 Tryz.underlying65 hi hz0 hz1 hz2 rfl (by decide) (.slice A n c) n (l.flatMap It.cells) hs hown
    ⟨b, 0, none⟩ 1 1 d.cells hx rfl ?_ ?_ (by decide) (by unfold maxLen; omega) (by omega) hbase _ rfl ?_
  · intro j u hj
    have hadd : (⟨b, 0, none⟩ : Addr).add j = ⟨b, j, none⟩ := by unfold Addr.add; split <;> simp_all
    rw [hadd]
    match j, hj with
    | 0, hj | 1, hj | 2, hj | 3, hj | 4, hj | 5, hj | 6, hj => simp [It.cells] at hj; subst hj; first | exact c0 | exact c1 | exact c2 | exact c3 | exact c4 | exact c5 | exact c6
    | n + 7, hj => simp [It.cells] at hj
  · intro u hu; simp [It.cells] at hu; rcases hu with rfl | rfl | rfl | rfl | rfl | rfl | rfl <;> rfl
  · intro g cap w' h2 h3 h4 _
    refine h _ _ w' (by unfold OwnR; simpa using h2) (Chg.grown h3) (fun k hk => ?_)
    simp [rowOf] at hk
    subst hk
    rcases h4 with h4 | h4
    · exact Or.inl (row_own h4)
    · right; omega
end

end Go.Proofs.YtklaghleghncoaaGreatDoor

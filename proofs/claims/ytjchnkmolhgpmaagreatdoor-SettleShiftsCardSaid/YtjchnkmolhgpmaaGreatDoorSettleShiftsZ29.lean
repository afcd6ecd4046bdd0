/- Texts of SettleShifts's proof, together. -/
import Derived.Test.YtjchnkmolhgpmaaGreatDoorSettleShiftsZ25
import Derived.Test.YtjchnkmolhgpmaaGreatDoorSettleShiftsZ14
import Derived.Test.YtjchnkmolhgpmaaGreatDoorSettleShiftsZ28
import Derived.Test.YtjchnkmolhgpmaaGreatDoorRbM
import Derived.Test.YtjchnkmolhgpmaaGreatDoorSettleShiftsZ11
import Derived.Deep.AppendLies
import Derived.Deep.TreeCalls
namespace Go.Proofs.YtjchnkmolhgpmaaGreatDoor

section
open Go.RowKit
abbrev It.pp (x : It) : Int × Int × Int := (x.t, x.r, x.v)
abbrev It.dp (x : It) : Int × Int × Int := (x.u, x.s, x.y)
def spreadI (base : Int) (l : List It) : Int := IntKind.u64.wrap (IntKind.u64.wrap (max (hiL base (l.map It.pp)) (hiL base (l.map It.dp))) - IntKind.u64.wrap (loL base (l.map It.pp)))
def Tw (w : World) (A : Option Addr) (n c : Nat) (L : List (Int × Int × Int)) (B : Option Addr) (m d : Nat) (M : List (Int × Int × Int)) (wr : World) : Prop :=
 OwnP wr w.heap.size A n c L ∧ OwnP wr w.heap.size B m d M ∧ (∀ q ∈ rowOf A, q ∉ rowOf B) ∧ Below w.heap.size w wr
theorem Tw.below {w w1 w2 : World} {A B : Option Addr} {n c m d : Nat} {L M : List (Int × Int × Int)} (h : Tw w A n c L B m d M w1) (hb : Below w1.heap.size w1 w2) : Tw w A n c L B m d M w2 := ⟨h.1.below hb, h.2.1.below hb, h.2.2.1, below_on h.2.2.2 hb⟩
theorem Tw.flip {w w1 : World} {A B : Option Addr} {n c m d : Nat} {L M : List (Int × Int × Int)} (h : Tw w A n c L B m d M w1) : Tw w B m d M A n c L w1 := ⟨h.2.1, h.1, fun q hq hq' => h.2.2.1 q hq' hq, h.2.2.2⟩
theorem Tw.grow {w w1 w2 : World} {A B A' : Option Addr} {n c c' m d : Nat} {L M : List (Int × Int × Int)} {x : Int × Int × Int} (h : Tw w A n c L B m d M w1) (ho : OwnP w2 w.heap.size A' (n + 1) c' (L ++ [x])) (hc : Chg (rowOf A) w1 w2) (hr : ∀ k ∈ rowOf A', k ∈ rowOf A ∨ w1.heap.size ≤ k) : Tw w A' (n + 1) c' (L ++ [x]) B m d M w2 :=
 ⟨ho, h.2.1.chg hc (fun k hk hk' => h.2.2.1 k hk' hk), fun q hq hq' => by
  rcases hr q hq with h1 | h1
  ·exact h.2.2.1 q h1 hq'
  ·have := (h.2.1.rowGe q hq').2; omega, Below.chg h.2.2.2 hc (fun k hk => (h.1.rowGe k hk).1)⟩
set_option maxRecDepth 100000 in
set_option maxHeartbeats 8000000 in
theorem Item.spread (base : Int) (A : Option Addr) (n c : Nat) (l : List It) (w : World) (hr : RdI w A n l) (hn : n ≤ 1000000) :
  Calls Tryz.prog 192 #[.int .u64 base, .slice A n c] w (Ans (.int .u64 (spreadI base l)) w) := by
 have HR := hid hr;have hni : (n : Int) ≤ 1000000 := by omega
 clear hr;go_enter Tryz.func192, Tryz.ntmps192;go_wp2_with fail
 go_loopg [5, 6, 15] n (fun s a5 a6 i wr => ∃ (k : Nat) (A1 : Option Addr) (c1 : Nat) (A2 : Option Addr) (c2 : Nat), a5 = .slice A1 k c1 ∧ a6 = .slice A2 k c2 ∧ i = .int .i64 k ∧ k ≤ n ∧ s = n - k ∧ Tw w A1 k c1 ((l.take k).map It.pp) A2 k c2 ((l.take k).map It.dp) wr)
 case atStart => exact ⟨0, none, 0, none, 0, rfl, rfl, rfl, Nat.zero_le _, by omega, by simpa using OwnP.nil _ _, by simpa using OwnP.nil _ _, (fun q hq => by simp [rowOf] at hq), Below.refl _ _⟩
 case round =>
  obtain ⟨k, A1, c1, A2, c2, rfl, rfl, rfl, hk, hs, ht⟩ := hrel;have HS := hid hs;have HT := hid ht;clear hs ht;by_cases hkn : k < n
  ·obtain ⟨bb, off, hA, _, hc⟩ := (HR.out.below HT.out.2.2.2).2 0 (by omega);obtain ⟨p0, p1, p2, p3, p4, p5, p6⟩ := hc k hkn;have HTK : Hid (l.take (k + 1) = l.take k ++ [l.getD k It.zero]) := hid (by
    have hkl : k < l.length := by have := HR.out.1; omega
    rw [List.take_succ_eq_append_getElem hkl]; simp [List.getD, hkl])
   generalize l.getD k It.zero = x at *
   subst hA;have hki : (k : Int) < n := by omega
   have hk0 : (0 : Int) ≤ k := by omega
   clear hc;have ha1 := (Below.refl wr.heap.size wr).alloc (Nat.le_refl _) (.cells #[.int .u64 x.t, .int .u32 x.r, .int .u32 x.v, .int .i64 x.i, .int .u64 x.u, .int .u32 x.s, .int .u32 x.y] 57);have ha2 := ha1.alloc (by simp) (.cells #[.int .u64 x.t, .int .u32 x.r, .int .u32 x.v] 55);have HT2 := hid (HT.out.below ha2);have HX2 : Hid (Th ((wr.alloc (.cells #[.int .u64 x.t, .int .u32 x.r, .int .u32 x.v, .int .i64 x.i, .int .u64 x.u, .int .u32 x.s, .int .u32 x.y] 57)).alloc (.cells #[.int .u64 x.t, .int .u32 x.r, .int .u32 x.v] 55)) wr.heap.size x) := hid ((Cs.new7 wr 57 x).alloc _).th7;have hTP : Tp ((wr.alloc (.cells #[.int .u64 x.t, .int .u32 x.r, .int .u32 x.v, .int .i64 x.i, .int .u64 x.u, .int .u32 x.s, .int .u32 x.y] 57)).alloc (.cells #[.int .u64 x.t, .int .u32 x.r, .int .u32 x.v] 55)) (wr.heap.size + 1) x.pp := by
    have := Tp.new (wr.alloc (.cells #[.int .u64 x.t, .int .u32 x.r, .int .u32 x.v, .int .i64 x.i, .int .u64 x.u, .int .u32 x.s, .int .u32 x.y] 57)) 55 x.pp;simp only [World.size_alloc] at this;exact this
   have hOW := HT2.out.1;have hk1 : k ≤ 1000000 := by omega
   have hbs := HT2.out.2.2.2.size;clear ha1 ha2;go_wp2_with (first
    | (at_builtin; (with_reducible refine wpList_append_pos _ rfl (.tmp 19) (.tmp 22) rfl w.heap.size A1 k c1 ((l.take k).map It.pp) ?a1 hOW (wr.heap.size + 1) x.pp ?a2 hTP hk1 hbs ?a3); (case a1 => rfl); (case a2 => rfl); (intro A3 c3 w3 ho3 hc3 hr3); (have HX3 := hid (HX2.out.chg hc3 (fun hm => by have := (HT.out.1.rowGe _ hm).2; omega))); (have HT3 := hid (HT2.out.grow ho3 hc3 hr3)); (clear ho3 hc3 hr3 hTP hOW hbs p0 p1 p2 p3 p4 p5 p6); (obtain ⟨q0, q1, q2, q3, q4, q5, q6⟩ := HX3.out); (have hb4 := (Below.refl w3.heap.size w3).alloc (Nat.le_refl _) (.cells #[.int .u64 x.u, .int .u32 x.s, .int .u32 x.y] 55)); (have HT4 := hid (HT3.out.below hb4)); (have hOW4 := HT4.out.2.1); (have hTP4 : Tp (w3.alloc (.cells #[.int .u64 x.u, .int .u32 x.s, .int .u32 x.y] 55)) w3.heap.size x.dp := Tp.new w3 55 x.dp); (have hbs4 := HT4.out.2.2.2.size); (clear hb4))
    | (at_builtin; (with_reducible refine wpList_append_pos _ rfl (.tmp 24) (.tmp 27) rfl w.heap.size A2 k c2 ((l.take k).map It.dp) ?b1 hOW4 w3.heap.size x.dp ?b2 hTP4 hk1 hbs4 ?b3); (case b1 => rfl); (case b2 => rfl); (intro A5 c5 w5 ho5 hc5 hr5); (have HT5 := hid (HT4.out.flip.grow ho5 hc5 hr5).flip); (clear ho5 hc5 hr5 hTP4 hOW4 hbs4 q0 q1 q2 q3 q4 q5 q6))
    | fail)
   go_roundg (n - (k + 1))
   case measure => have := HS.out; omega
   case rel => exact ⟨k + 1, A3, c3, A5, c5, rfl, rfl, by go_num, by omega, rfl, by rw [HTK.out, List.map_append, List.map_append]; exact HT5.out⟩
  ·obtain rfl : k = n := by omega
   have hki : ¬ (k : Int) < k := by omega
   have ht := HT.out;rw [List.take_of_length_le (by have := HR.out.1; omega)] at ht;have HTF := hid ht;clear ht HT;go_wp2_with fail;refine (Pos.floors base A1 k c1 (l.map It.pp) _ HTF.out.1.rdp (by omega)).mono ?_;rintro e w1 ⟨rfl, hb⟩;have HT1 := hid (HTF.out.below hb);clear hb;go_wp2_with fail;refine (Pos.floors base A2 k c2 (l.map It.dp) _ HT1.out.2.1.rdp (by omega)).mono ?_;rintro e w2 ⟨rfl, hb⟩;have HB := hid (below_on HT1.out.2.2.2 hb);clear hb;go_wp2_with fail;go_ret
   exact ⟨rfl, HB.out⟩
end


section
open Go.RowKit Go.Shelf
theorem eqDless (f : Fn) (a c : Array Value) (w : World) : (binOp .eql 208 (.func f a c) .nilFunc).run Tryz.prog w = .ok (.bool false) w := run_eql_func_nil w _ f a c Tryz.underlying208
theorem eqDone (f : Fn) (a c : Array Value) (w : World) : (binOp .eql 204 (.func f a c) .nilFunc).run Tryz.prog w = .ok (.bool false) w := run_eql_func_nil w _ f a c Tryz.underlying204
theorem eqDtwo (f : Fn) (a c : Array Value) (w : World) : (binOp .eql 206 (.func f a c) .nilFunc).run Tryz.prog w = .ok (.bool false) w := run_eql_func_nil w _ f a c Tryz.underlying206
theorem eqDin (f : Fn) (a c : Array Value) (w : World) : (binOp .eql 148 (.func f a c) .nilFunc).run Tryz.prog w = .ok (.bool false) w := run_eql_func_nil w _ f a c Tryz.underlying148
def DNews (w : World) (e : Ending) (w' : World) : Prop := ∃ th, e = .returned (.pointer (some ⟨th, 0, none⟩)) ∧ w.heap.size ≤ th ∧ DTreeAt w' th .nil ∧ Below w.heap.size w w'
section
attribute [local go_sem] eqDless eqDone eqDtwo
set_option maxRecDepth 100000 in
set_option maxHeartbeats 1000000 in
theorem Dt.new (w : World) :
  Calls Tryz.prog 132 #[(.func (.func 133) #[] #[]), (.func (.func 129) #[] #[]), (.func (.func 130) #[] #[])] w (DNews w) := by
 have HN : Hid (∀ W, W = ((w.alloc (.cells #[(.func (.func 129) #[] #[])] 204)).alloc (.cells #[(.func (.func 130) #[] #[])] 206)) →
   DTreeAt (W.alloc (.cells #[(.func (.func 133) #[] #[]), (.func (.func 130) #[] #[]), (.func (.func 188) #[] #[.pointer (some ⟨w.heap.size, 0, none⟩), .pointer (some ⟨w.heap.size + 1, 0, none⟩)]), .pointer none, .int .i64 0] 229)) (w.heap.size + 2) .nil) := hid (by
  rintro W rfl;have h1 := Cs.alloc_new w 204 [(.func (.func 129) #[] #[])];have h2 := Cs.alloc_new (w.alloc (.cells #[(.func (.func 129) #[] #[])] 204)) 206 [(.func (.func 130) #[] #[])];have h3 := Cs.alloc_new ((w.alloc (.cells #[(.func (.func 129) #[] #[])] 204)).alloc (.cells #[(.func (.func 130) #[] #[])] 206)) 229 [(.func (.func 133) #[] #[]), (.func (.func 130) #[] #[]), (.func (.func 188) #[] #[.pointer (some ⟨w.heap.size, 0, none⟩), .pointer (some ⟨w.heap.size + 1, 0, none⟩)]), .pointer none, .int .i64 0];simp only [World.size_alloc] at h2 h3;refine ⟨⟨w.heap.size, w.heap.size + 1, h3, (h1.alloc _).alloc _, h2.alloc _, ?_, ?_, ?_, by omega, by omega⟩, trivial, List.nodup_nil⟩
  ·simp [go_sem]
  ·simp [go_sem]
  ·simp [go_sem])
 go_enter Tryz.func132, Tryz.ntmps132;go_wp2_with fail;go_ret
 exact ⟨w.heap.size + 2, rfl, by omega, HN.out _ rfl, (((Below.refl _ _).alloc (Nat.le_refl _) _).alloc (by simp) _).alloc (by simp; omega) _⟩
end
inductive Built : List It → Tr It → Prop
 | nil : Built [] .nil
 | put {l : List It} {t : Tr It} {x : It} {k : Nat} : Built l t → Tr.has It.ahead x t = false → Built (l ++ [x]) ((Tr.put It.ahead k x t).paint false)
 | skip {l : List It} {t : Tr It} {x : It} : Built l t → Tr.has It.ahead x t = true → Built (l ++ [x]) t
theorem Built.len {l : List It} {t : Tr It} (h : Built l t) : t.list.length ≤ l.length := by
 induction h with
 | nil => simp [Tr.list]
 | put _ _ ih => rw [Tr.list_paint, Tr.length_put]; simp; omega
 | skip _ _ ih => simp; omega
def Gd (w : World) (th : Nat) (t : Tr It) (w' : World) : Prop := DTreeAt w' th t ∧ w.heap.size ≤ th ∧ (∀ g ∈ t.blocks, w.heap.size ≤ g) ∧ Below w.heap.size w w'
theorem Gd.below {w w1 w2 : World} {th : Nat} {t : Tr It} (h : Gd w th t w1) (hb : Below w1.heap.size w1 w2) : Gd w th t w2 := ⟨h.1.below hb, h.2.1, h.2.2.1, below_on h.2.2.2 hb⟩
theorem Gd.ins {w w1 w2 : World} {th : Nat} {t : Tr It} {x : It} {k : Nat} (h : Gd w th t w1) (hk : w1.heap.size ≤ k) (ht : DTreeAt w2 th ((Tr.put It.ahead k x t).paint false)) (hc : Chg (th :: t.blocks) w1 w2) : Gd w th ((Tr.put It.ahead k x t).paint false) w2 :=
 ⟨ht, h.2.1, fun g hg => by
  rw [Tr.blocks_paint] at hg;rcases List.mem_cons.1 ((Tr.perm_put It.ahead k x t).mem_iff.1 hg) with rfl | h1
  ·exact Nat.le_trans h.2.2.2.size hk
  ·exact h.2.2.1 g h1, h.2.2.2.trans (hc.toBelow h.2.2.2.size (fun g hg => by
  rcases List.mem_cons.1 hg with rfl | h1
  ·exact h.2.1
  ·exact h.2.2.1 g h1))⟩
end


section
open Go.RowKit
def foldD (p : It → Bool) : Tr It → Bool × It → Bool × It
 | .nil, acc => acc
 | .node _ _ l x r, acc => if p x then foldD p r (true, if acc.1 then sooner acc.2 (bestL l x) else bestL l x) else foldD p l acc
def Fv (w : World) (a : It) (w' : World) : Prop := (∃ z : It, Cs w' w.heap.size z.cells) ∧ Cs w' (w.heap.size + 1) a.cells ∧ Below w.heap.size w w'
theorem Fv.below {w w1 w2 : World} {a : It} (h : Fv w a w1) (hb : Below w1.heap.size w1 w2) : Fv w a w2 := ⟨by obtain ⟨z, hz⟩ := h.1; exact ⟨z, hz.below hb⟩, h.2.1.below hb, below_on h.2.2 hb⟩
theorem Fv.store {w w1 : World} {a : It} (h : Fv w a w1) (k : It) : ∀ W, W = w1.setCells (w.heap.size + 1) 0 k.cells → Fv w k W := fun W e => by
 obtain ⟨⟨z, hz⟩, h1, h2⟩ := h;rw [e];exact ⟨⟨z, hz.fars (by omega) _ _⟩, h1.stored k, below_sets (by omega) _ _ h2⟩
theorem Fv.other {w w1 : World} {a : It} (h : Fv w a w1) {b : Nat} (hb : w.heap.size + 1 < b) (k : It) : Fv w a (w1.setCells b 0 k.cells) := by
 obtain ⟨⟨z, hz⟩, h1, h2⟩ := h;exact ⟨⟨z, hz.fars (by omega) _ _⟩, h1.fars (by omega) _ _, below_sets (by omega) _ _ h2⟩
theorem Cs.lt7 {w : World} {g : Nat} {a : It} (h : Cs w g a.cells) : g < w.heap.size := World.block_lt_of_cell? w _ (h 0 _ rfl).1
end


section
open Go.RowKit
def IsBest (a : It) (L : List It) : Prop := a ∈ L ∧ ∀ b ∈ L, It.due b a = false
theorem Tr.isNil_list {t : Tr It} (h : t.isNil = true) : t.list = [] := by cases t with
 | nil => rfl
 | node g c l x r => simp [Tr.isNil] at h
def SrtI (L : List It) : Prop := L.Pairwise (fun a b => It.ahead a b = true)
def Desc (q : Bool × It) (M : List It) : Prop := (q.1 = false ∧ q.2 = It.zero ∧ M = []) ∨ (q.1 = true ∧ IsBest q.2 M)
def same (x y : It) : Prop := It.ahead x y = false ∧ It.ahead y x = false
def insI (x : It) (L : List It) : List It := L.takeWhile (fun y => !It.ahead x y) ++ x :: L.dropWhile (fun y => !It.ahead x y)
theorem takeWhile_allI {p : It → Bool} (L : List It) : ∀ a ∈ L.takeWhile p, p a = true := by
 induction L with
 | nil => intro a h; simp at h
 | cons b bs ih =>
  intro a h;rw [List.takeWhile_cons] at h;split at h
  ·rcases List.mem_cons.1 h with rfl | h
   ·assumption
   ·exact ih a h
  ·simp at h
end


section
open Go.RowKit
theorem foldMin_le (b : Int) (ps : List (Int × Int × Int)) : ∀ m : Int, ps.foldl (fun m q => min m (dif q.1 b)) m ≤ m := by
 induction ps with
 | nil => intro m; exact Int.le_refl _
 | cons p ps ih => intro m; exact Int.le_trans (ih _) (by show min m (dif p.1 b) ≤ m; omega)
theorem foldMax_ge (b : Int) (ps : List (Int × Int × Int)) : ∀ m : Int, m ≤ ps.foldl (fun m q => max m (dif q.1 b)) m := by
 induction ps with
 | nil => intro m; exact Int.le_refl _
 | cons p ps ih => intro m; exact Int.le_trans (by show m ≤ max m (dif p.1 b); omega) (ih _)
theorem foldMin_bd (b : Int) (ps : List (Int × Int × Int)) : ∀ m : Int, -9223372036854775808 ≤ m → -9223372036854775808 ≤ ps.foldl (fun m q => min m (dif q.1 b)) m := by
 induction ps with
 | nil => intro m h; exact h
 | cons p ps ih => intro m h; exact ih _ (by have := dif_bd p.1 b; show -9223372036854775808 ≤ min m (dif p.1 b); omega)
theorem foldMax_bd (b : Int) (ps : List (Int × Int × Int)) : ∀ m : Int, m ≤ 9223372036854775807 → ps.foldl (fun m q => max m (dif q.1 b)) m ≤ 9223372036854775807 := by
 induction ps with
 | nil => intro m h; exact h
 | cons p ps ih => intro m h; exact ih _ (by have := dif_bd p.1 b; show max m (dif p.1 b) ≤ 9223372036854775807; omega)
theorem spreadI_eq (b : Int) (l : List It) : spreadI b l = max (hiL b (l.map It.pp)) (hiL b (l.map It.dp)) - loL b (l.map It.pp) ∧ 0 ≤ spreadI b l ∧ spreadI b l ≤ 18446744073709551615 := by
 have key : ∀ M m : Int, m ≤ M → -9223372036854775808 ≤ m → M ≤ 9223372036854775807 → IntKind.u64.wrap (IntKind.u64.wrap M - IntKind.u64.wrap m) = M - m := by
  intro M m h1 h2 h3;rw [IntKind.wrap_u64, IntKind.wrap_u64, IntKind.wrap_u64];omega
 unfold spreadI;cases l with
 | nil =>
  have e : loL b ([].map It.pp) = 0 ∧ hiL b ([].map It.pp) = 0 ∧ hiL b ([].map It.dp) = 0 := ⟨rfl, rfl, rfl⟩
  rw [e.1, e.2.1, e.2.2, key (max 0 0) 0 (by omega) (by omega) (by omega)];omega
 | cons a l =>
  have h1 : loL b ((a :: l).map It.pp) ≤ dif a.t b := foldMin_le b (l.map It.pp) _;have h2 : dif a.t b ≤ hiL b ((a :: l).map It.pp) := foldMax_ge b (l.map It.pp) _;have h3 : -9223372036854775808 ≤ loL b ((a :: l).map It.pp) := foldMin_bd b (l.map It.pp) _ (dif_bd _ _).1;have h4 : hiL b ((a :: l).map It.pp) ≤ 9223372036854775807 := foldMax_bd b (l.map It.pp) _ (dif_bd _ _).2;have h5 : hiL b ((a :: l).map It.dp) ≤ 9223372036854775807 := foldMax_bd b (l.map It.dp) _ (dif_bd _ _).2;rw [key _ _ (by omega) h3 (by omega)];omega
end


section
open Go.RowKit
def DNew (l : List It) (w : World) (e : Ending) (w' : World) : Prop := ∃ th t, e = .returned (.agg #[.pointer (some ⟨th, 0, none⟩)]) ∧ Built l t ∧ Gd w th t w'
def Dn (w : World) (b th : Nat) (t : Tr It) (wr : World) : Prop := Gd w th t wr ∧ Cs wr w.heap.size [.pointer none] ∧ Cs wr b [.pointer (some ⟨th, 0, none⟩)] ∧ (∀ g ∈ th :: t.blocks, g ≠ w.heap.size ∧ g ≠ b)
theorem Dn.below {w w1 w2 : World} {b th : Nat} {t : Tr It} (h : Dn w b th t w1) (hb : Below w1.heap.size w1 w2) : Dn w b th t w2 := ⟨h.1.below hb, h.2.1.below hb, h.2.2.1.below hb, h.2.2.2⟩
theorem Dn.ins {w w1 w2 : World} {b th : Nat} {t : Tr It} {x : It} {k : Nat} (h : Dn w b th t w1) (hk : w1.heap.size ≤ k) (ht : DTreeAt w2 th ((Tr.put It.ahead k x t).paint false)) (hc : Chg (th :: t.blocks) w1 w2) : Dn w b th ((Tr.put It.ahead k x t).paint false) w2 :=
 ⟨h.1.ins hk ht hc, h.2.1.chg hc (fun hm => (h.2.2.2 _ hm).1 rfl), h.2.2.1.chg hc (fun hm => (h.2.2.2 _ hm).2 rfl), fun g hg => by
  rcases List.mem_cons.1 hg with rfl | h1
  ·exact h.2.2.2 _ (by simp)
  ·rw [Tr.blocks_paint] at h1;rcases List.mem_cons.1 ((Tr.perm_put It.ahead k x t).mem_iff.1 h1) with rfl | h2
   ·have h3 := h.2.1.lt;have h4 := h.2.2.1.lt;exact ⟨by omega, by omega⟩
   ·exact h.2.2.2 g (by simp [h2])⟩
theorem DIn.far1 {w W : World} {t : Tr It} (h : DIn w t) {b : Nat} {o : Nat} {u : Value} (e : W = w.setCell ⟨b, o, none⟩ u) (hb : b ∉ t.blocks) : DIn W t := by
 have hch : Chg [b] w W := by rw [e]; exact (Chg.refl _ _).set (Or.inl (by simp)) _ _
 induction t with
 | nil => trivial
 | node g c l x r ihl ihr =>
  obtain ⟨⟨v, hv, hc⟩, hl, hr⟩ := h;simp only [Tr.blocks, List.mem_cons, List.mem_append, not_or] at hb;exact ⟨⟨v, hv, hc.chg hch (by simp; exact fun e => hb.1 e.symm)⟩, ihl hl hb.2.1, ihr hr hb.2.2⟩
theorem DEnv.far1 {w W : World} {th : Nat} {rt : Value} {n : Int} {b : Nat} {v u : Value} (h : DEnv w th rt n) (hc : Cs w b [v]) (hp : ∃ p, v = .pointer p) (hth : th ≠ b) (e : W = w.setCell ⟨b, 0, none⟩ u) : DEnv W th rt n := by
 obtain ⟨p, rfl⟩ := hp;obtain ⟨b1, b2, h0, h1, h2, n0, n1, n2, f1, f2⟩ := h;have hch : Chg [b] w W := by rw [e]; exact (Chg.refl _ _).set (Or.inl (by simp)) _ _
 have g1 : b1 ∉ [b] := fun hm => by simp at hm; subst hm; have := hc.at0; rw [h1.at0] at this; cases this
 have g2 : b2 ∉ [b] := fun hm => by simp at hm; subst hm; have := hc.at0; rw [h2.at0] at this; cases this
 have g0 : th ∉ [b] := by simpa using hth
 exact ⟨b1, b2, h0.chg hch g0, h1.chg hch g1, h2.chg hch g2, (hch.cell (p := ⟨th, 14, none⟩) h0.lt g0).trans n0, (hch.cell (p := ⟨b1, 14, none⟩) h1.lt g1).trans n1, (hch.cell (p := ⟨b2, 14, none⟩) h2.lt g2).trans n2, f1, f2⟩
set_option maxRecDepth 100000 in
set_option maxHeartbeats 4000000 in
theorem Dtree.new (A : Option Addr) (n c : Nat) (l : List It) (w : World) (hr : RdI w A n l) (hl : InI l) (hn : n ≤ 800000) :
  Calls Tryz.prog 88 #[.slice A n c] w (DNew l w) := by
 have HR := hid hr;have HL := hid hl;have hni : (n : Int) ≤ 800000 := by omega
 clear hr hl;go_enter Tryz.func88, Tryz.ntmps88;go_wp2_with fail;refine (Dt.new _).mono ?_;rintro e w1 ⟨th, rfl, hth, ht, hb⟩;have hb1 := below_on ((Below.refl w.heap.size w).alloc (Nat.le_refl _) (.cells #[.pointer none] 115)) hb;have HD0 : Hid (Dn w w1.heap.size th .nil (w1.alloc (.cells #[.pointer (some ⟨th, 0, none⟩)] 115))) := hid (by
  have hz := Cs.alloc_new w 115 [.pointer none];have hz2 := Cs.alloc_new w1 115 [.pointer (some ⟨th, 0, none⟩)];have hlt : th < w1.heap.size := by obtain ⟨_, _, t0, _⟩ := ht.1; exact t0.lt
  simp at hth;have ha := (Below.refl w1.heap.size w1).alloc (Nat.le_refl _) (.cells #[.pointer (some ⟨th, 0, none⟩)] 115);exact ⟨⟨ht.below ha, by omega, fun g hg => by simp [Tr.blocks] at hg, below_on hb1 ha⟩, (hz.below hb).below ha, hz2, fun g hg => by
   simp [Tr.blocks] at hg; subst hg; exact ⟨by omega, by omega⟩⟩)
 clear hth ht hb hb1;go_wp2_with fail;generalize hbb : w1.heap.size = b at HD0 ⊢;generalize (w1.alloc (.cells #[.pointer (some ⟨th, 0, none⟩)] 115)) = W1 at HD0 ⊢
 go_loopg [14] n (fun s i wr => ∃ (k : Nat) (t : Tr It), i = .int .i64 k ∧ k ≤ n ∧ s = n - k ∧ Built (l.take k) t ∧ Dn w b th t wr)
 case atStart => exact ⟨0, .nil, rfl, Nat.zero_le _, by omega, by simpa using Built.nil, HD0.out⟩
 case round =>
  obtain ⟨k, t, rfl, hk, hs, hbt, hd⟩ := hrel;have HS := hid hs;have HBT := hid hbt;have HD := hid hd;clear hs hbt hd HD0;by_cases hkn : k < n
  ·obtain ⟨bb, off, hA, _, hc⟩ := (HR.out.below HD.out.1.2.2.2).2 0 (by omega);obtain ⟨p0, p1, p2, p3, p4, p5, p6⟩ := hc k hkn;have HX := hid (HL.out.get (show k < l.length by have := HR.out.1; omega));have HTK : Hid (l.take (k + 1) = l.take k ++ [l.getD k It.zero]) := hid (by
    have hkl : k < l.length := by have := HR.out.1; omega
    rw [List.take_succ_eq_append_getElem hkl]; simp [List.getD, hkl])
   have HLT : Hid (t.list.length < 900000) := hid (by have h1 := HBT.out.len; simp at h1; omega);generalize l.getD k It.zero = x at *
   subst hA;have hki : (k : Int) < n := by omega
   clear hc;have HDa := hid (HD.out.below ((Below.refl wr.heap.size wr).alloc (Nat.le_refl _) (.cells #[.int .u64 x.t, .int .u32 x.r, .int .u32 x.v, .int .i64 x.i, .int .u64 x.u, .int .u32 x.s, .int .u32 x.y] 57)));have q := HDa.out.2.2.1.at0;cases hh : Tr.has It.ahead x t with
   | true =>
    have HH := hid hh;clear hh;go_wp2_with fail;refine (Dt.insert_no th t x HX.out _ HDa.out.1.1 HH.out).mono ?_;rintro e w3 ⟨rfl, hb3⟩;have HD3 := hid (HDa.out.below hb3);clear hb3 q p0 p1 p2 p3 p4 p5 p6;go_wp2_with fail;go_roundg (n - (k + 1))
    case measure => have := HS.out; omega
    case rel => exact ⟨k + 1, t, by go_num, by omega, rfl, by rw [HTK.out]; exact .skip HBT.out HH.out, HD3.out⟩
   | false =>
    have HH := hid hh;clear hh;go_wp2_with fail;refine (Dt.insert th t x HX.out _ HDa.out.1.1 HLT.out HH.out).mono ?_;rintro e w3 ⟨k', hk', rfl, ht', hc'⟩;have HD3 := hid (HDa.out.ins hk' ht' hc');clear hk' ht' hc' q p0 p1 p2 p3 p4 p5 p6;go_wp2_with fail;go_roundg (n - (k + 1))
    case measure => have := HS.out; omega
    case rel => exact ⟨k + 1, _, by go_num, by omega, rfl, by rw [HTK.out]; exact .put HBT.out HH.out, HD3.out⟩
  ·obtain rfl : k = n := by omega
   have hki : ¬ (k : Int) < k := by omega
   have hq := HBT.out;rw [List.take_of_length_le (by have := HR.out.1; omega)] at hq;have HQ := hid hq;clear hq;have q0 := HD.out.2.2.1.at0;have q1 := HD.out.2.1.at0;have q2 := HD.out.2.1.fr0;have HFIN : Hid (∀ W, W = wr.setCell ⟨w.heap.size, 0, none⟩ (.pointer (some ⟨th, 0, none⟩)) → Gd w th t W ∧ W.cell? ⟨w.heap.size, 0, none⟩ = some (.pointer (some ⟨th, 0, none⟩))) := hid (by
    intro W e;obtain ⟨⟨h1, h2, h3, h4⟩, h5, h6, h7⟩ := HD.out;have hch : Chg [w.heap.size] wr W := by rw [e]; exact (Chg.refl _ _).set (Or.inl (by simp)) _ _
    have hno : ∀ g ∈ th :: t.blocks, g ∉ [w.heap.size] := fun g hg hg' => by simp at hg'; exact (h7 g hg).1 hg'
    refine ⟨⟨⟨DEnv.far1 h1.1 h5 ⟨_, rfl⟩ (h7 th (by simp)).1 e, DIn.far1 h1.2.1 e (fun hm => (h7 _ (by simp [hm])).1 rfl), h1.2.2⟩, h2, h3, h4.trans (hch.toBelow h4.size (fun g hg => by simp at hg; omega))⟩, by rw [e]; exact World.cell?_setCell_same _ _ _ q1⟩)
   go_wp2_with fail;have HF2 := hid (HFIN.out _ rfl);clear HFIN q0 q1 q2;generalize wr.setCell ⟨w.heap.size, 0, none⟩ (.pointer (some ⟨th, 0, none⟩)) = W9 at HF2 ⊢;have q := HF2.out.2;refine bodyPost_ret (v := .agg #[.pointer (some ⟨th, 0, none⟩)]) (by simp [results, Tryz.results88, go_sem, q]) rfl ⟨th, t, rfl, HQ.out, HF2.out.1⟩
theorem Built.nil_inv {t : Tr It} {L : List It} (h : Built L t) (e : L = []) : t = .nil := by
 cases h with
 | nil => rfl
 | put h1 h2 => exact absurd (congrArg List.length e) (by simp)
 | skip h1 h2 => exact absurd (congrArg List.length e) (by simp)
end


section
open Go.RowKit
def It.shift (d : Int) (a : It) : It := It.mk (IntKind.u64.wrap (a.t + d)) a.r a.v a.i (IntKind.u64.wrap (a.u + d)) a.s a.y
theorem It.shift_in (d : Int) {a : It} (h : a.In) : (It.shift d a).In := by
 obtain ⟨h0, h1, h2, h3, h4, h5, h6⟩ := h;refine ⟨?_, h1, h2, h3, ?_, h5, h6⟩ <;> (show 0 ≤ IntKind.u64.wrap _ ∧ IntKind.u64.wrap _ ≤ 18446744073709551615; rw [IntKind.wrap_u64]; omega)
end


section
open Go.RowKit
def OwnI (w : World) (base : Nat) (A : Option Addr) (n c : Nat) (l : List It) : Prop := w.ownsRow base 57 7 (.slice A n c) n (l.flatMap It.cells)
theorem It.cells_length (a : It) : a.cells.length = 7 := rfl
theorem flat_length (l : List It) : (l.flatMap It.cells).length = l.length * 7 := by
 induction l with
 | nil => rfl
 | cons a l ih => rw [List.flatMap_cons, List.length_append, ih, It.cells_length, List.length_cons]; omega
theorem flat_getI : ∀ (l : List It) (j i : Nat), j < l.length → i < 7 → (l.flatMap It.cells)[j * 7 + i]? = (l.getD j It.zero).cells[i]?
 | [], j, i, h, _ => absurd h (by simp)
 | a :: l, 0, i, _, hi => by
  rw [List.flatMap_cons, List.getElem?_append_left (by rw [It.cells_length]; omega)];simp
 | a :: l, j + 1, i, h, hi => by
  rw [List.flatMap_cons, List.getElem?_append_right (by rw [It.cells_length]; omega), It.cells_length, show (j + 1) * 7 + i - 7 = j * 7 + i by omega, flat_getI l j i (by simpa using h) hi];simp
theorem OwnI.nil (w : World) (base : Nat) : OwnI w base none 0 0 [] := World.ownsRow_nil _ _ _ _
theorem OwnI.len {w : World} {base : Nat} {A : Option Addr} {n c : Nat} {l : List It} (h : OwnI w base A n c l) : l.length = n := by
 have := h.1;rw [flat_length] at this;omega
theorem OwnI.rowGe {w : World} {base : Nat} {A : Option Addr} {n c : Nat} {l : List It} (h : OwnI w base A n c l) : ∀ k ∈ rowOf A, base ≤ k ∧ k < w.heap.size := by
 intro k hk;rcases h.2 with ⟨hv, _⟩ | ⟨g, cap, cur, hv, hb, hg, _⟩
 ·injection hv with e1; subst e1; simp [rowOf] at hk
 ·injection hv with e1; subst e1;have hkg : k = g := by simpa [rowOf, eq_comm] using hk
  rw [hkg];refine ⟨hb, ?_⟩;rcases Nat.lt_or_ge g w.heap.size with h1 | h1
  ·exact h1
  ·rw [Array.getElem?_eq_none h1] at hg; cases hg
theorem OwnI.below {w w' : World} {base : Nat} {A : Option Addr} {n c : Nat} {l : List It} (h : OwnI w base A n c l) (hb : Below w.heap.size w w') : OwnI w' base A n c l := by
 obtain ⟨h1, h2⟩ := h;refine ⟨h1, ?_⟩;rcases h2 with h2 | ⟨g, cap, cur, hv, hg, hh, r⟩
 ·exact .inl h2
 ·refine .inr ⟨g, cap, cur, hv, hg, ?_, r⟩;rw [hb.block g ?_]
  ·exact hh
  ·rcases Nat.lt_or_ge g w.heap.size with h1 | h1
   ·exact h1
   ·rw [Array.getElem?_eq_none h1] at hh; cases hh
theorem OwnI.alloc {w : World} {base : Nat} {A : Option Addr} {n c : Nat} {l : List It} (h : OwnI w base A n c l) (o : Obj) : OwnI (w.alloc o) base A n c l := h.below ((Below.refl _ _).alloc (Nat.le_refl _) o)
theorem OwnI.rdi {w : World} {base : Nat} {A : Option Addr} {n c : Nat} {l : List It} (h : OwnI w base A n c l) : RdI w A n l := by
 refine ⟨h.len, fun i hn => ?_⟩;obtain ⟨g, cap, hv, _, hlt⟩ := h.form (by omega);have hA : A = some ⟨g, 0, none⟩ := by injection hv
 subst hA;refine ⟨g, 0, rfl, hlt, fun j hj => ?_⟩;have hc : ∀ i, i < 7 → w.cell? ⟨g, 0 + j * 7 + i, none⟩ = (l.getD j It.zero).cells[i]? := fun i hi => by
  rw [← flat_getI l j i (by rw [h.len]; exact hj) hi, Nat.zero_add];injection hv with _ _ e;subst e;exact h.cellAt _ (by omega)
 exact ⟨hc 0 (by omega), hc 1 (by omega), hc 2 (by omega), hc 3 (by omega), hc 4 (by omega), hc 5 (by omega), hc 6 (by omega)⟩
theorem step_append_it {ops : Array Oper} {o : Oper} {a : Act} {K : Act → World → Prop} {Q : Exit → Act → World → Prop} {E : Prop} (w : World) (hgd : o.guard = none) (s x : Operand)
  (ho : o.op = .call { callee := .builtin .append, args := #[s, x], argTypes := #[156, 156] })
  (base : Nat) (A : Option Addr) (n c : Nat) (l : List It) (hs : a.eval s = .slice A n c) (hown : OwnI w base A n c l) (b : Nat) (d : It) (hx : a.eval x = .slice (some ⟨b, 0, none⟩) 1 1)
  (hcell : Th w b d) (hn : n ≤ 1000000) (hbase : base ≤ w.heap.size)
  (h : ∀ A' c' w', OwnI w' base A' (n + 1) c' (l ++ [d]) → Chg (rowOf A) w w' → (∀ k ∈ rowOf A', k ∈ rowOf A ∨ w.heap.size ≤ k) → K (a.put o.dst (.slice A' (n + 1) c')) w') :
  if Region.wanted o (yielded ops a.tmps) = true then Oper.wp Tryz.prog o a w K Q else E := by
 obtain ⟨i0, hi, hz0, hz1, hz2⟩ : ∃ i0, Tryz.prog.info? 57 = some i0 ∧ i0.zero = some (.agg #[.int .u64 0, .int .u32 0, .int .u32 0, .int .i64 0, .int .u64 0, .int .u32 0, .int .u32 0]) ∧ i0.size = 7 ∧ i0.bytes = 40 := by
  have hq : (Tryz.prog.info? 57).map (fun i => (i.zero, i.size, i.bytes)) = some (some (.agg #[.int .u64 0, .int .u32 0, .int .u32 0, .int .i64 0, .int .u64 0, .int .u32 0, .int .u32 0]), 7, 40) := by kernel_rfl
  cases hi : Tryz.prog.info? 57 with
  | none => rw [hi] at hq; cases hq
  | some i =>
   rw [hi] at hq;simp only [Option.map_some, Option.some.injEq, Prod.mk.injEq] at hq;exact ⟨i, rfl, hq.1, hq.2.1, hq.2.2⟩
 obtain ⟨c0, c1, c2, c3, c4, c5, c6⟩ := hcell;refine step_append_lies w hgd s x 156 ho base 57 i0 (.agg #[.int .u64 0, .int .u32 0, .int .u32 0, .int .i64 0, .int .u64 0, .int .u32 0, .int .u32 0]) 7 40 Tryz.underlying156 hi hz0 hz1 hz2 rfl (by decide) (.slice A n c) n (l.flatMap It.cells) hs hown
  ⟨b, 0, none⟩ 1 1 d.cells hx rfl ?_ ?_ (by decide) (by unfold maxLen; omega) (by omega) hbase _ rfl ?_
 ·intro j u hj;have hadd : (⟨b, 0, none⟩ : Addr).add j = ⟨b, j, none⟩ := by unfold Addr.add; split <;> simp_all
  rw [hadd]
  match j, hj with
  | 0, hj | 1, hj | 2, hj | 3, hj | 4, hj | 5, hj | 6, hj => simp [It.cells] at hj; subst hj; first | exact c0 | exact c1 | exact c2 | exact c3 | exact c4 | exact c5 | exact c6
  | n + 7, hj => simp [It.cells] at hj
 ·intro u hu; simp [It.cells] at hu; rcases hu with rfl | rfl | rfl | rfl | rfl | rfl | rfl <;> rfl
 ·intro g cap w' h2 h3 h4 _;refine h _ _ w' (by unfold OwnI; simpa using h2) (Chg.grown h3) (fun k hk => ?_);simp [rowOf] at hk;subst hk;rcases h4 with h4 | h4
  ·exact Or.inl (row_own h4)
  ·right; omega
end


section
open Go.RowKit
def DAdds (W0 : World) (A0 : Option Addr) (L : List It) (w : World) (e : Ending) (w' : World) : Prop := ∃ A n c, e = .returned (.slice A n c) ∧ OwnI w' W0.heap.size A n c L ∧ Below W0.heap.size W0 w' ∧ Chg (rowOf A0) w w' ∧ ∀ k ∈ rowOf A, k ∈ rowOf A0 ∨ w.heap.size ≤ k
theorem cell_newI {w w2 : World} {base : Nat} {A : Option Addr} {n c : Nat} {l : List It} {x : It} {t : TypeId} (ho : OwnI w base A n c l) (hc : Chg (rowOf A) (w.alloc (.cells #[.int .u64 x.t, .int .u32 x.r, .int .u32 x.v, .int .i64 x.i, .int .u64 x.u, .int .u32 x.s, .int .u32 x.y] t)).drew w2) : Th w2 w.heap.size x :=
 (show Th (w.alloc (.cells #[.int .u64 x.t, .int .u32 x.r, .int .u32 x.v, .int .i64 x.i, .int .u64 x.u, .int .u32 x.s, .int .u32 x.y] t)).drew w.heap.size x from (Cs.new7 w t x).th7).chg hc (fun hm => by have := (ho.rowGe _ hm).2; omega)
set_option maxRecDepth 100000 in
set_option maxHeartbeats 2000000 in
theorem Dt.addTo (W0 : World) (t : Tr It) : DIn W0 t → ∀ (w : World) (A : Option Addr) (n c : Nat) (zs : List It), Below W0.heap.size W0 w → OwnI w W0.heap.size A n c zs → zs.length + t.list.length ≤ 900000 →
  Calls Tryz.prog 169 #[ptr t, .slice A n c] w (DAdds W0 A (zs ++ t.list) w) := by
 induction t with
 | nil =>
  intro _ w A n c zs hb ho _;have HB := hid hb;have HO := hid ho;clear hb ho;simp only [ptr_nil];go_enter Tryz.func169, Tryz.ntmps169;go_wp2_with fail;go_ret
  exact ⟨A, n, c, rfl, by simpa [Tr.list] using HO.out, HB.out, Chg.refl _ _, fun k hk => Or.inl hk⟩
 | node g cc l x r ihl ihr =>
  intro h w A n c zs hb ho hn;have IL := hid (ihl h.2.1);have IR := hid (ihr h.2.2);have HI := hid h;have HB := hid hb;have HO := hid ho;simp only [Tr.list, List.length_append, List.length_cons] at hn;obtain ⟨⟨v, _, hc⟩, _, _⟩ := h;have HQ : Hid (∀ w', Below W0.heap.size W0 w' → (w'.cell? ⟨g, 15, none⟩ = some (ptr r) ∧ w'.cell? ⟨g, 14, none⟩ = some (ptr l) ∧ (w'.cell? ⟨g, 0, none⟩ = some (.int .u64 x.t) ∧ w'.cell? ⟨g, 1, none⟩ = some (.int .u32 x.r) ∧ w'.cell? ⟨g, 2, none⟩ = some (.int .u32 x.v) ∧ w'.cell? ⟨g, 3, none⟩ = some (.int .i64 x.i) ∧ w'.cell? ⟨g, 4, none⟩ = some (.int .u64 x.u) ∧ w'.cell? ⟨g, 5, none⟩ = some (.int .u32 x.s) ∧ w'.cell? ⟨g, 6, none⟩ = some (.int .u32 x.y))) ∧ Below W0.heap.size W0 w') := hid (fun w' hb => ⟨⟨keep1 hb hc.nd3, keep1 hb hc.nd2, (hc.th.below hb)⟩, hb⟩);have HLN := hid ho.len;have hn1 : zs.length + l.list.length ≤ 900000 := by omega
  have hn2 : (zs ++ l.list ++ [x]).length + r.list.length ≤ 900000 := by simp; omega
  have HN1 := hid hn1;have HN2 := hid hn2;have hz := hb.size;clear hb ho hc ihl ihr hn1 hn2;simp only [ptr_node];go_enter Tryz.func169, Tryz.ntmps169;go_wp2_with fail
  go_region_held3 (fun w' => (w'.cell? ⟨g, 15, none⟩ = some (ptr r) ∧ w'.cell? ⟨g, 14, none⟩ = some (ptr l) ∧ (w'.cell? ⟨g, 0, none⟩ = some (.int .u64 x.t) ∧ w'.cell? ⟨g, 1, none⟩ = some (.int .u32 x.r) ∧ w'.cell? ⟨g, 2, none⟩ = some (.int .u32 x.v) ∧ w'.cell? ⟨g, 3, none⟩ = some (.int .i64 x.i) ∧ w'.cell? ⟨g, 4, none⟩ = some (.int .u64 x.u) ∧ w'.cell? ⟨g, 5, none⟩ = some (.int .u32 x.s) ∧ w'.cell? ⟨g, 6, none⟩ = some (.int .u32 x.y))) ∧ Below W0.heap.size W0 w')
   (first | with_reducible exact HQ.out _ HB.out.drew | with_reducible exact HQ.out _ hb2 | with_reducible exact HQ.out _ ((HB.out.alloc hz _).drew) | with_reducible exact HQ.out _ (hb2.alloc hb2.size _))
   (first
    | (go_at_call_of 169 (ptr l); refine (IL.out _ A n c zs (And.right (by assumption : (_ ∧ _ ∧ _) ∧ Below W0.heap.size W0 _)) (by first | exact HO.out | exact HO.out.alloc _) HN1.out).mono ?_; rintro e w2 ⟨A2, n2, c2, rfl, ho2, hb2, hc2, hr2⟩; have HO2 := hid ho2; have HC2 := hid hc2; have HR2 := hid hr2; (try (have HCELL := hid (cell_newI HO.out HC2.out))); clear ho2 hc2 hr2)
    | (go_at_call_of 169 (ptr r); refine (IR.out _ A3 _ c3 (zs ++ l.list ++ [x]) (And.right (by assumption : (_ ∧ _ ∧ _) ∧ Below W0.heap.size W0 _)) HO3.out HN2.out).mono ?_; rintro e w4 ⟨A4, n4, c4, rfl, ho4, hb2, hc4, hr4⟩; have HO4 := hid ho4; have HC4 := hid hc4; have HR4 := hid hr4; clear ho4 hc4 hr4)
    | ((refine step_append_it _ (by rfl) (.tmp 17) (.tmp 22) (by rfl) W0.heap.size A2 n2 c2 (zs ++ l.list) (by rfl) (HO2.out.alloc _) w2.heap.size x (by rfl) (Cs.new7 _ _ x).th7 (by have := HO2.out.len; have := HN1.out; simp at *; omega) (by simp; exact Nat.le_succ_of_le hb2.size) ?_); intro A3 c3 w3 ho3 hc3 hr3; have HO3 := hid ho3; have HC3 := hid hc3; have HR3 := hid hr3; have hb2 := Below.chg (And.right (by assumption : (_ ∧ _ ∧ _) ∧ Below W0.heap.size W0 _)) hc3 (fun k hk => (HO2.out.rowGe k hk).1); clear ho3 hc3 hr3)
    | (refine step_append_it _ (by rfl) (.tmp 17) (.tmp 22) (by rfl) W0.heap.size A2 n2 c2 (zs ++ l.list) (by rfl) HO2.out w.heap.size x (by rfl) HCELL.out (by have := HO2.out.len; have := HN1.out; simp at *; omega) hb2.size ?_; intro A3 c3 w3 ho3 hc3 hr3; have HO3 := hid ho3; have HC3 := hid hc3; have HR3 := hid hr3; have hb2 := Below.chg (And.right (by assumption : (_ ∧ _ ∧ _) ∧ Below W0.heap.size W0 _)) hc3 (fun k hk => (HO2.out.rowGe k hk).1); clear ho3 hc3 hr3)
    | fail)
  all_goals
   have HB4 := hid (And.right (by assumption : (_ ∧ _ ∧ _) ∧ Below W0.heap.size W0 w4));have HO5 := hid (show OwnI w4 W0.heap.size A4 n4 c4 (zs ++ (Tr.node g cc l x r).list) by have := HO4.out; simpa [Tr.list] using this);go_wp2_with fail;go_ret
   refine ⟨A4, n4, c4, rfl, HO5.out, HB4.out, ?_⟩;first
    | exact Chg.chain (Below.refl _ _).drew HC2.out HR2.out ((Below.refl _ _).alloc (Nat.le_refl _) _) HC3.out HR3.out HC4.out HR4.out
    | exact Chg.chain ((Below.refl _ _).alloc (Nat.le_refl _) _).drew HC2.out HR2.out (Below.refl _ _) HC3.out HR3.out HC4.out HR4.out
set_option maxHeartbeats 1000000 in
theorem Dt.all (th : Nat) (t : Tr It) (w : World) (h : DTreeAt w th t) (hn : t.list.length ≤ 900000) :
  Calls Tryz.prog 120 #[.pointer (some ⟨th, 0, none⟩)] w (DAdds w none t.list w) := by
 obtain ⟨_, _, t0, _⟩ := h.1;have e3 := t0.at3;have HI := hid h.2.1;clear h t0;go_enter Tryz.func120, Tryz.ntmps120;go_wp2_with fail;refine (Dt.addTo w t HI.out w none 0 0 [] (Below.refl _ _) (OwnI.nil _ _) (by simpa using hn)).mono ?_;rintro e w1 ⟨A, n, c, rfl, h1, h2, h3⟩;have H1 := hid h1;have H2 := hid h2;have H3 := hid h3;clear h1 h2 h3;go_wp2_with fail;go_ret
 exact ⟨A, n, c, rfl, by simpa using H1.out, H2.out, H3.out⟩
end


section
open Go.RowKit
def narOk (d : Int) : Bool := decide (-4611686018427387904 < d) && decide (d < 4611686018427387904)
def nar (t : Int) (a : It) : Bool := narOk (dif a.t t) && narOk (dif a.u t) && It.right a
theorem dif_narOk {a b t : Int} (ha : narOk (dif a t) = true) (hb : narOk (dif b t) = true) : dif b a = dif b t - dif a t := by
 unfold narOk at ha hb;simp at ha hb;unfold dif at *
 omega
namespace Wd
theorem near_parts {t : Int} {a : It} (h : nar t a = true) : narOk (dif a.t t) = true ∧ narOk (dif a.u t) = true ∧ 0 < a.v ∧ 0 < a.y := by
 unfold nar It.right posOk at h;simp at h;refine ⟨h.1.1, h.1.2, ?_, ?_⟩ <;> omega
theorem posC1 {t : Int} {a b : It} (ha : nar t a = true) (hb : nar t b = true) : posC a.t a.r a.v b.t b.r b.v = (a.p1 t).c (b.p1 t) := by
 unfold posC Pl.c It.p1;rw [dif_narOk (near_parts ha).1 (near_parts hb).1]
theorem posC2 {t : Int} {a b : It} (ha : nar t a = true) (hb : nar t b = true) : posC a.u a.s a.y b.u b.s b.y = (a.p2 t).c (b.p2 t) := by
 unfold posC Pl.c It.p2;rw [dif_narOk (near_parts ha).2.1 (near_parts hb).2.1]
theorem ahead_iff {t : Int} {a b : It} (ha : nar t a = true) (hb : nar t b = true) : It.ahead a b = true ↔ (a.p1 t).c (b.p1 t) < 0 ∨ (a.p1 t).c (b.p1 t) = 0 ∧ a.i < b.i := by
 unfold It.ahead;rw [posC1 ha hb];split
 ·rename_i h; simp [h]
 ·rename_i h; simp; omega
theorem due_iff {t : Int} {a b : It} (ha : nar t a = true) (hb : nar t b = true) : It.due a b = true ↔ (a.p2 t).c (b.p2 t) < 0 ∨ (a.p2 t).c (b.p2 t) = 0 ∧ It.ahead a b = true := by
 unfold It.due;rw [posC2 ha hb];split
 ·rename_i h; simp [h]
 ·rename_i h; simp; omega
theorem ahead_ne {t : Int} {a b : It} (ha : nar t a = true) (hb : nar t b = true) (h : a.i ≠ b.i) : It.ahead b a = !It.ahead a b := by
 have h1 := ahead_iff ha hb;have h2 := ahead_iff hb ha;have h3 := Pl.anti (a.p1 t) (b.p1 t);cases e : It.ahead a b <;> cases e' : It.ahead b a <;> simp_all <;> omega
theorem due_ne {t : Int} {a b : It} (ha : nar t a = true) (hb : nar t b = true) (h : a.i ≠ b.i) : It.due b a = !It.due a b := by
 have h1 := due_iff ha hb;have h2 := due_iff hb ha;have h3 := Pl.anti (a.p2 t) (b.p2 t);have h4 := ahead_ne ha hb h;cases e : It.due a b <;> cases e' : It.due b a <;> cases e2 : It.ahead a b <;> simp_all <;> omega
theorem ahead_trans {t : Int} {a b c : It} (ha : nar t a = true) (hb : nar t b = true) (hc : nar t c = true) (h1 : It.ahead a b = true) (h2 : It.ahead b c = true) : It.ahead a c = true := by
 rw [ahead_iff ha hb] at h1;rw [ahead_iff hb hc] at h2;rw [ahead_iff ha hc];have h3 := Pl.trans (p := a.p1 t) (q := b.p1 t) (s := c.p1 t) (near_parts ha).2.2.1 (near_parts hb).2.2.1 (near_parts hc).2.2.1 (by omega) (by omega);by_cases h4 : (a.p1 t).c (b.p1 t) < 0 ∨ (b.p1 t).c (c.p1 t) < 0
 ·exact Or.inl (h3.2 h4)
 ·omega
def NrL (t : Int) (L : List It) : Prop := ∀ x ∈ L, nar t x = true
theorem NrL.app {t : Int} {L M : List It} (h : NrL t L) (k : NrL t M) : NrL t (L ++ M) := fun x hx => (List.mem_append.1 hx).elim (h x) (k x)
theorem Pl.tr {t : Int} {a b c : It} (ha : nar t a = true) (hb : nar t b = true) (hc : nar t c = true) :
  ((a.p1 t).c (b.p1 t) ≤ 0 → (b.p1 t).c (c.p1 t) ≤ 0 → (a.p1 t).c (c.p1 t) ≤ 0 ∧ ((a.p1 t).c (b.p1 t) < 0 ∨ (b.p1 t).c (c.p1 t) < 0 → (a.p1 t).c (c.p1 t) < 0)) ∧
  ((a.p2 t).c (b.p2 t) ≤ 0 → (b.p2 t).c (c.p2 t) ≤ 0 → (a.p2 t).c (c.p2 t) ≤ 0 ∧ ((a.p2 t).c (b.p2 t) < 0 ∨ (b.p2 t).c (c.p2 t) < 0 → (a.p2 t).c (c.p2 t) < 0)) :=
 ⟨Pl.trans (near_parts ha).2.2.1 (near_parts hb).2.2.1 (near_parts hc).2.2.1, Pl.trans (near_parts ha).2.2.2 (near_parts hb).2.2.2 (near_parts hc).2.2.2⟩
theorem ahead_no {t : Int} {a b : It} (ha : nar t a = true) (hb : nar t b = true) : It.ahead a b = false ↔ (b.p1 t).c (a.p1 t) < 0 ∨ (b.p1 t).c (a.p1 t) = 0 ∧ b.i ≤ a.i := by
 have h := ahead_iff ha hb;have k := Pl.anti (a.p1 t) (b.p1 t);cases hc : It.ahead a b with
 | true =>
  have := h.1 hc
  constructor
  ·intro e; cases e
  ·intro e; exfalso; omega
 | false =>
  have : ¬ ((a.p1 t).c (b.p1 t) < 0 ∨ (a.p1 t).c (b.p1 t) = 0 ∧ a.i < b.i) := fun e => by rw [h.2 e] at hc; cases hc
  constructor
  ·intro _; omega
  ·intro _; rfl
theorem ahead_asym {t : Int} {a b : It} (ha : nar t a = true) (hb : nar t b = true) (h : It.ahead a b = true) : It.ahead b a = false := by
 have h1 := (ahead_iff ha hb).1 h;have k := Pl.anti (a.p1 t) (b.p1 t);exact (ahead_no hb ha).2 (by omega)
theorem ahead_tr {t : Int} {a b c : It} (ha : nar t a = true) (hb : nar t b = true) (hc : nar t c = true) (h1 : It.ahead a b = true) (h2 : It.ahead b c = true) : It.ahead a c = true := by
 have e1 := (ahead_iff ha hb).1 h1;have e2 := (ahead_iff hb hc).1 h2;have k := (Pl.tr ha hb hc).1 (by omega) (by omega);exact (ahead_iff ha hc).2 (by omega)
theorem ahead_ntr {t : Int} {a b c : It} (ha : nar t a = true) (hb : nar t b = true) (hc : nar t c = true) (h1 : It.ahead a b = false) (h2 : It.ahead b c = false) : It.ahead a c = false := by
 have e1 := (ahead_no ha hb).1 h1;have e2 := (ahead_no hb hc).1 h2;have k := (Pl.tr hc hb ha).1 (by omega) (by omega);exact (ahead_no ha hc).2 (by omega)
theorem due_no {t : Int} {a b : It} (ha : nar t a = true) (hb : nar t b = true) : It.due a b = false ↔ (b.p2 t).c (a.p2 t) < 0 ∨ (b.p2 t).c (a.p2 t) = 0 ∧ It.ahead a b = false := by
 have h := due_iff ha hb;have k := Pl.anti (a.p2 t) (b.p2 t);cases hc : It.due a b with
 | true =>
  have := h.1 hc
  constructor
  ·intro e; cases e
  ·intro e;rcases this with h1 | ⟨h1, h2⟩
   ·exfalso; omega
   ·rcases e with e | ⟨e, e2⟩
    ·exfalso; omega
    ·rw [h2] at e2; cases e2
 | false =>
  constructor
  ·intro _;rcases Int.lt_trichotomy ((a.p2 t).c (b.p2 t)) 0 with h1 | h1 | h1
   ·rw [h.2 (Or.inl h1)] at hc; cases hc
   ·right
    refine ⟨by omega, ?_⟩;cases h2 : It.ahead a b with
    | false => rfl
    | true => rw [h.2 (Or.inr ⟨h1, h2⟩)] at hc; cases hc
   ·left; omega
  ·intro _; rfl
theorem due_asym {t : Int} {a b : It} (ha : nar t a = true) (hb : nar t b = true) (h : It.due a b = true) : It.due b a = false := by
 have h1 := (due_iff ha hb).1 h;have k := Pl.anti (a.p2 t) (b.p2 t);refine (due_no hb ha).2 ?_;rcases h1 with h1 | ⟨h1, h2⟩
 ·left; exact h1
 ·right; exact ⟨h1, ahead_asym ha hb h2⟩
theorem due_ntr {t : Int} {a b c : It} (ha : nar t a = true) (hb : nar t b = true) (hc : nar t c = true) (h1 : It.due a b = false) (h2 : It.due b c = false) : It.due a c = false := by
 have e1 := (due_no ha hb).1 h1;have e2 := (due_no hb hc).1 h2;have k := (Pl.tr hc hb ha).2 (by omega) (by omega);refine (due_no ha hc).2 ?_;rcases e1 with e1 | ⟨e1, f1⟩
 ·left; exact k.2 (Or.inr e1)
 ·rcases e2 with e2 | ⟨e2, f2⟩
  ·left; exact k.2 (Or.inl e2)
  ·rcases Int.lt_or_eq_of_le k.1 with g | g
   ·left; exact g
   ·right; exact ⟨g, ahead_ntr ha hb hc f1 f2⟩
theorem IsBest.one {t : Int} {a : It} (h : nar t a = true) : IsBest a [a] := ⟨by simp, fun b hb => by
 simp at hb; subst hb;cases hd : It.due b b with
 | false => rfl
 | true => have := due_asym h h hd; rw [hd] at this; cases this⟩
theorem IsBest.join {t : Int} {a b : It} {L M : List It} (hL : NrL t L) (hM : NrL t M) (ha : IsBest a L) (hb : IsBest b M) : IsBest (sooner a b) (L ++ M) := by
 unfold sooner;cases hd : It.due b a with
 | true =>
  rw [if_pos rfl];refine ⟨List.mem_append_right _ hb.1, fun x hx => ?_⟩;rcases List.mem_append.1 hx with h | h
  ·exact due_ntr (hL x h) (hL a ha.1) (hM b hb.1) (ha.2 x h) (due_asym (hM b hb.1) (hL a ha.1) hd)
  ·exact hb.2 x h
 | false =>
  rw [if_neg (by simp)];refine ⟨List.mem_append_left _ ha.1, fun x hx => ?_⟩;rcases List.mem_append.1 hx with h | h
  ·exact ha.2 x h
  ·exact due_ntr (hM x h) (hM b hb.1) (hL a ha.1) (hb.2 x h) hd
theorem best_is (t0 : Int) (t : Tr It) : NrL t0 t.list → t.isNil = false → IsBest t.best t.list := by
 induction t with
 | nil => intro _ h; simp [Tr.isNil] at h
 | node g c l x r ihl ihr =>
  intro h _;have hl : NrL t0 l.list := fun y hy => h y (by simp [Tr.list, hy])
  have hr : NrL t0 r.list := fun y hy => h y (by simp [Tr.list, hy])
  have hx : nar t0 x = true := h x (by simp [Tr.list]);have h1 : NrL t0 [x] := fun y hy => by simp at hy; subst hy; exact hx
  have hL : IsBest (bestL l x) (l.list ++ [x]) := by
   unfold bestL;cases hn : l.isNil with
   | true => rw [if_pos rfl, Tr.isNil_list hn]; exact IsBest.one hx
   | false => rw [if_neg (by simp)]; exact IsBest.join hl h1 (ihl hl hn) (IsBest.one hx)
  show IsBest (if r.isNil then bestL l x else sooner (bestL l x) r.best) (l.list ++ x :: r.list)
  cases hn : r.isNil with
  | true => rw [if_pos rfl, Tr.isNil_list hn]; exact hL
  | false =>
   rw [if_neg (by simp), show l.list ++ x :: r.list = (l.list ++ [x]) ++ r.list by simp];exact IsBest.join (hl.app h1) hr hL (ihr hr hn)
theorem bestL_is {t0 : Int} {l : Tr It} {x : It} (hl : NrL t0 l.list) (hx : nar t0 x = true) : IsBest (bestL l x) (l.list ++ [x]) := by
 have h1 : NrL t0 [x] := fun y hy => by simp at hy; subst hy; exact hx
 unfold bestL;cases hn : l.isNil with
 | true => rw [if_pos rfl, Tr.isNil_list hn]; exact IsBest.one hx
 | false => rw [if_neg (by simp)]; exact IsBest.join hl h1 (best_is t0 l hl hn) (IsBest.one hx)
theorem foldD_desc {t0 : Int} (p : It → Bool) (t : Tr It) : ∀ (q : Bool × It) (M : List It), NrL t0 t.list → SrtI t.list → (∀ a ∈ t.list, ∀ b ∈ t.list, It.ahead a b = true → p b = true → p a = true) → NrL t0 M → Desc q M → Desc (foldD p t q) (M ++ t.list.filter p) := by
 induction t with
 | nil => intro q M _ _ _ _ h; simpa [foldD, Tr.list] using h
 | node g c l x r ihl ihr =>
  intro q M hn hs hp hM h;have hnl : NrL t0 l.list := fun y hy => hn y (by simp [Tr.list, hy])
  have hnr : NrL t0 r.list := fun y hy => hn y (by simp [Tr.list, hy])
  have hnx : nar t0 x = true := hn x (by simp [Tr.list]);have hs' := hs;unfold SrtI at hs;simp only [Tr.list] at hs ⊢;rw [List.pairwise_append, List.pairwise_cons] at hs;cases hx : p x with
  | true =>
   have hl : l.list.filter p = l.list := List.filter_eq_self.2 (fun a ha => hp a (by simp [Tr.list, ha]) x (by simp [Tr.list]) (hs.2.2 a ha x (by simp)) hx);rw [foldD, if_pos hx, List.filter_append, List.filter_cons, if_pos hx, hl];have hx1 : NrL t0 (l.list ++ [x]) := hnl.app (fun y hy => by simp at hy; subst hy; exact hnx);have hd : Desc (true, if q.1 then sooner q.2 (bestL l x) else bestL l x) (M ++ (l.list ++ [x])) := by
    right
    refine ⟨rfl, ?_⟩;rcases h with ⟨h1, _, h3⟩ | ⟨h1, h2⟩
    ·rw [h1, h3, List.nil_append];exact bestL_is hnl hnx
    ·rw [h1];exact IsBest.join hM hx1 h2 (bestL_is hnl hnx)
   have := ihr _ _ hnr hs.2.1.2 (fun a ha b hb => hp a (by simp [Tr.list, ha]) b (by simp [Tr.list, hb])) (hM.app hx1) hd;rw [show M ++ (l.list ++ x :: r.list.filter p) = M ++ (l.list ++ [x]) ++ r.list.filter p by simp];exact this
  | false =>
   have hr : r.list.filter p = [] := List.filter_eq_nil_iff.2 (fun a ha hpa => by
    have := hp x (by simp [Tr.list]) a (by simp [Tr.list, ha]) (hs.2.1.1 a ha) hpa;rw [hx] at this; cases this)
   rw [foldD, if_neg (by rw [hx]; simp), List.filter_append, List.filter_cons, if_neg (by rw [hx]; simp), hr, List.append_nil];exact ihl _ _ hnl hs.1 (fun a ha b hb => hp a (by simp [Tr.list, ha]) b (by simp [Tr.list, hb])) hM h
theorem has_iffI {t0 : Int} (x : It) (hx : nar t0 x = true) (t : Tr It) : NrL t0 t.list → SrtI t.list → (Tr.has It.ahead x t = true ↔ ∃ y ∈ t.list, same x y) := by
 induction t with
 | nil => intro _ _; simp [Tr.has, Tr.list]
 | node g c l y r ihl ihr =>
  intro hn hs;have hnl : NrL t0 l.list := fun z hz => hn z (by simp [Tr.list, hz])
  have hnr : NrL t0 r.list := fun z hz => hn z (by simp [Tr.list, hz])
  have hny : nar t0 y = true := hn y (by simp [Tr.list]);unfold SrtI at hs;simp only [Tr.list] at hs ⊢;rw [List.pairwise_append, List.pairwise_cons] at hs;simp only [Tr.has];cases h1 : It.ahead x y with
  | true =>
   rw [if_pos rfl, ihl hnl hs.1]
   constructor
   ·rintro ⟨z, hz, e⟩; exact ⟨z, by simp [hz], e⟩
   ·rintro ⟨z, hz, e⟩;rcases List.mem_append.1 hz with h | h
    ·exact ⟨z, h, e⟩
    ·rcases List.mem_cons.1 h with rfl | h
     ·exact absurd e.1 (by rw [h1]; simp)
     ·have := ahead_tr hx hny (hnr z h) h1 (hs.2.1.1 z h);exact absurd e.1 (by rw [this]; simp)
  | false =>
   rw [if_neg (by simp)];cases h2 : It.ahead y x with
   | true =>
    rw [if_pos rfl, ihr hnr hs.2.1.2]
    constructor
    ·rintro ⟨z, hz, e⟩; exact ⟨z, by simp [hz], e⟩
    ·rintro ⟨z, hz, e⟩;rcases List.mem_append.1 hz with h | h
     ·have := ahead_tr (hnl z h) hny hx (hs.2.2 z h y (by simp)) h2;exact absurd e.2 (by rw [this]; simp)
     ·rcases List.mem_cons.1 h with rfl | h
      ·exact absurd e.2 (by rw [h2]; simp)
      ·exact ⟨z, h, e⟩
   | false =>
    rw [if_neg (by simp)];exact ⟨fun _ => ⟨y, by simp, h1, h2⟩, fun _ => rfl⟩
theorem dropWhile_gtI {t0 : Int} {x : It} (hx : nar t0 x = true) {L : List It} (hn : NrL t0 L) (h : SrtI L) : ∀ b ∈ L.dropWhile (fun y => !It.ahead x y), It.ahead x b = true := by
 induction L with
 | nil => intro b hb; simp at hb
 | cons a bs ih =>
  intro b hb;rw [List.dropWhile_cons] at hb;split at hb
  ·exact ih (fun y hy => hn y (by simp [hy])) (List.Pairwise.of_cons h) b hb
  ·rename_i hp
   have ha : It.ahead x a = true := by simpa using hp
   rcases List.mem_cons.1 hb with rfl | hb
   ·exact ha
   ·exact ahead_tr hx (hn a (by simp)) (hn b (by simp [hb])) ha ((List.pairwise_cons.1 h).1 b hb)
theorem SrtI.ins {t0 : Int} {x : It} (hx : nar t0 x = true) {L : List It} (hn : NrL t0 L) (h : SrtI L) (hno : ∀ y ∈ L, ¬ same x y) : SrtI (insI x L) := by
 have e : L.takeWhile (fun y => !It.ahead x y) ++ L.dropWhile (fun y => !It.ahead x y) = L := List.takeWhile_append_dropWhile;have h0 := h;unfold SrtI at h;rw [← e, List.pairwise_append] at h;unfold insI SrtI;rw [List.pairwise_append, List.pairwise_cons];refine ⟨h.1, ⟨fun b hb => dropWhile_gtI hx hn h0 b hb, h.2.1⟩, fun a ha b hb => ?_⟩;rcases List.mem_cons.1 hb with rfl | hb
 ·have h1 : It.ahead b a = false := by simpa using takeWhile_allI L a ha
  have ham : a ∈ L := by have h3 := List.mem_append_left (L.dropWhile (fun y => !It.ahead b y)) ha; rw [e] at h3; exact h3
  cases h2 : It.ahead a b with
  | true => rfl
  | false => exact absurd ⟨h1, h2⟩ (hno a ham)
 ·exact h.2.2 a ha b hb
theorem list_putI {t0 : Int} (k : Nat) (x : It) (hx : nar t0 x = true) (t : Tr It) (hn : NrL t0 t.list) (h : SrtI t.list) : (Tr.put It.ahead k x t).list = insI x t.list := by
 rw [Tr.list_put It.ahead k x t _ _ (List.takeWhile_append_dropWhile (p := fun y => !It.ahead x y) (l := t.list)).symm]
 ·rfl
 ·intro a ha; simpa using takeWhile_allI t.list a ha
 ·intro b hb; exact dropWhile_gtI hx hn h b hb
end Wd
end

end Go.Proofs.YtjchnkmolhgpmaaGreatDoor

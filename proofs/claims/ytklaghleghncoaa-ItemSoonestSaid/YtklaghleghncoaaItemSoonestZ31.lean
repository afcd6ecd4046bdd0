/- Texts of ItemSoonest's proof, together. -/
import Derived.Test.YtklaghleghncoaaItemSoonestZ22
import Derived.Test.YtklaghleghncoaaItemSoonestZ30
import Derived.Deep.AppendLies
import Derived.Test.YtklaghleghncoaaItemSoonestZ28
import Derived.Test.YtklaghleghncoaaRbM
import Derived.Test.YtklaghleghncoaaItemSoonestZ24
import Derived.Test.YtklaghleghncoaaItemSoonestZ13
namespace Go.Proofs.Ytklaghleghncoaa
/- Slices of items that a call itself has made, and append. -/
section
open Go.RowKit
theorem It.cells_length (a : It) : a.cells.length = 7 := rfl
theorem flat_length (l : List It) : (l.flatMap It.cells).length = l.length * 7 := by
  induction l with
  | nil => rfl
  | cons a l ih => rw [List.flatMap_cons, List.length_append, ih, It.cells_length, List.length_cons]; omega
theorem flat_get : ∀ (l : List It) (j i : Nat), j < l.length → i < 7 → (l.flatMap It.cells)[j * 7 + i]? = (l.getD j It.zero).cells[i]?
  | [], j, i, h, _ => absurd h (by simp)
  | a :: l, 0, i, _, hi => by
    rw [List.flatMap_cons, List.getElem?_append_left (by rw [It.cells_length]; omega)]
    simp
  | a :: l, j + 1, i, h, hi => by
    rw [List.flatMap_cons, List.getElem?_append_right (by rw [It.cells_length]; omega), It.cells_length, show (j + 1) * 7 + i - 7 = j * 7 + i by omega, flat_get l j i (by simpa using h) hi]
    simp
end

/- Slices of the reference's items that a call itself has made, and append. -/
section
open Go.RowKit
/-- A slice of the reference's items of one's own. -/
def OwnR (w : World) (base : Nat) (A : Option Addr) (n c : Nat) (l : List It) : Prop := w.ownsRow base 36 7 (.slice A n c) n (l.flatMap It.cells)
theorem OwnR.nil (w : World) (base : Nat) : OwnR w base none 0 0 [] := World.ownsRow_nil _ _ _ _
theorem OwnR.len {w : World} {base : Nat} {A : Option Addr} {n c : Nat} {l : List It} (h : OwnR w base A n c l) : l.length = n := by
  have := h.1
  rw [flat_length] at this
  omega
theorem OwnR.cap {w : World} {base : Nat} {A : Option Addr} {n c : Nat} {l : List It} (h : OwnR w base A n c l) : n ≤ c := by
  rcases h.2 with ⟨hv, h0⟩ | ⟨g, cap, cur, hv, _, _, h1, _⟩
  · omega
  · injection hv with _ _ e; omega
theorem OwnR.rowGe {w : World} {base : Nat} {A : Option Addr} {n c : Nat} {l : List It} (h : OwnR w base A n c l) : ∀ k ∈ rowOf A, base ≤ k ∧ k < w.heap.size := by
  intro k hk
  rcases h.2 with ⟨hv, _⟩ | ⟨g, cap, cur, hv, hb, hg, _⟩
  · injection hv with e1; subst e1; simp [rowOf] at hk
  · injection hv with e1; subst e1
    have hkg : k = g := by simpa [rowOf, eq_comm] using hk
    rw [hkg]
    refine ⟨hb, ?_⟩
    rcases Nat.lt_or_ge g w.heap.size with h1 | h1
    · exact h1
    · rw [Array.getElem?_eq_none h1] at hg; cases hg
theorem OwnR.below {w w' : World} {base : Nat} {A : Option Addr} {n c : Nat} {l : List It} (h : OwnR w base A n c l) (hb : Below w.heap.size w w') : OwnR w' base A n c l := by
  obtain ⟨h1, h2⟩ := h
  refine ⟨h1, ?_⟩
  rcases h2 with h2 | ⟨g, cap, cur, hv, hg, hh, r⟩
  · exact .inl h2
  · refine .inr ⟨g, cap, cur, hv, hg, ?_, r⟩
    rw [hb.block g ?_]
    · exact hh
    · rcases Nat.lt_or_ge g w.heap.size with h1 | h1
      · exact h1
      · rw [Array.getElem?_eq_none h1] at hh; cases hh
theorem OwnR.alloc {w : World} {base : Nat} {A : Option Addr} {n c : Nat} {l : List It} (h : OwnR w base A n c l) (o : Obj) : OwnR (w.alloc o) base A n c l := h.below ((Below.refl _ _).alloc (Nat.le_refl _) o)
theorem OwnR.rdi {w : World} {base : Nat} {A : Option Addr} {n c : Nat} {l : List It} (h : OwnR w base A n c l) : RdI w A n l := by
  refine ⟨h.len, fun i hn => ?_⟩
  obtain ⟨g, cap, hv, _, hlt⟩ := h.form (by omega)
  have hA : A = some ⟨g, 0, none⟩ := by injection hv
  subst hA
  refine ⟨g, 0, rfl, hlt, fun j hj => ?_⟩
  have hc : ∀ i, i < 7 → w.cell? ⟨g, 0 + j * 7 + i, none⟩ = (l.getD j It.zero).cells[i]? := fun i hi => by
    rw [← flat_get l j i (by rw [h.len]; exact hj) hi, Nat.zero_add]
    injection hv with _ _ e
    subst e
    exact h.cellAt _ (by omega)
  exact ⟨hc 0 (by omega), hc 1 (by omega), hc 2 (by omega), hc 3 (by omega), hc 4 (by omega), hc 5 (by omega), hc 6 (by omega)⟩
/-- append of one item, in a region that goes in order. -/
theorem wpList_append_ref {ops : Array Oper} {o : Oper} {a : Act} {rest : List Oper} {Q : Exit → Act → World → Prop} (w : World) (hgd : o.guard = none) (s x : Operand)
    (ho : o.op = .call { callee := .builtin .append, args := #[s, x], argTypes := #[27, 27] })
    (base : Nat) (A : Option Addr) (n c : Nat) (l : List It) (hs : a.eval s = .slice A n c) (hown : OwnR w base A n c l) (b : Nat) (d : It) (hx : a.eval x = .slice (some ⟨b, 0, none⟩) 1 1)
    (hcell : Th w b d) (hn : n ≤ 1000000) (hbase : base ≤ w.heap.size)
    (h : ∀ A' c' w', OwnR w' base A' (n + 1) c' (l ++ [d]) → Chg (rowOf A) w w' → (∀ k ∈ rowOf A', k ∈ rowOf A ∨ w.heap.size ≤ k) → wpList Try.prog ops Q rest (a.put o.dst (.slice A' (n + 1) c')) w') : wpList Try.prog ops Q (o :: rest) a w := by
  obtain ⟨i0, hi, hz0, hz1, hz2⟩ : ∃ i0, Try.prog.info? 36 = some i0 ∧ i0.zero = some (.agg #[.int .u64 0, .int .u32 0, .int .u32 0, .int .i64 0, .int .u64 0, .int .u32 0, .int .u32 0]) ∧ i0.size = 7 ∧ i0.bytes = 40 := by
    have hq : (Try.prog.info? 36).map (fun i => (i.zero, i.size, i.bytes)) = some (some (.agg #[.int .u64 0, .int .u32 0, .int .u32 0, .int .i64 0, .int .u64 0, .int .u32 0, .int .u32 0]), 7, 40) := by kernel_rfl
    cases hi : Try.prog.info? 36 with
    | none => rw [hi] at hq; cases hq
    | some i =>
      rw [hi] at hq
      simp only [Option.map_some, Option.some.injEq, Prod.mk.injEq] at hq
      exact ⟨i, rfl, hq.1, hq.2.1, hq.2.2⟩
  obtain ⟨c0, c1, c2, c3, c4, c5, c6⟩ := hcell
  refine wpList_append_lies w hgd s x 27 ho base 36 i0 (.agg #[.int .u64 0, .int .u32 0, .int .u32 0, .int .i64 0, .int .u64 0, .int .u32 0, .int .u32 0]) 7 40 Try.underlying27 hi hz0 hz1 hz2 rfl (by decide) (.slice A n c) n (l.flatMap It.cells) hs hown
    ⟨b, 0, none⟩ 1 1 d.cells hx rfl ?_ ?_ (by decide) (by unfold maxLen; omega) (by omega) hbase _ rfl ?_
  · intro j u hj
    have hadd : (⟨b, 0, none⟩ : Addr).add j = ⟨b, j, none⟩ := by unfold Addr.add; split <;> simp_all
    rw [hadd]
    match j, hj with
    | 0, hj | 1, hj | 2, hj | 3, hj | 4, hj | 5, hj | 6, hj => simp [It.cells] at hj; subst hj; first | exact c0 | exact c1 | exact c2 | exact c3 | exact c4 | exact c5 | exact c6
    | n + 7, hj => simp [It.cells] at hj
  · intro u hu; simp [It.cells] at hu; rcases hu with rfl | rfl | rfl | rfl | rfl | rfl | rfl <;> rfl
  · intro g cap w' h2 h3 h4 _
    refine h _ _ w' (by unfold OwnR; simpa using h2) (Chg.grown h3) (fun k hk => ?_)
    simp [rowOf] at hk
    subst hk
    rcases h4 with h4 | h4
    · exact Or.inl (row_own h4)
    · right; omega
end

/- How far items lie apart. -/
section
open Go.RowKit
abbrev It.pp (x : It) : Int × Int × Int := (x.t, x.r, x.v)
abbrev It.dp (x : It) : Int × Int × Int := (x.u, x.s, x.y)
def spreadI (base : Int) (l : List It) : Int := IntKind.u64.wrap (IntKind.u64.wrap (max (hiL base (l.map It.pp)) (hiL base (l.map It.dp))) - IntKind.u64.wrap (loL base (l.map It.pp)))
/-- Two slices of positions that grow by turns. -/
def Tw (w : World) (A : Option Addr) (n c : Nat) (L : List (Int × Int × Int)) (B : Option Addr) (m d : Nat) (M : List (Int × Int × Int)) (wr : World) : Prop :=
  OwnP wr w.heap.size A n c L ∧ OwnP wr w.heap.size B m d M ∧ (∀ q ∈ rowOf A, q ∉ rowOf B) ∧ Below w.heap.size w wr
theorem Tw.below {w w1 w2 : World} {A B : Option Addr} {n c m d : Nat} {L M : List (Int × Int × Int)} (h : Tw w A n c L B m d M w1) (hb : Below w1.heap.size w1 w2) : Tw w A n c L B m d M w2 := ⟨h.1.below hb, h.2.1.below hb, h.2.2.1, below_on h.2.2.2 hb⟩
theorem Tw.flip {w w1 : World} {A B : Option Addr} {n c m d : Nat} {L M : List (Int × Int × Int)} (h : Tw w A n c L B m d M w1) : Tw w B m d M A n c L w1 := ⟨h.2.1, h.1, fun q hq hq' => h.2.2.1 q hq' hq, h.2.2.2⟩
theorem Tw.grow {w w1 w2 : World} {A B A' : Option Addr} {n c c' m d : Nat} {L M : List (Int × Int × Int)} {x : Int × Int × Int} (h : Tw w A n c L B m d M w1) (ho : OwnP w2 w.heap.size A' (n + 1) c' (L ++ [x])) (hc : Chg (rowOf A) w1 w2) (hr : ∀ k ∈ rowOf A', k ∈ rowOf A ∨ w1.heap.size ≤ k) : Tw w A' (n + 1) c' (L ++ [x]) B m d M w2 :=
  ⟨ho, h.2.1.chg hc (fun k hk hk' => h.2.2.1 k hk' hk), fun q hq hq' => by
    rcases hr q hq with h1 | h1
    · exact h.2.2.1 q h1 hq'
    · have := (h.2.1.rowGe q hq').2; omega, Below.chg h.2.2.2 hc (fun k hk => (h.1.rowGe k hk).1)⟩
set_option maxRecDepth 100000 in
set_option maxHeartbeats 8000000 in
theorem Item.spread (base : Int) (A : Option Addr) (n c : Nat) (l : List It) (w : World) (hr : RdI w A n l) (hn : n ≤ 1000000) :
    Calls Try.prog 5 #[.int .u64 base, .slice A n c] w (Ans (.int .u64 (spreadI base l)) w) := by
  have HR := hid hr
  have hni : (n : Int) ≤ 1000000 := by omega
  clear hr
  go_enter Try.func5, Try.ntmps5
  go_wp2_with fail
  go_loopg [5, 6, 15] n (fun s a5 a6 i wr => ∃ (k : Nat) (A1 : Option Addr) (c1 : Nat) (A2 : Option Addr) (c2 : Nat), a5 = .slice A1 k c1 ∧ a6 = .slice A2 k c2 ∧ i = .int .i64 k ∧ k ≤ n ∧ s = n - k ∧ Tw w A1 k c1 ((l.take k).map It.pp) A2 k c2 ((l.take k).map It.dp) wr)
  case atStart => exact ⟨0, none, 0, none, 0, rfl, rfl, rfl, Nat.zero_le _, by omega, by simpa using OwnP.nil _ _, by simpa using OwnP.nil _ _, (fun q hq => by simp [rowOf] at hq), Below.refl _ _⟩
  case round =>
    obtain ⟨k, A1, c1, A2, c2, rfl, rfl, rfl, hk, hs, ht⟩ := hrel
    have HS := hid hs
    have HT := hid ht
    clear hs ht
    by_cases hkn : k < n
    · obtain ⟨bb, off, hA, _, hc⟩ := (HR.out.below HT.out.2.2.2).2 0 (by omega)
      obtain ⟨p0, p1, p2, p3, p4, p5, p6⟩ := hc k hkn
      have HTK : Hid (l.take (k + 1) = l.take k ++ [l.getD k It.zero]) := hid (by
        have hkl : k < l.length := by have := HR.out.1; omega
        rw [List.take_succ_eq_append_getElem hkl]; simp [List.getD, hkl])
      generalize l.getD k It.zero = x at *
      subst hA
      have hki : (k : Int) < n := by omega
      have hk0 : (0 : Int) ≤ k := by omega
      clear hc
      have ha1 := (Below.refl wr.heap.size wr).alloc (Nat.le_refl _) (.cells #[.int .u64 x.t, .int .u32 x.r, .int .u32 x.v, .int .i64 x.i, .int .u64 x.u, .int .u32 x.s, .int .u32 x.y] 32)
      have ha2 := ha1.alloc (by simp) (.cells #[.int .u64 x.t, .int .u32 x.r, .int .u32 x.v] 30)
      have HT2 := hid (HT.out.below ha2)
      have HX2 : Hid (Th ((wr.alloc (.cells #[.int .u64 x.t, .int .u32 x.r, .int .u32 x.v, .int .i64 x.i, .int .u64 x.u, .int .u32 x.s, .int .u32 x.y] 32)).alloc (.cells #[.int .u64 x.t, .int .u32 x.r, .int .u32 x.v] 30)) wr.heap.size x) := hid ((Cs.new7 wr 32 x).alloc _).th7
      have hTP : Tp ((wr.alloc (.cells #[.int .u64 x.t, .int .u32 x.r, .int .u32 x.v, .int .i64 x.i, .int .u64 x.u, .int .u32 x.s, .int .u32 x.y] 32)).alloc (.cells #[.int .u64 x.t, .int .u32 x.r, .int .u32 x.v] 30)) (wr.heap.size + 1) x.pp := by
        have := Tp.new (wr.alloc (.cells #[.int .u64 x.t, .int .u32 x.r, .int .u32 x.v, .int .i64 x.i, .int .u64 x.u, .int .u32 x.s, .int .u32 x.y] 32)) 30 x.pp
        simp only [World.size_alloc] at this
        exact this
      have hOW := HT2.out.1
      have hk1 : k ≤ 1000000 := by omega
      have hbs := HT2.out.2.2.2.size
      clear ha1 ha2
      go_wp2_with (first
        | (at_builtin; (with_reducible refine wpList_append_pos _ rfl (.tmp 19) (.tmp 22) rfl w.heap.size A1 k c1 ((l.take k).map It.pp) ?a1 hOW (wr.heap.size + 1) x.pp ?a2 hTP hk1 hbs ?a3); (case a1 => rfl); (case a2 => rfl); (intro A3 c3 w3 ho3 hc3 hr3); (have HX3 := hid (HX2.out.chg hc3 (fun hm => by have := (HT.out.1.rowGe _ hm).2; omega))); (have HT3 := hid (HT2.out.grow ho3 hc3 hr3)); (clear ho3 hc3 hr3 hTP hOW hbs p0 p1 p2 p3 p4 p5 p6); (obtain ⟨q0, q1, q2, q3, q4, q5, q6⟩ := HX3.out); (have hb4 := (Below.refl w3.heap.size w3).alloc (Nat.le_refl _) (.cells #[.int .u64 x.u, .int .u32 x.s, .int .u32 x.y] 30)); (have HT4 := hid (HT3.out.below hb4)); (have hOW4 := HT4.out.2.1); (have hTP4 : Tp (w3.alloc (.cells #[.int .u64 x.u, .int .u32 x.s, .int .u32 x.y] 30)) w3.heap.size x.dp := Tp.new w3 30 x.dp); (have hbs4 := HT4.out.2.2.2.size); (clear hb4))
        | (at_builtin; (with_reducible refine wpList_append_pos _ rfl (.tmp 24) (.tmp 27) rfl w.heap.size A2 k c2 ((l.take k).map It.dp) ?b1 hOW4 w3.heap.size x.dp ?b2 hTP4 hk1 hbs4 ?b3); (case b1 => rfl); (case b2 => rfl); (intro A5 c5 w5 ho5 hc5 hr5); (have HT5 := hid (HT4.out.flip.grow ho5 hc5 hr5).flip); (clear ho5 hc5 hr5 hTP4 hOW4 hbs4 q0 q1 q2 q3 q4 q5 q6))
        | fail)
      go_roundg (n - (k + 1))
      case measure => have := HS.out; omega
      case rel => exact ⟨k + 1, A3, c3, A5, c5, rfl, rfl, by go_num, by omega, rfl, by rw [HTK.out, List.map_append, List.map_append]; exact HT5.out⟩
    · obtain rfl : k = n := by omega
      have hki : ¬ (k : Int) < k := by omega
      have ht := HT.out
      rw [List.take_of_length_le (by have := HR.out.1; omega)] at ht
      have HTF := hid ht
      clear ht HT
      go_wp2_with fail
      refine (Pos.floors base A1 k c1 (l.map It.pp) _ HTF.out.1.rdp (by omega)).mono ?_
      rintro e w1 ⟨rfl, hb⟩
      have HT1 := hid (HTF.out.below hb)
      clear hb
      go_wp2_with fail
      refine (Pos.floors base A2 k c2 (l.map It.dp) _ HT1.out.2.1.rdp (by omega)).mono ?_
      rintro e w2 ⟨rfl, hb⟩
      have HB := hid (below_on HT1.out.2.2.2 hb)
      clear hb
      go_wp2_with fail
      go_ret
      exact ⟨rfl, HB.out⟩
end

/- How far items lie apart, as a number. -/
section
open Go.RowKit
theorem foldMin_le (b : Int) (ps : List (Int × Int × Int)) : ∀ m : Int, ps.foldl (fun m q => min m (dif q.1 b)) m ≤ m := by
  induction ps with
  | nil => intro m; exact Int.le_refl _
  | cons p ps ih => intro m; exact Int.le_trans (ih _) (by show min m (dif p.1 b) ≤ m; omega)
theorem foldMax_ge (b : Int) (ps : List (Int × Int × Int)) : ∀ m : Int, m ≤ ps.foldl (fun m q => max m (dif q.1 b)) m := by
  induction ps with
  | nil => intro m; exact Int.le_refl _
  | cons p ps ih => intro m; exact Int.le_trans (by show m ≤ max m (dif p.1 b); omega) (ih _)
theorem foldMin_bd (b : Int) (ps : List (Int × Int × Int)) : ∀ m : Int, -9223372036854775808 ≤ m → -9223372036854775808 ≤ ps.foldl (fun m q => min m (dif q.1 b)) m := by
  induction ps with
  | nil => intro m h; exact h
  | cons p ps ih => intro m h; exact ih _ (by have := dif_bd p.1 b; show -9223372036854775808 ≤ min m (dif p.1 b); omega)
theorem foldMax_bd (b : Int) (ps : List (Int × Int × Int)) : ∀ m : Int, m ≤ 9223372036854775807 → ps.foldl (fun m q => max m (dif q.1 b)) m ≤ 9223372036854775807 := by
  induction ps with
  | nil => intro m h; exact h
  | cons p ps ih => intro m h; exact ih _ (by have := dif_bd p.1 b; show max m (dif p.1 b) ≤ 9223372036854775807; omega)
/-- Modulo 2^64 it is the number itself. -/
theorem spreadI_eq (b : Int) (l : List It) : spreadI b l = max (hiL b (l.map It.pp)) (hiL b (l.map It.dp)) - loL b (l.map It.pp) ∧ 0 ≤ spreadI b l ∧ spreadI b l ≤ 18446744073709551615 := by
  have key : ∀ M m : Int, m ≤ M → -9223372036854775808 ≤ m → M ≤ 9223372036854775807 → IntKind.u64.wrap (IntKind.u64.wrap M - IntKind.u64.wrap m) = M - m := by
    intro M m h1 h2 h3
    rw [IntKind.wrap_u64, IntKind.wrap_u64, IntKind.wrap_u64]
    omega
  unfold spreadI
  cases l with
  | nil =>
    have e : loL b ([].map It.pp) = 0 ∧ hiL b ([].map It.pp) = 0 ∧ hiL b ([].map It.dp) = 0 := ⟨rfl, rfl, rfl⟩
    rw [e.1, e.2.1, e.2.2, key (max 0 0) 0 (by omega) (by omega) (by omega)]
    omega
  | cons a l =>
    have h1 : loL b ((a :: l).map It.pp) ≤ dif a.t b := foldMin_le b (l.map It.pp) _
    have h2 : dif a.t b ≤ hiL b ((a :: l).map It.pp) := foldMax_ge b (l.map It.pp) _
    have h3 : -9223372036854775808 ≤ loL b ((a :: l).map It.pp) := foldMin_bd b (l.map It.pp) _ (dif_bd _ _).1
    have h4 : hiL b ((a :: l).map It.pp) ≤ 9223372036854775807 := foldMax_bd b (l.map It.pp) _ (dif_bd _ _).2
    have h5 : hiL b ((a :: l).map It.dp) ≤ 9223372036854775807 := foldMax_bd b (l.map It.dp) _ (dif_bd _ _).2
    rw [key _ _ (by omega) h3 (by omega)]
    omega
/-- Of two alike, the first. -/
theorem sooner_self (a : It) : sooner a a = a := by unfold sooner; split <;> rfl
theorem fold_first (a : It) (l : List It) : (a :: l).foldl sooner ((a :: l).getD 0 It.zero) = l.foldl sooner a := by
  show (l.foldl sooner (sooner a a)) = _
  rw [sooner_self]
end

end Go.Proofs.Ytklaghleghncoaa

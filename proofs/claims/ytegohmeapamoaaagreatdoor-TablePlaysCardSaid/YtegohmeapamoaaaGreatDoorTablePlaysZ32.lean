/- Texts of TablePlays's proof, together. -/
import Derived.Test.YtegohmeapamoaaaGreatDoorTablePlaysZ28
import Derived.Test.YtegohmeapamoaaaGreatDoorOrdG
import Derived.Test.YtegohmeapamoaaaGreatDoorTablePlaysZ31
namespace Go.Proofs.YtegohmeapamoaaaGreatDoor
/- The document's table: Get, with, New. -/
section
open Go.RowKit
theorem infoRT : (Tryz.prog.info? 66).map (·.size) = some 6 := by kernel_rfl
theorem infoRB : (Tryz.prog.info? 56).map (·.size) = some 2 := by kernel_rfl
abbrev OwnD (w : World) (base : Nat) (A : Option Addr) (n c : Nat) (L : List Tk) : Prop := OwnG Tk.cells 6 66 w base A n c L
theorem getI_step (D : List Tk) (id : Int) {k : Nat} (hk : k < D.length) : getI (D.drop k) id = if (D.getD k Tk.zero).i = id then some (D.getD k Tk.zero) else getI (D.drop (k + 1)) id := by
  have e : D.getD k Tk.zero = D[k] := by simp [List.getD, hk]
  unfold getI
  rw [List.drop_eq_getElem_cons hk, List.find?_cons, e]
  by_cases h : D[k].i = id
  · simp [h]
  · have h2 : (D[k].i == id) = false := by simpa using h
    rw [h2, if_neg h]
theorem wth_step (x : Tk) (b : Bool) (D : List Tk) {k : Nat} (hk : k < D.length) : wth x b (D.drop k) = if (D.getD k Tk.zero).i = x.i then wth x b (D.drop (k + 1)) else if b = false ∧ x.i < (D.getD k Tk.zero).i then x :: D.getD k Tk.zero :: wth x true (D.drop (k + 1)) else D.getD k Tk.zero :: wth x b (D.drop (k + 1)) := by
  have e : D.getD k Tk.zero = D[k] := by simp [List.getD, hk]
  rw [List.drop_eq_getElem_cons hk, e]
  rfl
set_option maxRecDepth 100000 in
set_option maxHeartbeats 8000000 in
theorem Ref20.get (A : Option Addr) (n c : Nat) (r id : Int) (D : List Tk) (w : World) (hr : RdT w A n D) (hn : n ≤ 1000000) : Calls Tryz.prog 85 #[.agg #[.slice A n c, .int .i64 r], .int .i64 id] w (Ans (.tuple #[((getI D id).getD Tk.zero).val, .bool (getI D id).isSome]) w) := by
  have HR := hid hr
  have HLN := hid hr.1
  have hni : (n : Int) ≤ 1000000 := by omega
  obtain ⟨R, hR⟩ : ∃ R, getI D id = R := ⟨_, rfl⟩
  rw [hR]
  have HRR := hid hR
  clear hr hR
  have HV0 : Hid (VS w [(w.heap.size, [.slice A n c, .int .i64 r]), (w.heap.size + 1, Tk.zero.cells)] ((w.alloc (.cells #[.slice A n c, .int .i64 r] 56)).alloc (.cells #[.int .i64 0, .int .u8 0, .int .i64 0, .int .u32 0, .int .u64 0, .int .i64 0] 66))) := hid (by have h := (((VS.nil w).new 56 [.slice A n c, .int .i64 r]).new 66 Tk.zero.cells); (try simp only [World.size_alloc] at h); exact h)
  go_enter Tryz.func85, Tryz.ntmps85
  go_upto_region 1 with fail
  generalize ((w.alloc (.cells #[.slice A n c, .int .i64 r] 56)).alloc (.cells #[.int .i64 0, .int .u8 0, .int .i64 0, .int .u32 0, .int .u64 0, .int .i64 0] 66)) = W0 at HV0 ⊢
  obtain ⟨b0, b1⟩ := (HV0.out.cs 0 rfl).two
  go_wp2_with fail
  clear b0 b1
  go_loopg [11] n (fun s i wr => ∃ k : Nat, i = .int .i64 k ∧ k ≤ n ∧ s = n - k ∧ Hid (getI (D.drop k) id = R) ∧ VS w [(w.heap.size, [.slice A n c, .int .i64 r]), (w.heap.size + 1, Tk.zero.cells)] wr)
  case atStart => exact ⟨0, rfl, Nat.zero_le _, by omega, hid HRR.out, HV0.out⟩
  case round =>
    obtain ⟨k, rfl, hk, hs, hz, hv⟩ := hrel
    have HS := hid hs
    have HV10 := hid hv
    clear hs hv
    by_cases hkn : k < n
    · obtain ⟨bb, off, hA, _, hc⟩ := (HR.out.below HV10.out.bel).2 (by omega)
      obtain ⟨p0, p1, p2, p3, p4, p5⟩ := Tk.of _ (hc k hkn)
      have HST := hid (getI_step D id (k := k) (by have := HLN.out; omega))
      rw [hz.out] at HST
      generalize D.getD k Tk.zero = y at *
      subst hA
      have hki : (k : Int) < n := by omega
      have hk0 : (0 : Int) ≤ k := by omega
      clear hc hk
      have HV11 : Hid (VS w [(w.heap.size, [.slice (some ⟨bb, off, none⟩) n c, .int .i64 r]), (w.heap.size + 1, Tk.zero.cells), (wr.heap.size, [.int .i64 y.i, .int .u8 y.s, .int .i64 y.c, .int .u32 y.w, .int .u64 y.n, .int .i64 y.l])] (wr.alloc (.cells #[.int .i64 y.i, .int .u8 y.s, .int .i64 y.c, .int .u32 y.w, .int .u64 y.n, .int .i64 y.l] 66))) := hid (HV10.out.new 66 [.int .i64 y.i, .int .u8 y.s, .int .i64 y.c, .int .u32 y.w, .int .u64 y.n, .int .i64 y.l])
      go_upto_region 4 with fail
      generalize (wr.alloc (.cells #[.int .i64 y.i, .int .u8 y.s, .int .i64 y.c, .int .u32 y.w, .int .u64 y.n, .int .i64 y.l] 66)) = W1 at HV11 ⊢
      generalize wr.heap.size = gy at HV11 ⊢
      clear p0 p1 p2 p3 p4 p5
      obtain ⟨y0, y1, y2, y3, y4, y5⟩ := Tk.at y (HV11.out.cs 2 rfl)
      by_cases hy : y.i = id
      · rw [if_pos hy] at HST
        have hy1 : (y.i == id) = true := by simpa using hy
        have HV12 := hid HV11.out
        clear hy hz HV11
        go_wp2_with (first | ((with_reducible refine wpList_put_vs HV12.out 1 66 [.int .i64 y.i, .int .u8 y.s, .int .i64 y.c, .int .u32 y.w, .int .u64 y.n, .int .i64 y.l] infoRT rfl (.tmp 4) (.tmp 19) rfl (w.heap.size + 1) (Tk.zero.cells) ?vs2a 0 ?vs2b ?vs2c ?vs2d ?vs2e ?vs2f ?vs2g); (case vs2a => rfl); (case vs2b => rfl); (case vs2c => exact of_decide_eq_true rfl); (case vs2d => rfl); (case vs2e => rfl); (case vs2f => rfl); (intro W2 hW2); (have HV13 : Hid (VS w [(w.heap.size, [.slice (some ⟨bb, off, none⟩) n c, .int .i64 r]), (w.heap.size + 1, [.int .i64 y.i, .int .u8 y.s, .int .i64 y.c, .int .u32 y.w, .int .u64 y.n, .int .i64 y.l]), (gy, [.int .i64 y.i, .int .u8 y.s, .int .i64 y.c, .int .u32 y.w, .int .u64 y.n, .int .i64 y.l])] W2) := hid hW2); (clear hW2 HV12)) | fail)
        have HVE := hid HV13.out
        obtain ⟨x0, x1, x2, x3, x4, x5⟩ := Tk.at y (HVE.out.cs 1 rfl)
        rw [HST.out]
        refine bodyPost_ret (v := .tuple #[Tk.val y, .bool true]) (by simp [results, Tryz.results85, go_sem, x0, x1, x2, x3, x4, x5]) rfl ⟨rfl, HVE.out.bel⟩
      · rw [if_neg hy] at HST
        have hy1 : (y.i == id) = false := by simpa using hy
        clear hy hz
        go_wp2_with fail
        go_roundg (n - (k + 1))
        case measure => have := HS.out; omega
        case rel => exact ⟨k + 1, by go_num, by omega, rfl, hid HST.out.symm, HV11.out.less [(_, _)]⟩
    · have hki : ¬ (k : Int) < n := by omega
      have HE : Hid (R = none) := hid (by rw [← hz.out, List.drop_of_length_le (by have := HLN.out; omega)]; rfl)
      clear hz hk
      go_wp2_with (first | ((with_reducible refine wpList_put_vs HV10.out 1 66 [.int .i64 0, .int .u8 0, .int .i64 0, .int .u32 0, .int .u64 0, .int .i64 0] infoRT rfl (.tmp 4) (.tmp 21) rfl (w.heap.size + 1) (Tk.zero.cells) ?vs3a 0 ?vs3b ?vs3c ?vs3d ?vs3e ?vs3f ?vs3g); (case vs3a => rfl); (case vs3b => rfl); (case vs3c => exact of_decide_eq_true rfl); (case vs3d => rfl); (case vs3e => rfl); (case vs3f => rfl); (intro W2 hW2); (have HV11 : Hid (VS w [(w.heap.size, [.slice A n c, .int .i64 r]), (w.heap.size + 1, Tk.zero.cells)] W2) := hid hW2); (clear hW2 HV10)) | fail)
      obtain ⟨x0, x1, x2, x3, x4, x5⟩ := Tk.at Tk.zero (HV11.out.cs 1 rfl)
      rw [HE.out]
      refine bodyPost_ret (v := .tuple #[Tk.zero.val, .bool false]) (by simp [results, Tryz.results85, go_sem, x0, x1, x2, x3, x4, x5]) rfl ⟨rfl, HV11.out.bel⟩
set_option maxRecDepth 100000 in
set_option maxHeartbeats 8000000 in
theorem Ref20.new (m : Int) (N : Nat) (hN : max 0 (min m 32) = (N : Int)) (w : World) : Calls Tryz.prog 33 #[.int .i64 m] w (Ans (.agg #[.slice none 0 0, .int .i64 N]) w) := by
  have HV0 : Hid (VS w [(w.heap.size, [.slice none 0 0, .int .i64 0])] (w.alloc (.cells #[.slice none 0 0, .int .i64 0] 56))) := hid (by have h := ((VS.nil w).new 56 [.slice none 0 0, .int .i64 0]); (try simp only [World.size_alloc] at h); exact h)
  go_enter Tryz.func33, Tryz.ntmps33
  go_upto_region 1 with fail
  generalize (w.alloc (.cells #[.slice none 0 0, .int .i64 0] 56)) = W0 at HV0 ⊢
  go_wp2_with (first | ((with_reducible refine wpList_put_vs HV0.out 0 56 [.slice none 0 0, .int .i64 N] infoRB rfl (.tmp 2) (.tmp 6) rfl (w.heap.size) ([.slice none 0 0, .int .i64 0]) ?vs4a 0 ?vs4b ?vs4c ?vs4d ?vs4e ?vs4f ?vs4g); (case vs4a => rfl); (case vs4b => rfl); (case vs4c => exact of_decide_eq_true rfl); (case vs4d => rfl); (case vs4e => rfl); (case vs4f => rfl); (intro W2 hW2); (have HV1 : Hid (VS w [(w.heap.size, [.slice none 0 0, .int .i64 N])] W2) := hid hW2); (clear hW2 HV0)) | fail)
  obtain ⟨x0, x1⟩ := (HV1.out.cs 0 rfl).two
  refine bodyPost_ret (v := .agg #[.slice none 0 0, .int .i64 N]) (by simp [results, Tryz.results33, go_sem, x0, x1]) rfl ⟨rfl, HV1.out.bel⟩
theorem infoRTb : ∃ bytes, (Tryz.prog.info? 66).map (fun i => (i.zero.map (·.cells.size), i.size, i.bytes)) = some (some 6, 6, bytes) ∧ bytes ≤ 100 := by
  have h : (Tryz.prog.info? 66).map (fun i => (i.zero.map (·.cells.size), i.size, decide (i.bytes ≤ 100))) = some (some 6, 6, true) := by kernel_rfl
  cases hi : Tryz.prog.info? 66 with
  | none => rw [hi] at h; cases h
  | some i =>
    rw [hi] at h
    simp only [Option.map_some, Option.some.injEq, Prod.mk.injEq, decide_eq_true_eq] at h
    exact ⟨i.bytes, by simp [h.1, h.2.1], h.2.2⟩
/-- Variables of one's own, and a list of tasks that is built beside them. -/
structure WB (w : World) (L : List (Nat × List Value)) (base : Nat) (B : Option Addr) (kk cc : Nat) (P : List Tk) (W : World) : Prop where
  v : VS w L W
  o : OwnD W base B kk cc P
  d : ∀ g us, (g, us) ∈ L → g ∉ rowOf B
  b : w.heap.size ≤ base
  s : base ≤ W.heap.size
theorem VS.chgR {w W W2 : World} {L : List (Nat × List Value)} {F : List Nat} (h : VS w L W) (hc : Chg F W W2) (hF : ∀ g ∈ F, w.heap.size ≤ g) (hL : ∀ g us, (g, us) ∈ L → g ∉ F) : VS w L W2 :=
  ⟨fun k g vs e => by
    obtain ⟨h1, h2, h3⟩ := h.1 k g vs e
    exact ⟨h1.chg hc (hL g vs (List.mem_of_getElem? e)), h2, Nat.lt_of_lt_of_le h3 hc.size⟩, h.2.1, Below.chg h.2.2 hc hF⟩
theorem WB.below {w W W2 : World} {L : List (Nat × List Value)} {base : Nat} {B : Option Addr} {kk cc : Nat} {P : List Tk} (h : WB w L base B kk cc P W) (hb : Below W.heap.size W W2) : WB w L base B kk cc P W2 := ⟨h.v.below hb, h.o.below hb, h.d, h.b, Nat.le_trans h.s hb.size⟩
theorem WB.new {w W : World} {L : List (Nat × List Value)} {base : Nat} {B : Option Addr} {kk cc : Nat} {P : List Tk} (h : WB w L base B kk cc P W) (T : TypeId) (vs : List Value) : WB w (L ++ [(W.heap.size, vs)]) base B kk cc P (W.alloc (.cells vs.toArray T)) :=
  ⟨h.v.new T vs, h.o.alloc _, fun g us hm => by
    rcases List.mem_append.1 hm with hm | hm
    · exact h.d g us hm
    · simp only [List.mem_singleton, Prod.mk.injEq] at hm
      intro hr
      have := (h.o.rowGe g hr).2
      omega, h.b, Nat.le_trans h.s (by simp)⟩
theorem WB.less {w W : World} {L : List (Nat × List Value)} (M : List (Nat × List Value)) {base : Nat} {B : Option Addr} {kk cc : Nat} {P : List Tk} (h : WB w (L ++ M) base B kk cc P W) : WB w L base B kk cc P W := ⟨VS.less M h.v, h.o, fun g us hm => h.d g us (List.mem_append.2 (.inl hm)), h.b, h.s⟩
theorem WB.start {w W : World} {L : List (Nat × List Value)} (h : VS w L W) : WB w L W.heap.size none 0 0 [] W := ⟨h, OwnG.nil _ _, fun g us _ => by simp [rowOf], h.bel.size, Nat.le_refl _⟩
theorem Tk.rangeNew (W : World) (T : TypeId) (d : Tk) : (W.alloc (.cells #[.int .i64 d.i, .int .u8 d.s, .int .i64 d.c, .int .u32 d.w, .int .u64 d.n, .int .i64 d.l] T)).rangeAt W.heap.size 0 d.cells := fun i v hv => by
  rw [Nat.zero_add]; exact (Tk.new W T d i v hv).1
theorem wpList_append_wb {ops : Array Oper} {o : Oper} {a : Act} {rest : List Oper} {Q : Exit → Act → World → Prop} {w W : World} {L : List (Nat × List Value)} {base : Nat} {B : Option Addr} {kk cc : Nat} {P : List Tk} (hwb : WB w L base B kk cc P W) (hgd : o.guard = none) (s x : Operand)
    (ho : o.op = .call { callee := .builtin .append, args := #[s, x], argTypes := #[54, 54] }) (d : Tk) (b : Nat) (hs : a.eval s = .slice B kk cc) (hx : a.eval x = .slice (some ⟨b, 0, none⟩) 1 1) (hcell : W.rangeAt b 0 d.cells) (hk : kk ≤ 1000000)
    (K : ∀ B' cc' W', WB w L base B' (kk + 1) cc' (P ++ [d]) W' → wpList Tryz.prog ops Q rest (a.put o.dst (.slice B' (kk + 1) cc')) W') : wpList Tryz.prog ops Q (o :: rest) a W := by
  obtain ⟨bytes, hi1, hi2⟩ := infoRTb
  refine wpList_append_g W hgd s x 54 ho Tk.len (by decide) Tk.one bytes Tryz.underlying54 hi1 hi2 base B kk cc P hs hwb.o b d hx hcell hk hwb.s ?_
  intro A' c' w' h1 h2 h3
  refine K A' c' w' ⟨hwb.v.chgR h2 (fun g hg => Nat.le_trans hwb.b (hwb.o.rowGe g hg).1) hwb.d, h1, fun g us hm hr => ?_, hwb.b, Nat.le_trans hwb.s h2.size⟩
  rcases h3 g hr with hr | hr
  · exact hwb.d g us hm hr
  · obtain ⟨k, hk⟩ := List.mem_iff_getElem?.1 hm
    have := (hwb.v.1 k g us hk).2.2
    omega
set_option maxRecDepth 100000 in
set_option maxHeartbeats 16000000 in
theorem Ref20.wit (A : Option Addr) (n c : Nat) (x : Tk) (D : List Tk) (w : World) (hr : RdT w A n D) (hn : n ≤ 1000) : Calls Tryz.prog 86 #[.slice A n c, x.val] w fun e w' => ∃ B k d, e = .returned (.slice B k d) ∧ OwnD w' w.heap.size B k d (wth x false D) ∧ Below w.heap.size w w' := by
  have HR := hid hr
  have HLN := hid hr.1
  have HN := hid hn
  have hni : (n : Int) ≤ 1000 := by omega
  obtain ⟨R, hR⟩ : ∃ R, wth x false D = R := ⟨_, rfl⟩
  rw [hR]
  have HRR := hid hR
  clear hr hR hn
  unfold Tk.val
  have HV0 : Hid (VS w [(w.heap.size, x.cells)] (w.alloc (.cells #[.int .i64 x.i, .int .u8 x.s, .int .i64 x.c, .int .u32 x.w, .int .u64 x.n, .int .i64 x.l] 66))) := hid (by have h := ((VS.nil w).new 66 x.cells); (try simp only [World.size_alloc] at h); exact h)
  go_enter Tryz.func86, Tryz.ntmps86
  go_upto_region 1 with fail
  generalize (w.alloc (.cells #[.int .i64 x.i, .int .u8 x.s, .int .i64 x.c, .int .u32 x.w, .int .u64 x.n, .int .i64 x.l] 66)) = W0 at HV0 ⊢
  go_wp2_with fail
  go_loopg [5, 6, 11] n (fun s a5 a6 i wr => ∃ (k : Nat) (B : Option Addr) (kk cc : Nat) (b : Bool) (P : List Tk), a5 = .slice B kk cc ∧ a6 = .bool b ∧ i = .int .i64 k ∧ k ≤ n ∧ s = n - k ∧ kk ≤ 2 * k ∧ Hid (P ++ wth x b (D.drop k) = R) ∧ WB w [(w.heap.size, x.cells)] W0.heap.size B kk cc P wr)
  case atStart => exact ⟨0, none, 0, 0, false, [], rfl, rfl, rfl, Nat.zero_le _, by omega, by omega, hid HRR.out, WB.start HV0.out⟩
  case round =>
    obtain ⟨k, B, kk, cc, b, P, rfl, rfl, rfl, hk, hs, hq, hz, hv⟩ := hrel
    have HS := hid hs
    have HQ := hid hq
    have HWB := hid hv
    clear hs hv hq
    by_cases hkn : k < n
    · obtain ⟨bb, off, hA, _, hc⟩ := (HR.out.below HWB.out.v.bel).2 (by omega)
      obtain ⟨p0, p1, p2, p3, p4, p5⟩ := Tk.of _ (hc k hkn)
      have HST := hid (wth_step x b D (k := k) (by have := HLN.out; omega))
      have hkk : kk ≤ 1000000 := by have := HQ.out; have := HN.out; omega
      generalize D.getD k Tk.zero = y at *
      subst hA
      have hki : (k : Int) < n := by omega
      have hk0 : (0 : Int) ≤ k := by omega
      clear hc hk
      have HW1 : Hid (WB w ([(w.heap.size, x.cells)] ++ [(wr.heap.size, [.int .i64 y.i, .int .u8 y.s, .int .i64 y.c, .int .u32 y.w, .int .u64 y.n, .int .i64 y.l])]) W0.heap.size B kk cc P (wr.alloc (.cells #[.int .i64 y.i, .int .u8 y.s, .int .i64 y.c, .int .u32 y.w, .int .u64 y.n, .int .i64 y.l] 66))) := hid (HWB.out.new 66 [.int .i64 y.i, .int .u8 y.s, .int .i64 y.c, .int .u32 y.w, .int .u64 y.n, .int .i64 y.l])
      go_upto_region 6 with fail
      generalize (wr.alloc (.cells #[.int .i64 y.i, .int .u8 y.s, .int .i64 y.c, .int .u32 y.w, .int .u64 y.n, .int .i64 y.l] 66)) = W1 at HW1 ⊢
      generalize wr.heap.size = gy at HW1 ⊢
      clear p0 p1 p2 p3 p4 p5 HWB
      obtain ⟨x0, x1, x2, x3, x4, x5⟩ := Tk.at x (HW1.out.v.cs 0 rfl)
      obtain ⟨y0, y1, y2, y3, y4, y5⟩ := Tk.at y (HW1.out.v.cs 1 rfl)
      by_cases hy : y.i = x.i
      · have hy1 : (y.i == x.i) = true := by simpa using hy
        have HZ2 : Hid (P ++ wth x b (D.drop (k + 1)) = R) := hid (by rw [← hz.out, HST.out, if_pos hy])
        clear hy hz HST
        go_wp2_with fail
        go_roundg (n - (k + 1))
        case measure => have := HS.out; omega
        case rel => exact ⟨k + 1, B, kk, cc, b, P, rfl, rfl, by go_num, by omega, rfl, by have := HQ.out; omega, HZ2, HW1.out.less [(_, _)]⟩
      · have hy1 : (y.i == x.i) = false := by simpa using hy
        by_cases hb : b = false ∧ x.i < y.i
        · obtain ⟨rfl, hlt⟩ := hb
          have HZ2 : Hid ((P ++ [x]) ++ [y] ++ wth x true (D.drop (k + 1)) = R) := hid (by rw [← hz.out, HST.out, if_neg hy, if_pos ⟨rfl, hlt⟩]; simp)
          clear hy hz HST
          have hw1 := HW1.out.below ((Below.refl W1.heap.size W1).alloc (Nat.le_refl _) (.cells #[.int .i64 x.i, .int .u8 x.s, .int .i64 x.c, .int .u32 x.w, .int .u64 x.n, .int .i64 x.l] 66))
          have hc1 := Tk.rangeNew W1 66 x
          go_upto_region 9 with (first | ((at_builtin); (with_reducible refine wpList_append_wb hw1 rfl (.tmp 29) (.tmp 31) rfl x W1.heap.size ?ap1a ?ap1b hc1 hkk ?ap1c); (case ap1a => rfl); (case ap1b => rfl); (intro B1 c1 W1 hn1); (have HW2 := hid hn1); (clear hn1 hw1 hc1)) | fail)
          clear x0 x1 x2 x3 x4 x5 y0 y1 y2 y3 y4 y5
          obtain ⟨y0, y1, y2, y3, y4, y5⟩ := Tk.at y (HW2.out.v.cs 1 rfl)
          replace hkk : kk + 1 ≤ 1000000 := by have := HQ.out; have := HN.out; omega
          have hw2 := HW2.out.below ((Below.refl W1.heap.size W1).alloc (Nat.le_refl _) (.cells #[.int .i64 y.i, .int .u8 y.s, .int .i64 y.c, .int .u32 y.w, .int .u64 y.n, .int .i64 y.l] 66))
          have hc2 := Tk.rangeNew W1 66 y
          go_wp2_with (first | ((at_builtin); (with_reducible refine wpList_append_wb hw2 rfl (.tmp 33) (.tmp 35) rfl y W1.heap.size ?ap2a ?ap2b hc2 hkk ?ap2c); (case ap2a => rfl); (case ap2b => rfl); (intro B2 c2 W2 hn2); (have HW3 := hid hn2); (clear hn2 hw2 hc2)) | fail)
          go_roundg (n - (k + 1))
          case measure => have := HS.out; omega
          case rel => exact ⟨k + 1, B2, kk + 1 + 1, c2, true, _, rfl, rfl, by go_num, by omega, rfl, by have := HQ.out; omega, HZ2, HW3.out.less [(_, _)]⟩
        · have HZ2 : Hid ((P ++ [y]) ++ wth x b (D.drop (k + 1)) = R) := hid (by rw [← hz.out, HST.out, if_neg hy, if_neg hb]; simp)
          have hcase : b = true ∨ (b = false ∧ ¬ x.i < y.i) := by cases b; exact .inr ⟨rfl, fun h => hb ⟨rfl, h⟩⟩; exact .inl rfl
          clear hy hz HST hb
          rcases hcase with rfl | ⟨rfl, hlt⟩
          · have hw3 := HW1.out.below ((Below.refl W1.heap.size W1).alloc (Nat.le_refl _) (.cells #[.int .i64 y.i, .int .u8 y.s, .int .i64 y.c, .int .u32 y.w, .int .u64 y.n, .int .i64 y.l] 66))
            have hc3 := Tk.rangeNew W1 66 y
            go_wp2_with (first | ((at_builtin); (with_reducible refine wpList_append_wb hw3 rfl (.tmp 33) (.tmp 35) rfl y W1.heap.size ?ap3a ?ap3b hc3 hkk ?ap3c); (case ap3a => rfl); (case ap3b => rfl); (intro B3 c3 W3 hn3); (have HW2 := hid hn3); (clear hn3 hw3 hc3)) | fail)
            go_roundg (n - (k + 1))
            case measure => have := HS.out; omega
            case rel => exact ⟨k + 1, B3, kk + 1, c3, _, _, rfl, rfl, by go_num, by omega, rfl, by have := HQ.out; omega, HZ2, HW2.out.less [(_, _)]⟩
          · have hw4 := HW1.out.below ((Below.refl W1.heap.size W1).alloc (Nat.le_refl _) (.cells #[.int .i64 y.i, .int .u8 y.s, .int .i64 y.c, .int .u32 y.w, .int .u64 y.n, .int .i64 y.l] 66))
            have hc4 := Tk.rangeNew W1 66 y
            go_wp2_with (first | ((at_builtin); (with_reducible refine wpList_append_wb hw4 rfl (.tmp 33) (.tmp 35) rfl y W1.heap.size ?ap4a ?ap4b hc4 hkk ?ap4c); (case ap4a => rfl); (case ap4b => rfl); (intro B4 c4 W4 hn4); (have HW2 := hid hn4); (clear hn4 hw4 hc4)) | fail)
            go_roundg (n - (k + 1))
            case measure => have := HS.out; omega
            case rel => exact ⟨k + 1, B4, kk + 1, c4, _, _, rfl, rfl, by go_num, by omega, rfl, by have := HQ.out; omega, HZ2, HW2.out.less [(_, _)]⟩
    · have hki : ¬ (k : Int) < n := by omega
      have HE : Hid (P ++ wth x b [] = R) := hid (by rw [← hz.out, List.drop_of_length_le (by have := HLN.out; omega)])
      have hkk : kk ≤ 1000000 := by have := HQ.out; have := HN.out; omega
      obtain ⟨x0, x1, x2, x3, x4, x5⟩ := Tk.at x (HWB.out.v.cs 0 rfl)
      clear hz
      cases b with
      | true =>
        go_wp2_with fail
        go_ret
        refine ⟨B, kk, cc, rfl, ?_, HWB.out.v.bel⟩
        have h := HWB.out.o.mono HWB.out.b
        have e : P = R := by have := HE.out; simpa [wth] using this
        rwa [e] at h
      | false =>
        have hw5 := HWB.out.below ((Below.refl wr.heap.size wr).alloc (Nat.le_refl _) (.cells #[.int .i64 x.i, .int .u8 x.s, .int .i64 x.c, .int .u32 x.w, .int .u64 x.n, .int .i64 x.l] 66))
        have hc5 := Tk.rangeNew wr 66 x
        go_wp2_with (first | ((at_builtin); (with_reducible refine wpList_append_wb hw5 rfl (.tmp 40) (.tmp 42) rfl x wr.heap.size ?ap5a ?ap5b hc5 hkk ?ap5c); (case ap5a => rfl); (case ap5b => rfl); (intro B5 c5 W5 hn5); (have HW2 := hid hn5); (clear hn5 hw5 hc5)) | fail)
        go_ret
        refine ⟨B5, kk + 1, c5, rfl, ?_, HW2.out.v.bel⟩
        have h := HW2.out.o.mono HW2.out.b
        have e : P ++ [x] = R := by have := HE.out; simpa [wth] using this
        rwa [e] at h
    
theorem WB.of {w W W2 : World} {L : List (Nat × List Value)} {B : Option Addr} {k d : Nat} {R : List Tk} (h : VS w L W) (ho : OwnD W2 W.heap.size B k d R) (hb : Below W.heap.size W W2) : WB w L W.heap.size B k d R W2 := ⟨h.below hb, ho, fun g us hm hr => by
    obtain ⟨j, hj⟩ := List.mem_iff_getElem?.1 hm
    have h1 := (h.1 j g us hj).2.2
    have h2 := (ho.rowGe g hr).1
    omega, h.bel.size, hb.size⟩
theorem WB.puts {w W : World} {L : List (Nat × List Value)} {base : Nat} {B : Option Addr} {kk cc : Nat} {P : List Tk} (h : WB w L base B kk cc P W) (k : Nat) {g : Nat} {us : List Value} (hk : L[k]? = some (g, us)) (o : Nat) (vs : List Value) (hl : o + vs.length ≤ us.length) : WB w (L.set k (g, setL us o vs)) base B kk cc P (W.setCells g o vs) := by
  have hc : Chg [g] W (W.setCells g o vs) := Chg.setsG vs o (Chg.refl _ _) (Or.inl (by simp))
  have hgr : g ∉ rowOf B := h.d g us (List.mem_of_getElem? hk)
  refine ⟨h.v.puts k hk o vs hl, h.o.chg hc (fun j hj hm => by simp at hm; subst hm; exact hgr hj), fun g' us' hm => ?_, h.b, Nat.le_trans h.s hc.size⟩
  rcases List.mem_or_eq_of_mem_set hm with hm | hm
  · exact h.d g' us' hm
  · cases hm; exact hgr
theorem WB.rd {w W : World} {L : List (Nat × List Value)} {base : Nat} {B : Option Addr} {kk cc : Nat} {P : List Tk} (h : WB w L base B kk cc P W) : RdT W B kk P := h.o.rd Tk.len (by decide) Tk.zero
/-- A value of several cells is stored into one of the variables. -/
theorem wpList_put_wb {ops : Array Oper} {rest : List Oper} {op : Oper} {a : Act} {w W : World} {Q : Exit → Act → World → Prop} {L : List (Nat × List Value)} {base : Nat} {B : Option Addr} {kk cc : Nat} {P : List Tk} (h : WB w L base B kk cc P W) (k : Nat) (T : TypeId) (vs : List Value) {n : Nat} (hT : (Tryz.prog.info? T).map (·.size) = some n) (hgd : op.guard = none) (x y : Operand) (ho : op.op = .store T x y)
    (g : Nat) (us : List Value) (hk : L[k]? = some (g, us)) (o : Nat) (hn : vs.length = n) (hl : o + n ≤ us.length) (h1 : vs.all (·.oneCell') = true) (hx : a.eval x = .pointer (some ⟨g, o, none⟩)) (hy : a.eval y = .agg vs.toArray)
    (hK : ∀ W2, WB w (L.set k (g, setL us o vs)) base B kk cc P W2 → wpList Tryz.prog ops Q rest (a.put op.dst undef) W2) : wpList Tryz.prog ops Q (op :: rest) a W :=
  wpList_store_mid hgd T x y ho g o vs.toArray hx hy (by
      intro j hj
      have hc := h.v.cs k hk
      have hj' : o + j < us.length := by simp at hj; omega
      exact ⟨by rw [(hc _ _ (List.getElem?_eq_getElem hj')).1]; rfl, (hc _ _ (List.getElem?_eq_getElem hj')).2⟩) (by rw [hT, ← hn]; simp) (by simpa using h1) (hK _ (by
      have hc : Chg [g] W (W.setCells g o vs) := Chg.setsG vs o (Chg.refl _ _) (Or.inl (by simp))
      have hgr : g ∉ rowOf B := h.d g us (List.mem_of_getElem? hk)
      have hv := h.v.puts k hk o vs (by omega)
      have hfin : WB w (L.set k (g, setL us o vs)) base B kk cc P (W.setCells g o vs) := ⟨hv, h.o.chg hc (fun j hj hm => by simp at hm; subst hm; exact hgr hj), fun g' us' hm => by
        rcases List.mem_or_eq_of_mem_set hm with hm | hm
        · exact h.d g' us' hm
        · cases hm; exact hgr, h.b, Nat.le_trans h.s hc.size⟩
      simpa using hfin))
def WBE (w : World) (L : List (Nat × List Value)) (R : List Tk) (y : Option Addr × Nat × Nat) (W : World) : Prop := ∃ base, WB w L base y.1 y.2.1 y.2.2 R W
theorem WBE.stays (w : World) (L : List (Nat × List Value)) (R : List Tk) (y : Option Addr × Nat × Nat) : Stays (WBE w L R y) := fun _ _ ⟨b, h⟩ hb => ⟨b, h.below hb⟩
end

/- The document's table: Add, Set, Drop. -/
section
open Go.RowKit
/-- The document's table, and an error. -/
def DAns2 (A : Option Addr) (N : Nat) (er : Int) (R : List Tk) (w : World) (e : Ending) (w' : World) : Prop := ∃ B k d, e = .returned (.tuple #[.agg #[.slice B k d, .int .i64 N], .int .i64 er]) ∧ RdT w' B k R ∧ (∀ j ∈ rowOf B, j ∈ rowOf A ∨ (w.heap.size ≤ j ∧ j < w'.heap.size)) ∧ Below w.heap.size w w'
def DAns3 (A : Option Addr) (N : Nat) (id er : Int) (R : List Tk) (w : World) (e : Ending) (w' : World) : Prop := ∃ B k d, e = .returned (.tuple #[.agg #[.slice B k d, .int .i64 N], .int .i64 id, .int .i64 er]) ∧ RdT w' B k R ∧ (∀ j ∈ rowOf B, j ∈ rowOf A ∨ (w.heap.size ≤ j ∧ j < w'.heap.size)) ∧ Below w.heap.size w w'
theorem get_at {L : List Tk} (h : TInv L) {j : Nat} (hj : j < L.length) : getI (L.filter keep) ((j : Int) + 1) = if (L.getD j Tk.zero).s = 0 then none else some (L.getD j Tk.zero) := by
  rw [get_find h, tfind_at hj]
  split <;> rfl
set_option maxRecDepth 100000 in
set_option maxHeartbeats 8000000 in
theorem Ref20.set_bad (A : Option Addr) (n c N : Nat) (x : Tk) (L : List Tk) (w : World) (hi : TInv L) (hN : L.length = N) (h32 : N ≤ 32) (hr : RdT w A n (L.filter keep)) (hx : x.ok = false) : Calls Tryz.prog 35 #[.agg #[.slice A n c, .int .i64 N], x.val] w (DAns2 A N (sttE L x) ((sttL L x).filter keep) w) := by
  have HR := hid hr
  have hE : sttE L x = 2 := by simp [sttE, hx]
  have hL : sttL L x = L := by simp [sttL, hx]
  rw [hE, hL]
  clear hE hL
  have hcase : x.s < 1 ∨ (¬ x.s < 1 ∧ 3 < x.s) := by
    have : ¬ (1 ≤ x.s ∧ x.s ≤ 3) := by simpa [Tk.ok] using hx
    omega
  clear hr hi hN h32 hx
  unfold Tk.val
  rcases hcase with h1 | ⟨h1, h2⟩
  · have HV0 : Hid (VS w [(w.heap.size, [.slice A n c, .int .i64 N]), (w.heap.size + 1, x.cells), (w.heap.size + 2, [.slice none 0 0, .int .i64 0])] (((w.alloc (.cells #[.slice A n c, .int .i64 N] 56)).alloc (.cells #[.int .i64 x.i, .int .u8 x.s, .int .i64 x.c, .int .u32 x.w, .int .u64 x.n, .int .i64 x.l] 66)).alloc (.cells #[.slice none 0 0, .int .i64 0] 56))) := hid (by have h := ((((VS.nil w).new 56 [.slice A n c, .int .i64 N]).new 66 x.cells).new 56 [.slice none 0 0, .int .i64 0]); (try simp only [World.size_alloc] at h); exact h)
    go_enter Tryz.func35, Tryz.ntmps35
    go_upto_region 1 with fail
    generalize (((w.alloc (.cells #[.slice A n c, .int .i64 N] 56)).alloc (.cells #[.int .i64 x.i, .int .u8 x.s, .int .i64 x.c, .int .u32 x.w, .int .u64 x.n, .int .i64 x.l] 66)).alloc (.cells #[.slice none 0 0, .int .i64 0] 56)) = W0 at HV0 ⊢
    obtain ⟨q0, q1⟩ := (HV0.out.cs 0 rfl).two
    obtain ⟨x0, x1, x2, x3, x4, x5⟩ := Tk.at x (HV0.out.cs 1 rfl)
    go_wp2_with (first | ((with_reducible refine wpList_put_vs HV0.out 2 56 [.slice A n c, .int .i64 N] infoRB rfl (.tmp 4) (.tmp 16) rfl (w.heap.size + 2) ([.slice none 0 0, .int .i64 0]) ?vs102a 0 ?vs102b ?vs102c ?vs102d ?vs102e ?vs102f ?vs102g); (case vs102a => rfl); (case vs102b => rfl); (case vs102c => exact of_decide_eq_true rfl); (case vs102d => rfl); (case vs102e => rfl); (case vs102f => rfl); (intro W2 hW2); (have HV1 : Hid (VS w [(w.heap.size, [.slice A n c, .int .i64 N]), (w.heap.size + 1, x.cells), (w.heap.size + 2, [.slice A n c, .int .i64 N])] W2) := hid hW2); (clear hW2 HV0)) | fail)
    obtain ⟨b0, b1⟩ := (HV1.out.cs 2 rfl).two
    refine bodyPost_ret (v := .tuple #[.agg #[.slice A n c, .int .i64 N], .int .i64 2]) (by simp [results, Tryz.results35, go_sem, b0, b1]) rfl ⟨_, _, _, rfl, HR.out.below HV1.out.bel, fun j hj => .inl hj, HV1.out.bel⟩
  · have HV0 : Hid (VS w [(w.heap.size, [.slice A n c, .int .i64 N]), (w.heap.size + 1, x.cells), (w.heap.size + 2, [.slice none 0 0, .int .i64 0])] (((w.alloc (.cells #[.slice A n c, .int .i64 N] 56)).alloc (.cells #[.int .i64 x.i, .int .u8 x.s, .int .i64 x.c, .int .u32 x.w, .int .u64 x.n, .int .i64 x.l] 66)).alloc (.cells #[.slice none 0 0, .int .i64 0] 56))) := hid (by have h := ((((VS.nil w).new 56 [.slice A n c, .int .i64 N]).new 66 x.cells).new 56 [.slice none 0 0, .int .i64 0]); (try simp only [World.size_alloc] at h); exact h)
    go_enter Tryz.func35, Tryz.ntmps35
    go_upto_region 1 with fail
    generalize (((w.alloc (.cells #[.slice A n c, .int .i64 N] 56)).alloc (.cells #[.int .i64 x.i, .int .u8 x.s, .int .i64 x.c, .int .u32 x.w, .int .u64 x.n, .int .i64 x.l] 66)).alloc (.cells #[.slice none 0 0, .int .i64 0] 56)) = W0 at HV0 ⊢
    obtain ⟨q0, q1⟩ := (HV0.out.cs 0 rfl).two
    obtain ⟨x0, x1, x2, x3, x4, x5⟩ := Tk.at x (HV0.out.cs 1 rfl)
    go_wp2_with (first | ((with_reducible refine wpList_put_vs HV0.out 2 56 [.slice A n c, .int .i64 N] infoRB rfl (.tmp 4) (.tmp 16) rfl (w.heap.size + 2) ([.slice none 0 0, .int .i64 0]) ?vs103a 0 ?vs103b ?vs103c ?vs103d ?vs103e ?vs103f ?vs103g); (case vs103a => rfl); (case vs103b => rfl); (case vs103c => exact of_decide_eq_true rfl); (case vs103d => rfl); (case vs103e => rfl); (case vs103f => rfl); (intro W2 hW2); (have HV1 : Hid (VS w [(w.heap.size, [.slice A n c, .int .i64 N]), (w.heap.size + 1, x.cells), (w.heap.size + 2, [.slice A n c, .int .i64 N])] W2) := hid hW2); (clear hW2 HV0)) | fail)
    obtain ⟨b0, b1⟩ := (HV1.out.cs 2 rfl).two
    refine bodyPost_ret (v := .tuple #[.agg #[.slice A n c, .int .i64 N], .int .i64 2]) (by simp [results, Tryz.results35, go_sem, b0, b1]) rfl ⟨_, _, _, rfl, HR.out.below HV1.out.bel, fun j hj => .inl hj, HV1.out.bel⟩
set_option maxRecDepth 100000 in
set_option maxHeartbeats 8000000 in
theorem Ref20.set_no (A : Option Addr) (n c N : Nat) (x : Tk) (L : List Tk) (w : World) (hi : TInv L) (hN : L.length = N) (h32 : N ≤ 32) (hr : RdT w A n (L.filter keep)) (hx : x.ok = true) (hf : tfind L x.i = none) : Calls Tryz.prog 35 #[.agg #[.slice A n c, .int .i64 N], x.val] w (DAns2 A N (sttE L x) ((sttL L x).filter keep) w) := by
  have HR := hid hr
  have HI := hid hi
  have HN := hid hN
  have H32 := hid h32
  have h1 : ¬ x.s < 1 := by have : 1 ≤ x.s ∧ x.s ≤ 3 := by simpa [Tk.ok] using hx
                            omega
  have h2 : ¬ 3 < x.s := by have : 1 ≤ x.s ∧ x.s ≤ 3 := by simpa [Tk.ok] using hx
                            omega
  have HX := hid hx
  have hE : sttE L x = 4 := by simp [sttE, hx, hf]
  have hL : sttL L x = L := by simp [sttL, hf]
  rw [hE, hL]
  clear hE hL
  have HG : Hid (getI (L.filter keep) x.i = none) := hid (by rw [get_find hi, hf]; rfl)
  clear hr hi hN h32 hx hf
  have HLE : Hid (n ≤ 1000) := hid (by have h3 := HR.out.1; have h4 := List.length_filter_le keep L; have := HN.out; have := H32.out; omega)
  unfold Tk.val
  have HV0 : Hid (VS w [(w.heap.size, [.slice A n c, .int .i64 N]), (w.heap.size + 1, x.cells), (w.heap.size + 2, [.slice none 0 0, .int .i64 0])] (((w.alloc (.cells #[.slice A n c, .int .i64 N] 56)).alloc (.cells #[.int .i64 x.i, .int .u8 x.s, .int .i64 x.c, .int .u32 x.w, .int .u64 x.n, .int .i64 x.l] 66)).alloc (.cells #[.slice none 0 0, .int .i64 0] 56))) := hid (by have h := ((((VS.nil w).new 56 [.slice A n c, .int .i64 N]).new 66 x.cells).new 56 [.slice none 0 0, .int .i64 0]); (try simp only [World.size_alloc] at h); exact h)
  go_enter Tryz.func35, Tryz.ntmps35
  go_upto_region 1 with fail
  generalize (((w.alloc (.cells #[.slice A n c, .int .i64 N] 56)).alloc (.cells #[.int .i64 x.i, .int .u8 x.s, .int .i64 x.c, .int .u32 x.w, .int .u64 x.n, .int .i64 x.l] 66)).alloc (.cells #[.slice none 0 0, .int .i64 0] 56)) = W0 at HV0 ⊢
  obtain ⟨b0, b1⟩ := (HV0.out.cs 0 rfl).two
  obtain ⟨x0, x1, x2, x3, x4, x5⟩ := Tk.at x (HV0.out.cs 1 rfl)
  go_wp2_with fail
  refine (Ref20.get A n c N x.i (L.filter keep) _ (HR.out.below HV0.out.bel) (by have := HLE.out; omega)).mono ?_
  rw [HG.out]
  rintro e w1 ⟨rfl, hb⟩
  have HV1 := hid (HV0.out.below hb)
  clear hb HV0 b0 b1 x0 x1 x2 x3 x4 x5
  have HV2 : Hid (VS w [(w.heap.size, [.slice A n c, .int .i64 N]), (w.heap.size + 1, x.cells), (w.heap.size + 2, [.slice none 0 0, .int .i64 0]), (w1.heap.size, [.int .i64 0, .int .u8 0, .int .i64 0, .int .u32 0, .int .u64 0, .int .i64 0])] (w1.alloc (.cells #[.int .i64 0, .int .u8 0, .int .i64 0, .int .u32 0, .int .u64 0, .int .i64 0] 66))) := hid (HV1.out.new 66 [.int .i64 0, .int .u8 0, .int .i64 0, .int .u32 0, .int .u64 0, .int .i64 0])
  clear HV1
  go_upto_region 4 with fail
  generalize (w1.alloc (.cells #[.int .i64 0, .int .u8 0, .int .i64 0, .int .u32 0, .int .u64 0, .int .i64 0] 66)) = W1 at HV2 ⊢
  generalize w1.heap.size = gy at HV2 ⊢
  obtain ⟨b0, b1⟩ := (HV2.out.cs 0 rfl).two
  obtain ⟨x0, x1, x2, x3, x4, x5⟩ := Tk.at x (HV2.out.cs 1 rfl)
  go_wp2_with (first | ((with_reducible refine wpList_put_vs HV2.out 2 56 [.slice A n c, .int .i64 N] infoRB rfl (.tmp 4) (.tmp 26) rfl (w.heap.size + 2) ([.slice none 0 0, .int .i64 0]) ?vs104a 0 ?vs104b ?vs104c ?vs104d ?vs104e ?vs104f ?vs104g); (case vs104a => rfl); (case vs104b => rfl); (case vs104c => exact of_decide_eq_true rfl); (case vs104d => rfl); (case vs104e => rfl); (case vs104f => rfl); (intro W2 hW2); (have HV3 : Hid (VS w [(w.heap.size, [.slice A n c, .int .i64 N]), (w.heap.size + 1, x.cells), (w.heap.size + 2, [.slice A n c, .int .i64 N]), (gy, [.int .i64 0, .int .u8 0, .int .i64 0, .int .u32 0, .int .u64 0, .int .i64 0])] W2) := hid hW2); (clear hW2 HV2)) | fail)
  clear b0 b1
  obtain ⟨b0, b1⟩ := (HV3.out.cs 2 rfl).two
  refine bodyPost_ret (v := .tuple #[.agg #[.slice A n c, .int .i64 N], .int .i64 4]) (by simp [results, Tryz.results35, go_sem, b0, b1]) rfl ⟨_, _, _, rfl, HR.out.below HV3.out.bel, fun j hj => .inl hj, HV3.out.bel⟩
set_option maxRecDepth 100000 in
set_option maxHeartbeats 8000000 in
theorem Ref20.set_yes (A : Option Addr) (n c N : Nat) (x : Tk) (j : Nat) (L : List Tk) (w : World) (hi : TInv L) (hN : L.length = N) (h32 : N ≤ 32) (hr : RdT w A n (L.filter keep)) (hx : x.ok = true) (hf : tfind L x.i = some j) : Calls Tryz.prog 35 #[.agg #[.slice A n c, .int .i64 N], x.val] w (DAns2 A N (sttE L x) ((sttL L x).filter keep) w) := by
  have HR := hid hr
  have HI := hid hi
  have HN := hid hN
  have H32 := hid h32
  have h1 : ¬ x.s < 1 := by have : 1 ≤ x.s ∧ x.s ≤ 3 := by simpa [Tk.ok] using hx
                            omega
  have h2 : ¬ 3 < x.s := by have : 1 ≤ x.s ∧ x.s ≤ 3 := by simpa [Tk.ok] using hx
                            omega
  have HX := hid hx
  have hE : sttE L x = 0 := by simp [sttE, hx, hf]
  have hL : sttL L x = L.set j x := by simp [sttL, hx, hf]
  rw [hE, hL]
  clear hE hL
  have HG : Hid (getI (L.filter keep) x.i = some (L.getD j Tk.zero)) := hid (by rw [get_find hi, hf]; rfl)
  have HW : Hid (wth x false (L.filter keep) = (L.set j x).filter keep) := hid (by
    obtain ⟨h3, h4, _⟩ := tfind_some hf
    exact wth_set hi h4 h3 hx)
  obtain ⟨y, hy⟩ : ∃ y, L.getD j Tk.zero = y := ⟨_, rfl⟩
  rw [hy] at HG
  clear hy
  clear hr hi hN h32 hx hf
  have HLE : Hid (n ≤ 1000) := hid (by have h3 := HR.out.1; have h4 := List.length_filter_le keep L; have := HN.out; have := H32.out; omega)
  unfold Tk.val
  have HV0 : Hid (VS w [(w.heap.size, [.slice A n c, .int .i64 N]), (w.heap.size + 1, x.cells), (w.heap.size + 2, [.slice none 0 0, .int .i64 0])] (((w.alloc (.cells #[.slice A n c, .int .i64 N] 56)).alloc (.cells #[.int .i64 x.i, .int .u8 x.s, .int .i64 x.c, .int .u32 x.w, .int .u64 x.n, .int .i64 x.l] 66)).alloc (.cells #[.slice none 0 0, .int .i64 0] 56))) := hid (by have h := ((((VS.nil w).new 56 [.slice A n c, .int .i64 N]).new 66 x.cells).new 56 [.slice none 0 0, .int .i64 0]); (try simp only [World.size_alloc] at h); exact h)
  go_enter Tryz.func35, Tryz.ntmps35
  go_upto_region 1 with fail
  generalize (((w.alloc (.cells #[.slice A n c, .int .i64 N] 56)).alloc (.cells #[.int .i64 x.i, .int .u8 x.s, .int .i64 x.c, .int .u32 x.w, .int .u64 x.n, .int .i64 x.l] 66)).alloc (.cells #[.slice none 0 0, .int .i64 0] 56)) = W0 at HV0 ⊢
  obtain ⟨b0, b1⟩ := (HV0.out.cs 0 rfl).two
  obtain ⟨x0, x1, x2, x3, x4, x5⟩ := Tk.at x (HV0.out.cs 1 rfl)
  go_wp2_with fail
  refine (Ref20.get A n c N x.i (L.filter keep) _ (HR.out.below HV0.out.bel) (by have := HLE.out; omega)).mono ?_
  rw [HG.out]
  rintro e w1 ⟨rfl, hb⟩
  have HV1 := hid (HV0.out.below hb)
  clear hb HV0 b0 b1 x0 x1 x2 x3 x4 x5
  have HV2 : Hid (VS w [(w.heap.size, [.slice A n c, .int .i64 N]), (w.heap.size + 1, x.cells), (w.heap.size + 2, [.slice none 0 0, .int .i64 0]), (w1.heap.size, [.int .i64 y.i, .int .u8 y.s, .int .i64 y.c, .int .u32 y.w, .int .u64 y.n, .int .i64 y.l])] (w1.alloc (.cells #[.int .i64 y.i, .int .u8 y.s, .int .i64 y.c, .int .u32 y.w, .int .u64 y.n, .int .i64 y.l] 66))) := hid (HV1.out.new 66 [.int .i64 y.i, .int .u8 y.s, .int .i64 y.c, .int .u32 y.w, .int .u64 y.n, .int .i64 y.l])
  clear HV1
  go_upto_region 4 with fail
  generalize (w1.alloc (.cells #[.int .i64 y.i, .int .u8 y.s, .int .i64 y.c, .int .u32 y.w, .int .u64 y.n, .int .i64 y.l] 66)) = W1 at HV2 ⊢
  generalize w1.heap.size = gy at HV2 ⊢
  obtain ⟨b0, b1⟩ := (HV2.out.cs 0 rfl).two
  obtain ⟨x0, x1, x2, x3, x4, x5⟩ := Tk.at x (HV2.out.cs 1 rfl)
  go_upto_region 6 with fail
  clear b0 b1 x0 x1 x2 x3 x4 x5
  have hsT1 : Stays (VS w [(w.heap.size, [.slice A n c, .int .i64 N]), (w.heap.size + 1, x.cells), (w.heap.size + 2, [.slice none 0 0, .int .i64 0]), (gy, [.int .i64 y.i, .int .u8 y.s, .int .i64 y.c, .int .u32 y.w, .int .u64 y.n, .int .i64 y.l])]) := VS.stays w _
  refine wp_region_grow (S := VS w [(w.heap.size, [.slice A n c, .int .i64 N]), (w.heap.size + 1, x.cells), (w.heap.size + 2, [.slice none 0 0, .int .i64 0]), (gy, [.int .i64 y.i, .int .u8 y.s, .int .i64 y.c, .int .u32 y.w, .int .u64 y.n, .int .i64 y.l])]) 7 (by kernel_rfl) (hsT1 _ _ (HV2.out) (Below.refl _ _).drew) ?_
  refine wpAnyE_take (i := 0) (v := ?_) (hsT1) (fun _ h => h) rfl (by kernel_rfl) (by kernel_rfl) (by kernel_rfl) (by kernel_rfl) (fun _ _ _ h => h) (SteadyB.of_yields (Or.inl ⟨by rfl, ?_⟩)) ?_
  rotate_left
  · intro wq hSw
    go_simp
    (try with_reducible rfl)
  try simp only [List.getElem_toArray, List.getElem_cons_zero, List.getElem_cons_succ, Act.put, List.setIfInBounds_toArray, List.set_cons_zero, List.set_cons_succ]
  refine wpAnyE_take (i := 1) (v := ?_) (hsT1) (fun _ h => h) rfl (by kernel_rfl) (by kernel_rfl) (by kernel_rfl) (by kernel_rfl) (fun _ _ _ h => h) (SteadyB.of_yields (Or.inl ⟨by rfl, ?_⟩)) ?_
  rotate_left
  · intro wq hSw
    obtain ⟨b0, b1⟩ := (hSw.cs 0 rfl).two
    obtain ⟨x0, x1, x2, x3, x4, x5⟩ := Tk.at x (hSw.cs 1 rfl)
    go_simp
    (try with_reducible rfl)
  try simp only [List.getElem_toArray, List.getElem_cons_zero, List.getElem_cons_succ, Act.put, List.setIfInBounds_toArray, List.set_cons_zero, List.set_cons_succ]
  refine wpAnyE_take (i := 2) (v := ?_) (hsT1) (fun _ h => h) rfl (by kernel_rfl) (by kernel_rfl) (by kernel_rfl) (by kernel_rfl) (fun _ _ _ h => h) (SteadyB.of_yields (Or.inl ⟨by rfl, ?_⟩)) ?_
  rotate_left
  · intro wq hSw
    obtain ⟨b0, b1⟩ := (hSw.cs 0 rfl).two
    obtain ⟨x0, x1, x2, x3, x4, x5⟩ := Tk.at x (hSw.cs 1 rfl)
    go_simp
    (try with_reducible rfl)
  try simp only [List.getElem_toArray, List.getElem_cons_zero, List.getElem_cons_succ, Act.put, List.setIfInBounds_toArray, List.set_cons_zero, List.set_cons_succ]
  refine wpAnyE_take (i := 4) (v := ?_) (hsT1) (fun _ h => h) rfl (by kernel_rfl) (by kernel_rfl) (by kernel_rfl) (by kernel_rfl) (fun _ _ _ h => h) (SteadyB.of_yields (Or.inl ⟨by rfl, ?_⟩)) ?_
  rotate_left
  · intro wq hSw
    go_simp
    (try with_reducible rfl)
  try simp only [List.getElem_toArray, List.getElem_cons_zero, List.getElem_cons_succ, Act.put, List.setIfInBounds_toArray, List.set_cons_zero, List.set_cons_succ]
  refine wpAnyE_take (i := 5) (v := ?_) (hsT1) (fun _ h => h) rfl (by kernel_rfl) (by kernel_rfl) (by kernel_rfl) (by kernel_rfl) (fun _ _ _ h => h) (SteadyB.of_yields (Or.inl ⟨by rfl, ?_⟩)) ?_
  rotate_left
  · intro wq hSw
    obtain ⟨b0, b1⟩ := (hSw.cs 0 rfl).two
    obtain ⟨x0, x1, x2, x3, x4, x5⟩ := Tk.at x (hSw.cs 1 rfl)
    go_simp
    (try with_reducible rfl)
  try simp only [List.getElem_toArray, List.getElem_cons_zero, List.getElem_cons_succ, Act.put, List.setIfInBounds_toArray, List.set_cons_zero, List.set_cons_succ]
  refine wpAnyE_call (i := 3) (fun y : Option Addr × Nat × Nat => .slice y.1 y.2.1 y.2.2) (WBE w [(w.heap.size, [.slice A n c, .int .i64 N]), (w.heap.size + 1, x.cells), (w.heap.size + 2, [.slice none 0 0, .int .i64 0]), (gy, [.int .i64 y.i, .int .u8 y.s, .int .i64 y.c, .int .u32 y.w, .int .u64 y.n, .int .i64 y.l])] ((L.set j x).filter keep)) rfl (by kernel_rfl) (by decide) (by rfl) (hsT1) (fun _ h => h) (fun yq => WBE.stays w [(w.heap.size, [.slice A n c, .int .i64 N]), (w.heap.size + 1, x.cells), (w.heap.size + 2, [.slice none 0 0, .int .i64 0]), (gy, [.int .i64 y.i, .int .u8 y.s, .int .i64 y.c, .int .u32 y.w, .int .u64 y.n, .int .i64 y.l])] ((L.set j x).filter keep) yq) (fun wq hSw => ?_) (fun yq => ?_)
  · exact RunI.of_calls (Ref20.wit A n c x (L.filter keep) wq (HR.out.below hSw.bel) HLE.out) (by go_simp) (fun e w' ⟨B, k, d, he, ho, hb⟩ => ⟨(B, k, d), he, ⟨_, WB.of hSw (HW.out ▸ ho) hb⟩, hb⟩)
  obtain ⟨B, k, d⟩ := yq
  dsimp only
  try simp only [List.getElem_toArray, List.getElem_cons_zero, List.getElem_cons_succ, Act.put, List.setIfInBounds_toArray, List.set_cons_zero, List.set_cons_succ]
  refine wpAnyE_take (i := 6) (v := ?_) (Stays.and_ (hsT1) (WBE.stays w [(w.heap.size, [.slice A n c, .int .i64 N]), (w.heap.size + 1, x.cells), (w.heap.size + 2, [.slice none 0 0, .int .i64 0]), (gy, [.int .i64 y.i, .int .u8 y.s, .int .i64 y.c, .int .u32 y.w, .int .u64 y.n, .int .i64 y.l])] ((L.set j x).filter keep) (B, k, d))) (fun _ h => h.1) rfl (by kernel_rfl) (by kernel_rfl) (by kernel_rfl) (by kernel_rfl) (fun _ _ _ h => h) (SteadyB.of_yields (Or.inl ⟨by rfl, ?_⟩)) ?_
  rotate_left
  · intro wq hSw
    go_simp
    (try with_reducible rfl)
  try simp only [List.getElem_toArray, List.getElem_cons_zero, List.getElem_cons_succ, Act.put, List.setIfInBounds_toArray, List.set_cons_zero, List.set_cons_succ]
  refine wpAnyE_rest (n := 7) rfl rfl (by kernel_rfl) (fun wz hSz => ?_)
  simp only [List.toList_toArray, List.drop_succ_cons, List.drop_zero]
  obtain ⟨base, hwb⟩ := hSz.2
  have HWB := hid hwb
  clear hSz hwb
  go_wp2_with (first | ((with_reducible refine wpList_put_wb HWB.out 2 56 [.slice B k d, .int .i64 N] infoRB rfl (.tmp 4) (.tmp 33) rfl (w.heap.size + 2) ([.slice none 0 0, .int .i64 0]) ?wb105a 0 ?wb105b ?wb105c ?wb105d ?wb105e ?wb105f ?wb105g); (case wb105a => rfl); (case wb105b => rfl); (case wb105c => exact of_decide_eq_true rfl); (case wb105d => rfl); (case wb105e => rfl); (case wb105f => rfl); (intro W2 hW2); (have HWE := hid hW2); (clear hW2)) | fail)
  obtain ⟨b0, b1⟩ := (HWE.out.v.cs 2 rfl).two
  refine bodyPost_ret (v := .tuple #[.agg #[.slice B k d, .int .i64 N], .int .i64 0]) (by simp [results, Tryz.results35, go_sem, b0, b1]) rfl ⟨_, _, _, rfl, HWE.out.rd, fun j hj => .inr ⟨Nat.le_trans HWE.out.b (HWE.out.o.rowGe j hj).1, (HWE.out.o.rowGe j hj).2⟩, HWE.out.v.bel⟩
theorem filt_step (id : Int) (D : List Tk) {k : Nat} (hk : k < D.length) : (D.take (k + 1)).filter (fun y => !(y.i == id)) = (D.take k).filter (fun y => !(y.i == id)) ++ (if (D.getD k Tk.zero).i = id then [] else [D.getD k Tk.zero]) := by
  have e : D.getD k Tk.zero = D[k] := by simp [List.getD, hk]
  rw [List.take_succ_eq_append_getElem hk, List.filter_append, e, List.filter_cons, List.filter_nil]
  by_cases h : D[k].i = id <;> simp [h]
set_option maxRecDepth 100000 in
set_option maxHeartbeats 8000000 in
theorem Ref20.drop_no (A : Option Addr) (n c N : Nat) (id : Int) (L : List Tk) (w : World) (hi : TInv L) (hN : L.length = N) (h32 : N ≤ 32) (hr : RdT w A n (L.filter keep)) (hf : tfind L id = none) : Calls Tryz.prog 37 #[.agg #[.slice A n c, .int .i64 N], .int .i64 id] w (DAns2 A N (dropE L id) ((dropL L id).filter keep) w) := by
  have HR := hid hr
  have HN := hid hN
  have H32 := hid h32
  have hE : dropE L id = 4 := by simp [dropE, hf]
  have hL : dropL L id = L := by simp [dropL, hf]
  rw [hE, hL]
  clear hE hL
  have HG : Hid (getI (L.filter keep) id = none) := hid (by rw [get_find hi, hf]; rfl)
  have HLE : Hid (n ≤ 1000) := hid (by have h3 := hr.1; have h4 := List.length_filter_le keep L; omega)
  clear hr hi hN h32 hf
  have HV0 : Hid (VS w [(w.heap.size, [.slice A n c, .int .i64 N]), (w.heap.size + 1, [.slice none 0 0, .int .i64 0])] ((w.alloc (.cells #[.slice A n c, .int .i64 N] 56)).alloc (.cells #[.slice none 0 0, .int .i64 0] 56))) := hid (by have h := (((VS.nil w).new 56 [.slice A n c, .int .i64 N]).new 56 [.slice none 0 0, .int .i64 0]); (try simp only [World.size_alloc] at h); exact h)
  go_enter Tryz.func37, Tryz.ntmps37
  go_upto_region 1 with fail
  generalize ((w.alloc (.cells #[.slice A n c, .int .i64 N] 56)).alloc (.cells #[.slice none 0 0, .int .i64 0] 56)) = W0 at HV0 ⊢
  obtain ⟨b0, b1⟩ := (HV0.out.cs 0 rfl).two
  go_wp2_with fail
  refine (Ref20.get A n c N id (L.filter keep) _ (HR.out.below HV0.out.bel) (by have := HLE.out; omega)).mono ?_
  rw [HG.out]
  rintro e w1 ⟨rfl, hb⟩
  have HV1 := hid (HV0.out.below hb)
  clear hb HV0 b0 b1
  have HV2 : Hid (VS w [(w.heap.size, [.slice A n c, .int .i64 N]), (w.heap.size + 1, [.slice none 0 0, .int .i64 0]), (w1.heap.size, [.int .i64 0, .int .u8 0, .int .i64 0, .int .u32 0, .int .u64 0, .int .i64 0])] (w1.alloc (.cells #[.int .i64 0, .int .u8 0, .int .i64 0, .int .u32 0, .int .u64 0, .int .i64 0] 66))) := hid (HV1.out.new 66 [.int .i64 0, .int .u8 0, .int .i64 0, .int .u32 0, .int .u64 0, .int .i64 0])
  clear HV1
  go_upto_region 2 with fail
  generalize (w1.alloc (.cells #[.int .i64 0, .int .u8 0, .int .i64 0, .int .u32 0, .int .u64 0, .int .i64 0] 66)) = W1 at HV2 ⊢
  generalize w1.heap.size = gy at HV2 ⊢
  obtain ⟨b0, b1⟩ := (HV2.out.cs 0 rfl).two
  go_wp2_with (first | ((with_reducible refine wpList_put_vs HV2.out 1 56 [.slice A n c, .int .i64 N] infoRB rfl (.tmp 4) (.tmp 19) rfl (w.heap.size + 1) ([.slice none 0 0, .int .i64 0]) ?vs106a 0 ?vs106b ?vs106c ?vs106d ?vs106e ?vs106f ?vs106g); (case vs106a => rfl); (case vs106b => rfl); (case vs106c => exact of_decide_eq_true rfl); (case vs106d => rfl); (case vs106e => rfl); (case vs106f => rfl); (intro W2 hW2); (have HV3 : Hid (VS w [(w.heap.size, [.slice A n c, .int .i64 N]), (w.heap.size + 1, [.slice A n c, .int .i64 N]), (gy, [.int .i64 0, .int .u8 0, .int .i64 0, .int .u32 0, .int .u64 0, .int .i64 0])] W2) := hid hW2); (clear hW2 HV2)) | fail)
  clear b0 b1
  obtain ⟨b0, b1⟩ := (HV3.out.cs 1 rfl).two
  refine bodyPost_ret (v := .tuple #[.agg #[.slice A n c, .int .i64 N], .int .i64 4]) (by simp [results, Tryz.results37, go_sem, b0, b1]) rfl ⟨_, _, _, rfl, HR.out.below HV3.out.bel, fun j hj => .inl hj, HV3.out.bel⟩
set_option maxRecDepth 100000 in
set_option maxHeartbeats 8000000 in
theorem Ref20.drop_yes (A : Option Addr) (n c N : Nat) (id : Int) (j : Nat) (L : List Tk) (w : World) (hi : TInv L) (hN : L.length = N) (h32 : N ≤ 32) (hr : RdT w A n (L.filter keep)) (hf : tfind L id = some j) : Calls Tryz.prog 37 #[.agg #[.slice A n c, .int .i64 N], .int .i64 id] w (DAns2 A N (dropE L id) ((dropL L id).filter keep) w) := by
  have HR := hid hr
  have HN := hid hN
  have H32 := hid h32
  have hE : dropE L id = 0 := by simp [dropE, hf]
  have hL : dropL L id = L.set j Tk.zero := by simp [dropL, hf]
  rw [hE, hL]
  clear hE hL
  have HG : Hid (getI (L.filter keep) id = some (L.getD j Tk.zero)) := hid (by rw [get_find hi, hf]; rfl)
  have HW : Hid ((L.filter keep).filter (fun y => !(y.i == id)) = (L.set j Tk.zero).filter keep) := hid (by
    obtain ⟨rfl, h4, _⟩ := tfind_some hf
    exact drop_set hi h4)
  obtain ⟨y, hy⟩ : ∃ y, L.getD j Tk.zero = y := ⟨_, rfl⟩
  rw [hy] at HG
  clear hy
  have HLE : Hid (n ≤ 1000) := hid (by have h3 := hr.1; have h4 := List.length_filter_le keep L; omega)
  clear hr hi hN h32 hf
  have HV0 : Hid (VS w [(w.heap.size, [.slice A n c, .int .i64 N]), (w.heap.size + 1, [.slice none 0 0, .int .i64 0])] ((w.alloc (.cells #[.slice A n c, .int .i64 N] 56)).alloc (.cells #[.slice none 0 0, .int .i64 0] 56))) := hid (by have h := (((VS.nil w).new 56 [.slice A n c, .int .i64 N]).new 56 [.slice none 0 0, .int .i64 0]); (try simp only [World.size_alloc] at h); exact h)
  go_enter Tryz.func37, Tryz.ntmps37
  go_upto_region 1 with fail
  generalize ((w.alloc (.cells #[.slice A n c, .int .i64 N] 56)).alloc (.cells #[.slice none 0 0, .int .i64 0] 56)) = W0 at HV0 ⊢
  obtain ⟨b0, b1⟩ := (HV0.out.cs 0 rfl).two
  go_wp2_with fail
  refine (Ref20.get A n c N id (L.filter keep) _ (HR.out.below HV0.out.bel) (by have := HLE.out; omega)).mono ?_
  rw [HG.out]
  rintro e w1 ⟨rfl, hb⟩
  have HV1 := hid (HV0.out.below hb)
  clear hb HV0 b0 b1
  have HV2 : Hid (VS w [(w.heap.size, [.slice A n c, .int .i64 N]), (w.heap.size + 1, [.slice none 0 0, .int .i64 0]), (w1.heap.size, [.int .i64 y.i, .int .u8 y.s, .int .i64 y.c, .int .u32 y.w, .int .u64 y.n, .int .i64 y.l])] (w1.alloc (.cells #[.int .i64 y.i, .int .u8 y.s, .int .i64 y.c, .int .u32 y.w, .int .u64 y.n, .int .i64 y.l] 66))) := hid (HV1.out.new 66 [.int .i64 y.i, .int .u8 y.s, .int .i64 y.c, .int .u32 y.w, .int .u64 y.n, .int .i64 y.l])
  clear HV1
  go_upto_region 2 with fail
  generalize (w1.alloc (.cells #[.int .i64 y.i, .int .u8 y.s, .int .i64 y.c, .int .u32 y.w, .int .u64 y.n, .int .i64 y.l] 66)) = W1 at HV2 ⊢
  generalize w1.heap.size = gy at HV2 ⊢
  obtain ⟨b0, b1⟩ := (HV2.out.cs 0 rfl).two
  have hni : (n : Int) ≤ 1000 := by have := HLE.out; omega
  obtain ⟨D, hD⟩ : ∃ D, L.filter keep = D := ⟨_, rfl⟩
  rw [hD] at HR HG HW
  clear hD
  have HLN := hid HR.out.1
  go_wp2_with fail
  go_loopg [8, 23] n (fun s a8 i wr => ∃ (k : Nat) (B : Option Addr) (kk cc : Nat), a8 = .slice B kk cc ∧ i = .int .i64 k ∧ k ≤ n ∧ s = n - k ∧ kk ≤ k ∧ WB w [(w.heap.size, [.slice A n c, .int .i64 N]), (w.heap.size + 1, [.slice none 0 0, .int .i64 0]), (gy, [.int .i64 y.i, .int .u8 y.s, .int .i64 y.c, .int .u32 y.w, .int .u64 y.n, .int .i64 y.l])] W1.heap.size B kk cc ((D.take k).filter (fun y => !(y.i == id))) wr)
  case atStart => exact ⟨0, none, 0, 0, rfl, rfl, Nat.zero_le _, by omega, Nat.le_refl _, WB.start HV2.out⟩
  case round =>
    obtain ⟨k, B, kk, cc, rfl, rfl, hk, hs, hq, hv⟩ := hrel
    have HS := hid hs
    have HQ := hid hq
    have HWB := hid hv
    clear hs hv hq
    by_cases hkn : k < n
    · obtain ⟨bb, off, hA, _, hc⟩ := (HR.out.below HWB.out.v.bel).2 (by omega)
      obtain ⟨p0, p1, p2, p3, p4, p5⟩ := Tk.of _ (hc k hkn)
      have HST := hid (filt_step id D (k := k) (by have := HLN.out; omega))
      have hkk : kk ≤ 1000000 := by have := HQ.out; have := HLE.out; omega
      generalize D.getD k Tk.zero = z at *
      subst hA
      have hki : (k : Int) < n := by omega
      have hk0 : (0 : Int) ≤ k := by omega
      clear hc hk b0 b1
      have HW1 : Hid (WB w ([(w.heap.size, [.slice (some ⟨bb, off, none⟩) n c, .int .i64 N]), (w.heap.size + 1, [.slice none 0 0, .int .i64 0]), (gy, [.int .i64 y.i, .int .u8 y.s, .int .i64 y.c, .int .u32 y.w, .int .u64 y.n, .int .i64 y.l])] ++ [(wr.heap.size, [.int .i64 z.i, .int .u8 z.s, .int .i64 z.c, .int .u32 z.w, .int .u64 z.n, .int .i64 z.l])]) W1.heap.size B kk cc ((D.take k).filter (fun y => !(y.i == id))) (wr.alloc (.cells #[.int .i64 z.i, .int .u8 z.s, .int .i64 z.c, .int .u32 z.w, .int .u64 z.n, .int .i64 z.l] 66))) := hid (HWB.out.new 66 [.int .i64 z.i, .int .u8 z.s, .int .i64 z.c, .int .u32 z.w, .int .u64 z.n, .int .i64 z.l])
      go_upto_region 8 with fail
      generalize (wr.alloc (.cells #[.int .i64 z.i, .int .u8 z.s, .int .i64 z.c, .int .u32 z.w, .int .u64 z.n, .int .i64 z.l] 66)) = W3 at HW1 ⊢
      generalize wr.heap.size = gz at HW1 ⊢
      clear p0 p1 p2 p3 p4 p5 HWB
      obtain ⟨z0, z1, z2, z3, z4, z5⟩ := Tk.at z (HW1.out.v.cs 3 rfl)
      by_cases hz : z.i = id
      · have hz1 : (z.i == id) = true := by simpa using hz
        have HFS : Hid ((D.take (k + 1)).filter (fun y => !(y.i == id)) = (D.take k).filter (fun y => !(y.i == id))) := hid (by rw [HST.out, if_pos hz, List.append_nil])
        clear hz HST
        go_wp2_with fail
        go_roundg (n - (k + 1))
        case measure => have := HS.out; omega
        case rel => exact ⟨k + 1, B, kk, cc, rfl, by go_num, by omega, rfl, by have := HQ.out; omega, by rw [HFS.out]; exact HW1.out.less [(_, _)]⟩
      · have hz1 : (z.i == id) = false := by simpa using hz
        have HFS : Hid ((D.take (k + 1)).filter (fun y => !(y.i == id)) = (D.take k).filter (fun y => !(y.i == id)) ++ [z]) := hid (by rw [HST.out, if_neg hz])
        clear hz HST
        have hw1 := HW1.out.below ((Below.refl W3.heap.size W3).alloc (Nat.le_refl _) (.cells #[.int .i64 z.i, .int .u8 z.s, .int .i64 z.c, .int .u32 z.w, .int .u64 z.n, .int .i64 z.l] 66))
        have hc1 := Tk.rangeNew W3 66 z
        go_wp2_with (first | ((at_builtin); (with_reducible refine wpList_append_wb hw1 rfl (.tmp 31) (.tmp 33) rfl z W3.heap.size ?apda ?apdb hc1 hkk ?apdc); (case apda => rfl); (case apdb => rfl); (intro B1 c1 W4 hn1); (have HW2 := hid hn1); (clear hn1 hw1 hc1)) | fail)
        go_roundg (n - (k + 1))
        case measure => have := HS.out; omega
        case rel => exact ⟨k + 1, B1, kk + 1, c1, rfl, by go_num, by omega, rfl, by have := HQ.out; omega, by rw [HFS.out]; exact HW2.out.less [(_, _)]⟩
    · have hki : ¬ (k : Int) < n := by omega
      have HE : Hid ((D.take k).filter (fun y => !(y.i == id)) = (L.set j Tk.zero).filter keep) := hid (by rw [List.take_of_length_le (by have := HLN.out; omega)]; exact HW.out)
      rw [HE.out] at HWB
      clear b0 b1
      obtain ⟨b0, b1⟩ := (HWB.out.v.cs 0 rfl).two
      go_wp2_with (first | ((with_reducible refine wpList_put_wb HWB.out 1 56 [.slice B kk cc, .int .i64 N] infoRB rfl (.tmp 4) (.tmp 39) rfl (w.heap.size + 1) ([.slice none 0 0, .int .i64 0]) ?wb107a 0 ?wb107b ?wb107c ?wb107d ?wb107e ?wb107f ?wb107g); (case wb107a => rfl); (case wb107b => rfl); (case wb107c => exact of_decide_eq_true rfl); (case wb107d => rfl); (case wb107e => rfl); (case wb107f => rfl); (intro W2 hW2); (have HWE := hid hW2); (clear hW2)) | fail)
      clear b0 b1
      obtain ⟨b0, b1⟩ := (HWE.out.v.cs 1 rfl).two
      refine bodyPost_ret (v := .tuple #[.agg #[.slice B kk cc, .int .i64 N], .int .i64 0]) (by simp [results, Tryz.results37, go_sem, b0, b1]) rfl ⟨_, _, _, rfl, HWE.out.rd, fun j hj => .inr ⟨Nat.le_trans HWE.out.b (HWE.out.o.rowGe j hj).1, (HWE.out.o.rowGe j hj).2⟩, HWE.out.v.bel⟩
set_option maxRecDepth 100000 in
set_option maxHeartbeats 8000000 in
theorem Ref20.add_bad (A : Option Addr) (n c N : Nat) (x : Tk) (L : List Tk) (w : World) (hi : TInv L) (hN : L.length = N) (h32 : N ≤ 32) (hr : RdT w A n (L.filter keep)) (hx : x.ok = false) : Calls Tryz.prog 40 #[.agg #[.slice A n c, .int .i64 N], x.val] w (DAns3 A N (addI L x) (addE L x) ((addL L x).filter keep) w) := by
  have HR := hid hr
  rw [show addI L x = 0 by simp [addI, hx], show addE L x = 2 by simp [addE, hx], show addL L x = L by simp [addL, hx]]
  have hcase : x.s < 1 ∨ (¬ x.s < 1 ∧ 3 < x.s) := by
    have : ¬ (1 ≤ x.s ∧ x.s ≤ 3) := by simpa [Tk.ok] using hx
    omega
  clear hr hi hN h32 hx
  unfold Tk.val
  rcases hcase with h1 | ⟨h1, h2⟩
  · have HV0 : Hid (VS w [(w.heap.size, [.slice A n c, .int .i64 N]), (w.heap.size + 1, x.cells), (w.heap.size + 2, [.slice none 0 0, .int .i64 0])] (((w.alloc (.cells #[.slice A n c, .int .i64 N] 56)).alloc (.cells #[.int .i64 x.i, .int .u8 x.s, .int .i64 x.c, .int .u32 x.w, .int .u64 x.n, .int .i64 x.l] 66)).alloc (.cells #[.slice none 0 0, .int .i64 0] 56))) := hid (by have h := ((((VS.nil w).new 56 [.slice A n c, .int .i64 N]).new 66 x.cells).new 56 [.slice none 0 0, .int .i64 0]); (try simp only [World.size_alloc] at h); exact h)
    go_enter Tryz.func40, Tryz.ntmps40
    go_upto_region 1 with fail
    generalize (((w.alloc (.cells #[.slice A n c, .int .i64 N] 56)).alloc (.cells #[.int .i64 x.i, .int .u8 x.s, .int .i64 x.c, .int .u32 x.w, .int .u64 x.n, .int .i64 x.l] 66)).alloc (.cells #[.slice none 0 0, .int .i64 0] 56)) = W0 at HV0 ⊢
    obtain ⟨q0, q1⟩ := (HV0.out.cs 0 rfl).two
    obtain ⟨x0, x1, x2, x3, x4, x5⟩ := Tk.at x (HV0.out.cs 1 rfl)
    go_wp2_with (first | ((with_reducible refine wpList_put_vs HV0.out 2 56 [.slice A n c, .int .i64 N] infoRB rfl (.tmp 4) (.tmp 18) rfl (w.heap.size + 2) ([.slice none 0 0, .int .i64 0]) ?vs108a 0 ?vs108b ?vs108c ?vs108d ?vs108e ?vs108f ?vs108g); (case vs108a => rfl); (case vs108b => rfl); (case vs108c => exact of_decide_eq_true rfl); (case vs108d => rfl); (case vs108e => rfl); (case vs108f => rfl); (intro W2 hW2); (have HV1 : Hid (VS w [(w.heap.size, [.slice A n c, .int .i64 N]), (w.heap.size + 1, x.cells), (w.heap.size + 2, [.slice A n c, .int .i64 N])] W2) := hid hW2); (clear hW2 HV0)) | fail)
    obtain ⟨b0, b1⟩ := (HV1.out.cs 2 rfl).two
    refine bodyPost_ret (v := .tuple #[.agg #[.slice A n c, .int .i64 N], .int .i64 0, .int .i64 2]) (by simp [results, Tryz.results40, go_sem, b0, b1]) rfl ⟨_, _, _, rfl, HR.out.below HV1.out.bel, fun j hj => .inl hj, HV1.out.bel⟩
  · have HV0 : Hid (VS w [(w.heap.size, [.slice A n c, .int .i64 N]), (w.heap.size + 1, x.cells), (w.heap.size + 2, [.slice none 0 0, .int .i64 0])] (((w.alloc (.cells #[.slice A n c, .int .i64 N] 56)).alloc (.cells #[.int .i64 x.i, .int .u8 x.s, .int .i64 x.c, .int .u32 x.w, .int .u64 x.n, .int .i64 x.l] 66)).alloc (.cells #[.slice none 0 0, .int .i64 0] 56))) := hid (by have h := ((((VS.nil w).new 56 [.slice A n c, .int .i64 N]).new 66 x.cells).new 56 [.slice none 0 0, .int .i64 0]); (try simp only [World.size_alloc] at h); exact h)
    go_enter Tryz.func40, Tryz.ntmps40
    go_upto_region 1 with fail
    generalize (((w.alloc (.cells #[.slice A n c, .int .i64 N] 56)).alloc (.cells #[.int .i64 x.i, .int .u8 x.s, .int .i64 x.c, .int .u32 x.w, .int .u64 x.n, .int .i64 x.l] 66)).alloc (.cells #[.slice none 0 0, .int .i64 0] 56)) = W0 at HV0 ⊢
    obtain ⟨q0, q1⟩ := (HV0.out.cs 0 rfl).two
    obtain ⟨x0, x1, x2, x3, x4, x5⟩ := Tk.at x (HV0.out.cs 1 rfl)
    go_wp2_with (first | ((with_reducible refine wpList_put_vs HV0.out 2 56 [.slice A n c, .int .i64 N] infoRB rfl (.tmp 4) (.tmp 18) rfl (w.heap.size + 2) ([.slice none 0 0, .int .i64 0]) ?vs109a 0 ?vs109b ?vs109c ?vs109d ?vs109e ?vs109f ?vs109g); (case vs109a => rfl); (case vs109b => rfl); (case vs109c => exact of_decide_eq_true rfl); (case vs109d => rfl); (case vs109e => rfl); (case vs109f => rfl); (intro W2 hW2); (have HV1 : Hid (VS w [(w.heap.size, [.slice A n c, .int .i64 N]), (w.heap.size + 1, x.cells), (w.heap.size + 2, [.slice A n c, .int .i64 N])] W2) := hid hW2); (clear hW2 HV0)) | fail)
    obtain ⟨b0, b1⟩ := (HV1.out.cs 2 rfl).two
    refine bodyPost_ret (v := .tuple #[.agg #[.slice A n c, .int .i64 N], .int .i64 0, .int .i64 2]) (by simp [results, Tryz.results40, go_sem, b0, b1]) rfl ⟨_, _, _, rfl, HR.out.below HV1.out.bel, fun j hj => .inl hj, HV1.out.bel⟩
set_option maxRecDepth 100000 in
set_option maxHeartbeats 8000000 in
theorem Ref20.add_ok (A : Option Addr) (n c N : Nat) (x : Tk) (L : List Tk) (w : World) (hi : TInv L) (hN : L.length = N) (h32 : N ≤ 32) (hr : RdT w A n (L.filter keep)) (hx : x.ok = true) : Calls Tryz.prog 40 #[.agg #[.slice A n c, .int .i64 N], x.val] w (DAns3 A N (addI L x) (addE L x) ((addL L x).filter keep) w) := by
  have HR := hid hr
  have HI := hid hi
  have HN := hid hN
  have H32 := hid h32
  have h1 : ¬ x.s < 1 := by have : 1 ≤ x.s ∧ x.s ≤ 3 := by simpa [Tk.ok] using hx
                            omega
  have h2 : ¬ 3 < x.s := by have : 1 ≤ x.s ∧ x.s ≤ 3 := by simpa [Tk.ok] using hx
                            omega
  have HX := hid hx
  have hI : addI L x = lf L 0 := by simp [addI, hx]
  have hE : addE L x = if lf L 0 = 0 then 7 else 0 := by simp [addE, hx]
  have hL : addL L x = if lf L 0 = 0 then L else L.set (lf L 0 - 1).toNat { x with i := lf L 0 } := by simp [addL, hx]
  obtain ⟨ra, hra⟩ : ∃ ra, addI L x = ra := ⟨_, rfl⟩
  obtain ⟨rb, hrb⟩ : ∃ rb, addE L x = rb := ⟨_, rfl⟩
  obtain ⟨rM, hrM⟩ : ∃ rM, addL L x = rM := ⟨_, rfl⟩
  rw [hra, hrb, hrM]
  rw [hI] at hra
  rw [hE] at hrb
  rw [hL] at hrM
  have HRA := hid hra
  have HRB := hid hrb
  have HRM := hid hrM
  clear hra hrb hrM
  have HLE : Hid (n ≤ 1000) := hid (by have h3 := hr.1; have h4 := List.length_filter_le keep L; omega)
  have hNI : (N : Int) ≤ 32 := by omega
  clear hr hi hN h32 hx hI hE hL
  unfold Tk.val
  have HV0 : Hid (VS w [(w.heap.size, [.slice A n c, .int .i64 N]), (w.heap.size + 1, x.cells), (w.heap.size + 2, [.slice none 0 0, .int .i64 0])] (((w.alloc (.cells #[.slice A n c, .int .i64 N] 56)).alloc (.cells #[.int .i64 x.i, .int .u8 x.s, .int .i64 x.c, .int .u32 x.w, .int .u64 x.n, .int .i64 x.l] 66)).alloc (.cells #[.slice none 0 0, .int .i64 0] 56))) := hid (by have h := ((((VS.nil w).new 56 [.slice A n c, .int .i64 N]).new 66 x.cells).new 56 [.slice none 0 0, .int .i64 0]); (try simp only [World.size_alloc] at h); exact h)
  go_enter Tryz.func40, Tryz.ntmps40
  go_upto_region 1 with fail
  generalize (((w.alloc (.cells #[.slice A n c, .int .i64 N] 56)).alloc (.cells #[.int .i64 x.i, .int .u8 x.s, .int .i64 x.c, .int .u32 x.w, .int .u64 x.n, .int .i64 x.l] 66)).alloc (.cells #[.slice none 0 0, .int .i64 0] 56)) = W0 at HV0 ⊢
  obtain ⟨b0, b1⟩ := (HV0.out.cs 0 rfl).two
  obtain ⟨x0, x1, x2, x3, x4, x5⟩ := Tk.at x (HV0.out.cs 1 rfl)
  go_wp2_with fail
  clear b0 b1 x0 x1 x2 x3 x4 x5
  go_loopg [7] N (fun s a7 wr => ∃ q : Nat, a7 = .int .i64 ((q : Int) + 1) ∧ q ≤ N ∧ s = N - q ∧ Hid (lf L 0 = lf L q) ∧ VS w [(w.heap.size, [.slice A n c, .int .i64 N]), (w.heap.size + 1, x.cells), (w.heap.size + 2, [.slice none 0 0, .int .i64 0])] wr)
  case atStart => exact ⟨0, rfl, Nat.zero_le _, by omega, hid rfl, HV0.out⟩
  case round =>
    obtain ⟨q, rfl, hq, hs, hz, hv⟩ := hrel
    have HS := hid hs
    have HV30 := hid hv
    clear hs hv
    obtain ⟨b0, b1⟩ := (HV30.out.cs 0 rfl).two
    by_cases hqN : q < N
    · have hle : (q : Int) + 1 ≤ N := by omega
      have HQN := hid hqN
      have HG := hid (get_at HI.out (j := q) (by have := HN.out; omega))
      go_wp2_with fail
      refine (Ref20.get A n c N ((q : Int) + 1) (L.filter keep) _ (HR.out.below HV30.out.bel) (by have := HLE.out; omega)).mono ?_
      by_cases hzq : (L.getD q Tk.zero).s = 0
      · rw [HG.out, if_pos hzq]
        have HLF : Hid (lf L 0 = (q : Int) + 1) := hid (by rw [hz.out, lf_step (by have := HN.out; omega), if_pos hzq])
        rintro e w1 ⟨rfl, hb⟩
        have HV31 := hid (HV30.out.below hb)
        clear hb b0 b1 hz HG
        have HV32 : Hid (VS w [(w.heap.size, [.slice A n c, .int .i64 N]), (w.heap.size + 1, x.cells), (w.heap.size + 2, [.slice none 0 0, .int .i64 0]), (w1.heap.size, [.int .i64 0, .int .u8 0, .int .i64 0, .int .u32 0, .int .u64 0, .int .i64 0])] (w1.alloc (.cells #[.int .i64 0, .int .u8 0, .int .i64 0, .int .u32 0, .int .u64 0, .int .i64 0] 66))) := hid (HV31.out.new 66 [.int .i64 0, .int .u8 0, .int .i64 0, .int .u32 0, .int .u64 0, .int .i64 0])
        clear HV31
        go_upto_region 8 with fail
        generalize (w1.alloc (.cells #[.int .i64 0, .int .u8 0, .int .i64 0, .int .u32 0, .int .u64 0, .int .i64 0] 66)) = W1 at HV32 ⊢
        generalize w1.heap.size = gy at HV32 ⊢
        have xf := (HV32.out.cs 1 rfl 0 _ rfl).2
        obtain ⟨x0, x1, x2, x3, x4, x5⟩ := Tk.at x (HV32.out.cs 1 rfl)
        go_upto_region 9 with fail
        have HV33 : Hid (VS w [(w.heap.size, [.slice A n c, .int .i64 N]), (w.heap.size + 1, Tk.cells { x with i := (q : Int) + 1 }), (w.heap.size + 2, [.slice none 0 0, .int .i64 0]), (gy, [.int .i64 0, .int .u8 0, .int .i64 0, .int .u32 0, .int .u64 0, .int .i64 0])] (W1.setCell ⟨w.heap.size + 1, 0, none⟩ (.int .i64 ((q : Int) + 1)))) := hid (HV32.out.put1 1 rfl 0 (.int .i64 ((q : Int) + 1)) (by rw [Tk.len]; decide))
        generalize (W1.setCell ⟨w.heap.size + 1, 0, none⟩ (.int .i64 ((q : Int) + 1))) = W2 at HV33 ⊢
        clear xf x0 x1 x2 x3 x4 x5 HV32
        have HW : Hid (wth { x with i := (q : Int) + 1 } false (L.filter keep) = (L.set q { x with i := (q : Int) + 1 }).filter keep) := hid (wth_set HI.out (by have := HN.out; have := HQN.out; omega) rfl (by have := HX.out; simpa [Tk.ok] using this))
        obtain rfl : (q : Int) + 1 = ra := HLF.out.symm.trans HRA.out
        obtain rfl : 0 = rb := (HRB.out.symm.trans (if_neg (by have := HLF.out; omega))).symm
        obtain rfl : L.set q { x with i := (q : Int) + 1 } = rM := by rw [← HRM.out, if_neg (by have := HLF.out; omega), HLF.out, show ((q : Int) + 1 - 1).toNat = q by omega]
        have hsT2 : Stays (VS w [(w.heap.size, [.slice A n c, .int .i64 N]), (w.heap.size + 1, Tk.cells { x with i := (q : Int) + 1 })]) := VS.stays w _
        have hsU2 : Stays (fun wx => (VS w [(w.heap.size, [.slice A n c, .int .i64 N]), (w.heap.size + 1, Tk.cells { x with i := (q : Int) + 1 })]) wx ∧ (fun wx => VS w [(w.heap.size, [.slice A n c, .int .i64 N]), (w.heap.size + 1, Tk.cells { x with i := (q : Int) + 1 }), (w.heap.size + 2, [.slice none 0 0, .int .i64 0]), (gy, [.int .i64 0, .int .u8 0, .int .i64 0, .int .u32 0, .int .u64 0, .int .i64 0])] wx) wx) := Stays.and_ hsT2 (VS.stays w _)
        refine wp_region_any (by kernel_rfl) (wpAny_of_E (S0 := VS w [(w.heap.size, [.slice A n c, .int .i64 N]), (w.heap.size + 1, Tk.cells { x with i := (q : Int) + 1 })]) (n := 11) _ (fun wx => (VS w [(w.heap.size, [.slice A n c, .int .i64 N]), (w.heap.size + 1, Tk.cells { x with i := (q : Int) + 1 })]) wx ∧ (fun wx => VS w [(w.heap.size, [.slice A n c, .int .i64 N]), (w.heap.size + 1, Tk.cells { x with i := (q : Int) + 1 }), (w.heap.size + 2, [.slice none 0 0, .int .i64 0]), (gy, [.int .i64 0, .int .u8 0, .int .i64 0, .int .u32 0, .int .u64 0, .int .i64 0])] wx) wx) _ _ _ (hsU2 _ _ (⟨HV33.out.less [(_, _), (_, _)], HV33.out⟩) (Below.refl _ _).drew) ?_)
        refine wpAnyE_take (i := 0) (v := ?_) (hsU2) (fun _ h => h.1) rfl (by kernel_rfl) (by kernel_rfl) (by kernel_rfl) (by kernel_rfl) (fun _ _ _ h => h) (SteadyB.of_yields (Or.inl ⟨by rfl, ?_⟩)) ?_
        rotate_left
        · intro wq hSw
          go_simp
          (try with_reducible rfl)
        try simp only [List.getElem_toArray, List.getElem_cons_zero, List.getElem_cons_succ, Act.put, List.setIfInBounds_toArray, List.set_cons_zero, List.set_cons_succ]
        refine wpAnyE_take (i := 1) (v := ?_) (hsU2) (fun _ h => h.1) rfl (by kernel_rfl) (by kernel_rfl) (by kernel_rfl) (by kernel_rfl) (fun _ _ _ h => h) (SteadyB.of_yields (Or.inl ⟨by rfl, ?_⟩)) ?_
        rotate_left
        · intro wq hSw
          obtain ⟨b0, b1⟩ := (hSw.cs 0 rfl).two
          obtain ⟨x0, x1, x2, x3, x4, x5⟩ := Tk.at { x with i := (q : Int) + 1 } (hSw.cs 1 rfl)
          simp only at x0 x1 x2 x3 x4 x5
          go_simp
          (try with_reducible rfl)
        try simp only [List.getElem_toArray, List.getElem_cons_zero, List.getElem_cons_succ, Act.put, List.setIfInBounds_toArray, List.set_cons_zero, List.set_cons_succ]
        refine wpAnyE_take (i := 2) (v := ?_) (hsU2) (fun _ h => h.1) rfl (by kernel_rfl) (by kernel_rfl) (by kernel_rfl) (by kernel_rfl) (fun _ _ _ h => h) (SteadyB.of_yields (Or.inl ⟨by rfl, ?_⟩)) ?_
        rotate_left
        · intro wq hSw
          obtain ⟨b0, b1⟩ := (hSw.cs 0 rfl).two
          obtain ⟨x0, x1, x2, x3, x4, x5⟩ := Tk.at { x with i := (q : Int) + 1 } (hSw.cs 1 rfl)
          simp only at x0 x1 x2 x3 x4 x5
          go_simp
          (try with_reducible rfl)
        try simp only [List.getElem_toArray, List.getElem_cons_zero, List.getElem_cons_succ, Act.put, List.setIfInBounds_toArray, List.set_cons_zero, List.set_cons_succ]
        refine wpAnyE_take (i := 4) (v := ?_) (hsU2) (fun _ h => h.1) rfl (by kernel_rfl) (by kernel_rfl) (by kernel_rfl) (by kernel_rfl) (fun _ _ _ h => h) (SteadyB.of_yields (Or.inl ⟨by rfl, ?_⟩)) ?_
        rotate_left
        · intro wq hSw
          go_simp
          (try with_reducible rfl)
        try simp only [List.getElem_toArray, List.getElem_cons_zero, List.getElem_cons_succ, Act.put, List.setIfInBounds_toArray, List.set_cons_zero, List.set_cons_succ]
        refine wpAnyE_take (i := 5) (v := ?_) (hsU2) (fun _ h => h.1) rfl (by kernel_rfl) (by kernel_rfl) (by kernel_rfl) (by kernel_rfl) (fun _ _ _ h => h) (SteadyB.of_yields (Or.inl ⟨by rfl, ?_⟩)) ?_
        rotate_left
        · intro wq hSw
          obtain ⟨b0, b1⟩ := (hSw.cs 0 rfl).two
          obtain ⟨x0, x1, x2, x3, x4, x5⟩ := Tk.at { x with i := (q : Int) + 1 } (hSw.cs 1 rfl)
          simp only at x0 x1 x2 x3 x4 x5
          go_simp
          (try with_reducible rfl)
        try simp only [List.getElem_toArray, List.getElem_cons_zero, List.getElem_cons_succ, Act.put, List.setIfInBounds_toArray, List.set_cons_zero, List.set_cons_succ]
        refine wpAnyE_take (i := 7) (v := ?_) (hsU2) (fun _ h => h.1) rfl (by kernel_rfl) (by kernel_rfl) (by kernel_rfl) (by kernel_rfl) (fun _ _ _ h => h) (SteadyB.of_yields (Or.inl ⟨by rfl, ?_⟩)) ?_
        rotate_left
        · intro wq hSw
          go_simp
          (try with_reducible rfl)
        try simp only [List.getElem_toArray, List.getElem_cons_zero, List.getElem_cons_succ, Act.put, List.setIfInBounds_toArray, List.set_cons_zero, List.set_cons_succ]
        refine wpAnyE_call (i := 3) (fun y : Option Addr × Nat × Nat => .slice y.1 y.2.1 y.2.2) (WBE w [(w.heap.size, [.slice A n c, .int .i64 N]), (w.heap.size + 1, Tk.cells { x with i := (q : Int) + 1 }), (w.heap.size + 2, [.slice none 0 0, .int .i64 0]), (gy, [.int .i64 0, .int .u8 0, .int .i64 0, .int .u32 0, .int .u64 0, .int .i64 0])] ((L.set q { x with i := (q : Int) + 1 }).filter keep)) rfl (by kernel_rfl) (by decide) (by rfl) (hsU2) (fun _ h => h.1) (fun yq => WBE.stays w [(w.heap.size, [.slice A n c, .int .i64 N]), (w.heap.size + 1, Tk.cells { x with i := (q : Int) + 1 }), (w.heap.size + 2, [.slice none 0 0, .int .i64 0]), (gy, [.int .i64 0, .int .u8 0, .int .i64 0, .int .u32 0, .int .u64 0, .int .i64 0])] ((L.set q { x with i := (q : Int) + 1 }).filter keep) yq) (fun wq hSw => ?_) (fun yq => ?_)
        · exact RunI.of_calls (Ref20.wit A n c { x with i := (q : Int) + 1 } (L.filter keep) wq (HR.out.below hSw.1.bel) HLE.out) (by go_simp) (fun e w' ⟨B, k, d, he, ho, hb⟩ => ⟨(B, k, d), he, ⟨_, WB.of hSw.2 (HW.out ▸ ho) hb⟩, hb⟩)
        obtain ⟨B, k, d⟩ := yq
        dsimp only
        try simp only [List.getElem_toArray, List.getElem_cons_zero, List.getElem_cons_succ, Act.put, List.setIfInBounds_toArray, List.set_cons_zero, List.set_cons_succ]
        refine wpAnyE_take (i := 6) (v := ?_) (Stays.and_ (hsU2) (WBE.stays w [(w.heap.size, [.slice A n c, .int .i64 N]), (w.heap.size + 1, Tk.cells { x with i := (q : Int) + 1 }), (w.heap.size + 2, [.slice none 0 0, .int .i64 0]), (gy, [.int .i64 0, .int .u8 0, .int .i64 0, .int .u32 0, .int .u64 0, .int .i64 0])] ((L.set q { x with i := (q : Int) + 1 }).filter keep) (B, k, d))) (fun _ h => h.1.1) rfl (by kernel_rfl) (by kernel_rfl) (by kernel_rfl) (by kernel_rfl) (fun _ _ _ h => h) (SteadyB.of_yields (Or.inl ⟨by rfl, ?_⟩)) ?_
        rotate_left
        · intro wq hSw
          go_simp
          (try with_reducible rfl)
        try simp only [List.getElem_toArray, List.getElem_cons_zero, List.getElem_cons_succ, Act.put, List.setIfInBounds_toArray, List.set_cons_zero, List.set_cons_succ]
        refine wpAnyE_store (i := 8) (fun wx => VS w [(w.heap.size, [.slice A n c, .int .i64 N]), (w.heap.size + 1, Tk.cells { x with i := (q : Int) + 1 })] wx ∧ ∃ base, WB w [(w.heap.size, [.slice A n c, .int .i64 N]), (w.heap.size + 1, Tk.cells { x with i := (q : Int) + 1 }), (w.heap.size + 2, [.slice B k d, .int .i64 N]), (gy, [.int .i64 0, .int .u8 0, .int .i64 0, .int .u32 0, .int .u64 0, .int .i64 0])] base B k d ((L.set q { x with i := (q : Int) + 1 }).filter keep) wx) 56 [.slice B k d, .int .i64 N] [.slice none 0 0, .int .i64 0] (w.heap.size + 2) infoRB (.tmp 4) (.tmp 41) rfl rfl (by kernel_rfl) (by decide) (by rfl) ?sv3a ?sv3b ?sv3c ?sv3d ?sv3e (fun _ h => h.1.2.cs 2 rfl) (fun _ h => h.2.elim fun base hw => ⟨(WB.puts hw 2 rfl 0 [.slice B k d, .int .i64 N] (by simp)).v.less [(_, _), (_, _)], base, WB.puts hw 2 rfl 0 [.slice B k d, .int .i64 N] (by simp)⟩) (fun _ h => h.1) ((fun _ _ h hb => ⟨h.1.below hb, h.2.elim fun b hw => ⟨b, hw.below hb⟩⟩)) ?sv3f
        case sv3a => rfl
        case sv3b => rfl
        case sv3c => rfl
        case sv3d => rfl
        case sv3e => rfl
        try simp only [List.getElem_toArray, List.getElem_cons_zero, List.getElem_cons_succ, Act.put, List.setIfInBounds_toArray, List.set_cons_zero, List.set_cons_succ]
        refine wpAnyE_take (i := 9) (v := ?_) ((fun _ _ h hb => ⟨h.1.below hb, h.2.elim fun b hw => ⟨b, hw.below hb⟩⟩)) (fun _ h => h.1) rfl (by kernel_rfl) (by kernel_rfl) (by kernel_rfl) (by kernel_rfl) (fun _ _ _ h => h) (SteadyB.of_yields (Or.inl ⟨by rfl, ?_⟩)) ?_
        rotate_left
        · intro wq hSw
          go_simp
          (try with_reducible rfl)
        try simp only [List.getElem_toArray, List.getElem_cons_zero, List.getElem_cons_succ, Act.put, List.setIfInBounds_toArray, List.set_cons_zero, List.set_cons_succ]
        refine wpAnyE_take (i := 10) (v := ?_) ((fun _ _ h hb => ⟨h.1.below hb, h.2.elim fun b hw => ⟨b, hw.below hb⟩⟩)) (fun _ h => h.1) rfl (by kernel_rfl) (by kernel_rfl) (by kernel_rfl) (by kernel_rfl) (fun _ _ _ h => h) (SteadyB.of_yields (Or.inl ⟨by rfl, ?_⟩)) ?_
        rotate_left
        · intro wq hSw
          go_simp
          (try with_reducible rfl)
        try simp only [List.getElem_toArray, List.getElem_cons_zero, List.getElem_cons_succ, Act.put, List.setIfInBounds_toArray, List.set_cons_zero, List.set_cons_succ]
        refine wpAnyE_done (by kernel_rfl) (fun wz hSz => ?_) _
        obtain ⟨base, hwb⟩ := hSz.2
        have HWE := hid hwb
        clear hSz hwb
        go_wp2_with fail
        obtain ⟨b0, b1⟩ := (HWE.out.v.cs 2 rfl).two
        refine bodyPost_ret (v := .tuple #[.agg #[.slice B k d, .int .i64 N], .int .i64 ((q : Int) + 1), .int .i64 0]) (by simp [results, Tryz.results40, go_sem, b0, b1]) rfl ⟨_, _, _, rfl, HWE.out.rd, fun j hj => .inr ⟨Nat.le_trans HWE.out.b (HWE.out.o.rowGe j hj).1, (HWE.out.o.rowGe j hj).2⟩, HWE.out.v.bel⟩
      · rw [HG.out, if_neg hzq]
        have HLF : Hid (lf L 0 = lf L (q + 1)) := hid (by rw [hz.out, lf_step (by have := HN.out; omega), if_neg hzq])
        generalize L.getD q Tk.zero = y
        rintro e w1 ⟨rfl, hb⟩
        have HV31 := hid (HV30.out.below hb)
        clear hb b0 b1 hz HG hzq
        go_wp2_with fail
        go_roundg (N - (q + 1))
        case measure => have := HS.out; omega
        case rel =>
          have hal := (Below.refl w1.heap.size w1).alloc (Nat.le_refl _) (.cells #[.int .i64 y.i, .int .u8 y.s, .int .i64 y.c, .int .u32 y.w, .int .u64 y.n, .int .i64 y.l] 66)
          exact ⟨q + 1, by go_num, by omega, rfl, HLF, HV31.out.below hal⟩
    · have hle : ¬ (q : Int) + 1 ≤ N := by omega
      have HLF : Hid (lf L 0 = 0) := hid (by rw [hz.out, show q = L.length by have := HN.out; omega, lf_end])
      obtain rfl : 0 = ra := HLF.out.symm.trans HRA.out
      obtain rfl : 7 = rb := (HRB.out.symm.trans (if_pos HLF.out)).symm
      obtain rfl : L = rM := (HRM.out.symm.trans (if_pos HLF.out)).symm
      clear hz
      go_wp2_with (first | ((with_reducible refine wpList_put_vs HV30.out 2 56 [.slice A n c, .int .i64 N] infoRB rfl (.tmp 4) (.tmp 43) rfl (w.heap.size + 2) ([.slice none 0 0, .int .i64 0]) ?vs110a 0 ?vs110b ?vs110c ?vs110d ?vs110e ?vs110f ?vs110g); (case vs110a => rfl); (case vs110b => rfl); (case vs110c => exact of_decide_eq_true rfl); (case vs110d => rfl); (case vs110e => rfl); (case vs110f => rfl); (intro W2 hW2); (have HV31 : Hid (VS w [(w.heap.size, [.slice A n c, .int .i64 N]), (w.heap.size + 1, x.cells), (w.heap.size + 2, [.slice A n c, .int .i64 N])] W2) := hid hW2); (clear hW2 HV30)) | fail)
      clear b0 b1
      obtain ⟨b0, b1⟩ := (HV31.out.cs 2 rfl).two
      refine bodyPost_ret (v := .tuple #[.agg #[.slice A n c, .int .i64 N], .int .i64 0, .int .i64 7]) (by simp [results, Tryz.results40, go_sem, b0, b1]) rfl ⟨_, _, _, rfl, HR.out.below HV31.out.bel, fun j hj => .inl hj, HV31.out.bel⟩
theorem Ref20.set (A : Option Addr) (n c N : Nat) (x : Tk) (L : List Tk) (w : World) (hi : TInv L) (hN : L.length = N) (h32 : N ≤ 32) (hr : RdT w A n (L.filter keep)) : Calls Tryz.prog 35 #[.agg #[.slice A n c, .int .i64 N], x.val] w (DAns2 A N (sttE L x) ((sttL L x).filter keep) w) := by
  cases hx : x.ok with
  | false => exact Ref20.set_bad A n c N x L w hi hN h32 hr hx
  | true =>
    cases hf : tfind L x.i with
    | none => exact Ref20.set_no A n c N x L w hi hN h32 hr hx hf
    | some j => exact Ref20.set_yes A n c N x j L w hi hN h32 hr hx hf
theorem Ref20.drop (A : Option Addr) (n c N : Nat) (id : Int) (L : List Tk) (w : World) (hi : TInv L) (hN : L.length = N) (h32 : N ≤ 32) (hr : RdT w A n (L.filter keep)) : Calls Tryz.prog 37 #[.agg #[.slice A n c, .int .i64 N], .int .i64 id] w (DAns2 A N (dropE L id) ((dropL L id).filter keep) w) := by
  cases hf : tfind L id with
  | none => exact Ref20.drop_no A n c N id L w hi hN h32 hr hf
  | some j => exact Ref20.drop_yes A n c N id j L w hi hN h32 hr hf
theorem Ref20.add (A : Option Addr) (n c N : Nat) (x : Tk) (L : List Tk) (w : World) (hi : TInv L) (hN : L.length = N) (h32 : N ≤ 32) (hr : RdT w A n (L.filter keep)) : Calls Tryz.prog 40 #[.agg #[.slice A n c, .int .i64 N], x.val] w (DAns3 A N (addI L x) (addE L x) ((addL L x).filter keep) w) := by
  cases hx : x.ok with
  | false => exact Ref20.add_bad A n c N x L w hi hN h32 hr hx
  | true => exact Ref20.add_ok A n c N x L w hi hN h32 hr hx
end

/- A table tells what the document's does. -/
section
open Go.RowKit
theorem Task.neqR (i s c w n l : Int) (W : World) : (binOp .neq 66 (.agg #[.int .i64 i, .int .u8 s, .int .i64 c, .int .u32 w, .int .u64 n, .int .i64 l]) (.agg #[.int .i64 i, .int .u8 s, .int .i64 c, .int .u32 w, .int .u64 n, .int .i64 l])).run Tryz.prog W = .ok (.bool false) W := by
  go_simp
theorem Task.neqT (i s c w n l : Int) (W : World) : (binOp .neq 60 (.agg #[.int .i64 i, .int .u8 s, .int .i64 c, .int .u32 w, .int .u64 n, .int .i64 l]) (.agg #[.int .i64 i, .int .u8 s, .int .i64 c, .int .u32 w, .int .u64 n, .int .i64 l])).run Tryz.prog W = .ok (.bool false) W := by
  go_simp
/-- A task that lies in a row. -/
def RgT (b o : Nat) (y : Tk) (W : World) : Prop := W.rangeAt b o y.cells ∧ b < W.heap.size
theorem RgT.below {b o : Nat} {y : Tk} {W W2 : World} (h : RgT b o y W) (hb : Below W.heap.size W W2) : RgT b o y W2 :=
  ⟨fun i v hv => (hb.cell (p := ⟨b, o + i, none⟩) h.2).trans (h.1 i v hv), Nat.lt_of_lt_of_le h.2 hb.size⟩
theorem task_there {L : List Tk} (h : TInv L) {y : Tk} (hy : y ∈ L.filter keep) : taskX L y.i = y ∧ dropE L y.i = 0 := by
  obtain ⟨j, hj, hg, hi, hs, _, hf⟩ := kept_mem h hy
  exact ⟨by unfold taskX; rw [hf]; exact hg, by unfold dropE; rw [hf]⟩
section
attribute [local go_sem] Task.neqR Task.neqT
set_option maxRecDepth 100000 in
set_option maxHeartbeats 16000000 in
theorem Law20.told (base th g0 N c : Nat) (L : List Tk) (A : Option Addr) (n cA : Nat) (r : Int) (w : World) (ht : TAt w base th (some ⟨g0, 0, none⟩) N c L) (hi : TInv L) (hr : RdT w A n (L.filter keep)) : Calls Tryz.prog 41 #[.pointer (some ⟨th, 0, none⟩), .agg #[.slice A n cA, .int .i64 r]] w (Ans (.bool true) w) := by
  have HT := hid ht
  have HI := hid hi
  have HR := hid hr
  have HIA := hid (ids_all hi)
  have HTH : Hid (∀ y ∈ L.filter keep, taskX L y.i = y ∧ dropE L y.i = 0) := hid (fun y hy => task_there hi hy)
  have HLE : Hid (n ≤ 32) := hid (by have h1 := hr.1; have h2 := List.length_filter_le keep L; have h3 := ht.len; have h4 := ht.le; omega)
  have hni : (n : Int) ≤ 32 := by have := HLE.out; omega
  obtain ⟨D, hD⟩ : ∃ D, L.filter keep = D := ⟨_, rfl⟩
  have HDD := hid hD
  rw [hD] at HR HIA HTH
  have HLN := hid HR.out.1
  clear ht hi hr hD
  have HV0 : Hid (VS w [(w.heap.size, [.slice A n cA, .int .i64 r])] (w.alloc (.cells #[.slice A n cA, .int .i64 r] 56))) := hid (by have h := ((VS.nil w).new 56 [.slice A n cA, .int .i64 r]); (try simp only [World.size_alloc] at h); exact h)
  go_enter Tryz.func41, Tryz.ntmps41
  go_upto_region 1 with fail
  generalize (w.alloc (.cells #[.slice A n cA, .int .i64 r] 56)) = W0 at HV0 ⊢
  go_wp2_with fail
  refine (Tab.tasks base th g0 N c L _ (HT.out.below HV0.out.bel)).mono ?_
  rw [HDD.out]
  rintro e w1 ⟨g', m, c', rfl, ho, hb, _⟩
  have HV1 := hid (HV0.out.below hb)
  have hmn : m = n := by have h1 := ho.len Tk.len (by decide); have h2 := HLN.out; omega
  subst hmn
  have HO := hid (ho.rd Tk.len (by decide) Tk.zero)
  clear ho hb HV0
  obtain ⟨b0, b1⟩ := (HV1.out.cs 0 rfl).two
  go_wp2_with fail
  go_loopg [6, 21] m (fun s a6 i wr => ∃ (k : Nat) (B : Option Addr) (kk cc : Nat), a6 = .slice B kk cc ∧ i = .int .i64 k ∧ k ≤ m ∧ s = m - k ∧ Own wr w1.heap.size B kk cc ((D.take k).map (·.i)) ∧ Below w1.heap.size w1 wr)
  case atStart => exact ⟨0, none, 0, 0, rfl, rfl, Nat.zero_le _, by omega, Own.nil _ _, Below.refl _ _⟩
  case round =>
    obtain ⟨k, B, kk, cc, rfl, rfl, hk, hs, ho, hb⟩ := hrel
    have HS := hid hs
    have HOW := hid ho
    have HB := hid hb
    have HKK : Hid (kk ≤ 32) := hid (by have h1 := ho.len; rw [List.length_map, List.length_take] at h1; have := HLE.out; omega)
    clear hs ho hb b0 b1
    by_cases hkm : k < m
    · have hkd : k < D.length := by have := HLN.out; omega
      obtain ⟨bg, og, hG, _, hcg⟩ := (HO.out.below HB.out).2 (by omega)
      injection hG with hG
      injection hG with e1 e2
      subst e1 e2
      obtain ⟨p0, p1, p2, p3, p4, p5⟩ := Tk.of _ (hcg k hkm)
      obtain ⟨bb, off, hA, hlt, hca⟩ := ((HR.out.below HV1.out.bel).below HB.out).2 (by omega)
      have HRG : Hid (RgT bb (off + k * 6) (D.getD k Tk.zero) wr) := hid ⟨hca k hkm, hlt⟩
      have HY := hid (HTH.out (D.getD k Tk.zero) (by
        have e : D.getD k Tk.zero = D[k] := by simp [List.getD, hkd]
        rw [e]; exact List.getElem_mem hkd))
      have HST : Hid ((D.take (k + 1)).map (·.i) = (D.take k).map (·.i) ++ [(D.getD k Tk.zero).i]) := hid (by
        have e : D.getD k Tk.zero = D[k] := by simp [List.getD, hkd]
        rw [List.take_succ_eq_append_getElem hkd, List.map_append, e]; rfl)
      generalize D.getD k Tk.zero = y at *
      subst hA
      simp only [Nat.zero_add] at p0 p1 p2 p3 p4 p5
      have hki : (k : Int) < m := by omega
      have hk0 : (0 : Int) ≤ k := by omega
      clear hcg hca hkd hlt
      have HV2 := hid (HV1.out.below HB.out)
      have HV3 : Hid (VS w [(w.heap.size, [.slice (some ⟨bb, off, none⟩) m cA, .int .i64 r]), (wr.heap.size, [.int .i64 y.i, .int .u8 y.s, .int .i64 y.c, .int .u32 y.w, .int .u64 y.n, .int .i64 y.l])] (wr.alloc (.cells #[.int .i64 y.i, .int .u8 y.s, .int .i64 y.c, .int .u32 y.w, .int .u64 y.n, .int .i64 y.l] 60))) := hid (HV2.out.new 60 [.int .i64 y.i, .int .u8 y.s, .int .i64 y.c, .int .u32 y.w, .int .u64 y.n, .int .i64 y.l])
      have hal := (Below.refl wr.heap.size wr).alloc (Nat.le_refl _) (.cells #[.int .i64 y.i, .int .u8 y.s, .int .i64 y.c, .int .u32 y.w, .int .u64 y.n, .int .i64 y.l] 60)
      have HOW3 := hid (HOW.out.below hal)
      have HRG3 := hid (HRG.out.below hal)
      have HB3 := hid (below_on HB.out hal)
      clear hal HV2
      go_upto_region 8 with fail
      generalize (wr.alloc (.cells #[.int .i64 y.i, .int .u8 y.s, .int .i64 y.c, .int .u32 y.w, .int .u64 y.n, .int .i64 y.l] 60)) = W3 at HV3 HOW3 HRG3 HB3 ⊢
      generalize wr.heap.size = gx at HV3 ⊢
      clear p0 p1 p2 p3 p4 p5
      obtain ⟨y0, y1, y2, y3, y4, y5⟩ := Tk.at y (HV3.out.cs 1 rfl)
      go_wp2_with fail
      refine (Tab.taskV (HT.out.below HV3.out.bel) y.i).mono ?_
      rw [HY.out.1, HY.out.2]
      rintro e w4 ⟨rfl, hb⟩
      have HV4 := hid (HV3.out.below hb)
      have HOW4 := hid (HOW3.out.below hb)
      have HRG4 := hid (HRG3.out.below hb)
      have HB4 := hid (below_on HB3.out hb)
      clear hb y0 y1 y2 y3 y4 y5 HV3 HOW3 HRG3 HB3
      have HV5 : Hid (VS w [(w.heap.size, [.slice (some ⟨bb, off, none⟩) m cA, .int .i64 r]), (gx, [.int .i64 y.i, .int .u8 y.s, .int .i64 y.c, .int .u32 y.w, .int .u64 y.n, .int .i64 y.l]), (w4.heap.size, [.int .i64 y.i, .int .u8 y.s, .int .i64 y.c, .int .u32 y.w, .int .u64 y.n, .int .i64 y.l])] (w4.alloc (.cells #[.int .i64 y.i, .int .u8 y.s, .int .i64 y.c, .int .u32 y.w, .int .u64 y.n, .int .i64 y.l] 60))) := hid (HV4.out.new 60 [.int .i64 y.i, .int .u8 y.s, .int .i64 y.c, .int .u32 y.w, .int .u64 y.n, .int .i64 y.l])
      have hal := (Below.refl w4.heap.size w4).alloc (Nat.le_refl _) (.cells #[.int .i64 y.i, .int .u8 y.s, .int .i64 y.c, .int .u32 y.w, .int .u64 y.n, .int .i64 y.l] 60)
      have HOW5 := hid (HOW4.out.below hal)
      have HRG5 := hid (HRG4.out.below hal)
      have HB5 := hid (below_on HB4.out hal)
      clear hal HV4 HOW4 HRG4 HB4
      go_upto_region 9 with fail
      generalize (w4.alloc (.cells #[.int .i64 y.i, .int .u8 y.s, .int .i64 y.c, .int .u32 y.w, .int .u64 y.n, .int .i64 y.l] 60)) = W5 at HV5 HOW5 HRG5 HB5 ⊢
      generalize w4.heap.size = gy at HV5 ⊢
      have hsT1 : Stays (fun wx => VS w [(w.heap.size, [.slice (some ⟨bb, off, none⟩) m cA, .int .i64 r]), (gx, [.int .i64 y.i, .int .u8 y.s, .int .i64 y.c, .int .u32 y.w, .int .u64 y.n, .int .i64 y.l]), (gy, [.int .i64 y.i, .int .u8 y.s, .int .i64 y.c, .int .u32 y.w, .int .u64 y.n, .int .i64 y.l])] wx ∧ RgT bb (off + k * 6) y wx ∧ Own wx w1.heap.size B kk cc ((D.take k).map (·.i)) ∧ Below w1.heap.size w1 wx) := fun _ _ h hb => ⟨h.1.below hb, h.2.1.below hb, h.2.2.1.below hb, below_on h.2.2.2 hb⟩
      refine wp_region_grow (S := fun wx => VS w [(w.heap.size, [.slice (some ⟨bb, off, none⟩) m cA, .int .i64 r]), (gx, [.int .i64 y.i, .int .u8 y.s, .int .i64 y.c, .int .u32 y.w, .int .u64 y.n, .int .i64 y.l]), (gy, [.int .i64 y.i, .int .u8 y.s, .int .i64 y.c, .int .u32 y.w, .int .u64 y.n, .int .i64 y.l])] wx ∧ RgT bb (off + k * 6) y wx ∧ Own wx w1.heap.size B kk cc ((D.take k).map (·.i)) ∧ Below w1.heap.size w1 wx) 16 (by kernel_rfl) (hsT1 _ _ (⟨HV5.out, HRG5.out, HOW5.out, HB5.out⟩) (Below.refl _ _).drew) ?_
      refine wpAnyE_take (i := 0) (v := ?_) (hsT1) (fun _ h => h) rfl (by kernel_rfl) (by kernel_rfl) (by kernel_rfl) (by kernel_rfl) (fun _ _ _ h => h) (SteadyB.of_yields (Or.inl ⟨by rfl, ?_⟩)) ?_
      rotate_left
      · intro wq hSw
        obtain ⟨b0, b1⟩ := (hSw.1.cs 0 rfl).two
        obtain ⟨x0, x1, x2, x3, x4, x5⟩ := Tk.at y (hSw.1.cs 1 rfl)
        obtain ⟨y0, y1, y2, y3, y4, y5⟩ := Tk.at y (hSw.1.cs 2 rfl)
        obtain ⟨z0, z1, z2, z3, z4, z5⟩ := Tk.of _ hSw.2.1.1
        go_simp
        (try with_reducible rfl)
      try simp only [List.getElem_toArray, List.getElem_cons_zero, List.getElem_cons_succ, Act.put, List.setIfInBounds_toArray, List.set_cons_zero, List.set_cons_succ]
      refine wpAnyE_take (i := 1) (v := ?_) (hsT1) (fun _ h => h) rfl (by kernel_rfl) (by kernel_rfl) (by kernel_rfl) (by kernel_rfl) (fun _ _ _ h => h) (SteadyB.of_yields (Or.inl ⟨by rfl, ?_⟩)) ?_
      rotate_left
      · intro wq hSw
        go_simp
        (try with_reducible rfl)
      try simp only [List.getElem_toArray, List.getElem_cons_zero, List.getElem_cons_succ, Act.put, List.setIfInBounds_toArray, List.set_cons_zero, List.set_cons_succ]
      refine wpAnyE_take (i := 2) (v := ?_) (hsT1) (fun _ h => h) rfl (by kernel_rfl) (by kernel_rfl) (by kernel_rfl) (by kernel_rfl) (fun _ _ _ h => h) (SteadyB.of_yields (Or.inl ⟨by rfl, ?_⟩)) ?_
      rotate_left
      · intro wq hSw
        obtain ⟨b0, b1⟩ := (hSw.1.cs 0 rfl).two
        obtain ⟨x0, x1, x2, x3, x4, x5⟩ := Tk.at y (hSw.1.cs 1 rfl)
        obtain ⟨y0, y1, y2, y3, y4, y5⟩ := Tk.at y (hSw.1.cs 2 rfl)
        obtain ⟨z0, z1, z2, z3, z4, z5⟩ := Tk.of _ hSw.2.1.1
        go_simp
        (try with_reducible rfl)
      try simp only [List.getElem_toArray, List.getElem_cons_zero, List.getElem_cons_succ, Act.put, List.setIfInBounds_toArray, List.set_cons_zero, List.set_cons_succ]
      refine wpAnyE_take (i := 3) (v := ?_) (hsT1) (fun _ h => h) rfl (by kernel_rfl) (by kernel_rfl) (by kernel_rfl) (by kernel_rfl) (fun _ _ _ h => h) (SteadyB.of_yields (Or.inl ⟨by rfl, ?_⟩)) ?_
      rotate_left
      · intro wq hSw
        go_simp
        (try with_reducible rfl)
      try simp only [List.getElem_toArray, List.getElem_cons_zero, List.getElem_cons_succ, Act.put, List.setIfInBounds_toArray, List.set_cons_zero, List.set_cons_succ]
      refine wpAnyE_take (i := 4) (v := ?_) (hsT1) (fun _ h => h) rfl (by kernel_rfl) (by kernel_rfl) (by kernel_rfl) (by kernel_rfl) (fun _ _ _ h => h) (SteadyB.of_yields (Or.inl ⟨by rfl, ?_⟩)) ?_
      rotate_left
      · intro wq hSw
        go_simp
        (try with_reducible rfl)
      try simp only [List.getElem_toArray, List.getElem_cons_zero, List.getElem_cons_succ, Act.put, List.setIfInBounds_toArray, List.set_cons_zero, List.set_cons_succ]
      refine wpAnyE_take (i := 5) (v := ?_) (hsT1) (fun _ h => h) rfl (by kernel_rfl) (by kernel_rfl) (by kernel_rfl) (by kernel_rfl) (fun _ _ _ h => h) (SteadyB.of_yields (Or.inl ⟨by rfl, ?_⟩)) ?_
      rotate_left
      · intro wq hSw
        obtain ⟨b0, b1⟩ := (hSw.1.cs 0 rfl).two
        obtain ⟨x0, x1, x2, x3, x4, x5⟩ := Tk.at y (hSw.1.cs 1 rfl)
        obtain ⟨y0, y1, y2, y3, y4, y5⟩ := Tk.at y (hSw.1.cs 2 rfl)
        obtain ⟨z0, z1, z2, z3, z4, z5⟩ := Tk.of _ hSw.2.1.1
        go_simp
        (try with_reducible rfl)
      try simp only [List.getElem_toArray, List.getElem_cons_zero, List.getElem_cons_succ, Act.put, List.setIfInBounds_toArray, List.set_cons_zero, List.set_cons_succ]
      refine wpAnyE_take (i := 6) (v := ?_) (hsT1) (fun _ h => h) rfl (by kernel_rfl) (by kernel_rfl) (by kernel_rfl) (by kernel_rfl) (fun _ _ _ h => h) (SteadyB.of_yields (Or.inl ⟨by rfl, ?_⟩)) ?_
      rotate_left
      · intro wq hSw
        go_simp
        (try with_reducible rfl)
      try simp only [List.getElem_toArray, List.getElem_cons_zero, List.getElem_cons_succ, Act.put, List.setIfInBounds_toArray, List.set_cons_zero, List.set_cons_succ]
      refine wpAnyE_take (i := 7) (v := ?_) (hsT1) (fun _ h => h) rfl (by kernel_rfl) (by kernel_rfl) (by kernel_rfl) (by kernel_rfl) (fun _ _ _ h => h) (SteadyB.of_yields (Or.inl ⟨by rfl, ?_⟩)) ?_
      rotate_left
      · intro wq hSw
        go_simp
        (try with_reducible rfl)
      try simp only [List.getElem_toArray, List.getElem_cons_zero, List.getElem_cons_succ, Act.put, List.setIfInBounds_toArray, List.set_cons_zero, List.set_cons_succ]
      refine wpAnyE_take (i := 8) (v := ?_) (hsT1) (fun _ h => h) rfl (by kernel_rfl) (by kernel_rfl) (by kernel_rfl) (by kernel_rfl) (fun _ _ _ h => h) (SteadyB.of_yields (Or.inl ⟨by rfl, ?_⟩)) ?_
      rotate_left
      · intro wq hSw
        obtain ⟨b0, b1⟩ := (hSw.1.cs 0 rfl).two
        obtain ⟨x0, x1, x2, x3, x4, x5⟩ := Tk.at y (hSw.1.cs 1 rfl)
        obtain ⟨y0, y1, y2, y3, y4, y5⟩ := Tk.at y (hSw.1.cs 2 rfl)
        obtain ⟨z0, z1, z2, z3, z4, z5⟩ := Tk.of _ hSw.2.1.1
        go_simp
        (try with_reducible rfl)
      try simp only [List.getElem_toArray, List.getElem_cons_zero, List.getElem_cons_succ, Act.put, List.setIfInBounds_toArray, List.set_cons_zero, List.set_cons_succ]
      refine wpAnyE_take (i := 9) (v := ?_) (hsT1) (fun _ h => h) rfl (by kernel_rfl) (by kernel_rfl) (by kernel_rfl) (by kernel_rfl) (fun _ _ _ h => h) (SteadyB.of_yields (Or.inl ⟨by rfl, ?_⟩)) ?_
      rotate_left
      · intro wq hSw
        obtain ⟨b0, b1⟩ := (hSw.1.cs 0 rfl).two
        obtain ⟨x0, x1, x2, x3, x4, x5⟩ := Tk.at y (hSw.1.cs 1 rfl)
        obtain ⟨y0, y1, y2, y3, y4, y5⟩ := Tk.at y (hSw.1.cs 2 rfl)
        obtain ⟨z0, z1, z2, z3, z4, z5⟩ := Tk.of _ hSw.2.1.1
        go_simp
        (try with_reducible rfl)
      try simp only [List.getElem_toArray, List.getElem_cons_zero, List.getElem_cons_succ, Act.put, List.setIfInBounds_toArray, List.set_cons_zero, List.set_cons_succ]
      refine wpAnyE_take (i := 10) (v := ?_) (hsT1) (fun _ h => h) rfl (by kernel_rfl) (by kernel_rfl) (by kernel_rfl) (by kernel_rfl) (fun _ _ _ h => h) (SteadyB.of_yields (Or.inl ⟨by rfl, ?_⟩)) ?_
      rotate_left
      · intro wq hSw
        go_simp
        (try with_reducible rfl)
      try simp only [List.getElem_toArray, List.getElem_cons_zero, List.getElem_cons_succ, Act.put, List.setIfInBounds_toArray, List.set_cons_zero, List.set_cons_succ]
      refine wpAnyE_take (i := 11) (v := ?_) (hsT1) (fun _ h => h) rfl (by kernel_rfl) (by kernel_rfl) (by kernel_rfl) (by kernel_rfl) (fun _ _ _ h => h) (SteadyB.of_yields (Or.inl ⟨by rfl, ?_⟩)) ?_
      rotate_left
      · intro wq hSw
        go_simp
        (try with_reducible rfl)
      try simp only [List.getElem_toArray, List.getElem_cons_zero, List.getElem_cons_succ, Act.put, List.setIfInBounds_toArray, List.set_cons_zero, List.set_cons_succ]
      refine wpAnyE_take (i := 12) (v := ?_) (hsT1) (fun _ h => h) rfl (by kernel_rfl) (by kernel_rfl) (by kernel_rfl) (by kernel_rfl) (fun _ _ _ h => h) (SteadyB.of_yields (Or.inl ⟨by rfl, ?_⟩)) ?_
      rotate_left
      · intro wq hSw
        go_simp
        (try with_reducible rfl)
      try simp only [List.getElem_toArray, List.getElem_cons_zero, List.getElem_cons_succ, Act.put, List.setIfInBounds_toArray, List.set_cons_zero, List.set_cons_succ]
      refine wpAnyE_take (i := 13) (v := ?_) (hsT1) (fun _ h => h) rfl (by kernel_rfl) (by kernel_rfl) (by kernel_rfl) (by kernel_rfl) (fun _ _ _ h => h) (SteadyB.of_yields (Or.inl ⟨by rfl, ?_⟩)) ?_
      rotate_left
      · intro wq hSw
        go_simp
        (try with_reducible rfl)
      try simp only [List.getElem_toArray, List.getElem_cons_zero, List.getElem_cons_succ, Act.put, List.setIfInBounds_toArray, List.set_cons_zero, List.set_cons_succ]
      refine wpAnyE_take (i := 14) (v := ?_) (hsT1) (fun _ h => h) rfl (by kernel_rfl) (by kernel_rfl) (by kernel_rfl) (by kernel_rfl) (fun _ _ _ h => h) (SteadyB.of_yields (Or.inl ⟨by rfl, ?_⟩)) ?_
      rotate_left
      · intro wq hSw
        go_simp
        (try with_reducible rfl)
      try simp only [List.getElem_toArray, List.getElem_cons_zero, List.getElem_cons_succ, Act.put, List.setIfInBounds_toArray, List.set_cons_zero, List.set_cons_succ]
      refine wpAnyE_take (i := 15) (v := ?_) (hsT1) (fun _ h => h) rfl (by kernel_rfl) (by kernel_rfl) (by kernel_rfl) (by kernel_rfl) (fun _ _ _ h => h) (SteadyB.of_yields (Or.inl ⟨by rfl, ?_⟩)) ?_
      rotate_left
      · intro wq hSw
        go_simp
        (try with_reducible rfl)
      try simp only [List.getElem_toArray, List.getElem_cons_zero, List.getElem_cons_succ, Act.put, List.setIfInBounds_toArray, List.set_cons_zero, List.set_cons_succ]
      refine wpAnyE_done (by kernel_rfl) (fun wz hSz => ?_) _
      have HZ := hid hSz
      clear hSz HV5 HOW5 HRG5 HB5
      obtain ⟨x0, x1, x2, x3, x4, x5⟩ := Tk.at y (HZ.out.1.cs 1 rfl)
      have hkk : kk ≤ 4000000 := by have := HKK.out; omega
      have ha := (Below.refl wz.heap.size wz).alloc (Nat.le_refl _) (.cells #[.int .i64 y.i] 3)
      have ho4 := HZ.out.2.2.1.below ha
      have hs4 : w1.heap.size ≤ (wz.alloc (.cells #[.int .i64 y.i] 3)).heap.size := Nat.le_trans HZ.out.2.2.2.size ha.size
      have hc4 : (wz.alloc (.cells #[.int .i64 y.i] 3)).cell? ⟨wz.heap.size, 0, none⟩ = some (.int .i64 y.i) := by simp
      go_wp2_with (first
        | (at_builtin; (with_reducible refine wpList_append_int _ rfl (.tmp 49) (.tmp 52) rfl w1.heap.size B kk cc ((D.take k).map (·.i)) ?sa1 ho4 wz.heap.size y.i ?sa2 hc4 hkk hs4 ?sa3); (case sa1 => rfl); (case sa2 => rfl); (intro A5 c5 w5 ho5 hg5); (have hc5 := Chg.grown hg5); (have HO5 := hid (show Own w5 w1.heap.size A5 (kk + 1) c5 ((D.take (k + 1)).map (·.i)) by rw [HST.out]; exact ho5)); (have HB6 := hid (show Below w1.heap.size w1 w5 from (below_on HZ.out.2.2.2 ha).trans (hc5.toBelow (Nat.le_trans HZ.out.2.2.2.size ha.size) (fun j hj => (HZ.out.2.2.1.rowIn j hj).1))))
          ; (clear ho5 hc5 hg5 ho4 hs4 hc4 ha))
        | fail)
      go_roundg (m - (k + 1))
      case measure => have := HS.out; omega
      case rel => exact ⟨k + 1, A5, kk + 1, c5, rfl, by go_num, by omega, rfl, HO5.out, HB6.out⟩
    · have hki : ¬ (k : Int) < m := by omega
      have HFIN : Hid (Own wr w1.heap.size B kk cc (D.map (·.i))) := hid (by have h := HOW.out; rwa [List.take_of_length_le (by have := HLN.out; omega)] at h)
      go_wp2_with fail
      refine (Tab.states base th g0 N c L _ 3 3 [1, 2, 3] _ (((HT.out.below HV1.out.bel).below HB.out).below ((Below.refl wr.heap.size wr).alloc (Nat.le_refl _) (.cells #[.int .u8 1, .int .u8 2, .int .u8 3] 5))) (RdU.new3 .u8 wr 5 1 2 3) (by decide)).mono ?_
      rw [HDD.out, HIA.out]
      rintro e w7 ⟨A7, k7, d7, rfl, ho7, hb7⟩
      have hb8 := ((Below.refl wr.heap.size wr).alloc (Nat.le_refl _) (.cells #[.int .u8 1, .int .u8 2, .int .u8 3] 5)).trans (hb7.mono (by simp))
      have HO7 := hid ho7
      have HF7 := hid (HFIN.out.below hb8)
      have HB7 := hid (below_on HB.out hb8)
      have HK7 : Hid (k7 ≤ 1000000) := hid (by have h1 := ho7.len; rw [List.length_map] at h1; have := HLN.out; have := HLE.out; omega)
      clear ho7 hb7 hb8
      go_wp2_with fail
      refine (Sls.equal A7 B k7 d7 kk cc _ _ _ HO7.out.rdi HF7.out.rdi HK7.out (by have := HKK.out; omega)).mono ?_
      rw [show (D.map (·.i) == D.map (·.i)) = true by simp]
      rintro e w9 ⟨rfl, hb⟩
      have HB9 := hid (below_on HB7.out hb)
      clear hb
      go_wp2_with fail
      go_ret
      exact ⟨rfl, below_on HV1.out.bel HB9.out⟩
end
end

end Go.Proofs.YtegohmeapamoaaaGreatDoor

/- Texts of LagMoves's proof, together. -/
import Derived.Test.YtoioeginfhkjjaaGreatDoorLagMovesZ34
import Derived.Test.YtoioeginfhkjjaaGreatDoorLagMovesZ24
import Derived.Laws.OwnMore
namespace Go.Proofs.YtoioeginfhkjjaaGreatDoor
/- The contracts of the document's answer for layer 1, continued: products. -/
section
open Go.RowKit

theorem Own.at {w : World} {base g N : Nat} {ws : List Int} (h : Own w base (some ⟨g, 0, none⟩) N N ws) {j : Nat} (hj : j < N) : w.cell? ⟨g, j, none⟩ = some (.int .i64 (dg ws j)) := by
  have h1 := World.ownsRow.cellAt h j (by omega)
  rw [h1, List.getElem?_map]
  have := h.len
  simp [dg, List.getD, show j < ws.length by omega]
theorem Own.hot {w : World} {base g N : Nat} {ws : List Int} (h : Own w base (some ⟨g, 0, none⟩) N N ws) (j : Nat) : w.frozen? ⟨g, j, none⟩ = false := World.ownsRow.frozenAt h j
theorem Own.put {w : World} {base g N : Nat} {ws : List Int} (h : Own w base (some ⟨g, 0, none⟩) N N ws) (j : Nat) (z : Int) : Own (w.setCell ⟨g, j, none⟩ (.int .i64 z)) base (some ⟨g, 0, none⟩) N N (ws.set j z) := by
  have h1 := (World.ownsRow.stored h j (.int .i64 z)).1
  unfold Own
  rw [List.map_set]
  exact h1
theorem Fresh.setCell {w : World} {g : Nat} (h : Fresh w g) {b : Nat} (hb : b ≠ g) (o : Nat) (v : Value) : Fresh (w.setCell ⟨b, o, none⟩ v) g := by
  have far : ∀ (p : Nat), (w.setCell ⟨b, o, none⟩ v).cell? ⟨g, p, none⟩ = w.cell? ⟨g, p, none⟩ := fun p => World.cell?_setCell_other w ⟨b, o, none⟩ ⟨g, p, none⟩ v (fun e => by injection e with e1; exact hb e1)
  refine ⟨(far 0).trans h.1, (far 1).trans h.2.1, ?_, ?_, fun p k e => h.2.2.2.2 p k ((far p).symm.trans e)⟩
  · simpa [go_sem] using h.2.2.1
  · simpa [go_sem] using h.2.2.2.1

/-- What stands in memory while a product is made. -/
def MInv (w0 : World) (s t : Bool) (A B : Option Addr) (n c m d : Nat) (N : Nat) (ws : List Int) (w : World) : Prop :=
  (w.cell? ⟨w0.heap.size, 0, none⟩ = some (.bool s) ∧ w.cell? ⟨w0.heap.size, 1, none⟩ = some (.slice A n c) ∧ w.cell? ⟨w0.heap.size + 1, 0, none⟩ = some (.bool t) ∧ w.cell? ⟨w0.heap.size + 1, 1, none⟩ = some (.slice B m d)) ∧
  Fresh w (w0.heap.size + 2) ∧ Own w (w0.heap.size + 3) (some ⟨w0.heap.size + 3, 0, none⟩) N N ws ∧ Below w0.heap.size w0 w ∧ w0.heap.size + 3 < w.heap.size
theorem MInv.below {w0 : World} {s t : Bool} {A B : Option Addr} {n c m d N : Nat} {ws : List Int} {w w' : World} (h : MInv w0 s t A B n c m d N ws w) (hb : Below w.heap.size w w') : MInv w0 s t A B n c m d N ws w' :=
  ⟨keep4 h.1 hb, h.2.1.below hb, h.2.2.1.below hb, below_keep h.2.2.2.1 hb, Nat.lt_of_lt_of_le h.2.2.2.2 hb.size⟩
theorem MInv.put {w0 : World} {s t : Bool} {A B : Option Addr} {n c m d N : Nat} {ws : List Int} {w : World} (h : MInv w0 s t A B n c m d N ws w) (j : Nat) (z : Int) :
    MInv w0 s t A B n c m d N (ws.set j z) (w.setCell ⟨w0.heap.size + 3, j, none⟩ (.int .i64 z)) := by
  have far : ∀ (b q : Nat) (x : Value), b ≠ w0.heap.size + 3 → w.cell? ⟨b, q, none⟩ = some x → (w.setCell ⟨w0.heap.size + 3, j, none⟩ (.int .i64 z)).cell? ⟨b, q, none⟩ = some x := fun b q x hb hx =>
    (World.cell?_setCell_other w ⟨w0.heap.size + 3, j, none⟩ ⟨b, q, none⟩ _ (fun e => by injection e with e1; exact hb e1.symm)).trans hx
  exact ⟨⟨far _ _ _ (by omega) h.1.1, far _ _ _ (by omega) h.1.2.1, far _ _ _ (by omega) h.1.2.2.1, far _ _ _ (by omega) h.1.2.2.2⟩, h.2.1.setCell (by omega) _ _, h.2.2.1.put _ _, h.2.2.2.1.setCell (show w0.heap.size ≤ w0.heap.size + 3 by omega) _, by simpa using h.2.2.2.2⟩
theorem MInv.drew {w0 : World} {s t : Bool} {A B : Option Addr} {n c m d N : Nat} {ws : List Int} {w : World} (h : MInv w0 s t A B n c m d N ws w) : MInv w0 s t A B n c m d N ws w.drew :=
  ⟨h.1, h.2.1, h.2.2.1, h.2.2.2.1.drew, h.2.2.2.2⟩

theorem mul_sgn {x y X Y V : Int} (s t : Bool) (hx : x = if s = true then -X else X) (hy : y = if t = true then -Y else Y) (hV : V = X * Y) : x * y = if (s != t) = true then -V else V := by
  subst hx hy hV
  cases s <;> cases t <;> simp [Int.neg_mul, Int.mul_neg]
/-- As it is when the row has been made. -/
theorem MInv.made {w w1 : World} {s t : Bool} {A B : Option Addr} {n c m d N : Nat} {ty : TypeId} {row : Value}
    (hr : row = .slice (some ⟨(((w.alloc (.cells #[.bool s, .slice A n c] ty)).alloc (.cells #[.bool t, .slice B m d] ty)).alloc (.cells #[.bool false, .slice none 0 0] ty)).heap.size, 0, none⟩) N N)
    (ho : w1.ownsRow (w.heap.size + 3) 3 1 row N (madeCells (Value.int IntKind.i64 0).cells (N * 1)).toList)
    (hg : (((w.alloc (.cells #[.bool s, .slice A n c] ty)).alloc (.cells #[.bool t, .slice B m d] ty)).alloc (.cells #[.bool false, .slice none 0 0] ty)).grownBy w1 none) (hN : 0 < N) :
    MInv w s t A B n c m d N (List.replicate N 0) w1 := by
  obtain ⟨hS, hF⟩ := AddW.new w s t A B n c m d ty
  obtain ⟨W0, hW⟩ : ∃ W0, W0 = ((w.alloc (Obj.cells #[Value.bool s, Value.slice A n c] ty)).alloc (Obj.cells #[Value.bool t, Value.slice B m d] ty)).alloc (Obj.cells #[Value.bool false, Value.slice none 0 0] ty) := ⟨_, rfl⟩
  rw [← hW] at hr hg hS hF
  have hsz : W0.heap.size = w.heap.size + 3 := by rw [hW]; simp
  have hb : Below W0.heap.size W0 w1 := (Below.refl _ W0).grown hg (Nat.le_refl _) (fun k e => by cases e)
  have hown : Own w1 (w.heap.size + 3) (some ⟨w.heap.size + 3, 0, none⟩) N N (List.replicate N 0) := by
    rw [hr, hsz] at ho
    unfold Own
    rw [List.map_replicate]
    have e : (madeCells (Value.int IntKind.i64 0).cells (N * 1)).toList = List.replicate N (Value.int .i64 0) := by
      rw [Nat.mul_one]; exact toList_madeCells_one _ _
    rw [e] at ho
    exact ho
  exact ⟨keep4 hS.1 hb, hF.below hb, hown, below_keep hS.2 hb, World.block_lt_of_cell? w1 _ (hown.at hN)⟩

set_option maxRecDepth 100000 in
set_option maxHeartbeats 4000000 in
theorem Ref.mul (K L : Nat) (s t : Bool) (A B : Option Addr) (n c m d : Nat) (x y : Int) (w : World) (hx : IsB w K s A n c x) (hy : IsB w L t B m d y) (hK : K ≤ 1000000) (hL : L ≤ 1000000) :
    Calls Tryz.prog 73 #[.agg #[.bool s, .slice A n c], .agg #[.bool t, .slice B m d]] w (BAns (K + L + 1) (x * y) w) := by
  obtain ⟨xs, hX, hn, hnc, dX, nX, sX, eX⟩ := hx
  obtain ⟨ys, hY, hm, hmd, dY, nY, sY, eY⟩ := hy
  have HX := hid hX
  have HY := hid hY
  have HD := hid (And.intro dX dY)
  have HE := hid (And.intro eX eY)
  clear hX hY dX dY nX nY sX sY eX eY
  obtain ⟨i0, hi, hz0, hz1, hz2⟩ := info_parts infoInt
  have wN1 : IntKind.i64.wrap ((n : Int) + (m : Int)) = (n : Int) + (m : Int) := by rw [IntKind.wrap_i64]; omega
  have wN2 : IntKind.i64.wrap ((n : Int) + (m : Int) + 1) = (n : Int) + (m : Int) + 1 := by rw [IntKind.wrap_i64]; omega
  go_enter Tryz.func73, Tryz.ntmps73
  go_wp2_with (first | (refine wpList_make_full _ rfl _ _ _ rfl (w.heap.size + 3) 3 i0 (.int .i64 0) 1 Tryz.underlying39 hi hz0 hz1 .i64 .i64 _ _ (n + m + 1) rfl rfl (by simp) (by simp) (by rw [hz2]; omega) (by unfold maxLen; omega) (by simp) ?_; intro w1 hown hgrow; have HM := hid (MInv.made rfl hown hgrow (by omega)); clear hown hgrow; obtain ⟨x0, x1, y0, y1⟩ := HM.out.1))
  clear wN1 wN2
  go_loopg [23] n (fun g r wr => ∃ (i : Nat) (ws : List Int), r = .int .i64 i ∧ g = n - i ∧ i ≤ n ∧ (val ws = val (xs.take i) * val ys ∧ Dg ws ∧ ∀ j, i + m ≤ j → dg ws j = 0) ∧ MInv w s t A B n c m d (n + m + 1) ws wr)
  case atStart =>
    exact ⟨0, _, rfl, rfl, Nat.zero_le _, ⟨by rw [val_nought]; simp [val], Dg.nought _, fun j _ => dg_nought _ _⟩, HM.out⟩
  case round =>
    obtain ⟨i, ws, rfl, hg, hi, hv, hM⟩ := hrel
    have HG := hid hg
    have HV := hid hv
    have HM := hid hM
    clear hg hv hM
    obtain ⟨x0, x1, y0, y1⟩ := HM.out.1
    by_cases hend : i = n
    · subst hend
      have f1 : ¬ (i : Int) < (i : Int) := by omega
      have HZ := hid (mul_sgn s t HE.out.1 HE.out.2 (show val ws = val xs * val ys by rw [HV.out.1, val_take_all xs (by have := HX.out.1; omega)]))
      go_wp2_with fail
      refine (Ref.trim (K + L + 1) (s != t) _ (i + m + 1) (i + m + 1) ws _ HM.out.2.2.1.rd (by omega) (by omega) (Nat.le_refl _) HV.out.2.1 (x * y) HZ).mono ?_
      rintro e w2 ⟨s', A', n', c', rfl, hB, hb⟩
      have HB := hid hB
      have HF := hid (HM.out.2.1.below hb)
      obtain ⟨t0, t1, t2, t3, _⟩ := HF.out
      clear hB
      go_wp2
      refine bodyPost_ret (v := .agg #[.bool s', .slice A' n' c']) (by simp [results, Tryz.results73, go_sem, t0, t1]) rfl ⟨_, _, _, _, rfl, HB.out.store HF.out.2.2.2.2 _ _ _ _, ?_⟩
      exact ((below_keep HM.out.2.2.2.1 hb).setCell (show w.heap.size ≤ w.heap.size + 2 by omega) _).setCell (show w.heap.size ≤ w.heap.size + 2 by omega) _
    · have hin : (i : Int) < (n : Int) := by omega
      obtain ⟨b, off, hA, hcx⟩ := (HX.out.below HM.out.2.2.2.1).2 (by omega)
      subst hA
      have hci : wr.cell? ⟨b, off + i, none⟩ = some (.int .i64 (dg xs i)) := hcx i (by omega)
      clear hcx
      obtain ⟨b0, b1⟩ := HD.out.1.dg i
      have wI : IntKind.i64.wrap ((i : Int) + 1) = ((i + 1 : Nat) : Int) := by rw [IntKind.wrap_i64]; omega
      go_wp2_with fail
      go_loopg [8, 9] (m + 1) (fun g cr k2 w2 => ∃ (k : Nat) (cy : Int) (zs : List Int), k2 = .int .i64 k ∧ cr = .int .i64 cy ∧ g = m + 1 - k ∧ k ≤ m + 1 ∧ 0 ≤ cy ∧ cy ≤ 9999 ∧
        (val zs = val ws + 10000 ^ i * (dg xs i * val (ys.take k)) - 10000 ^ (i + k) * cy ∧ Dg zs ∧ (∀ j, i + k ≤ j → dg zs j = dg ws j) ∧ (k = m + 1 → cy = 0) ∧ (∀ j, i + 1 + m ≤ j → dg zs j = 0)) ∧ MInv w s t (some ⟨b, off, none⟩) B n c m d (n + m + 1) zs w2)
      case atStart =>
        exact ⟨0, 0, ws, rfl, rfl, rfl, by omega, by decide, by decide, ⟨by simp [val], HV.out.2.1, fun j _ => rfl, fun _ => rfl, fun j hj => HV.out.2.2 j (by omega)⟩, HM.out⟩
      case round =>
        obtain ⟨k, cy, zs, rfl, rfl, hg, hk, c0, c1, hv, hM⟩ := hrel
        have HG2 := hid hg
        have HV2 := hid hv
        have HM2 := hid hM
        clear hg hv hM
        obtain ⟨x0, x1, y0, y1⟩ := HM2.out.1
        by_cases hend2 : m ≤ k ∧ cy = 0
        · obtain ⟨e1, rfl⟩ := hend2
          have f1 : ¬ (k : Int) < (m : Int) := by omega
          go_wp2_with fail
          go_roundg (n - (i + 1))
          case measure => have := HG.out; omega
          case rel =>
            exact ⟨i + 1, zs, by first | rfl | go_num, rfl, by omega, ⟨mul_row (by have := HY.out.1; omega) HV2.out.1 HV.out.1, HV2.out.2.1, HV2.out.2.2.2.2⟩, HM2.out⟩
        · have hkm : k ≤ m := by have := HV2.out.2.2.2.1; omega
          have hcond : (k : Int) < (m : Int) ∨ (¬ (k : Int) < (m : Int) ∧ 0 < cy) := by omega
          obtain ⟨b2, b3⟩ := HD.out.2.dg k
          obtain ⟨j, hj⟩ : ∃ j, j = i + k := ⟨_, rfl⟩
          obtain ⟨b4, b5⟩ := HV2.out.2.1.dg j
          have p0 : 0 ≤ dg xs i * dg ys k := Int.mul_nonneg b0 b2
          have p1 : dg xs i * dg ys k ≤ 9999 * 9999 := Int.le_trans (Int.mul_le_mul_of_nonneg_right b1 b2) (Int.mul_le_mul_of_nonneg_left b3 (by decide))
          have e0 : IntKind.i64.wrap ((i : Int) + (k : Int)) = (j : Int) := by rw [IntKind.wrap_i64]; omega
          have e1 : IntKind.i64.wrap (dg xs i * dg ys k) = dg xs i * dg ys k := by rw [IntKind.wrap_i64]; omega
          have e2 : IntKind.i64.wrap (dg zs j + dg xs i * dg ys k) = dg zs j + dg xs i * dg ys k := by rw [IntKind.wrap_i64]; omega
          have e3 : IntKind.i64.wrap (dg zs j + dg xs i * dg ys k + cy) = dg zs j + dg xs i * dg ys k + cy := by rw [IntKind.wrap_i64]; omega
          have hlt : (j : Int) < (n : Int) + (m : Int) + 1 := by omega
          have hlt0 : (0 : Int) ≤ (j : Int) := by omega
          have hlt1 : j < n + m + 1 := by omega
          have HJ := hid hj
          clear hj
          have z0 : wr.cell? ⟨w.heap.size + 1 + 1 + 1, j, none⟩ = some (.int .i64 (dg zs j)) := HM2.out.2.2.1.at (by omega)
          have hS0 : (wr.cell? ⟨w.heap.size + 1, 0, none⟩ = some (.bool t) ∧ wr.cell? ⟨w.heap.size + 1, 1, none⟩ = some (.slice B m d) ∧ wr.cell? ⟨w.heap.size + 1 + 1 + 1, j, none⟩ = some (.int .i64 (dg zs j)) ∧ wr.cell? ⟨w.heap.size, 0, none⟩ = some (.bool s)) ∧ MInv w s t (some ⟨b, off, none⟩) B n c m d (n + m + 1) zs wr := ⟨⟨y0, y1, z0, x0⟩, HM2.out⟩
          have HS0 := hid hS0
          clear hS0
          rcases hcond with h1 | ⟨h1, h2⟩
          all_goals
            go_wp2_with fail
            go_region_held3 (fun w' => (w'.cell? ⟨w.heap.size + 1, 0, none⟩ = some (.bool t) ∧ w'.cell? ⟨w.heap.size + 1, 1, none⟩ = some (.slice B m d) ∧ w'.cell? ⟨w.heap.size + 1 + 1 + 1, j, none⟩ = some (.int .i64 (dg zs j)) ∧ w'.cell? ⟨w.heap.size, 0, none⟩ = some (.bool s)) ∧ MInv w s t (some ⟨b, off, none⟩) B n c m d (n + m + 1) zs w')
              (first | exact ⟨HS0.out.1, HS0.out.2.drew⟩ | exact keepP (by assumption) hb2 (fun h => MInv.below h hb2))
              (first | (go_at_call 103; refine (Ref.digit t B m d k ys _ (HY.out.below (And.right (by assumption : (_ ∧ _ ∧ _ ∧ _) ∧ MInv w s t (some ⟨b, off, none⟩) B n c m d (n + m + 1) zs _)).2.2.2.1) (by omega) (by omega)).mono ?_; rintro e w2 ⟨rfl, hb2⟩))
            obtain ⟨⟨_, _, z2, _⟩, hP3⟩ : (w2.cell? ⟨w.heap.size + 1, 0, none⟩ = some (.bool t) ∧ w2.cell? ⟨w.heap.size + 1, 1, none⟩ = some (.slice B m d) ∧ w2.cell? ⟨w.heap.size + 1 + 1 + 1, j, none⟩ = some (.int .i64 (dg zs j)) ∧ w2.cell? ⟨w.heap.size, 0, none⟩ = some (.bool s)) ∧ MInv w s t (some ⟨b, off, none⟩) B n c m d (n + m + 1) zs w2 := by assumption
            have HP3 := hid hP3
            have z3 : w2.frozen? ⟨w.heap.size + 1 + 1 + 1, j, none⟩ = false := hP3.2.2.1.hot _
            have s0 : 0 ≤ dg zs j + dg xs i * dg ys k + cy := by omega
            have s1 : dg zs j + dg xs i * dg ys k + cy ≤ 99999999 := by omega
            clear hP3 hb2 e1 e2 e3
            go_wp2_with fail
            go_roundg (m + 1 - (k + 1))
            case measure => have := HG2.out; omega
            case rel =>
              have hj := HJ.out
              subst hj
              refine ⟨k + 1, (dg zs (i + k) + dg xs i * dg ys k + cy) / 10000, zs.set (i + k) ((dg zs (i + k) + dg xs i * dg ys k + cy) % 10000), by go_num, rfl, rfl, by omega, by omega, by omega,
                ⟨mul_step (by have := HP3.out.2.2.1.len; omega) HV2.out.1 rfl, HV2.out.2.1.set _ (by omega) (by omega), fun l hl => ?_, fun hk1 => ?_, fun l hl => ?_⟩, HP3.out.put _ _⟩
              · rw [dg_set_other _ _ _ _ (by omega)]; exact HV2.out.2.2.1 l (by omega)
              · have a1 : dg zs (i + k) = 0 := by rw [HV2.out.2.2.1 _ (Nat.le_refl _)]; exact HV.out.2.2 _ (by omega)
                have a2 : dg ys k = 0 := dg_ge (by have := HY.out.1; omega)
                rw [a1, a2, Int.mul_zero]; omega
              · rw [dg_set_other _ _ _ _ (by omega)]; exact HV2.out.2.2.2.2 l hl
end

/- The contracts of the document's answer for layer 1, continued: the number that a high and a low half are. -/
section
open Go.RowKit

set_option maxRecDepth 100000 in
set_option maxHeartbeats 4000000 in
theorem Ref.wide (a b : Int) (a0 : -9223372036854775808 ≤ a) (a1 : a ≤ 9223372036854775807) (b0 : 0 ≤ b) (b1 : b ≤ 18446744073709551615) (w : World) :
    Calls Tryz.prog 79 #[.int .i64 a, .int .u64 b] w (BAns 18 (a * 18446744073709551616 + b) w) := by
  go_enter Tryz.func79, Tryz.ntmps79
  go_wp2_with fail
  refine (Ref.U 4294967296 (by decide) (by decide) _).mono ?_
  rintro e w1 ⟨s1, A1, n1, c1, rfl, hB1, hb1⟩
  have H1 := hid hB1
  have HF := hid ((Fresh.new w 41).below hb1)
  have hbw := ((Below.refl _ w).alloc (Nat.le_refl _) (Obj.cells #[Value.bool false, Value.slice none 0 0] 41)).trans (hb1.mono (by simp))
  have HBW := hid hbw
  clear hB1 hb1 hbw
  go_wp2_with fail
  refine (Ref.U 4294967296 (by decide) (by decide) _).mono ?_
  rintro e w2 ⟨s2, A2, n2, c2, rfl, hB2, hb2⟩
  have H2 := hid hB2
  have H12 := hid (H1.out.below hb2)
  have HF2 := hid (HF.out.below hb2)
  have HBW2 := hid (below_keep HBW.out hb2)
  clear hB2 hb2
  go_wp2_with fail
  refine (Ref.mul 5 5 s1 s2 A1 A2 n1 c1 n2 c2 _ _ _ H12.out H2.out (by decide) (by decide)).mono ?_
  rintro e w3 ⟨s3, A3, n3, c3, rfl, hB3, hb3⟩
  have hF3 := HF2.out.below hb3
  have hBW3 := below_keep HBW2.out hb3
  have hlt : w.heap.size < w3.heap.size := World.block_lt_of_cell? w3 _ hF3.1
  have H3 := hid hB3
  have HF3 := hid hF3
  have HBW3 := hid hBW3
  clear hB3 hb3 hF3 hBW3
  go_wp2_with fail
  obtain ⟨W0, hW⟩ : ∃ W0, W0 = w3.alloc (Obj.cells #[Value.bool s3, Value.slice A3 n3 c3] 41) := ⟨_, rfl⟩
  rw [← hW]
  have HS0 : Hid ((W0.cell? ⟨w3.heap.size, 0, none⟩ = some (.bool s3) ∧ W0.cell? ⟨w3.heap.size, 1, none⟩ = some (.slice A3 n3 c3) ∧ W0.cell? ⟨w3.heap.size, 0, none⟩ = some (.bool s3) ∧ W0.cell? ⟨w3.heap.size, 1, none⟩ = some (.slice A3 n3 c3)) ∧ Below w.heap.size w W0) := hid (by rw [hW]; exact ⟨⟨by simp [go_sem], by simp [go_sem], by simp [go_sem], by simp [go_sem]⟩, HBW3.out.alloc (by omega) _⟩)
  have HF0 : Hid (Fresh W0 w.heap.size) := hid (by rw [hW]; exact HF3.out.below ((Below.refl _ _).alloc (Nat.le_refl _) _))
  have HT0 : Hid (IsB W0 11 s3 A3 n3 c3 18446744073709551616) := hid (by rw [hW]; exact H3.out.alloc _)
  clear hW
  go_region_held3 (fun w' => (w'.cell? ⟨w3.heap.size, 0, none⟩ = some (.bool s3) ∧ w'.cell? ⟨w3.heap.size, 1, none⟩ = some (.slice A3 n3 c3) ∧ w'.cell? ⟨w3.heap.size, 0, none⟩ = some (.bool s3) ∧ w'.cell? ⟨w3.heap.size, 1, none⟩ = some (.slice A3 n3 c3)) ∧ Below w.heap.size w w')
    (first | exact ⟨HS0.out.1, HS0.out.2.drew⟩ | exact keepP (by assumption) hb2 (fun h => below_keep h hb2) | exact keepSt (by assumption) (by omega) (by omega) (by omega) (by omega) (by omega))
    (first
      | (go_at_call 46; refine (Ref.N a a0 a1 _).mono ?_; rintro e w4 ⟨s4, A4, n4, c4, rfl, hB, hb2⟩; have H4 := hid hB; have HT4 := hid (IsB.below (w := W0.drew) HT0.out hb2); have HF4 := hid (Fresh.below (w := W0.drew) HF0.out hb2); clear hB)
      | (go_at_call 73; refine (Ref.mul 5 11 s4 s3 A4 A3 n4 c4 n3 c3 _ _ _ H4.out HT4.out (by decide) (by decide)).mono ?_; rintro e w5 ⟨s5, A5, n5, c5, rfl, hB, hb2⟩; have H5 := hid hB; have HF5 := hid (HF4.out.below hb2); clear hB)
      | (go_at_call 74; refine (Ref.U b b0 b1 _).mono ?_; rintro e w6 ⟨s6, A6, n6, c6, rfl, hB, hb2⟩; have H6 := hid (hB.mono (show 5 ≤ 17 by decide)); have H56 := hid (H5.out.below hb2); have HF6 := hid (HF5.out.below hb2); clear hB)
      | (go_at_call 44; refine (Ref.add 17 s5 s6 A5 A6 n5 c5 n6 c6 _ _ _ H56.out H6.out (by decide)).mono ?_; rintro e w7 ⟨s', A', n', c', rfl, hB, hb2⟩; have HB := hid hB; have HF7 := hid (HF6.out.below hb2); obtain ⟨t0, t1, t2, t3, _⟩ := HF7.out; clear hB))
  obtain ⟨_, hfin⟩ : (_ ∧ _ ∧ _ ∧ _) ∧ Below w.heap.size w ((w7.setCell ⟨w.heap.size, 0, none⟩ (.bool s')).setCell ⟨w.heap.size, 1, none⟩ (.slice A' n' c')) := by assumption
  have HFIN := hid hfin
  clear hfin
  go_wp2
  exact bodyPost_ret (v := .agg #[.bool s', .slice A' n' c']) (by simp [results, Tryz.results79, go_sem, t0, t1]) rfl ⟨_, _, _, _, rfl, HB.out.store HF7.out.2.2.2.2 _ _ _ _, HFIN.out⟩
end

/- The contracts of the document's answer for layer 1, continued: powers of two, wide or not, small or not. -/
section
open Go.RowKit

theorem NoInt.store {w : World} {g : Nat} (h : NoInt w g) {u0 u1 : Value} (x0 : w.cell? ⟨g, 0, none⟩ = some u0) (x1 : w.cell? ⟨g, 1, none⟩ = some u1) (s : Bool) (A : Option Addr) (n c : Nat) :
    NoInt ((w.setCell ⟨g, 0, none⟩ (.bool s)).setCell ⟨g, 1, none⟩ (.slice A n c)) g := by
  intro o k e
  by_cases e1 : o = 1
  · subst e1; simp [go_sem, x1] at e
  · rw [World.cell?_setCell_other _ ⟨g, 1, none⟩ ⟨g, o, none⟩ _ (fun e => by injection e with _ e2; exact e1 e2.symm)] at e
    by_cases e0 : o = 0
    · subst e0; simp [go_sem, x0] at e
    · rw [World.cell?_setCell_other _ ⟨g, 0, none⟩ ⟨g, o, none⟩ _ (fun e => by injection e with _ e2; exact e0 e2.symm)] at e
      exact h o k e

/-- A variable of type Big that holds a number. -/
def Var (w : World) (g : Nat) (s : Bool) (A : Option Addr) (n c : Nat) : Prop := w.cell? ⟨g, 0, none⟩ = some (.bool s) ∧ w.cell? ⟨g, 1, none⟩ = some (.slice A n c) ∧ w.frozen? ⟨g, 0, none⟩ = false ∧ w.frozen? ⟨g, 1, none⟩ = false ∧ NoInt w g
theorem Var.below {w w' : World} {g : Nat} {s : Bool} {A : Option Addr} {n c : Nat} (h : Var w g s A n c) (hb : Below w.heap.size w w') : Var w' g s A n c := by
  have hg := World.block_lt_of_cell? w _ h.1
  exact ⟨keep1 hb h.1, keep1 hb h.2.1, (hb.frozen (p := ⟨g, 0, none⟩) hg).trans h.2.2.1, (hb.frozen (p := ⟨g, 1, none⟩) hg).trans h.2.2.2.1, h.2.2.2.2.below hg hb⟩
theorem Var.new (w : World) (t : TypeId) (s : Bool) (A : Option Addr) (n c : Nat) : Var (w.alloc (.cells #[.bool s, .slice A n c] t)) w.heap.size s A n c :=
  ⟨by simp [go_sem], by simp [go_sem], by simp [go_sem], by simp [go_sem], NoInt.new _ _ _ _ _ _⟩
theorem Var.store {w : World} {g : Nat} {s : Bool} {A : Option Addr} {n c : Nat} (h : Var w g s A n c) (s' : Bool) (A' : Option Addr) (n' c' : Nat) : Var ((w.setCell ⟨g, 0, none⟩ (.bool s')).setCell ⟨g, 1, none⟩ (.slice A' n' c')) g s' A' n' c' :=
  ⟨by simp [go_sem, h.1], by simp [go_sem, h.2.1], by simp [go_sem, h.2.2.1], by simp [go_sem, h.2.2.2.1], h.2.2.2.2.store h.1 h.2.1 _ _ _ _⟩

set_option maxRecDepth 100000 in
set_option maxHeartbeats 4000000 in
theorem Ref.power (N : Nat) (hN : N ≤ 1000) (w : World) :
    Calls Tryz.prog 106 #[.int .i64 N] w (BAns (5 + N) (2 ^ N) w) := by
  go_enter Tryz.func106, Tryz.ntmps106
  go_wp2_with fail
  refine (Ref.N 1 (by decide) (by decide) _).mono ?_
  rintro e w1 ⟨s1, A1, n1, c1, rfl, hB1, hb1⟩
  have hF := (Fresh.new w 41).below hb1
  have hlt : w.heap.size < w1.heap.size := World.block_lt_of_cell? w1 _ hF.1
  have HB1 := hid hB1
  have HF := hid hF
  have HBW := hid (((Below.refl _ w).alloc (Nat.le_refl _) (Obj.cells #[Value.bool false, Value.slice none 0 0] 41)).trans (hb1.mono (by simp)))
  clear hB1 hb1 hF
  go_wp2_with fail
  go_loopg [4] N (fun g i wr => ∃ (k : Nat) (s : Bool) (A : Option Addr) (n c : Nat), i = .int .i64 k ∧ g = N - k ∧ k ≤ N ∧ IsB wr (5 + k) s A n c (2 ^ k) ∧ Var wr w1.heap.size s A n c ∧ Fresh wr w.heap.size ∧ Below w.heap.size w wr)
  case atStart =>
    have hba := (Below.refl _ w1).alloc (Nat.le_refl _) (Obj.cells #[.bool s1, .slice A1 n1 c1] 41)
    exact ⟨0, s1, A1, n1, c1, rfl, rfl, Nat.zero_le _, HB1.out.alloc _, Var.new _ _ _ _ _ _, HF.out.below hba, below_keep HBW.out hba⟩
  case round =>
    obtain ⟨k, s, A, n, c, rfl, hg, hk, hB, hV, hF, hb⟩ := hrel
    have HG := hid hg
    have HB := hid hB
    have HV := hid hV
    have HF := hid hF
    have HBW := hid hb
    obtain ⟨x0, x1, _⟩ := hV
    clear hg hB hF hb
    by_cases hend : k = N
    · subst hend
      have f1 : ¬ (k : Int) < (k : Int) := by omega
      obtain ⟨t0, t1, t2, t3, _⟩ := HF.out
      go_wp2_with fail
      exact bodyPost_ret (v := .agg #[.bool s, .slice A n c]) (by simp [results, Tryz.results106, go_sem, t0, t1]) rfl ⟨_, _, _, _, rfl, HB.out.store HF.out.2.2.2.2 _ _ _ _, (HBW.out.setCell (Nat.le_refl _) _).setCell (Nat.le_refl _) _⟩
    · have h1 : (k : Int) < (N : Int) := by omega
      go_wp2_with fail
      refine (Ref.add (5 + k) s s A A n c n c _ _ _ HB.out HB.out (by omega)).mono ?_
      rintro e w2 ⟨s', A', n', c', rfl, hB2, hb2⟩
      have HB2 := hid hB2
      have HV2 := hid (HV.out.below hb2)
      have HF2 := hid (HF.out.below hb2)
      have HBW2 := hid (below_keep HBW.out hb2)
      clear hB2 hb2
      obtain ⟨y0, y1, y2, y3, _⟩ := HV2.out
      have wk : IntKind.i64.wrap ((k : Int) + 1) = ((k + 1 : Nat) : Int) := by rw [IntKind.wrap_i64]; omega
      go_wp2_with fail
      go_roundg (N - (k + 1))
      case measure => have := HG.out; omega
      case rel =>
        have e2 : (2 : Int) ^ k + 2 ^ k = 2 ^ (k + 1) := by rw [Int.pow_succ]; omega
        exact ⟨k + 1, s', A', n', c', by first | rfl | go_num, rfl, by omega, e2 ▸ HB2.out.store HV2.out.2.2.2.2 _ _ _ _, HV2.out.store _ _ _ _, (HF2.out.setCell (by omega) _ _).setCell (by omega) _ _, (HBW2.out.setCell (by simp; omega) _).setCell (by simp; omega) _⟩
end

/- A variable of type Big, and a number, through what a call does next: new blocks, stores, other calls. -/
section
open Go.RowKit

theorem Var.fresh {w : World} {g : Nat} (h : Fresh w g) : Var w g false none 0 0 := h
theorem Var.drew {w : World} {g : Nat} {s : Bool} {A : Option Addr} {n c : Nat} (h : Var w g s A n c) : Var w.drew g s A n c := h
theorem Var.alloc {w : World} {g : Nat} {s : Bool} {A : Option Addr} {n c : Nat} (h : Var w g s A n c) (o : Obj) : Var (w.alloc o) g s A n c := h.below ((Below.refl _ _).alloc (Nat.le_refl _) o)
theorem Var.far {w : World} {g : Nat} {s : Bool} {A : Option Addr} {n c : Nat} (h : Var w g s A n c) {b : Nat} (hb : b ≠ g) (o o' : Nat) (u v : Value) : Var ((w.setCell ⟨b, o, none⟩ u).setCell ⟨b, o', none⟩ v) g s A n c := by
  have far : ∀ (p : Nat), ((w.setCell ⟨b, o, none⟩ u).setCell ⟨b, o', none⟩ v).cell? ⟨g, p, none⟩ = w.cell? ⟨g, p, none⟩ := fun p =>
    (World.cell?_setCell_other _ ⟨b, o', none⟩ ⟨g, p, none⟩ v (fun e => by injection e with e1; exact hb e1)).trans (World.cell?_setCell_other w ⟨b, o, none⟩ ⟨g, p, none⟩ u (fun e => by injection e with e1; exact hb e1))
  refine ⟨(far 0).trans h.1, (far 1).trans h.2.1, ?_, ?_, fun p k e => h.2.2.2.2 p k ((far p).symm.trans e)⟩
  · simpa [go_sem] using h.2.2.1
  · simpa [go_sem] using h.2.2.2.1
theorem Var.lt {w : World} {g : Nat} {s : Bool} {A : Option Addr} {n c : Nat} (h : Var w g s A n c) : g < w.heap.size := World.block_lt_of_cell? w _ h.1
theorem IsB.storeV {w : World} {L : Nat} {s : Bool} {A : Option Addr} {n c : Nat} {z : Int} {g : Nat} {s0 : Bool} {A0 : Option Addr} {n0 c0 : Nat} (h : IsB w L s A n c z) (hv : Var w g s0 A0 n0 c0) (o o' : Nat) (u v : Value) :
    IsB ((w.setCell ⟨g, o, none⟩ u).setCell ⟨g, o', none⟩ v) L s A n c z := h.store hv.2.2.2.2 _ _ _ _
theorem Fresh.ofVar {w : World} {g : Nat} (h : Var w g false none 0 0) : Fresh w g := h
end

end Go.Proofs.YtoioeginfhkjjaaGreatDoor

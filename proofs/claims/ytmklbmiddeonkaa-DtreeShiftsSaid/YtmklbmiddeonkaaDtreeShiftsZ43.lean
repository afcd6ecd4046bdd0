/- Texts of DtreeShifts's proof, together. -/
import Derived.Test.YtmklbmiddeonkaaDtreeShiftsZ39
import Derived.Test.YtmklbmiddeonkaaDtreeShiftsZ42
namespace Go.Proofs.Ytmklbmiddeonkaa
/- The tree of items: New. -/
section
open Go.RowKit Go.Shelf

theorem eqDless (f : Fn) (a c : Array Value) (w : World) : (binOp .eql 118 (.func f a c) .nilFunc).run Try.prog w = .ok (.bool false) w := run_eql_func_nil w _ f a c Try.underlying118
theorem eqDone (f : Fn) (a c : Array Value) (w : World) : (binOp .eql 115 (.func f a c) .nilFunc).run Try.prog w = .ok (.bool false) w := run_eql_func_nil w _ f a c Try.underlying115
theorem eqDtwo (f : Fn) (a c : Array Value) (w : World) : (binOp .eql 116 (.func f a c) .nilFunc).run Try.prog w = .ok (.bool false) w := run_eql_func_nil w _ f a c Try.underlying116
theorem eqDin (f : Fn) (a c : Array Value) (w : World) : (binOp .eql 38 (.func f a c) .nilFunc).run Try.prog w = .ok (.bool false) w := run_eql_func_nil w _ f a c Try.underlying38

/-- What New answers. -/
def DNews (w : World) (e : Ending) (w' : World) : Prop := ∃ th, e = .returned (.pointer (some ⟨th, 0, none⟩)) ∧ w.heap.size ≤ th ∧ DTreeAt w' th .nil ∧ Below w.heap.size w w'

section
attribute [local go_sem] eqDless eqDone eqDtwo
set_option maxRecDepth 100000 in
set_option maxHeartbeats 1000000 in
theorem Dt.new (w : World) :
    Calls Try.prog 89 #[(.func (.func 15) #[] #[]), (.func (.func 87) #[] #[]), (.func (.func 88) #[] #[])] w (DNews w) := by
  have HN : Hid (∀ W, W = ((w.alloc (.cells #[(.func (.func 87) #[] #[])] 115)).alloc (.cells #[(.func (.func 88) #[] #[])] 116)) →
      DTreeAt (W.alloc (.cells #[(.func (.func 15) #[] #[]), (.func (.func 88) #[] #[]), (.func (.func 122) #[] #[.pointer (some ⟨w.heap.size, 0, none⟩), .pointer (some ⟨w.heap.size + 1, 0, none⟩)]), .pointer none, .int .i64 0] 122)) (w.heap.size + 2) .nil) := hid (by
    rintro W rfl
    have h1 := Cs.alloc_new w 115 [(.func (.func 87) #[] #[])]
    have h2 := Cs.alloc_new (w.alloc (.cells #[(.func (.func 87) #[] #[])] 115)) 116 [(.func (.func 88) #[] #[])]
    have h3 := Cs.alloc_new ((w.alloc (.cells #[(.func (.func 87) #[] #[])] 115)).alloc (.cells #[(.func (.func 88) #[] #[])] 116)) 122 [(.func (.func 15) #[] #[]), (.func (.func 88) #[] #[]), (.func (.func 122) #[] #[.pointer (some ⟨w.heap.size, 0, none⟩), .pointer (some ⟨w.heap.size + 1, 0, none⟩)]), .pointer none, .int .i64 0]
    simp only [World.size_alloc] at h2 h3
    refine ⟨⟨w.heap.size, w.heap.size + 1, h3, (h1.alloc _).alloc _, h2.alloc _, ?_, ?_, ?_, by omega, by omega⟩, trivial, List.nodup_nil⟩
    · simp [go_sem]
    · simp [go_sem]
    · simp [go_sem])
  go_enter Try.func89, Try.ntmps89
  go_wp2_with fail
  go_ret
  exact ⟨w.heap.size + 2, rfl, by omega, HN.out _ rfl, (((Below.refl _ _).alloc (Nat.le_refl _) _).alloc (by simp) _).alloc (by simp; omega) _⟩
end

theorem Dt.len (th : Nat) (t : Tr It) (w : World) (h : DTreeAt w th t) :
    Calls Try.prog 53 #[.pointer (some ⟨th, 0, none⟩)] w (Ans (.int .i64 t.list.length) w) := by
  obtain ⟨_, _, t0, _⟩ := h.1
  have e4 := t0.at4
  clear h t0
  go_enter Try.func53, Try.ntmps53
  go_wp2_with fail
  go_ret
  exact ⟨rfl, Below.refl _ _⟩

/-- A tree into which these were put, one behind the other. -/
inductive Built : List It → Tr It → Prop
  | nil : Built [] .nil
  | put {l : List It} {t : Tr It} {x : It} {k : Nat} : Built l t → Tr.has It.ahead x t = false → Built (l ++ [x]) ((Tr.put It.ahead k x t).paint false)
  | skip {l : List It} {t : Tr It} {x : It} : Built l t → Tr.has It.ahead x t = true → Built (l ++ [x]) t
theorem Built.len {l : List It} {t : Tr It} (h : Built l t) : t.list.length ≤ l.length := by
  induction h with
  | nil => simp [Tr.list]
  | put _ _ ih => rw [Tr.list_paint, Tr.length_put]; simp; omega
  | skip _ _ ih => simp; omega
/-- A tree of one's own, of these. -/
def Gd (w : World) (th : Nat) (t : Tr It) (w' : World) : Prop := DTreeAt w' th t ∧ w.heap.size ≤ th ∧ (∀ g ∈ t.blocks, w.heap.size ≤ g) ∧ Below w.heap.size w w'
theorem Gd.below {w w1 w2 : World} {th : Nat} {t : Tr It} (h : Gd w th t w1) (hb : Below w1.heap.size w1 w2) : Gd w th t w2 := ⟨h.1.below hb, h.2.1, h.2.2.1, below_on h.2.2.2 hb⟩
theorem Gd.ins {w w1 w2 : World} {th : Nat} {t : Tr It} {x : It} {k : Nat} (h : Gd w th t w1) (hk : w1.heap.size ≤ k) (ht : DTreeAt w2 th ((Tr.put It.ahead k x t).paint false)) (hc : Chg (th :: t.blocks) w1 w2) : Gd w th ((Tr.put It.ahead k x t).paint false) w2 :=
  ⟨ht, h.2.1, fun g hg => by
    rw [Tr.blocks_paint] at hg
    rcases List.mem_cons.1 ((Tr.perm_put It.ahead k x t).mem_iff.1 hg) with rfl | h1
    · exact Nat.le_trans h.2.2.2.size hk
    · exact h.2.2.1 g h1, h.2.2.2.trans (hc.toBelow h.2.2.2.size (fun g hg => by
    rcases List.mem_cons.1 hg with rfl | h1
    · exact h.2.1
    · exact h.2.2.1 g h1))⟩
end

/- The tree of items: what a beginning counts. -/
section
open Go.RowKit

/-- What is gathered of a beginning. -/
def foldD (p : It → Bool) : Tr It → Bool × It → Bool × It
  | .nil, acc => acc
  | .node _ _ l x r, acc => if p x then foldD p r (true, if acc.1 then sooner acc.2 (bestL l x) else bestL l x) else foldD p l acc
/-- Fold's variables. -/
def Fv (w : World) (a : It) (w' : World) : Prop := (∃ z : It, Cs w' w.heap.size z.cells) ∧ Cs w' (w.heap.size + 1) a.cells ∧ Below w.heap.size w w'
theorem Fv.below {w w1 w2 : World} {a : It} (h : Fv w a w1) (hb : Below w1.heap.size w1 w2) : Fv w a w2 := ⟨by obtain ⟨z, hz⟩ := h.1; exact ⟨z, hz.below hb⟩, h.2.1.below hb, below_on h.2.2 hb⟩
theorem Fv.store {w w1 : World} {a : It} (h : Fv w a w1) (k : It) : ∀ W, W = w1.setCells (w.heap.size + 1) 0 k.cells → Fv w k W := fun W e => by
  obtain ⟨⟨z, hz⟩, h1, h2⟩ := h
  rw [e]
  exact ⟨⟨z, hz.fars (by omega) _ _⟩, h1.stored k, below_sets (by omega) _ _ h2⟩

theorem Fv.other {w w1 : World} {a : It} (h : Fv w a w1) {b : Nat} (hb : w.heap.size + 1 < b) (k : It) : Fv w a (w1.setCells b 0 k.cells) := by
  obtain ⟨⟨z, hz⟩, h1, h2⟩ := h
  exact ⟨⟨z, hz.fars (by omega) _ _⟩, h1.fars (by omega) _ _, below_sets (by omega) _ _ h2⟩
theorem Cs.lt7 {w : World} {g : Nat} {a : It} (h : Cs w g a.cells) : g < w.heap.size := World.block_lt_of_cell? w _ (h 0 _ rfl).1

section
attribute [local go_sem] eqDin
set_option maxRecDepth 100000 in
set_option maxHeartbeats 8000000 in
theorem Dt.foldAwake (th : Nat) (t : Tr It) (p : It → Bool) (w : World) (h : DTreeAt w th t)
    (hin : ∀ (y : It) (w' : World), y ∈ t.list → y.In → Below w.heap.size w w' → Calls Try.prog 84 #[y.val] w' (Ans (.bool (p y)) w')) :
    Calls Try.prog 91 #[.pointer (some ⟨th, 0, none⟩), (.func (.func 84) #[] #[])] w (Ans (.tuple #[It.val (foldD p t (false, It.zero)).2, .bool (foldD p t (false, It.zero)).1]) w) := by
  have HT := hid h
  have HIN := hid hin
  have HFV0 : Hid (Fv w It.zero ((w.alloc (.cells #[.int .u64 0, .int .u32 0, .int .u32 0, .int .i64 0, .int .u64 0, .int .u32 0, .int .u32 0] 28)).alloc (.cells #[.int .u64 0, .int .u32 0, .int .u32 0, .int .i64 0, .int .u64 0, .int .u32 0, .int .u32 0] 28))) := hid ⟨⟨It.zero, (Cs.new7 w 28 It.zero).alloc _⟩, by have := Cs.new7 (w.alloc (.cells #[.int .u64 0, .int .u32 0, .int .u32 0, .int .i64 0, .int .u64 0, .int .u32 0, .int .u32 0] 28)) 28 It.zero; simp only [World.size_alloc] at this; exact this, ((Below.refl w.heap.size w).alloc (Nat.le_refl _) (.cells #[.int .u64 0, .int .u32 0, .int .u32 0, .int .i64 0, .int .u64 0, .int .u32 0, .int .u32 0] 28)).alloc (by simp) (.cells #[.int .u64 0, .int .u32 0, .int .u32 0, .int .i64 0, .int .u64 0, .int .u32 0, .int .u32 0] 28)⟩
  obtain ⟨b1, b2, t0, t1, t2, _⟩ := HT.out.1
  have HE := hid (And.intro t0 (And.intro t1 t2))
  have e3 := keep1 HFV0.out.2.2 t0.at3
  clear t0 t1 t2 h hin
  go_enter Try.func91, Try.ntmps91
  go_wp2_with fail
  generalize ((w.alloc (.cells #[.int .u64 0, .int .u32 0, .int .u32 0, .int .i64 0, .int .u64 0, .int .u32 0, .int .u32 0] 28)).alloc (.cells #[.int .u64 0, .int .u32 0, .int .u32 0, .int .i64 0, .int .u64 0, .int .u32 0, .int .u32 0] 28)) = W0 at e3 HFV0 ⊢
  go_loopg [7, 8] t.size (fun s b u wr => ∃ (sm : Bool) (acc : It) (v : Tr It), b = .bool sm ∧ u = ptr v ∧ s = v.size ∧ foldD p v (sm, acc) = foldD p t (false, It.zero) ∧ acc.In ∧ DIn w v ∧ (∀ y ∈ v.list, y ∈ t.list) ∧ Fv w acc wr)
  case atStart => exact ⟨false, It.zero, t, rfl, rfl, rfl, rfl, It.zero_in, HT.out.2.1, fun y hy => hy, HFV0.out⟩
  case round =>
    obtain ⟨sm, acc, v, rfl, rfl, hs, hf, ha, hi, hm, hv⟩ := hrel
    have HS := hid hs
    have HF := hid hf
    have HI := hid hi
    have HM := hid hm
    have HFV := hid hv
    have HAI := hid ha
    have HC := hid (And.intro (HE.out.1.below hv.2.2) (And.intro (HE.out.2.1.below hv.2.2) (HE.out.2.2.below hv.2.2)))
    have e1 := HC.out.1.at1
    have e2 := HC.out.1.at2
    clear hs hf hi hm hv ha HFV0
    cases v with
    | nil =>
      simp only [ptr_nil]
      clear e1 e2
      have HF' : Hid (foldD p t (false, It.zero) = (sm, acc)) := hid (by rw [← HF.out]; rfl)
      obtain ⟨p0, p1, p2, p3, p4, p5, p6⟩ := It.at _ HFV.out.2.1
      have hth := there_it HFV.out.1
      have HAN := hid (answer_it (Nat.le_refl _) HFV.out.1 HFV.out.2.2 acc)
      go_wp2_with ((with_reducible refine wpList_put_it 28 infoItem rfl (.tmp 4) (.tmp 53) rfl w.heap.size 0 acc hth ?a1 ?a2 ?a3); (case a1 => rfl); (case a2 => rfl); (intro W2 hW2); (have HW := hid (HAN.out W2 hW2)); (clear hW2 hth p0 p1 p2 p3 p4 p5 p6); (obtain ⟨z0, z1, z2, z3, z4, z5, z6⟩ := HW.out.1))
      refine bodyPost_ret (v := .tuple #[It.val acc, .bool sm]) (by simp [results, Try.results91, go_sem, z0, z1, z2, z3, z4, z5, z6]) rfl ⟨by rw [HF'.out], HW.out.2⟩
    | node g cc l x r =>
      have HI2 := hid (HI.out.below HFV.out.2.2)
      obtain ⟨⟨v', hv', hc⟩, hl, _⟩ := HI2.out
      have HXI := hid hv'.2.2
      have HBI := hid (bestL_in hl hv'.2.2)
      obtain ⟨⟨vw, hvw, hcw⟩, _⟩ := HI.out
      have HC3w := hid hcw.nd3
      obtain ⟨p0, p1, p2, p3, p4, p5, p6⟩ := hc.th
      have c2 := hc.nd2
      clear hc hv' hl hvw hcw
      simp only [ptr_node]
      go_wp2_with fail
      refine (HIN.out x _ (HM.out x (by simp [Tr.list])) HXI.out HFV.out.2.2).mono ?_
      rintro e w1 ⟨rfl, hb1⟩
      have HB1 := hid hb1
      have e2 := keep1 hb1 e2
      have c2 := keep1 hb1 c2
      clear hb1 p0 p1 p2 p3 p4 p5 p6 e1
      cases hx : p x with
      | false =>
        have HX := hid hx
        clear hx e2
        go_wp2_with fail
        go_roundg l.size
        case measure => have := HS.out; simp only [Tr.size] at this; omega
        case rel => exact ⟨sm, acc, l, rfl, rfl, rfl, by rw [← HF.out, foldD, if_neg (by rw [HX.out]; simp)], HAI.out, HI.out.2.1, fun y hy => HM.out y (by simp [Tr.list, hy]), HFV.out.below HB1.out⟩
      | true =>
        have HX := hid hx
        clear hx c2
        go_wp2_with fail
        refine (Dt.upTo g b1 b2 cc l r x _ (HI2.out.st.below HB1.out) (HC.out.2.1.below HB1.out) (HC.out.2.2.below HB1.out)).mono ?_
        rintro e w2' ⟨rfl, hb2⟩
        have hb3 := (below_on HB1.out hb2).alloc (below_on HB1.out hb2).size (.cells #[.int .u64 (bestL l x).t, .int .u32 (bestL l x).r, .int .u32 (bestL l x).v, .int .i64 (bestL l x).i, .int .u64 (bestL l x).u, .int .u32 (bestL l x).s, .int .u32 (bestL l x).y] 28)
        have HB3 := hid hb3
        have HPT0 : Hid (Cs (w2'.alloc (.cells #[.int .u64 (bestL l x).t, .int .u32 (bestL l x).r, .int .u32 (bestL l x).v, .int .i64 (bestL l x).i, .int .u64 (bestL l x).u, .int .u32 (bestL l x).s, .int .u32 (bestL l x).y] 28)) w2'.heap.size (bestL l x).cells) := hid (Cs.new7 _ _ _)
        have HBP : Hid (w.heap.size + 1 < w2'.heap.size) := hid (Nat.lt_of_lt_of_le HFV.out.2.1.lt7 (below_on HB1.out hb2).size)
        clear hb2 hb3 e2
        have HNEW : Hid (∀ k, k = (if sm then sooner acc (bestL l x) else bestL l x) → foldD p r (true, k) = foldD p t (false, It.zero)) := hid (fun k hk => by rw [← HF.out, foldD, if_pos HX.out, hk])
        cases sm with
        | false =>
          have hth := (HFV.out.below HB3.out).2.1.there7
          have HST := hid ((HFV.out.below HB3.out).store (bestL l x))
          go_wp2_with ((with_reducible refine wpList_put_it 28 infoItem rfl (.tmp 6) (.tmp 48) rfl (w.heap.size + 1) 0 (bestL l x) hth ?b1 ?b2 ?b3); (case b1 => rfl); (case b2 => rfl); (intro W2 hW2); (have HW := hid (HST.out W2 hW2)); (clear hW2 hth); (have q3 := keep1 HW.out.2.2 HC3w.out))
          go_roundg r.size
          case measure => have := HS.out; simp only [Tr.size] at this; omega
          case rel => exact ⟨true, bestL l x, r, rfl, rfl, rfl, HNEW.out _ rfl, HBI.out, HI.out.2.2, fun y hy => HM.out y (by simp [Tr.list, hy]), HW.out⟩
        | true =>
          go_wp2_with fail
          generalize hbp : w2'.heap.size = bp at HPT0 HBP ⊢
          generalize (w2'.alloc (.cells #[.int .u64 (bestL l x).t, .int .u32 (bestL l x).r, .int .u32 (bestL l x).v, .int .i64 (bestL l x).i, .int .u64 (bestL l x).u, .int .u32 (bestL l x).s, .int .u32 (bestL l x).y] 28)) = w2 at HB3 HPT0 ⊢
          clear hbp
          have HQJ := hid (keep1 HB3.out HC.out.1.at1)
          have HFV2 := hid (HFV.out.below HB3.out)
          have HPT := hid HPT0.out.th7
          refine wp_region_steady (S := Bl w2) 7 (by kernel_rfl) (Bl.drew w2) ?_
          refine wpAnyU_take (i := 0) (v := ?_) rfl (by kernel_rfl) (by kernel_rfl) (by kernel_rfl) (by kernel_rfl) (fun _ _ _ h => h) (Steady.of_yields (Or.inl ⟨by rfl, ?_⟩)) ?_
          rotate_left
          · intro wq hSw
            go_simp
            (try with_reducible rfl)
          try simp only [List.getElem_toArray, List.getElem_cons_zero, List.getElem_cons_succ, Act.put, List.setIfInBounds_toArray, List.set_cons_zero, List.set_cons_succ]
          refine wpAnyU_take (i := 1) (v := ?_) rfl (by kernel_rfl) (by kernel_rfl) (by kernel_rfl) (by kernel_rfl) (fun _ _ _ h => h) (Steady.of_yields (Or.inl ⟨by rfl, ?_⟩)) ?_
          rotate_left
          · intro wq hSw
            go_simp
            (try with_reducible rfl)
          try simp only [List.getElem_toArray, List.getElem_cons_zero, List.getElem_cons_succ, Act.put, List.setIfInBounds_toArray, List.set_cons_zero, List.set_cons_succ]
          refine wpAnyU_take (i := 2) (v := ?_) rfl (by kernel_rfl) (by kernel_rfl) (by kernel_rfl) (by kernel_rfl) (fun _ _ _ h => h) (Steady.of_yields (Or.inl ⟨by rfl, ?_⟩)) ?_
          rotate_left
          · intro wq hSw
            go_simp
            (try with_reducible rfl)
          try simp only [List.getElem_toArray, List.getElem_cons_zero, List.getElem_cons_succ, Act.put, List.setIfInBounds_toArray, List.set_cons_zero, List.set_cons_succ]
          refine wpAnyU_take (i := 3) (v := ?_) rfl (by kernel_rfl) (by kernel_rfl) (by kernel_rfl) (by kernel_rfl) (fun _ _ _ h => h) (Steady.of_yields (Or.inl ⟨by rfl, ?_⟩)) ?_
          rotate_left
          · intro wq hSw
            have hSB : Below _ _ _ := hSw
            have q1 := keep1 hSB HQJ.out
            obtain ⟨p0, p1, p2, p3, p4, p5, p6⟩ := It.at _ (HFV2.out.2.1.below hSB)
            obtain ⟨m0, m1, m2, m3, m4, m5, m6⟩ := HPT.out.below hSB
            go_simp
            (try with_reducible rfl)
          try simp only [List.getElem_toArray, List.getElem_cons_zero, List.getElem_cons_succ, Act.put, List.setIfInBounds_toArray, List.set_cons_zero, List.set_cons_succ]
          refine wpAnyU_take (i := 4) (v := ?_) rfl (by kernel_rfl) (by kernel_rfl) (by kernel_rfl) (by kernel_rfl) (fun _ _ _ h => h) (Steady.of_yields (Or.inl ⟨by rfl, ?_⟩)) ?_
          rotate_left
          · intro wq hSw
            have hSB : Below _ _ _ := hSw
            have q1 := keep1 hSB HQJ.out
            obtain ⟨p0, p1, p2, p3, p4, p5, p6⟩ := It.at _ (HFV2.out.2.1.below hSB)
            obtain ⟨m0, m1, m2, m3, m4, m5, m6⟩ := HPT.out.below hSB
            go_simp
            (try with_reducible rfl)
          try simp only [List.getElem_toArray, List.getElem_cons_zero, List.getElem_cons_succ, Act.put, List.setIfInBounds_toArray, List.set_cons_zero, List.set_cons_succ]
          refine wpAnyU_take (i := 5) (v := ?_) rfl (by kernel_rfl) (by kernel_rfl) (by kernel_rfl) (by kernel_rfl) (fun _ _ _ h => h) (Steady.of_yields (Or.inl ⟨by rfl, ?_⟩)) ?_
          rotate_left
          · intro wq hSw
            have hSB : Below _ _ _ := hSw
            have q1 := keep1 hSB HQJ.out
            obtain ⟨p0, p1, p2, p3, p4, p5, p6⟩ := It.at _ (HFV2.out.2.1.below hSB)
            obtain ⟨m0, m1, m2, m3, m4, m5, m6⟩ := HPT.out.below hSB
            go_simp
            (try with_reducible rfl)
          try simp only [List.getElem_toArray, List.getElem_cons_zero, List.getElem_cons_succ, Act.put, List.setIfInBounds_toArray, List.set_cons_zero, List.set_cons_succ]
          refine wpAnyU_take (i := 6) (v := It.val (sooner acc (bestL l x))) rfl (by kernel_rfl) (by kernel_rfl) (by kernel_rfl) (by kernel_rfl) (fun _ _ _ h => h) (Or.inl ⟨by rfl, fun wq hSw => ?_⟩) ?_
          · refine SteadyRun.of_calls (Dtree.join acc (bestL l x) HAI.out HBI.out wq) (by go_simp) ?_
            rintro e wr ⟨rfl, hb⟩
            exact ⟨rfl, hSw.on hb⟩
          try simp only [List.getElem_toArray, List.getElem_cons_zero, List.getElem_cons_succ, Act.put, List.setIfInBounds_toArray, List.set_cons_zero, List.set_cons_succ]
          refine wpAnyU_last rfl rfl (by kernel_rfl) (fun wz hSz => ?_)
          have hth9 := (HPT0.out.below hSz).there7
          have HAN9 : Hid (∀ W, W = wz.setCells bp 0 (sooner acc (bestL l x)).cells → Cs W bp (sooner acc (bestL l x)).cells ∧ Fv w acc W) := hid (fun W e => by rw [e]; exact ⟨(HPT0.out.below hSz).stored _, (HFV2.out.below hSz).other HBP.out _⟩)
          clear hSz
          go_wp2_with (first | ((with_reducible refine wpList_put_it 28 infoItem rfl (.tmp 9) (.tmp 47) rfl bp 0 (sooner acc (bestL l x)) hth9 ?c1 ?c2 ?c3); (case c1 => rfl); (case c2 => rfl); (intro W2 hW2); (have HW := hid (HAN9.out W2 hW2)); (clear hW2 hth9); (obtain ⟨p0, p1, p2, p3, p4, p5, p6⟩ := It.at _ HW.out.1); (have hth := HW.out.2.2.1.there7); (have HST := hid (HW.out.2.store (sooner acc (bestL l x))))) | (with_reducible refine wpList_put_it 28 infoItem rfl (.tmp 6) (.tmp 48) rfl (w.heap.size + 1) 0 (sooner acc (bestL l x)) hth ?d1 ?d2 ?d3); (case d1 => rfl); (case d2 => rfl); (intro W3 hW3); (have HY := hid (HST.out W3 hW3)); (clear hW3 hth p0 p1 p2 p3 p4 p5 p6); (have q3 := keep1 HY.out.2.2 HC3w.out))
          go_roundg r.size
          case measure => have := HS.out; simp only [Tr.size] at this; omega
          case rel => exact ⟨true, sooner acc (bestL l x), r, rfl, rfl, rfl, HNEW.out _ rfl, sooner_in HAI.out HBI.out, HI.out.2.2, fun y hy => HM.out y (by simp [Tr.list, hy]), HY.out⟩

end
end

end Go.Proofs.Ytmklbmiddeonkaa

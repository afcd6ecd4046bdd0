/- Texts of MeanSums's proof, together. -/
import Derived.Test.YtklaghleghncoaaGreatDoorMeanSumsZ26
import Derived.Test.YtklaghleghncoaaGreatDoorMeanSumsZ32
import Derived.Test.YtklaghleghncoaaGreatDoorPsR
namespace Go.Proofs.YtklaghleghncoaaGreatDoor
/- MeanSums: what its walk needs: means compared, positions cloned. -/
section
open Go.RowKit
def SMQ (w : World) (m : Mu) (s1 : Bool) (A1 : Option Addr) (n1 c1 : Nat) (W : World) : Prop :=
  ((Cs W w.heap.size m.cells ∧ Cs W (w.heap.size + 1) (rmC m (s1, A1, n1, c1))) ∧ IsB W 18 s1 A1 n1 c1 m.a) ∧ Below w.heap.size w W
theorem SMQ.new (w : World) (m : Mu) (s1 : Bool) (A1 : Option Addr) (n1 c1 : Nat) (hB : IsB w 18 s1 A1 n1 c1 m.a) : SMQ w m s1 A1 n1 c1 ((w.alloc (.cells #[.int .u64 m.b, .int .i64 (hiW m.a), .int .u64 (loW m.a), .int .u64 m.w, .int .i64 m.n] 36)).alloc (.cells #[.int .u64 m.b, .bool s1, .slice A1 n1 c1, .int .u64 m.w, .int .i64 m.n] 43)) := by
  have h2 := Cs.alloc_new6 (w.alloc (.cells #[.int .u64 m.b, .int .i64 (hiW m.a), .int .u64 (loW m.a), .int .u64 m.w, .int .i64 m.n] 36)) 43 (rmC m (s1, A1, n1, c1))
  simp only [World.size_alloc] at h2
  exact ⟨⟨⟨(Cs.alloc_new6 w 36 m.cells).alloc _, h2⟩, (hB.alloc _).alloc _⟩, ((Below.refl w.heap.size w).alloc (Nat.le_refl _) _).alloc (by simp) _⟩
set_option maxRecDepth 100000 in
set_option maxHeartbeats 4000000 in
theorem Law8.same (m : Mu) (s1 : Bool) (A1 : Option Addr) (n1 c1 : Nat) (hm : m.In) (w : World) (hB : IsB w 18 s1 A1 n1 c1 m.a) : Calls Tryz.prog 11 #[m.val, rmV m (s1, A1, n1, c1)] w (Ans (.bool true) w) := by
  have HM := hid hm
  have HQ0 := hid (SMQ.new w m s1 A1 n1 c1 hB)
  clear hm hB
  unfold Mu.val rmV
  go_enter Tryz.func11, Tryz.ntmps11
  go_upto_region 1 with fail
  generalize ((w.alloc (.cells #[.int .u64 m.b, .int .i64 (hiW m.a), .int .u64 (loW m.a), .int .u64 m.w, .int .i64 m.n] 36)).alloc (.cells #[.int .u64 m.b, .bool s1, .slice A1 n1 c1, .int .u64 m.w, .int .i64 m.n] 43)) = W0 at HQ0 ⊢
  obtain ⟨m0, m1, m2, m3, m4⟩ := Mu.at m HQ0.out.1.1.1
  obtain ⟨k0, k1, k2, k3, k4⟩ := rm_at HQ0.out.1.1.2
  go_wp2_with fail
  clear m0 m1 m2 m3 m4 k0 k1 k2 k3 k4
  refine (Law.same 18 (by decide) (hiW m.a) (loW m.a) m.a (isW_of HM.out.2.1) s1 A1 n1 c1 m.a _ HQ0.out.1.2 true ⟨fun _ => rfl, fun _ => rfl⟩).mono ?_
  rintro e w1 ⟨rfl, hb⟩
  have HB1 := hid (below_on HQ0.out.2 hb)
  clear hb HQ0
  go_wp2_with fail
  go_ret
  exact ⟨rfl, HB1.out⟩
theorem infoPos3 : ∃ i0, Tryz.prog.info? 29 = some i0 ∧ i0.zero = some (.agg #[.int .u64 0, .int .u32 0, .int .u32 0]) ∧ i0.size = 3 ∧ i0.bytes = 16 := by
  have hq : (Tryz.prog.info? 29).map (fun i => (i.zero, i.size, i.bytes)) = some (some (.agg #[.int .u64 0, .int .u32 0, .int .u32 0]), 3, 16) := by kernel_rfl
  cases hi : Tryz.prog.info? 29 with
  | none => rw [hi] at hq; cases hq
  | some i0 =>
    rw [hi] at hq
    simp at hq
    exact ⟨i0, rfl, hq.1, hq.2.1, hq.2.2⟩
theorem flatP_one (l : List P3) : ∀ u ∈ l.flatMap cellsP, u.oneCell' = true := by
  intro u hu
  obtain ⟨x, _, hx⟩ := List.mem_flatMap.1 hu
  simp [cellsP] at hx
  rcases hx with rfl | rfl | rfl <;> rfl
/-- append of positions that are read, one at least. -/
theorem wpList_append_poss {ops : Array Oper} {o : Oper} {a : Act} {rest : List Oper} {Q : Exit → Act → World → Prop} (w : World) (hgd : o.guard = none) (s x : Operand)
    (ho : o.op = .call { callee := .builtin .append, args := #[s, x], argTypes := #[23, 23] })
    (base : Nat) (A : Option Addr) (n c : Nat) (l : List P3) (hs : a.eval s = .slice A n c) (hown : OwnP w base A n c l) (B : Option Addr) (m d : Nat) (k : List P3) (hx : a.eval x = .slice B m d)
    (hr : RdP w B m k) (hm : 0 < m) (hn : n + m ≤ 1000000) (hbase : base ≤ w.heap.size)
    (h : ∀ A' c' w', OwnP w' base A' (n + m) c' (l ++ k) → Chg (rowOf A) w w' → (∀ q ∈ rowOf A', q ∈ rowOf A ∨ w.heap.size ≤ q) → wpList Tryz.prog ops Q rest (a.put o.dst (.slice A' (n + m) c')) w') : wpList Tryz.prog ops Q (o :: rest) a w := by
  obtain ⟨i0, hi, hz0, hz1, hz2⟩ := infoPos3
  obtain ⟨b, off, rfl, _, hc⟩ := hr.2 0 hm
  have hlen := hr.1
  refine wpList_append_lies w hgd s x 23 ho base 29 i0 (.agg #[.int .u64 0, .int .u32 0, .int .u32 0]) 3 16 Tryz.underlying23 hi hz0 hz1 hz2 rfl (by decide) (.slice A n c) n (l.flatMap cellsP) hs hown
    ⟨b, off, none⟩ m d (k.flatMap cellsP) hx (by rw [flatP_length, hlen]) ?_ (flatP_one k) hm (by unfold maxLen; omega) (by omega) hbase _ rfl ?_
  · intro j u hj
    have hadd : (⟨b, off, none⟩ : Addr).add j = ⟨b, off + j, none⟩ := by unfold Addr.add; split <;> simp_all
    rw [hadd]
    have hjl : j < k.length * 3 := by
      rcases Nat.lt_or_ge j (k.flatMap cellsP).length with h1 | h1
      · rwa [flatP_length] at h1
      · rw [List.getElem?_eq_none h1] at hj; cases hj
    have e : j = j / 3 * 3 + j % 3 := by omega
    rw [e, flatP_get k (j / 3) (j % 3) (by omega) (by omega)] at hj
    obtain ⟨c0, c1, c2⟩ := hc (j / 3) (by omega)
    have h3 : j % 3 = 0 ∨ j % 3 = 1 ∨ j % 3 = 2 := by omega
    rw [e, ← Nat.add_assoc, ← hj]
    rcases h3 with h3 | h3 | h3 <;> rw [h3]
    · exact c0
    · exact c1
    · exact c2
  · intro g cap w' h2 h3 h4 _
    refine h _ _ w' (by unfold OwnP; simpa using h2) (Chg.grown h3) (fun q hq => ?_)
    simp [rowOf] at hq
    subst hq
    rcases h4 with h4 | h4
    · exact Or.inl (row_own h4)
    · right; omega
theorem OwnP.empty (w : World) {base : Nat} (hb : base ≤ w.heap.size) : OwnP (w.alloc (.cells #[] 29)) base (some ⟨w.heap.size, 0, none⟩) 0 0 [] := by
  have h := World.ownsRow_lit (base := base) (e := 29) (size := 3) w #[] 0 hb (by decide) (by decide)
  simpa [OwnP] using h
set_option maxRecDepth 100000 in
set_option maxHeartbeats 4000000 in
/-- Clone, of some. -/
theorem Sls.cloneP (A : Option Addr) (n c : Nat) (l : List P3) (w : World) (hr : RdP w A n l) (h0 : 0 < n) (hn : n ≤ 1000000) :
    Calls Tryz.prog 12 #[.slice A n c] w fun e w' => ∃ (A' : Option Addr) (c' : Nat), e = .returned (.slice A' n c') ∧ OwnP w' w.heap.size A' n c' l ∧ Below w.heap.size w w' := by
  obtain ⟨b, off, rfl, _, _⟩ := hr.2 0 h0
  have HR := hid hr
  clear hr
  have HO := hid (OwnP.empty w (base := w.heap.size) (Nat.le_refl _))
  have HB := hid ((Below.refl w.heap.size w).alloc (Nat.le_refl _) (.cells #[] 29))
  have hRD := HR.out.below HB.out
  have hO0 := HO.out
  have hbs := HB.out.size
  have hn0 : 0 + n ≤ 1000000 := by omega
  have hbin : ∀ w : World, (binOp BinOp.eql 23 (.slice (some ⟨b, off, none⟩) n c) (.slice none 0 0)).run Tryz.prog w = .ok (.bool false) w := fun w => by kernel_rfl
  go_enter Tryz.func12, Tryz.ntmps12
  go_wp2_with (first
    | (at_builtin; (with_reducible refine wpList_append_poss _ rfl (.tmp 5) (.tmp 6) rfl w.heap.size (some ⟨w.heap.size, 0, none⟩) 0 0 [] ?ca1 hO0 (some ⟨b, off, none⟩) n c l ?ca2 hRD h0 hn0 hbs ?ca3); (case ca1 => rfl); (case ca2 => rfl); (intro A3 c3 w3 ho3 hc3 hr3); (have HO3 := hid ho3); (have HB3 := hid (Below.chg HB.out hc3 (fun q hq => (hO0.rowGe q hq).1))); (clear ho3 hc3 hr3 hO0 hRD hbs))
    | fail)
  go_ret
  exact ⟨A3, c3, rfl, by simpa using HO3.out, HB3.out⟩
end

/- Positions turned round. -/
section
open Go.RowKit
theorem there_belowP {w w' : World} {b o n : Nat} (h : w.there b o n) (hb : Below w.heap.size w w') : w'.there b o n := fun j hj => by
  obtain ⟨h1, h2⟩ := h j hj
  obtain ⟨v, hv⟩ := Option.isSome_iff_exists.1 h1
  have := keep1 hb hv
  exact ⟨by rw [this]; rfl, (hb.frozen (p := ⟨b, o + j, none⟩) (World.block_lt_of_cell? w _ hv)).trans h2⟩
theorem rng3 {w : World} {b o : Nat} {x : P3} (h : w.cell? ⟨b, o, none⟩ = some (.int .u64 x.1) ∧ w.cell? ⟨b, o + 1, none⟩ = some (.int .u32 x.2.1) ∧ w.cell? ⟨b, o + 2, none⟩ = some (.int .u32 x.2.2)) : w.rangeAt b o (pcells x) := fun j v hj => by
  obtain ⟨c0, c1, c2⟩ := h
  match j, hj with
  | 0, hj | 1, hj | 2, hj => simp [pcells] at hj; subst hj; first | exact c0 | exact c1 | exact c2
  | n + 3, hj => simp [pcells] at hj
theorem of_rng3 {w : World} {b o : Nat} {x : P3} (h : w.rangeAt b o (pcells x)) : w.cell? ⟨b, o, none⟩ = some (.int .u64 x.1) ∧ w.cell? ⟨b, o + 1, none⟩ = some (.int .u32 x.2.1) ∧ w.cell? ⟨b, o + 2, none⟩ = some (.int .u32 x.2.2) :=
  ⟨h 0 _ rfl, h 1 _ rfl, h 2 _ rfl⟩
/-- A row of positions that may be stored over. -/
def Rv (base : Nat) (w : World) (b off n : Nat) (L : List P3) (wr : World) : Prop :=
  RdP wr (some ⟨b, off, none⟩) n L ∧ (∀ j, j < n → wr.there b (off + j * 3) 3) ∧ base ≤ wr.heap.size ∧ Below base w wr
theorem Rv.below {base : Nat} {w w1 w2 : World} {b off n : Nat} {L : List P3} (h : Rv base w b off n L w1) (hb : Below w1.heap.size w1 w2) : Rv base w b off n L w2 :=
  ⟨h.1.below hb, fun j hj => there_belowP (h.2.1 j hj) hb, Nat.le_trans h.2.2.1 hb.size, h.2.2.2.trans (hb.mono h.2.2.1)⟩
theorem Rv.put {base : Nat} {w w1 : World} {b off n k : Nat} {L : List P3} (h : Rv base w b off n L w1) (hk : k < n) (x : P3) (hbase : base ≤ b) : ∀ W, W = w1.setCells b (off + k * 3) (pcells x) → Rv base w b off n (L.set k x) W := fun W e => by
  obtain ⟨h1, ht, h5, h4⟩ := h
  subst e
  have hlen := h1.1
  refine ⟨⟨by rw [List.length_set]; exact hlen, fun i hi => ?_⟩, fun j hj => World.there_setCells (ht j hj) _ _ _, Nat.le_trans h5 (below_sets (B := 0) (b := b) (w0 := w1) (Nat.zero_le _) (pcells x) (off + k * 3) (w := w1) (Below.refl 0 w1)).size, below_sets hbase _ _ h4⟩
  obtain ⟨b', off', e', hb', hc⟩ := h1.2 i hi
  injection e' with e'
  injection e' with e1 e2
  subst e1 e2
  refine ⟨b, off, rfl, Nat.lt_of_lt_of_le hb' (below_sets (B := 0) (b := b) (w0 := w1) (Nat.zero_le _) (pcells x) (off + k * 3) (w := w1) (Below.refl 0 w1)).size, fun j hj => ?_⟩
  by_cases hjk : j = k
  · subst hjk
    have e : (L.set j x).getD j (0, 0, 0) = x := by simp [List.getD, hlen, hj]
    rw [e]
    exact of_rng3 (World.rangeAt_setCells_same w1 b _ (pcells x) (ht j hj))
  · have e : (L.set k x).getD j (0, 0, 0) = L.getD j (0, 0, 0) := by simp [List.getD, List.getElem?_set_ne (Ne.symm hjk)]
    rw [e]
    refine of_rng3 (World.rangeAt_setCells_apart (rng3 (hc j hj)) b _ (pcells x) (Or.inr ?_))
    show off + j * 3 + 3 ≤ off + k * 3 ∨ off + k * 3 + 3 ≤ off + j * 3
    omega
theorem Rv.size {base : Nat} {w w1 : World} {b off n : Nat} {L : List P3} (h : Rv base w b off n L w1) (h0 : 0 < n) : b < w1.heap.size := by
  obtain ⟨b', off', e', hb', _⟩ := h.1.2 0 h0
  injection e' with e'
  injection e' with e1 e2
  subst e1
  exact hb'
section
variable {P : Program} {ops : Array Oper} {Q : Exit → Act → World → Prop} {md : Region.Mode} {S S0 : World → Prop}
/-- One that comes up alone and only reads: what is known stays. -/
theorem wpAnyE_pure {n i : Nat} {oi : Oper} {v : Value} {fuel : Nat} {listed : Array Bool} {a : Act} (hi : ops[i]? = some oi) (hr : Region.ready md ops listed = [i]) (hin : i < n) (hw : Region.wanted oi (yielded ops a.tmps) = true)
    (hst : Stays S) (hs0 : ∀ w, S w → S0 w) (hrun : ∀ w, S w → (execOp a.eval oi).run P w = .ok (.value v) w)
    (h : wpAnyE P md ops Q S0 n fuel S (listed.setIfInBounds i true) (a.put oi.dst v)) : wpAnyE P md ops Q S0 n (fuel + 1) S listed a :=
  wpAnyE_one hi hr hin hw (fun w hS K hK => by
    unfold Oper.wp
    rw [hrun w hS]
    exact hK.out _ _ S hs0 hst hS h)
/-- Two that come up together and only read. -/
theorem wpAnyE_fork {n i j : Nat} {oi oj : Oper} {vi vj : Value} {fuel : Nat} {listed : Array Bool} {a : Act} (hi : ops[i]? = some oi) (hj : ops[j]? = some oj) (hr : Region.ready md ops listed = [i, j]) (hin : i < n) (hjn : j < n)
    (hwi : Region.wanted oi (yielded ops a.tmps) = true) (hwj : Region.wanted oj (yielded ops a.tmps) = true) (hst : Stays S) (hs0 : ∀ w, S w → S0 w)
    (hruni : ∀ w, S w → (execOp a.eval oi).run P w = .ok (.value vi) w) (hrunj : ∀ w, S w → (execOp a.eval oj).run P w = .ok (.value vj) w)
    (h1 : wpAnyE P md ops Q S0 n fuel S (listed.setIfInBounds i true) (a.put oi.dst vi)) (h2 : wpAnyE P md ops Q S0 n fuel S (listed.setIfInBounds j true) (a.put oj.dst vj)) : wpAnyE P md ops Q S0 n (fuel + 1) S listed a := by
  refine ⟨fun h0 => (by rw [hr] at h0; cases h0), fun x hx w hS => ?_⟩
  rw [hr] at hx
  have hx' : x = i ∨ x = j := by simpa using hx
  rcases hx' with rfl | rfl
  · unfold wpOp
    simp only [hi, hwi, if_true]
    left
    unfold Oper.wp
    rw [hruni w hS]
    simp only [Oper.upon]
    rw [if_neg (by omega)]
    exact ⟨S, hs0, hst, hS, h1⟩
  · unfold wpOp
    simp only [hj, hwj, if_true]
    left
    unfold Oper.wp
    rw [hrunj w hS]
    simp only [Oper.upon]
    rw [if_neg (by omega)]
    exact ⟨S, hs0, hst, hS, h2⟩
/-- A part of a row is stored. -/
theorem wpAnyE_row {n i m : Nat} {oi : Oper} {fuel : Nat} {listed : Array Bool} {a : Act} {S' : World → Prop} (T : TypeId) (vs : List Value) (b o : Nat) (hT : (P.info? T).map (·.size) = some m) (x y : Operand) (ho : oi.op = .store T x y)
    (hi : ops[i]? = some oi) (hr : Region.ready md ops listed = [i]) (hin : i < n) (hw : Region.wanted oi (yielded ops a.tmps) = true)
    (hn : vs.length = m) (h1 : vs.all (·.oneCell') = true) (hx : a.eval x = .pointer (some ⟨b, o, none⟩)) (hy : a.eval y = .agg vs.toArray)
    (ht : ∀ w, S w → w.there b o m) (hS : ∀ w, S w → S' (w.setCells b o vs)) (hsub : ∀ w, S' w → S0 w) (hst : Stays S')
    (h : wpAnyE P md ops Q S0 n fuel S' (listed.setIfInBounds i true) (a.put oi.dst undef)) : wpAnyE P md ops Q S0 n (fuel + 1) S listed a :=
  wpAnyE_one hi hr hin hw (fun w hSw K hK => wp_store_mid T x y ho b o vs.toArray hx hy (by have := ht w hSw; rw [← hn] at this; simpa using this) (by rw [hT, ← hn]; simp) (by simpa using h1) (hK.out _ _ S' hsub hst (hS _ hSw) h))
end
/-- The list on the way. -/
def RevAt (l : List P3) (n k : Nat) (L : List P3) : Prop := L.length = n ∧ ∀ p, p < n → L.getD p (0, 0, 0) = if p < k ∨ n - 1 - k < p then l.getD (n - 1 - p) (0, 0, 0) else l.getD p (0, 0, 0)
theorem getD_set_if {L : List P3} {a p : Nat} {x : P3} (ha : a < L.length) : (L.set a x).getD p (0, 0, 0) = if p = a then x else L.getD p (0, 0, 0) := by
  by_cases h : p = a
  · subst h; simp [List.getD, ha]
  · rw [if_neg h]; simp [List.getD, List.getElem?_set_ne (Ne.symm h)]
theorem RevAt.step {l L : List P3} {n k q : Nat} (h : RevAt l n k L) (hkq : k < q) (hn : k + q + 1 = n) : RevAt l n (k + 1) ((L.set k (L.getD q (0, 0, 0))).set q (L.getD k (0, 0, 0))) := by
  obtain ⟨hl, hg⟩ := h
  refine ⟨by simp [hl], fun p hp => ?_⟩
  rw [getD_set_if (by simp; omega), getD_set_if (by omega)]
  have gq := hg q (by omega)
  have gk := hg k (by omega)
  have gp := hg p hp
  rw [if_neg (by omega)] at gq gk
  by_cases h1 : p = q
  · subst h1
    rw [if_pos rfl, if_pos (by omega), gk]
    congr 1; omega
  · rw [if_neg h1]
    by_cases h2 : p = k
    · subst h2
      rw [if_pos rfl, if_pos (by omega), gq]
      congr 1; omega
    · rw [if_neg h2, gp]
      by_cases h3 : p < k ∨ n - 1 - k < p
      · rw [if_pos h3, if_pos (by omega)]
      · rw [if_neg h3, if_neg (by omega)]
theorem RevAt.last {l L : List P3} {n k q : Nat} (h : RevAt l n k L) (hl : l.length = n) (hkq : ¬ k < q) (hn : k + q + 1 = n) : L = l.reverse := by
  obtain ⟨hL, hg⟩ := h
  refine List.ext_getElem (by simp [hL, hl]) (fun p h1 h2 => ?_)
  have g := hg p (by omega)
  rw [List.getElem_reverse]
  have e1 : L.getD p (0, 0, 0) = L[p] := by simp [List.getD, h1]
  have e2 : l.getD (n - 1 - p) (0, 0, 0) = l[l.length - 1 - p]'(by omega) := by
    have : n - 1 - p < l.length := by omega
    rw [List.getD_eq_getElem?_getD, List.getElem?_eq_getElem this]; simp [hl]
  rw [← e1, g, ← e2]
  by_cases h3 : p < k ∨ n - 1 - k < p
  · rw [if_pos h3]
  · rw [if_neg h3]; congr 1; omega
theorem RevAt.zero (l : List P3) : RevAt l l.length 0 l := ⟨rfl, fun p hp => by rw [if_neg (by omega)]⟩
set_option maxRecDepth 100000 in
set_option maxHeartbeats 8000000 in
theorem Sls.reverseP (b off n c : Nat) (l : List P3) (base : Nat) (hbase : base ≤ b) (w : World) (hr : RdP w (some ⟨b, off, none⟩) n l) (ht : ∀ j, j < n → w.there b (off + j * 3) 3) (h0 : 0 < n) (hn : n ≤ 1000000) :
    Calls Tryz.prog 13 #[.slice (some ⟨b, off, none⟩) n c] w fun e w' => e = .returned (.tuple #[]) ∧ RdP w' (some ⟨b, off, none⟩) n l.reverse ∧ Below base w w' := by
  have HV0 := hid (show Rv base w b off n l w from ⟨hr, ht, by obtain ⟨b', off', e', hb', _⟩ := hr.2 0 h0; cases e'; omega, Below.refl _ _⟩)
  have HLN := hid hr.1
  have e0 : IntKind.i64.wrap ((n : Int) - 1) = ((n - 1 : Nat) : Int) := by rw [IntKind.wrap_i64]; omega
  clear hr ht
  go_enter Tryz.func13, Tryz.ntmps13
  go_wp2_with fail
  go_loopg [2, 3] n (fun s i j wr => ∃ (k q : Nat) (L : List P3), i = .int .i64 k ∧ j = .int .i64 q ∧ k + q + 1 = n ∧ s = n - k ∧ RevAt l n k L ∧ Rv base w b off n L wr)
  case atStart => exact ⟨0, n - 1, l, rfl, rfl, by omega, by omega, by have := RevAt.zero l; rwa [HLN.out] at this, HV0.out⟩
  case round =>
    obtain ⟨k, q, L, rfl, rfl, hkn, hs, hrv, hv⟩ := hrel
    have HS := hid hs
    have HRV := hid hrv
    have HV := hid hv
    clear hs hrv hv HV0
    by_cases hkq : k < q
    · have hk1 : k < n := by omega
      have hq1 : q < n := by omega
      have hki : (k : Int) < (q : Int) := by omega
      have hk0 : (0 : Int) ≤ (k : Int) := by omega
      have hq0 : (0 : Int) ≤ (q : Int) := by omega
      have hkni : (k : Int) < (n : Int) := by omega
      have hqni : (q : Int) < (n : Int) := by omega
      have hbz := HV.out.size h0
      have HST := hid (HRV.out.step hkq hkn)
      have HXK : Hid (∀ wx, RdP wx (some ⟨b, off, none⟩) n L → wx.cell? ⟨b, off + k * 3, none⟩ = some (.int .u64 (L.getD k (0, 0, 0)).1) ∧ wx.cell? ⟨b, off + k * 3 + 1, none⟩ = some (.int .u32 (L.getD k (0, 0, 0)).2.1) ∧ wx.cell? ⟨b, off + k * 3 + 2, none⟩ = some (.int .u32 (L.getD k (0, 0, 0)).2.2)) := hid (fun wx h => by
        obtain ⟨b', off', e', _, hc⟩ := h.2 0 h0
        cases e'
        exact hc k hk1)
      have HYQ : Hid (∀ wx, RdP wx (some ⟨b, off, none⟩) n L → wx.cell? ⟨b, off + q * 3, none⟩ = some (.int .u64 (L.getD q (0, 0, 0)).1) ∧ wx.cell? ⟨b, off + q * 3 + 1, none⟩ = some (.int .u32 (L.getD q (0, 0, 0)).2.1) ∧ wx.cell? ⟨b, off + q * 3 + 2, none⟩ = some (.int .u32 (L.getD q (0, 0, 0)).2.2)) := hid (fun wx h => by
        obtain ⟨b', off', e', _, hc⟩ := h.2 0 h0
        cases e'
        exact hc q hq1)
      have e1 : IntKind.i64.wrap ((k : Int) + 1) = ((k + 1 : Nat) : Int) := by rw [IntKind.wrap_i64]; omega
      have e2 : IntKind.i64.wrap ((q : Int) - 1) = ((q - 1 : Nat) : Int) := by rw [IntKind.wrap_i64]; omega
      generalize L.getD k (0, 0, 0) = x at *
      generalize L.getD q (0, 0, 0) = y at *
      go_wp2_with fail
      have hsR : Stays (fun wx => Rv base w b off n L wx) := fun _ _ h hb => Rv.below h hb
      have hsR1 : Stays (fun wx => Rv base w b off n (L.set k y) wx) := fun _ _ h hb => Rv.below h hb
      have hsR2 : Stays (fun wx => Rv base w b off n ((L.set k y).set q x) wx) := fun _ _ h hb => Rv.below h hb
      refine wp_region_any (by kernel_rfl) (wpAny_of_E (S0 := fun _ => True) (n := 16) _ (fun wx => Rv base w b off n L wx) _ _ _ (HV.out.below (Below.refl _ _).drew) ?_)
      refine wpAnyE_take (i := 0) (v := ?_) hsR (fun _ _ => trivial) rfl (by kernel_rfl) (by kernel_rfl) (by kernel_rfl) (by kernel_rfl) (fun _ _ _ h => h) (SteadyB.of_yields (Or.inl ⟨by rfl, ?_⟩)) ?_
      rotate_left
      · intro wq hSw
        go_simp
        (try with_reducible rfl)
      try simp only [List.getElem_toArray, List.getElem_cons_zero, List.getElem_cons_succ, Act.put, List.setIfInBounds_toArray, List.set_cons_zero, List.set_cons_succ]
      refine wpAnyE_take (i := 1) (v := ?_) hsR (fun _ _ => trivial) rfl (by kernel_rfl) (by kernel_rfl) (by kernel_rfl) (by kernel_rfl) (fun _ _ _ h => h) (SteadyB.of_yields (Or.inl ⟨by rfl, ?_⟩)) ?_
      rotate_left
      · intro wq hSw
        go_simp
        (try with_reducible rfl)
      try simp only [List.getElem_toArray, List.getElem_cons_zero, List.getElem_cons_succ, Act.put, List.setIfInBounds_toArray, List.set_cons_zero, List.set_cons_succ]
      refine wpAnyE_take (i := 2) (v := ?_) hsR (fun _ _ => trivial) rfl (by kernel_rfl) (by kernel_rfl) (by kernel_rfl) (by kernel_rfl) (fun _ _ _ h => h) (SteadyB.of_yields (Or.inl ⟨by rfl, ?_⟩)) ?_
      rotate_left
      · intro wq hSw
        go_simp
        (try with_reducible rfl)
      try simp only [List.getElem_toArray, List.getElem_cons_zero, List.getElem_cons_succ, Act.put, List.setIfInBounds_toArray, List.set_cons_zero, List.set_cons_succ]
      refine wpAnyE_take (i := 3) (v := ?_) hsR (fun _ _ => trivial) rfl (by kernel_rfl) (by kernel_rfl) (by kernel_rfl) (by kernel_rfl) (fun _ _ _ h => h) (SteadyB.of_yields (Or.inl ⟨by rfl, ?_⟩)) ?_
      rotate_left
      · intro wq hSw
        go_simp
        (try with_reducible rfl)
      try simp only [List.getElem_toArray, List.getElem_cons_zero, List.getElem_cons_succ, Act.put, List.setIfInBounds_toArray, List.set_cons_zero, List.set_cons_succ]
      refine wpAnyE_take (i := 4) (v := ?_) hsR (fun _ _ => trivial) rfl (by kernel_rfl) (by kernel_rfl) (by kernel_rfl) (by kernel_rfl) (fun _ _ _ h => h) (SteadyB.of_yields (Or.inl ⟨by rfl, ?_⟩)) ?_
      rotate_left
      · intro wq hSw
        go_simp
        (try with_reducible rfl)
      try simp only [List.getElem_toArray, List.getElem_cons_zero, List.getElem_cons_succ, Act.put, List.setIfInBounds_toArray, List.set_cons_zero, List.set_cons_succ]
      refine wpAnyE_take (i := 5) (v := ?_) hsR (fun _ _ => trivial) rfl (by kernel_rfl) (by kernel_rfl) (by kernel_rfl) (by kernel_rfl) (fun _ _ _ h => h) (SteadyB.of_yields (Or.inl ⟨by rfl, ?_⟩)) ?_
      rotate_left
      · intro wq hSw
        go_simp
        (try with_reducible rfl)
      try simp only [List.getElem_toArray, List.getElem_cons_zero, List.getElem_cons_succ, Act.put, List.setIfInBounds_toArray, List.set_cons_zero, List.set_cons_succ]
      refine wpAnyE_take (i := 8) (v := ?_) hsR (fun _ _ => trivial) rfl (by kernel_rfl) (by kernel_rfl) (by kernel_rfl) (by kernel_rfl) (fun _ _ _ h => h) (SteadyB.of_yields (Or.inl ⟨by rfl, ?_⟩)) ?_
      rotate_left
      · intro wq hSw
        go_simp
        (try with_reducible rfl)
      try simp only [List.getElem_toArray, List.getElem_cons_zero, List.getElem_cons_succ, Act.put, List.setIfInBounds_toArray, List.set_cons_zero, List.set_cons_succ]
      refine wpAnyE_take (i := 9) (v := ?_) hsR (fun _ _ => trivial) rfl (by kernel_rfl) (by kernel_rfl) (by kernel_rfl) (by kernel_rfl) (fun _ _ _ h => h) (SteadyB.of_yields (Or.inl ⟨by rfl, ?_⟩)) ?_
      rotate_left
      · intro wq hSw
        go_simp
        (try with_reducible rfl)
      try simp only [List.getElem_toArray, List.getElem_cons_zero, List.getElem_cons_succ, Act.put, List.setIfInBounds_toArray, List.set_cons_zero, List.set_cons_succ]
      refine wpAnyE_take (i := 6) (v := ?_) hsR (fun _ _ => trivial) rfl (by kernel_rfl) (by kernel_rfl) (by kernel_rfl) (by kernel_rfl) (fun _ _ _ h => h) (SteadyB.of_yields (Or.inl ⟨by rfl, ?_⟩)) ?_
      rotate_left
      · intro wq hSw
        go_simp
        (try with_reducible rfl)
      try simp only [List.getElem_toArray, List.getElem_cons_zero, List.getElem_cons_succ, Act.put, List.setIfInBounds_toArray, List.set_cons_zero, List.set_cons_succ]
      refine wpAnyE_take (i := 10) (v := ?_) hsR (fun _ _ => trivial) rfl (by kernel_rfl) (by kernel_rfl) (by kernel_rfl) (by kernel_rfl) (fun _ _ _ h => h) (SteadyB.of_yields (Or.inl ⟨by rfl, ?_⟩)) ?_
      rotate_left
      · intro wq hSw
        go_simp
        (try with_reducible rfl)
      try simp only [List.getElem_toArray, List.getElem_cons_zero, List.getElem_cons_succ, Act.put, List.setIfInBounds_toArray, List.set_cons_zero, List.set_cons_succ]
      refine wpAnyE_fork (i := 7) (j := 11) (vi := .agg #[.int .u64 y.1, .int .u32 y.2.1, .int .u32 y.2.2]) (vj := .agg #[.int .u64 x.1, .int .u32 x.2.1, .int .u32 x.2.2]) rfl rfl (by kernel_rfl) (by decide) (by decide) (by rfl) (by rfl) hsR (fun _ _ => trivial) (fun wq hSw => ?fka) (fun wq hSw => ?fkb) ?fkc ?fkd
      case fka => (obtain ⟨y0, y1, y2⟩ := HYQ.out _ hSw.1; go_simp; (try with_reducible rfl))
      case fkb => (obtain ⟨x0, x1, x2⟩ := HXK.out _ hSw.1; go_simp; (try with_reducible rfl))
      case fkc =>
        try simp only [List.getElem_toArray, List.getElem_cons_zero, List.getElem_cons_succ, Act.put, List.setIfInBounds_toArray, List.set_cons_zero, List.set_cons_succ]
        refine wpAnyE_pure (i := 11) (v := .agg #[.int .u64 x.1, .int .u32 x.2.1, .int .u32 x.2.2]) rfl (by kernel_rfl) (by decide) (by rfl) hsR (fun _ _ => trivial) (fun wq hSw => ?_) ?_
        · obtain ⟨x0, x1, x2⟩ := HXK.out _ hSw.1
          go_simp
          (try with_reducible rfl)
        try simp only [List.getElem_toArray, List.getElem_cons_zero, List.getElem_cons_succ, Act.put, List.setIfInBounds_toArray, List.set_cons_zero, List.set_cons_succ]
        refine wpAnyE_take (i := 12) (v := ?_) hsR (fun _ _ => trivial) rfl (by kernel_rfl) (by kernel_rfl) (by kernel_rfl) (by kernel_rfl) (fun _ _ _ h => h) (SteadyB.of_yields (Or.inl ⟨by rfl, ?_⟩)) ?_
        rotate_left
        · intro wq hSw
          go_simp
          (try with_reducible rfl)
        try simp only [List.getElem_toArray, List.getElem_cons_zero, List.getElem_cons_succ, Act.put, List.setIfInBounds_toArray, List.set_cons_zero, List.set_cons_succ]
        refine wpAnyE_row (i := 13) (S' := fun wx => Rv base w b off n (L.set k y) wx) 29 (pcells y) b (off + k * 3) infoPos (.tmp 26) (.tmp 21) rfl rfl (by kernel_rfl) (by decide) (by rfl) ?rapa ?rapb ?rapc ?rapd (fun _ h => h.2.1 k hk1) (fun _ h => Rv.put h hk1 y hbase _ rfl) (fun _ _ => trivial) hsR1 ?rape
        case rapa => rfl
        case rapb => rfl
        case rapc => rfl
        case rapd => rfl
        try simp only [List.getElem_toArray, List.getElem_cons_zero, List.getElem_cons_succ, Act.put, List.setIfInBounds_toArray, List.set_cons_zero, List.set_cons_succ]
        refine wpAnyE_take (i := 14) (v := ?_) hsR1 (fun _ _ => trivial) rfl (by kernel_rfl) (by kernel_rfl) (by kernel_rfl) (by kernel_rfl) (fun _ _ _ h => h) (SteadyB.of_yields (Or.inl ⟨by rfl, ?_⟩)) ?_
        rotate_left
        · intro wq hSw
          go_simp
          (try with_reducible rfl)
        try simp only [List.getElem_toArray, List.getElem_cons_zero, List.getElem_cons_succ, Act.put, List.setIfInBounds_toArray, List.set_cons_zero, List.set_cons_succ]
        refine wpAnyE_row (i := 15) (S' := fun wx => Rv base w b off n ((L.set k y).set q x) wx) 29 (pcells x) b (off + q * 3) infoPos (.tmp 27) (.tmp 25) rfl rfl (by kernel_rfl) (by decide) (by rfl) ?rbpa ?rbpb ?rbpc ?rbpd (fun _ h => h.2.1 q hq1) (fun _ h => Rv.put h hq1 x hbase _ rfl) (fun _ _ => trivial) hsR2 ?rbpe
        case rbpa => rfl
        case rbpb => rfl
        case rbpc => rfl
        case rbpd => rfl
        try simp only [List.getElem_toArray, List.getElem_cons_zero, List.getElem_cons_succ, Act.put, List.setIfInBounds_toArray, List.set_cons_zero, List.set_cons_succ]
        refine wpAnyE_done (by kernel_rfl) (fun wz hSz => ?_) _
        have HV2 : Hid (Rv base w b off n ((L.set k y).set q x) wz) := hid hSz
        clear hSz
        go_wp2_with fail
        go_roundg (n - (k + 1))
        case measure => have := HS.out; omega
        case rel => exact ⟨k + 1, q - 1, _, by first | rfl | go_num, by first | rfl | go_num, by omega, rfl, HST.out, HV2.out⟩
      case fkd =>
        try simp only [List.getElem_toArray, List.getElem_cons_zero, List.getElem_cons_succ, Act.put, List.setIfInBounds_toArray, List.set_cons_zero, List.set_cons_succ]
        refine wpAnyE_pure (i := 7) (v := .agg #[.int .u64 y.1, .int .u32 y.2.1, .int .u32 y.2.2]) rfl (by kernel_rfl) (by decide) (by rfl) hsR (fun _ _ => trivial) (fun wq hSw => ?_) ?_
        · obtain ⟨y0, y1, y2⟩ := HYQ.out _ hSw.1
          go_simp
          (try with_reducible rfl)
        try simp only [List.getElem_toArray, List.getElem_cons_zero, List.getElem_cons_succ, Act.put, List.setIfInBounds_toArray, List.set_cons_zero, List.set_cons_succ]
        refine wpAnyE_take (i := 12) (v := ?_) hsR (fun _ _ => trivial) rfl (by kernel_rfl) (by kernel_rfl) (by kernel_rfl) (by kernel_rfl) (fun _ _ _ h => h) (SteadyB.of_yields (Or.inl ⟨by rfl, ?_⟩)) ?_
        rotate_left
        · intro wq hSw
          go_simp
          (try with_reducible rfl)
        try simp only [List.getElem_toArray, List.getElem_cons_zero, List.getElem_cons_succ, Act.put, List.setIfInBounds_toArray, List.set_cons_zero, List.set_cons_succ]
        refine wpAnyE_row (i := 13) (S' := fun wx => Rv base w b off n (L.set k y) wx) 29 (pcells y) b (off + k * 3) infoPos (.tmp 26) (.tmp 21) rfl rfl (by kernel_rfl) (by decide) (by rfl) ?raqa ?raqb ?raqc ?raqd (fun _ h => h.2.1 k hk1) (fun _ h => Rv.put h hk1 y hbase _ rfl) (fun _ _ => trivial) hsR1 ?raqe
        case raqa => rfl
        case raqb => rfl
        case raqc => rfl
        case raqd => rfl
        try simp only [List.getElem_toArray, List.getElem_cons_zero, List.getElem_cons_succ, Act.put, List.setIfInBounds_toArray, List.set_cons_zero, List.set_cons_succ]
        refine wpAnyE_take (i := 14) (v := ?_) hsR1 (fun _ _ => trivial) rfl (by kernel_rfl) (by kernel_rfl) (by kernel_rfl) (by kernel_rfl) (fun _ _ _ h => h) (SteadyB.of_yields (Or.inl ⟨by rfl, ?_⟩)) ?_
        rotate_left
        · intro wq hSw
          go_simp
          (try with_reducible rfl)
        try simp only [List.getElem_toArray, List.getElem_cons_zero, List.getElem_cons_succ, Act.put, List.setIfInBounds_toArray, List.set_cons_zero, List.set_cons_succ]
        refine wpAnyE_row (i := 15) (S' := fun wx => Rv base w b off n ((L.set k y).set q x) wx) 29 (pcells x) b (off + q * 3) infoPos (.tmp 27) (.tmp 25) rfl rfl (by kernel_rfl) (by decide) (by rfl) ?rbqa ?rbqb ?rbqc ?rbqd (fun _ h => h.2.1 q hq1) (fun _ h => Rv.put h hq1 x hbase _ rfl) (fun _ _ => trivial) hsR2 ?rbqe
        case rbqa => rfl
        case rbqb => rfl
        case rbqc => rfl
        case rbqd => rfl
        try simp only [List.getElem_toArray, List.getElem_cons_zero, List.getElem_cons_succ, Act.put, List.setIfInBounds_toArray, List.set_cons_zero, List.set_cons_succ]
        refine wpAnyE_done (by kernel_rfl) (fun wz hSz => ?_) _
        have HV2 : Hid (Rv base w b off n ((L.set k y).set q x) wz) := hid hSz
        clear hSz
        go_wp2_with fail
        go_roundg (n - (k + 1))
        case measure => have := HS.out; omega
        case rel => exact ⟨k + 1, q - 1, _, by first | rfl | go_num, by first | rfl | go_num, by omega, rfl, HST.out, HV2.out⟩
    · have hki : ¬ (k : Int) < (q : Int) := by omega
      have HE := hid (HRV.out.last HLN.out hkq hkn)
      go_wp2_with fail
      exact bodyPost_end (v := .tuple #[]) (by simp [results, Tryz.results13, go_sem]) rfl ⟨rfl, by rw [← HE.out]; exact HV.out.1, HV.out.2.2.2⟩
end

end Go.Proofs.YtklaghleghncoaaGreatDoor

/- The checker's regions that draw their order are right. -/
import Derived.Test.YtjchnkmolhgpmaaGreatDoorSettleShiftsZ44
namespace Go.Proofs.YtjchnkmolhgpmaaGreatDoor.Ck
open Go
section
variable {E : Env} {call : CallF} {N : Nat} {ops : Array Oper}
inductive Chain (E : Env) (call : CallF) (N : Nat) (ops : Array Oper) : Nat → List Rec → Tree Value → St → Tree Value → St → Prop
  | nil {k T σ} : Chain E call N ops k [] T σ T σ
  | cons {k r rs T σ T' σ'} (hop : ops[k]? = some r.o) (hT : r.T = T) (hτ : r.τ = clr σ)
      (hrun : (Region.wanted r.o (lyield ops T) = true ∧ lop E call (lev T) r.o (clr σ) = some [(r.v, r.τ')]) ∨ (Region.wanted r.o (lyield ops T) = false ∧ r.v = undef ∧ r.τ' = clr σ))
      (rest : Chain E call N ops (k + 1) rs (lput N T r.o.dst r.v) (mrg σ r.τ') T' σ') : Chain E call N ops k (r :: rs) T σ T' σ'
theorem ldraw_chain : ∀ (m k : Nat) (T : Tree Value) (σ : St) (rs : List Rec) (T' : Tree Value) (σ' : St), ldraw E call N ops (List.range' k m) T σ = some (rs, T', σ') → Chain E call N ops k rs T σ T' σ' ∧ rs.length = m := by
  intro m
  induction m with
  | zero => intro k T σ rs T' σ' h; cases h; exact ⟨.nil, rfl⟩
  | succ m ih =>
    intro k T σ rs T' σ' h
    rw [List.range'_succ] at h
    unfold ldraw at h
    rw [nth_arr] at h
    split at h
    · cases h
    · rename_i o ho
      split at h
      · rename_i hw
        split at h
        · rename_i x hx
          split at h
          · rename_i rs1 T1 σ1 h1
            cases h
            obtain ⟨c, hl⟩ := ih _ _ _ _ _ _ h1
            exact ⟨.cons ho rfl rfl (.inl ⟨hw, hx⟩) c, by simp [hl]⟩
          · cases h
        · cases h
      · rename_i hw
        split at h
        · rename_i rs1 T1 σ1 h1
          cases h
          obtain ⟨c, hl⟩ := ih _ _ _ _ _ _ h1
          exact ⟨.cons ho rfl rfl (.inr ⟨by simpa using hw, rfl, rfl⟩) c, by simp [hl]⟩
        · cases h
def wst (r : Rec) (b : Nat) : Bool := r.τ'.wr.testBit b || (decide (r.τ.next ≤ b) && decide (b < r.τ'.next))
def foot (r : Rec) (b : Nat) : Bool := r.τ'.rd.testBit b || r.τ'.wr.testBit b
theorem wst_iff {r : Rec} {b : Nat} : wst r b = true ↔ r.τ'.W b ∨ St.N r.τ r.τ' b := by simp [wst, St.W, St.N]
theorem foot_iff {r : Rec} {b : Nat} : foot r b = true ↔ (r.τ'.rd.testBit b = true ∨ r.τ'.wr.testBit b = true) := by simp [foot]
def lofAt : Nat → List Rec → (Nat → Bool) → Nat → Option LObj → Option LObj
  | _, [], _, _, x => x
  | k, r :: rs, D, b, x => lofAt (k + 1) rs D b (if D k && wst r b then r.τ'.m b else x)
def tvAt (N : Nat) : Nat → List Rec → (Nat → Bool) → Nat → Option Value → Option Value
  | _, [], _, _, x => x
  | k, r :: rs, D, t, x => tvAt N (k + 1) rs D t (if D k && (r.o.dst == some t && decide (t < N)) then some r.v else x)
theorem lofAt_congr {D D' : Nat → Bool} {b : Nat} : ∀ {rs : List Rec} {k : Nat} {x : Option LObj}, (∀ (i : Nat) (r : Rec), rs[i]? = some r → wst r b = true → D (k + i) = D' (k + i)) → lofAt k rs D b x = lofAt k rs D' b x
  | [], _, _, _ => rfl
  | r :: rs, k, x, h => by
    have h0 := h 0 r rfl
    have e : (if D k && wst r b then r.τ'.m b else x) = (if D' k && wst r b then r.τ'.m b else x) := by
      by_cases hw : wst r b = true
      · have := h0 hw; rw [Nat.add_zero] at this; rw [this]
      · simp [hw]
    simp only [lofAt]
    rw [e]
    exact lofAt_congr fun i s hs hw => by have := h (i + 1) s (by simpa using hs) hw; rw [show k + 1 + i = k + (i + 1) by omega]; exact this
theorem lofAt_none {D : Nat → Bool} {b : Nat} : ∀ {rs : List Rec} {k : Nat} {x : Option LObj}, (∀ i, D (k + i) = false) → lofAt k rs D b x = x
  | [], _, _, _ => rfl
  | r :: rs, k, x, h => by
    have h0 := h 0
    rw [Nat.add_zero] at h0
    simp only [lofAt, h0, Bool.false_and, Bool.false_eq_true, if_false]
    exact lofAt_none fun i => by have := h (i + 1); rw [show k + 1 + i = k + (i + 1) by omega]; exact this
theorem lofAt_at {b : Nat} : ∀ {rs : List Rec} {k i : Nat} {r : Rec} {x : Option LObj}, rs[i]? = some r → wst r b = true → lofAt k rs (fun j => decide (j ≤ k + i)) b x = r.τ'.m b
  | [], _, i, _, _, h, _ => by simp at h
  | s :: rs, k, 0, r, x, h, hw => by
    cases h
    simp only [lofAt, Nat.add_zero, Nat.le_refl, decide_true, Bool.true_and, hw, if_true]
    exact lofAt_none fun i => by simp; omega
  | s :: rs, k, i + 1, r, x, h, hw => by
    simp only [lofAt]
    have := lofAt_at (k := k + 1) (i := i) (x := if decide (k ≤ k + (i + 1)) && wst s b then s.τ'.m b else x) (by simpa using h) hw
    rw [show k + 1 + i = k + (i + 1) by omega] at this
    exact this
theorem tvAt_congr {D D' : Nat → Bool} {t : Nat} : ∀ {rs : List Rec} {k : Nat} {x : Option Value}, (∀ (i : Nat) (r : Rec), rs[i]? = some r → r.o.dst = some t → t < N → D (k + i) = D' (k + i)) → tvAt N k rs D t x = tvAt N k rs D' t x
  | [], _, _, _ => rfl
  | r :: rs, k, x, h => by
    have h0 := h 0 r rfl
    have e : (if D k && (r.o.dst == some t && decide (t < N)) then some r.v else x) = (if D' k && (r.o.dst == some t && decide (t < N)) then some r.v else x) := by
      by_cases hw : (r.o.dst == some t && decide (t < N)) = true
      · simp only [Bool.and_eq_true, beq_iff_eq, decide_eq_true_eq] at hw
        have := h0 hw.1 hw.2; rw [Nat.add_zero] at this; rw [this]
      · simp [hw]
    simp only [tvAt]
    rw [e]
    exact tvAt_congr fun i s hs h1 h2 => by have := h (i + 1) s (by simpa using hs) h1 h2; rw [show k + 1 + i = k + (i + 1) by omega]; exact this
theorem tvAt_none {D : Nat → Bool} {t : Nat} {rs : List Rec} {k : Nat} {x : Option Value} (h : ∀ (i : Nat) (r : Rec), rs[i]? = some r → r.o.dst = some t → t < N → D (k + i) = false) : tvAt N k rs D t x = x := by
  rw [tvAt_congr (D' := fun _ => false) h]
  clear h
  induction rs generalizing k x with
  | nil => rfl
  | cons r rs ih => simp only [tvAt, Bool.false_and, Bool.false_eq_true, if_false]; exact ih
theorem tvAt_one {D : Nat → Bool} {t : Nat} : ∀ {rs : List Rec} {k i : Nat} {r : Rec} {x : Option Value}, rs[i]? = some r → r.o.dst = some t → t < N → D (k + i) = true → (∀ j s, rs[j]? = some s → s.o.dst = some t → j = i) → tvAt N k rs D t x = some r.v
  | [], _, i, _, _, h, _, _, _, _ => by simp at h
  | s :: rs, k, 0, r, x, h, hd, ht, hD, hu => by
    cases h
    rw [Nat.add_zero] at hD
    simp only [tvAt, hD, hd, beq_self_eq_true, ht, decide_true, Bool.true_and, if_true]
    exact tvAt_none fun j s hs hd _ => by have := hu (j + 1) s (by simpa using hs) hd; omega
  | s :: rs, k, i + 1, r, x, h, hd, ht, hD, hu => by
    simp only [tvAt]
    exact tvAt_one (k := k + 1) (i := i) (by simpa using h) hd ht (by rw [show k + 1 + i = k + (i + 1) by omega]; exact hD) fun j s hs hd => by
      have := hu (j + 1) s (by simpa using hs) hd; omega
theorem clr_prop {σ τ : St} (h : LProp (clr σ) τ) : LProp σ (mrg σ τ) where
  next := h.next
  rd := fun b hb => by simp [mrg, Nat.testBit_or, hb]
  wr := fun b hb => by simp [mrg, Nat.testBit_or, hb]
  wrb := fun b hb => by
    simp only [mrg, Nat.testBit_or, Bool.or_eq_true] at hb
    rcases hb with hb | hb
    · exact .inl hb
    · rcases h.wrb b hb with hb | hb
      · simp [clr] at hb
      · exact .inr hb
  mem := fun b hb hn => h.mem b (fun x => hb (by simp [mrg, Nat.testBit_or, x])) hn
  dead := h.dead
theorem clr_wf {σ : St} (h : WF σ) : WF (clr σ) := ⟨fun b hb => by simp [clr] at hb, h.top⟩
theorem Rec.prop (hcall : CallOK E call) {r : Rec} {T : Tree Value} {σ : St} (_hτ : r.τ = clr σ)
    (hrun : (Region.wanted r.o (lyield ops T) = true ∧ lop E call (lev T) r.o (clr σ) = some [(r.v, r.τ')]) ∨ (Region.wanted r.o (lyield ops T) = false ∧ r.v = undef ∧ r.τ' = clr σ)) : LProp (clr σ) r.τ' := by
  rcases hrun with ⟨_, h⟩ | ⟨_, _, h⟩
  · exact (lop_spec hcall h).1.2 _ (List.mem_singleton.2 rfl)
  · rw [h]; exact .refl _
structure Facts (E : Env) (call : CallF) (N : Nat) (ops : Array Oper) (k : Nat) (rs : List Rec) (T : Tree Value) (σ : St) (T' : Tree Value) (σ' : St) : Prop where
  prop : LProp σ σ'
  op : ∀ (i : Nat) (r : Rec), rs[i]? = some r → ops[k + i]? = some r.o
  run : ∀ (i : Nat) (r : Rec), rs[i]? = some r → (Region.wanted r.o (lyield ops r.T) = true ∧ lop E call (lev r.T) r.o r.τ = some [(r.v, r.τ')]) ∨ (Region.wanted r.o (lyield ops r.T) = false ∧ r.v = undef ∧ r.τ' = r.τ)
  each : ∀ (i : Nat) (r : Rec), rs[i]? = some r → LProp r.τ r.τ'
  wf : WF σ → ∀ (i : Nat) (r : Rec), rs[i]? = some r → WF r.τ
  mem : ∀ (i : Nat) (r : Rec), rs[i]? = some r → ∀ b, r.τ.m b = lofAt k rs (fun j => decide (j < k + i)) b (σ.m b)
  last : ∀ b, σ'.m b = lofAt k rs (fun _ => true) b (σ.m b)
  tmp : ∀ (i : Nat) (r : Rec), rs[i]? = some r → ∀ t, r.T.get t = tvAt N k rs (fun j => decide (j < k + i)) t (T.get t)
  tlast : ∀ t, T'.get t = tvAt N k rs (fun _ => true) t (T.get t)
  lo : ∀ (i : Nat) (r : Rec), rs[i]? = some r → σ.next ≤ r.τ.next
  hi : ∀ (i : Nat) (r : Rec), rs[i]? = some r → r.τ'.next ≤ σ'.next
  ord : ∀ (i j : Nat) (r s : Rec), i < j → rs[i]? = some r → rs[j]? = some s → r.τ'.next ≤ s.τ.next
  rd : ∀ (i : Nat) (r : Rec), rs[i]? = some r → ∀ b, r.τ'.rd.testBit b = true → σ'.rd.testBit b = true
  wr : ∀ (i : Nat) (r : Rec), rs[i]? = some r → ∀ b, r.τ'.wr.testBit b = true → σ'.wr.testBit b = true
theorem Chain.facts (hcall : CallOK E call) {k : Nat} {rs : List Rec} {T : Tree Value} {σ : St} {T' : Tree Value} {σ' : St} (h : Chain E call N ops k rs T σ T' σ') : Facts E call N ops k rs T σ T' σ' := by
  induction h with
  | nil => exact ⟨.refl _, by simp, by simp, by simp, by simp, by simp, fun _ => rfl, by simp, fun _ => rfl, by simp, by simp, by simp, by simp, by simp⟩
  | @cons k r rs T σ T' σ' hop hT hτ hrun rest ih =>
    have p := Rec.prop hcall hτ hrun
    have pm := clr_prop p
    have shift : ∀ i, k + 1 + i = k + (i + 1) := fun i => by omega
    have hm : ∀ b, (mrg σ r.τ').m b = if wst r b then r.τ'.m b else σ.m b := fun b => by
      by_cases hw : wst r b = true
      · simp [hw, St.m, mrg]
      · simp only [hw, Bool.false_eq_true, if_false]
        rw [wst_iff, hτ] at hw
        have := p.mem b (fun x => hw (.inl x)) (fun x => hw (.inr x))
        exact this
    have hput : ∀ t, (lput N T r.o.dst r.v).get t = if (r.o.dst == some t && decide (t < N)) then some r.v else T.get t := fun t => by
      unfold lput
      cases hd : r.o.dst with
      | none => simp
      | some d =>
        by_cases hdN : d < N
        · simp only [hdN, if_true, Tree.get_set]
          by_cases hdt : d = t
          · subst hdt; simp [hdN]
          · simp [hdt]
        · simp only [hdN, if_false]
          by_cases hdt : d = t
          · subst hdt; simp [hdN]
          · simp [hdt]
    refine ⟨pm.trans ih.prop, ?_, ?_, ?_, ?_, ?_, ?_, ?_, ?_, ?_, ?_, ?_, ?_, ?_⟩
    · intro i s hs
      cases i with
      | zero => cases hs; exact hop
      | succ i => rw [← shift]; exact ih.op i s (by simpa using hs)
    · intro i s hs
      cases i with
      | zero => cases hs; rw [hT, hτ]; exact hrun
      | succ i => exact ih.run i s (by simpa using hs)
    · intro i s hs
      cases i with
      | zero => cases hs; rw [hτ]; exact p
      | succ i => exact ih.each i s (by simpa using hs)
    · intro hw i s hs
      cases i with
      | zero => cases hs; rw [hτ]; exact clr_wf hw
      | succ i => exact ih.wf (pm.wf hw) i s (by simpa using hs)
    · intro i s hs b
      cases i with
      | zero =>
        cases hs
        rw [lofAt_none fun i => by simp, hτ]; rfl
      | succ i =>
        rw [ih.mem i s (by simpa using hs) b, hm b, shift]
        simp only [lofAt]
        have : decide (k < k + (i + 1)) = true := by simp
        simp only [this, Bool.true_and]
    · intro b
      rw [ih.last b, hm b]
      simp only [lofAt, Bool.true_and]
    · intro i s hs t
      cases i with
      | zero =>
        cases hs
        rw [tvAt_none fun i s hs h1 h2 => by simp, hT]
      | succ i =>
        rw [ih.tmp i s (by simpa using hs) t, hput t, shift]
        simp only [tvAt]
        have : decide (k < k + (i + 1)) = true := by simp
        simp only [this, Bool.true_and]
    · intro t
      rw [ih.tlast t, hput t]
      simp only [tvAt, Bool.true_and]
    · intro i s hs
      cases i with
      | zero => cases hs; rw [hτ]; exact Nat.le_refl _
      | succ i => exact Nat.le_trans pm.next (ih.lo i s (by simpa using hs))
    · intro i s hs
      cases i with
      | zero => cases hs; exact ih.prop.next
      | succ i => exact ih.hi i s (by simpa using hs)
    · intro i j s s' hij hs hs'
      cases j with
      | zero => omega
      | succ j =>
        cases i with
        | zero => cases hs; exact ih.lo j s' (by simpa using hs')
        | succ i => exact ih.ord i j s s' (by omega) (by simpa using hs) (by simpa using hs')
    · intro i s hs b hb
      cases i with
      | zero => cases hs; exact ih.prop.rd b (by simp [mrg, Nat.testBit_or, hb])
      | succ i => exact ih.rd i s (by simpa using hs) b hb
    · intro i s hs b hb
      cases i with
      | zero => cases hs; exact ih.prop.wr b (by simp [mrg, Nat.testBit_or, hb])
      | succ i => exact ih.wr i s (by simpa using hs) b hb
theorem upTo_spec {c : Array Nat} {o : Oper} {j : Nat} (h : (upTo c o).testBit j = true) : ∃ e ∈ o.after, Region.binds .any e = true ∧ (e.on = j ∨ (c.getD e.on 0).testBit j = true) := by
  unfold upTo at h
  rw [← Array.foldl_toList] at h
  have key : ∀ (l : List Edge) (s : Nat), (l.foldl (fun s e => if Region.binds .any e then s ||| 2 ^ e.on ||| c.getD e.on 0 else s) s).testBit j = true →
      s.testBit j = true ∨ ∃ e ∈ l, Region.binds .any e = true ∧ (e.on = j ∨ (c.getD e.on 0).testBit j = true) := by
    intro l
    induction l with
    | nil => intro s h; exact .inl h
    | cons e l ih =>
      intro s h
      rw [List.foldl_cons] at h
      rcases ih _ h with h | ⟨e', he', hb⟩
      · split at h
        · rename_i hb
          rw [Nat.testBit_or, Nat.testBit_or, Nat.testBit_two_pow] at h
          simp only [Bool.or_eq_true, decide_eq_true_eq] at h
          rcases h with (h | h) | h
          · exact .inl h
          · exact .inr ⟨e, by simp, hb, .inl h⟩
          · exact .inr ⟨e, by simp, hb, .inr h⟩
        · exact .inl h
      · exact .inr ⟨e', by simp [he'], hb⟩
  rcases key _ _ h with h | ⟨e, he, hb⟩
  · simp at h
  · exact ⟨e, Array.mem_toList_iff.1 he, hb⟩
structure Sok (ops : Array Oper) (c : Array Nat) (W : Tree Nat) : Prop where
  cl : ∀ (i : Nat) (o : Oper), ops[i]? = some o → ∀ j, (c.getD i 0).testBit j = true → ∃ e ∈ o.after, Region.binds .any e = true ∧ (e.on = j ∨ (c.getD e.on 0).testBit j = true)
  lt : ∀ (i : Nat) (o : Oper), ops[i]? = some o → ∀ e ∈ o.after, Region.binds .any e = true → e.on < i
  dst : ∀ (i : Nat) (o : Oper), ops[i]? = some o → ∀ d, o.dst = some d → W.get d = some i
  look : ∀ (i : Nat) (o : Oper), ops[i]? = some o → ∀ t ∈ o.looksAt ops, ∀ j, W.get t = some j → ((c.getD i 0).testBit j = true ∧ j < i) ∨ ((c.getD j 0).testBit i = true ∧ i < j)
theorem sokC_spec {ops : Array Oper} {c : Array Nat} {W : Tree Nat} (h : sokC ops c W = true) : Sok ops c W := by
  unfold sokC at h
  rw [List.all_eq_true] at h
  have key : ∀ (i : Nat) (o : Oper), ops[i]? = some o → (o, i) ∈ ops.toList.zipIdx := fun i o ho => by
    rw [List.mem_zipIdx_iff_getElem?]
    simpa using ho
  refine ⟨fun i o ho j hj => ?_, fun i o ho e he hb => ?_, fun i o ho d hd => ?_, fun i o ho t ht j hj => ?_⟩
  all_goals
    have hx := h _ (key i o ho)
    simp only [Bool.and_eq_true] at hx
    obtain ⟨⟨⟨⟨h1, h2⟩, h3⟩, h4⟩, h5⟩ := hx
  · refine upTo_spec ?_
    rw [beq_iff_eq] at h1
    rw [← h1, Nat.testBit_or, hj, Bool.true_or]
  · rw [Array.all_eq_true_iff_forall_mem] at h2
    have := h2 e he
    simpa [hb] using this
  · rw [hd] at h3
    simpa using h3
  · rw [List.all_eq_true] at h4
    have := h4 t ht
    rw [hj] at this
    simpa using this
theorem notIn_spec {x : Nat} {r : Rec} (h : notIn x r = true) {b : Nat} (hb : x.testBit b = true) : ¬ St.N r.τ r.τ' b := fun hn => by
  unfold notIn at h
  rw [beq_iff_eq] at h
  have h1 : ((x >>> r.τ.next) % 2 ^ (r.τ'.next - r.τ.next)).testBit (b - r.τ.next) = true := by
    rw [Nat.testBit_mod_two_pow, Nat.testBit_shiftRight]
    have e : r.τ.next + (b - r.τ.next) = b := by have := hn.1; omega
    rw [e, hb]
    have := hn.1; have := hn.2
    simp; omega
  rw [h] at h1
  simp at h1
theorem land_spec {x y b : Nat} (h : (x &&& y) = 0) (hx : x.testBit b = true) (hy : y.testBit b = true) : False := by
  have := Nat.testBit_and x y b
  rw [h, hx, hy] at this
  simp at this
theorem apart_spec {r s : Rec} (h : apart r s = true) {b : Nat} :
    (r.τ'.wr.testBit b = true → foot s b = false) ∧ (s.τ'.wr.testBit b = true → foot r b = false) ∧ (foot s b = true → ¬ St.N r.τ r.τ' b) ∧ (foot r b = true → ¬ St.N s.τ s.τ' b) := by
  unfold apart at h
  simp only [Bool.and_eq_true, beq_iff_eq] at h
  obtain ⟨⟨⟨h1, h2⟩, h3⟩, h4⟩ := h
  have f : ∀ (q : Rec), foot q b = true → (q.τ'.rd ||| q.τ'.wr).testBit b = true := fun q hq => by
    rw [Nat.testBit_or]; exact hq
  refine ⟨fun hw => ?_, fun hw => ?_, fun hf => notIn_spec h3 (f s hf), fun hf => notIn_spec h4 (f r hf)⟩
  · cases hf : foot s b with
    | false => rfl
    | true => exact (land_spec h1 hw (f s hf)).elim
  · cases hf : foot r b with
    | false => rfl
    | true => exact (land_spec h2 hw (f r hf)).elim
theorem quiet_spec {r : Rec} (h : quiet r = true) (b : Nat) : foot r b = false ∧ wst r b = false := by
  unfold quiet at h
  simp only [Bool.and_eq_true, beq_iff_eq] at h
  obtain ⟨⟨h1, h2⟩, h3⟩ := h
  constructor
  · simp [foot, h1, h2]
  · simp [wst, h2, h3]
theorem pairsOk_spec {c : Array Nat} : ∀ {l : List (Rec × Nat)}, pairsOk c l = true → l.Pairwise fun x y => (c.getD y.2 0).testBit x.2 = true ∨ apart x.1 y.1 = true
  | [], _ => .nil
  | x :: l, h => by
    unfold pairsOk at h
    simp only [Bool.and_eq_true, List.all_eq_true, Bool.or_eq_true] at h
    exact .cons (fun y hy => h.1 y hy) (pairsOk_spec h.2)
theorem indep {c : Array Nat} {rs : List Rec} (hp : pairsOk c (rs.zipIdx.filter fun x => !quiet x.1) = true) (hord : ∀ (i j : Nat) (r s : Rec), i < j → rs[i]? = some r → rs[j]? = some s → r.τ'.next ≤ s.τ.next)
    {i j : Nat} {r s : Rec} (hij : i < j) (hr : rs[i]? = some r) (hs : rs[j]? = some s) (hc : ¬ (c.getD j 0).testBit i = true) (b : Nat) :
    (wst r b = true → foot s b = false ∧ wst s b = false) ∧ (wst s b = true → foot r b = false ∧ wst r b = false) := by
  by_cases hq : quiet r = true
  · have := quiet_spec hq b
    exact ⟨fun h => by (rw [this.2] at h; cases h), fun _ => this⟩
  by_cases hq' : quiet s = true
  · have := quiet_spec hq' b
    exact ⟨fun _ => this, fun h => by rw [this.2] at h; cases h⟩
  have hpw := pairsOk_spec hp
  rw [List.pairwise_filter, List.pairwise_iff_getElem] at hpw
  have hi : i < rs.length := (List.getElem?_eq_some_iff.1 hr).1
  have hj : j < rs.length := (List.getElem?_eq_some_iff.1 hs).1
  have ei : rs[i] = r := (List.getElem?_eq_some_iff.1 hr).2
  have ej : rs[j] = s := (List.getElem?_eq_some_iff.1 hs).2
  have hx := hpw i j (by simpa using hi) (by simpa using hj) hij
  simp only [List.getElem_zipIdx, Nat.zero_add, ei, ej] at hx
  have hap := (hx (by simp [hq]) (by simp [hq'])).resolve_left hc
  obtain ⟨a1, a2, a3, a4⟩ := apart_spec hap (b := b)
  have hNN : ¬ (St.N r.τ r.τ' b ∧ St.N s.τ s.τ' b) := fun ⟨h1, h2⟩ => by
    have := hord i j r s hij hr hs
    have := h1.2; have := h2.1; omega
  have ff : ∀ {q : Rec}, q.τ'.wr.testBit b = true → foot q b = true := fun {q} h => foot_iff.2 (.inr h)
  have bf : ∀ {p : Bool}, (p = true → False) → p = false := fun {p} h => by cases p <;> simp_all
  constructor
  · intro hw
    rcases wst_iff.1 hw with h | h
    · have fs := a1 h
      refine ⟨fs, bf fun hws => ?_⟩
      rcases wst_iff.1 hws with h' | h'
      · have := ff h'; rw [fs] at this; cases this
      · exact a4 (ff h) h'
    · refine ⟨bf fun hf => a3 hf h, bf fun hws => ?_⟩
      rcases wst_iff.1 hws with h' | h'
      · exact a3 (ff h') h
      · exact hNN ⟨h, h'⟩
  · intro hw
    rcases wst_iff.1 hw with h | h
    · have fs := a2 h
      refine ⟨fs, bf fun hws => ?_⟩
      rcases wst_iff.1 hws with h' | h'
      · have := ff h'; rw [fs] at this; cases this
      · exact a3 (ff h) h'
    · refine ⟨bf fun hf => a4 hf h, bf fun hws => ?_⟩
      rcases wst_iff.1 hws with h' | h'
      · exact a4 (ff h') h
      · exact hNN ⟨h', h⟩
theorem put_size (a : Act) (d : Option Tmp) (v : Value) : (a.put d v).tmps.size = a.tmps.size := by cases d <;> simp [Act.put]
theorem Glob.monoG {W N : Nat → Prop} {φ ψ : Emb} {L M : Nat → Option LObj} {w w' : World} (h : Glob E φ L) (hst : StepG W N φ ψ L M w w') : Glob E ψ M := fun x hx => ⟨hst.le _ _ (h x hx).1, hst.rom _ _ (h x hx).2⟩
theorem yield_at {φ : Emb} {T : Tree Value} {tmps : Array Value} {j : Nat} (h : ∀ t, (ops[j]?).bind (·.dst) = some t → VRel φ ((T.get t).getD undef) (tmps.getD t undef)) : lyield ops T j = yielded ops tmps j := by
  unfold lyield yielded
  cases hj : (ops[j]?).bind (·.dst) with
  | none => simp
  | some t =>
    have ht := h t hj
    simp only [Option.bind_some]
    cases hT : T.get t with
    | none =>
      rw [hT] at ht
      simp only [Option.getD_none] at ht
      cases hA : tmps[t]? with
      | none => simp
      | some u =>
        have : tmps.getD t undef = u := by simp [hA]
        rw [this] at ht
        cases u <;> first | rfl | (simp only [undef] at ht; cases ht)
    | some v =>
      rw [hT] at ht
      simp only [Option.getD_some] at ht
      cases hA : tmps[t]? with
      | none =>
        have : tmps.getD t undef = undef := by simp [hA]
        rw [this] at ht
        cases v <;> first | rfl | (simp only [undef] at ht; cases ht)
      | some u =>
        have : tmps.getD t undef = u := by simp [hA]
        rw [this] at ht
        cases v <;> cases u <;> first | rfl | (cases ht; done) | (cases ht; rfl)
theorem wanted_eq {o : Oper} {f g : Nat → Option Bool} (h : ∀ j want, o.guard = some (j, want) → f j = g j) : Region.wanted o f = Region.wanted o g := by
  unfold Region.wanted
  cases hg : o.guard with
  | none => rfl
  | some x => obtain ⟨j, want⟩ := x; simp only [h j want hg]
structure Inv (E : Env) (N : Nat) (ops : Array Oper) (c : Array Nat) (rs : List Rec) (T : Tree Value) (φ : Emb) (L : Nat → Option LObj) (w₀ : World) (D : Array Bool) (ψ : Emb) (M : Nat → Option LObj) (w : World) (a : Act) : Prop where
  size : D.size = ops.size
  g : StepG (fun b => ∃ (i : Nat) (r : Rec), rs[i]? = some r ∧ D.getD i false = true ∧ r.τ'.W b) (fun b => ∃ (i : Nat) (r : Rec), rs[i]? = some r ∧ D.getD i false = true ∧ St.N r.τ r.τ' b) φ ψ L M w₀ w
  mem : ∀ b, M b = lofAt 0 rs (fun j => D.getD j false) b (L b)
  tsize : a.tmps.size = N
  defers : a.defers = []
  tmps : ∀ t, VRel ψ ((tvAt N 0 rs (fun j => D.getD j false) t (T.get t)).getD undef) (a.tmps.getD t undef)
  down : ∀ i, D.getD i false = true → ∀ j, (c.getD i 0).testBit j = true → D.getD j false = true
section
variable {c : Array Nat} {W : Tree Nat} {rs : List Rec} {T T' : Tree Value} {σ σ' : St} {φ : Emb} {L : Nat → Option LObj} {w₀ : World}
theorem inv_step (hcall : CallOK E call) (hk : Sok ops c W) (hf : Facts E call N ops 0 rs T σ T' σ')
    (hi : ∀ {i j : Nat} {r s : Rec}, i < j → rs[i]? = some r → rs[j]? = some s → ¬ (c.getD j 0).testBit i = true → ∀ b, (wst r b = true → foot s b = false ∧ wst s b = false) ∧ (wst s b = true → foot r b = false ∧ wst r b = false))
    (hg : Glob E φ L) (hw : WF σ) (hcl : Clear φ L σ σ') (hag : Agree L σ σ') {Q : Exit → Act → World → Prop}
    {D : Array Bool} {ψ : Emb} {M : Nat → Option LObj} {w : World} {a : Act} (h : Inv E N ops c rs T φ L w₀ D ψ M w a) {i : Nat} {o : Oper} {r : Rec} (ho : ops[i]? = some o) (hr : rs[i]? = some r)
    (hnot : D.getD i true = false) (hready : ∀ e ∈ o.after, Region.binds .any e = true → D.getD e.on false = true)
    {K : Act → World → Prop} (hK : ∀ ψ' M' w' a', Inv E N ops c rs T φ L w₀ (D.setIfInBounds i true) ψ' M' w' a' → K a' w') : wpOp E.P ops Q i K a w := by
  have hisz : i < D.size := by rw [h.size]; exact (Array.getElem?_eq_some_iff.1 ho).1
  have hnot' : D.getD i false = false := by
    have e1 : D[i]? = some D[i] := Array.getElem?_eq_getElem hisz
    rw [Array.getD_eq_getD_getElem?, e1] at hnot ⊢
    simpa using hnot
  have hro : r.o = o := by
    have := hf.op i r hr
    rw [Nat.zero_add, ho] at this
    exact (Option.some.inj this).symm
  -- what must have come ahead has
  have hclo : ∀ j, (c.getD i 0).testBit j = true → D.getD j false = true := fun j hj => by
    obtain ⟨e, he, hb, h1⟩ := hk.cl i o ho j hj
    have hon := hready e he hb
    rcases h1 with h1 | h1
    · rw [← h1]; exact hon
    · exact h.down _ hon j h1
  -- what writes where this one looks stands in order with it
  have hkey : ∀ b, (foot r b = true ∨ wst r b = true) → ∀ (j : Nat) (s : Rec), rs[j]? = some s → wst s b = true → j ≠ i → D.getD j false = decide (j < i) := fun b hb j s hs hws hji => by
    rcases Nat.lt_or_ge j i with hlt | hge
    · rw [decide_eq_true hlt]
      by_cases hc : (c.getD i 0).testBit j = true
      · exact hclo j hc
      · have := (hi hlt hs hr hc b).1 hws
        rcases hb with hb | hb
        · rw [this.1] at hb; cases hb
        · rw [this.2] at hb; cases hb
    · have hgt : i < j := by omega
      have hnlt : ¬ j < i := by omega
      rw [decide_eq_false hnlt]
      by_cases hc : (c.getD j 0).testBit i = true
      · cases hD : D.getD j false with
        | false => rfl
        | true => have := h.down j hD i hc; rw [hnot'] at this; cases this
      · have := (hi hgt hr hs hc b).2 hws
        rcases hb with hb | hb
        · rw [this.1] at hb; cases hb
        · rw [this.2] at hb; cases hb
  have hmemi : ∀ b, (foot r b = true ∨ wst r b = true) → M b = lofAt 0 rs (fun j => decide (j < 0 + i)) b (L b) := fun b hb => by
    rw [h.mem b]
    refine lofAt_congr fun j s hs hws => ?_
    simp only [Nat.zero_add]
    by_cases hji : j = i
    · subst hji; simp [hnot']
    · exact hkey b hb j s hs hws hji
  have hwfi := hf.wf hw i r hr
  have hLσ : ∀ b, b < r.τ'.next → (foot r b = true ∨ St.N r.τ r.τ' b) → L b = σ.m b := fun b hb hfb => by
    by_cases hlt : b < σ.next
    · refine hag b ?_ hlt
      rcases hfb with hfb | hfb
      · rcases foot_iff.1 hfb with x | x
        · exact .inl (hf.rd i r hr b x)
        · exact .inr (hf.wr i r hr b x)
      · have := hf.lo i r hr; have := hfb.1; omega
    · rw [(hcl b (by omega) (by have := hf.hi i r hr; omega)).2, hw.top b (by omega)]
  have hNnot : ∀ b, St.N r.τ r.τ' b → ∀ (j : Nat) (s : Rec), rs[j]? = some s → D.getD j false = true → ¬ St.N s.τ s.τ' b := fun b hb j s hs hD hbs => by
    have hji : j ≠ i := fun e => by rw [e, hnot'] at hD; cases hD
    rcases Nat.lt_or_ge j i with hlt | hge
    · have := hf.ord j i s r hlt hs hr; have := hb.1; have := hbs.2; omega
    · have := hf.ord i j r s (by omega) hr hs; have := hb.2; have := hbs.1; omega
  have hNL : ∀ b, St.N r.τ r.τ' b → φ b = none ∧ L b = none := fun b hb => hcl b (by have := hf.lo i r hr; have := hb.1; omega) (by have := hf.hi i r hr; have := hb.2; omega)
  have hclear : Clear ψ M r.τ r.τ' := fun b h1 h2 => by
    have hN : St.N r.τ r.τ' b := ⟨h1, h2⟩
    obtain ⟨c1, c2⟩ := hNL b hN
    refine ⟨?_, ?_⟩
    · cases hp : ψ b with
      | none => rfl
      | some x =>
        obtain ⟨j, s, hs, hD, hbs⟩ := h.g.new b c1 (by rw [hp]; simp)
        exact absurd hbs (hNnot b hN j s hs hD)
    · rw [hmemi b (.inr (wst_iff.2 (.inr hN))), hLσ b h2 (.inr hN), ← hf.mem i r hr b]
      exact hwfi.top b h1
  have hagree : Agree M r.τ r.τ' := fun b hfb hb => by
    have hfb' : foot r b = true := foot_iff.2 hfb
    rw [hmemi b (.inl hfb'), hLσ b (Nat.lt_of_lt_of_le hb (hf.each i r hr).next) (.inl hfb'), hf.mem i r hr b]
  have hgl := hg.monoG h.g
  -- temporaries
  have htmp : ∀ t, t ∈ o.looksAt ops → VRel ψ ((r.T.get t).getD undef) (a.tmps.getD t undef) := fun t ht => by
    have := h.tmps t
    rw [hf.tmp i r hr t]
    rw [tvAt_congr (D' := fun j => decide (j < 0 + i))] at this
    · exact this
    · intro j s hs hd _
      simp only [Nat.zero_add]
      have hso := hf.op j s hs
      rw [Nat.zero_add] at hso
      rcases hk.look i o ho t ht j (hk.dst j s.o hso t hd) with ⟨h1, h2⟩ | ⟨h1, h2⟩
      · rw [hclo j h1, decide_eq_true h2]
      · have hnlt : ¬ j < i := by omega
        rw [decide_eq_false hnlt]
        cases hD : D.getD j false with
        | false => rfl
        | true => have := h.down j hD i h1; rw [hnot'] at this; cases this
  have hwant : Region.wanted o (yielded ops a.tmps) = Region.wanted o (lyield ops r.T) := wanted_eq fun j want hgd => (yield_at fun t ht => htmp t (by
    unfold Oper.looksAt
    simp only [hgd, ht, Option.toList]
    simp)).symm
  -- the state behind it
  have finish : ∀ ψ' M' w' v', VRel ψ' r.v v' → Step r.τ r.τ' ψ ψ' M M' w w' → K (a.put o.dst v') w' := by
    intro ψ' M' w' v' hv hst
    refine hK ψ' M' w' _ ?_
    have hset : ∀ j, (D.setIfInBounds i true).getD j false = (decide (j = i) || D.getD j false) := fun j => by
      rw [Array.getD_eq_getD_getElem?, Array.getD_eq_getD_getElem?]
      by_cases hji : i = j
      · subst hji; simp [Array.getElem?_setIfInBounds_self_of_lt hisz]
      · have : ¬ j = i := fun e => hji e.symm
        simp [Array.getElem?_setIfInBounds_ne hji, this]
    refine ⟨by simp [h.size], ?_, ?_, by simp [put_size, h.tsize], ?_, ?_, ?_⟩
    · refine (StepG.trans (fun b hb => (hNL b hb).2) h.g hst.g).wider ?_ ?_ ?_
      · rintro b (⟨j, s, hs, hD, hb⟩ | hb)
        · exact ⟨j, s, hs, by rw [hset, hD]; simp, hb⟩
        · exact ⟨i, r, hr, by rw [hset]; simp, hb⟩
      · rintro b (⟨j, s, hs, hD, hb⟩ | hb)
        · exact ⟨j, s, hs, by rw [hset, hD]; simp, hb⟩
        · exact ⟨i, r, hr, by rw [hset]; simp, hb⟩
      · rintro b ⟨j, s, hs, _, hb⟩
        exact (hcl b (by have := hf.lo j s hs; have := hb.1; omega) (by have := hf.hi j s hs; have := hb.2; omega)).2
    · intro b
      by_cases hwb : wst r b = true
      · rw [hst.here b (wst_iff.1 hwb), ← lofAt_at (k := 0) (x := L b) hr hwb]
        refine lofAt_congr fun j s hs hws => ?_
        simp only [Nat.zero_add]
        rw [hset]
        by_cases hji : j = i
        · subst hji; simp
        · have := hkey b (.inr hwb) j s hs hws hji
          rw [this]
          have e1 : decide (j = i) = false := decide_eq_false hji
          rw [e1, Bool.false_or]
          exact decide_eq_decide.2 (by omega)
      · have hns : ¬ (r.τ'.W b ∨ St.N r.τ r.τ' b) := fun x => hwb (wst_iff.2 x)
        rw [hst.g.stay b (fun x => hns (.inl x)) (fun x => hns (.inr x)), h.mem b]
        refine lofAt_congr fun j s hs hws => ?_
        simp only [Nat.zero_add]
        rw [hset]
        have hji : j ≠ i := fun e => by subst e; rw [hr] at hs; cases hs; exact hwb hws
        simp [hji]
    · cases o.dst <;> exact h.defers
    · intro t
      have hup : ∀ (x : Option Value) (y : Value), VRel ψ (x.getD undef) y → VRel ψ' (x.getD undef) y := fun x y hxy => hxy.mono hst.g.le
      by_cases hdt : o.dst = some t ∧ t < N
      · obtain ⟨hd, htN⟩ := hdt
        have e1 : tvAt N 0 rs (fun j => (D.setIfInBounds i true).getD j false) t (T.get t) = some r.v :=
          tvAt_one hr (by rw [hro]; exact hd) htN (by rw [hset]; simp) fun j s hs hds => by
            have hso := hf.op j s hs
            rw [Nat.zero_add] at hso
            have h1 := hk.dst j s.o hso t hds
            have h2 := hk.dst i o ho t hd
            rw [h1] at h2
            exact Option.some.inj h2
        have e2 : (a.put o.dst v').tmps.getD t undef = v' := by
          rw [hd]
          have : t < a.tmps.size := by rw [h.tsize]; exact htN
          simp [Act.put, this]
        rw [e1, e2]
        exact hv
      · have e1 : tvAt N 0 rs (fun j => (D.setIfInBounds i true).getD j false) t (T.get t) = tvAt N 0 rs (fun j => D.getD j false) t (T.get t) := tvAt_congr fun j s hs hds htN => by
          simp only [Nat.zero_add]
          rw [hset]
          have hji : j ≠ i := fun e => by
            subst e
            rw [hr] at hs; cases hs
            exact hdt ⟨by rw [← hro]; exact hds, htN⟩
          simp [hji]
        have e2 : (a.put o.dst v').tmps.getD t undef = a.tmps.getD t undef := by
          cases hd : o.dst with
          | none => rfl
          | some d =>
            by_cases hdt' : d = t
            · subst hdt'
              have : ¬ d < a.tmps.size := fun x => hdt ⟨hd, by rw [← h.tsize]; exact x⟩
              simp [Act.put, this]
            · simp [Act.put, Array.getElem?_setIfInBounds_ne hdt']
        rw [e1, e2]
        exact hup _ _ (h.tmps t)
    · intro j hj k hk'
      rw [hset] at hj ⊢
      by_cases hji : j = i
      · subst hji; rw [hclo k hk']; simp
      · simp only [hji, decide_false, Bool.false_or] at hj
        rw [h.down j hj k hk']; simp
  unfold wpOp
  simp only [ho]
  rw [hwant]
  rcases hf.run i r hr with ⟨hwt, hlop⟩ | ⟨hwt, hv, hτ⟩
  · rw [hro] at hwt
    simp only [hwt, if_true]
    refine .inl ?_
    rw [hro] at hlop
    have hall : o.op.operands.all (okRand E.G) = true := by
      unfold lop at hlop
      split at hlop
      · assumption
      · cases hlop
    rw [Array.all_eq_true_iff_forall_mem] at hall
    have hops : ∀ x ∈ o.op.operands, VRel ψ (lev r.T x) (a.eval x) := fun x hx => by
      have hx' := hall x hx
      cases x with
      | tmp t =>
        refine htmp t (List.mem_append_left _ (List.mem_filterMap.2 ⟨.tmp t, by simpa using hx, rfl⟩))
      | const v => exact .same2 hx'
      | global g =>
        obtain ⟨y, hy, hyg⟩ := List.any_eq_true.1 hx'
        have := (hgl y hy).1
        rw [eq_of_beq hyg] at this
        exact .ptr this
      | func f => exact .func (fun l => by simp) rfl rfl (fun i v v' h => by simp at h) (fun i v v' h => by simp at h)
    obtain ⟨_, s1⟩ := lop_spec hcall hlop
    refine (s1 ψ a.eval M w hgl hops hwfi (fun x hx => by rw [List.mem_singleton.1 hx]; exact ⟨hclear, hagree⟩) h.g.good).wp ?_
    rintro v' w' ⟨x, hx, φ', L', hv, hst⟩
    rw [List.mem_singleton.1 hx] at hv hst
    exact finish φ' L' w' v' hv hst
  · rw [hro] at hwt
    simp only [hwt, Bool.false_eq_true, if_false]
    refine finish ψ M w undef (by rw [hv]; exact .undef ψ) ?_
    rw [hτ]
    exact .refl h.g.good hwfi (by rw [hτ] at hagree; exact hagree)
theorem countP_lt {α : Type} {p q : α → Bool} : ∀ {l : List α}, (∀ x ∈ l, q x = true → p x = true) → ∀ {i : α}, i ∈ l → p i = true → q i = false → l.countP q < l.countP p
  | [], _, i, hi, _, _ => by cases hi
  | x :: l, h, i, hi, hp, hq => by
    have hle : l.countP q ≤ l.countP p := List.countP_mono_left fun y hy => h y (by simp [hy])
    rcases List.mem_cons.1 hi with rfl | hi
    · rw [List.countP_cons_of_pos hp, List.countP_cons_of_neg (by simp [hq])]; omega
    · have := countP_lt (fun y hy => h y (by simp [hy])) hi hp hq
      by_cases hx : q x = true
      · rw [List.countP_cons_of_pos hx, List.countP_cons_of_pos (h x (by simp) hx)]; omega
      · rw [List.countP_cons_of_neg hx]
        have := List.countP_le_length (p := p) (l := [x])
        by_cases hpx : p x = true
        · rw [List.countP_cons_of_pos hpx]; omega
        · rw [List.countP_cons_of_neg hpx]; omega
def unl (n : Nat) (D : Array Bool) : Nat := (List.range n).countP fun j => !D.getD j false
theorem draw_any (hcall : CallOK E call) (hk : Sok ops c W) (hf : Facts E call N ops 0 rs T σ T' σ') (hlen : rs.length = ops.size)
    (hi : ∀ {i j : Nat} {r s : Rec}, i < j → rs[i]? = some r → rs[j]? = some s → ¬ (c.getD j 0).testBit i = true → ∀ b, (wst r b = true → foot s b = false ∧ wst s b = false) ∧ (wst s b = true → foot r b = false ∧ wst r b = false))
    (hg : Glob E φ L) (hw : WF σ) (hcl : Clear φ L σ σ') (hag : Agree L σ σ') {Q : Exit → Act → World → Prop}
    (hQ : ∀ D ψ M w a, Inv E N ops c rs T φ L w₀ D ψ M w a → (∀ i, i < ops.size → D.getD i false = true) → Q .normal a w) :
    ∀ (fuel : Nat) (D : Array Bool) (ψ : Emb) (M : Nat → Option LObj) (w : World) (a : Act), Inv E N ops c rs T φ L w₀ D ψ M w a → unl ops.size D ≤ fuel → wpAny E.P .any ops Q fuel D a w := by
  have stuck : ∀ D ψ M w a, Inv E N ops c rs T φ L w₀ D ψ M w a → Region.ready .any ops D = [] → ∀ i, i < ops.size → D.getD i false = true := by
    intro D ψ M w a h hr i
    induction i using Nat.strongRecOn with
    | _ i ih =>
      intro his
      cases hD : D.getD i false with
      | true => rfl
      | false =>
        exfalso
        have ho : ops[i]? = some ops[i] := Array.getElem?_eq_getElem his
        have hm : i ∈ Region.ready .any ops D := by
          rw [mem_ready]
          refine ⟨?_, ops[i], ho, fun e he hb => ?_⟩
          · have hlt : i < D.size := by rw [h.size]; exact his
            have e1 : D[i]? = some D[i] := Array.getElem?_eq_getElem hlt
            rw [Array.getD_eq_getD_getElem?, e1] at hD ⊢
            simpa using hD
          · have hlt := hk.lt i _ ho e he hb
            exact ih e.on hlt (by omega)
        rw [hr] at hm
        cases hm
  intro fuel
  induction fuel with
  | zero =>
    intro D ψ M w a h hu
    have hall : ∀ i, i < ops.size → D.getD i false = true := fun i his => by
      have h0 : unl ops.size D = 0 := by omega
      unfold unl at h0
      rw [List.countP_eq_zero] at h0
      have := h0 i (List.mem_range.2 his)
      simpa using this
    refine ⟨?_, hQ D ψ M w a h hall⟩
    cases hr : Region.ready .any ops D with
    | nil => rfl
    | cons i l =>
      exfalso
      have hm : i ∈ Region.ready .any ops D := by rw [hr]; simp
      obtain ⟨h1, o, ho, _⟩ := mem_ready.1 hm
      have his : i < ops.size := (Array.getElem?_eq_some_iff.1 ho).1
      have h2 := hall i his
      have hlt : i < D.size := by rw [h.size]; exact his
      have e1 : D[i]? = some D[i] := Array.getElem?_eq_getElem hlt
      rw [Array.getD_eq_getD_getElem?, e1] at h1 h2
      simp at h1 h2
      rw [h1] at h2; cases h2
  | succ fuel ih =>
    intro D ψ M w a h hu
    refine ⟨fun hr => hQ D ψ M w a h (stuck D ψ M w a h hr), fun i hm => ?_⟩
    obtain ⟨h1, o, ho, hready⟩ := mem_ready.1 hm
    have his : i < ops.size := (Array.getElem?_eq_some_iff.1 ho).1
    have hr : rs[i]? = some rs[i] := List.getElem?_eq_getElem (by rw [hlen]; exact his)
    refine inv_step hcall hk hf hi hg hw hcl hag h ho hr h1 hready fun ψ' M' w' a' h' => ih _ ψ' M' w' a' h' ?_
    have hsz : i < D.size := by rw [h.size]; exact his
    have hset : ∀ j, (D.setIfInBounds i true).getD j false = (decide (j = i) || D.getD j false) := fun j => by
      rw [Array.getD_eq_getD_getElem?, Array.getD_eq_getD_getElem?]
      by_cases hji : i = j
      · subst hji; simp [Array.getElem?_setIfInBounds_self_of_lt hsz]
      · have : ¬ j = i := fun e => hji e.symm
        simp [Array.getElem?_setIfInBounds_ne hji, this]
    have : unl ops.size (D.setIfInBounds i true) < unl ops.size D := by
      unfold unl
      refine countP_lt (fun j _ hj => ?_) (List.mem_range.2 his) ?_ ?_
      · rw [hset] at hj; simp at hj ⊢; exact hj.2
      · have e1 : D[i]? = some D[i] := Array.getElem?_eq_getElem hsz
        rw [Array.getD_eq_getD_getElem?, e1] at h1
        simp at h1
        rw [Array.getD_eq_getD_getElem?, e1]
        simp [h1]
      · rw [hset]; simp
    omega
theorem drawF_ok (hm : E.P.follows .mixedOrders = true) : DrawOK E (drawF E) := by
  intro call N ops T σ T' σ' hcall h
  unfold drawF at h
  split at h
  · rename_i hsok
    split at h
    · rename_i rs T1 σ1 hld
      split at h
      · rename_i hpairs
        cases h
        obtain ⟨hch, hlen⟩ := ldraw_chain ops.size 0 T σ rs T' σ' (by rw [List.range_eq_range'] at hld; exact hld)
        have hf := hch.facts hcall
        have hk : Sok ops (masks ops) (writers ops) := sokC_spec hsok
        refine ⟨hf.prop, fun id φ L w a Q hg hT hw hcl hag hgood hQ => ?_⟩
        have hgood' : Good φ L { w with drawn := w.drawn + 1 } := ⟨hgood.obj, hgood.inj⟩
        refine wp_region_any hm (draw_any (w₀ := { w with drawn := w.drawn + 1 }) hcall hk hf hlen (fun hij hr hs hc b => indep hpairs hf.ord hij hr hs hc b) hg hw hcl hag ?_ ops.size _ φ L _ a ?_ ?_)
        · intro D ψ M w' a' h hall
          have hD : ∀ (i : Nat) (r : Rec), rs[i]? = some r → D.getD i false = true := fun i r hr => hall i (by rw [← hlen]; exact (List.getElem?_eq_some_iff.1 hr).1)
          refine hQ ψ M a' w' ⟨h.tsize, h.defers, fun t => ?_⟩ ⟨?_, fun b hb => ?_⟩
          · have := h.tmps t
            rw [hf.tlast t]
            rw [tvAt_congr (D' := fun _ => true) fun i r hr _ _ => by rw [Nat.zero_add]; exact hD i r hr] at this
            exact this
          · have hst : StepG σ'.W (St.N σ σ') φ ψ L M { w with drawn := w.drawn + 1 } w' := h.g.wider (fun b ⟨i, r, hr, _, hb⟩ => hf.wr i r hr b hb)
              (fun b ⟨i, r, hr, _, hb⟩ => ⟨Nat.le_trans (hf.lo i r hr) hb.1, Nat.lt_of_lt_of_le hb.2 (hf.hi i r hr)⟩) (fun b hb => (hcl b hb.1 hb.2).2)
            exact ⟨hst.le, hst.new, hst.good, hst.stay, hst.dead, hst.size, hst.frame, hst.fresh, hst.kept, hst.rom⟩
          · rw [h.mem b, hf.last b]
            rw [lofAt_congr (D' := fun _ => true) fun i r hr _ => by rw [Nat.zero_add]; exact hD i r hr]
            congr 1
            by_cases hlt : b < σ.next
            · rcases hb with hb | hb
              · exact hag b (.inr hb) hlt
              · have := hb.1; omega
            · have hb2 : b < σ'.next := by
                rcases hb with hb | hb
                · exact (hf.prop.wf hw).wr b hb
                · exact hb.2
              rw [(hcl b (by omega) hb2).2, hw.top b (by omega)]
        · have hno : ∀ i, (Array.replicate ops.size false).getD i false = false := fun i => by
            rw [Array.getD_eq_getD_getElem?, Array.getElem?_replicate]; split <;> rfl
          refine ⟨by simp, ?_, fun b => ?_, hT.1, hT.2.1, fun t => ?_, fun i hi => ?_⟩
          · exact (StepG.refl (fun b => ∃ (i : Nat) (r : Rec), rs[i]? = some r ∧ (Array.replicate ops.size false).getD i false = true ∧ r.τ'.W b) hgood').wider (fun b hb => hb) (fun b hb => hb.elim) (fun b ⟨i, r, _, hD, _⟩ => by rw [hno] at hD; cases hD)
          · rw [lofAt_none fun i => hno _]
          · rw [tvAt_none fun i r _ _ _ => hno _]; exact hT.2.2 t
          · rw [hno] at hi; cases hi
        · unfold unl
          have := List.countP_le_length (p := fun j => !(Array.replicate ops.size false).getD j false) (l := List.range ops.size)
          simpa using this
      · cases h
    · cases h
  · cases h
end
end
theorem run_ok {E : Env} (hm : E.P.follows .mixedOrders = true) (hknown : KnownOK E) (hhook : CallOK E E.hook) (n : Nat) : CallOK E (run E n) :=
  lcall_ok hknown hhook (lresF_ok E) (lcode_spec hknown hhook (drawF_ok hm) (lresF_ok E) n)
end Go.Proofs.YtjchnkmolhgpmaaGreatDoor.Ck

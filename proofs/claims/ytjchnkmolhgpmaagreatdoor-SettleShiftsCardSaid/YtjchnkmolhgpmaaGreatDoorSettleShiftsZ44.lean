/- Texts of SettleShifts's proof, together. -/
import Derived.Test.YtjchnkmolhgpmaaGreatDoorCkA
import Derived.Deep.AppendSrc
namespace Go.Proofs.YtjchnkmolhgpmaaGreatDoor
/- The checker's operations: each one runs in a world as it runs on the checker's memory. -/
namespace Ck
open Go
def sval (P : Program) {α : Type} : Sem α → Option α
  | .pure a => some a
  | .program k => sval P (k P)
  | .mark _ k => sval P k
  | _ => none
section
variable {P : Program} {φ : Emb} {α β γ δ : Type} {A : Emb → α → β → Prop}
theorem sval_run {s : Sem α} {a : α} (h : sval P s = some a) (w : World) : s.run P w = .ok a w := by
  induction s with
  | pure x => cases h; rfl
  | program k ih => exact ih _ h
  | mark m k ih => exact ih h
  | _ => cases h
theorem AdR.of {b b' e off : Nat} (h : φ b = some (b', e)) : AdR φ ⟨b, off, none⟩ ⟨b', off, none⟩ := ⟨rfl, rfl, rfl, e, h⟩
def NoRun (P : Program) (s : Sem α) : Prop := ∀ σ outs, lrun P s σ ≠ some outs
theorem NoRun.halt (x : Halt) : NoRun P (.halt x : Sem α) := fun σ outs h => by cases h
theorem NoRun.bindR {s : Sem α} {f : α → Sem β} (h : ∀ a, NoRun P (f a)) : NoRun P (s >>= f) := fun σ outs hr => by
  obtain ⟨l, h1, h2⟩ := lrun_bind P s f σ outs hr
  cases l with
  | nil => exact (lrun_prop P s σ _ h1).1 rfl
  | cons o l => obtain ⟨r, hr', _⟩ := h2 o (by simp); exact h o.1 _ _ hr'
theorem NoRun.bindL {s : Sem α} {f : α → Sem β} (h : NoRun P s) : NoRun P (s >>= f) := fun σ outs hr => by
  obtain ⟨l, h1, _⟩ := lrun_bind P s f σ outs hr
  exact h _ _ h1
theorem SimS.no {s : Sem α} {t : Sem β} (h : NoRun P s) : SimS P φ A s t := fun _ψ _ σ outs _L _w hr => absurd hr (h σ outs)
theorem no_runtimePanic (e : RuntimeError) : NoRun P (runtimePanic e : Sem α) := by
  unfold runtimePanic
  refine NoRun.bindR fun p => ?_
  cases e <;> first
    | exact NoRun.halt _
    | (repeat (first | exact NoRun.halt _ | refine NoRun.bindR fun _ => ?_))
theorem no_boundsPanic (k : IntKind) (x y : Int) (c : BoundsCode) : NoRun P (boundsPanic k x y c : Sem α) := by
  unfold boundsPanic
  dsimp only
  split <;> exact NoRun.bindR fun _ => no_runtimePanic _
theorem sim_underlying (t : TypeId) : SimS P φ (fun _ d d' => d = d' ∧ P.underlying t = some d) (underlying t) (underlying t) := by
  unfold underlying
  refine SimS.bind SimS.program ?_
  rintro ψ hl p q ⟨rfl, rfl⟩
  cases h : P.underlying t with
  | none => exact SimS.halt
  | some d => exact SimS.ret fun _ _ => ⟨rfl, rfl⟩
theorem sim_typeInfo (t : TypeId) : SimS P φ (fun _ d d' => d = d' ∧ P.info? t = some d) (typeInfo t) (typeInfo t) := by
  unfold typeInfo
  refine SimS.bind SimS.program ?_
  rintro ψ hl p q ⟨rfl, rfl⟩
  cases h : P.info? t with
  | none => exact SimS.halt
  | some d => exact SimS.ret fun _ _ => ⟨rfl, rfl⟩
theorem sim_sizeOf (t : TypeId) : SimS P φ (fun _ a b => a = b ∧ ∃ i, P.info? t = some i ∧ i.size = a) (sizeOf t) (sizeOf t) := by
  unfold sizeOf
  refine SimS.bind (sim_typeInfo t) ?_
  rintro ψ hl i _ ⟨rfl, h⟩
  exact SimS.ret fun _ _ => ⟨rfl, _, h, rfl⟩
theorem sim_isAgg (t : TypeId) : SimS P φ (fun _ a b => a = b) (isAgg t) (isAgg t) := by
  unfold isAgg
  refine SimS.bind (sim_underlying t) ?_
  rintro ψ hl i _ ⟨rfl, h⟩
  cases i <;> exact SimS.ret fun _ _ => rfl
def zok (P : Program) (t : TypeId) : Bool :=
  match P.info? t with
  | some i => match i.zero with
    | some z => scal1 z
    | none => true
  | none => true
theorem sim_zero {t : TypeId} (hz : zok P t = true) : SimS P φ (fun _ v v' => v = v' ∧ scal1 v = true) (zeroValue t) (zeroValue t) := by
  unfold zeroValue
  refine SimS.bind (sim_typeInfo t) ?_
  rintro ψ hl j _ ⟨rfl, h⟩
  simp only [zok, h] at hz
  cases hj : j.zero with
  | none => exact SimS.halt
  | some z => rw [hj] at hz; exact SimS.ret fun _ _ => ⟨rfl, hz⟩
theorem sim_asIntOf {v v' : Value} (h : VRel φ v v') : SimS P φ (fun _ a b => a = b) (asIntOf v) (asIntOf v') := by
  cases h with
  | sc hs => cases v <;> first | exact SimS.ret fun _ _ => rfl | exact SimS.halt | (rename_i a; cases a <;> first | exact SimS.halt | simp [scal] at hs)
  | _ => exact SimS.halt
theorem sim_asInt {v v' : Value} (h : VRel φ v v') : SimS P φ (fun _ a b => a = b) (asInt v) (asInt v') := by
  unfold asInt
  refine SimS.bind (sim_asIntOf h) ?_
  rintro ψ hl a b rfl
  exact SimS.ret fun _ _ => rfl
theorem sim_asBool {v v' : Value} (h : VRel φ v v') : SimS P φ (fun _ a b => a = b) (asBool v) (asBool v') := by
  cases h with
  | sc hs => cases v <;> first | exact SimS.ret fun _ _ => rfl | exact SimS.halt
  | _ => exact SimS.halt
theorem sim_asAgg {v v' : Value} (h : VRel φ v v') : SimS P φ ARel (asAgg v) (asAgg v') := by
  cases h with
  | agg hc h => exact SimS.ret fun ψ hl => ARel.mono hl ⟨hc, h⟩
  | sc hs => cases v <;> first | exact SimS.halt | simp [scal] at hs
  | _ => exact SimS.halt
theorem sim_sureAddr {v v' : Value} (h : VRel φ v v') : SimS P φ AdR (Instr.sureAddr v) (Instr.sureAddr v') := by
  cases h with
  | ptr h => exact SimS.ret fun ψ hl => ⟨rfl, rfl, rfl, _, hl _ _ h⟩
  | sc hs => cases v <;> first | exact SimS.halt | (rename_i a; cases a <;> first | exact SimS.halt | simp [scal] at hs)
  | _ => exact SimS.halt
theorem sim_asAddr {v v' : Value} (h : VRel φ v v') : SimS P φ AdR (asAddr v) (asAddr v') := by
  cases h with
  | ptr h => exact SimS.ret fun ψ hl => ⟨rfl, rfl, rfl, _, hl _ _ h⟩
  | sc hs => cases v <;> first | exact SimS.halt | (rename_i a; cases a <;> first | exact SimS.no (show NoRun P (runtimePanic .nilDeref : Sem Addr) from no_runtimePanic _) | simp [scal] at hs)
  | _ => exact SimS.halt
theorem sim_loadCellsFrom (n : Nat) : ∀ {φ : Emb} {a a' : Addr} (i : Nat) {acc acc' : Array Value}, AdR φ a a' → ARel φ acc acc' → SimS P φ ARel (loadCellsFrom a i n acc) (loadCellsFrom a' i n acc') := by
  induction n with
  | zero => intro φ a a' i acc acc' ha hacc; exact SimS.ret fun ψ hl => hacc.mono hl
  | succ n ih =>
    intro φ a a' i acc acc' ha hacc
    unfold loadCellsFrom
    refine SimS.bind (sim_load _ (ha.add i)) ?_
    intro ψ hl v v' hv
    exact ih (i + 1) (ha.mono hl) ((hacc.mono hl).push hv)
theorem sim_loadCells {a a' : Addr} (n : Nat) (h : AdR φ a a') : SimS P φ ARel (loadCells a n) (loadCells a' n) := sim_loadCellsFrom n 0 h (.empty φ)
theorem sim_storeCells : ∀ {l l' : List Value} {φ : Emb} {a a' : Addr} (i : Nat), AdR φ a a' → LRel φ l l' → SimS P φ (fun _ _ _ => True) (storeCells a l i) (storeCells a' l' i) := by
  intro l
  induction l with
  | nil => intro l' φ a a' i ha hl; rw [hl.nil_inv]; exact SimS.ret fun _ _ => trivial
  | cons v l ih =>
    intro l' φ a a' i ha hl
    obtain ⟨v', m, rfl, hv, hm⟩ := hl.cons_inv
    unfold storeCells
    refine SimS.bind (sim_store _ (ha.add i) hv) ?_
    intro ψ hle _ _ _
    exact ih (i + 1) (ha.mono hle) (hm.mono hle)
theorem sim_loadVar {a a' : Addr} (t : TypeId) (h : AdR φ a a') : SimS P φ VRel (loadVar t a) (loadVar t a') := by
  unfold loadVar
  refine SimS.bind (sim_isAgg t) ?_
  rintro ψ hl b _ rfl
  cases b with
  | false => exact sim_load _ (h.mono hl)
  | true =>
    refine SimS.bind (sim_sizeOf t) ?_
    rintro ψ' hl' n _ ⟨rfl, _⟩
    refine SimS.bind (sim_loadCells _ ((h.mono hl).mono hl')) ?_
    intro χ hχ cs ds hcs
    exact SimS.ret fun _ hle => (VRel.aggOf hcs).mono hle
theorem sim_storeVar {a a' : Addr} {v v' : Value} (t : TypeId) (h : AdR φ a a') (hv : VRel φ v v') : SimS P φ (fun _ _ _ => True) (storeVar t a v) (storeVar t a' v') := by
  unfold storeVar
  refine SimS.bind (sim_sizeOf t) ?_
  rintro ψ hl n _ ⟨rfl, _⟩
  have hc := (hv.mono hl).cells
  by_cases hn : v.cells.size = n
  · have hn' : v'.cells.size = n := by rw [hc.1, hn]
    simp only [hn, hn', ne_eq, not_true_eq_false, if_false]
    exact sim_storeCells 0 (h.mono hl) hc.toList
  · simp only [ne_eq, hn, not_false_eq_true, if_true]
    exact SimS.no (NoRun.bindL (NoRun.halt _))
def AdN (φ : Emb) (a a' : Addr) : Prop := ∃ b b', a = ⟨b, 0, none⟩ ∧ a' = ⟨b', 0, none⟩ ∧ φ b = some (b', 0)
theorem AdN.ptr {a a' : Addr} (h : AdN φ a a') : VRel φ (.pointer (some a)) (.pointer (some a')) := by
  obtain ⟨b, b', rfl, rfl, h⟩ := h; exact .ptr h
theorem AdN.slice {a a' : Addr} (h : AdN φ a a') (n c : Nat) : VRel φ (.slice (some a) n c) (.slice (some a') n c) := by
  obtain ⟨b, b', rfl, rfl, h⟩ := h; exact .slice (e := 0) h
theorem AdN.mono {ψ : Emb} (hl : Le φ ψ) {a a' : Addr} (h : AdN φ a a') : AdN ψ a a' := by
  obtain ⟨b, b', h1, h2, h⟩ := h; exact ⟨b, b', h1, h2, hl _ _ h⟩
theorem sim_newRow {c c' : Array Value} (T : TypeId) (h : ARel φ c c') : SimS P φ AdN (newRow T c) (newRow T c') := by
  unfold newRow
  refine SimS.bind (sim_new T h) ?_
  intro ψ hl r r' hr
  exact SimS.ret fun χ hχ => ⟨_, _, rfl, rfl, hχ _ _ hr⟩
theorem sim_part {cs ds : Array Value} (t : TypeId) (off : Nat) (h : ARel φ cs ds) : SimS P φ VRel (part t cs off) (part t ds off) := by
  unfold part
  refine SimS.bind (sim_isAgg t) ?_
  rintro ψ hl b _ rfl
  cases b with
  | true =>
    refine SimS.bind (sim_sizeOf t) ?_
    rintro ψ' hl' n _ ⟨rfl, _⟩
    exact SimS.ret fun _ hle => VRel.aggOf ((((h.mono hl).mono hl').extract _ _).mono hle)
  | false =>
    cases hc : cs[off]? with
    | none => simp only []; exact SimS.halt
    | some v =>
      obtain ⟨v', hv', hr⟩ := (h.mono hl).get hc
      simp only [hv']
      exact SimS.ret fun _ hle => hr.mono hle
def NRel (φ : Emb) : Next → Next → Prop
  | .value v, .value v' => VRel φ v v'
  | .skip, .skip => True
  | .enter f args, .enter f' args' => f' = f ∧ ARel φ args args'
  | _, _ => False
theorem SimS.value {s t : Sem Value} (h : SimS P φ VRel s t) : SimS P φ NRel (do pure (.value (← s))) (do pure (.value (← t))) := by
  refine SimS.bind h ?_
  intro ψ hl v v' hv
  exact SimS.ret fun _ hle => hv.mono hle
theorem SimS.unit {s t : Sem Unit} (h : SimS P φ (fun _ _ _ => True) s t) : SimS P φ NRel (do s; pure .skip) (do t; pure .skip) := by
  refine SimS.bind h ?_
  intro ψ hl v v' hv
  exact SimS.ret fun _ hle => True.intro
theorem sim_fieldAt {s : TypeId} {x x' : Value} {f : Nat} (hs : ∀ fs fd i, P.underlying s = some (.struct fs) → fs[f]? = some fd → P.info? fd.type = some i → i.size ≠ 0) (h : VRel φ x x') :
    SimS P φ VRel (Instr.fieldAt s x f) (Instr.fieldAt s x' f) := by
  unfold Instr.fieldAt
  refine SimS.bind (sim_underlying s) ?_
  rintro ψ hl d _ ⟨rfl, hd⟩
  cases d <;> first | exact SimS.halt | skip
  rename_i fields
  cases hf : fields[f]? with
  | none => simp only [hf]; exact SimS.halt
  | some fd =>
    simp only [hf]
    refine SimS.bind (sim_sureAddr (h.mono hl)) ?_
    intro ψ' hl' a a' ha
    unfold fieldPlace
    refine SimS.bind ?_ (A := AdR) ?_
    · refine SimS.bind (sim_sizeOf fd.type) ?_
      rintro ψ'' hl'' n _ ⟨rfl, i, hi, rfl⟩
      have := hs _ _ _ hd hf hi
      simp only [this, if_false]
      exact SimS.ret fun _ hle => ((ha.mono hl'').add _).mono hle
    · intro χ hχ b b' hb
      exact SimS.ret fun _ hle => (hb.mono hle).ptr
def idxTail (t : TypeId) (k : IntKind) (n : Int) (b : Option Addr) (len : Nat) (elem : TypeId) : Sem Value := do
  let tiny := len ≤ 1 && (match ← underlying t with | .array .. => true | _ => false)
  match b with
  | some a =>
    if 0 ≤ n ∧ n < len then pure (.pointer (some (a.add (n.toNat * (← sizeOf elem)))))
    else if tiny then unsupported (.noEntry "op/indexAddr.an index out of range at an array of length 0 or 1 (ledger 616)")
    else boundsPanic k n len .index
  | none => boundsPanic k n 0 .index
theorem sim_idxNone (t : TypeId) (k : IntKind) (n : Int) (len : Nat) (elem : TypeId) (s : Sem Value) : SimS P φ VRel (idxTail t k n none len elem) s := by
  unfold idxTail
  exact SimS.no (NoRun.bindR fun _ => no_boundsPanic _ _ _ _)
theorem sim_idxTail (t : TypeId) (k : IntKind) (n : Int) {a a' : Addr} (len : Nat) (elem : TypeId) (ha : AdR φ a a') : SimS P φ VRel (idxTail t k n (some a) len elem) (idxTail t k n (some a') len elem) := by
  unfold idxTail
  refine SimS.bind (sim_underlying t) ?_
  rintro ψ3 hl3 d' _ ⟨rfl, hd'⟩
  simp only
  split
  · refine SimS.bind (sim_sizeOf elem) ?_
    rintro ψ4 hl4 s _ ⟨rfl, _⟩
    exact SimS.ret fun _ hle => ((((ha.mono hl3).mono hl4).add _).mono hle).ptr
  · refine SimS.no ?_
    split <;> (split <;> first | exact NoRun.halt _ | exact no_boundsPanic _ _ _ _)
theorem sim_indexAt {t : TypeId} {x x' i i' : Value} (h : VRel φ x x') (hi : VRel φ i i') : SimS P φ VRel (Instr.indexAt t x i) (Instr.indexAt t x' i') := by
  unfold Instr.indexAt
  refine SimS.bind (sim_asIntOf hi) ?_
  rintro ψ hl ⟨k, n⟩ _ rfl
  refine SimS.bind (sim_underlying t) ?_
  rintro ψ1 hl1 d _ ⟨rfl, hd⟩
  have hx := (h.mono hl).mono hl1
  cases d <;> first | exact SimS.no (NoRun.bindL (NoRun.halt _)) | skip
  case array len elem =>
    refine SimS.bind (sim_sureAddr hx) ?_
    intro ψ2 hl2 a a' ha
    exact sim_idxTail t k n len elem ha
  case slice elem =>
    cases hx with
    | slice hb => exact sim_idxTail t k n _ elem ⟨rfl, rfl, rfl, _, hb⟩
    | sc hs =>
      cases x <;> first | exact SimS.no (NoRun.bindL (NoRun.halt _)) | skip
      rename_i a _ _
      cases a with
      | none => exact sim_idxNone t k n 0 elem _
      | some a => simp [scal] at hs
    | _ => exact SimS.no (NoRun.bindL (NoRun.halt _))
theorem sim_field {t : TypeId} {x x' : Value} {f : Nat} (h : VRel φ x x') : SimS P φ VRel (Instr.field t x f) (Instr.field t x' f) := by
  unfold Instr.field
  refine SimS.bind (sim_underlying t) ?_
  rintro ψ hl d _ ⟨rfl, hd⟩
  cases d <;> first | exact SimS.halt | skip
  rename_i fields
  cases hf : fields[f]? with
  | none => simp only [hf]; exact SimS.halt
  | some fd =>
    simp only [hf]
    refine SimS.bind (sim_asAgg (h.mono hl)) ?_
    intro ψ' hl' a a' ha
    exact sim_part _ _ ha
theorem sim_index {t : TypeId} {x x' i i' : Value} (h : VRel φ x x') (hi : VRel φ i i') : SimS P φ VRel (Instr.index t x i) (Instr.index t x' i') := by
  unfold Instr.index
  refine SimS.bind (sim_asIntOf hi) ?_
  rintro ψ hl ⟨k, n⟩ _ rfl
  refine SimS.bind (sim_underlying t) ?_
  rintro ψ1 hl1 d _ ⟨rfl, hd⟩
  have hx := (h.mono hl).mono hl1
  cases d <;> first | exact SimS.halt | skip
  case array len elem =>
    cases hx with
    | agg hc hh =>
      simp only
      split
      · refine SimS.bind (sim_sizeOf elem) ?_
        rintro ψ4 hl4 s _ ⟨rfl, _⟩
        exact sim_part _ _ (ARel.mono hl4 ⟨hc, hh⟩)
      · exact SimS.no (no_boundsPanic _ _ _ _)
    | sc hs => cases x <;> first | exact SimS.halt | simp [scal] at hs
    | _ => exact SimS.halt
  case string =>
    cases hx with
    | sc hs =>
      cases x <;> first | exact SimS.halt | skip
      simp only
      split
      · exact SimS.ret fun _ _ => .sc rfl
      · exact SimS.no (no_boundsPanic _ _ _ _)
    | _ => exact SimS.halt
theorem sim_extract {x x' : Value} {i : Nat} (h : VRel φ x x') : SimS P φ VRel (Instr.extract x i) (Instr.extract x' i) := by
  cases h with
  | tuple hc h =>
    rename_i cs ds
    unfold Instr.extract
    cases hv : cs[i]? with
    | none => simp only [hv]; exact SimS.halt
    | some v =>
      obtain ⟨v', hv', hr⟩ := ARel.get ⟨hc, h⟩ hv
      simp only [hv, hv']
      exact SimS.ret fun _ hle => hr.mono hle
  | sc hs => cases x <;> first | exact SimS.halt | simp [scal] at hs
  | _ => exact SimS.halt
def PRel (φ : Emb) : List (Nat × Value) → List (Nat × Value) → Prop
  | [], [] => True
  | (i, v) :: l, (j, v') :: m => j = i ∧ VRel φ v v' ∧ PRel φ l m
  | _, _ => False
theorem PRel.mono {ψ : Emb} (hl : Le φ ψ) : ∀ {l m : List (Nat × Value)}, PRel φ l m → PRel ψ l m
  | [], [], _ => trivial
  | (_, _) :: _, (_, _) :: _, h => ⟨h.1, h.2.1.mono hl, h.2.2.mono hl⟩
  | [], _ :: _, h => h.elim
  | _ :: _, [], h => h.elim
theorem foldl_set {cs : List Value} : ∀ {ds : List Value} {xs ys : Array Value} (k off : Nat), LRel φ cs ds → ARel φ xs ys →
    ARel φ ((cs.zipIdx k).foldl (fun a (x : Value × Nat) => a.setIfInBounds (off + x.2) x.1) xs) ((ds.zipIdx k).foldl (fun a (x : Value × Nat) => a.setIfInBounds (off + x.2) x.1) ys) := by
  induction cs with
  | nil => intro ds xs ys k off h hx; rw [h.nil_inv]; exact hx
  | cons c cs ih =>
    intro ds xs ys k off h hx
    obtain ⟨d, ds, rfl, hc, hl⟩ := h.cons_inv
    simp only [List.zipIdx_cons, List.foldl_cons]
    exact ih (k + 1) off hl (hx.set _ hc)
theorem fill_rel {place : Nat → Option (Nat × Nat)} : ∀ {l m : List (Nat × Value)} {xs ys r : Array Value}, PRel φ l m → ARel φ xs ys → Instr.fill place xs l = some r →
    ∃ r', Instr.fill place ys m = some r' ∧ ARel φ r r' := by
  intro l
  induction l with
  | nil =>
    intro m xs ys r hp hx h
    cases m with
    | nil => cases h; exact ⟨ys, rfl, hx⟩
    | cons _ _ => exact hp.elim
  | cons p l ih =>
    intro m xs ys r hp hx h
    obtain ⟨i, v⟩ := p
    cases m with
    | nil => exact hp.elim
    | cons q m =>
      obtain ⟨j, v'⟩ := q
      obtain ⟨rfl, hv, hp⟩ := hp
      have hc := hv.cells
      unfold Instr.fill at h ⊢
      cases hpl : place j with
      | none => simp [hpl] at h
      | some os =>
        obtain ⟨off, size⟩ := os
        simp only [hpl] at h ⊢
        rw [hc.1, hx.1]
        split at h
        · cases h
        · rename_i hcond
          simp only [hcond]
          refine ih hp ?_ h
          have := foldl_set 0 off hc.toList hx
          rw [← Array.foldl_toList, ← Array.foldl_toList, Array.toList_zipIdx, Array.toList_zipIdx]
          exact this
theorem sim_build {t : TypeId} {ps qs : Array (Nat × Value)} (hz : zok P t = true) (h : PRel φ ps.toList qs.toList) : SimS P φ VRel (Instr.build t ps) (Instr.build t qs) := by
  unfold Instr.build
  refine SimS.bind (sim_zero hz) ?_
  rintro ψ hl z _ ⟨rfl, hs⟩
  refine SimS.bind (sim_underlying t) ?_
  rintro ψ1 hl1 d _ ⟨rfl, hd⟩
  have hp := (h.mono hl).mono hl1
  have hzc : ∀ χ, ARel χ z.cells z.cells := fun χ => (VRel.same1 hs).cells
  cases d <;> first | exact SimS.halt | skip
  case struct fields =>
    refine SimS.bind (A := fun _ a b => a = b) ?_ ?_
    · have key : ∀ (l : List Field) (χ : Emb), SimS P χ (fun _ a b => a = b) (l.mapM fun f => (do pure (f.offset, ← sizeOf f.type) : Sem (Nat × Nat))) (l.mapM fun f => (do pure (f.offset, ← sizeOf f.type) : Sem (Nat × Nat))) := by
        intro l
        induction l with
        | nil => intro χ; exact SimS.ret fun _ _ => rfl
        | cons f l ih =>
          intro χ
          simp only [List.mapM_cons]
          refine SimS.bind (A := fun _ a b => a = b) ?_ ?_
          · refine SimS.bind (sim_sizeOf _) ?_
            rintro _ _ n _ ⟨rfl, _⟩
            exact SimS.ret fun _ _ => rfl
          · rintro χ1 hχ1 x _ rfl
            refine SimS.bind (ih χ1) ?_
            rintro _ _ xs _ rfl
            exact SimS.ret fun _ _ => rfl
      simp only [Array.mapM_eq_mapM_toList]
      refine SimS.bind (key _ _) ?_
      rintro _ _ xs _ rfl
      exact SimS.ret fun _ _ => rfl
    · rintro ψ2 hl2 places _ rfl
      cases hf : Instr.fill (places[·]?) z.cells ps.toList with
      | none => simp only []; exact SimS.halt
      | some r =>
        obtain ⟨r', hr', hrel⟩ := fill_rel (hp.mono hl2) (hzc ψ2) hf
        simp only [hr']
        exact SimS.ret fun _ hle => (VRel.aggOf hrel).mono hle
  case array n elem =>
    refine SimS.bind (sim_sizeOf elem) ?_
    rintro ψ2 hl2 s _ ⟨rfl, _⟩
    cases hf : Instr.fill (fun i => some (i * s, s)) z.cells ps.toList with
    | none => simp only []; exact SimS.halt
    | some r =>
      obtain ⟨r', hr', hrel⟩ := fill_rel (hp.mono hl2) (hzc ψ2) hf
      simp only [hr']
      exact SimS.ret fun _ hle => (VRel.aggOf hrel).mono hle
theorem zeros_rel {z : Value} (hs : scal1 z = true) (n : Nat) (χ : Emb) : ARel χ ((Array.range n).map (z.cells[· % z.cells.size]!)) ((Array.range n).map (z.cells[· % z.cells.size]!)) := by
  have hzc : ∀ v ∈ z.cells, scal v = true := by
    intro v hv
    cases z
    case agg cs =>
      have h' : cs.all scal = true := hs
      rw [Array.all_eq_true_iff_forall_mem] at h'
      exact h' v hv
    all_goals
      have hv' := (Array.mem_singleton (α := Value)).1 hv
      rw [hv']
      exact hs
  refine ⟨rfl, fun i v v' hv hv' => ?_⟩
  rw [hv] at hv'; cases hv'
  rw [Array.getElem?_map] at hv
  obtain ⟨j, _, rfl⟩ := Option.map_eq_some_iff.1 hv
  refine .sc ?_
  by_cases hj : j % z.cells.size < z.cells.size
  · rw [getElem!_pos z.cells _ hj]; exact hzc _ (Array.getElem_mem hj)
  · rw [getElem!_neg z.cells _ hj]; rfl
theorem sim_buildSlice {t : TypeId} {n : Nat} {ps qs : Array (Nat × Value)} (hz : ∀ e, P.underlying t = some (.slice e) → zok P e = true) (h : PRel φ ps.toList qs.toList) :
    SimS P φ VRel (Instr.buildSlice t n ps) (Instr.buildSlice t n qs) := by
  unfold Instr.buildSlice
  refine SimS.bind (sim_underlying t) ?_
  rintro ψ1 hl1 d _ ⟨rfl, hd⟩
  cases d <;> first | exact SimS.halt | skip
  rename_i elem
  refine SimS.bind (sim_sizeOf elem) ?_
  rintro ψ2 hl2 s _ ⟨rfl, _⟩
  have hp := (h.mono hl1).mono hl2
  have tail : ∀ χ, Le ψ2 χ → ∀ z : Value, scal1 z = true → SimS P χ VRel
      (do let some cells := Instr.fill (fun i => some (i * s, s)) ((Array.range (n * s)).map (z.cells[· % z.cells.size]!)) ps.toList
            | stuck "buildSlice: a part of the wrong size"
          pure (.slice (some (← newRow elem cells)) n n))
      (do let some cells := Instr.fill (fun i => some (i * s, s)) ((Array.range (n * s)).map (z.cells[· % z.cells.size]!)) qs.toList
            | stuck "buildSlice: a part of the wrong size"
          pure (.slice (some (← newRow elem cells)) n n)) := by
    intro χ hχ z hs
    cases hf : Instr.fill (fun i => some (i * s, s)) ((Array.range (n * s)).map (z.cells[· % z.cells.size]!)) ps.toList with
    | none => exact SimS.halt
    | some r =>
      obtain ⟨r', hr', hrel⟩ := fill_rel (hp.mono hχ) (zeros_rel hs _ χ) hf
      simp only [hr']
      refine SimS.bind (sim_newRow elem hrel) ?_
      intro ψ4 hl4 a a' ha
      exact SimS.ret fun _ hle => (ha.mono hle).slice _ _
  dsimp only
  split
  · refine SimS.no ?_
    split <;> exact NoRun.bindL (NoRun.halt _)
  · split
    · exact tail _ (.refl _) (.agg #[]) (by simp [scal1])
    · refine SimS.bind (sim_zero (hz elem hd)) ?_
      rintro ψ3 hl3 z _ ⟨rfl, hs⟩
      exact tail _ hl3 z hs
theorem sim_newVar {v v' : Value} (T : TypeId) (h : VRel φ v v') : SimS P φ AdN (newVar T v) (newVar T v') := sim_newRow T h.cells
theorem sim_box {v v' : Value} (T : TypeId) (h : VRel φ v v') : SimS P φ VRel (Instr.box T v) (Instr.box T v') := by
  unfold Instr.box
  refine SimS.bind (sim_newVar T h) ?_
  intro ψ hl a a' ha
  exact SimS.ret fun _ hle => (ha.mono hle).ptr
theorem sim_alloc {T : TypeId} (hz : zok P T = true) : SimS P φ VRel (Instr.alloc T true (.tuple #[])) (Instr.alloc T true (.tuple #[])) := by
  unfold Instr.alloc
  refine SimS.bind (sim_zero hz) ?_
  rintro ψ hl z _ ⟨rfl, hs⟩
  refine SimS.bind (sim_newVar T (.same1 hs)) ?_
  intro ψ hl a a' ha
  exact SimS.ret fun _ hle => (ha.mono hle).ptr
theorem sim_loadAt {t : TypeId} {v v' : Value} (h : VRel φ v v') : SimS P φ VRel (Instr.loadAt t v) (Instr.loadAt t v') := by
  unfold Instr.loadAt
  refine SimS.bind (sim_sureAddr h) ?_
  intro ψ hl a a' ha
  exact sim_loadVar t ha
theorem sim_storeAt {t : TypeId} {v v' x x' : Value} (h : VRel φ v v') (hx : VRel φ x x') : SimS P φ (fun _ _ _ => True) (Instr.storeAt t v x) (Instr.storeAt t v' x') := by
  unfold Instr.storeAt
  refine SimS.bind (sim_sureAddr h) ?_
  intro ψ hl a a' ha
  exact sim_storeVar t ha (hx.mono hl)
theorem sim_makeSlice {t : TypeId} {n n' c c' : Value} (hz : ∀ e, P.underlying t = some (.slice e) → zok P e = true) (hn : VRel φ n n') (hc : VRel φ c c') :
    SimS P φ VRel (Instr.makeSlice t n c) (Instr.makeSlice t n' c') := by
  unfold Instr.makeSlice
  refine SimS.bind (sim_underlying t) ?_
  rintro ψ1 hl1 d _ ⟨rfl, hd⟩
  cases d <;> first | exact SimS.halt | skip
  rename_i elem
  refine SimS.bind (sim_asInt (hn.mono hl1)) ?_
  rintro ψ2 hl2 ln _ rfl
  refine SimS.bind (sim_asInt ((hc.mono hl1).mono hl2)) ?_
  rintro ψ3 hl3 cp _ rfl
  refine SimS.bind (sim_typeInfo elem) ?_
  rintro ψ4 hl4 i _ ⟨rfl, hi⟩
  dsimp only
  have tail : ∀ χ : Emb, SimS P χ VRel
      (do askRoom ((IntKind.i64.wrap cp).toNat * i.bytes)
          let n := (IntKind.i64.wrap cp).toNat * (← sizeOf elem)
          let zero ← if n = 0 then pure #[] else do pure (← zeroValue elem).cells
          let a ← newRow elem ((Array.range n).map (zero[· % zero.size]!))
          pure (.slice (some a) (IntKind.i64.wrap ln).toNat (IntKind.i64.wrap cp).toNat))
      (do askRoom ((IntKind.i64.wrap cp).toNat * i.bytes)
          let n := (IntKind.i64.wrap cp).toNat * (← sizeOf elem)
          let zero ← if n = 0 then pure #[] else do pure (← zeroValue elem).cells
          let a ← newRow elem ((Array.range n).map (zero[· % zero.size]!))
          pure (.slice (some a) (IntKind.i64.wrap ln).toNat (IntKind.i64.wrap cp).toNat)) := by
    intro χ
    refine SimS.bind (A := fun _ _ _ => True) ?_ ?_
    · unfold askRoom
      split
      · exact SimS.mark
      · exact SimS.ret fun _ _ => trivial
    · intro χ1 _ _ _ _
      refine SimS.bind (sim_sizeOf elem) ?_
      rintro χ2 _ s _ ⟨rfl, _⟩
      have last : ∀ χ3, ∀ z : Value, scal1 z = true → SimS P χ3 VRel
          (do let a ← newRow elem ((Array.range ((IntKind.i64.wrap cp).toNat * s)).map (z.cells[· % z.cells.size]!))
              pure (.slice (some a) (IntKind.i64.wrap ln).toNat (IntKind.i64.wrap cp).toNat))
          (do let a ← newRow elem ((Array.range ((IntKind.i64.wrap cp).toNat * s)).map (z.cells[· % z.cells.size]!))
              pure (.slice (some a) (IntKind.i64.wrap ln).toNat (IntKind.i64.wrap cp).toNat)) := by
        intro χ3 z hs
        refine SimS.bind (sim_newRow elem (zeros_rel hs _ χ3)) ?_
        intro ψ4 hl4 a a' ha
        exact SimS.ret fun _ hle => (ha.mono hle).slice _ _
      dsimp only
      split
      · exact last _ (.agg #[]) (by simp [scal1])
      · refine SimS.bind (sim_zero (hz elem hd)) ?_
        rintro ψ3 hl3 z _ ⟨rfl, hs⟩
        exact last _ z hs
  split
  · refine SimS.no ?_
    split
    · exact NoRun.bindL (no_runtimePanic _)
    · split
      · exact NoRun.bindL (no_runtimePanic _)
      · exact NoRun.bindR fun _ => NoRun.bindL (no_runtimePanic _)
  · exact tail ψ4
theorem sim_sliceBound {x x' : Value} {y y' : Nat} {c : BoundsCode} (h : VRel φ x x') (hy : y ≤ y') : SimS P φ (fun _ a b => a = b ∧ a ≤ y ∧ ∀ k l, x = .int k l → a = l.toNat) (Instr.sliceBound x y c) (Instr.sliceBound x' y' c) := by
  cases h with
  | sc hs =>
    cases x <;> first | exact SimS.no (NoRun.bindL (NoRun.halt _)) | skip
    case int k i =>
      unfold Instr.sliceBound
      refine SimS.bind (A := fun _ a b => b = (k, i) ∧ a = (k, i)) (SimS.ret fun _ _ => ⟨rfl, rfl⟩) ?_
      rintro ψ hl _ _ ⟨rfl, rfl⟩
      simp only
      split
      · rename_i hc
        have hc' : 0 ≤ i ∧ i ≤ (y' : Int) := ⟨hc.1, by omega⟩
        simp only [hc', and_self, if_true]
        exact SimS.ret fun _ _ => ⟨rfl, by omega, fun k l h => by cases h; rfl⟩
      · exact SimS.no (no_boundsPanic _ _ _ _)
    case pointer a => cases a <;> first | exact SimS.no (NoRun.bindL (NoRun.halt _)) | simp [scal] at hs
  | _ => exact SimS.no (NoRun.bindL (NoRun.halt _))
theorem sim_bounds {s : Bool} {len cap cap' : Nat} {lo lo' hi hi' : Option Value} (hc : cap ≤ cap') (hlen : len ≤ cap)
    (hl : (lo = none ∧ lo' = none) ∨ ∃ v v', lo = some v ∧ lo' = some v' ∧ VRel φ v v') (hh : (hi = none ∧ hi' = none) ∨ ∃ v v', hi = some v ∧ hi' = some v' ∧ VRel φ v v') :
    SimS P φ (fun _ p q => q.1 = p.1 ∧ q.2.1 = p.2.1 ∧ p.2.2 = cap ∧ q.2.2 = cap' ∧ p.1 ≤ p.2.1 ∧ p.2.1 ≤ cap ∧ (lo = none → p.1 = 0) ∧ ∀ k l, lo = some (.int k l) → p.1 = l.toNat)
      (Instr.sliceBounds s len cap lo hi none) (Instr.sliceBounds s len cap' lo' hi' none) := by
  unfold Instr.sliceBounds
  have low : ∀ ψ, Le φ ψ → ∀ h, h ≤ cap → SimS P ψ (fun _ (p q : Nat × Nat × Nat) => q.1 = p.1 ∧ q.2.1 = p.2.1 ∧ p.2.2 = cap ∧ q.2.2 = cap' ∧ p.1 ≤ p.2.1 ∧ p.2.1 ≤ cap ∧ (lo = none → p.1 = 0) ∧ ∀ k l, lo = some (.int k l) → p.1 = l.toNat)
      (do let l ← match lo with
            | some v => Instr.sliceBound v h (if (none : Option Value).isSome then .slice3C else .sliceB)
            | none => pure 0
          pure (l, h, cap))
      (do let l ← match lo' with
            | some v => Instr.sliceBound v h (if (none : Option Value).isSome then .slice3C else .sliceB)
            | none => pure 0
          pure (l, h, cap')) := by
    intro ψ hψ h hle
    rcases hl with ⟨rfl, rfl⟩ | ⟨v, v', rfl, rfl, hv⟩
    · exact SimS.ret fun _ _ => ⟨rfl, rfl, rfl, rfl, Nat.zero_le _, hle, fun _ => rfl, fun _ _ h => by cases h⟩
    · refine SimS.bind (sim_sliceBound (hv.mono hψ) (Nat.le_refl h)) ?_
      rintro ψ' _ a _ ⟨rfl, h1, h2⟩
      exact SimS.ret fun _ _ => ⟨rfl, rfl, rfl, rfl, h1, hle, (by intro h; cases h), fun k l h => h2 k l (by cases h; rfl)⟩
  rcases hh with ⟨rfl, rfl⟩ | ⟨v, v', rfl, rfl, hv⟩
  · exact low φ (.refl φ) len hlen
  · refine SimS.bind (A := fun _ x y => cap = x ∧ cap' = y) (SimS.ret fun _ _ => ⟨rfl, rfl⟩) ?_
    rintro ψ0 h0 _ _ ⟨rfl, rfl⟩
    refine SimS.bind (sim_sliceBound (hv.mono h0) hc) ?_
    rintro ψ' hψ' a _ ⟨rfl, h1, h2⟩
    exact low ψ' (h0.trans hψ') a h1
def okSlice (x : Value) (lo : Option Value) : Bool :=
  match x with
  | .slice _ n c => decide (n ≤ c) && (match lo with
    | some (.int _ l) => l.toNat == 0 || l.toNat != c
    | some _ => false
    | none => true)
  | .string _ => true
  | _ => false
theorem sim_slice {t : TypeId} {x x' : Value} {lo lo' hi hi' : Option Value} (hok : okSlice x lo = true) (ht : ∀ n e, P.underlying t ≠ some (.array n e)) (h : VRel φ x x')
    (hl : (lo = none ∧ lo' = none) ∨ ∃ v v', lo = some v ∧ lo' = some v' ∧ VRel φ v v') (hh : (hi = none ∧ hi' = none) ∨ ∃ v v', hi = some v ∧ hi' = some v' ∧ VRel φ v v') :
    SimS P φ VRel (Instr.sliceAt t x lo hi none) (Instr.sliceAt t x' lo' hi' none) := by
  have up : ∀ {ψ : Emb} {o o' : Option Value}, Le φ ψ → ((o = none ∧ o' = none) ∨ ∃ v v', o = some v ∧ o' = some v' ∧ VRel φ v v') → ((o = none ∧ o' = none) ∨ ∃ v v', o = some v ∧ o' = some v' ∧ VRel ψ v v') :=
    fun hle h => h.imp id fun ⟨v, v', a, b, c⟩ => ⟨v, v', a, b, c.mono hle⟩
  have main : ∀ ψ, Le φ ψ → SimS P ψ VRel (Instr.slice t x lo hi none) (Instr.slice t x' lo' hi' none) := by
    intro ψ hψ
    unfold Instr.slice
    refine SimS.bind (sim_underlying t) ?_
    rintro ψ1 hl1 d _ ⟨rfl, hd⟩
    have hx := (h.mono hψ).mono hl1
    have hle := hψ.trans hl1
    cases hx with
    | sc hs =>
      cases x <;> first | (cases hok; done) | skip
      case string s =>
        cases d <;> first | exact SimS.halt | skip
        case string =>
          simp only [Option.isSome_none, Bool.false_eq_true, if_false]
          refine SimS.bind (sim_bounds (Nat.le_refl _) (Nat.le_refl _) (up hle hl) (up hle hh)) ?_
          rintro ψ2 _ ⟨l, hh, m⟩ ⟨l', hh', m'⟩ ⟨h1, h2, _⟩
          simp only at h1 h2
          subst h1 h2
          exact SimS.ret fun _ _ => .sc rfl
      case slice a n c =>
        cases a with
        | some a => simp [scal] at hs
        | none =>
          cases d <;> first | exact SimS.halt | skip
          case slice elem =>
            simp only [okSlice, Bool.and_eq_true, decide_eq_true_eq] at hok
            refine SimS.bind (sim_bounds (Nat.le_refl _) hok.1 (up hle hl) (up hle hh)) ?_
            rintro ψ2 _ ⟨l, hh, m⟩ ⟨l', hh', m'⟩ ⟨h1, h2, h3, h4, _⟩
            simp only at h1 h2 h3 h4
            subst h1 h2 h3 h4
            refine SimS.bind (sim_sizeOf elem) ?_
            rintro ψ4 hl4 s _ ⟨rfl, _⟩
            refine SimS.ret fun _ _ => ?_
            split <;> exact .sc rfl
    | slice hb =>
      rename_i b b' e off n c
      cases d <;> first | exact SimS.halt | skip
      case slice elem =>
        simp only [okSlice, Bool.and_eq_true, decide_eq_true_eq] at hok
        refine SimS.bind (sim_bounds (Nat.le_add_right c e) hok.1 (up hle hl) (up hle hh)) ?_
        rintro ψ2 hl2 ⟨l, hh, m⟩ ⟨l', hh', m'⟩ ⟨h1, h2, h3, h4, h5, h6, h7, h8⟩
        simp only at h1 h2 h3 h4 h5 h6 h7 h8
        subst h1 h2 h3 h4
        refine SimS.bind (sim_sizeOf elem) ?_
        rintro ψ4 hl4 s _ ⟨rfl, _⟩
        refine SimS.ret fun ψ5 hl5 => ?_
        have hb' := hl5 _ _ (hl4 _ _ (hl2 _ _ hb))
        have hl0 : l' = 0 ∨ (l' ≠ m ∧ l' < m) := by
          by_cases h0 : l' = 0
          · exact .inl h0
          · refine .inr ?_
            have : l' ≠ m := by
              intro hlm
              have h2 := hok.2
              cases lo with
              | none => exact h0 (h7 rfl)
              | some v =>
                cases v <;> first | (simp at h2; done) | skip
                have := h8 _ _ rfl
                simp only [Bool.or_eq_true, beq_iff_eq, bne_iff_ne, ne_eq] at h2
                rw [← this] at h2
                exact h2.elim h0 fun x => x hlm
            exact ⟨this, by omega⟩
        have ec : m + e - l' = (m - l') + e := by omega
        have em : ∀ (x : Addr) n, n = 0 → x.add n = x := fun x n hn => by simp [Addr.add, hn]
        rcases hl0 with h0 | ⟨h0, h0'⟩
        · subst h0
          simp only [Nat.zero_mul, Nat.sub_zero]
          have e1 : (if m = 0 then some (⟨b, off, none⟩ : Addr) else Option.map (fun x : Addr => x.add 0) (some ⟨b, off, none⟩)) = some ⟨b, off, none⟩ := by split <;> simp [Addr.add]
          have e2 : (if m + e = 0 then some (⟨b', off, none⟩ : Addr) else Option.map (fun x : Addr => x.add 0) (some ⟨b', off, none⟩)) = some ⟨b', off, none⟩ := by split <;> simp [Addr.add]
          rw [e1, e2]
          exact .slice hb'
        · have n1 : ¬ m = l' := fun h => h0 h.symm
          have n2 : ¬ m + e = l' := by omega
          simp only [n1, n2, if_false, Option.map_some, ec]
          unfold Addr.add
          split
          · exact .slice hb'
          · exact .slice hb'
    | _ => cases hok
  unfold Instr.sliceAt
  refine SimS.bind (sim_underlying t) ?_
  rintro ψ1 hl1 d _ ⟨rfl, hd⟩
  cases d <;> first | exact main ψ1 hl1 | exact absurd hd (ht _ _)
theorem ARel.mapOf {ρ ρ' : Operand → Value} {xs : Array Operand} (h : ∀ x ∈ xs, VRel φ (ρ x) (ρ' x)) : ARel φ (xs.map ρ) (xs.map ρ') := by
  refine ⟨by simp, fun i v v' hv hv' => ?_⟩
  rw [Array.getElem?_map] at hv hv'
  obtain ⟨x, hx, rfl⟩ := Option.map_eq_some_iff.1 hv
  rw [hx] at hv'
  cases hv'
  exact h x (Array.mem_of_getElem? hx)
def okCallee (P : Program) : Value → Bool
  | .func (.func f) _ _ => match P.funcs[f]? with
    | some fn => fn.body.isSome && !(fn.name == "runtime.NumGoroutine")
    | none => false
  | _ => false
theorem sim_call {f f' : Value} {args args' : Array Value} (hok : okCallee P f = true) (h : VRel φ f f') (ha : ARel φ args args') :
    SimS P φ NRel (do let d ← Deferred.ofValue f args; invoke d.target d.args) (do let d ← Deferred.ofValue f' args'; invoke d.target d.args) := by
  cases h with
  | func hfn hf hc h1 h2 =>
    rename_i fn fs gs cs ds
    cases fn <;> first | (cases hok; done) | skip
    rename_i g
    show SimS P φ NRel (callFunc g ((fs ++ args) ++ cs)) (callFunc g ((gs ++ args') ++ ds))
    have hall : ARel φ ((fs ++ args) ++ cs) ((gs ++ args') ++ ds) := (ARel.append (ARel.append ⟨hf, h1⟩ ha) ⟨hc, h2⟩)
    simp only [okCallee] at hok
    cases hg : P.funcs[g]? with
    | none => rw [hg] at hok; cases hok
    | some fn =>
      rw [hg] at hok
      simp only [Bool.and_eq_true, Bool.not_eq_true'] at hok
      unfold callFunc
      refine SimS.bind SimS.program ?_
      rintro ψ hl _ _ ⟨rfl, rfl⟩
      have hb : fn.body.isNone = false := by
        cases hbb : fn.body with
        | none => rw [hbb] at hok; simp at hok
        | some b => rfl
      simp only [hg, hok.2, Bool.false_eq_true, if_false, hb]
      exact SimS.ret fun _ hle => ⟨rfl, (hall.mono hl).mono hle⟩
  | sc hs => cases f <;> first | (cases hok; done) | (simp [scal] at hs; done)
  | _ => cases hok
theorem sim_len {ts : Array TypeId} {ty : TypeId} {args args' : Array Value} (ha : ARel φ args args') : SimS P φ VRel (Builtin.len_ ts ty args) (Builtin.len_ ts ty args') := by
  unfold Builtin.len_
  cases ht : ts[0]? with
  | none => exact SimS.halt
  | some t =>
    cases hv : args[0]? with
    | none => exact SimS.halt
    | some v =>
      obtain ⟨v', hv', hr⟩ := ha.get hv
      simp only [hv']
      refine SimS.bind (sim_underlying t) ?_
      rintro ψ hl d _ ⟨rfl, hd⟩
      have hx := hr.mono hl
      cases d <;> first | exact SimS.halt | skip
      case array n e => exact SimS.ret fun _ _ => .sc rfl
      case pointer arr =>
        refine SimS.bind (sim_underlying arr) ?_
        rintro ψ' _ d' _ ⟨rfl, _⟩
        cases d' <;> first | exact SimS.halt | exact SimS.ret fun _ _ => .sc rfl
      case string =>
        cases hx with
        | sc hs => cases v <;> first | exact SimS.halt | exact SimS.ret fun _ _ => .sc rfl
        | _ => exact SimS.halt
      case slice e =>
        cases hx with
        | sc hs => cases v <;> first | exact SimS.halt | exact SimS.ret fun _ _ => .sc rfl
        | slice hb => exact SimS.ret fun _ _ => .sc rfl
        | _ => exact SimS.halt
      case chan =>
        cases hx with
        | sc hs =>
          cases v <;> first | exact SimS.halt | skip
          rename_i a; cases a <;> first | exact SimS.ret fun _ _ => .sc rfl | simp [scal] at hs
        | _ => exact SimS.halt
      case map =>
        cases hx with
        | sc hs =>
          cases v <;> first | exact SimS.halt | skip
          rename_i a; cases a <;> first | exact SimS.ret fun _ _ => .sc rfl | simp [scal] at hs
        | map hb =>
          refine SimS.bind (sim_getObj hb) ?_
          intro ψ' _ o o' ho
          cases o <;> cases o' <;> first | exact ho.elim | exact SimS.halt | skip
          have := ho.2.size
          simp only [this]
          exact SimS.ret fun _ _ => .sc rfl
        | _ => exact SimS.halt
def knd : Value → Nat
  | .pointer (some _) => 1
  | .pointer none => 2
  | .slice (some _) _ _ => 3
  | .slice none _ _ => 4
  | .map (some _) => 5
  | .map none => 6
  | .func .. => 7
  | .nilFunc => 8
  | _ => 0
def okK : Nat → Nat → Bool
  | 1, 2 | 2, 1 | 3, 4 | 4, 3 | 5, 6 | 6, 5 | 7, 8 | 8, 7 => true
  | _, _ => false
def okCmp : Value → Value → Bool
  | .pointer (some _), .pointer none | .pointer none, .pointer (some _) | .slice (some _) _ _, .slice none _ _ | .slice none _ _, .slice (some _) _ _
  | .map (some _), .map none | .map none, .map (some _) | .func .., .nilFunc | .nilFunc, .func .. => true
  | _, _ => false
theorem knd1 {a : Value} (h : knd a = 1) : ∃ x, a = .pointer (some x) := by
  unfold knd at h; split at h <;> first | (cases h; done) | exact ⟨_, rfl⟩
theorem knd2 {a : Value} (h : knd a = 2) : a = .pointer none := by
  unfold knd at h; split at h <;> first | (cases h; done) | rfl
theorem knd3 {a : Value} (h : knd a = 3) : ∃ x n c, a = .slice (some x) n c := by
  unfold knd at h; split at h <;> first | (cases h; done) | exact ⟨_, _, _, rfl⟩
theorem knd4 {a : Value} (h : knd a = 4) : ∃ n c, a = .slice none n c := by
  unfold knd at h; split at h <;> first | (cases h; done) | exact ⟨_, _, rfl⟩
theorem knd5 {a : Value} (h : knd a = 5) : ∃ x, a = .map (some x) := by
  unfold knd at h; split at h <;> first | (cases h; done) | exact ⟨_, rfl⟩
theorem knd6 {a : Value} (h : knd a = 6) : a = .map none := by
  unfold knd at h; split at h <;> first | (cases h; done) | rfl
theorem knd7 {a : Value} (h : knd a = 7) : ∃ x y z, a = .func x y z := by
  unfold knd at h; split at h <;> first | (cases h; done) | exact ⟨_, _, _, rfl⟩
theorem knd8 {a : Value} (h : knd a = 8) : a = .nilFunc := by
  unfold knd at h; split at h <;> first | (cases h; done) | rfl
theorem okCmp_knd {a b : Value} (h : okCmp a b = true) : okK (knd a) (knd b) = true := by
  unfold okCmp at h
  split at h <;> first | rfl | cases h
theorem okCmp_of {a b : Value} (h : okK (knd a) (knd b) = true) : okCmp a b = true := by
  unfold okK at h
  split at h
  · rename_i h1 h2; obtain ⟨_, rfl⟩ := knd1 h1; rw [knd2 h2]; rfl
  · rename_i h1 h2; obtain ⟨_, rfl⟩ := knd1 h2; rw [knd2 h1]; rfl
  · rename_i h1 h2; obtain ⟨_, _, _, rfl⟩ := knd3 h1; obtain ⟨_, _, rfl⟩ := knd4 h2; rfl
  · rename_i h1 h2; obtain ⟨_, _, _, rfl⟩ := knd3 h2; obtain ⟨_, _, rfl⟩ := knd4 h1; rfl
  · rename_i h1 h2; obtain ⟨_, rfl⟩ := knd5 h1; rw [knd6 h2]; rfl
  · rename_i h1 h2; obtain ⟨_, rfl⟩ := knd5 h2; rw [knd6 h1]; rfl
  · rename_i h1 h2; obtain ⟨_, _, _, rfl⟩ := knd7 h1; rw [knd8 h2]; rfl
  · rename_i h1 h2; obtain ⟨_, _, _, rfl⟩ := knd7 h2; rw [knd8 h1]; rfl
  · cases h
theorem sim_equal {t : TypeId} {x x' y y' : Value} (hok : okCmp x y = true) (hx : VRel φ x x') (hy : VRel φ y y') : SimS P φ (fun _ a b => a = b) (Op.equal t x y) (Op.equal t x' y') := by
  unfold Op.equal Op.maxDepth
  have e : (10000 : Nat) = 9999 + 1 := rfl
  rw [e]
  unfold Op.equalIn
  refine SimS.bind (sim_underlying t) ?_
  rintro ψ hl d _ ⟨rfl, _⟩
  cases hx with
  | sc hs =>
    cases x <;> first | (cases y <;> cases hok; done) | skip
    case pointer a =>
      cases a <;> first | (simp [scal] at hs; done) | skip
      cases hy <;> first | (cases hok; done) | skip
      case sc hs' => cases y <;> first | (cases hok; done) | (rename_i b; cases b <;> first | (cases hok; done) | (simp [scal] at hs'; done))
      case ptr => cases d <;> first | exact SimS.halt | exact SimS.ret fun _ _ => rfl
    case slice a _ _ =>
      cases a <;> first | (simp [scal] at hs; done) | skip
      cases hy <;> first | (cases hok; done) | skip
      case sc hs' => cases y <;> first | (cases hok; done) | (rename_i b _ _; cases b <;> first | (cases hok; done) | (simp [scal] at hs'; done))
      case slice => cases d <;> first | exact SimS.halt | exact SimS.ret fun _ _ => rfl
    case map a =>
      cases a <;> first | (simp [scal] at hs; done) | skip
      cases hy <;> first | (cases hok; done) | skip
      case sc hs' => cases y <;> first | (cases hok; done) | (rename_i b; cases b <;> first | (cases hok; done) | (simp [scal] at hs'; done))
      case map => cases d <;> first | exact SimS.halt | exact SimS.ret fun _ _ => rfl
    case func => simp [scal] at hs
    case nilFunc =>
      cases hy <;> first | (cases hok; done) | skip
      case sc hs' => cases y <;> first | (cases hok; done) | (simp [scal] at hs'; done)
      case func => cases d <;> first | exact SimS.halt | exact SimS.ret fun _ _ => rfl
      case yield => cases d <;> first | exact SimS.halt | exact SimS.ret fun _ _ => rfl
  | ptr hb =>
    cases hy <;> first | (cases hok; done) | skip
    case sc hs' =>
      cases y <;> first | (cases hok; done) | skip
      rename_i a; cases a <;> first | (cases hok; done) | skip
      cases d <;> first | exact SimS.halt | exact SimS.ret fun _ _ => rfl
  | slice hb =>
    cases hy <;> first | (cases hok; done) | skip
    case sc hs' =>
      cases y <;> first | (cases hok; done) | skip
      rename_i a _ _; cases a <;> first | (cases hok; done) | skip
      cases d <;> first | exact SimS.halt | exact SimS.ret fun _ _ => rfl
  | map hb =>
    cases hy <;> first | (cases hok; done) | skip
    case sc hs' =>
      cases y <;> first | (cases hok; done) | skip
      rename_i a; cases a <;> first | (cases hok; done) | skip
      cases d <;> first | exact SimS.halt | exact SimS.ret fun _ _ => rfl
  | func =>
    cases hy <;> first | (cases hok; done) | skip
    case sc hs' => cases y <;> first | (cases hok; done) | (cases d <;> first | exact SimS.halt | exact SimS.ret fun _ _ => rfl)
  | yield =>
    cases hy <;> first | (cases hok; done) | skip
    case sc hs' => cases y <;> first | (cases hok; done) | (cases d <;> first | exact SimS.halt | exact SimS.ret fun _ _ => rfl)
  | iface => cases hok
  | agg => cases hok
  | tuple => cases hok
theorem knd_rel {a a' : Value} (h : VRel φ a a') : knd a' = knd a := by
  cases h <;> rfl
theorem okCmp_rel {a b a' b' : Value} (h : okCmp a b = true) (ha : VRel φ a a') (hb : VRel φ b b') : okCmp a' b' = true := by
  refine okCmp_of ?_
  rw [knd_rel ha, knd_rel hb]; exact okCmp_knd h
theorem eqGuard_cmp {op : BinOp} {t : TypeId} {x y : Operand} {a b : Value} (h : okCmp a b = true) : eqGuard op t x y a b = pure () := by
  unfold eqGuard
  cases a <;> cases b <;> first | (cases h; done) | (split <;> rfl)
theorem binOp_eql {t : TypeId} {a b : Value} (h : okCmp a b = true) : binOp .eql t a b = (do pure (.bool (← Op.equal t a b))) := by
  cases a <;> cases b <;> first | (cases h; done) | rfl
theorem binOp_neq {t : TypeId} {a b : Value} (h : okCmp a b = true) : binOp .neq t a b = (do pure (.bool (!(← Op.equal t a b)))) := by
  cases a <;> cases b <;> first | (cases h; done) | rfl
theorem sim_lenOf {v v' : Value} (h : VRel φ v v') : SimS P φ (fun _ a b => a = b) (Builtin.lenOf v) (Builtin.lenOf v') := by
  cases h with
  | sc hs => cases v <;> first | exact SimS.halt | exact SimS.ret fun _ _ => rfl
  | slice => exact SimS.ret fun _ _ => rfl
  | _ => exact SimS.halt
theorem sim_firstCells {v v' : Value} (s n : Nat) (h : VRel φ v v') : SimS P φ ARel (Builtin.firstCells s n v) (Builtin.firstCells s n v') := by
  cases h with
  | sc hs =>
    cases v <;> first | exact SimS.halt | skip
    case slice a _ _ => cases a <;> first | exact SimS.ret fun _ _ => .empty _ | (simp [scal] at hs; done)
    case string x =>
      refine SimS.ret fun _ _ => ARel.refs ?_
      rw [Array.all_eq_true_iff_forall_mem]
      intro x hx
      obtain ⟨_, _, rfl⟩ := Array.mem_map.1 hx
      rfl
  | slice hb => exact sim_loadCells _ ⟨rfl, rfl, rfl, _, hb⟩
  | _ => exact SimS.halt
theorem sim_copy {ts : Array TypeId} {ty : TypeId} {args args' : Array Value} (ha : ARel φ args args') : SimS P φ VRel (Builtin.copy_ ts ty args) (Builtin.copy_ ts ty args') := by
  unfold Builtin.copy_
  cases ht : ts[0]? with
  | none => exact SimS.halt
  | some t =>
    cases hd : args[0]? with
    | none => exact SimS.halt
    | some d =>
      cases hs : args[1]? with
      | none => exact SimS.halt
      | some s =>
        obtain ⟨d', hd', hrd⟩ := ha.get hd
        obtain ⟨s', hs', hrs⟩ := ha.get hs
        simp only [hd', hs']
        refine SimS.bind (sim_underlying t) ?_
        rintro ψ hl u _ ⟨rfl, hu⟩
        cases u <;> first | exact SimS.halt | skip
        rename_i elem
        have go : ∀ (b b' : Option Addr) (n : Nat), ((b = none ∧ b' = none) ∨ ∃ a a', b = some a ∧ b' = some a' ∧ AdR ψ a a') → SimS P ψ VRel
            (do let n := Nat.min (← Builtin.lenOf s) n
                let cells ← Builtin.firstCells (← sizeOf elem) n s
                if let some a := b then storeCells a cells.toList
                pure (goInt n))
            (do let n := Nat.min (← Builtin.lenOf s') n
                let cells ← Builtin.firstCells (← sizeOf elem) n s'
                if let some a := b' then storeCells a cells.toList
                pure (goInt n)) := by
          intro b b' n hb
          refine SimS.bind (sim_lenOf (hrs.mono hl)) ?_
          rintro ψ1 hl1 ln _ rfl
          refine SimS.bind (sim_sizeOf elem) ?_
          rintro ψ2 hl2 sz _ ⟨rfl, _⟩
          refine SimS.bind (sim_firstCells _ _ (((hrs.mono hl).mono hl1).mono hl2)) ?_
          intro ψ3 hl3 cs ds hcs
          rcases hb with ⟨rfl, rfl⟩ | ⟨a, a', rfl, rfl, haa⟩
          · exact SimS.ret fun _ _ => .sc rfl
          · refine SimS.bind (sim_storeCells 0 (((haa.mono hl1).mono hl2).mono hl3) hcs.toList) ?_
            intro ψ4 _ _ _ _
            exact SimS.ret fun _ _ => .sc rfl
        cases hrd.mono hl with
        | slice hb => exact go _ _ _ (.inr ⟨_, _, rfl, rfl, AdR.of hb⟩)
        | sc hsc =>
          cases d <;> first | exact SimS.halt | skip
          rename_i a _ _
          cases a <;> first | exact go none none _ (.inl ⟨rfl, rfl⟩) | (simp [scal] at hsc; done)
        | _ => exact SimS.halt
def okRoom (P : Program) (ats : Array TypeId) (args : Array Value) : Bool :=
  match (ats[1]? : Option TypeId), (args[0]? : Option Value), (args[1]? : Option Value) with
  | some xT, some (.slice _ n c), some x => (match P.underlying xT with | some (.slice _) | some .string => true | _ => false) && (match x with
    | .slice _ k _ => decide (n + k ≤ c)
    | .string s => decide (n + s.size ≤ c)
    | _ => false)
  | _, _, _ => false
theorem sim_room {ats : Array TypeId} {ty : TypeId} {args args' : Array Value} (hok : okRoom P ats args = true) (ha : ARel φ args args') : SimS P φ VRel (Builtin.append_ ats ty args) (Builtin.append_ ats ty args') := by
  unfold okRoom at hok
  split at hok
  · rename_i xT base n c x hxT hs hx
    simp only [Bool.and_eq_true] at hok
    obtain ⟨hk1, hk2⟩ := hok
    obtain ⟨s', hs', hrs⟩ := ha.get hs
    obtain ⟨x', hx', hrx⟩ := ha.get hx
    have hlen : ∃ k, (Builtin.lenOf x = (Pure.pure k : Sem Nat)) ∧ (Builtin.lenOf x' = (Pure.pure k : Sem Nat)) ∧ n + k ≤ c := by
      cases hrx with
      | slice hb => exact ⟨_, rfl, rfl, by simpa using hk2⟩
      | sc h0 => cases x <;> first | (cases hk2; done) | exact ⟨_, rfl, rfl, by simpa using hk2⟩
      | _ => cases hk2
    obtain ⟨k, hlx, hlx', hnk⟩ := hlen
    have body : ∀ (ψ : Emb) (elem : TypeId) (base base' : Option Addr) (c' : Nat), Le φ ψ → c ≤ c' → ((base = none ∧ base' = none ∧ c' = c) ∨ ∃ b b' e off, base = some ⟨b, off, none⟩ ∧ base' = some ⟨b', off, none⟩ ∧ ψ b = some (b', e) ∧ c' = c + e) → ∀ sz, SimS P ψ VRel
        (do let new ← Builtin.firstCells sz k x
            if let some a := base then storeCells (a.add (n * sz)) new.toList
            pure (.slice base (n + k) c))
        (do let new ← Builtin.firstCells sz k x'
            if let some a := base' then storeCells (a.add (n * sz)) new.toList
            pure (.slice base' (n + k) c')) := by
      intro ψ elem base base' c' hψ hcc hb sz
      refine SimS.bind (sim_firstCells _ _ (hrx.mono hψ)) ?_
      intro ψ1 hl1 cs ds hcs
      rcases hb with ⟨rfl, rfl, rfl⟩ | ⟨b, b', e, off, rfl, rfl, hp, rfl⟩
      · exact SimS.ret fun _ _ => .sc rfl
      · refine SimS.bind (sim_storeCells 0 ((AdR.of (hl1 _ _ hp)).add _) hcs.toList) ?_
        intro ψ2 hl2 _ _ _
        exact SimS.ret fun _ hle => .slice (hle _ _ (hl2 _ _ (hl1 _ _ hp)))
    unfold Builtin.append_
    cases h0 : ats[0]? with
    | none => exact SimS.halt
    | some sT =>
      simp only [hs, hx, hs', hx', hxT]
      refine SimS.bind (sim_underlying sT) ?_
      rintro ψ hl d _ ⟨rfl, hd⟩
      cases d <;> first | exact SimS.halt | skip
      rename_i elem
      cases hrs with
      | slice hb =>
        rename_i b b' e off
        refine SimS.bind (sim_sizeOf elem) ?_
        rintro ψ2 hl2 sz _ ⟨rfl, _⟩
        refine SimS.bind (sim_underlying xT) ?_
        rintro ψ3 hl3 d2 _ ⟨rfl, hd2⟩
        rw [hd2] at hk1
        have hle := (hl.trans hl2).trans hl3
        have fin := body ψ3 elem _ _ (c + e) hle (Nat.le_add_right _ _) (.inr ⟨b, b', e, off, rfl, rfl, hle _ _ hb, rfl⟩) sz
        have hnk' : n + k ≤ c + e := by omega
        cases d2 <;> first | (cases hk1; done) | skip
        all_goals
          simp only [pure_bind, hlx, hlx', hnk, hnk', if_true, Bool.not_false, Bool.false_eq_true, if_false]
          exact fin
      | sc h0 =>
        cases base with
        | some a => simp [scal] at h0
        | none =>
          refine SimS.bind (sim_sizeOf elem) ?_
          rintro ψ2 hl2 sz _ ⟨rfl, _⟩
          refine SimS.bind (sim_underlying xT) ?_
          rintro ψ3 hl3 d2 _ ⟨rfl, hd2⟩
          rw [hd2] at hk1
          have hle := (hl.trans hl2).trans hl3
          have fin := body ψ3 elem none none c hle (Nat.le_refl _) (.inl ⟨rfl, rfl, rfl⟩) sz
          cases d2 <;> first | (cases hk1; done) | skip
          all_goals
            simp only [pure_bind, hlx, hlx', hnk, if_true, Bool.not_false, Bool.false_eq_true, if_false]
            exact fin
  · cases hok
def scalF : Value → Bool
  | .func (.func _) fs cs => fs.isEmpty && cs.isEmpty
  | v => scal1 v
theorem VRel.eqF {v v' : Value} (hs : scalF v = true) (h : VRel φ v v') : v' = v := by
  cases h with
  | func hfn hf hc h1 h2 =>
    rename_i fn fs gs cs ds
    cases fn <;> first | (simp [scalF, scal1, scal] at hs; done) | skip
    simp only [scalF, Bool.and_eq_true, Array.isEmpty_iff] at hs
    obtain ⟨rfl, rfl⟩ := hs
    have e1 : gs = #[] := by simpa using hf
    have e2 : ds = #[] := by simpa using hc
    rw [e1, e2]
  | sc h0 => rfl
  | agg hc h => exact VRel.eq1 hs (.agg hc h)
  | _ => simp [scalF, scal1, scal] at hs
def pureOp (P : Program) (ρ : Operand → Value) (o : Oper) : Option Value :=
  if o.op.operands.all fun x => scalF (ρ x) then
    match o.op with
    | .select .. => none
    | _ => match sval P (execOp ρ o) with
      | some (.value v) => if scal2 v then some v else none
      | _ => none
  else none
theorem pureOp_spec {ρ ρ' : Operand → Value} {o : Oper} {v : Value} (h : pureOp P ρ o = some v) (hρ : ∀ x ∈ o.op.operands, VRel φ (ρ x) (ρ' x)) (w : World) :
    (execOp ρ' o).run P w = .ok (.value v) w ∧ VRel φ v v := by
  unfold pureOp at h
  split at h
  · rename_i hall
    rw [Array.all_eq_true_iff_forall_mem] at hall
    have hns : ∀ cs b, o.op ≠ .select cs b := fun cs b hop => by rw [hop] at h; cases h
    have heq : execOp ρ' o = execOp ρ o := execOp_congr o hns fun x hx => VRel.eqF (hall x hx) (hρ x hx)
    have h' : (match sval P (execOp ρ o) with
      | some (.value v) => if scal2 v then some v else none
      | _ => none) = some v := by
      split at h
      · cases h
      · exact h
    split at h'
    · rename_i u hu
      split at h'
      · rename_i hs
        cases h'
        rw [heq]
        exact ⟨sval_run hu w, .same2 hs⟩
      · cases h'
    · cases h'
  · cases h
def okRow (P : Program) (t : TypeId) : Bool :=
  match P.underlying t with
  | some (.slice e) => zok P e
  | _ => false
def okField (P : Program) (s : TypeId) (f : Nat) : Bool :=
  match P.underlying s with
  | some (.struct fs) => match fs[f]? with
    | some fd => match P.info? fd.type with
      | some i => i.size != 0
      | none => false
    | none => false
  | _ => false
def okCut (P : Program) (t : TypeId) : Bool :=
  match P.underlying t with
  | some (.array ..) => false
  | _ => true
def okOp (P : Program) (ρ : Operand → Value) (o : Oper) : Bool :=
  match o.op with
  | .move _ | .assign _ | .pick .. | .load .. | .store .. | .extract .. | .field .. | .index .. | .indexAddr .. | .box .. => true
  | .alloc e => zok P e
  | .build t _ => zok P t
  | .buildSlice t _ _ => okRow P t
  | .makeSlice t _ _ => okRow P t
  | .fieldAddr s _ f => okField P s f
  | .slice t x lo _ none => okCut P t && okSlice (ρ x) (lo.map ρ)
  | .makeFunc (.func _) _ _ => true
  | .nilCheck x => match ρ x with
    | .pointer (some _) => true
    | _ => false
  | .binOp .eql _ x y _ | .binOp .neq _ x y _ => okCmp (ρ x) (ρ y)
  | .call { callee := .value f, .. } => okCallee P (ρ f)
  | .call { callee := .builtin .append, args, argTypes } => okRoom P argTypes (args.map ρ)
  | .call { callee := .builtin .len, .. } | .call { callee := .builtin .copy, .. } => true
  | _ => false
theorem parts_rel' {ρ ρ' : Operand → Value} : ∀ (ps : List (Nat × Operand)), (∀ p ∈ ps, VRel φ (ρ p.2) (ρ' p.2)) → PRel φ (ps.map fun x => (x.1, ρ x.2)) (ps.map fun x => (x.1, ρ' x.2))
  | [], _ => True.intro
  | p :: ps, h => ⟨rfl, h p (by simp), parts_rel' ps fun q hq => h q (by simp [hq])⟩
theorem parts_arr {ρ ρ' : Operand → Value} (ps : Array (Nat × Operand)) (h : ∀ x ∈ (ps.toList.map (·.2)).toArray, VRel φ (ρ x) (ρ' x)) :
    PRel φ (ps.map fun (i, x) => (i, ρ x)).toList (ps.map fun (i, x) => (i, ρ' x)).toList := by
  rw [Array.toList_map, Array.toList_map]
  refine parts_rel' ps.toList fun p hp => h p.2 ?_
  simp
  exact ⟨p.1, by simpa using hp⟩
theorem okOp_sim {ρ ρ' : Operand → Value} {o : Oper} (hok : okOp P ρ o = true) (hρ : ∀ x ∈ o.op.operands, VRel φ (ρ x) (ρ' x)) : SimS P φ NRel (execOp ρ o) (execOp ρ' o) := by
  obtain ⟨dst, op, type, pos, after, guard⟩ := o
  cases op <;> simp only [okOp] at hok <;> simp only [Op.operands] at hρ <;> try (cases hok; done)
  case move x => exact SimS.ret fun _ hl => (hρ x (by simp)).mono hl
  case assign x => exact SimS.ret fun _ hl => (hρ x (by simp)).mono hl
  case pick c a b =>
    refine SimS.bind (sim_asBool (hρ c (by simp))) ?_
    rintro ψ hl t _ rfl
    cases t
    · exact SimS.ret fun _ hle => ((hρ b (by simp)).mono hl).mono hle
    · exact SimS.ret fun _ hle => ((hρ a (by simp)).mono hl).mono hle
  case alloc e => exact SimS.value (sim_alloc hok)
  case box e x => exact SimS.value (sim_box e (hρ x (by simp)))
  case build t ps => exact SimS.value (sim_build hok (parts_arr ps hρ))
  case buildSlice t n ps =>
    refine SimS.value (sim_buildSlice ?_ (parts_arr ps hρ))
    intro e he
    simpa [okRow, he] using hok
  case load t a => exact SimS.value (sim_loadAt (hρ a (by simp)))
  case store t a x => exact SimS.unit (sim_storeAt (hρ a (by simp)) (hρ x (by simp)))
  case nilCheck x =>
    have hx := hρ x (by simp)
    show SimS P φ NRel (execOp ρ ⟨dst, .nilCheck x, type, pos, after, guard⟩) (execOp ρ' ⟨dst, .nilCheck x, type, pos, after, guard⟩)
    simp only [execOp]
    generalize ρ x = u at *
    generalize ρ' x = u' at *
    cases hx with
    | ptr hb => exact SimS.ret fun _ hl => .ptr (hl _ _ hb)
    | sc hs => cases u <;> first | (cases hok; done) | (rename_i a; cases a <;> first | (cases hok; done) | (simp [scal] at hs; done))
    | _ => cases hok
  case binOp op t x y yt =>
    have hx := hρ x (by simp)
    have hy := hρ y (by simp)
    cases op <;> first | (cases hok; done) | skip
    · have hok' := okCmp_rel hok hx hy
      refine SimS.value ?_
      rw [eqGuard_cmp hok, eqGuard_cmp hok', binOp_eql hok, binOp_eql hok']
      simp only [pure_bind]
      refine SimS.bind (sim_equal hok hx hy) ?_
      rintro ψ hl b _ rfl
      exact SimS.ret fun _ _ => .sc rfl
    · have hok' := okCmp_rel hok hx hy
      refine SimS.value ?_
      rw [eqGuard_cmp hok, eqGuard_cmp hok', binOp_neq hok, binOp_neq hok']
      simp only [pure_bind]
      refine SimS.bind (sim_equal hok hx hy) ?_
      rintro ψ hl b _ rfl
      exact SimS.ret fun _ _ => .sc rfl
  case makeFunc fn first captured =>
    cases fn <;> first | (cases hok; done) | skip
    rename_i f
    refine SimS.value (SimS.ret fun ψ hl => ?_)
    have h1 : ARel φ (first.map ρ) (first.map ρ') := ARel.mapOf fun x hx => hρ x (by simp [hx])
    have h2 : ARel φ (captured.map ρ) (captured.map ρ') := ARel.mapOf fun x hx => hρ x (by simp [hx])
    have h1' := h1.mono hl
    have h2' := h2.mono hl
    exact .func (fun l => by simp) h1'.1 h2'.1 h1'.2 h2'.2
  case makeSlice t l c =>
    refine SimS.value (sim_makeSlice ?_ (hρ l (by simp)) (hρ c (by simp)))
    intro e he
    simpa [okRow, he] using hok
  case slice t x lo hi mx =>
    cases mx with
    | some m => cases hok
    | none =>
      simp only [Bool.and_eq_true] at hok
      refine SimS.value (sim_slice hok.2 ?_ (hρ x (by simp)) ?_ ?_)
      · intro n e he
        simp [okCut, he] at hok
      · cases lo with
        | none => exact .inl ⟨rfl, rfl⟩
        | some l => exact .inr ⟨_, _, rfl, rfl, hρ l (by simp)⟩
      · cases hi with
        | none => exact .inl ⟨rfl, rfl⟩
        | some l => exact .inr ⟨_, _, rfl, rfl, hρ l (by simp)⟩
  case fieldAddr s x f =>
    refine SimS.value (sim_fieldAt ?_ (hρ x (by simp)))
    intro fs fd i h1 h2 h3
    simpa [okField, h1, h2, h3] using hok
  case field t x f => exact SimS.value (sim_field (hρ x (by simp)))
  case indexAddr t x i => exact SimS.value (sim_indexAt (hρ x (by simp)) (hρ i (by simp)))
  case index t x i => exact SimS.value (sim_index (hρ x (by simp)) (hρ i (by simp)))
  case extract x i => exact SimS.value (sim_extract (hρ x (by simp)))
  case call c =>
    obtain ⟨callee, args, ats⟩ := c
    cases callee with
    | value f =>
      have hf := hρ f (by simp [Call.operands])
      have ha : ARel φ (args.map ρ) (args.map ρ') := ARel.mapOf fun x hx => hρ x (by simp [Call.operands, hx])
      exact sim_call hok hf ha
    | invoke r m => cases hok
    | builtin b =>
      have ha : ARel φ (args.map ρ) (args.map ρ') := ARel.mapOf fun x hx => hρ x (by simp [Call.operands, hx])
      cases b <;> first | (cases hok; done) | skip
      case append => exact SimS.value (sim_room hok ha)
      case len => exact SimS.value (sim_len ha)
      case copy => exact SimS.value (sim_copy ha)
end
end Ck

/- The checker's append, where there is no room. -/
namespace Ck
open Go
section
variable {P : Program} {φ : Emb}
def lenV : Value → Option Nat
  | .slice _ n _ => some n
  | .string s => some s.size
  | _ => none
def okSrc (d : TypeDesc) (x : Value) (size : Nat) : Bool :=
  match d, x with
  | .slice _, .slice .. => true
  | .string, .string _ => size == 1
  | _, _ => false
structure GrowIn where
  elem : TypeId
  i : TypeInfo
  k : Nat
def growIn (P : Program) (sT xT : TypeId) (n c : Nat) (x : Value) : Option GrowIn :=
  match P.underlying sT, P.underlying xT, lenV x with
  | some (.slice elem), some d, some k =>
    match P.info? elem with
    | some i =>
      match i.zero with
      | some z => if okSrc d x i.size && decide (c < n + k) && decide (n ≤ c) && decide (n + k ≤ 1000) && scal1 z && z.cells.size == i.size && i.size != 0 && decide (i.bytes ≤ 4096) then some ⟨elem, i, k⟩ else none
      | none => none
    | none => none
  | _, _, _ => none
def growOld (n c : Nat) (elem : TypeId) (size : Nat) (b : Addr) (σ : St) : Option (Array Value × St) :=
  if b.off = 0 && b.spot.isNone && decide (b.block < σ.next) then
    match σ.m b.block with
    | some (.cells cs T kk) =>
      if T == elem && cs.size == c * size && cs.all (·.oneCell') then
        if kk = 0 then some (cs.extract 0 (n * size), σ.read b.block)
        else if kk = size then some (cs.extract 0 (n * size), σ.write b.block none) else none
      else none
    | _ => none
  else none
def growR (P : Program) (ats : Array TypeId) (args : Array Value) (σ : St) : Option (Value × St) :=
  match ats.toList, args.toList with
  | [sT, xT], [.slice base n c, x] =>
    match growIn P sT xT n c x with
    | some g =>
      match lrun P (Builtin.firstCells g.i.size g.k x) σ with
      | some [new] =>
        if new.1.all (·.oneCell') && new.1.size == g.k * g.i.size then
          match (match base with | none => if n = 0 then some (#[], new.2) else none | some b => growOld n c g.elem g.i.size b new.2) with
          | some (old, τ) => some (.slice (some ⟨τ.next, 0, none⟩) (n + g.k) (n + g.k), τ.grow (.cells (old ++ new.1) g.elem g.i.size))
          | none => none
        else none
      | _ => none
    | none => none
  | _, _ => none
def growOp (P : Program) (ρ : Operand → Value) (o : Oper) (σ : St) : Option (Value × St) :=
  match o.op with
  | .call { callee := .builtin .append, args, argTypes } => growR P argTypes (args.map ρ) σ
  | _ => none
structure Reads (σ τ : St) : Prop where
  mem : τ.mem = σ.mem
  next : τ.next = σ.next
  wr : τ.wr = σ.wr
  rd : ∀ b, σ.rd.testBit b = true → τ.rd.testBit b = true
theorem Reads.refl (σ : St) : Reads σ σ := ⟨rfl, rfl, rfl, fun _ h => h⟩
theorem Reads.trans {σ τ υ : St} (h : Reads σ τ) (k : Reads τ υ) : Reads σ υ := ⟨k.mem.trans h.mem, k.next.trans h.next, k.wr.trans h.wr, fun b hb => k.rd b (h.rd b hb)⟩
theorem Reads.read (σ : St) (b : Nat) : Reads σ (σ.read b) := ⟨rfl, rfl, rfl, fun _ h => bit_or.2 (.inl h)⟩
theorem Reads.prop {σ τ : St} (h : Reads σ τ) : LProp σ τ := ⟨by rw [h.next]; exact Nat.le_refl _, h.rd, fun b hb => by rw [h.wr]; exact hb, fun b hb => .inl (by rw [← h.wr]; exact hb), fun b _ _ => by simp [St.m, h.mem], fun b _ hd => by simpa [St.m, h.mem] using hd⟩
theorem Agree.reads {L : Nat → Option LObj} {σ τ υ : St} (h : Reads σ τ) (ha : Agree L σ υ) : Agree L τ υ := fun b hb hn => by
  have := ha b hb (by rw [← h.next]; exact hn)
  rw [this]; simp [St.m, h.mem]
theorem Good.block {L : Nat → Option LObj} {w : World} (hg : Good φ L w) {b r e : Nat} {c : Array Value} (hL : L b = some (.rom c) ∨ ∃ T k, L b = some (.cells c T k)) (hp : φ b = some (r, e)) :
    ∃ c' T fz, w.heap[r]? = some (.cells c' T fz) ∧ ∀ (i : Nat) v, c[i]? = some v → ∃ v', c'[i]? = some v' ∧ VRel φ v v' := by
  rcases hL with hm | ⟨T, k, hm⟩
  · obtain ⟨r', e', ob, hp', hh, ho⟩ := hg.obj _ _ hm
    rw [hp] at hp'; cases hp'
    cases ob <;> first | exact ho.elim | skip
    exact ⟨_, _, _, hh, fun i v hv => ho.2.get hv⟩
  · obtain ⟨c', hh, hsz, _, hrel⟩ := hg.cells hm hp
    refine ⟨c', T, _, hh, fun i v hv => ?_⟩
    have hi : i < c.size := (Array.getElem?_eq_some_iff.1 hv).1
    have hi' : i < c'.size := by omega
    exact ⟨c'[i], Array.getElem?_eq_getElem hi', hrel _ _ _ hv (Array.getElem?_eq_getElem hi')⟩
theorem lc_shape (a : Addr) (n : Nat) : ∀ (i : Nat) (acc : Array Value) (σ : St) (outs : List (Array Value × St)), lrun P (loadCellsFrom a i n acc) σ = some outs →
    ∃ (vs : List Value) (τ : St), outs = [(acc ++ vs.toArray, τ)] ∧ Reads σ τ ∧ vs.length = n ∧ (∀ j v, vs[j]? = some v → σ.look (a.add (i + j)) = some v) ∧ (0 < n → τ.rd.testBit a.block = true) := by
  induction n with
  | zero =>
    intro i acc σ outs h
    cases h
    exact ⟨[], σ, by simp, .refl σ, rfl, fun j v h => by simp at h, fun h => by omega⟩
  | succ n ih =>
    intro i acc σ outs h
    unfold loadCellsFrom at h
    replace h : lrun P (Sem.load .plain (a.add i) fun v => loadCellsFrom a (i + 1) n (acc.push v)) σ = some outs := h
    simp only [lrun] at h
    split at h
    · rename_i v hv
      obtain ⟨vs, τ, rfl, hr, hl, hlook, _⟩ := ih _ _ _ _ h
      have hbl : (a.add i).block = a.block := by unfold Addr.add; split <;> rfl
      refine ⟨v :: vs, τ, by simp, (Reads.read σ _).trans hr, by simp [hl], fun j u hj => ?_, fun _ => hr.rd _ (bit_or.2 (.inr hbl))⟩
      cases j with
      | zero => simp at hj; subst hj; exact hv
      | succ j =>
        have h2 := hlook j u (by simpa using hj)
        have e : i + 1 + j = i + (j + 1) := by omega
        rw [e] at h2
        exact h2
    · cases h
theorem rd_cells {L : Nat → Option LObj} {w : World} {a a' : Addr} {σ : St} {vs : List Value} (ha : AdR φ a a') (hg : Good φ L w) (hlook : ∀ j v, vs[j]? = some v → σ.look (a.add j) = some v)
    (hL : vs ≠ [] → L a.block = σ.m a.block) : ∃ us : List Value, us.length = vs.length ∧ LRel φ vs us ∧ ∀ j u, us[j]? = some u → w.cell? (a'.add j) = some u := by
  cases vs with
  | nil => exact ⟨[], rfl, .nil φ, fun j u h => by simp at h⟩
  | cons v0 vs0 =>
    have h0 := hlook 0 v0 rfl
    obtain ⟨hs, hb, c, hm, hcv⟩ := look_spec h0
    have hz : a.add 0 = a := by simp [Addr.add]
    rw [hz] at hm hcv
    have hLm := hL (by simp)
    obtain ⟨e, hp⟩ := ha.2.2.2
    obtain ⟨c', T, fz, hh, hrel⟩ := hg.block (hm.imp (fun h => hLm.trans h) fun ⟨T, k, h⟩ => ⟨T, k, hLm.trans h⟩) hp
    have hoff : ∀ (x : Addr), x.spot = none → ∀ j, (x.add j).off = x.off + j ∧ (x.add j).block = x.block ∧ (x.add j).spot = none := fun x hx j => by
      unfold Addr.add
      split
      · rename_i h; subst h; exact ⟨rfl, rfl, hx⟩
      · exact ⟨rfl, rfl, rfl⟩
    have hloc : ∀ j v, (v0 :: vs0)[j]? = some v → c[a.off + j]? = some v := fun j v hj => by
      obtain ⟨_, _, c2, hm2, hc2⟩ := look_spec (hlook j v hj)
      rw [(hoff a ha.1 j).2.1] at hm2
      rw [(hoff a ha.1 j).1] at hc2
      have : c2 = c := by
        rcases hm with hm | ⟨_, _, hm⟩ <;> rcases hm2 with hm2 | ⟨_, _, hm2⟩ <;> rw [hm] at hm2 <;> cases hm2 <;> rfl
      rw [this] at hc2; exact hc2
    have hreal : ∀ j v, (v0 :: vs0)[j]? = some v → ∃ v', c'[a.off + j]? = some v' ∧ VRel φ v v' := fun j v hj => hrel _ _ (hloc j v hj)
    have hget : ∀ j, j < (v0 :: vs0).length → ((c'.toList.drop a.off).take (v0 :: vs0).length)[j]? = c'[a.off + j]? := fun j hj => by
      rw [List.getElem?_take, if_pos hj, List.getElem?_drop, Array.getElem?_toList]
    refine ⟨(c'.toList.drop a.off).take (v0 :: vs0).length, ?_, ⟨?_, fun j v v' hv hv' => ?_⟩, fun j u hu => ?_⟩
    · obtain ⟨v', hv', _⟩ := hreal vs0.length _ (List.getElem?_eq_getElem (by simp))
      have := (Array.getElem?_eq_some_iff.1 hv').1
      simp; omega
    · obtain ⟨v', hv', _⟩ := hreal vs0.length _ (List.getElem?_eq_getElem (by simp))
      have := (Array.getElem?_eq_some_iff.1 hv').1
      simp; omega
    · have hj : j < (v0 :: vs0).length := (List.getElem?_eq_some_iff.1 hv).1
      obtain ⟨u, hu, hr⟩ := hreal j v hv
      rw [hget j hj, hu] at hv'
      cases hv'; exact hr
    · have hj : j < (v0 :: vs0).length := by
        have := (List.getElem?_eq_some_iff.1 hu).1
        simp at this ⊢; omega
      rw [hget j hj] at hu
      unfold World.cell?
      rw [(hoff a' ha.2.1 j).2.1, hh, (hoff a' ha.2.1 j).1, (hoff a' ha.2.1 j).2.2, ha.2.2.1]
      simpa using hu
theorem oneCell_rel {v v' : Value} (h : VRel φ v v') (h1 : v.oneCell' = true) : v'.oneCell' = true := by
  cases h <;> first | exact h1 | rfl
theorem LRel.one {l m : List Value} (h : LRel φ l m) (h1 : ∀ v ∈ l, v.oneCell' = true) : ∀ u ∈ m, u.oneCell' = true := fun u hu => by
  obtain ⟨i, hi, rfl⟩ := List.getElem_of_mem hu
  have hl : i < l.length := by rw [← h.1]; exact hi
  exact oneCell_rel (h.2 i l[i] m[i] (List.getElem?_eq_getElem hl) (List.getElem?_eq_getElem hi)) (h1 _ (List.getElem_mem hl))
theorem setCells_heap (b : Nat) : ∀ (vs : List Value) (o : Nat) (w : World) (c : Array Value) (T : TypeId), w.heap[b]? = some (.cells c T (0, 0)) → o + vs.length ≤ c.size →
    ∃ c' : Array Value, c'.size = c.size ∧ (∀ i, i < o ∨ o + vs.length ≤ i → c'[i]? = c[i]?) ∧ (∀ i, i < vs.length → c'[o + i]? = vs[i]?) ∧
      (∀ j, (w.setCells b o vs).heap[j]? = if b = j then some (.cells c' T (0, 0)) else w.heap[j]?) ∧ (w.setCells b o vs).heap.size = w.heap.size ∧
      (w.setCells b o vs).os = w.os ∧ (w.setCells b o vs).tape = w.tape ∧ (w.setCells b o vs).output = w.output
  | [], o, w, c, T, hb, ho => ⟨c, rfl, fun _ _ => rfl, fun i hi => by simp at hi, fun j => by
      simp only [World.setCells]
      split
      · rename_i h; rw [← h, hb]
      · rfl, rfl, rfl, rfl, rfl⟩
  | v :: vs, o, w, c, T, hb, ho => by
    simp at ho
    have hb' : (w.setCell ⟨b, o, none⟩ v).heap[b]? = some (.cells (c.setIfInBounds o v) T (0, 0)) := by
      unfold World.setCell
      simp [Array.getElem?_modify, hb]
    have hne : ∀ j, b ≠ j → (w.setCell ⟨b, o, none⟩ v).heap[j]? = w.heap[j]? := fun j hj => by
      unfold World.setCell
      simp [Array.getElem?_modify, hj]
    obtain ⟨c', h1, h2, h3, h4, h5, h6, h7, h8⟩ := setCells_heap b vs (o + 1) (w.setCell ⟨b, o, none⟩ v) (c.setIfInBounds o v) T hb' (by simp; omega)
    refine ⟨c', by simpa using h1, fun i hi => ?_, fun i hi => ?_, fun j => ?_, ?_, h6, h7, h8⟩
    · rw [h2 i (by simp at hi; omega), Array.getElem?_setIfInBounds_ne (by simp at hi; omega)]
    · cases i with
      | zero => rw [Nat.add_zero, h2 o (by omega), Array.getElem?_setIfInBounds_self_of_lt (by omega)]; simp
      | succ i =>
        have := h3 i (by simp at hi; omega)
        rw [show o + (i + 1) = o + 1 + i by omega, this]; simp
    · simp only [World.setCells]
      rw [h4 j]
      split
      · rfl
      · rename_i h; exact hne j h
    · simp only [World.setCells]
      rw [h5]; simp [World.setCell]
theorem growBy_le (newLen : Nat) : ∀ r c, c ≤ newLen + newLen / 4 + 192 → Builtin.growBy newLen r c ≤ newLen + newLen / 4 + 192
  | 0, c, h => h
  | r + 1, c, h => by
    unfold Builtin.growBy
    split
    · exact h
    · exact growBy_le newLen r _ (by omega)
theorem cap_le {need old : Nat} (h : old < need) : Builtin.nextslicecap need old ≤ 2 * need + 192 := by
  unfold Builtin.nextslicecap
  split
  · omega
  · split
    · omega
    · have := growBy_le need 4 old (by omega); omega
theorem growIn_spec {sT xT : TypeId} {n c : Nat} {x : Value} {g : GrowIn} (h : growIn P sT xT n c x = some g) :
    P.underlying sT = some (.slice g.elem) ∧ (∃ d, P.underlying xT = some d ∧ okSrc d x g.i.size = true) ∧ lenV x = some g.k ∧ P.info? g.elem = some g.i ∧
      (∃ z, g.i.zero = some z ∧ scal1 z = true ∧ z.cells.size = g.i.size) ∧ c < n + g.k ∧ n ≤ c ∧ n + g.k ≤ 1000 ∧ g.i.size ≠ 0 ∧ g.i.bytes ≤ 4096 := by
  unfold growIn at h
  split at h
  · rename_i elem d k h1 h2 h3
    split at h
    · rename_i i hi
      split at h
      · rename_i z hz
        split at h
        · rename_i hc
          cases h
          simp only [Bool.and_eq_true, decide_eq_true_eq, beq_iff_eq, bne_iff_ne, ne_eq] at hc
          obtain ⟨⟨⟨⟨⟨⟨⟨c1, c2⟩, c3⟩, c4⟩, c5⟩, c6⟩, c7⟩, c8⟩ := hc
          exact ⟨h1, ⟨d, h2, c1⟩, h3, hi, ⟨z, hz, c5, c6⟩, c2, c3, c4, c7, c8⟩
        · cases h
      · cases h
    · cases h
  · cases h
theorem src_spec {x x' : Value} {σ : St} {new : Array Value × St} {size k : Nat} {xT : TypeId} {d : TypeDesc} (hx : VRel φ x x') (hl : lrun P (Builtin.firstCells size k x) σ = some [new]) (hd : P.underlying xT = some d)
    (hs : okSrc d x size = true) (hk : lenV x = some k) (hz : new.1.size = k * size) (h1 : ∀ v ∈ new.1, v.oneCell' = true) : Reads σ new.2 ∧
    ∀ (υ : St) (L : Nat → Option LObj) (w : World), LProp new.2 υ → Agree L σ υ → Good φ L w → ∃ news : List Value, Src P size xT x' k news w ∧ LRel φ new.1.toList news := by
  cases x <;> first | (cases d <;> (simp [okSrc] at hs; done)) | skip
  case string s =>
    cases d <;> first | (simp [okSrc] at hs; done) | skip
    simp only [okSrc, beq_iff_eq] at hs
    subst hs
    cases hk
    have hx' : x' = .string s := VRel.eq1 rfl hx
    subst hx'
    have hp : Builtin.firstCells 1 s.size (.string s) = Sem.pure (((s.extract 0 s.size).data.map fun b => Value.int .u8 b.toNat)) := rfl
    rw [hp] at hl
    cases hl
    refine ⟨.refl σ, fun υ L w _ _ _ => ⟨byteCells s, Src.ofString w hd s, ?_⟩⟩
    have hr := firstCells_string (P := P) s w
    rw [hp] at hr
    simp only [Sem.run, Result.ok.injEq, and_true] at hr
    rw [hr]
    refine ⟨rfl, fun i v v' hv hv' => ?_⟩
    rw [hv'] at hv
    cases hv
    have hm := List.mem_of_getElem? hv'
    unfold byteCells at hm
    obtain ⟨_, _, rfl⟩ := List.mem_map.1 hm
    exact .sc rfl
  case slice a m c =>
    cases d <;> first | (simp [okSrc] at hs; done) | skip
    rename_i e'
    cases hk
    cases a with
    | none =>
      have hp : Builtin.firstCells size k (.slice none k c) = Sem.pure #[] := rfl
      rw [hp] at hl
      cases hl
      have hx' : x' = .slice none k c := VRel.eq1 rfl hx
      subst hx'
      refine ⟨.refl σ, fun υ L w _ _ _ => ⟨[], ?_, .nil φ⟩⟩
      have hk0 : 0 = k * size := by simpa using hz
      exact ⟨.inl ⟨e', hd⟩, fun _ => rfl, rfl, rfl, by simpa using hk0, fun u hu => by cases hu⟩
    | some a =>
      have hp : Builtin.firstCells size k (.slice (some a) k c) = loadCellsFrom a 0 (k * size) #[] := rfl
      rw [hp] at hl
      obtain ⟨vs, τ, ho, hr, hlen, hlook, hbit⟩ := lc_shape a (k * size) 0 #[] σ _ hl
      simp only [List.cons.injEq, and_true] at ho
      subst ho
      refine ⟨hr, fun υ L w hpr hag hg => ?_⟩
      cases hx with
      | sc h0 => simp [scal] at h0
      | slice hb =>
        rename_i b b' e off
        have hz0 : ∀ (x : Addr) j, x.add (0 + j) = x.add j := fun x j => by rw [Nat.zero_add]
        have hLb : vs ≠ [] → L b = σ.m b := fun hne => by
          have hpos : 0 < k * size := by rw [← hlen]; exact List.length_pos_iff.2 hne
          have hb0 := hlook 0 _ (List.getElem?_eq_getElem (List.length_pos_iff.2 hne))
          obtain ⟨_, hbn, _⟩ := look_spec hb0
          have hbl : (Addr.add ⟨b, off, none⟩ (0 + 0)).block = b := rfl
          rw [hbl] at hbn
          exact hag b (.inl (hpr.rd b (hbit hpos))) hbn
        obtain ⟨us, hul, hrel, hcell⟩ := rd_cells (w := w) (L := L) (σ := σ) (vs := vs) (AdR.of hb) hg (fun j v hj => by rw [← hz0]; exact hlook j v hj) hLb
        refine ⟨us, Src.ofSlice w hd _ k _ us (by rw [hul, hlen]) hcell ?_, by simpa using hrel⟩
        exact hrel.one fun v hv => h1 v (by simpa using hv)
theorem src_reads {x : Value} {σ : St} {new : Array Value × St} {size k : Nat} (hl : lrun P (Builtin.firstCells size k x) σ = some [new]) : Reads σ new.2 := by
  cases x <;> first | (cases hl; done) | skip
  case string s => 
    replace hl : lrun P (Sem.pure _) σ = some [new] := hl
    cases hl; exact .refl σ
  case slice a m c =>
    cases a with
    | none =>
      replace hl : lrun P (Sem.pure _) σ = some [new] := hl
      cases hl; exact .refl σ
    | some a =>
      obtain ⟨vs, τ, ho, hr, _⟩ := lc_shape a (k * size) 0 #[] σ _ (show lrun P (loadCellsFrom a 0 (k * size) #[]) σ = some [new] from hl)
      simp only [List.cons.injEq, and_true] at ho
      subst ho
      exact hr
theorem sim_kill {L : Nat → Option LObj} {w : World} {σ : St} {b : Nat} (hg : Good φ L w) (hw : WF σ) (_hb : b < σ.next) (_hlive : L b ≠ none) (ha : Agree L σ (σ.write b none)) (hnr : ∀ c, L b ≠ some (.rom c)) :
    Step σ (σ.write b none) φ φ L (fun c => if b = c then none else L c) w w where
  g := {
    le := .refl φ
    new := fun c h h' => absurd h h'
    good := by
      refine ⟨fun c x hx => ?_, fun c d hc hd r' e1 e2 h1 h2 => ?_⟩
      · split at hx
        · cases hx
        · exact hg.obj c x hx
      · have conv : ∀ x, (if b = x then none else L x) ≠ none → L x ≠ none := fun x hx => by
          split at hx
          · exact absurd rfl hx
          · exact hx
        exact hg.inj c d (conv c hc) (conv d hd) r' e1 e2 h1 h2
    stay := fun c hc _ => by
      have : b ≠ c := fun h => hc (bit_or.2 (.inr h))
      simp [this]
    dead := fun c _ hd => by split <;> first | rfl | exact hd
    size := Nat.le_refl _
    frame := fun j _ _ => rfl
    fresh := fun c h1 => by simp [St.N, St.write] at h1; omega
    kept := ⟨rfl, rfl, rfl⟩
    rom := fun c x hx => by
      have : b ≠ c := fun h => hnr x (h ▸ hx)
      simp [this, hx] }
  here := fun c hc => by
    rcases hc with hc | hc
    · simp only [St.m, St.write, Tree.get_set]
      split
      · rfl
      · rename_i hbc
        have hc2 := bit_or.1 hc
        rcases hc2 with hc2 | hc2
        · exact ha c (.inr (bit_or.2 (.inl hc2))) (hw.wr c hc2)
        · exact absurd hc2 hbc
    · simp [St.N, St.write] at hc; omega
theorem Good.lt {L : Nat → Option LObj} {w : World} (hg : Good φ L w) {x : Nat} (hx : L x ≠ none) {r e : Nat} (hp : φ x = some (r, e)) : r < w.heap.size := by
  obtain ⟨o', ho'⟩ := Option.ne_none_iff_exists'.1 hx
  obtain ⟨r', e', ob', h1, h2, _⟩ := hg.obj x o' ho'
  rw [hp] at h1; cases h1
  exact (Array.getElem?_eq_some_iff.1 h2).1
theorem sim_newE {L : Nat → Option LObj} {w w' : World} {σ : St} {o : LObj} {ob : Obj} {e : Nat} (hg : Good φ L w) (hw : WF σ) (ha : Agree L σ (σ.grow o)) (hc : Clear φ L σ (σ.grow o))
    (ho : ∀ ψ, Le φ ψ → ObjR ψ e o ob) (hh : ∀ j, w'.heap[j]? = if w.heap.size = j then some ob else w.heap[j]?) (hs : w.heap.size ≤ w'.heap.size)
    (hk : w'.os = w.os ∧ w'.tape = w.tape ∧ w'.output = w.output) :
    Step σ (σ.grow o) φ (fun c => if σ.next = c then some (w.heap.size, e) else φ c) L (fun c => if σ.next = c then some o else L c) w w' := by
  have hcl := hc σ.next (Nat.le_refl _) (by simp [St.grow])
  have hle : Le φ (fun c => if σ.next = c then some (w.heap.size, e) else φ c) := fun b x hx => by
    have : σ.next ≠ b := fun h => by rw [← h, hcl.1] at hx; cases hx
    simp [this, hx]
  have hN : ∀ c, St.N σ (σ.grow o) c ↔ σ.next = c := fun c => by simp [St.N, St.grow]; omega
  refine ⟨⟨hle, fun b h1 h2 => ?_, ?_, fun c h1 h2 => ?_, fun c h1 h2 => ?_, hs, fun r hr _ => ?_, fun b h1 _ r e hp => ?_, hk, fun b c hb => ?_⟩, fun c hc' => ?_⟩
  · rw [hN]
    by_cases hb : σ.next = b
    · exact hb
    · simp [hb] at h2; exact absurd h1 h2
  · refine ⟨fun c x hx => ?_, fun c d h1 h2 r e1 e2 h3 h4 => ?_⟩
    · split at hx
      · rename_i h; subst h; cases hx
        exact ⟨w.heap.size, e, ob, by simp, by rw [hh]; simp, ho _ hle⟩
      · rename_i h
        obtain ⟨r, e, ob', h1, h2, h3⟩ := hg.obj c x hx
        have hlt : r < w.heap.size := (Array.getElem?_eq_some_iff.1 h2).1
        refine ⟨r, e, ob', hle _ _ h1, ?_, h3.mono hle⟩
        rw [hh, if_neg (by omega)]; exact h2
    · by_cases hc1 : σ.next = c
      · by_cases hd1 : σ.next = d
        · omega
        · rw [if_pos hc1] at h3
          rw [if_neg hd1] at h2 h4
          cases h3
          have := hg.lt h2 h4; omega
      · by_cases hd1 : σ.next = d
        · rw [if_neg hc1] at h1 h3
          rw [if_pos hd1] at h4
          cases h4
          have := hg.lt h1 h3; omega
        · rw [if_neg hc1] at h1 h3
          rw [if_neg hd1] at h2 h4
          exact hg.inj c d h1 h2 r e1 e2 h3 h4
  · rw [hN] at h2; simp [h2]
  · rw [hN] at h1; simp [h1, h2]
  · rw [hh, if_neg (by omega)]
  · rw [hN] at h1
    simp [h1] at hp
    exact .inl (by omega)
  · have : σ.next ≠ b := fun h => by rw [← h, hcl.2] at hb; cases hb
    simp [this, hb]
  · simp only [St.m, St.grow, Tree.get_set]
    split
    · rfl
    · rename_i h
      rcases hc' with hc' | hc'
      · exact ha c (.inr hc') (hw.wr c hc')
      · rw [hN] at hc'; exact absurd hc' h
theorem sim_take {L : Nat → Option LObj} {w w' : World} {σ : St} {b r e e' : Nat} {o : LObj} {ob : Obj} (hg : Good φ L w) (hw : WF σ) (hb : b < σ.next) (hp : φ b = some (r, e)) (hlive : L b ≠ none)
    (ha : Agree L σ ((σ.write b none).grow o)) (hc : Clear φ L σ ((σ.write b none).grow o)) (ho : ∀ ψ, Le φ ψ → ObjR ψ e' o ob) (hh : ∀ j, w'.heap[j]? = if r = j then some ob else w.heap[j]?)
    (hs : w'.heap.size = w.heap.size) (hk : w'.os = w.os ∧ w'.tape = w.tape ∧ w'.output = w.output) (hnr : ∀ c, L b ≠ some (.rom c)) :
    Step σ ((σ.write b none).grow o) φ (fun c => if σ.next = c then some (r, e') else φ c) L (fun c => if σ.next = c then some o else if b = c then none else L c) w w' := by
  have hnx : (σ.write b none).next = σ.next := rfl
  have hcl := hc σ.next (Nat.le_refl _) (by simp [St.grow, St.write])
  have hle : Le φ (fun c => if σ.next = c then some (r, e') else φ c) := fun b x hx => by
    have : σ.next ≠ b := fun h => by rw [← h, hcl.1] at hx; cases hx
    simp [this, hx]
  have hN : ∀ c, St.N σ ((σ.write b none).grow o) c ↔ σ.next = c := fun c => by simp [St.N, St.grow, St.write]; omega
  have hWb : ((σ.write b none).grow o).W b := bit_or.2 (.inr rfl)
  have hr := hg.lt hlive hp
  have hbn : σ.next ≠ b := by omega
  refine ⟨⟨hle, fun b h1 h2 => ?_, ?_, fun c h1 h2 => ?_, fun c h1 h2 => ?_, by omega, fun j hj hno => ?_, fun c h1 _ r1 e1 hp1 => ?_, hk, fun c x hx => ?_⟩, fun c hc' => ?_⟩
  · rw [hN]
    by_cases hb : σ.next = b
    · exact hb
    · simp [hb] at h2; exact absurd h1 h2
  · have live : ∀ c, σ.next ≠ c → (if σ.next = c then some o else if b = c then none else L c) ≠ none → b ≠ c ∧ L c ≠ none := fun c hcn h => by
      rw [if_neg hcn] at h
      by_cases hbc : b = c
      · rw [if_pos hbc] at h; exact absurd rfl h
      · rw [if_neg hbc] at h; exact ⟨hbc, h⟩
    refine ⟨fun c x hx => ?_, fun c d h1 h2 r1 e1 e2 h3 h4 => ?_⟩
    · by_cases hcn : σ.next = c
      · rw [if_pos hcn] at hx; cases hx
        exact ⟨r, e', ob, by simp [hcn], by rw [hh]; simp, ho _ hle⟩
      · have hl := live c hcn (by rw [hx]; simp)
        rw [if_neg hcn, if_neg hl.1] at hx
        obtain ⟨r1, e1, ob', h1, h2, h3⟩ := hg.obj c x hx
        refine ⟨r1, e1, ob', hle _ _ h1, ?_, h3.mono hle⟩
        rw [hh, if_neg (fun h : r = r1 => hl.1 (hg.inj b c hlive hl.2 r e e1 hp (by rw [h]; exact h1)))]; exact h2
    · by_cases hc1 : σ.next = c
      · by_cases hd1 : σ.next = d
        · omega
        · have hl := live d hd1 h2
          rw [if_pos hc1] at h3
          rw [if_neg hd1] at h4
          cases h3
          exact absurd (hg.inj b d hlive hl.2 r e e2 hp h4) hl.1
      · by_cases hd1 : σ.next = d
        · have hl := live c hc1 h1
          rw [if_neg hc1] at h3
          rw [if_pos hd1] at h4
          cases h4
          exact absurd (hg.inj b c hlive hl.2 r e e1 hp h3) hl.1
        · have l1 := live c hc1 h1
          have l2 := live d hd1 h2
          rw [if_neg hc1] at h3
          rw [if_neg hd1] at h4
          exact hg.inj c d l1.2 l2.2 r1 e1 e2 h3 h4
  · have h3 : b ≠ c := fun h => h1 (h ▸ hWb)
    rw [hN] at h2; simp [h2, h3]
  · rw [hN] at h1; simp [h1, h2]
  · rw [hh]
    split
    · rename_i h; exact absurd (h ▸ hp) (hno b e hlive hWb)
    · rfl
  · rw [hN] at h1
    simp only [h1, if_true, Option.some.injEq, Prod.mk.injEq] at hp1
    refine .inr ⟨b, ?_, hlive, hWb, e, by rw [hp, hp1.1]⟩
    rw [hN]; exact hbn
  · have h3 : σ.next ≠ c := fun h => by rw [← h, hcl.2] at hx; cases hx
    have h4 : b ≠ c := fun h => hnr x (h ▸ hx)
    simp [h3, h4, hx]
  · simp only [St.m, St.grow, St.write, Tree.get_set]
    split
    · rfl
    · rename_i h
      split
      · rfl
      · rename_i hbc
        rcases hc' with hc' | hc'
        · have hc2 := bit_or.1 (show (σ.wr ||| 2 ^ b).testBit c = true from hc')
          rcases hc2 with hc2 | hc2
          · exact ha c (.inr (show ((σ.wr ||| 2 ^ b).testBit c = true) from bit_or.2 (.inl hc2))) (hw.wr c hc2)
          · exact absurd hc2 hbc
        · rw [hN] at hc'; exact absurd hc' h
theorem nextCap_fits {need old bytes : Nat} (h : old < need) (hn : need ≤ 1000) (hb : bytes ≤ 4096) : Builtin.nextslicecap need old * bytes ≤ 281474976710656 := by
  have h1 := cap_le h
  have h2 : Builtin.nextslicecap need old ≤ 2192 := by omega
  have h3 := Nat.mul_le_mul h2 hb
  omega
theorem run_grow {sT xT ty : TypeId} {g : GrowIn} {z : Value} {base : Option Addr} {n c : Nat} {x : Value} {olds news : List Value} {w : World} (hsT : P.underlying sT = some (.slice g.elem)) (hi : P.info? g.elem = some g.i) (hz : g.i.zero = some z)
    (hzs : z.cells.size = g.i.size) (hold : (Builtin.firstCells g.i.size n (.slice base n c)).run P w.drew = .ok olds.toArray w.drew) (hol : olds.length = n * g.i.size) (hs : Src P g.i.size xT x g.k news w) (hg : c < n + g.k)
    (hn : n + g.k ≤ 1000) (hb : g.i.bytes ≤ 4096) :
    ∃ (cap : Nat) (cells : Array Value) (w' : World), (Builtin.append_ #[sT, xT] ty #[.slice base n c, x]).run P w = .ok (.slice (some ⟨w.heap.size, 0, none⟩) (n + g.k) (n + g.k + cap)) w' ∧
      (∀ j, w'.heap[j]? = if w.heap.size = j then some (.cells cells g.elem (0, 0)) else w.heap[j]?) ∧ w.heap.size ≤ w'.heap.size ∧ (w'.os = w.os ∧ w'.tape = w.tape ∧ w'.output = w.output) ∧
      cells.size = (n + g.k) * g.i.size + cap * g.i.size ∧ ∀ i, i < (n + g.k) * g.i.size → cells[i]? = (olds ++ news)[i]? := by
  have hrun := run_append_grow_src (P := P) w sT xT ty g.elem g.i z hsT hi hz base n c olds hold x g.k news hs hg (by omega) (nextCap_fits hg hn hb)
  have hge := grownCap_ge w (n + g.k) c g.elem
  have hlen : (olds ++ news).length = (n + g.k) * g.i.size := by rw [List.length_append, hol, hs.newsLen, Nat.add_mul]
  refine ⟨grownCap w (n + g.k) c g.elem - (n + g.k), (olds ++ news).toArray ++ Builtin.zeroCells z.cells (grownCap w (n + g.k) c g.elem - (n + g.k)), w.drew.alloc (.cells ((olds ++ news).toArray ++ Builtin.zeroCells z.cells (grownCap w (n + g.k) c g.elem - (n + g.k))) g.elem), by rw [hrun, show n + g.k + (grownCap w (n + g.k) c g.elem - (n + g.k)) = grownCap w (n + g.k) c g.elem by omega], fun j => ?_, (by show w.heap.size ≤ (w.heap.push _).size; rw [Array.size_push]; omega), ⟨rfl, rfl, rfl⟩, ?_, fun i hi => ?_⟩
  · show (w.heap.push _)[j]? = _
    rw [Array.getElem?_push]
    by_cases hj : w.heap.size = j
    · simp [hj]
    · have : ¬ j = w.heap.size := fun h => hj h.symm
      simp [hj, this]
  · rw [Array.size_append, List.size_toArray, hlen]
    simp [Builtin.zeroCells, hzs]
  · rw [Array.getElem?_append_left (by rw [List.size_toArray, hlen]; exact hi)]
    simp
theorem joined {cs c' cells : Array Value} {new : Array Value} {news : List Value} {N M : Nat} (hn : N ≤ cs.size) (hn' : N ≤ c'.size) (hrel : ∀ (i : Nat) v v', cs[i]? = some v → c'[i]? = some v' → VRel φ v v') (hnr : LRel φ new.toList news)
    {k : Nat} (hk : new.size = k) (hci : ∀ i, i < M → cells[i]? = (c'.toList.take N ++ news)[i]?) {i : Nat} {v v' : Value} (hv : (cs.extract 0 N ++ new)[i]? = some v) (hv' : cells[i]? = some v') (hM : M = N + k := by rw [Nat.add_mul]) : VRel φ v v' := by
  have hi : i < N + k := by
    have := (Array.getElem?_eq_some_iff.1 hv).1
    rw [Array.size_append, Array.size_extract] at this; omega
  rw [hci i (by omega)] at hv'
  have hes : (cs.extract 0 N).size = N := by rw [Array.size_extract]; omega
  have htl : (c'.toList.take N).length = N := by simp; omega
  by_cases hin : i < N
  · rw [Array.getElem?_append_left (by omega), Array.getElem?_extract] at hv
    rw [List.getElem?_append_left (by omega), List.getElem?_take, if_pos hin, Array.getElem?_toList] at hv'
    split at hv
    · rw [Nat.zero_add] at hv; exact hrel i v v' hv hv'
    · cases hv
  · rw [Array.getElem?_append_right (by omega), hes] at hv
    rw [List.getElem?_append_right (by omega), htl] at hv'
    exact hnr.2 _ v v' (by simpa using hv) hv'
theorem growR_spec {ats : Array TypeId} {args : Array Value} {σ : St} {r : Value × St} (h : growR P ats args σ = some r) (ty : TypeId) : LProp σ r.2 ∧
    ∀ φ args' L w, ARel φ args args' → WF σ → Clear φ L σ r.2 → Agree L σ r.2 → Good φ L w →
      ∃ v' w' φ' L', (Builtin.append_ ats ty args').run P w = .ok v' w' ∧ VRel φ' r.1 v' ∧ Step σ r.2 φ φ' L L' w w' := by
  unfold growR at h
  split at h
  · rename_i sT xT base n c x hats hargs
    split at h
    · rename_i g hg
      obtain ⟨hsT, ⟨d, hxT, hsrc⟩, hlenx, hi, ⟨z, hz, _, hzs⟩, hlt, hnc, hn, hs0, hb⟩ := growIn_spec hg
      split at h
      · rename_i new hnew
        split at h
        · rename_i hone
          simp only [Bool.and_eq_true, beq_iff_eq] at hone
          have hone1 : ∀ v ∈ new.1, v.oneCell' = true := by
            have := hone.1; rw [Array.all_eq_true_iff_forall_mem] at this; exact this
          have ats' : ats = #[sT, xT] := by rw [← Array.toArray_toList (xs := ats), hats]
          have args' : args = #[.slice base n c, x] := by rw [← Array.toArray_toList (xs := args), hargs]
          subst ats'
          subst args'
          have rel2 : ∀ {φ : Emb} {as : Array Value}, ARel φ #[.slice base n c, x] as → ∃ s' x', as = #[s', x'] ∧ VRel φ (.slice base n c) s' ∧ VRel φ x x' := fun {φ as} ha => by
            have hl := ha.toList
            obtain ⟨s', m, hm, hv, hl2⟩ := LRel.cons_inv hl
            obtain ⟨x', m', rfl, hv', hl3⟩ := LRel.cons_inv hl2
            have := hl3.nil_inv
            subst this
            exact ⟨s', x', by rw [← Array.toArray_toList (xs := as), hm], hv, hv'⟩
          cases base with
          | none =>
            simp only at h
            split at h
            · rename_i old τ hot
              cases h
              split at hot
              · rename_i hn0
                cases hot
                subst hn0
                have hrd : Reads σ new.2 := src_reads hnew
                refine ⟨hrd.prop.trans (LProp.growOf _ _), fun φ as L w ha hw hc hag hgood => ?_⟩
                obtain ⟨s', x', rfl, hs', hx'⟩ := rel2 ha
                have e1 : s' = .slice none 0 c := VRel.eq1 rfl hs'
                subst e1
                obtain ⟨news, hsr, hnr⟩ := (src_spec hx' hnew hxT hsrc hlenx hone.2 hone1).2 _ L w (LProp.growOf _ _) hag hgood
                obtain ⟨cap, cells, w', hrun, hh, hsz, hk, hcs, hci⟩ := run_grow (ty := ty) (base := none) (olds := []) hsT hi hz hzs rfl (by simp) hsr hlt hn hb
                have hgood' : Good φ L w := hgood
                have hstep := sim_newE (o := .cells (#[] ++ new.1) g.elem g.i.size) (ob := .cells cells g.elem (0, 0)) (e := cap) hgood (hrd.prop.wf hw) (hag.reads hrd) (fun b h1 h2 => hc b (by rw [← hrd.next]; exact h1) h2)
                  (fun ψ hψ => ⟨rfl, rfl, by rw [hcs]; simp [hone.2], fun h => absurd h hs0, fun i v v' hv hv' => ?_⟩) hh hsz hk
                · refine ⟨_, w', _, _, hrun, ?_, (Step.same hgood hw (hag.first (LProp.growOf _ _)) hrd.next hrd.mem hrd.wr rfl ⟨rfl, rfl, rfl⟩).trans hrd.prop (LProp.growOf _ _) hc hstep⟩
                  exact .slice (by simp)
                · have hv2 : new.1.toList[i]? = some v := by simpa using hv
                  have hi1 : i < (0 + g.k) * g.i.size := by
                    have := (List.getElem?_eq_some_iff.1 hv2).1
                    rw [Nat.zero_add, ← hone.2]; simpa using this
                  rw [hci i hi1] at hv'
                  exact (hnr.2 i v v' hv2 (by simpa using hv')).mono hψ
              · cases hot
            · cases h
          | some b =>
            simp only at h
            split at h
            · rename_i old τ hot
              cases h
              have hrd : Reads σ new.2 := src_reads hnew
              unfold growOld at hot
              split at hot
              · rename_i hb0
                simp only [Bool.and_eq_true, decide_eq_true_eq, Option.isNone_iff_eq_none] at hb0
                split at hot
                · rename_i cs T kk hm
                  split at hot
                  · rename_i hcs
                    simp only [Bool.and_eq_true, beq_iff_eq] at hcs
                    obtain ⟨⟨rfl, hcsz⟩, hcone⟩ := hcs
                    have hcone1 : ∀ v ∈ cs, v.oneCell' = true := by
                      rw [Array.all_eq_true_iff_forall_mem] at hcone; exact hcone
                    have hmσ : σ.m b.block = some (.cells cs g.elem kk) := by rw [← hm]; simp [St.m, hrd.mem]
                    have hbσ : b.block < σ.next := by rw [← hrd.next]; exact hb0.2
                    obtain ⟨bb, bo, bs⟩ := b
                    simp only at hb0 hm hmσ hbσ hot
                    obtain ⟨⟨rfl, rfl⟩, hb0'⟩ := hb0
                    have hnsz : n * g.i.size ≤ cs.size := by rw [hcsz]; exact Nat.mul_le_mul_right _ hnc
                    have real : ∀ {φ : Emb} {L : Nat → Option LObj} {w : World} {s' : Value}, VRel φ (.slice (some ⟨bb, 0, none⟩) n c) s' → Good φ L w → L bb = some (.cells cs g.elem kk) →
                        ∃ (b' e : Nat) (c' : Array Value), φ bb = some (b', e) ∧ s' = .slice (some ⟨b', 0, none⟩) n (c + e) ∧ w.heap[b']? = some (.cells c' g.elem (0, 0)) ∧ c'.size = cs.size + e * kk ∧ (kk = 0 → e = 0) ∧
                          (∀ (i : Nat) v v', cs[i]? = some v → c'[i]? = some v' → VRel φ v v') ∧
                          (Builtin.firstCells g.i.size n (.slice (some ⟨b', 0, none⟩) n (c + e))).run P w.drew = .ok (c'.toList.take (n * g.i.size)).toArray w.drew := fun {φ L w s'} hs' hgood hL => by
                      cases hs' with
                      | sc h0 => simp [scal] at h0
                      | slice hp =>
                        rename_i b' e
                        obtain ⟨c', hh, hsz, hk0, hrel⟩ := hgood.cells hL hp
                        refine ⟨b', e, c', hp, rfl, hh, hsz, hk0, hrel, run_firstCells_some w.drew g.i.size n _ n (c + e) _ (by simp; omega) fun j v hj => ?_⟩
                        have hj2 : c'[j]? = some v := by
                          rw [List.getElem?_take] at hj
                          split at hj
                          · simpa using hj
                          · cases hj
                        have hadd : (⟨b', 0, none⟩ : Addr).add j = ⟨b', j, none⟩ := by unfold Addr.add; split <;> simp_all
                        rw [hadd]
                        unfold World.cell?
                        show (match w.heap[b']? with | some (.cells c _ _) => _ | _ => none) = _
                        rw [hh]
                        simpa using hj2
                    split at hot
                    · rename_i hk0
                      cases hot
                      subst hk0
                      have p1 : LProp new.2 (new.2.read bb) := LProp.readOf _ _
                      have r1 : Reads σ (new.2.read bb) := hrd.trans (.read _ _)
                      refine ⟨r1.prop.trans (LProp.growOf _ _), fun φ as L w ha hw hc hag hgood => ?_⟩
                      obtain ⟨s', x', rfl, hs', hx'⟩ := rel2 ha
                      have hL : L bb = some (.cells cs g.elem 0) := by rw [hag bb (.inl (bit_or.2 (.inr rfl))) hbσ]; exact hmσ
                      obtain ⟨b', e, c', hp, rfl, hh0, hsz0, he0, hrel, hold⟩ := real hs' hgood hL
                      have he := he0 rfl
                      subst he
                      obtain ⟨news, hsr, hnr⟩ := (src_spec hx' hnew hxT hsrc hlenx hone.2 hone1).2 _ L w (p1.trans (LProp.growOf _ _)) hag hgood
                      obtain ⟨cap, cells, w', hrun, hh, hsz, hk, hcs, hci⟩ := run_grow (ty := ty) hsT hi hz hzs hold (by simp; omega) hsr (by simpa using hlt) hn hb
                      have hstep := sim_newE (o := .cells (cs.extract 0 (n * g.i.size) ++ new.1) g.elem g.i.size) (ob := .cells cells g.elem (0, 0)) (e := cap) hgood (r1.prop.wf hw) (hag.reads r1) (fun b h1 h2 => hc b (by rw [← r1.next]; exact h1) h2)
                        (fun ψ hψ => ⟨rfl, rfl, by rw [hcs, Array.size_append, hone.2, Array.size_extract, Nat.add_mul]; omega, fun h => absurd h hs0, fun i v v' hv hv' => (joined hnsz (by omega) hrel hnr hone.2 hci hv hv').mono hψ⟩) hh hsz hk
                      exact ⟨_, w', _, _, hrun, .slice (by simp), (Step.same hgood hw (hag.first (LProp.growOf _ _)) r1.next r1.mem r1.wr rfl ⟨rfl, rfl, rfl⟩).trans r1.prop (LProp.growOf _ _) hc hstep⟩
                    · rename_i hk0
                      split at hot
                      · rename_i hkk
                        cases hot
                        subst hkk
                        have p1 : LProp new.2 (new.2.write bb none) := LProp.writeOf _ _ _ hb0' (by rw [hm]; simp)
                        refine ⟨hrd.prop.trans (p1.trans (LProp.growOf _ _)), fun φ as L w ha hw hc hag hgood => ?_⟩
                        obtain ⟨s', x', rfl, hs', hx'⟩ := rel2 ha
                        have hL : L bb = some (.cells cs g.elem g.i.size) := by rw [hag bb (.inr (bit_or.2 (.inr rfl))) hbσ]; exact hmσ
                        obtain ⟨b', e, c', hp, rfl, hh0, hsz0, he0, hrel, hold⟩ := real hs' hgood hL
                        obtain ⟨news, hsr, hnr⟩ := (src_spec hx' hnew hxT hsrc hlenx hone.2 hone1).2 _ L w (p1.trans (LProp.growOf _ _)) hag hgood
                        have hlive : L bb ≠ none := by rw [hL]; simp
                        have hnrom : ∀ c, L bb ≠ some (.rom c) := fun c h => by rw [hL] at h; cases h
                        have hw1 := hrd.prop.wf hw
                        have hag1 := hag.reads hrd
                        have hc1 : Clear φ L new.2 ((new.2.write bb none).grow (.cells (cs.extract 0 (n * g.i.size) ++ new.1) g.elem g.i.size)) := fun b h1 h2 => hc b (by rw [← hrd.next]; exact h1) h2
                        have pre := Step.same (w' := w) hgood hw (hag.first (p1.trans (LProp.growOf _ _))) hrd.next hrd.mem hrd.wr rfl ⟨rfl, rfl, rfl⟩
                        by_cases hroom : n + g.k ≤ c + e
                        · -- it grows where it is
                          have hb1 : b' < w.heap.size := hgood.lt hlive hp
                          have hfit : n * g.i.size + news.length ≤ c'.size := by
                            rw [hsr.newsLen, hsz0, hcsz, ← Nat.add_mul, ← Nat.add_mul]
                            exact Nat.mul_le_mul_right _ hroom
                          have hcell : ∀ j, j < news.length → (w.cell? ⟨b', 0 + n * g.i.size + j, none⟩).isSome = true := fun j hj => by
                            have hlt : 0 + n * g.i.size + j < c'.size := by omega
                            unfold World.cell?
                            show (match w.heap[b']? with | some (.cells c _ _) => _ | _ => none).isSome = true
                            rw [hh0]
                            show (c'[0 + n * g.i.size + j]?).isSome = true
                            rw [Array.getElem?_eq_getElem hlt]; rfl
                          have hrun := run_append_room_src (P := P) w sT xT ty g.elem g.i hsT hi b' 0 n (c + e) x' g.k news hsr hroom hcell
                            (fun j hj => by unfold World.frozen?; rw [hh0]; simp)
                          obtain ⟨c2, d1, d2, d3, d4, d5, d6, d7, d8⟩ := setCells_heap b' news (0 + n * g.i.size) w c' g.elem hh0 (by omega)
                          have hstep := sim_take (o := .cells (cs.extract 0 (n * g.i.size) ++ new.1) g.elem g.i.size) (ob := .cells c2 g.elem (0, 0)) (e' := c + e - (n + g.k)) hgood hw1 hb0' hp hlive hag1 hc1
                            (fun ψ hψ => ⟨rfl, rfl, by
                                rw [d1, hsz0, hcsz, Array.size_append, hone.2, Array.size_extract, ← Nat.add_mul]
                                have e1 : min (n * g.i.size) cs.size - 0 = n * g.i.size := by omega
                                rw [e1, ← Nat.add_mul, ← Nat.add_mul]
                                congr 1; omega, fun h => absurd h hs0, fun i v v' hv hv' =>
                                  (joined (cells := c2) (M := (n + g.k) * g.i.size) hnsz (by omega) hrel hnr hone.2 (fun i hi => by
                                    by_cases hin : i < n * g.i.size
                                    · rw [d2 i (.inl (by omega)), List.getElem?_append_left (by simp; omega), List.getElem?_take, if_pos hin]; simp
                                    · have e2 : i = 0 + n * g.i.size + (i - n * g.i.size) := by omega
                                      rw [e2, d3 _ (by rw [hsr.newsLen]; rw [Nat.add_mul] at hi; omega), List.getElem?_append_right (by simp; omega)]
                                      congr 1
                                      simp; omega) hv hv').mono hψ⟩) d4 d5 ⟨d6, d7, d8⟩ hnrom
                          refine ⟨_, _, _, _, hrun, ?_, pre.trans hrd.prop (p1.trans (LProp.growOf _ _)) hc hstep⟩
                          have e3 : c + e = (n + g.k) + (c + e - (n + g.k)) := by omega
                          show VRel _ (.slice (some ⟨new.2.next, 0, none⟩) (n + g.k) (n + g.k)) (.slice (some ⟨b', 0, none⟩) (n + g.k) (c + e))
                          rw [e3]
                          exact .slice (by simp [])
                        · obtain ⟨cap, cells, w', hrun, hh, hsz, hk, hcs, hci⟩ := run_grow (ty := ty) hsT hi hz hzs hold (by simp; omega) hsr (by omega) hn hb
                          have k1 := sim_kill hgood hw1 hb0' hlive (hag1.first (LProp.growOf _ _)) hnrom
                          have hstep := sim_newE (o := .cells (cs.extract 0 (n * g.i.size) ++ new.1) g.elem g.i.size) (ob := .cells cells g.elem (0, 0)) (e := cap) k1.g.good (p1.wf hw1) (k1.agree p1 hag1) (k1.clear hw1 p1 hc1)
                            (fun ψ hψ => ⟨rfl, rfl, by rw [hcs, Array.size_append, hone.2, Array.size_extract, Nat.add_mul]; omega, fun h => absurd h hs0, fun i v v' hv hv' => (joined hnsz (by omega) hrel hnr hone.2 hci hv hv').mono hψ⟩) hh hsz hk
                          exact ⟨_, w', _, _, hrun, .slice (by simp), pre.trans hrd.prop (p1.trans (LProp.growOf _ _)) hc (k1.trans p1 (LProp.growOf _ _) hc1 hstep)⟩
                      · cases hot
                  · cases hot
                · cases hot
              · cases hot
            · cases h
        · cases h
      · cases h
    · cases h
  · cases h
theorem growOp_spec {ρ : Operand → Value} {o : Oper} {σ : St} {r : Value × St} (h : growOp P ρ o σ = some r) : LProp σ r.2 ∧
    ∀ φ ρ' L w, (∀ x ∈ o.op.operands, VRel φ (ρ x) (ρ' x)) → WF σ → Clear φ L σ r.2 → Agree L σ r.2 → Good φ L w →
      ∃ v' w' φ' L', (execOp ρ' o).run P w = .ok (.value v') w' ∧ VRel φ' r.1 v' ∧ Step σ r.2 φ φ' L L' w w' := by
  obtain ⟨dst, op, type, pos, after, guard⟩ := o
  cases op <;> first | (cases h; done) | skip
  rename_i cl
  obtain ⟨callee, args, ats⟩ := cl
  cases callee <;> first | (cases h; done) | skip
  rename_i b
  cases b <;> first | (cases h; done) | skip
  obtain ⟨h1, h2⟩ := growR_spec (show growR P ats (args.map ρ) σ = some r from h) type
  refine ⟨h1, fun φ ρ' L w hρ hw hc hag hg => ?_⟩
  have ha : ARel φ (args.map ρ) (args.map ρ') := ARel.mapOf fun x hx => hρ x (by simp [Op.operands, Call.operands, hx])
  obtain ⟨v', w', φ', L', hrun, hv, hst⟩ := h2 φ (args.map ρ') L w ha hw hc hag hg
  refine ⟨v', w', φ', L', ?_, hv, hst⟩
  show ((Builtin.append_ ats type (args.map ρ')).bind fun v => Sem.pure (Next.value v)).run P w = _
  rw [run_bind', hrun]
  rfl
end
end Ck

/- The checker's maps. -/
namespace Ck
open Go
section
variable {P : Program} {φ : Emb} {α β γ : Type} {A : Emb → α → γ → Prop}
theorem SimS.skip {s : Sem α} {t : Sem β} {g : β → Sem γ} {b : β} (ht : ∀ w, t.run P w = .ok b w) (h : SimS P φ A s (g b)) : SimS P φ A s (t >>= g) := fun ψ hl σ outs L w hr hw hc hg => by
  obtain ⟨o, ho, c, w', ψ', L', h1, h2, h3⟩ := h ψ hl σ outs L w hr hw hc hg
  refine ⟨o, ho, c, w', ψ', L', ?_, h2, h3⟩
  show (t.bind g).run P w = _
  rw [run_bind', ht]
  exact h1
def keyOK : TypeDesc → Bool
  | .int _ | .string | .bool => true
  | _ => false
theorem run_checkKey {t : TypeId} {d : TypeDesc} (hd : P.underlying t = some d) (hk : keyOK d = true) (e : Bool) (n : Nat) (v : Value) (w : World) : (Instr.checkKey e (n + 1) t v).run P w = .ok () w := by
  unfold Instr.checkKey
  show ((underlying t).bind _).run P w = _
  rw [run_bind', run_underlying hd]
  cases d <;> first | (cases hk; done) | rfl
theorem sameNow_rel {d : TypeDesc} {k k' x x' : Value} {b : Bool} (h : Instr.sameNow d k x = some b) (hk : VRel φ k k') (hx : VRel φ x x') : Instr.sameNow d k' x' = some b := by
  unfold Instr.sameNow at h
  split at h
  · cases hk; cases hx; exact h
  · cases hk; cases hx; exact h
  · cases hk; cases hx; exact h
  · cases h
theorem findNow_rel {d : TypeDesc} {k k' : Value} (hk : VRel φ k k') : ∀ {l m : List MapEntry} (i : Nat) {r : Option (Nat × Value)}, EL φ l m → Instr.findNow d k l i = some r →
    ∃ r', Instr.findNow d k' m i = some r' ∧ ((r = none ∧ r' = none) ∨ ∃ j v v', r = some (j, v) ∧ r' = some (j, v') ∧ VRel φ v v')
  | [], [], i, r, _, h => by cases h; exact ⟨none, rfl, .inl ⟨rfl, rfl⟩⟩
  | x :: l, y :: m, i, r, he, h => by
    unfold Instr.findNow at h ⊢
    cases hs : Instr.sameNow d k x.key with
    | none => rw [hs] at h; cases h
    | some b =>
      rw [hs] at h
      rw [sameNow_rel hs hk he.1.1]
      cases b with
      | true => cases h; exact ⟨_, rfl, .inr ⟨i, _, _, rfl, rfl, he.1.2.1⟩⟩
      | false => exact findNow_rel hk (i + 1) he.2 h
  | [], _ :: _, _, _, h, _ => h.elim
  | _ :: _, [], _, _, h, _ => h.elim
theorem run_findKey {t : TypeId} {d : TypeDesc} {k : Value} {es : List MapEntry} {r : Option (Nat × Value)} (hd : P.underlying t = some d) (h : Instr.findNow d k es 0 = some r) (w : World) : (Instr.findKey t k es).run P w = .ok r w := by
  unfold Instr.findKey
  show ((underlying t).bind _).run P w = _
  rw [run_bind', run_underlying hd]
  simp only [h]
  rfl
def tell (ok : Bool) (v : Value) (b : Bool) : Value := if ok then .tuple #[v, .bool b] else v
theorem tell_rel {v v' : Value} (ok b : Bool) (h : VRel φ v v') : VRel φ (tell ok v b) (tell ok v' b) := by
  unfold tell
  split
  · exact .tupleOf (.ofList (.cons h (.cons (.sc rfl) (.nil φ))))
  · exact h
def entriesOf (x : Value) : Sem (Array MapEntry) :=
  match x with
  | .map none => pure #[]
  | .map (some r) => do
    let .map es _ ← getObj r | stuck ""
    pure es
  | _ => stuck ""
def lookupL (P : Program) (xType : TypeId) (x index : Value) (ok : Bool) : Sem Value := do
  let es ← entriesOf x
  match P.underlying xType with
  | some (.map key elem) =>
    match P.underlying key with
    | some d =>
      if keyOK d && zok P elem then
        match Instr.findNow d index es.toList 0 with
        | some (some (_, v)) => pure (tell ok v true)
        | some none => do pure (tell ok (← zeroValue elem) false)
        | none => stuck ""
      else stuck ""
    | none => stuck ""
  | _ => stuck ""
theorem sim_lookup {t : TypeId} {x x' k k' : Value} {ok : Bool} (hx : VRel φ x x') (hk : VRel φ k k') : SimS P φ VRel (lookupL P t x k ok) (Instr.lookup t x' k' ok) := by
  unfold lookupL
  cases ht : P.underlying t with
  | none => exact SimS.no (NoRun.bindR fun _ => NoRun.halt _)
  | some d =>
    cases d <;> first | exact SimS.no (NoRun.bindR fun _ => NoRun.halt _) | skip
    rename_i key elem
    unfold Instr.lookup
    refine SimS.skip (run_underlying ht) ?_
    have go : ∀ (ψ : Emb) (es es' : Array MapEntry), Le φ ψ → EsRel ψ es es' → SimS P ψ VRel
        (match P.underlying key with
          | some d =>
            if keyOK d && zok P elem then
              match Instr.findNow d k es.toList 0 with
              | some (some (_, v)) => pure (tell ok v true)
              | some none => do pure (tell ok (← zeroValue elem) false)
              | none => stuck ""
            else stuck ""
          | none => stuck "")
        (do Instr.checkKey es'.isEmpty 10000 key k'
            let (v, b) ← match ← Instr.findKey key k' es'.toList with
              | some (_, v) => pure (v, true)
              | none => pure (← zeroValue elem, false)
            pure (if ok then .tuple #[v, .bool b] else v)) := by
      intro ψ es es' hψ hes
      cases hd : P.underlying key with
      | none => exact SimS.halt
      | some d =>
        simp only
        split
        · rename_i hc
          simp only [Bool.and_eq_true] at hc
          cases hf : Instr.findNow d k es.toList 0 with
          | none => exact SimS.halt
          | some r =>
            obtain ⟨r', hr', hrel⟩ := findNow_rel (hk.mono hψ) 0 hes hf
            refine SimS.skip (fun w => run_checkKey hd hc.1 _ 9999 _ w) (SimS.skip (run_findKey hd hr') ?_)
            rcases hrel with ⟨rfl, rfl⟩ | ⟨j, v, v', rfl, rfl, hv⟩
            · refine SimS.bind (sim_zero hc.2) ?_
              rintro χ hχ z _ ⟨rfl, hs⟩
              exact SimS.ret fun _ _ => tell_rel ok false (.same1 hs)
            · exact SimS.ret fun _ hle => tell_rel ok true (hv.mono hle)
        · exact SimS.halt
    cases hx with
    | sc hs =>
      cases x <;> first | exact SimS.no (NoRun.bindL (NoRun.halt _)) | skip
      rename_i a
      cases a with
      | some a => simp [scal] at hs
      | none => exact go φ #[] #[] (.refl φ) True.intro
    | map hb =>
      unfold entriesOf
      simp only [bind_assoc]
      refine SimS.bind (sim_getObj hb) ?_
      intro ψ hψ o o' ho
      cases o <;> cases o' <;> first | exact ho.elim | exact SimS.no (NoRun.bindL (NoRun.halt _)) | skip
      exact go ψ _ _ hψ ho.2
    | _ => exact SimS.no (NoRun.bindL (NoRun.halt _))
def sameKey : Value → Value → Bool
  | .int j a, .int k b => j == k && a == b
  | .string a, .string b => a == b
  | .bool a, .bool b => a == b
  | _, _ => false
theorem run_stays {old new old' new' : Value} (h : sameKey old new = true) (ho : VRel φ old old') (hn : VRel φ new new') (w : World) : (Instr.keyThatStays old' new').run P w = .ok new' w := by
  unfold sameKey at h
  split at h
  · cases ho; cases hn
    unfold Instr.keyThatStays
    have : Instr.sameBits 10000 (.int _ _) (.int _ _) = true := h
    rw [this]; rfl
  · cases ho; cases hn
    unfold Instr.keyThatStays
    have : Instr.sameBits 10000 (.string _) (.string _) = true := h
    rw [this]; rfl
  · cases ho; cases hn
    unfold Instr.keyThatStays
    have : Instr.sameBits 10000 (.bool _) (.bool _) = true := h
    rw [this]; rfl
  · cases h
def updateL (P : Program) (mapType : TypeId) (map key value : Value) : Sem Unit :=
  match P.underlying mapType, map with
  | some (.map keyType _), .map (some r) => do
    let o ← getObj r
    match o, P.underlying keyType with
    | .map es clock, some d =>
      if keyOK d then
        match Instr.findNow d key es.toList 0 with
        | some (some (i, _)) => if (match es[i]? with | some e => sameKey e.key key | none => false) then setObj r (.map (es.modify i fun e => { e with key, val := value }) clock) else stuck ""
        | some none => setObj r (.map (es.push { key, val := value, born := clock }) (clock + 1))
        | none => stuck ""
      else stuck ""
    | _, _ => stuck ""
  | _, _ => stuck ""
theorem sim_update {t : TypeId} {x x' k k' v v' : Value} (hx : VRel φ x x') (hk : VRel φ k k') (hv : VRel φ v v') : SimS P φ (fun _ _ _ => True) (updateL P t x k v) (Instr.mapUpdate t x' k' v') := by
  unfold updateL
  cases ht : P.underlying t with
  | none => exact SimS.halt
  | some d =>
    cases d <;> first | exact SimS.halt | skip
    rename_i key elem
    cases hx with
    | sc hs => cases x <;> first | exact SimS.halt | (rename_i a; cases a <;> first | exact SimS.halt | (simp [scal] at hs; done))
    | map hb =>
      unfold Instr.mapUpdate
      refine SimS.skip (run_underlying ht) ?_
      refine SimS.bind (sim_getObj hb) ?_
      intro ψ hψ o o' ho
      cases o <;> cases o' <;> first | exact ho.elim | exact SimS.halt | skip
      rename_i es ck es' ck'
      obtain ⟨hck, hes⟩ := ho
      subst hck
      cases hd : P.underlying key with
      | none => exact SimS.halt
      | some d =>
        simp only
        split
        · rename_i hc
          cases hf : Instr.findNow d k es.toList 0 with
          | none => exact SimS.halt
          | some r =>
            obtain ⟨r', hr', hrel⟩ := findNow_rel (hk.mono hψ) 0 hes hf
            refine SimS.skip (fun w => run_checkKey hd hc _ 9999 _ w) (SimS.skip (run_findKey hd hr') ?_)
            rcases hrel with ⟨rfl, rfl⟩ | ⟨j, u, u', rfl, rfl, hu⟩
            · exact sim_setObj (hψ _ _ hb) ⟨rfl, EsRel.push hes ⟨hk.mono hψ, hv.mono hψ, rfl⟩⟩
            · simp only
              cases he : es[j]? with
              | none => simp only [Bool.false_eq_true, if_false]; exact SimS.halt
              | some e =>
                simp only
                split
                · rename_i hsk
                  obtain ⟨e', he', hre⟩ := EL.get hes (i := j) (x := e) (by simpa using he)
                  have he2 : es'[j]? = some e' := by simpa using he'
                  simp only [he2, Option.map_some, Option.getD_some]
                  refine SimS.skip (run_stays hsk hre.1 (hk.mono hψ)) ?_
                  exact sim_setObj (hψ _ _ hb) ⟨rfl, EsRel.modify hes (f := fun e => { e with key := k, val := v }) (g := fun e => { e with key := k', val := v' }) (fun x y hxy => ⟨hk.mono hψ, hv.mono hψ, hxy.2.2⟩) j⟩
                · exact SimS.halt
        · exact SimS.halt
    | _ => exact SimS.halt
def deleteL (P : Program) (mapType : TypeId) (map key : Value) : Sem Value :=
  match P.underlying mapType with
  | some (.map keyType _) => match P.underlying keyType with
    | some d => if keyOK d then
        match map with
        | .map none => pure (.tuple #[])
        | .map (some r) => do
          let o ← getObj r
          match o with
          | .map es clock =>
            match Instr.findNow d key es.toList 0 with
            | some (some (i, _)) => do setObj r (.map (es.eraseIdxIfInBounds i) clock); pure (.tuple #[])
            | some none => do setObj r (.map es clock); pure (.tuple #[])
            | none => stuck ""
          | _ => stuck ""
        | _ => stuck ""
      else stuck ""
    | none => stuck ""
  | _ => stuck ""
theorem sim_delete {t : TypeId} {ats : Array TypeId} {ty : TypeId} {args args' : Array Value} {x k : Value} (h0 : ats[0]? = some t) (h1 : args[0]? = some x) (h2 : args[1]? = some k) (ha : ARel φ args args') :
    SimS P φ VRel (deleteL P t x k) (Builtin.delete_ ats ty args') := by
  obtain ⟨x', hx', hx⟩ := ha.get h1
  obtain ⟨k', hk', hk⟩ := ha.get h2
  unfold deleteL Builtin.delete_
  simp only [h0, hx', hk']
  cases ht : P.underlying t with
  | none => exact SimS.halt
  | some d =>
    cases d <;> first | exact SimS.halt | skip
    rename_i key elem
    refine SimS.skip (run_underlying ht) ?_
    simp only
    cases hd : P.underlying key with
    | none => exact SimS.halt
    | some d =>
      simp only
      split
      · rename_i hc
        cases hx with
        | sc hs =>
          cases x <;> first | exact SimS.halt | skip
          rename_i a
          cases a with
          | some a => simp [scal] at hs
          | none =>
            refine SimS.skip (fun w => run_checkKey hd hc _ 9999 _ w) ?_
            exact SimS.ret fun ψ _ => .undef ψ
        | map hb =>
          refine SimS.bind (sim_getObj hb) ?_
          intro ψ hψ o o' ho
          cases o <;> cases o' <;> first | exact ho.elim | exact SimS.halt | skip
          rename_i es ck es' ck'
          obtain ⟨hck, hes⟩ := ho
          subst hck
          simp only
          cases hf : Instr.findNow d k es.toList 0 with
          | none => exact SimS.halt
          | some r =>
            obtain ⟨r', hr', hrel⟩ := findNow_rel (hk.mono hψ) 0 hes hf
            refine SimS.skip (fun w => run_checkKey hd hc _ 9999 _ w) (SimS.skip (run_findKey hd hr') ?_)
            rcases hrel with ⟨rfl, rfl⟩ | ⟨j, u, u', rfl, rfl, hu⟩
            · refine SimS.bind (sim_setObj (hψ _ _ hb) ⟨rfl, hes⟩) ?_
              intro χ _ _ _ _
              exact SimS.ret fun ψ _ => .undef ψ
            · refine SimS.bind (sim_setObj (hψ _ _ hb) ⟨rfl, EsRel.erase hes j⟩) ?_
              intro χ _ _ _ _
              exact SimS.ret fun ψ _ => .undef ψ
        | _ => exact SimS.halt
      · exact SimS.halt
theorem sim_range {t : TypeId} {x x' : Value} (hx : VRel φ x x') : SimS P φ VRel (Instr.range t x) (Instr.range t x') := by
  unfold Instr.range
  refine SimS.bind (sim_underlying t) ?_
  rintro ψ hψ d _ ⟨rfl, _⟩
  have fin : ∀ (χ : Emb) (o o' : Obj), XRel χ o o' → SimS P χ VRel (do pure (.pointer (some ⟨← newObj o, 0, none⟩))) (do pure (.pointer (some ⟨← newObj o', 0, none⟩))) := by
    intro χ o o' ho
    refine SimS.bind (sim_newX ho) ?_
    intro χ' _ r r' hr
    exact SimS.ret fun _ hle => .ptr (hle _ _ hr)
  cases hx.mono hψ with
  | sc hs =>
    cases d <;> first | exact SimS.no (NoRun.bindL (NoRun.halt _)) | skip
    case string => cases x <;> first | exact SimS.no (NoRun.bindL (NoRun.halt _)) | exact fin ψ _ _ ⟨rfl, rfl⟩
    case map =>
      cases x <;> first | exact SimS.no (NoRun.bindL (NoRun.halt _)) | skip
      rename_i a
      cases a with
      | some a => simp [scal] at hs
      | none => exact fin ψ _ _ ⟨True.intro, rfl, rfl, rfl⟩
  | map hb =>
    cases d <;> first | exact SimS.no (NoRun.bindL (NoRun.halt _)) | skip
    refine SimS.bind (sim_getObj hb) ?_
    intro χ hχ o o' ho
    cases o <;> cases o' <;> first | exact ho.elim | exact SimS.no (NoRun.bindL (NoRun.halt _)) | skip
    obtain ⟨hck, _⟩ := ho
    subst hck
    exact fin χ _ _ ⟨⟨_, hχ _ _ hb⟩, rfl, rfl, rfl⟩
  | _ => cases d <;> exact SimS.no (NoRun.bindL (NoRun.halt _))
def okClear (P : Program) (ats : Array TypeId) (args : Array Value) : Bool :=
  match (ats[0]? : Option TypeId), (args[0]? : Option Value) with
  | some t, some (.slice ..) => okRow P t
  | _, _ => false
theorem zeroCells_rel {z : Value} (hs : scal1 z = true) (n : Nat) (χ : Emb) : ARel χ (Builtin.zeroCells z.cells n) (Builtin.zeroCells z.cells n) := zeros_rel hs (n * z.cells.size) χ
theorem sim_clear {ats : Array TypeId} {ty : TypeId} {args args' : Array Value} (hok : okClear P ats args = true) (ha : ARel φ args args') : SimS P φ VRel (Builtin.clear_ ats ty args) (Builtin.clear_ ats ty args') := by
  unfold okClear at hok
  split at hok
  · rename_i t b n c ht hx
    obtain ⟨x', hx', hrx⟩ := ha.get hx
    unfold Builtin.clear_
    simp only [ht, hx, hx']
    refine SimS.bind (sim_underlying t) ?_
    rintro ψ hl d _ ⟨rfl, hd⟩
    cases hrx.mono hl with
    | sc h0 =>
      cases b with
      | some a => simp [scal] at h0
      | none => cases d <;> exact SimS.ret fun ψ _ => .undef ψ
    | slice hb =>
      rename_i b b' e off
      cases n with
      | zero => cases d <;> exact SimS.ret fun ψ _ => .undef ψ
      | succ n =>
        cases d <;> first | exact SimS.no (NoRun.bindL (NoRun.halt _)) | skip
        rename_i elem
        have hz : zok P elem = true := by simpa [okRow, hd] using hok
        refine SimS.bind (sim_zero hz) ?_
        rintro ψ1 hl1 z _ ⟨rfl, hs⟩
        refine SimS.bind (sim_storeCells 0 (AdR.of (hl1 _ _ hb)) (zeroCells_rel hs _ _).toList) ?_
        intro ψ2 _ _ _ _
        exact SimS.ret fun ψ _ => .undef ψ
  · cases hok
def lsem (P : Program) (ρ : Operand → Value) (o : Oper) : Sem Next :=
  match o.op with
  | .lookup t m k ok => do pure (.value (← lookupL P t (ρ m) (ρ k) ok))
  | .mapUpdate t m k x | .insert t m k x => do updateL P t (ρ m) (ρ k) (ρ x); pure .skip
  | .call { callee := .builtin .delete, args, argTypes } =>
    match argTypes.toList, args.toList with
    | t :: _, [m, k] => do pure (.value (← deleteL P t (ρ m) (ρ k)))
    | _, _ => stuck ""
  | _ => execOp ρ o
def okOp2 (P : Program) (ρ : Operand → Value) (o : Oper) : Bool :=
  match o.op with
  | .lookup .. | .mapUpdate .. | .insert .. | .makeMap _ none | .range .. => true
  | .call { callee := .builtin .delete, .. } => true
  | .call { callee := .builtin .clear, args, argTypes } => okClear P argTypes (args.map ρ)
  | _ => okOp P ρ o
theorem lsem_sim {ρ ρ' : Operand → Value} {o : Oper} (hok : okOp2 P ρ o = true) (hρ : ∀ x ∈ o.op.operands, VRel φ (ρ x) (ρ' x)) : SimS P φ NRel (lsem P ρ o) (execOp ρ' o) := by
  obtain ⟨dst, op, type, pos, after, guard⟩ := o
  have other : okOp P ρ ⟨dst, op, type, pos, after, guard⟩ = true → SimS P φ NRel (execOp ρ ⟨dst, op, type, pos, after, guard⟩) (execOp ρ' ⟨dst, op, type, pos, after, guard⟩) := fun h => okOp_sim h hρ
  cases op <;> first | exact other hok | skip
  case insert t m k x => exact SimS.unit (sim_update (hρ m (by simp [Op.operands])) (hρ k (by simp [Op.operands])) (hρ x (by simp [Op.operands])))
  case mapUpdate t m k x => exact SimS.unit (sim_update (hρ m (by simp [Op.operands])) (hρ k (by simp [Op.operands])) (hρ x (by simp [Op.operands])))
  case lookup t m k ok => exact SimS.value (sim_lookup (hρ m (by simp [Op.operands])) (hρ k (by simp [Op.operands])))
  case range t x => exact SimS.value (sim_range (hρ x (by simp [Op.operands])))
  case makeMap t r =>
    cases r with
    | some r => exact other hok
    | none =>
      refine SimS.value ?_
      unfold Instr.makeMap
      refine SimS.bind (sim_newX (o := .map #[] 0) (o' := .map #[] 0) ⟨rfl, True.intro⟩) ?_
      intro ψ _ r r' hr
      exact SimS.ret fun _ hle => .map (hle _ _ hr)
  case call c =>
    obtain ⟨callee, args, ats⟩ := c
    cases callee with
    | value f => exact other hok
    | invoke r m => exact other hok
    | builtin b =>
      cases b <;> first | exact other hok | skip
      case clear =>
        have ha : ARel φ (args.map ρ) (args.map ρ') := ARel.mapOf fun x hx => hρ x (by simp [Op.operands, Call.operands, hx])
        exact SimS.value (sim_clear hok ha)
      have ha : ARel φ (args.map ρ) (args.map ρ') := ARel.mapOf fun x hx => hρ x (by simp [Op.operands, Call.operands, hx])
      unfold lsem
      simp only
      split
      · rename_i t ts m k ht hm
        have e1 : args = #[m, k] := by rw [← Array.toArray_toList (xs := args), hm]
        subst e1
        have e2 : ats[0]? = some t := by rw [← Array.getElem?_toList, ht]; rfl
        exact SimS.value (sim_delete e2 (by simp) (by simp) ha)
      · exact SimS.halt
end
end Ck

/- The checker's code: operations, regions, calls. -/
namespace Ck
open Go
section
variable {α β : Type}
def bnd (f : α → Option (List β)) : List α → Option (List β)
  | [] => some []
  | o :: l => match f o, bnd f l with
    | some r, some rs => some (r ++ rs)
    | _, _ => none
theorem bnd_spec {f : α → Option (List β)} : ∀ {l : List α} {outs : List β}, bnd f l = some outs → ∀ o ∈ l, ∃ r, f o = some r ∧ ∀ x ∈ r, x ∈ outs
  | [], _, _, o, ho => by cases ho
  | x :: l, outs, h, o, ho => by
    unfold bnd at h
    split at h
    · rename_i r rs h1 h2
      cases h
      rcases List.mem_cons.1 ho with rfl | ho
      · exact ⟨r, h1, fun y hy => List.mem_append_left _ hy⟩
      · obtain ⟨r', hr, hx⟩ := bnd_spec h2 o ho
        exact ⟨r', hr, fun y hy => List.mem_append_right _ (hx y hy)⟩
    · cases h
theorem bnd_mem {f : α → Option (List β)} : ∀ {l : List α} {outs : List β}, bnd f l = some outs → ∀ x ∈ outs, ∃ o ∈ l, ∃ r, f o = some r ∧ x ∈ r
  | [], _, h, x, hx => by cases h; cases hx
  | y :: l, outs, h, x, hx => by
    unfold bnd at h
    split at h
    · rename_i r rs h1 h2
      cases h
      rcases List.mem_append.1 hx with hx | hx
      · exact ⟨y, by simp, r, h1, hx⟩
      · obtain ⟨o, ho, r', hr, hm⟩ := bnd_mem h2 x hx
        exact ⟨o, by simp [ho], r', hr, hm⟩
    · cases h
end
def Ends {α : Type} (σ : St) (get : α → St) (outs : List α) : Prop := outs ≠ [] ∧ ∀ o ∈ outs, LProp σ (get o)
theorem Ends.bnd {α β : Type} {σ : St} {g : α → St} {g' : β → St} {f : α → Option (List β)} {l : List α} {outs : List β} (h : Ends σ g l) (hb : bnd f l = some outs)
    (hf : ∀ o ∈ l, ∀ r, f o = some r → Ends (g o) g' r) : Ends σ g' outs := by
  refine ⟨?_, fun x hx => ?_⟩
  · obtain ⟨hne, _⟩ := h
    cases l with
    | nil => exact absurd rfl hne
    | cons o l =>
      obtain ⟨r, hr, hx⟩ := bnd_spec hb o (by simp)
      obtain ⟨hr0, _⟩ := hf o (by simp) r hr
      cases r with
      | nil => exact absurd rfl hr0
      | cons y r => intro he; have := hx y (by simp); rw [he] at this; cases this
  · obtain ⟨o, ho, r, hr, hm⟩ := bnd_mem hb x hx
    exact (h.2 o ho).trans ((hf o ho r hr).2 x hm)
def Pre {α : Type} (φ : Emb) (L : Nat → Option LObj) (σ : St) (get : α → St) (outs : List α) : Prop := ∀ o ∈ outs, Clear φ L σ (get o) ∧ Agree L σ (get o)
theorem Pre.first {α β : Type} {φ : Emb} {L : Nat → Option LObj} {σ : St} {g : α → St} {g' : β → St} {f : α → Option (List β)} {l : List α} {outs : List β} (hp : Pre φ L σ g' outs) (hb : bnd f l = some outs)
    (hf : ∀ o ∈ l, ∀ r, f o = some r → Ends (g o) g' r) : Pre φ L σ g l := fun o ho => by
  obtain ⟨r, hr, hx⟩ := bnd_spec hb o ho
  obtain ⟨hr0, hrp⟩ := hf o ho r hr
  cases r with
  | nil => exact absurd rfl hr0
  | cons y r =>
    have hp' := hp y (hx y (by simp))
    have h2 := hrp y (by simp)
    exact ⟨hp'.1.first h2, hp'.2.first h2⟩
theorem Pre.next {β : Type} {φ ψ : Emb} {L M : Nat → Option LObj} {w w' : World} {σ : St} {g' : β → St} {τ : St} {r outs : List β} (hp : Pre φ L σ g' outs) (hw : WF σ) (h1 : LProp σ τ)
    (hst : Step σ τ φ ψ L M w w') (hx : ∀ x ∈ r, x ∈ outs) : Pre ψ M τ g' r := fun x hxr =>
  ⟨hst.clear hw h1 (hp x (hx x hxr)).1, hst.agree h1 (hp x (hx x hxr)).2⟩
abbrev Outs := Option (List (Value × St))
abbrev CallF := FuncId → Array Value → St → Outs
def lev (T : Tree Value) : Operand → Value
  | .tmp t => (T.get t).getD undef
  | .const v => v
  | .global g => .pointer (some ⟨g, 0, none⟩)
  | .func f => .func (.func f) #[] #[]
def lput (N : Nat) (T : Tree Value) (dst : Option Tmp) (v : Value) : Tree Value :=
  match dst with
  | some d => if d < N then T.set d (some v) else T
  | none => T
def lyield (ops : Array Oper) (T : Tree Value) (j : Nat) : Option Bool :=
  match (ops[j]?).bind (·.dst) with
  | some t => match T.get t with
    | some (.bool b) => some b
    | _ => none
  | none => none
def okRand (G : List (Nat × Array Value)) : Operand → Bool
  | .const v => scal2 v
  | .global g => G.any fun x => x.1 == g
  | _ => true
noncomputable def nth {α : Type} (l : List α) : Nat → Option α := List.rec (fun _ => none) (fun a _ ih n => Nat.rec (some a) (fun m _ => ih m) n) l
theorem nth_eq {α : Type} : ∀ (l : List α) (n : Nat), nth l n = l[n]?
  | [], _ => by simp [nth]
  | _ :: _, 0 => rfl
  | _ :: l, n + 1 => (nth_eq l n).trans rfl
theorem nth_arr {α : Type} (a : Array α) (n : Nat) : nth a.toList n = a[n]? := by rw [nth_eq, Array.getElem?_toList]
structure Env where
  P : Program
  G : List (Nat × Array Value)
  known : List Nat
  hook : CallF := fun _ _ _ => none
noncomputable def lop (E : Env) (call : CallF) (ρ : Operand → Value) (o : Oper) (σ : St) : Outs :=
  if o.op.operands.all (okRand E.G) then
    match pureOp E.P ρ o with
    | some v => some [(v, σ)]
    | none =>
      match growOp E.P ρ o σ with
      | some r => some [r]
      | none =>
        if okOp2 E.P ρ o then
          match lrun E.P (lsem E.P ρ o) σ with
          | some outs => bnd (fun x => match x.1 with
            | .value v => some [(v, x.2)]
            | .skip => some [(undef, x.2)]
            | .enter f args => call f args x.2
            | _ => none) outs
          | none => none
        else none
  else none
noncomputable def lops (E : Env) (call : CallF) (N : Nat) (ops : Array Oper) : List Nat → Tree Value → St → Option (List (Tree Value × St))
  | [], T, σ => some [(T, σ)]
  | i :: rest, T, σ =>
    match nth ops.toList i with
    | none => none
    | some o =>
      if Region.wanted o (lyield ops T) then
        match lop E call (lev T) o σ with
        | some outs => bnd (fun x => lops E call N ops rest (lput N T o.dst x.1) x.2) outs
        | none => none
      else lops E call N ops rest (lput N T o.dst undef) σ
inductive LX where
  | normal
  | exit (id : Nat)
  | ret
def LX.to : LX → Exit
  | .normal => .normal
  | .exit id => .exit id
  | .ret => .ret
abbrev COuts := Option (List (LX × Tree Value × St))
section
variable {E : Env}
def Glob (E : Env) (φ : Emb) (L : Nat → Option LObj) : Prop := ∀ x ∈ E.G, φ x.1 = some (x.1, 0) ∧ L x.1 = some (.rom x.2)
theorem Glob.mono {φ ψ : Emb} {L M : Nat → Option LObj} {σ τ : St} {w w' : World} (h : Glob E φ L) (hst : Step σ τ φ ψ L M w w') : Glob E ψ M := fun x hx => ⟨hst.g.le _ _ (h x hx).1, hst.g.rom _ _ (h x hx).2⟩
def SimRes (P : Program) (Post : Value → World → Prop) : Result Next → Prop
  | .ok (.value u) w' => Post u w'
  | .ok .skip w' => Post undef w'
  | .ok (.enter f args) w' => Calls P f args w' fun e w'' => ∃ u, e = .returned u ∧ Post u w''
  | _ => False
theorem SimRes.wp {P : Program} {o : Oper} {a : Act} {w : World} {Post : Value → World → Prop} {K : Act → World → Prop} {Q : Exit → Act → World → Prop} (h : SimRes P Post ((execOp a.eval o).run P w))
    (hK : ∀ v w', Post v w' → K (a.put o.dst v) w') : o.wp P a w K Q := by
  unfold Oper.wp
  generalize (execOp a.eval o).run P w = r at *
  cases r with
  | ok n w' =>
    cases n <;> simp only [SimRes, Oper.upon] at h ⊢
    case value u => exact hK _ _ h
    case skip => exact hK _ _ h
    case enter f args =>
      refine Calls.mono h fun e w'' he => ?_
      obtain ⟨u, rfl, hp⟩ := he
      exact hK _ _ hp
  | halt x w' => exact h.elim
def CallOK (E : Env) (call : CallF) : Prop := ∀ f args σ outs, call f args σ = some outs → Ends σ (·.2) outs ∧
  ∀ φ args' L w, Glob E φ L → ARel φ args args' → WF σ → Pre φ L σ (·.2) outs → Good φ L w →
    Calls E.P f args' w fun e w' => ∃ o ∈ outs, ∃ v' φ' L', e = .returned v' ∧ VRel φ' o.1 v' ∧ Step σ o.2 φ φ' L L' w w'
def TRel (φ : Emb) (N : Nat) (T : Tree Value) (a : Act) : Prop :=
  a.tmps.size = N ∧ a.defers = [] ∧ ∀ t, VRel φ ((T.get t).getD undef) (a.tmps.getD t undef)
theorem TRel.mono {φ ψ : Emb} {N : Nat} {T : Tree Value} {a : Act} (hl : Le φ ψ) (h : TRel φ N T a) : TRel ψ N T a := ⟨h.1, h.2.1, fun t => (h.2.2 t).mono hl⟩
theorem lev_rel {φ : Emb} {N : Nat} {T : Tree Value} {a : Act} {L : Nat → Option LObj} (hg : Glob E φ L) (h : TRel φ N T a) {x : Operand} (hx : okRand E.G x = true) : VRel φ (lev T x) (a.eval x) := by
  cases x with
  | tmp t => exact h.2.2 t
  | const v => exact .same2 hx
  | global g =>
    obtain ⟨y, hy, hyg⟩ := List.any_eq_true.1 hx
    have := (hg y hy).1
    rw [eq_of_beq hyg] at this
    exact .ptr this
  | func f => exact .func (fun l => by simp) rfl rfl (fun i v v' h => by simp at h) (fun i v v' h => by simp at h)
theorem lput_rel {φ : Emb} {N : Nat} {T : Tree Value} {a : Act} (h : TRel φ N T a) (dst : Option Tmp) {v v' : Value} (hv : VRel φ v v') : TRel φ N (lput N T dst v) (a.put dst v') := by
  cases dst with
  | none => exact h
  | some d =>
    refine ⟨by simp [Act.put, h.1], h.2.1, fun t => ?_⟩
    simp only [lput, Act.put]
    by_cases hd : d < N
    · simp only [hd, if_true]
      rw [Tree.get_set]
      by_cases hdt : d = t
      · subst hdt
        have : d < a.tmps.size := by rw [h.1]; exact hd
        simp [this, hv]
      · have h3 := h.2.2 t
        simp [hdt] at h3 ⊢
        exact h3
    · simp only [hd, if_false]
      by_cases hdt : d = t
      · subst hdt
        have h2 := h.2.2 d
        have : ¬ d < a.tmps.size := by rw [h.1]; exact hd
        simp [this] at h2 ⊢
        exact h2
      · have h3 := h.2.2 t
        simp [hdt] at h3 ⊢
        exact h3
theorem lyield_eq {φ : Emb} {N : Nat} {T : Tree Value} {a : Act} (h : TRel φ N T a) (ops : Array Oper) : lyield ops T = yielded ops a.tmps := by
  funext j
  unfold lyield yielded
  cases hj : (ops[j]?).bind (·.dst) with
  | none => simp
  | some t =>
    have ht := h.2.2 t
    simp only [Option.bind_some]
    cases hT : T.get t with
    | none =>
      rw [hT] at ht
      simp only [Option.getD_none] at ht
      cases hA : a.tmps[t]? with
      | none => simp
      | some u =>
        have : a.tmps.getD t undef = u := by simp [hA]
        rw [this] at ht
        cases u <;> first | rfl | (simp only [undef] at ht; cases ht)
    | some v =>
      rw [hT] at ht
      simp only [Option.getD_some] at ht
      cases hA : a.tmps[t]? with
      | none =>
        have : a.tmps.getD t undef = undef := by simp [hA]
        rw [this] at ht
        cases v <;> first | rfl | (simp only [undef] at ht; cases ht)
      | some u =>
        have : a.tmps.getD t undef = u := by simp [hA]
        rw [this] at ht
        cases v <;> cases u <;> first | rfl | (cases ht; done) | (cases ht; rfl)
theorem lop_spec {call : CallF} (hcall : CallOK E call) {ρ : Operand → Value} {o : Oper} {σ : St} {outs : List (Value × St)} (h : lop E call ρ o σ = some outs) :
    Ends σ (·.2) outs ∧ ∀ φ ρ' L w, Glob E φ L → (∀ x ∈ o.op.operands, VRel φ (ρ x) (ρ' x)) → WF σ → Pre φ L σ (·.2) outs → Good φ L w →
      SimRes E.P (fun v' w' => ∃ x ∈ outs, ∃ φ' L', VRel φ' x.1 v' ∧ Step σ x.2 φ φ' L L' w w') ((execOp ρ' o).run E.P w) := by
  unfold lop at h
  split at h
  · split at h
    · rename_i v hv
      cases h
      refine ⟨⟨by simp, fun x hx => by simp at hx; subst hx; exact .refl σ⟩, fun φ ρ' L w hg hρ hw hp hgood => ?_⟩
      obtain ⟨hrun, hrel⟩ := pureOp_spec hv hρ w
      rw [hrun]
      exact ⟨_, List.mem_singleton.2 rfl, φ, L, hrel, .refl hgood hw (hp _ (List.mem_singleton.2 rfl)).2⟩
    · split at h
      · rename_i r hr
        cases h
        obtain ⟨h1, h2⟩ := growOp_spec hr
        refine ⟨⟨by simp, fun x hx => by simp at hx; subst hx; exact h1⟩, fun φ ρ' L w hg hρ hw hp hgood => ?_⟩
        obtain ⟨v', w', φ', L', hrun, hrel, hst⟩ := h2 φ ρ' L w hρ hw (hp _ (List.mem_singleton.2 rfl)).1 (hp _ (List.mem_singleton.2 rfl)).2 hgood
        rw [hrun]
        exact ⟨_, List.mem_singleton.2 rfl, φ', L', hrel, hst⟩
      · split at h
        · rename_i hok
          split at h
          · rename_i l hl
            have p1 := lrun_prop E.P _ σ l hl
            have e1 : Ends σ (·.2) l := p1
            have hf : ∀ x ∈ l, ∀ r, (fun x : Next × St => match x.1 with
                | .value v => some [(v, x.2)]
                | .skip => some [(undef, x.2)]
                | .enter f args => call f args x.2
                | _ => none) x = some r → Ends x.2 (·.2) r := fun x _ r hr => by
              obtain ⟨n, τ⟩ := x
              cases n <;> first | (cases hr; done) | skip
              case value v => cases hr; exact ⟨by simp, fun y hy => by simp at hy; subst hy; exact .refl _⟩
              case skip => cases hr; exact ⟨by simp, fun y hy => by simp at hy; subst hy; exact .refl _⟩
              case enter f args => exact (hcall _ _ _ _ hr).1
            refine ⟨e1.bnd h hf, fun φ ρ' L w hg hρ hw hp hgood => ?_⟩
            have hpre : Pre φ L σ (·.2) l := hp.first h hf
            obtain ⟨⟨n, τ⟩, hx, n', w', ψ', L', hrun, hA, hst⟩ := lsem_sim hok hρ φ (.refl φ) σ l L w hl hw hpre hgood
            rw [hrun]
            obtain ⟨r, hr, hsub⟩ := bnd_spec h _ hx
            have q1 := p1.2 _ hx
            cases n <;> cases n' <;> first | exact hA.elim | skip
            case value.value v v' => cases hr; exact ⟨_, hsub _ (List.mem_singleton.2 rfl), ψ', L', hA, hst⟩
            case skip.skip => cases hr; exact ⟨_, hsub _ (List.mem_singleton.2 rfl), ψ', L', .undef _, hst⟩
            case enter.enter f args f' args' =>
              obtain ⟨rfl, hargs⟩ := hA
              have hends := hf _ hx _ hr
              refine Calls.mono ((hcall _ _ _ _ hr).2 ψ' args' L' w' (hg.mono hst) hargs (q1.wf hw) (hp.next hw q1 hst hsub) hst.g.good) fun e w'' he => ?_
              obtain ⟨y, hy, v', φ', L'', rfl, hv, hst'⟩ := he
              exact ⟨v', rfl, y, hsub y hy, φ', L'', hv, hst.trans q1 (hends.2 y hy) (hp y (hsub y hy)).1 hst'⟩
          · cases h
        · cases h
  · cases h
theorem lops_spec {call : CallF} (hcall : CallOK E call) {N : Nat} {ops : Array Oper} : ∀ {l : List Nat} {T : Tree Value} {σ : St} {outs : List (Tree Value × St)}, lops E call N ops l T σ = some outs →
    Ends σ (·.2) outs ∧ ∀ φ L w a (Q : Exit → Act → World → Prop), Glob E φ L → TRel φ N T a → WF σ → Pre φ L σ (·.2) outs → Good φ L w →
      (∀ o ∈ outs, ∀ φ' L' a' w', TRel φ' N o.1 a' → Step σ o.2 φ φ' L L' w w' → Q .normal a' w') → wpOps E.P ops Q l a w := by
  intro l
  induction l with
  | nil =>
    intro T σ outs h
    cases h
    refine ⟨⟨by simp, fun x hx => by simp at hx; subst hx; exact .refl σ⟩, fun φ L w a Q hg hT hw hp hgood hQ => ?_⟩
    exact hQ _ (List.mem_singleton.2 rfl) φ L a w hT (.refl hgood hw (hp _ (List.mem_singleton.2 rfl)).2)
  | cons i rest ih =>
    intro T σ outs h
    unfold lops at h
    rw [nth_arr] at h
    split at h
    · cases h
    · rename_i o ho
      split at h
      · rename_i hwant
        split at h
        · rename_i l1 hl1
          obtain ⟨e1, s1⟩ := lop_spec hcall hl1
          have hf : ∀ x ∈ l1, ∀ r, (fun x : Value × St => lops E call N ops rest (lput N T o.dst x.1) x.2) x = some r → Ends x.2 (·.2) r := fun x _ r hr => (ih hr).1
          refine ⟨e1.bnd h hf, fun φ L w a Q hg hT hw hp hgood hQ => ?_⟩
          simp only [wpOps, ho]
          rw [← lyield_eq hT]
          simp only [hwant, if_true]
          refine .inl ?_
          have hops : ∀ x ∈ o.op.operands, VRel φ (lev T x) (a.eval x) := fun x hx => by
            refine lev_rel hg hT ?_
            have hall : o.op.operands.all (okRand E.G) = true := by
              unfold lop at hl1
              split at hl1
              · assumption
              · cases hl1
            rw [Array.all_eq_true_iff_forall_mem] at hall
            exact hall x hx
          refine (s1 φ a.eval L w hg hops hw (hp.first h hf) hgood).wp ?_
          rintro v' w' ⟨x, hx, φ', L', hv, hst⟩
          obtain ⟨r, hr, hsub⟩ := bnd_spec h x hx
          have q1 := e1.2 x hx
          obtain ⟨e2, s2⟩ := ih hr
          refine s2 φ' L' w' _ Q (hg.mono hst) (lput_rel (hT.mono hst.g.le) o.dst hv) (q1.wf hw) (hp.next hw q1 hst hsub) hst.g.good ?_
          intro y hy φ'' L'' a'' w'' hT' hst'
          exact hQ y (hsub y hy) φ'' L'' a'' w'' hT' (hst.trans q1 (e2.2 y hy) (hp y (hsub y hy)).1 hst')
        · cases h
      · rename_i hwant
        obtain ⟨e2, s2⟩ := ih h
        refine ⟨e2, fun φ L w a Q hg hT hw hp hgood hQ => ?_⟩
        simp only [wpOps, ho]
        rw [← lyield_eq hT]
        simp only [hwant, Bool.false_eq_true, if_false]
        exact s2 φ L w _ Q hg (lput_rel hT o.dst (.undef φ)) hw hp hgood hQ
def wpRound (P : Program) (c : Code) (Q : Exit → Act → World → Prop) (a : Act) (w : World) : Prop :=
  ∀ (b : Frame) (k : List Item) (cs : List Frame), ∃ e a' w', Q e a' w' ∧ Arrives P (lone (b.at a (.code c :: .inLoop c :: k)) cs w) b k cs e a' w'
theorem wpRound.loop {P : Program} {c : Code} {Q : Exit → Act → World → Prop} {a : Act} {w : World} (h : wpRound P c Q a w) : (Code.loop c).wp P Q a w :=
  fun b k cs => let ⟨e, a', w', hq, harr⟩ := h b k cs; ⟨e, a', w', hq, .of_steps (.one step_loop) harr⟩
theorem wpRound.next {P : Program} {c : Code} {Q : Exit → Act → World → Prop} {a : Act} {w : World} (h : c.wp P (Exit.then (fun a' w' => wpRound P c Q a' w') Q) a w) : wpRound P c Q a w := by
  intro b k cs
  obtain ⟨e, a₁, w₁, hq, harr⟩ := h b (.inLoop c :: k) cs
  cases e with
  | normal =>
    obtain ⟨e₂, a₂, w₂, hq₂, harr₂⟩ := hq b k cs
    exact ⟨e₂, a₂, w₂, hq₂, .of_steps (Steps.trans harr (.one step_inLoop)) harr₂⟩
  | exit id => exact ⟨_, a₁, w₁, hq, .pass (x := .inLoop c) rfl (fun _ _ => .inl (by simp)) harr⟩
  | goto l => exact ⟨_, a₁, w₁, hq, .pass (x := .inLoop c) rfl (fun _ _ => .inl (by simp)) harr⟩
  | ret => exact ⟨_, a₁, w₁, hq, .pass (x := .inLoop c) rfl (fun _ _ => .inl (by simp)) harr⟩
  | panic ch => exact ⟨_, a₁, w₁, hq, .pass (x := .inLoop c) rfl (fun _ _ => .inl (by simp)) harr⟩
  | outgrown => exact ⟨_, a₁, w₁, hq, .pass (x := .inLoop c) rfl (fun _ _ => .inl (by simp)) harr⟩
def CW (P : Program) (c : Code) (Q : Exit → Act → World → Prop) (a : Act) (w : World) : Prop :=
  match c with
  | .loop b => wpRound P b Q a w
  | c => c.wp P Q a w
theorem CW.wp {P : Program} {c : Code} {Q : Exit → Act → World → Prop} {a : Act} {w : World} (h : CW P c Q a w) : c.wp P Q a w := by
  cases c <;> first | exact h | exact wpRound.loop h
end
section
variable {E : Env}
abbrev DrawF := CallF → Nat → Array Oper → Tree Value → St → Option (Tree Value × St)
abbrev ResF := Func → Tree Value → St → Outs
def DrawOK (E : Env) (draw : DrawF) : Prop := ∀ call N ops T σ T' σ', CallOK E call → draw call N ops T σ = some (T', σ') → LProp σ σ' ∧
  ∀ (id : Nat) φ L w a (Q : Exit → Act → World → Prop), Glob E φ L → TRel φ N T a → WF σ → Clear φ L σ σ' → Agree L σ σ' → Good φ L w →
    (∀ φ' L' a' w', TRel φ' N T' a' → Step σ σ' φ φ' L L' w w' → Q .normal a' w') → (Code.region id ops true).wp E.P Q a w
def ResOK (E : Env) (lres : ResF) : Prop := ∀ fn T σ outs, lres fn T σ = some outs → Ends σ (·.2) outs ∧
  ∀ φ L w a N, Glob E φ L → TRel φ N T a → WF σ → Pre φ L σ (·.2) outs → Good φ L w →
    ∃ x ∈ outs, ∃ v φ' L', (results fn a.tmps).run E.P w = .ok v w ∧ VRel φ' x.1 v ∧ Step σ x.2 φ φ' L L' w w
def fromList : Nat → List Value → Tree Value
  | _, [] => .leaf
  | n, v :: l => (fromList (n + 1) l).set n (some v)
theorem fromList_get : ∀ (l : List Value) (n t : Nat), (fromList n l).get t = if n ≤ t then l[t - n]? else none
  | [], n, t => by simp [fromList, Tree.get]
  | v :: l, n, t => by
    simp only [fromList, Tree.get_set, fromList_get l (n + 1) t]
    by_cases h : n = t
    · subst h; simp
    · by_cases h2 : n ≤ t
      · have h3 : n + 1 ≤ t := by omega
        simp only [h, h2, h3, if_false, if_true]
        have : t - n = (t - (n + 1)) + 1 := by omega
        rw [this]; simp
      · have h3 : ¬ n + 1 ≤ t := by omega
        simp [h, h2, h3]
noncomputable def lcall (E : Env) (lres : ResF) (code : Nat → Code → Tree Value → St → COuts) : CallF := fun f args σ =>
  if args.isEmpty && E.known.contains f then some [(.bool true, σ)] else
  match E.hook f args σ with
  | some outs => some outs
  | none =>
  match nth E.P.funcs.toList f with
  | some fn => match fn.body with
    | some body =>
      match code (max fn.ntmps args.size) body (fromList 0 args.toList) σ with
      | some outs => bnd (fun x => match x.1 with
        | .exit _ => none
        | _ => lres fn x.2.1 x.2.2) outs
      | none => none
    | none => none
  | none => none
noncomputable def lcode (E : Env) (draw : DrawF) (lres : ResF) : Nat → Nat → Code → Tree Value → St → COuts
  | 0, _, _, _, _ => none
  | n + 1, N, c, T, σ =>
    match c with
    | .skip => some [(.normal, T, σ)]
    | .seq a b => match lcode E draw lres n N a T σ with
      | some outs => bnd (fun x => match x.1 with
        | .normal => lcode E draw lres n N b x.2.1 x.2.2
        | _ => some [x]) outs
      | none => none
    | .cond c a b => if okRand E.G c then match lev T c with
        | .bool t => lcode E draw lres n N (if t then a else b) T σ
        | _ => none
      else none
    | .block id body => match lcode E draw lres n N body T σ with
      | some outs => bnd (fun x => match x.1 with
        | .exit id' => if id' = id then some [(.normal, x.2)] else some [x]
        | _ => some [x]) outs
      | none => none
    | .loop body => match lcode E draw lres n N body T σ with
      | some outs => bnd (fun x => match x.1 with
        | .normal => lcode E draw lres n N (.loop body) x.2.1 x.2.2
        | _ => some [x]) outs
      | none => none
    | .exit id => some [(.exit id, T, σ)]
    | .ret => some [(.ret, T, σ)]
    | .region _ ops false => match lops E (lcall E lres (lcode E draw lres n)) N ops (List.range ops.size) T σ with
      | some outs => bnd (fun x => some [(.normal, x.1, x.2)]) outs
      | none => none
    | .region _ ops true => match draw (lcall E lres (lcode E draw lres n)) N ops T σ with
      | some x => some [(.normal, x.1, x.2)]
      | none => none
    | _ => none
def CodeSpec (E : Env) (code : Nat → Code → Tree Value → St → COuts) : Prop := ∀ N c T σ outs, code N c T σ = some outs → Ends σ (fun x => x.2.2) outs ∧
  ∀ φ L w a (Q : Exit → Act → World → Prop), Glob E φ L → TRel φ N T a → WF σ → Pre φ L σ (fun x => x.2.2) outs → Good φ L w →
    (∀ o ∈ outs, ∀ φ' L' a' w', TRel φ' N o.2.1 a' → Step σ o.2.2 φ φ' L L' w w' → Q o.1.to a' w') → CW E.P c Q a w
def KnownOK (E : Env) : Prop := ∀ f, E.known.contains f = true → ∀ φ L w, Glob E φ L → Good φ L w → Calls E.P f #[] w fun e w' => e = .returned (.bool true) ∧
  w.heap.size ≤ w'.heap.size ∧ (∀ r, r < w.heap.size → w'.heap[r]? = w.heap[r]?) ∧ w'.os = w.os ∧ w'.tape = w.tape ∧ w'.output = w.output
theorem lcall_ok (hknown : KnownOK E) (hhook : CallOK E E.hook) {lres : ResF} (hres : ResOK E lres) {code : Nat → Code → Tree Value → St → COuts} (hcode : CodeSpec E code) : CallOK E (lcall E lres code) := by
  intro f args σ outs h
  unfold lcall at h
  simp only [nth_arr] at h
  split at h
  · rename_i hk
    cases h
    simp only [Bool.and_eq_true, Array.isEmpty_iff] at hk
    obtain ⟨rfl, hk⟩ := hk
    refine ⟨⟨by simp, fun x hx => by simp at hx; subst hx; exact .refl σ⟩, fun φ args' L w hg hargs hw hp hgood => ?_⟩
    have e1 : args' = #[] := by have := hargs.1; simpa using this
    subst e1
    refine (hknown f hk φ L w hg hgood).mono ?_
    rintro e w' ⟨rfl, hs, hh, h1, h2, h3⟩
    have hag := (hp _ (List.mem_singleton.2 rfl)).2
    have hgood' : Good φ L w' := ⟨fun b o hb => by
      obtain ⟨r, e, ob, h1, h2, h3⟩ := hgood.obj b o hb
      exact ⟨r, e, ob, h1, by rw [hh r (Array.getElem?_eq_some_iff.1 h2).1]; exact h2, h3⟩, hgood.inj⟩
    exact ⟨_, List.mem_singleton.2 rfl, _, φ, L, rfl, .sc rfl, ⟨⟨.refl φ, fun b h h' => absurd h h', hgood', fun _ _ _ => rfl, fun _ _ h => h, hs, fun r hr _ => hh r hr, fun b h => by have h' : σ.next ≤ b ∧ b < σ.next := h; omega, ⟨h1, h2, h3⟩, fun _ _ h => h⟩,
      (Step.refl hgood hw hag).here⟩⟩
  split at h
  · rename_i r hr
    cases h
    exact hhook f args σ _ hr
  split at h
  · rename_i fn hfn
    split at h
    · rename_i body hbody
      split at h
      · rename_i l hl
        obtain ⟨e1, s1⟩ := hcode _ _ _ _ _ hl
        have hf : ∀ x ∈ l, ∀ r, (fun x : LX × Tree Value × St => match x.1 with
            | .exit _ => none
            | _ => lres fn x.2.1 x.2.2) x = some r → Ends x.2.2 (·.2) r := fun x _ r hr => by
          obtain ⟨e, T, τ⟩ := x
          cases e <;> first | cases hr | exact (hres _ _ _ _ hr).1
        refine ⟨e1.bnd h hf, fun φ args' L w hg hargs hw hp hgood => ?_⟩
        refine calls_of_wp hfn hbody (CW.wp ?_)
        have hT : TRel φ (max fn.ntmps args.size) (fromList 0 args.toList) { tmps := args' ++ Array.replicate (fn.ntmps - args'.size) undef, defers := [] } := by
          refine ⟨by simp [hargs.1]; omega, rfl, fun t => ?_⟩
          rw [fromList_get]
          simp only [Nat.zero_le, if_true, Nat.sub_zero]
          have hs := hargs.1
          by_cases ht : t < args.size
          · have ht' : t < args'.size := by omega
            have hr := hargs.2 t args[t] args'[t] (Array.getElem?_eq_getElem ht) (Array.getElem?_eq_getElem ht')
            have e2 : (args' ++ Array.replicate (fn.ntmps - args'.size) undef).getD t undef = args'[t] := by
              rw [Array.getD_eq_getD_getElem?, Array.getElem?_append_left ht', Array.getElem?_eq_getElem ht']; rfl
            rw [e2]
            simp [ht, hr]
          · have e1 : args.toList[t]? = none := by simp; omega
            have e2 : (args' ++ Array.replicate (fn.ntmps - args'.size) undef).getD t undef = undef := by
              rw [Array.getD_eq_getD_getElem?, Array.getElem?_append_right (by omega), Array.getElem?_replicate]
              split <;> rfl
            rw [e1, e2]
            exact .undef φ
        refine s1 φ L w _ _ hg hT hw (hp.first h hf) hgood ?_
        rintro ⟨e, T', τ⟩ ho φ' L' a' w' hT' hst
        obtain ⟨r, hr, hsub⟩ := bnd_spec h _ ho
        have q1 := e1.2 _ ho
        have fin : lres fn T' τ = some r → a'.defers = [] ∧ ∃ v, (results fn a'.tmps).run E.P w' = .ok v w' ∧
            ∃ o ∈ outs, ∃ v' φ'' L'', Ending.returned v = .returned v' ∧ VRel φ'' o.1 v' ∧ Step σ o.2 φ φ'' L L'' w w' := by
          intro hr
          obtain ⟨e2, s2⟩ := hres _ _ _ _ hr
          obtain ⟨x, hx, v, φ'', L'', hrun, hv, hst'⟩ := s2 φ' L' w' a' _ (hg.mono hst) hT' (q1.wf hw) (hp.next hw q1 hst hsub) hst.g.good
          exact ⟨hT'.2.1, v, hrun, x, hsub x hx, v, φ'', L'', rfl, hv, hst.trans q1 (e2.2 x hx) (hp x (hsub x hx)).1 hst'⟩
        cases e with
        | exit id => cases hr
        | normal => exact fin hr
        | ret => exact fin hr
      · cases h
    · cases h
  · cases h
theorem Ends.one {α : Type} {σ : St} {g : α → St} {x : α} (h : LProp σ (g x)) : Ends σ g [x] := ⟨by simp, fun y hy => by simp at hy; subst hy; exact h⟩
theorem lcode_spec (hknown : KnownOK E) (hhook : CallOK E E.hook) {draw : DrawF} {lres : ResF} (hdraw : DrawOK E draw) (hres : ResOK E lres) : ∀ n, CodeSpec E (lcode E draw lres n) := by
  intro n
  induction n with
  | zero => intro N c T σ outs h; cases h
  | succ n ih =>
    intro N c T σ outs h
    have hcall := lcall_ok hknown hhook hres ih
    have single : ∀ (x : LX × Tree Value × St), ∀ r, some [x] = some r → Ends x.2.2 (fun x : LX × Tree Value × St => x.2.2) r := fun x r hr => by cases hr; exact Ends.one (.refl _)
    unfold lcode at h
    cases c <;> try simp only at h
    case skip =>
      cases h
      exact ⟨Ends.one (.refl σ), fun φ L w a Q hg hT hw hp hgood hQ => wp_skip (hQ _ (List.mem_singleton.2 rfl) φ L a w hT (.refl hgood hw (hp _ (List.mem_singleton.2 rfl)).2))⟩
    case exit id =>
      cases h
      exact ⟨Ends.one (.refl σ), fun φ L w a Q hg hT hw hp hgood hQ => wp_exit (hQ _ (List.mem_singleton.2 rfl) φ L a w hT (.refl hgood hw (hp _ (List.mem_singleton.2 rfl)).2))⟩
    case ret =>
      cases h
      exact ⟨Ends.one (.refl σ), fun φ L w a Q hg hT hw hp hgood hQ => wp_ret (hQ _ (List.mem_singleton.2 rfl) φ L a w hT (.refl hgood hw (hp _ (List.mem_singleton.2 rfl)).2))⟩
    case region id ops d =>
      cases d with
      | false =>
        simp only at h
        split at h
        · rename_i l hl
          obtain ⟨e1, s1⟩ := lops_spec hcall hl
          have hf : ∀ x ∈ l, ∀ r, (fun x : Tree Value × St => some [((LX.normal, x.1, x.2) : LX × Tree Value × St)]) x = some r → Ends x.2 (fun x : LX × Tree Value × St => x.2.2) r := fun x _ r hr => by cases hr; exact Ends.one (.refl _)
          refine ⟨e1.bnd h hf, fun φ L w a Q hg hT hw hp hgood hQ => wp_region (s1 φ L w a Q hg hT hw (hp.first h hf) hgood ?_)⟩
          intro o ho φ' L' a' w' hT' hst
          obtain ⟨r, hr, hsub⟩ := bnd_spec h o ho
          cases hr
          exact hQ _ (hsub _ (List.mem_singleton.2 rfl)) φ' L' a' w' hT' hst
        · cases h
      | true =>
        simp only at h
        split at h
        · rename_i x hx
          cases h
          obtain ⟨p1, s1⟩ := hdraw _ _ _ _ _ _ _ hcall hx
          refine ⟨Ends.one p1, fun φ L w a Q hg hT hw hp hgood hQ => ?_⟩
          have hp' := hp _ (List.mem_singleton.2 rfl)
          exact s1 id φ L w a Q hg hT hw hp'.1 hp'.2 hgood fun φ' L' a' w' hT' hst => hQ _ (List.mem_singleton.2 rfl) φ' L' a' w' hT' hst
        · cases h
    case seq c1 c2 =>
      split at h
      · rename_i l hl
        obtain ⟨e1, s1⟩ := ih _ _ _ _ _ hl
        have hf : ∀ x ∈ l, ∀ r, (fun x : LX × Tree Value × St => match x.1 with
            | .normal => lcode E draw lres n N c2 x.2.1 x.2.2
            | _ => some [x]) x = some r → Ends x.2.2 (fun x : LX × Tree Value × St => x.2.2) r := fun x _ r hr => by
          obtain ⟨e, T', τ⟩ := x
          cases e <;> first | exact (ih _ _ _ _ _ hr).1 | exact single _ r hr
        refine ⟨e1.bnd h hf, fun φ L w a Q hg hT hw hp hgood hQ => wp_seq (CW.wp (s1 φ L w a _ hg hT hw (hp.first h hf) hgood ?_))⟩
        rintro ⟨e, T', τ⟩ ho φ' L' a' w' hT' hst
        obtain ⟨r, hr, hsub⟩ := bnd_spec h _ ho
        have q1 := e1.2 _ ho
        cases e with
        | normal =>
          obtain ⟨e2, s2⟩ := ih _ _ _ _ _ hr
          exact CW.wp (s2 φ' L' w' a' Q (hg.mono hst) hT' (q1.wf hw) (hp.next hw q1 hst hsub) hst.g.good fun y hy φ'' L'' a'' w'' hT'' hst'' =>
            hQ y (hsub y hy) φ'' L'' a'' w'' hT'' (hst.trans q1 (e2.2 y hy) (hp y (hsub y hy)).1 hst''))
        | exit id => cases hr; exact hQ _ (hsub _ (List.mem_singleton.2 rfl)) φ' L' a' w' hT' hst
        | ret => cases hr; exact hQ _ (hsub _ (List.mem_singleton.2 rfl)) φ' L' a' w' hT' hst
      · cases h
    case cond x c1 c2 =>
      split at h
      · rename_i hx
        split at h
        · rename_i t ht
          obtain ⟨e1, s1⟩ := ih _ _ _ _ _ h
          refine ⟨e1, fun φ L w a Q hg hT hw hp hgood hQ => ?_⟩
          have hv := lev_rel hg hT hx
          rw [ht] at hv
          have ha : a.eval x = .bool t := by
            generalize a.eval x = y at hv
            cases hv; rfl
          exact wp_cond ha (CW.wp (s1 φ L w a Q hg hT hw hp hgood hQ))
        · cases h
      · cases h
    case block id body =>
      split at h
      · rename_i l hl
        obtain ⟨e1, s1⟩ := ih _ _ _ _ _ hl
        have hf : ∀ x ∈ l, ∀ r, (fun x : LX × Tree Value × St => match x.1 with
            | .exit id' => if id' = id then some [(LX.normal, x.2)] else some [x]
            | _ => some [x]) x = some r → Ends x.2.2 (fun x : LX × Tree Value × St => x.2.2) r := fun x _ r hr => by
          obtain ⟨e, T', τ⟩ := x
          cases e with
          | exit id' => simp only at hr; split at hr <;> (cases hr; exact Ends.one (.refl _))
          | _ => exact single _ r hr
        refine ⟨e1.bnd h hf, fun φ L w a Q hg hT hw hp hgood hQ => wp_block (CW.wp (s1 φ L w a _ hg hT hw (hp.first h hf) hgood ?_))⟩
        rintro ⟨e, T', τ⟩ ho φ' L' a' w' hT' hst
        obtain ⟨r, hr, hsub⟩ := bnd_spec h _ ho
        cases e with
        | normal => cases hr; exact hQ _ (hsub _ (List.mem_singleton.2 rfl)) φ' L' a' w' hT' hst
        | ret => cases hr; exact hQ _ (hsub _ (List.mem_singleton.2 rfl)) φ' L' a' w' hT' hst
        | exit id' =>
          simp only at hr
          simp only [LX.to, Exit.inBlock]
          split at hr
          · rename_i hid; cases hr; simp only [hid, if_true]; exact hQ _ (hsub _ (List.mem_singleton.2 rfl)) φ' L' a' w' hT' hst
          · rename_i hid; cases hr; simp only [hid, if_false]; exact hQ _ (hsub _ (List.mem_singleton.2 rfl)) φ' L' a' w' hT' hst
      · cases h
    case loop body =>
      split at h
      · rename_i l hl
        obtain ⟨e1, s1⟩ := ih _ _ _ _ _ hl
        have hf : ∀ x ∈ l, ∀ r, (fun x : LX × Tree Value × St => match x.1 with
            | .normal => lcode E draw lres n N (.loop body) x.2.1 x.2.2
            | _ => some [x]) x = some r → Ends x.2.2 (fun x : LX × Tree Value × St => x.2.2) r := fun x _ r hr => by
          obtain ⟨e, T', τ⟩ := x
          cases e <;> first | exact (ih _ _ _ _ _ hr).1 | exact single _ r hr
        refine ⟨e1.bnd h hf, fun φ L w a Q hg hT hw hp hgood hQ => wpRound.next (CW.wp (s1 φ L w a _ hg hT hw (hp.first h hf) hgood ?_))⟩
        rintro ⟨e, T', τ⟩ ho φ' L' a' w' hT' hst
        obtain ⟨r, hr, hsub⟩ := bnd_spec h _ ho
        have q1 := e1.2 _ ho
        cases e with
        | normal =>
          obtain ⟨e2, s2⟩ := ih _ _ _ _ _ hr
          exact s2 φ' L' w' a' Q (hg.mono hst) hT' (q1.wf hw) (hp.next hw q1 hst hsub) hst.g.good fun y hy φ'' L'' a'' w'' hT'' hst'' =>
            hQ y (hsub y hy) φ'' L'' a'' w'' hT'' (hst.trans q1 (e2.2 y hy) (hp y (hsub y hy)).1 hst'')
        | exit id => cases hr; exact hQ _ (hsub _ (List.mem_singleton.2 rfl)) φ' L' a' w' hT' hst
        | ret => cases hr; exact hQ _ (hsub _ (List.mem_singleton.2 rfl)) φ' L' a' w' hT' hst
      · cases h
    all_goals cases h
end
end Ck

/- What a call hands back, on the checker's memory and in a world. -/
namespace Ck
open Go
def lresS (fn : Func) (T : Tree Value) : Sem Value := do
  let vs ← fn.results.mapM fun
    | .tmp t => pure (lev T (.tmp t))
    | .cell a t => do loadVar t (← asAddr (lev T (.tmp a)))
  pure (if h : vs.size = 1 then vs[0] else .tuple vs)
def lresF (E : Env) : ResF := fun fn T σ => lrun E.P (lresS fn T) σ
section
variable {P : Program} {α β : Type}
def Quiet (P : Program) (s : Sem α) : Prop := ∀ w a w', s.run P w = .ok a w' → w' = w
theorem Quiet.pure (a : α) : Quiet P (Pure.pure a : Sem α) := fun w b w' h => by cases h; rfl
theorem Quiet.halt (x : Halt) : Quiet P (.halt x : Sem α) := fun w b w' h => by cases h
theorem Quiet.bind {s : Sem α} {f : α → Sem β} (h : Quiet P s) (k : ∀ a, Quiet P (f a)) : Quiet P (s >>= f) := fun w b w' hr => by
  replace hr : (s.bind f).run P w = .ok b w' := hr
  rw [run_bind'] at hr
  cases hs : s.run P w with
  | halt x w1 => rw [hs] at hr; cases hr
  | ok a w1 =>
    rw [hs] at hr
    have := h w a w1 hs
    subst this
    exact k a _ _ _ hr
theorem Quiet.load (a : Addr) (m : Mode) : Quiet P (load a m) := fun w b w' h => by
  replace h : (Sem.load m a .pure).run P w = .ok b w' := h
  simp only [Sem.run] at h
  split at h
  · cases h; rfl
  · split at h
    · cases h; rfl
    · cases h
theorem Quiet.program : Quiet P program := fun w b w' h => by cases h; rfl
theorem quiet_loadCells (a : Addr) (n : Nat) : ∀ (i : Nat) (acc : Array Value), Quiet P (loadCellsFrom a i n acc) := by
  induction n with
  | zero => intro i acc; exact Quiet.pure _
  | succ n ih => intro i acc; unfold loadCellsFrom; exact Quiet.bind (Quiet.load _ _) fun v => ih _ _
theorem quiet_underlying (t : TypeId) : Quiet P (underlying t) := by
  unfold underlying
  refine Quiet.bind Quiet.program fun p => ?_
  cases Program.underlying p t <;> first | exact Quiet.pure _ | exact Quiet.halt _
theorem quiet_sizeOf (t : TypeId) : Quiet P (sizeOf t) := by
  unfold sizeOf typeInfo
  refine Quiet.bind (Quiet.bind Quiet.program fun p => ?_) fun i => Quiet.pure _
  cases Tables.info? p.toTables t <;> first | exact Quiet.pure _ | exact Quiet.halt _
theorem quiet_loadVar (t : TypeId) (a : Addr) : Quiet P (loadVar t a) := by
  unfold loadVar isAgg
  refine Quiet.bind (Quiet.bind (quiet_underlying t) fun d => ?_) fun b => ?_
  · cases d <;> exact Quiet.pure _
  · cases b
    · exact Quiet.load _ _
    · exact Quiet.bind (quiet_sizeOf t) fun n => Quiet.bind (quiet_loadCells a n 0 #[]) fun cs => Quiet.pure _
theorem quiet_asAddr (v : Value) : Quiet P (asAddr v) := by
  cases v <;> first | exact Quiet.halt _ | skip
  rename_i a
  cases a with
  | none => exact Quiet.bind Quiet.program fun p => Quiet.halt _
  | some a => exact Quiet.pure _
theorem quiet_mapM {γ : Type} (f : γ → Sem Value) (hf : ∀ x, Quiet P (f x)) : ∀ l : List γ, Quiet P (l.mapM f) := by
  intro l
  induction l with
  | nil => exact Quiet.pure _
  | cons x l ih =>
    rw [List.mapM_cons]
    exact Quiet.bind (hf x) fun v => Quiet.bind ih fun vs => Quiet.pure _
theorem quiet_results (fn : Func) (tmps : Array Value) : Quiet P (results fn tmps) := by
  unfold results
  rw [Array.mapM_eq_mapM_toList]
  refine Quiet.bind (Quiet.bind (quiet_mapM _ (fun x => ?_) _) fun vs => Quiet.pure _) fun vs => Quiet.pure _
  cases x with
  | tmp t => exact Quiet.pure _
  | cell a t => exact Quiet.bind (quiet_asAddr _) fun b => quiet_loadVar _ _
theorem sim_mapM {γ : Type} {f g : γ → Sem Value} : ∀ (l : List γ) {φ : Emb}, (∀ x, ∀ ψ, Le φ ψ → SimS P ψ VRel (f x) (g x)) → SimS P φ LRel (l.mapM f) (l.mapM g) := by
  intro l
  induction l with
  | nil => intro φ h; exact SimS.ret fun ψ _ => LRel.nil ψ
  | cons x l ih =>
    intro φ h
    rw [List.mapM_cons, List.mapM_cons]
    refine SimS.bind (h x φ (.refl φ)) ?_
    intro ψ hl v v' hv
    refine SimS.bind (ih fun y χ hχ => h y χ (hl.trans hχ)) ?_
    intro χ hχ vs us hvs
    exact SimS.ret fun _ hle => (LRel.cons (hv.mono hχ) hvs).mono hle
theorem sim_results {φ : Emb} {N : Nat} {T : Tree Value} {a : Act} (fn : Func) (hT : TRel φ N T a) : SimS P φ VRel (lresS fn T) (results fn a.tmps) := by
  unfold results lresS
  rw [Array.mapM_eq_mapM_toList, Array.mapM_eq_mapM_toList]
  refine SimS.bind (A := ARel) ?_ ?_
  · refine SimS.bind (sim_mapM _ (fun x ψ hψ => ?_)) ?_
    · cases x with
      | tmp t => exact SimS.ret fun _ hle => ((hT.2.2 t).mono hψ).mono hle
      | cell b t =>
        refine SimS.bind (sim_asAddr ((hT.2.2 b).mono hψ)) ?_
        intro χ hχ c c' hc
        exact sim_loadVar t hc
    · intro ψ hψ l m hlm
      exact SimS.ret fun _ hle => ARel.ofList (by simpa using hlm.mono hle)
  · intro ψ hψ vs us hvs
    refine SimS.ret fun χ hχ => ?_
    have hv2 := hvs.mono hχ
    by_cases h1 : vs.size = 1
    · have h2 : us.size = 1 := by rw [hvs.1, h1]
      simp only [h1, h2, dif_pos]
      exact hv2.2 0 _ _ (Array.getElem?_eq_getElem (by omega)) (Array.getElem?_eq_getElem (by omega))
    · have h2 : ¬ us.size = 1 := by rw [hvs.1]; exact h1
      simp only [h1, h2, dif_neg, not_false_eq_true]
      exact .tupleOf hv2
theorem lresF_ok (E : Env) : ResOK E (lresF E) := by
  intro fn T σ outs h
  refine ⟨lrun_prop E.P _ σ outs h, fun φ L w a N hg hT hw hp hgood => ?_⟩
  obtain ⟨o, ho, v, w', ψ', L', hrun, hA, hst⟩ := sim_results (P := E.P) fn hT φ (.refl φ) σ outs L w h hw hp hgood
  have hq := quiet_results (P := E.P) fn a.tmps w v w' hrun
  subst hq
  exact ⟨o, ho, v, ψ', L', hrun, hA, hst⟩
end
end Ck

/- The checker's regions that draw their order: one way through, when what may come up beside one another does not meet. -/
namespace Ck
open Go
structure Rec where
  o : Oper
  T : Tree Value
  v : Value
  τ : St
  τ' : St
def clr (σ : St) : St := { σ with rd := 0, wr := 0 }
def mrg (σ τ : St) : St := { τ with rd := σ.rd ||| τ.rd, wr := σ.wr ||| τ.wr }
noncomputable def ldraw (E : Env) (call : CallF) (N : Nat) (ops : Array Oper) : List Nat → Tree Value → St → Option (List Rec × Tree Value × St)
  | [], T, σ => some ([], T, σ)
  | i :: rest, T, σ =>
    match nth ops.toList i with
    | none => none
    | some o =>
      if Region.wanted o (lyield ops T) then
        match lop E call (lev T) o (clr σ) with
        | some [x] => match ldraw E call N ops rest (lput N T o.dst x.1) (mrg σ x.2) with
          | some (rs, T', σ') => some (⟨o, T, x.1, clr σ, x.2⟩ :: rs, T', σ')
          | none => none
        | _ => none
      else match ldraw E call N ops rest (lput N T o.dst undef) (mrg σ (clr σ)) with
        | some (rs, T', σ') => some (⟨o, T, undef, clr σ, clr σ⟩ :: rs, T', σ')
        | none => none
def upTo (c : Array Nat) (o : Oper) : Nat := o.after.foldl (fun s e => if Region.binds .any e then s ||| 2 ^ e.on ||| c.getD e.on 0 else s) 0
def masks (ops : Array Oper) : Array Nat := ops.foldl (fun acc o => acc.push (upTo acc o)) #[]
def writers (ops : Array Oper) : Tree Nat :=
  (ops.toList.zipIdx.foldl (fun W (x : Oper × Nat) => match x.1.dst with | some d => W.set d (some x.2) | none => W) .leaf)
def sokC (ops : Array Oper) (c : Array Nat) (W : Tree Nat) : Bool :=
  ops.toList.zipIdx.all fun x =>
    (c.getD x.2 0 ||| upTo c x.1) == upTo c x.1 &&
    x.1.after.all (fun e => !Region.binds .any e || decide (e.on < x.2)) &&
    (match x.1.dst with | some d => W.get d == some x.2 | none => true) &&
    (x.1.looksAt ops).all (fun t => match W.get t with
      | some j => ((c.getD x.2 0).testBit j && decide (j < x.2)) || ((c.getD j 0).testBit x.2 && decide (x.2 < j))
      | none => true) &&
    (match x.1.op with | .select .. => false | _ => true)
def sok (ops : Array Oper) : Bool := sokC ops (masks ops) (writers ops)
def notIn (x : Nat) (r : Rec) : Bool := (x >>> r.τ.next) % 2 ^ (r.τ'.next - r.τ.next) == 0
def apart (r s : Rec) : Bool :=
  (r.τ'.wr &&& (s.τ'.rd ||| s.τ'.wr)) == 0 && (s.τ'.wr &&& (r.τ'.rd ||| r.τ'.wr)) == 0 && notIn (s.τ'.rd ||| s.τ'.wr) r && notIn (r.τ'.rd ||| r.τ'.wr) s
def quiet (r : Rec) : Bool := r.τ'.rd == 0 && r.τ'.wr == 0 && r.τ'.next == r.τ.next
def pairsOk (c : Array Nat) : List (Rec × Nat) → Bool
  | [] => true
  | x :: l => l.all (fun y => (c.getD y.2 0).testBit x.2 || apart x.1 y.1) && pairsOk c l
noncomputable def drawF (E : Env) : DrawF := fun call N ops T σ =>
  if sok ops then
    match ldraw E call N ops (List.range ops.size) T σ with
    | some (rs, T', σ') => if pairsOk (masks ops) (rs.zipIdx.filter fun x => !quiet x.1) then some (T', σ') else none
    | none => none
  else none
noncomputable def run (E : Env) (n : Nat) : CallF := lcall E (lresF E) (lcode E (drawF E) (lresF E) n)
end Ck

end Go.Proofs.YtjchnkmolhgpmaaGreatDoor

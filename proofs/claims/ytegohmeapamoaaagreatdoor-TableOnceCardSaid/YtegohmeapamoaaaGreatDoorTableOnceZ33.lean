/- Texts of TableOnce's proof, together. -/
import Derived.Test.YtegohmeapamoaaaGreatDoorCkE
import Derived.Below
namespace Go.Proofs.YtegohmeapamoaaaGreatDoor
/- A closed call that the checker says is true is true. -/
namespace Ck
open Go Go.RowKit
/-- It says that all ends there may be are true. -/
noncomputable def holds (E : Env) (n f : Nat) : Bool :=
  match run E n f #[] ⟨.leaf, 0, 0, 0⟩ with
  | some outs => outs.all fun x => match x.1 with
    | .bool true => true
    | _ => false
  | none => false
def True' (P : Program) (f : Nat) : Prop := ∀ w : World, Calls P f #[] w fun e w' => e = .returned (.bool true) ∧ Below w.heap.size w w'
theorem known_ok {P : Program} {ks : List Nat} {hook : CallF} (h : ∀ f ∈ ks, True' P f) : KnownOK ⟨P, [], ks, hook⟩ := fun f hf _φ _L w _ _ =>
  (h f (List.contains_iff_mem.1 hf) w).mono fun _e _w' ⟨he, hb⟩ => ⟨he, hb.size, fun r hr => hb.block r hr, hb.os, hb.tape, hb.output⟩
theorem no_hook {P : Program} {ks : List Nat} : CallOK ⟨P, [], ks, fun _ _ _ => none⟩ (fun _ _ _ => none) := fun _ _ _ _ h => by cases h
theorem holds_hook {P : Program} {ks : List Nat} {hook : CallF} (hm : P.follows .mixedOrders = true) (hh : CallOK ⟨P, [], ks, hook⟩ hook) (hk : ∀ f ∈ ks, True' P f) {n f : Nat} (h : holds ⟨P, [], ks, hook⟩ n f = true) : True' P f := fun w => by
  unfold holds at h
  split at h
  · rename_i outs hr
    have hc := run_ok (E := ⟨P, [], ks, hook⟩) hm (known_ok hk) hh n f #[] ⟨.leaf, 0, 0, 0⟩ outs hr
    refine (hc.2 (fun _ => none) #[] (fun _ => none) w (fun x hx => by cases hx) (.empty _) ⟨fun b hb => by simp at hb, fun b _ => rfl⟩ (fun o _ => ⟨fun b _ _ => ⟨rfl, rfl⟩, fun b _ hb => by simp at hb⟩)
      ⟨fun b o hb => by simp at hb, fun b c hb => absurd rfl hb⟩).mono ?_
    rintro e w' ⟨o, ho, v', φ', L', rfl, hv, hst⟩
    rw [List.all_eq_true] at h
    have h1 := h o ho
    refine ⟨?_, hst.g.kept.1, hst.g.kept.2.1, hst.g.kept.2.2, hst.g.size, fun k hk => hst.g.frame k hk fun b e hb => absurd rfl hb⟩
    split at h1
    · rename_i hx
      rw [hx] at hv
      cases hv; rfl
    · cases h1
  · cases h
theorem holds_sound {P : Program} {ks : List Nat} (hm : P.follows .mixedOrders = true) (hk : ∀ f ∈ ks, True' P f) {n f : Nat} (h : holds ⟨P, [], ks, fun _ _ _ => none⟩ n f = true) : True' P f := holds_hook hm no_hook hk h
end Ck

/- The checker's run of a closed call, cut in pieces: each piece is one theorem, and the state between two of them stands as it is. -/
namespace Ck
open Go Go.RowKit
def cutc : Nat → Code → List Code × Code
  | 0, c => ([], c)
  | k + 1, .seq a b => (a :: (cutc k b).1, (cutc k b).2)
  | _ + 1, c => ([], c)
def seqs : List Code → Code → Code
  | [], b => b
  | a :: l, b => .seq a (seqs l b)
theorem seqs_cut : ∀ (k : Nat) (c : Code), seqs (cutc k c).1 (cutc k c).2 = c := by
  intro k
  induction k with
  | zero => intro c; rfl
  | succ k ih =>
    intro c
    cases c <;> first | rfl | skip
    rename_i a b
    show Code.seq a (seqs (cutc k b).1 (cutc k b).2) = Code.seq a b
    rw [ih]
theorem bnd_one {α β : Type} (f : α → Option (List β)) (x : α) : bnd f [x] = f x := by
  simp only [bnd]
  cases f x <;> simp
noncomputable abbrev cod (E : Env) := lcode E (drawF E) (lresF E)
noncomputable def chain (E : Env) (N : Nat) : Nat → List Code → Tree Value → St → Option (Nat × Tree Value × St)
  | n, [], T, σ => some (n, T, σ)
  | n + 1, c :: cs, T, σ => match cod E n N c T σ with
    | some [(.normal, T1, σ1)] => chain E N n cs T1 σ1
    | _ => none
  | 0, _ :: _, _, _ => none
theorem chain_spec {E : Env} {N : Nat} {b : Code} {m : Nat} {T1 : Tree Value} {σ1 : St} : ∀ {cs : List Code} {n : Nat} {T : Tree Value} {σ : St}, chain E N n cs T σ = some (m, T1, σ1) →
    cod E n N (seqs cs b) T σ = cod E m N b T1 σ1 := by
  intro cs
  induction cs with
  | nil =>
    intro n T σ h
    cases n <;> (simp only [chain, Option.some.injEq, Prod.mk.injEq] at h; obtain ⟨rfl, rfl, rfl⟩ := h; rfl)
  | cons c cs ih =>
    intro n T σ h
    cases n with
    | zero => simp [chain] at h
    | succ n =>
      simp only [chain] at h
      split at h
      · rename_i T2 σ2 hl
        show (match cod E n N c T σ with
          | some outs => bnd (fun x : LX × Tree Value × St => match x.1 with
            | .normal => cod E n N (seqs cs b) x.2.1 x.2.2
            | _ => some [x]) outs
          | none => none) = _
        rw [hl]
        simp only [bnd_one]
        exact ih h
      · cases h
theorem chain_cut {E : Env} {N k : Nat} {c : Code} {n m : Nat} {T T1 : Tree Value} {σ σ1 : St} (h : chain E N n (cutc k c).1 T σ = some (m, T1, σ1)) : cod E n N c T σ = cod E m N (cutc k c).2 T1 σ1 := by
  have := chain_spec (b := (cutc k c).2) h
  rwa [seqs_cut] at this
def bodyD (E : Env) (f : Nat) : Code := match E.P.funcs[f]? with
  | some fn => match fn.body with
    | some b => b
    | none => .skip
  | none => .skip
def ntD (E : Env) (f : Nat) : Nat := match E.P.funcs[f]? with
  | some fn => max fn.ntmps 0
  | none => 0
def hasD (E : Env) (f : Nat) : Bool := match E.P.funcs[f]? with
  | some fn => fn.body.isSome
  | none => false
noncomputable def finD (E : Env) (f : Nat) (o : COuts) : Outs := match E.P.funcs[f]? with
  | some fn => match o with
    | some outs => bnd (fun x => match x.1 with
      | .exit _ => none
      | _ => lresF E fn x.2.1 x.2.2) outs
    | none => none
  | none => none
def trues (o : Outs) : Bool := match o with
  | some outs => outs.all fun x => match x.1 with
    | .bool true => true
    | _ => false
  | none => false
abbrev sz0 : St := ⟨.leaf, 0, 0, 0⟩
theorem holds_body {E : Env} {n f : Nat} (h0 : E.known.contains f = false) (h1 : E.hook f #[] sz0 = none) (h2 : hasD E f = true) :
    holds E n f = trues (finD E f (cod E n (ntD E f) (bodyD E f) (fromList 0 []) sz0)) := by
  unfold hasD at h2
  unfold holds run lcall
  simp only [nth_arr]
  rw [h1, h0]
  unfold finD ntD bodyD
  cases hf : E.P.funcs[f]? with
  | none => rw [hf] at h2; cases h2
  | some fn =>
    rw [hf] at h2
    cases hb : fn.body with
    | none => simp [hb] at h2
    | some b =>
      simp only [hb]
      rfl
end Ck

end Go.Proofs.YtegohmeapamoaaaGreatDoor

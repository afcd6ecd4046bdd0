/- A closed call that the checker says is true is true. -/
import Derived.Test.YtjchnkmolhgpmaaGreatDoorCkE
import Derived.Below
namespace Go.Proofs.YtjchnkmolhgpmaaGreatDoor.Ck
open Go Go.RowKit
noncomputable def holds (E : Env) (n f : Nat) : Bool :=
  match run E n f #[] ⟨.leaf, 0, 0, 0⟩ with
  | some outs => outs.all fun x => match x.1 with
    | .bool true => true
    | _ => false
  | none => false
def True' (P : Program) (f : Nat) : Prop := ∀ w : World, Calls P f #[] w fun e w' => e = .returned (.bool true) ∧ Below w.heap.size w w'
theorem known_ok {P : Program} {ks : List Nat} {hook : CallF} (h : ∀ f ∈ ks, True' P f) : KnownOK ⟨P, [], ks, hook⟩ := fun f hf _φ _L w _ _ =>
  (h f (List.contains_iff_mem.1 hf) w).mono fun _e _w' ⟨he, hb⟩ => ⟨he, hb.size, fun r hr => hb.block r hr, hb.os, hb.tape, hb.output⟩
theorem no_hook {P : Program} {ks : List Nat} : CallOK ⟨P, [], ks, fun _ _ _ => none⟩ (fun _ _ _ => none) := fun _ _ _ _ h => by cases h
theorem holds_hook {P : Program} {ks : List Nat} {hook : CallF} (hm : P.follows .mixedOrders = true) (hh : CallOK ⟨P, [], ks, hook⟩ hook) (hk : ∀ f ∈ ks, True' P f) {n f : Nat} (h : holds ⟨P, [], ks, hook⟩ n f = true) : True' P f := fun w => by
  unfold holds at h
  split at h
  · rename_i outs hr
    have hc := run_ok (E := ⟨P, [], ks, hook⟩) hm (known_ok hk) hh n f #[] ⟨.leaf, 0, 0, 0⟩ outs hr
    refine (hc.2 (fun _ => none) #[] (fun _ => none) w (fun x hx => by cases hx) (.empty _) ⟨fun b hb => by simp at hb, fun b _ => rfl⟩ (fun o _ => ⟨fun b _ _ => ⟨rfl, rfl⟩, fun b _ hb => by simp at hb⟩)
      ⟨fun b o hb => by simp at hb, fun b c hb => absurd rfl hb⟩).mono ?_
    rintro e w' ⟨o, ho, v', φ', L', rfl, hv, hst⟩
    rw [List.all_eq_true] at h
    have h1 := h o ho
    refine ⟨?_, hst.g.kept.1, hst.g.kept.2.1, hst.g.kept.2.2, hst.g.size, fun k hk => hst.g.frame k hk fun b e hb => absurd rfl hb⟩
    split at h1
    · rename_i hx
      rw [hx] at hv
      cases hv; rfl
    · cases h1
  · cases h
theorem holds_sound {P : Program} {ks : List Nat} (hm : P.follows .mixedOrders = true) (hk : ∀ f ∈ ks, True' P f) {n f : Nat} (h : holds ⟨P, [], ks, fun _ _ _ => none⟩ n f = true) : True' P f := holds_hook hm no_hook hk h
end Go.Proofs.YtjchnkmolhgpmaaGreatDoor.Ck

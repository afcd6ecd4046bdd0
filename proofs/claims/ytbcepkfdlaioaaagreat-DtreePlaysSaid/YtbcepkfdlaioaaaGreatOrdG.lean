import Derived.Test.YtbcepkfdlaioaaaGreatDtreePlaysZ14
import Derived.Test.YtbcepkfdlaioaaaGreatBig
namespace Go.Proofs.YtbcepkfdlaioaaaGreat
open Go Go.RowKit
section
variable {P : Program} {ops : Array Oper} {Q : Exit → Act → World → Prop} {md : Region.Mode} {S S0 : World → Prop} {ι : Type}
def RunI (P : Program) (w : World) (V : ι → Value) (R : ι → World → Prop) : Result Next → Prop
 | .ok (.enter f args) w' => Calls P f args w' fun e w'' => ∃ x, e = .returned (V x) ∧ R x w'' ∧ Below w.heap.size w w''
 | _ => False
theorem RunI.wp {o : Oper} {a : Act} {w : World} {V : ι → Value} {R : ι → World → Prop} {K : Act → World → Prop} (h : RunI P w V R ((execOp a.eval o).run P w)) (hK : ∀ x w', R x w' → Below w.heap.size w w' → K (a.put o.dst (V x)) w') : o.wp P a w K Q := by
 unfold Oper.wp
 generalize (execOp a.eval o).run P w = r at *
 cases r with
 | ok n w' =>
  cases n <;> simp only [RunI, Oper.upon] at h ⊢
  case enter f args =>
   refine Calls.mono h fun e w'' he => ?_
   obtain ⟨x, rfl, hR, hb⟩ := he
   exact hK _ _ hR hb
 | halt x w' => exact h.elim
theorem RunI.of_calls {V : ι → Value} {R : ι → World → Prop} {f : FuncId} {args : Array Value} {w : World} {r : Result Next} {R' : Ending → World → Prop} (hc : Calls P f args w R') (hr : r = .ok (.enter f args) w) (h : ∀ e w', R' e w' → ∃ x, e = .returned (V x) ∧ R x w' ∧ Below w.heap.size w w') : RunI P w V R r := by
 rw [hr]
 exact Calls.mono hc h
theorem wpAnyE_call {n i : Nat} {oi : Oper} {fuel : Nat} {listed : Array Bool} {a : Act} (V : ι → Value) (R : ι → World → Prop) (hi : ops[i]? = some oi) (hr : Region.ready md ops listed = [i]) (hin : i < n) (hw : Region.wanted oi (yielded ops a.tmps) = true)
  (hst : Stays S) (hs0 : ∀ w, S w → S0 w) (hR : ∀ x, Stays (R x)) (hrun : ∀ w, S w → RunI P w V R ((execOp a.eval oi).run P w))
  (h : ∀ x, wpAnyE P md ops Q S0 n fuel (fun w => S w ∧ R x w) (listed.setIfInBounds i true) (a.put oi.dst (V x))) : wpAnyE P md ops Q S0 n (fuel + 1) S listed a :=
 wpAnyE_one hi hr hin hw (fun w hS K hK => (hrun w hS).wp (fun x w' hR' hb => hK.out _ _ (fun w2 => S w2 ∧ R x w2) (fun _ h => hs0 _ h.1) (fun _ _ h hb => ⟨hst _ _ h.1 hb, hR x _ _ h.2 hb⟩) ⟨hst _ _ hS hb, hR'⟩ (h x)))
end
end Go.Proofs.YtbcepkfdlaioaaaGreat

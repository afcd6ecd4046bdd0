/- Texts of DtreePlays's proof, together. -/
import Derived.Test.YtbcepkfdlaioaaaGreatCs
import Derived.Deep.MidRow
import Derived.WalkKit
import Derived.OrdersHeld
import Derived.Deep.RegionHeld
import Derived.StillTail
namespace Go.Proofs.YtbcepkfdlaioaaaGreat

section
open Go
section
variable {P : Program} {ops : Array Oper} {Q : Exit → Act → World → Prop} {md : Region.Mode} {S : World → Prop}
def SteadyRun (P : Program) (S : World → Prop) (v : Value) : Result Next → Prop
 | .ok (.value u) w' => u = v ∧ S w'
 | .ok .skip w' => v = undef ∧ S w'
 | .ok (.enter f args) w' => Calls P f args w' fun e w'' => e = .returned v ∧ S w''
 | .ok (.row row args) w' => Rows P row args w' fun u w'' => u = v ∧ S w''
 | _ => False
def Steady (P : Program) (ops : Array Oper) (S : World → Prop) (o : Oper) (v : Value) (a : Act) : Prop :=
 (Region.wanted o (yielded ops a.tmps) = true ∧ ∀ w, S w → SteadyRun P S v ((execOp a.eval o).run P w)) ∨
 (Region.wanted o (yielded ops a.tmps) = false ∧ v = undef)
theorem Steady.of_yields {o : Oper} {v : Value} {a : Act} (h : YieldsIf P ops S o v a) : Steady P ops S o v a :=
 h.imp (fun ⟨hw, hv⟩ => ⟨hw, fun w hS => by rw [hv w hS]; exact ⟨rfl, hS⟩⟩) id
theorem SteadyRun.wp {o : Oper} {v : Value} {a : Act} {w : World} {K : Act → World → Prop} (h : SteadyRun P S v ((execOp a.eval o).run P w)) (hK : ∀ w', S w' → K (a.put o.dst v) w') : o.wp P a w K Q := by
 unfold Oper.wp
 generalize (execOp a.eval o).run P w = r at *
 cases r with
 | ok n w' =>
  cases n <;> simp only [SteadyRun, Oper.upon] at h ⊢
  case value u => rw [h.1]; exact hK _ h.2
  case skip => have := hK _ h.2; rw [h.1] at this; exact this
  case enter f args =>
   refine Calls.mono h fun e w'' he => ?_
   obtain ⟨rfl, hs⟩ := he
   exact hK _ hs
  case row row args => exact Rows.mono h fun u w'' he => by rw [he.1]; exact hK _ he.2
 | halt x w' => exact h.elim
theorem Steady.wpOp {i : Nat} {o : Oper} {v : Value} {a : Act} (hi : ops[i]? = some o) (hy : Steady P ops S o v a)
  {K : Act → World → Prop} {w : World} (hS : S w) (h : ∀ w', S w' → K (a.put o.dst v) w') : wpOp P ops Q i K a w := by
 unfold Go.wpOp
 simp only [hi]
 rcases hy with ⟨hw, hv⟩ | ⟨hw, rfl⟩
 ·simp only [hw, if_true]; exact .inl ((hv w hS).wp h)
 ·simp only [hw, Bool.false_eq_true, if_false]; exact h w hS
theorem Steady.of_same {o : Oper} {v : Value} {a a' : Act} (hy : Steady P ops S o v a) (he : execOp a'.eval o = execOp a.eval o)
  (hw : Region.wanted o (yielded ops a'.tmps) = Region.wanted o (yielded ops a.tmps)) : Steady P ops S o v a' := by
 unfold Steady at *
 rw [he, hw]
 exact hy
theorem wpOp_putU {j : Nat} {oi oj : Oper} {v : Value} (hj : ops[j]? = some oj) (hap : oi.apart ops oj = true)
  (hsi : ∀ cs b, oi.op ≠ .select cs b) (hsj : ∀ cs b, oj.op ≠ .select cs b)
  (hQ : ∀ c a w, Q (.panic c) (a.put oi.dst v) w → Q (.panic c) a w) {K : Act → World → Prop} {a : Act} {w : World}
  (hy : Steady P ops S oi v a) (h : wpOp P ops Q j K (a.put oi.dst v) w) :
  wpOp P ops Q j (fun a' w' => Steady P ops S oi v a' ∧ K (a'.put oi.dst v) w') a w := by
 obtain ⟨h1, h2, h3⟩ := Oper.apart_spec hap
 have keep : ∀ (a : Act), Steady P ops S oi v a → ∀ u, Steady P ops S oi v (a.put oj.dst u) := fun a hy u =>
  hy.of_same (execOp_put oi hsi a oj.dst u h3) (wanted_put oi a oj.dst u h3)
 have keepD : ∀ d, Steady P ops S oi v { a with defers := d :: a.defers } := fun d => hy.of_same rfl rfl
 unfold wpOp at *
 simp only [hj] at *
 rw [wanted_put oj a oi.dst v h1] at h
 split
 ·rename_i hw
  simp only [hw, if_true] at h
  rcases h with h | ⟨hasks, hlets⟩
  case inr => exact .inr ⟨by unfold Oper.asks at *; rw [execOp_put oj hsj a oi.dst v h1] at hasks; exact hasks, hlets⟩
  refine .inl ?_
  unfold Oper.wp at *
  rw [execOp_put oj hsj a oi.dst v h1] at h
  generalize (execOp a.eval oj).run P w = r at *
  cases r with
  | ok n w' =>
   cases n <;> simp only [Oper.upon] at h ⊢
   case value u => exact ⟨keep a hy u, by rw [← Act.put_comm a v u h2]; exact h⟩
   case skip => exact ⟨keep a hy _, by rw [← Act.put_comm a v undef h2]; exact h⟩
   case defer d =>
    refine ⟨keep _ (keepD d) _, ?_⟩
    rw [← Act.put_comm _ v undef h2, ← Act.put_defers]
    exact h
   case enter f args =>
    refine Calls.mono h fun e w'' he => ?_
    cases e with
    | returned u => exact ⟨keep a hy u, by rw [← Act.put_comm a v u h2]; exact he⟩
    | panicked c => exact hQ _ _ _ he
    | outgrown => exact he
   case row row args => exact Rows.mono h fun u w'' he => ⟨keep a hy u, by rw [← Act.put_comm a v u h2]; exact he⟩
  | halt x w' =>
   cases x <;> simp only [Oper.upon] at h ⊢
   case panic u => exact hQ _ _ _ h
 ·rename_i hw
  simp only [hw] at h
  exact ⟨keep a hy _, by rw [← Act.put_comm a v undef h2]; exact h⟩
def wpAnyU (P : Program) (md : Region.Mode) (ops : Array Oper) (Q : Exit → Act → World → Prop) (S : World → Prop) (n : Nat) : Nat → Array Bool → Act → Prop
 | 0, listed, a => Region.ready md ops listed = [] ∧ ∀ w, S w → Q .normal a w
 | fuel + 1, listed, a =>
  (Region.ready md ops listed = [] → ∀ w, S w → Q .normal a w) ∧
  ∀ i ∈ Region.ready md ops listed, ∀ w, S w → wpOp P ops Q i (fun a' w' => if n ≤ i then wpAny P md ops Q fuel (listed.setIfInBounds i true) a' w' else S w' ∧ wpAnyU P md ops Q S n fuel (listed.setIfInBounds i true) a') a w
theorem wpAny_of_U {n : Nat} : ∀ (fuel : Nat) (listed : Array Bool) (a : Act) (w : World), S w → wpAnyU P md ops Q S n fuel listed a → wpAny P md ops Q fuel listed a w
 | 0, _, _, w, hS, h => ⟨h.1, h.2 w hS⟩
 | fuel + 1, _, _, w, hS, h => ⟨fun hr => h.1 hr w hS, fun i hi => wpOp_mono (fun a' w' h' => by
   split at h'
   ·exact h'
   ·exact wpAny_of_U fuel _ a' w' h'.1 h'.2) (h.2 i hi w hS)⟩
def headB (md : Region.Mode) (ops : Array Oper) (n : Nat) (listed : Array Bool) : Bool :=
 decide (listed.size = ops.size) && (List.range ops.size).all fun j => (!listed.getD j false || ((ops[j]?).map (·.after.all fun e => !Region.binds md e || listed.getD e.on false)).getD false) && (decide (j < n) || !listed.getD j true)
def uOk (md : Region.Mode) (ops : Array Oper) (n : Nat) (listed : Array Bool) (i : Nat) : Bool :=
 decide (i < n) && headB md ops n listed && (decide (ops.size ≤ n) || (decide (n < ops.size) && Region.sinkB md ops n && Region.chainB md ops n))
theorem headB_spec {n : Nat} {listed : Array Bool} (h : headB md ops n listed = true) : HeadInv md ops n listed := by
 simp only [headB, Bool.and_eq_true, decide_eq_true_eq] at h
 obtain ⟨hsz, hall⟩ := h
 have key := fun j (hj : j < ops.size) => List.all_eq_true.1 hall j (List.mem_range.2 hj)
 refine ⟨hsz, fun j oj hoj hl e he hb => ?_, fun t ht htm => ?_⟩
 ·have hj := (Array.getElem?_eq_some_iff.1 hoj).1
  have h1 := key j hj
  simp only [Bool.and_eq_true, Bool.or_eq_true, Bool.not_eq_true'] at h1
  rcases h1.1 with h2 | h2
  ·rw [hl] at h2; cases h2
  ·rw [hoj] at h2
   simp only [Option.map_some, Option.getD_some, Array.all_eq_true_iff_forall_mem, Bool.or_eq_true, Bool.not_eq_true'] at h2
   rcases h2 e he with h3 | h3
   ·rw [hb] at h3; cases h3
   ·exact h3
 ·have h1 := key t htm
  simp only [Bool.and_eq_true, Bool.or_eq_true, Bool.not_eq_true', decide_eq_true_eq] at h1
  rcases h1.2 with h2 | h2
  ·omega
  ·exact h2
theorem wpAnyU_first {n i : Nat} {oi : Oper} {v : Value} (hi : ops[i]? = some oi) (hsel : ∀ (j : Nat) (o : Oper) cs b, ops[j]? = some o → o.op ≠ .select cs b)
  (hQ : ∀ c a w, Q (.panic c) (a.put oi.dst v) w → Q (.panic c) a w) (hin : i < n) (hno : ∀ listed, HeadInv md ops n listed → listed.getD i true = false → ∀ t, n ≤ t → t < ops.size → t ∉ Region.ready md ops listed) :
  ∀ (fuel : Nat) (listed : Array Bool) (a : Act), HeadInv md ops n listed →
   (∀ j oj, ops[j]? = some oj → j ≠ i → listed.getD j true = false → (∀ e ∈ oj.after, Region.binds md e = true → e.on ≠ i) → oi.apart ops oj = true) →
   i ∈ Region.ready md ops listed → Steady P ops S oi v a →
   wpAnyU P md ops Q S n fuel (listed.setIfInBounds i true) (a.put oi.dst v) → wpAnyU P md ops Q S n (fuel + 1) listed a := by
 intro fuel
 induction fuel with
 | zero =>
  intro listed a _ _ hr hy H
  refine ⟨fun h => (by rw [h] at hr; cases hr), fun j hj w hS => ?_⟩
  by_cases hji : j = i
  ·subst hji
   rw [show (fun a' w' => if n ≤ j then wpAny P md ops Q 0 (listed.setIfInBounds j true) a' w' else S w' ∧ wpAnyU P md ops Q S n 0 (listed.setIfInBounds j true) a') = (fun a' w' => S w' ∧ wpAnyU P md ops Q S n 0 (listed.setIfInBounds j true) a') from by
    funext a' w'; rw [if_neg (by omega)]]
   exact hy.wpOp hi hS (fun w' hS' => ⟨hS', H⟩)
  ·have := ready_mono hj hji
   rw [H.1] at this
   cases this
 | succ fuel ih =>
  intro listed a inv hfree hr hy H
  have hun := (mem_ready.1 hr).1
  refine ⟨fun h => (by rw [h] at hr; cases hr), fun j hj w hS => ?_⟩
  by_cases hji : j = i
  ·subst hji
   rw [show (fun a' w' => if n ≤ j then wpAny P md ops Q (fuel + 1) (listed.setIfInBounds j true) a' w' else S w' ∧ wpAnyU P md ops Q S n (fuel + 1) (listed.setIfInBounds j true) a') = (fun a' w' => S w' ∧ wpAnyU P md ops Q S n (fuel + 1) (listed.setIfInBounds j true) a') from by
    funext a' w'; rw [if_neg (by omega)]]
   exact hy.wpOp hi hS (fun w' hS' => ⟨hS', H⟩)
  ·obtain ⟨hjun, oj, hoj, hall⟩ := mem_ready.1 hj
   have hjm : j < ops.size := (Array.getElem?_eq_some_iff.1 hoj).1
   have hjn : j < n := by
    rcases Nat.lt_or_ge j n with h | h
    ·exact h
    ·exact absurd hj (hno listed inv hun j h hjm)
   have h1 := H.2 j (ready_mono hj hji) w hS
   rw [show (fun a' w' => if n ≤ j then wpAny P md ops Q fuel ((listed.setIfInBounds i true).setIfInBounds j true) a' w' else S w' ∧ wpAnyU P md ops Q S n fuel ((listed.setIfInBounds i true).setIfInBounds j true) a') = (fun a' w' => S w' ∧ wpAnyU P md ops Q S n fuel ((listed.setIfInBounds i true).setIfInBounds j true) a') from by
    funext a' w'; rw [if_neg (by omega)]] at h1
   have hnot : ∀ e ∈ oj.after, Region.binds md e = true → e.on ≠ i := fun e he hb heq => by
    have h1 := hall e he hb
    rw [heq, getD_both hun] at h1
    cases h1
   have h2 := wpOp_putU hoj (hfree j oj hoj hji hjun hnot) (fun cs b => hsel i oi cs b hi) (fun cs b => hsel j oj cs b hoj) hQ hy h1
   have hfree' : ∀ k ok, ops[k]? = some ok → k ≠ i → (listed.setIfInBounds j true).getD k true = false →
     (∀ e ∈ ok.after, Region.binds md e = true → e.on ≠ i) → oi.apart ops ok = true := fun k ok hk hki hun' hno' => by
    refine hfree k ok hk hki ?_ hno'
    by_cases hjk : j = k
    ·subst hjk; exact hjun
    ·rw [getD_set_ne true hjk] at hun'; exact hun'
   refine wpOp_mono (fun a' w' h3 => ?_) h2
   rw [if_neg (by omega)]
   refine ⟨h3.2.1, ih (listed.setIfInBounds j true) a' (inv.set hj hjn) hfree' (ready_mono hr (Ne.symm hji)) h3.1 ?_⟩
   rw [Array.setIfInBounds_comm _ _ hji]
   exact h3.2.2
theorem wpAnyU_take {n i : Nat} {oi : Oper} {v : Value} {fuel : Nat} {listed : Array Bool} {a : Act} (hi : ops[i]? = some oi)
  (hs : Region.noSelect ops = true) (hf : Region.free md ops listed i = true) (hr : (Region.ready md ops listed).contains i = true) (hu : uOk md ops n listed i = true)
  (hQ : ∀ c a w, Q (.panic c) (a.put oi.dst v) w → Q (.panic c) a w) (hy : Steady P ops S oi v a)
  (h : wpAnyU P md ops Q S n fuel (listed.setIfInBounds i true) (a.put oi.dst v)) : wpAnyU P md ops Q S n (fuel + 1) listed a := by
 simp only [uOk, Bool.and_eq_true, Bool.or_eq_true, decide_eq_true_eq] at hu
 obtain ⟨⟨hin, hh⟩, hall⟩ := hu
 refine wpAnyU_first hi (Region.noSelect_spec hs) hQ hin (fun listed' inv hun t ht htm => ?_) fuel listed a (headB_spec hh) (Region.free_spec hi hf) (by simpa using hr) hy h
 rcases hall with h0 | ⟨⟨h1, h2⟩, h3⟩
 ·omega
 ·exact tail_waits h2 h3 h1 inv _ i rfl hin hun t ht
theorem wpAnyU_tail {n f : Nat} {l : List Oper} {listed : Array Bool} {a : Act} (hl : l.length = f + 1) (hops : ops.toList.drop n = l) (hB : Region.seqB md ops (f + 1) n listed = true)
  (h : ∀ w, S w → wpList P ops Q l a w) : wpAnyU P md ops Q S n (f + 1) listed a := by
 have hget : ∀ j, l[j]? = ops[n + j]? := fun j => by rw [← hops]; simp
 have hn : ∀ i ∈ Region.ready md ops listed, n ≤ i := seqB_ready hB
 have hne : Region.ready md ops listed ≠ [] := by
  simp only [Region.seqB, Bool.and_eq_true, decide_eq_true_eq] at hB
  rw [hB.1]; simp
 refine ⟨fun h0 => absurd h0 hne, fun i hi w hS => ?_⟩
 have h1 := wpAny_of_seq (md := md) l n listed a w hget (by rw [hl]; exact hB) (h w hS)
 rw [hl] at h1
 refine wpOp_mono (fun a' w' h2 => ?_) (h1.2 i hi)
 rw [if_pos (hn i hi)]
 exact h2
theorem wpAnyU_rest {n f : Nat} {l : List Oper} {listed : Array Bool} {a : Act} (hops : ops.toList.drop n = l) (hl : l.length = f + 1) (hB : Region.seqB md ops (f + 1) n listed = true)
  (h : ∀ w, S w → wpList P ops Q l a w) : wpAnyU P md ops Q S n (f + 1) listed a := wpAnyU_tail hl hops hB h
theorem wpAnyU_last {n : Nat} {o : Oper} {listed : Array Bool} {a : Act} (ho : ops[n]? = some o) (hsz : ops.size = n + 1) (hB : Region.seqB md ops 1 n listed = true)
  (h : ∀ w, S w → wpList P ops Q [o] a w) : wpAnyU P md ops Q S n 1 listed a :=
 wpAnyU_tail (l := [o]) rfl (by
  have hl : ops.toList.length = n + 1 := hsz
  have hn : n < ops.toList.length := by omega
  rw [List.drop_eq_getElem_cons hn, List.drop_of_length_le (by omega)]
  have : ops[n]? = some ops.toList[n] := by simp [hsz]
  rw [this] at ho
  injection ho with ho
  rw [ho]) hB h
theorem wp_region_steady {id : Nat} (n : Nat) {a : Act} {w : World} (hm : P.follows .mixedOrders = true) (hS : S w.drew)
  (h : wpAnyU P .any ops Q S n ops.size (Array.replicate ops.size false) a) : (Code.region id ops true).wp P Q a w :=
 wp_region_any hm (wpAny_of_U _ _ _ _ hS h)
theorem SteadyRun.of_calls {v : Value} {f : FuncId} {args : Array Value} {w : World} {r : Result Next} {R : Ending → World → Prop} (hc : Calls P f args w R) (hr : r = .ok (.enter f args) w) (h : ∀ e w', R e w' → e = .returned v ∧ S w') : SteadyRun P S v r := by
 rw [hr]
 exact Calls.mono hc h
end
theorem tU {P : Program} {md : Region.Mode} {ops : Array Oper} {Q : Exit → Act → World → Prop} {S : World → Prop} {n : Nat} (i : Nat) {oi : Oper} {v : Value} {fuel : Nat} {listed : Array Bool} {a : Act} (hi : ops[i]? = some oi)
  (hk : (Region.noSelect ops && Region.free md ops listed i && (Region.ready md ops listed).contains i && uOk md ops n listed i) = true)
  (hQ : ∀ c a w, Q (.panic c) (a.put oi.dst v) w → Q (.panic c) a w) (hw : Region.wanted oi (yielded ops a.tmps) = true) (hy : ∀ w, S w → (execOp a.eval oi).run P w = .ok (.value v) w)
  (h : wpAnyU P md ops Q S n fuel (listed.setIfInBounds i true) (a.put oi.dst v)) : wpAnyU P md ops Q S n (fuel + 1) listed a := by
 simp only [Bool.and_eq_true] at hk
 exact wpAnyU_take hi hk.1.1.1 hk.1.1.2 hk.1.2 hk.2 hQ (Steady.of_yields (Or.inl ⟨hw, hy⟩)) h
theorem tV {P : Program} {md : Region.Mode} {ops : Array Oper} {Q : Exit → Act → World → Prop} {S : World → Prop} {n : Nat} (i : Nat) {oi : Oper} {v : Value} {fuel : Nat} {listed : Array Bool} {a : Act} (h : wpAnyU P md ops Q S n fuel (listed.setIfInBounds i true) (a.put oi.dst v)) (hi : ops[i]? = some oi := by rfl)
  (hk : (Region.noSelect ops && Region.free md ops listed i && (Region.ready md ops listed).contains i && uOk md ops n listed i) = true := by kernel_rfl)
  (hw : Region.wanted oi (yielded ops a.tmps) = true := by rfl) (hy : ∀ w, S w → (execOp a.eval oi).run P w = .ok (.value v) w := by intro wq hSw; go_simp; try with_reducible rfl)
  (hQ : ∀ c a w, Q (.panic c) (a.put oi.dst v) w → Q (.panic c) a w := by exact fun _ _ _ h => h) : wpAnyU P md ops Q S n (fuel + 1) listed a := tU i hi hk hQ hw hy h
end


section
open Go Go.RowKit
section
variable {P : Program} {ops : Array Oper} {Q : Exit → Act → World → Prop} {md : Region.Mode} {S S0 : World → Prop}
def Stays (S : World → Prop) : Prop := ∀ w w', S w → Below w.heap.size w w' → S w'
theorem Stays.and_ {S T : World → Prop} (hS : Stays S) (hT : Stays T) : Stays (fun w => S w ∧ T w) := fun _ _ h hb => ⟨hS _ _ h.1 hb, hT _ _ h.2 hb⟩
def RunB (P : Program) (w : World) (v : Value) : Result Next → Prop
 | .ok (.value u) w' => u = v ∧ Below w.heap.size w w'
 | .ok .skip w' => v = undef ∧ Below w.heap.size w w'
 | .ok (.enter f args) w' => Calls P f args w' fun e w'' => e = .returned v ∧ Below w.heap.size w w''
 | .ok (.row row args) w' => Rows P row args w' fun u w'' => u = v ∧ Below w.heap.size w w''
 | _ => False
def SteadyB (P : Program) (ops : Array Oper) (S : World → Prop) (o : Oper) (v : Value) (a : Act) : Prop :=
 (Region.wanted o (yielded ops a.tmps) = true ∧ ∀ w, S w → RunB P w v ((execOp a.eval o).run P w)) ∨
 (Region.wanted o (yielded ops a.tmps) = false ∧ v = undef)
theorem SteadyB.of_yields {o : Oper} {v : Value} {a : Act} (h : YieldsIf P ops S o v a) : SteadyB P ops S o v a :=
 h.imp (fun ⟨hw, hv⟩ => ⟨hw, fun w hS => by rw [hv w hS]; exact ⟨rfl, Below.refl _ _⟩⟩) id
theorem RunB.wp {o : Oper} {v : Value} {a : Act} {w : World} {K : Act → World → Prop} (h : RunB P w v ((execOp a.eval o).run P w)) (hK : ∀ w', Below w.heap.size w w' → K (a.put o.dst v) w') : o.wp P a w K Q := by
 unfold Oper.wp
 generalize (execOp a.eval o).run P w = r at *
 cases r with
 | ok n w' =>
  cases n <;> simp only [RunB, Oper.upon] at h ⊢
  case value u => rw [h.1]; exact hK _ h.2
  case skip => have := hK _ h.2; rw [h.1] at this; exact this
  case enter f args =>
   refine Calls.mono h fun e w'' he => ?_
   obtain ⟨rfl, hs⟩ := he
   exact hK _ hs
  case row row args => exact Rows.mono h fun u w'' he => by rw [he.1]; exact hK _ he.2
 | halt x w' => exact h.elim
theorem SteadyB.wpOp {i : Nat} {o : Oper} {v : Value} {a : Act} (hi : ops[i]? = some o) (hy : SteadyB P ops S o v a)
  {K : Act → World → Prop} {w : World} (hS : S w) (h : ∀ w', Below w.heap.size w w' → K (a.put o.dst v) w') : wpOp P ops Q i K a w := by
 unfold Go.wpOp
 simp only [hi]
 rcases hy with ⟨hw, hv⟩ | ⟨hw, rfl⟩
 ·simp only [hw, if_true]; exact .inl ((hv w hS).wp h)
 ·simp only [hw, Bool.false_eq_true, if_false]; exact h w (Below.refl _ _)
theorem SteadyB.of_same {o : Oper} {v : Value} {a a' : Act} (hy : SteadyB P ops S o v a) (he : execOp a'.eval o = execOp a.eval o)
  (hw : Region.wanted o (yielded ops a'.tmps) = Region.wanted o (yielded ops a.tmps)) : SteadyB P ops S o v a' := by
 unfold SteadyB at *
 rw [he, hw]
 exact hy
theorem wpOp_putE {j : Nat} {oi oj : Oper} {v : Value} (hj : ops[j]? = some oj) (hap : oi.apart ops oj = true)
  (hsi : ∀ cs b, oi.op ≠ .select cs b) (hsj : ∀ cs b, oj.op ≠ .select cs b)
  (hQ : ∀ c a w, Q (.panic c) (a.put oi.dst v) w → Q (.panic c) a w) {K : Act → World → Prop} {a : Act} {w : World}
  (hy : SteadyB P ops S oi v a) (h : wpOp P ops Q j K (a.put oi.dst v) w) :
  wpOp P ops Q j (fun a' w' => SteadyB P ops S oi v a' ∧ K (a'.put oi.dst v) w') a w := by
 obtain ⟨h1, h2, h3⟩ := Oper.apart_spec hap
 have keep : ∀ (a : Act), SteadyB P ops S oi v a → ∀ u, SteadyB P ops S oi v (a.put oj.dst u) := fun a hy u =>
  hy.of_same (execOp_put oi hsi a oj.dst u h3) (wanted_put oi a oj.dst u h3)
 have keepD : ∀ d, SteadyB P ops S oi v { a with defers := d :: a.defers } := fun d => hy.of_same rfl rfl
 unfold wpOp at *
 simp only [hj] at *
 rw [wanted_put oj a oi.dst v h1] at h
 split
 ·rename_i hw
  simp only [hw, if_true] at h
  rcases h with h | ⟨hasks, hlets⟩
  case inr => exact .inr ⟨by unfold Oper.asks at *; rw [execOp_put oj hsj a oi.dst v h1] at hasks; exact hasks, hlets⟩
  refine .inl ?_
  unfold Oper.wp at *
  rw [execOp_put oj hsj a oi.dst v h1] at h
  generalize (execOp a.eval oj).run P w = r at *
  cases r with
  | ok n w' =>
   cases n <;> simp only [Oper.upon] at h ⊢
   case value u => exact ⟨keep a hy u, by rw [← Act.put_comm a v u h2]; exact h⟩
   case skip => exact ⟨keep a hy _, by rw [← Act.put_comm a v undef h2]; exact h⟩
   case defer d =>
    refine ⟨keep _ (keepD d) _, ?_⟩
    rw [← Act.put_comm _ v undef h2, ← Act.put_defers]
    exact h
   case enter f args =>
    refine Calls.mono h fun e w'' he => ?_
    cases e with
    | returned u => exact ⟨keep a hy u, by rw [← Act.put_comm a v u h2]; exact he⟩
    | panicked c => exact hQ _ _ _ he
    | outgrown => exact he
   case row row args => exact Rows.mono h fun u w'' he => ⟨keep a hy u, by rw [← Act.put_comm a v u h2]; exact he⟩
  | halt x w' =>
   cases x <;> simp only [Oper.upon] at h ⊢
   case panic u => exact hQ _ _ _ h
 ·rename_i hw
  simp only [hw] at h
  exact ⟨keep a hy _, by rw [← Act.put_comm a v undef h2]; exact h⟩
def wpAnyE (P : Program) (md : Region.Mode) (ops : Array Oper) (Q : Exit → Act → World → Prop) (S0 : World → Prop) (n : Nat) : Nat → (World → Prop) → Array Bool → Act → Prop
 | 0, S, listed, a => Region.ready md ops listed = [] ∧ ∀ w, S w → Q .normal a w
 | fuel + 1, S, listed, a =>
  (Region.ready md ops listed = [] → ∀ w, S w → Q .normal a w) ∧
  ∀ i ∈ Region.ready md ops listed, ∀ w, S w → wpOp P ops Q i (fun a' w' => if n ≤ i then wpAny P md ops Q fuel (listed.setIfInBounds i true) a' w' else
   ∃ S' : World → Prop, (∀ w, S' w → S0 w) ∧ Stays S' ∧ S' w' ∧ wpAnyE P md ops Q S0 n fuel S' (listed.setIfInBounds i true) a') a w
theorem wpAny_of_E {n : Nat} : ∀ (fuel : Nat) (S : World → Prop) (listed : Array Bool) (a : Act) (w : World), S w → wpAnyE P md ops Q S0 n fuel S listed a → wpAny P md ops Q fuel listed a w
 | 0, _, _, _, w, hS, h => ⟨h.1, h.2 w hS⟩
 | fuel + 1, _, _, _, w, hS, h => ⟨fun hr => h.1 hr w hS, fun i hi => wpOp_mono (fun a' w' h' => by
   split at h'
   ·exact h'
   ·obtain ⟨S', _, _, hS', h2⟩ := h'
    exact wpAny_of_E fuel S' _ a' w' hS' h2) (h.2 i hi w hS)⟩
theorem wpAnyE_first {n i : Nat} {oi : Oper} {v : Value} (hi : ops[i]? = some oi) (hsel : ∀ (j : Nat) (o : Oper) cs b, ops[j]? = some o → o.op ≠ .select cs b)
  (hQ : ∀ c a w, Q (.panic c) (a.put oi.dst v) w → Q (.panic c) a w) (hin : i < n) (hno : ∀ listed, HeadInv md ops n listed → listed.getD i true = false → ∀ t, n ≤ t → t < ops.size → t ∉ Region.ready md ops listed) :
  ∀ (fuel : Nat) (S : World → Prop) (listed : Array Bool) (a : Act), Stays S → (∀ w, S w → S0 w) → HeadInv md ops n listed →
   (∀ j oj, ops[j]? = some oj → j ≠ i → listed.getD j true = false → (∀ e ∈ oj.after, Region.binds md e = true → e.on ≠ i) → oi.apart ops oj = true) →
   i ∈ Region.ready md ops listed → SteadyB P ops S0 oi v a →
   wpAnyE P md ops Q S0 n fuel S (listed.setIfInBounds i true) (a.put oi.dst v) → wpAnyE P md ops Q S0 n (fuel + 1) S listed a := by
 intro fuel
 induction fuel with
 | zero =>
  intro S listed a hst hs0 _ _ hr hy H
  refine ⟨fun h => (by rw [h] at hr; cases hr), fun j hj w hS => ?_⟩
  by_cases hji : j = i
  ·subst hji
   refine hy.wpOp hi (hs0 _ hS) (fun w' hb => ?_)
   rw [if_neg (by omega)]
   exact ⟨S, hs0, hst, hst _ _ hS hb, H⟩
  ·have := ready_mono hj hji
   rw [H.1] at this
   cases this
 | succ fuel ih =>
  intro S listed a hst hs0 inv hfree hr hy H
  have hun := (mem_ready.1 hr).1
  refine ⟨fun h => (by rw [h] at hr; cases hr), fun j hj w hS => ?_⟩
  by_cases hji : j = i
  ·subst hji
   refine hy.wpOp hi (hs0 _ hS) (fun w' hb => ?_)
   rw [if_neg (by omega)]
   exact ⟨S, hs0, hst, hst _ _ hS hb, H⟩
  ·obtain ⟨hjun, oj, hoj, hall⟩ := mem_ready.1 hj
   have hjm : j < ops.size := (Array.getElem?_eq_some_iff.1 hoj).1
   have hjn : j < n := by
    rcases Nat.lt_or_ge j n with h | h
    ·exact h
    ·exact absurd hj (hno listed inv hun j h hjm)
   have h1 := H.2 j (ready_mono hj hji) w hS
   have hnot : ∀ e ∈ oj.after, Region.binds md e = true → e.on ≠ i := fun e he hb heq => by
    have h1 := hall e he hb
    rw [heq, getD_both hun] at h1
    cases h1
   have h2 := wpOp_putE hoj (hfree j oj hoj hji hjun hnot) (fun cs b => hsel i oi cs b hi) (fun cs b => hsel j oj cs b hoj) hQ hy h1
   have hfree' : ∀ k ok, ops[k]? = some ok → k ≠ i → (listed.setIfInBounds j true).getD k true = false →
     (∀ e ∈ ok.after, Region.binds md e = true → e.on ≠ i) → oi.apart ops ok = true := fun k ok hk hki hun' hno' => by
    refine hfree k ok hk hki ?_ hno'
    by_cases hjk : j = k
    ·subst hjk; exact hjun
    ·rw [getD_set_ne true hjk] at hun'; exact hun'
   refine wpOp_mono (fun a' w' h3 => ?_) h2
   obtain ⟨hya, h4⟩ := h3
   rw [if_neg (by omega)] at h4 ⊢
   obtain ⟨S', hsub, hst', hS', h5⟩ := h4
   refine ⟨S', hsub, hst', hS', ih S' (listed.setIfInBounds j true) a' hst' hsub (inv.set hj hjn) hfree' (ready_mono hr (Ne.symm hji)) hya ?_⟩
   rw [Array.setIfInBounds_comm _ _ hji]
   exact h5
theorem wpAnyE_take {n i : Nat} {oi : Oper} {v : Value} {fuel : Nat} {listed : Array Bool} {a : Act} (hst : Stays S) (hs0 : ∀ w, S w → S0 w) (hi : ops[i]? = some oi)
  (hs : Region.noSelect ops = true) (hf : Region.free md ops listed i = true) (hr : (Region.ready md ops listed).contains i = true) (hu : uOk md ops n listed i = true)
  (hQ : ∀ c a w, Q (.panic c) (a.put oi.dst v) w → Q (.panic c) a w) (hy : SteadyB P ops S0 oi v a)
  (h : wpAnyE P md ops Q S0 n fuel S (listed.setIfInBounds i true) (a.put oi.dst v)) : wpAnyE P md ops Q S0 n (fuel + 1) S listed a := by
 simp only [uOk, Bool.and_eq_true, Bool.or_eq_true, decide_eq_true_eq] at hu
 obtain ⟨⟨hin, hh⟩, hall⟩ := hu
 refine wpAnyE_first hi (Region.noSelect_spec hs) hQ hin (fun listed' inv hun t ht htm => ?_) fuel S listed a hst hs0 (headB_spec hh) (Region.free_spec hi hf) (by simpa using hr) hy h
 rcases hall with h0 | ⟨⟨h1, h2⟩, h3⟩
 ·omega
 ·exact tail_waits h2 h3 h1 inv _ i rfl hin hun t ht
theorem wpAnyE_one {n i : Nat} {oi : Oper} {fuel : Nat} {listed : Array Bool} {a : Act} (hi : ops[i]? = some oi) (hr : Region.ready md ops listed = [i]) (hin : i < n) (hw : Region.wanted oi (yielded ops a.tmps) = true)
  (h : ∀ w, S w → ∀ K : Act → World → Prop, Shut (∀ a w (S' : World → Prop), (∀ w, S' w → S0 w) → Stays S' → S' w → wpAnyE P md ops Q S0 n fuel S' (listed.setIfInBounds i true) a → K a w) → oi.wp P a w K Q) : wpAnyE P md ops Q S0 n (fuel + 1) S listed a :=
 ⟨fun h0 => (by rw [hr] at h0; cases h0), fun j hj w hS => by
  rw [hr] at hj
  obtain rfl : j = i := by simpa using hj
  unfold wpOp
  simp only [hi, hw, if_true]
  exact .inl (h w hS _ (fun a' w' S' h1 h2 h3 h4 => by rw [if_neg (by omega)]; exact ⟨S', h1, h2, h3, h4⟩))⟩
theorem wpAnyE_done {n : Nat} {listed : Array Bool} {a : Act} (hr : Region.ready md ops listed = []) (h : ∀ w, S w → Q .normal a w) :
  ∀ fuel, wpAnyE P md ops Q S0 n fuel S listed a
 | 0 => ⟨hr, h⟩
 | _ + 1 => ⟨fun _ => h, by rw [hr]; simp⟩
theorem wpAnyE_rest {n f : Nat} {l : List Oper} {listed : Array Bool} {a : Act} (hops : ops.toList.drop n = l) (hl : l.length = f + 1) (hB : Region.seqB md ops (f + 1) n listed = true)
  (h : ∀ w, S w → wpList P ops Q l a w) : wpAnyE P md ops Q S0 n (f + 1) S listed a := by
 have hget : ∀ j, l[j]? = ops[n + j]? := fun j => by rw [← hops]; simp
 have hn : ∀ i ∈ Region.ready md ops listed, n ≤ i := seqB_ready hB
 have hne : Region.ready md ops listed ≠ [] := by
  simp only [Region.seqB, Bool.and_eq_true, decide_eq_true_eq] at hB
  rw [hB.1]; simp
 refine ⟨fun h0 => absurd h0 hne, fun i hi w hS => ?_⟩
 have h1 := wpAny_of_seq (md := md) l n listed a w hget (by rw [hl]; exact hB) (h w hS)
 rw [hl] at h1
 refine wpOp_mono (fun a' w' h2 => ?_) (h1.2 i hi)
 rw [if_pos (hn i hi)]
 exact h2
theorem wp_region_grow {id : Nat} (n : Nat) {a : Act} {w : World} (hm : P.follows .mixedOrders = true) (hS : S w.drew)
  (h : wpAnyE P .any ops Q S n ops.size S (Array.replicate ops.size false) a) : (Code.region id ops true).wp P Q a w :=
 wp_region_any hm (wpAny_of_E _ _ _ _ _ hS h)
theorem RunB.of_calls {v : Value} {f : FuncId} {args : Array Value} {w : World} {r : Result Next} {R : Ending → World → Prop} (hc : Calls P f args w R) (hr : r = .ok (.enter f args) w) (h : ∀ e w', R e w' → e = .returned v ∧ Below w.heap.size w w') : RunB P w v r := by
 rw [hr]
 exact Calls.mono hc h
end
theorem tE {P : Program} {md : Region.Mode} {ops : Array Oper} {Q : Exit → Act → World → Prop} {S0 S : World → Prop} {n : Nat} (i : Nat) {oi : Oper} {v : Value} {fuel : Nat} {listed : Array Bool} {a : Act} (hst : Stays S) (hs0 : ∀ w, S w → S0 w) (hi : ops[i]? = some oi)
  (hk : (Region.noSelect ops && Region.free md ops listed i && (Region.ready md ops listed).contains i && uOk md ops n listed i) = true)
  (hw : Region.wanted oi (yielded ops a.tmps) = true) (hy : ∀ w, S0 w → (execOp a.eval oi).run P w = .ok (.value v) w)
  (h : wpAnyE P md ops Q S0 n fuel S (listed.setIfInBounds i true) (a.put oi.dst v)) (hQ : ∀ c a w, Q (.panic c) (a.put oi.dst v) w → Q (.panic c) a w := by exact fun _ _ _ h => h) : wpAnyE P md ops Q S0 n (fuel + 1) S listed a := by
 simp only [Bool.and_eq_true] at hk
 exact wpAnyE_take hst hs0 hi hk.1.1.1 hk.1.1.2 hk.1.2 hk.2 hQ (SteadyB.of_yields (Or.inl ⟨hw, hy⟩)) h
theorem tF {P : Program} {md : Region.Mode} {ops : Array Oper} {Q : Exit → Act → World → Prop} {S0 S : World → Prop} {n : Nat} (i : Nat) {oi : Oper} {v : Value} {fuel : Nat} {listed : Array Bool} {a : Act} (hst : Stays S) (hs0 : ∀ w, S w → S0 w) (h : wpAnyE P md ops Q S0 n fuel S (listed.setIfInBounds i true) (a.put oi.dst v)) (hi : ops[i]? = some oi := by rfl)
  (hk : (Region.noSelect ops && Region.free md ops listed i && (Region.ready md ops listed).contains i && uOk md ops n listed i) = true := by kernel_rfl)
  (hw : Region.wanted oi (yielded ops a.tmps) = true := by rfl) (hy : ∀ w, S0 w → (execOp a.eval oi).run P w = .ok (.value v) w := by intro wq hSw; go_simp; try with_reducible rfl)
  (hQ : ∀ c a w, Q (.panic c) (a.put oi.dst v) w → Q (.panic c) a w := by exact fun _ _ _ h => h) : wpAnyE P md ops Q S0 n (fuel + 1) S listed a := tE i hst hs0 hi hk hw hy h hQ
theorem tG {P : Program} {md : Region.Mode} {ops : Array Oper} {Q : Exit → Act → World → Prop} {S0 S D : World → Prop} {n : Nat} (i : Nat) {oi : Oper} {v : Value} {fuel : Nat} {listed : Array Bool} {a : Act} (hst : Stays S) (hs0 : ∀ w, S w → S0 w) (hd : ∀ w, S0 w → D w) (h : wpAnyE P md ops Q S0 n fuel S (listed.setIfInBounds i true) (a.put oi.dst v)) (hi : ops[i]? = some oi := by rfl)
  (hk : (Region.noSelect ops && Region.free md ops listed i && (Region.ready md ops listed).contains i && uOk md ops n listed i) = true := by kernel_rfl)
  (hw : Region.wanted oi (yielded ops a.tmps) = true := by rfl) (hy : ∀ w, D w → (execOp a.eval oi).run P w = .ok (.value v) w := by intro wq hSw; go_simp; try with_reducible rfl)
  (hQ : ∀ c a w, Q (.panic c) (a.put oi.dst v) w → Q (.panic c) a w := by exact fun _ _ _ h => h) : wpAnyE P md ops Q S0 n (fuel + 1) S listed a := tE i hst hs0 hi hk hw (fun w hw => hy w (hd w hw)) h hQ
theorem tC {P : Program} {md : Region.Mode} {ops : Array Oper} {Q : Exit → Act → World → Prop} {S0 S : World → Prop} {n : Nat} (i : Nat) {oi : Oper} {v : Value} {fuel : Nat} {listed : Array Bool} {a : Act} {f : FuncId} {args : Array Value} (hst : Stays S) (hs0 : ∀ w, S w → S0 w) (hc : ∀ w, S0 w → Calls P f args w fun e w' => e = .returned v ∧ Below w.heap.size w w') (h : wpAnyE P md ops Q S0 n fuel S (listed.setIfInBounds i true) (a.put oi.dst v)) (hi : ops[i]? = some oi := by rfl)
  (hk : (Region.noSelect ops && Region.free md ops listed i && (Region.ready md ops listed).contains i && uOk md ops n listed i) = true := by kernel_rfl)
  (hw : Region.wanted oi (yielded ops a.tmps) = true := by rfl) (hr : ∀ w, (execOp a.eval oi).run P w = .ok (.enter f args) w := by intro w; go_simp)
  (hQ : ∀ c a w, Q (.panic c) (a.put oi.dst v) w → Q (.panic c) a w := by exact fun _ _ _ h => h) : wpAnyE P md ops Q S0 n (fuel + 1) S listed a := by
 simp only [Bool.and_eq_true] at hk
 exact wpAnyE_take hst hs0 hi hk.1.1.1 hk.1.1.2 hk.1.2 hk.2 hQ (Or.inl ⟨hw, fun w hS => RunB.of_calls (hc w hS) (hr w) (fun _ _ h => h)⟩) h
end

end Go.Proofs.YtbcepkfdlaioaaaGreat

/- Texts of CoreRefuses's proof, together. -/
import Derived.Test.YtnmbfjgcmfjdcaaGreatDoorCs
import Derived.Deep.MidRow
import Derived.OrdersHeld
import Derived.Deep.RegionHeld
import Derived.StillTail
namespace Go.Proofs.YtnmbfjgcmfjdcaaGreatDoor

section
open Go
section
variable {P:Program} {ops:Array Oper} {Q:Exit→Act→World→Prop} {md:Region.Mode} {S:World→Prop}
def jk (P:Program) (S:World→Prop) (v:Value):Result Next→Prop
 | .ok (.value u) w'=>u=v∧S w'
 | .ok .skip w'=>v=undef∧S w'
 | .ok (.enter f args) w'=>Calls P f args w' fun e w''=>e= .returned v∧S w''
 | .ok (.row row args) w'=>Rows P row args w' fun u w''=>u=v∧S w''
 |_=>False
def jy (P:Program) (ops:Array Oper) (S:World→Prop) (o:Oper) (v:Value) (a:Act):Prop:=
 (Region.wanted o (yielded ops a.tmps)=true∧∀w,S w→jk P S v ((execOp a.eval o).run P w))∨
 (Region.wanted o (yielded ops a.tmps)=false∧v=undef)
theorem jy.bF {o:Oper} {v:Value} {a:Act} (h:YieldsIf P ops S o v a):jy P ops S o v a:=
 h.imp (fun⟨hw,hv⟩=>⟨hw,fun w hS=>by rw[hv w hS];exact⟨rfl,hS⟩⟩) id
theorem jk.wp {o:Oper} {v:Value} {a:Act} {w:World} {K:Act→World→Prop} (h:jk P S v ((execOp a.eval o).run P w)) (hK:∀w',S w'→K (a.put o.dst v) w'):o.wp P a w K Q:=by
 unfold Oper.wp;generalize (execOp a.eval o).run P w=r at *;cases r with
 |ok n w'=>
  cases n<;>simp only[jk,Oper.upon] at h⊢
  case value u=>rw[h.1];exact hK _ h.2
  case skip=>have:=hK _ h.2;rw[h.1] at this;exact this
  case enter f args=>
   refine Calls.mono h fun e w'' he=> ?_;obtain⟨rfl,hs⟩:=he;exact hK _ hs
  case row row args=>exact Rows.mono h fun u w'' he=>by rw[he.1];exact hK _ he.2
 |halt x w'=>exact h.elim
theorem jy.wpOp {i:Nat} {o:Oper} {v:Value} {a:Act} (hi:ops[i]?=some o) (hy:jy P ops S o v a)
  {K:Act→World→Prop} {w:World} (hS:S w) (h:∀w',S w'→K (a.put o.dst v) w'):wpOp P ops Q i K a w:=by
 unfold Go.wpOp;simp only[hi];rcases hy with⟨hw,hv⟩|⟨hw,rfl⟩
 ·simp only[hw,if_true];exact .inl ((hv w hS).wp h)
 ·simp only[hw,Bool.false_eq_true,if_false];exact h w hS
theorem jy.of_same {o:Oper} {v:Value} {a a':Act} (hy:jy P ops S o v a) (he:execOp a'.eval o=execOp a.eval o)
  (hw:Region.wanted o (yielded ops a'.tmps)=Region.wanted o (yielded ops a.tmps)):jy P ops S o v a':=by
 unfold jy at *;rw[he,hw];exact hy
theorem Np {j:Nat} {oi oj:Oper} {v:Value} (hj:ops[j]?=some oj) (hap:oi.apart ops oj=true)
  (hsi:∀cs b,oi.op≠ .select cs b) (hsj:∀cs b,oj.op≠ .select cs b)
  (hQ:∀c a w,Q (.panic c) (a.put oi.dst v) w→Q (.panic c) a w) {K:Act→World→Prop} {a:Act} {w:World}
  (hy:jy P ops S oi v a) (h:wpOp P ops Q j K (a.put oi.dst v) w):
  wpOp P ops Q j (fun a' w'=>jy P ops S oi v a'∧K (a'.put oi.dst v) w') a w:=by
 obtain⟨h1,h2,h3⟩:=Oper.apart_spec hap
 have keep:∀(a:Act),jy P ops S oi v a→∀u,jy P ops S oi v (a.put oj.dst u):=fun a hy u=>
  hy.of_same (execOp_put oi hsi a oj.dst u h3) (wanted_put oi a oj.dst u h3)
 have keepD:∀d,jy P ops S oi v {a with defers:=d::a.defers}:=fun d=>hy.of_same rfl rfl;unfold wpOp at *;simp only[hj] at *;rw[wanted_put oj a oi.dst v h1] at h;split
 ·rename_i hw;simp only[hw,if_true] at h;rcases h with h|⟨hasks,hlets⟩
  case inr=>exact .inr ⟨by unfold Oper.asks at *;rw[execOp_put oj hsj a oi.dst v h1] at hasks;exact hasks,hlets⟩
  refine .inl ?_;unfold Oper.wp at *;rw[execOp_put oj hsj a oi.dst v h1] at h;generalize (execOp a.eval oj).run P w=r at *;cases r with
  |ok n w'=>
   cases n<;>simp only[Oper.upon] at h⊢
   case value u=>exact⟨keep a hy u,by rw[←Act.put_comm a v u h2];exact h⟩
   case skip=>exact⟨keep a hy _,by rw[←Act.put_comm a v undef h2];exact h⟩
   case defer d=>
    refine⟨keep _ (keepD d) _,?_⟩;rw[←Act.put_comm _ v undef h2,←Act.put_defers];exact h
   case enter f args=>
    refine Calls.mono h fun e w'' he=> ?_;cases e with
    |returned u=>exact⟨keep a hy u,by rw[←Act.put_comm a v u h2];exact he⟩
    |panicked c=>exact hQ _ _ _ he
    |outgrown=>exact he
   case row row args=>exact Rows.mono h fun u w'' he=>⟨keep a hy u,by rw[←Act.put_comm a v u h2];exact he⟩
  |halt x w'=>
   cases x<;>simp only[Oper.upon] at h⊢
   case panic u=>exact hQ _ _ _ h
 ·rename_i hw;simp only[hw] at h;exact⟨keep a hy _,by rw[←Act.put_comm a v undef h2];exact h⟩
def iH (P:Program) (md:Region.Mode) (ops:Array Oper) (Q:Exit→Act→World→Prop) (S:World→Prop) (n:Nat):Nat→Array Bool→Act→Prop
 |0,listed,a=>Region.ready md ops listed=[]∧∀w,S w→Q .normal a w
 |fuel+1,listed,a=>
  (Region.ready md ops listed=[]→∀w,S w→Q .normal a w)∧
  ∀i∈Region.ready md ops listed,∀w,S w→wpOp P ops Q i (fun a' w'=>if n≤i then wpAny P md ops Q fuel (listed.setIfInBounds i true) a' w' else S w'∧iH P md ops Q S n fuel (listed.setIfInBounds i true) a') a w
theorem BM {n:Nat}:∀(fuel:Nat) (listed:Array Bool) (a:Act) (w:World),S w→iH P md ops Q S n fuel listed a→wpAny P md ops Q fuel listed a w
 |0,_,_,w,hS,h=>⟨h.1,h.2 w hS⟩
 |fuel+1,_,_,w,hS,h=>⟨fun hr=>h.1 hr w hS,fun i hi=>wpOp_mono (fun a' w' h'=>by
   split at h'
   ·exact h'
   ·exact BM fuel _ a' w' h'.1 h'.2) (h.2 i hi w hS)⟩
def MS (md:Region.Mode) (ops:Array Oper) (n:Nat) (listed:Array Bool):Bool:=
 decide (listed.size=ops.size)&&(List.range ops.size).all fun j=>(!listed.getD j false||((ops[j]?).map (·.after.all fun e=> !Region.binds md e||listed.getD e.on false)).getD false)&&(decide (j<n)|| !listed.getD j true)
def BQ (md:Region.Mode) (ops:Array Oper) (n:Nat) (listed:Array Bool) (i:Nat):Bool:=
 decide (i<n)&&MS md ops n listed&&(decide (ops.size≤n)||(decide (n<ops.size)&&Region.sinkB md ops n&&Region.chainB md ops n))
theorem CU {n:Nat} {listed:Array Bool} (h:MS md ops n listed=true):HeadInv md ops n listed:=by
 simp only[MS,Bool.and_eq_true,decide_eq_true_eq] at h;obtain⟨hsz,hall⟩:=h;have key:=fun j (hj:j<ops.size)=>List.all_eq_true.1 hall j (List.mem_range.2 hj);refine⟨hsz,fun j oj hoj hl e he hb=> ?_,fun t ht sF=> ?_⟩
 ·have hj:=(Array.getElem?_eq_some_iff.1 hoj).1;have h1:=key j hj;simp only[Bool.and_eq_true,Bool.or_eq_true,Bool.not_eq_true'] at h1;rcases h1.1 with h2|h2
  ·rw[hl] at h2;cases h2
  ·rw[hoj] at h2;simp only[Option.map_some,Option.getD_some,Array.all_eq_true_iff_forall_mem,Bool.or_eq_true,Bool.not_eq_true'] at h2;rcases h2 e he with h3|h3
   ·rw[hb] at h3;cases h3
   ·exact h3
 ·have h1:=key t sF;simp only[Bool.and_eq_true,Bool.or_eq_true,Bool.not_eq_true',decide_eq_true_eq] at h1;rcases h1.2 with h2|h2
  ·omega
  ·exact h2
theorem GG {n i:Nat} {oi:Oper} {v:Value} (hi:ops[i]?=some oi) (hsel:∀(j:Nat) (o:Oper) cs b,ops[j]?=some o→o.op≠ .select cs b)
  (hQ:∀c a w,Q (.panic c) (a.put oi.dst v) w→Q (.panic c) a w) (hin:i<n) (hno:∀listed,HeadInv md ops n listed→listed.getD i true=false→∀t,n≤t→t<ops.size→t∉Region.ready md ops listed):
  ∀(fuel:Nat) (listed:Array Bool) (a:Act),HeadInv md ops n listed→
   (∀j oj,ops[j]?=some oj→j≠i→listed.getD j true=false→(∀e∈oj.after,Region.binds md e=true→e.on≠i)→oi.apart ops oj=true)→
   i∈Region.ready md ops listed→jy P ops S oi v a→
   iH P md ops Q S n fuel (listed.setIfInBounds i true) (a.put oi.dst v)→iH P md ops Q S n (fuel+1) listed a:=by
 intro fuel;induction fuel with
 |zero=>
  intro listed a _ _ hr hy H;refine⟨fun h=>(by rw[h] at hr;cases hr),fun j hj w hS=> ?_⟩;by_cases hji:j=i
  ·subst hji
   rw[show(fun a' w'=>if n≤j then wpAny P md ops Q 0 (listed.setIfInBounds j true) a' w' else S w'∧iH P md ops Q S n 0 (listed.setIfInBounds j true) a')=(fun a' w'=>S w'∧iH P md ops Q S n 0 (listed.setIfInBounds j true) a') from by
    funext a' w';rw[if_neg af]]
   exact hy.wpOp hi hS (fun w' hS'=>⟨hS',H⟩)
  ·have:=ready_mono hj hji;rw[H.1] at this;cases this
 |succ fuel ih=>
  intro listed a inv hfree hr hy H;have hun:=(mem_ready.1 hr).1;refine⟨fun h=>(by rw[h] at hr;cases hr),fun j hj w hS=> ?_⟩;by_cases hji:j=i
  ·subst hji
   rw[show(fun a' w'=>if n≤j then wpAny P md ops Q (fuel+1) (listed.setIfInBounds j true) a' w' else S w'∧iH P md ops Q S n (fuel+1) (listed.setIfInBounds j true) a')=(fun a' w'=>S w'∧iH P md ops Q S n (fuel+1) (listed.setIfInBounds j true) a') from by
    funext a' w';rw[if_neg af]]
   exact hy.wpOp hi hS (fun w' hS'=>⟨hS',H⟩)
  ·obtain⟨hjun,oj,hoj,hall⟩:=mem_ready.1 hj;have hjm:j<ops.size:=(Array.getElem?_eq_some_iff.1 hoj).1
   have hjn:j<n:=by
    rcases Nat.lt_or_ge j n with h|h
    ·exact h
    ·exact absurd hj (hno listed inv hun j h hjm)
   have h1:=H.2 j (ready_mono hj hji) w hS
   rw[show(fun a' w'=>if n≤j then wpAny P md ops Q fuel ((listed.setIfInBounds i true).setIfInBounds j true) a' w' else S w'∧iH P md ops Q S n fuel ((listed.setIfInBounds i true).setIfInBounds j true) a')=(fun a' w'=>S w'∧iH P md ops Q S n fuel ((listed.setIfInBounds i true).setIfInBounds j true) a') from by
    funext a' w';rw[if_neg af]] at h1
   have hnot:∀e∈oj.after,Region.binds md e=true→e.on≠i:=fun e he hb heq=>by
    have h1:=hall e he hb;rw[heq,getD_both hun] at h1;cases h1
   have h2:=Np hoj (hfree j oj hoj hji hjun hnot) (fun cs b=>hsel i oi cs b hi) (fun cs b=>hsel j oj cs b hoj) hQ hy h1
   have hfree':∀k ok,ops[k]?=some ok→k≠i→(listed.setIfInBounds j true).getD k true=false→
     (∀e∈ok.after,Region.binds md e=true→e.on≠i)→oi.apart ops ok=true:=fun k ok hk hki hun' hno'=>by
    refine hfree k ok hk hki ?_ hno';by_cases hjk:j=k
    ·subst hjk;exact hjun
    ·rw[getD_set_ne true hjk] at hun';exact hun'
   refine wpOp_mono (fun a' w' h3=> ?_) h2;rw[if_neg af];refine⟨h3.2.1,ih (listed.setIfInBounds j true) a' (inv.set hj hjn) hfree' (ready_mono hr (Ne.symm hji)) h3.1 ?_⟩;rw[Array.setIfInBounds_comm _ _ hji];exact h3.2.2
theorem lX {n i:Nat} {oi:Oper} {v:Value} {fuel:Nat} {listed:Array Bool} {a:Act} (hi:ops[i]?=some oi)
  (hs:Region.noSelect ops=true) (hf:Region.free md ops listed i=true) (hr:(Region.ready md ops listed).contains i=true) (hu:BQ md ops n listed i=true)
  (hQ:∀c a w,Q (.panic c) (a.put oi.dst v) w→Q (.panic c) a w) (hy:jy P ops S oi v a)
  (h:iH P md ops Q S n fuel (listed.setIfInBounds i true) (a.put oi.dst v)):iH P md ops Q S n (fuel+1) listed a:=by
 simp only[BQ,Bool.and_eq_true,Bool.or_eq_true,decide_eq_true_eq] at hu;obtain⟨⟨hin,hh⟩,hall⟩:=hu;refine GG hi (Region.noSelect_spec hs) hQ hin (fun listed' inv hun t ht sF=> ?_) fuel listed a (CU hh) (Region.free_spec hi hf) (by simpa using hr) hy h;rcases hall with h0|⟨⟨h1,h2⟩,h3⟩
 ·omega
 ·exact tail_waits h2 h3 h1 inv _ i rfl hin hun t ht
theorem Ac {n f:Nat} {l:List Oper} {listed:Array Bool} {a:Act} (hl:l.length=f+1) (hops:ops.toList.drop n=l) (hB:Region.seqB md ops (f+1) n listed=true)
  (h:∀w,S w→wpList P ops Q l a w):iH P md ops Q S n (f+1) listed a:=by
 have hget:∀j,l[j]?=ops[n+j]?:=fun j=>by rw[←hops];simp
 have hn:∀i∈Region.ready md ops listed,n≤i:=seqB_ready hB
 have hne:Region.ready md ops listed≠[]:=by
  simp only[Region.seqB,Bool.and_eq_true,decide_eq_true_eq] at hB;rw[hB.1];simp
 refine⟨fun h0=>absurd h0 hne,fun i hi w hS=> ?_⟩;have h1:=wpAny_of_seq (md:=md) l n listed a w hget (by rw[hl];exact hB) (h w hS);rw[hl] at h1;refine wpOp_mono (fun a' w' h2=> ?_) (h1.2 i hi);rw[if_pos (hn i hi)];exact h2
theorem lY {n f:Nat} {l:List Oper} {listed:Array Bool} {a:Act} (hops:ops.toList.drop n=l) (hl:l.length=f+1) (hB:Region.seqB md ops (f+1) n listed=true)
  (h:∀w,S w→wpList P ops Q l a w):iH P md ops Q S n (f+1) listed a:=Ac hl hops hB h
theorem qQ {n:Nat} {o:Oper} {listed:Array Bool} {a:Act} (ho:ops[n]?=some o) (hsz:ops.size=n+1) (hB:Region.seqB md ops 1 n listed=true)
  (h:∀w,S w→wpList P ops Q [o] a w):iH P md ops Q S n 1 listed a:=
 Ac (l:=[o]) rfl (by
  have hl:ops.toList.length=n+1:=hsz;have hn:n<ops.toList.length:=af;rw[List.drop_eq_getElem_cons hn,List.drop_of_length_le af];have:ops[n]?=some ops.toList[n]:=by simp[hsz]
  rw[this] at ho;injection ho with ho;rw[ho]) hB h
theorem eB {id:Nat} (n:Nat) {a:Act} {w:World} (hm:P.follows .mixedOrders=true) (hS:S w.drew)
  (h:iH P .any ops Q S n ops.size (Array.replicate ops.size false) a):(Code.region id ops true).wp P Q a w:=
 wp_region_any hm (BM _ _ _ _ hS h)
theorem jk.aN {v:Value} {f:FuncId} {args:Array Value} {w:World} {r:Result Next} {R:Ending→World→Prop} (hc:Calls P f args w R) (hr:r= .ok (.enter f args) w) (h:∀e w',R e w'→e= .returned v∧S w'):jk P S v r:=by
 rw[hr];exact Calls.mono hc h
end
theorem tU {P:Program} {md:Region.Mode} {ops:Array Oper} {Q:Exit→Act→World→Prop} {S:World→Prop} {n:Nat} (i:Nat) {oi:Oper} {v:Value} {fuel:Nat} {listed:Array Bool} {a:Act} (hi:ops[i]?=some oi)
  (hk:(Region.noSelect ops&&Region.free md ops listed i&&(Region.ready md ops listed).contains i&&BQ md ops n listed i)=true)
  (hQ:∀c a w,Q (.panic c) (a.put oi.dst v) w→Q (.panic c) a w) (hw:Region.wanted oi (yielded ops a.tmps)=true) (hy:∀w,S w→(execOp a.eval oi).run P w= .ok (.value v) w)
  (h:iH P md ops Q S n fuel (listed.setIfInBounds i true) (a.put oi.dst v)):iH P md ops Q S n (fuel+1) listed a:=by
 simp only[Bool.and_eq_true] at hk;exact lX hi hk.1.1.1 hk.1.1.2 hk.1.2 hk.2 hQ (jy.bF (Or.inl ⟨hw,hy⟩)) h
end


section
open Go Go.RowKit
section
variable {P:Program} {ops:Array Oper} {Q:Exit→Act→World→Prop} {md:Region.Mode} {S S0:World→Prop}
def aF (S:World→Prop):Prop:=∀w w',S w→Below w.heap.size w w'→S w'
theorem aF.dF {S T:World→Prop} (hS:aF S) (hT:aF T):aF (fun w=>S w∧T w):=fun _ _ h hb=>⟨hS _ _ h.1 hb,hT _ _ h.2 hb⟩
def dU (P:Program) (w:World) (v:Value):Result Next→Prop
 | .ok (.value u) w'=>u=v∧Below w w w'
 | .ok .skip w'=>v=undef∧Below w w w'
 | .ok (.enter f args) w'=>Calls P f args w' fun e w''=>e= .returned v∧Below w w w''
 | .ok (.row row args) w'=>Rows P row args w' fun u w''=>u=v∧Below w w w''
 |_=>False
def bA (P:Program) (ops:Array Oper) (S:World→Prop) (o:Oper) (v:Value) (a:Act):Prop:=
 (Region.wanted o (yielded ops a.tmps)=true∧∀w,S w→dU P w v ((execOp a.eval o).run P w))∨
 (Region.wanted o (yielded ops a.tmps)=false∧v=undef)
theorem bA.bF {o:Oper} {v:Value} {a:Act} (h:YieldsIf P ops S o v a):bA P ops S o v a:=
 h.imp (fun⟨hw,hv⟩=>⟨hw,fun w hS=>by rw[hv w hS];exact⟨rfl,Below.refl _ _⟩⟩) id
theorem dU.wp {o:Oper} {v:Value} {a:Act} {w:World} {K:Act→World→Prop} (h:dU P w v ((execOp a.eval o).run P w)) (hK:∀w',Below w w w'→K (a.put o.dst v) w'):o.wp P a w K Q:=by
 unfold Oper.wp;generalize (execOp a.eval o).run P w=r at *;cases r with
 |ok n w'=>
  cases n<;>simp only[dU,Oper.upon] at h⊢
  case value u=>rw[h.1];exact hK _ h.2
  case skip=>have:=hK _ h.2;rw[h.1] at this;exact this
  case enter f args=>
   refine Calls.mono h fun e w'' he=> ?_;obtain⟨rfl,hs⟩:=he;exact hK _ hs
  case row row args=>exact Rows.mono h fun u w'' he=>by rw[he.1];exact hK _ he.2
 |halt x w'=>exact h.elim
theorem bA.wpOp {i:Nat} {o:Oper} {v:Value} {a:Act} (hi:ops[i]?=some o) (hy:bA P ops S o v a)
  {K:Act→World→Prop} {w:World} (hS:S w) (h:∀w',Below w w w'→K (a.put o.dst v) w'):wpOp P ops Q i K a w:=by
 unfold Go.wpOp;simp only[hi];rcases hy with⟨hw,hv⟩|⟨hw,rfl⟩
 ·simp only[hw,if_true];exact .inl ((hv w hS).wp h)
 ·simp only[hw,Bool.false_eq_true,if_false];exact h w o7
theorem bA.of_same {o:Oper} {v:Value} {a a':Act} (hy:bA P ops S o v a) (he:execOp a'.eval o=execOp a.eval o)
  (hw:Region.wanted o (yielded ops a'.tmps)=Region.wanted o (yielded ops a.tmps)):bA P ops S o v a':=by
 unfold bA at *;rw[he,hw];exact hy
theorem Nq {j:Nat} {oi oj:Oper} {v:Value} (hj:ops[j]?=some oj) (hap:oi.apart ops oj=true)
  (hsi:∀cs b,oi.op≠ .select cs b) (hsj:∀cs b,oj.op≠ .select cs b)
  (hQ:∀c a w,Q (.panic c) (a.put oi.dst v) w→Q (.panic c) a w) {K:Act→World→Prop} {a:Act} {w:World}
  (hy:bA P ops S oi v a) (h:wpOp P ops Q j K (a.put oi.dst v) w):
  wpOp P ops Q j (fun a' w'=>bA P ops S oi v a'∧K (a'.put oi.dst v) w') a w:=by
 obtain⟨h1,h2,h3⟩:=Oper.apart_spec hap
 have keep:∀(a:Act),bA P ops S oi v a→∀u,bA P ops S oi v (a.put oj.dst u):=fun a hy u=>
  hy.of_same (execOp_put oi hsi a oj.dst u h3) (wanted_put oi a oj.dst u h3)
 have keepD:∀d,bA P ops S oi v {a with defers:=d::a.defers}:=fun d=>hy.of_same rfl rfl;unfold wpOp at *;simp only[hj] at *;rw[wanted_put oj a oi.dst v h1] at h;split
 ·rename_i hw;simp only[hw,if_true] at h;rcases h with h|⟨hasks,hlets⟩
  case inr=>exact .inr ⟨by unfold Oper.asks at *;rw[execOp_put oj hsj a oi.dst v h1] at hasks;exact hasks,hlets⟩
  refine .inl ?_;unfold Oper.wp at *;rw[execOp_put oj hsj a oi.dst v h1] at h;generalize (execOp a.eval oj).run P w=r at *;cases r with
  |ok n w'=>
   cases n<;>simp only[Oper.upon] at h⊢
   case value u=>exact⟨keep a hy u,by rw[←Act.put_comm a v u h2];exact h⟩
   case skip=>exact⟨keep a hy _,by rw[←Act.put_comm a v undef h2];exact h⟩
   case defer d=>
    refine⟨keep _ (keepD d) _,?_⟩;rw[←Act.put_comm _ v undef h2,←Act.put_defers];exact h
   case enter f args=>
    refine Calls.mono h fun e w'' he=> ?_;cases e with
    |returned u=>exact⟨keep a hy u,by rw[←Act.put_comm a v u h2];exact he⟩
    |panicked c=>exact hQ _ _ _ he
    |outgrown=>exact he
   case row row args=>exact Rows.mono h fun u w'' he=>⟨keep a hy u,by rw[←Act.put_comm a v u h2];exact he⟩
  |halt x w'=>
   cases x<;>simp only[Oper.upon] at h⊢
   case panic u=>exact hQ _ _ _ h
 ·rename_i hw;simp only[hw] at h;exact⟨keep a hy _,by rw[←Act.put_comm a v undef h2];exact h⟩
def bT (P:Program) (md:Region.Mode) (ops:Array Oper) (Q:Exit→Act→World→Prop) (S0:World→Prop) (n:Nat):Nat→(World→Prop)→Array Bool→Act→Prop
 |0,S,listed,a=>Region.ready md ops listed=[]∧∀w,S w→Q .normal a w
 |fuel+1,S,listed,a=>
  (Region.ready md ops listed=[]→∀w,S w→Q .normal a w)∧
  ∀i∈Region.ready md ops listed,∀w,S w→wpOp P ops Q i (fun a' w'=>if n≤i then wpAny P md ops Q fuel (listed.setIfInBounds i true) a' w' else
   ∃S':World→Prop,(∀w,S' w→S0 w)∧aF S'∧S' w'∧bT P md ops Q S0 n fuel S' (listed.setIfInBounds i true) a') a w
theorem iW {n:Nat}:∀(fuel:Nat) (S:World→Prop) (listed:Array Bool) (a:Act) (w:World),S w→bT P md ops Q S0 n fuel S listed a→wpAny P md ops Q fuel listed a w
 |0,_,_,_,w,hS,h=>⟨h.1,h.2 w hS⟩
 |fuel+1,_,_,_,w,hS,h=>⟨fun hr=>h.1 hr w hS,fun i hi=>wpOp_mono (fun a' w' h'=>by
   split at h'
   ·exact h'
   ·obtain⟨S',_,_,hS',h2⟩:=h';exact iW fuel S' _ a' w' hS' h2) (h.2 i hi w hS)⟩
theorem cGC {P:Prop} (h:P:=by
 subst hji;refine hy.wpOp hi (hs0 _ hS) (fun w' hb=> ?_);rw[if_neg af];exact⟨S,hs0,hst,hst _ _ hS hb,H⟩):P:=h
theorem GH {n i:Nat} {oi:Oper} {v:Value} (hi:ops[i]?=some oi) (hsel:∀(j:Nat) (o:Oper) cs b,ops[j]?=some o→o.op≠ .select cs b)
  (hQ:∀c a w,Q (.panic c) (a.put oi.dst v) w→Q (.panic c) a w) (hin:i<n) (hno:∀listed,HeadInv md ops n listed→listed.getD i true=false→∀t,n≤t→t<ops.size→t∉Region.ready md ops listed):
  ∀(fuel:Nat) (S:World→Prop) (listed:Array Bool) (a:Act),aF S→(∀w,S w→S0 w)→HeadInv md ops n listed→
   (∀j oj,ops[j]?=some oj→j≠i→listed.getD j true=false→(∀e∈oj.after,Region.binds md e=true→e.on≠i)→oi.apart ops oj=true)→
   i∈Region.ready md ops listed→bA P ops S0 oi v a→
   bT P md ops Q S0 n fuel S (listed.setIfInBounds i true) (a.put oi.dst v)→bT P md ops Q S0 n (fuel+1) S listed a:=by
 intro fuel;induction fuel with
 |zero=>
  intro S listed a hst hs0 _ _ hr hy H;refine⟨fun h=>(by rw[h] at hr;cases hr),fun j hj w hS=> ?_⟩;by_cases hji:j=i
  ·exact cGC
  ·have:=ready_mono hj hji;rw[H.1] at this;cases this
 |succ fuel ih=>
  intro S listed a hst hs0 inv hfree hr hy H;have hun:=(mem_ready.1 hr).1;refine⟨fun h=>(by rw[h] at hr;cases hr),fun j hj w hS=> ?_⟩;by_cases hji:j=i
  ·exact cGC
  ·obtain⟨hjun,oj,hoj,hall⟩:=mem_ready.1 hj;have hjm:j<ops.size:=(Array.getElem?_eq_some_iff.1 hoj).1
   have hjn:j<n:=by
    rcases Nat.lt_or_ge j n with h|h
    ·exact h
    ·exact absurd hj (hno listed inv hun j h hjm)
   have h1:=H.2 j (ready_mono hj hji) w hS
   have hnot:∀e∈oj.after,Region.binds md e=true→e.on≠i:=fun e he hb heq=>by
    have h1:=hall e he hb;rw[heq,getD_both hun] at h1;cases h1
   have h2:=Nq hoj (hfree j oj hoj hji hjun hnot) (fun cs b=>hsel i oi cs b hi) (fun cs b=>hsel j oj cs b hoj) hQ hy h1
   have hfree':∀k ok,ops[k]?=some ok→k≠i→(listed.setIfInBounds j true).getD k true=false→
     (∀e∈ok.after,Region.binds md e=true→e.on≠i)→oi.apart ops ok=true:=fun k ok hk hki hun' hno'=>by
    refine hfree k ok hk hki ?_ hno';by_cases hjk:j=k
    ·subst hjk;exact hjun
    ·rw[getD_set_ne true hjk] at hun';exact hun'
   refine wpOp_mono (fun a' w' h3=> ?_) h2;obtain⟨hya,h4⟩:=h3;rw[if_neg af] at h4⊢
   obtain⟨S',hsub,hst',hS',h5⟩:=h4;refine⟨S',hsub,hst',hS',ih S' (listed.setIfInBounds j true) a' hst' hsub (inv.set hj hjn) hfree' (ready_mono hr (Ne.symm hji)) hya ?_⟩;rw[Array.setIfInBounds_comm _ _ hji];exact h5
theorem cB {n i:Nat} {oi:Oper} {v:Value} {fuel:Nat} {listed:Array Bool} {a:Act} (hst:aF S) (hs0:∀w,S w→S0 w) (hi:ops[i]?=some oi)
  (hs:Region.noSelect ops=true) (hf:Region.free md ops listed i=true) (hr:(Region.ready md ops listed).contains i=true) (hu:BQ md ops n listed i=true)
  (hQ:∀c a w,Q (.panic c) (a.put oi.dst v) w→Q (.panic c) a w) (hy:bA P ops S0 oi v a)
  (h:bT P md ops Q S0 n fuel S (listed.setIfInBounds i true) (a.put oi.dst v)):bT P md ops Q S0 n (fuel+1) S listed a:=by
 simp only[BQ,Bool.and_eq_true,Bool.or_eq_true,decide_eq_true_eq] at hu;obtain⟨⟨hin,hh⟩,hall⟩:=hu;refine GH hi (Region.noSelect_spec hs) hQ hin (fun listed' inv hun t ht sF=> ?_) fuel S listed a hst hs0 (CU hh) (Region.free_spec hi hf) (by simpa using hr) hy h;rcases hall with h0|⟨⟨h1,h2⟩,h3⟩
 ·omega
 ·exact tail_waits h2 h3 h1 inv _ i rfl hin hun t ht
theorem lv {n i:Nat} {oi:Oper} {fuel:Nat} {listed:Array Bool} {a:Act} (hi:ops[i]?=some oi) (hr:Region.ready md ops listed=[i]) (hin:i<n) (hw:Region.wanted oi (yielded ops a.tmps)=true)
  (h:∀w,S w→∀K:Act→World→Prop,Shut (∀a w (S':World→Prop),(∀w,S' w→S0 w)→aF S'→S' w→bT P md ops Q S0 n fuel S' (listed.setIfInBounds i true) a→K a w)→oi.wp P a w K Q):bT P md ops Q S0 n (fuel+1) S listed a:=
 ⟨fun h0=>(by rw[hr] at h0;cases h0),fun j hj w hS=>by
  rw[hr] at hj;obtain rfl:j=i:=by simpa using hj
  unfold wpOp;simp only[hi,hw,if_true];exact .inl (h w hS _ (fun a' w' S' h1 h2 h3 h4=>by rw[if_neg af];exact⟨S',h1,h2,h3,h4⟩))⟩
theorem aZ {n:Nat} {listed:Array Bool} {a:Act} (hr:Region.ready md ops listed=[]) (h:∀w,S w→Q .normal a w):
  ∀fuel,bT P md ops Q S0 n fuel S listed a
 |0=>⟨hr,h⟩
 |_+1=>⟨fun _=>h,by rw[hr];simp⟩
theorem bP {n f:Nat} {l:List Oper} {listed:Array Bool} {a:Act} (hops:ops.toList.drop n=l) (hl:l.length=f+1) (hB:Region.seqB md ops (f+1) n listed=true)
  (h:∀w,S w→wpList P ops Q l a w):bT P md ops Q S0 n (f+1) S listed a:=by
 have hget:∀j,l[j]?=ops[n+j]?:=fun j=>by rw[←hops];simp
 have hn:∀i∈Region.ready md ops listed,n≤i:=seqB_ready hB
 have hne:Region.ready md ops listed≠[]:=by
  simp only[Region.seqB,Bool.and_eq_true,decide_eq_true_eq] at hB;rw[hB.1];simp
 refine⟨fun h0=>absurd h0 hne,fun i hi w hS=> ?_⟩;have h1:=wpAny_of_seq (md:=md) l n listed a w hget (by rw[hl];exact hB) (h w hS);rw[hl] at h1;refine wpOp_mono (fun a' w' h2=> ?_) (h1.2 i hi);rw[if_pos (hn i hi)];exact h2
theorem vo {n:Nat} {o:Oper} {listed:Array Bool} {a:Act} (ho:ops[n]?=some o) (hsz:ops.size=n+1) (hB:Region.seqB md ops 1 n listed=true)
  (h:∀w,S w→wpList P ops Q [o] a w):bT P md ops Q S0 n 1 S listed a:=
 bP (l:=[o]) (by
  have hl:ops.toList.length=n+1:=hsz;have hn:n<ops.toList.length:=af;rw[List.drop_eq_getElem_cons hn,List.drop_of_length_le af];have:ops[n]?=some ops.toList[n]:=by simp[hsz]
  rw[this] at ho;injection ho with ho;rw[ho]) rfl hB h
theorem aA {id:Nat} (n:Nat) {a:Act} {w:World} (hm:P.follows .mixedOrders=true) (hS:S w.drew)
  (h:bT P .any ops Q S n ops.size S (Array.replicate ops.size false) a):(Code.region id ops true).wp P Q a w:=
 wp_region_any hm (iW _ _ _ _ _ hS h)
theorem dU.aN {v:Value} {f:FuncId} {args:Array Value} {w:World} {r:Result Next} {R:Ending→World→Prop} (hc:Calls P f args w R) (hr:r= .ok (.enter f args) w) (h:∀e w',R e w'→e= .returned v∧Below w w w'):dU P w v r:=by
 rw[hr];exact Calls.mono hc h
theorem df {n i:Nat} {oi:Oper} {fuel:Nat} {listed:Array Bool} {a:Act} (T:World→Nat→Prop) (hi:ops[i]?=some oi) (hr:Region.ready md ops listed=[i]) (hin:i<n) (hw:Region.wanted oi (yielded ops a.tmps)=true)
  (hst:aF S) (hs0:∀w,S w→S0 w) (hT:∀g,aF (fun w=>T w g)) (hrun:∀w,S w→∃w',(execOp a.eval oi).run P w= .ok (.value (.pointer (some ⟨w,0,none⟩))) w'∧Below w w w'∧T w' w.heap.size)
  (h:∀g,bT P md ops Q S0 n fuel (fun w=>S w∧T w g) (listed.setIfInBounds i true) (a.put oi.dst (.pointer (some ⟨g,0,none⟩)))):bT P md ops Q S0 n (fuel+1) S listed a:=
 lv hi hr hin hw (fun w hS K hK=>by
  obtain⟨w',e,hb,hT'⟩:=hrun w hS;unfold Oper.wp;rw[e];exact hK.out _ _ (fun w2=>S w2∧T w2 w.heap.size) (fun _ h=>hs0 _ h.1) (fun x y hx hb=>⟨hst _ _ hx.1 hb,hT _ _ _ hx.2 hb⟩) ⟨hst _ _ hS hb,hT'⟩ (h _))
theorem bB {n i k:Nat} {oi:Oper} {fuel:Nat} {listed:Array Bool} {a:Act} (S':World→Prop) (T:TypeId) (vs us:List Value) (g:Nat) (hT:(P.info? T).map (·.size)=some k) (x y:Operand) (ho:oi.op= .store T x y)
  (hi:ops[i]?=some oi) (hr:Region.ready md ops listed=[i]) (hin:i<n) (hw:Region.wanted oi (yielded ops a.tmps)=true)
  (hn:vs.length=k) (hl:us.length=k) (h1:vs.all (·.oneCell')=true) (hx:a.eval x= .pointer (some ⟨g,0,none⟩)) (hy:a.eval y= .agg vs.toArray)
  (hc:∀w,S w→Cs w g us) (hS:∀w,S w→S' (w.setCells g 0 vs)) (hsub:∀w,S' w→S0 w) (hst:aF S')
  (h:bT P md ops Q S0 n fuel S' (listed.setIfInBounds i true) (a.put oi.dst undef)):bT P md ops Q S0 n (fuel+1) S listed a:=
 lv hi hr hin hw (fun w hSw K hK=>by
  refine wp_store_mid T x y ho g 0 vs.toArray hx hy ?_ (by rw[hT,←hn];simp) (by simpa using h1) (hK.out _ _ S' hsub hst (hS _ hSw) h);intro j hj;have hj':j<us.length:=by simp at hj;omega
  rw[Nat.zero_add];have hcs:=hc w hSw j _ (List.getElem?_eq_getElem hj');exact⟨by rw[hcs.1];rfl,hcs.2⟩)
end
theorem tE {P:Program} {md:Region.Mode} {ops:Array Oper} {Q:Exit→Act→World→Prop} {S0 S:World→Prop} {n:Nat} (i:Nat) {oi:Oper} {v:Value} {fuel:Nat} {listed:Array Bool} {a:Act} (hst:aF S) (hs0:∀w,S w→S0 w) (hi:ops[i]?=some oi)
  (hk:(Region.noSelect ops&&Region.free md ops listed i&&(Region.ready md ops listed).contains i&&BQ md ops n listed i)=true)
  (hw:Region.wanted oi (yielded ops a.tmps)=true) (hy:∀w,S0 w→(execOp a.eval oi).run P w= .ok (.value v) w)
  (h:bT P md ops Q S0 n fuel S (listed.setIfInBounds i true) (a.put oi.dst v)) (hQ:∀c a w,Q (.panic c) (a.put oi.dst v) w→Q (.panic c) a w:=by exact fun _ _ _ h=>h):bT P md ops Q S0 n (fuel+1) S listed a:=by
 simp only[Bool.and_eq_true] at hk;exact cB hst hs0 hi hk.1.1.1 hk.1.1.2 hk.1.2 hk.2 hQ (bA.bF (Or.inl ⟨hw,hy⟩)) h
end


section
open Go Go.RowKit
structure Bd (P:Program) (ops:Array Oper) (Q:Exit→Act→World→Prop) (S0 S:World→Prop):Prop where
 st:aF S
 s0:∀w,S w→S0 w
 no:Region.noSelect ops=true
 E5:∀c (a:Act) d v w,Q (.panic c) (a.put (some d) v) w→Q (.panic c) a w
section
variable {P:Program} {md:Region.Mode} {ops:Array Oper} {Q:Exit→Act→World→Prop} {S0 S:World→Prop} {n fuel:Nat} {listed:Array Bool} {a:Act} {oi:Oper}
theorem aQ (st:aF S) (s0:∀w,S w→S0 w) (h:Bd P ops Q S0 S→bT P md ops Q S0 n fuel S listed a) (no:Region.noSelect ops=true:=by kernel_rfl)
  (E5:∀c (a:Act) d v w,Q (.panic c) (a.put (some d) v) w→Q (.panic c) a w:=by exact fun _ _ _ _ _ h=>h):bT P md ops Q S0 n fuel S listed a:=h ⟨st,s0,no,E5⟩
theorem Rc (E5:∀c (a:Act) d v w,Q (.panic c) (a.put (some d) v) w→Q (.panic c) a w) (c:List PanicEntry) (a:Act) (d:Option Nat) (v:Value) (w:World) (h:Q (.panic c) (a.put d v) w):Q (.panic c) a w:=by
 cases d with
 |none=>exact h
 |some d=>exact E5 c a d v w h
abbrev KC (md:Region.Mode) (ops:Array Oper) (n:Nat) (listed:Array Bool) (i:Nat):Bool:=Region.free md ops listed i&&(Region.ready md ops listed).contains i&&BQ md ops n listed i
theorem tk (i:Nat) (v:Value) (g:Bd P ops Q S0 S) (hw:Region.wanted oi (yielded ops a.tmps)=true) (hy:∀w,S0 w→(execOp a.eval oi).run P w= .ok (.value v) w)
  (h:bT P md ops Q S0 n fuel S (listed.setIfInBounds i true) (a.put oi.dst v)) (hi:ops[i]?=some oi:=by rfl) (hk:KC md ops n listed i=true:=by kernel_rfl):bT P md ops Q S0 n (fuel+1) S listed a:=by
 simp only[KC,Bool.and_eq_true] at hk;exact cB g.st g.s0 hi g.no hk.1.1 hk.1.2 hk.2 (fun c a w=>Rc g.E5 c a _ _ w) (bA.bF (Or.inl ⟨hw,hy⟩)) h
theorem kM (i:Nat) (g:Bd P ops Q S0 S) (hw:Region.wanted oi (yielded ops a.tmps)=false)
  (h:bT P md ops Q S0 n fuel S (listed.setIfInBounds i true) (a.put oi.dst undef)) (hi:ops[i]?=some oi:=by rfl) (hk:KC md ops n listed i=true:=by kernel_rfl):bT P md ops Q S0 n (fuel+1) S listed a:=by
 simp only[KC,Bool.and_eq_true] at hk;exact cB g.st g.s0 hi g.no hk.1.1 hk.1.2 hk.2 (fun c a w=>Rc g.E5 c a _ _ w) (Or.inr ⟨hw,rfl⟩) h
theorem iI (i:Nat) (v:Value) (st:aF S) (s0:∀w,S w→S0 w) (hy:∀w,S0 w→dU P w v ((execOp a.eval oi).run P w))
  (h:bT P md ops Q S0 n fuel S (listed.setIfInBounds i true) (a.put oi.dst v)) (hi:ops[i]?=some oi:=by rfl) (hw:Region.wanted oi (yielded ops a.tmps)=true:=by rfl) (no:Region.noSelect ops=true:=by kernel_rfl) (hk:KC md ops n listed i=true:=by kernel_rfl)
  (E5:∀c (a:Act) d v w,Q (.panic c) (a.put (some d) v) w→Q (.panic c) a w:=by exact fun _ _ _ _ _ h=>h):bT P md ops Q S0 n (fuel+1) S listed a:=by
 simp only[KC,Bool.and_eq_true] at hk;exact cB st s0 hi no hk.1.1 hk.1.2 hk.2 (fun c a w=>Rc E5 c a _ _ w) (Or.inl ⟨hw,hy⟩) h
end
end


section
open Go Go.RowKit
section
variable {P:Program} {ops:Array Oper} {Q:Exit→Act→World→Prop} {md:Region.Mode} {S S0:World→Prop}
theorem yc {S':World→Prop} (h:∀w,S' w→S w) {n:Nat}:∀{fuel:Nat} {listed:Array Bool} {a:Act},bT P md ops Q S0 n fuel S listed a→bT P md ops Q S0 n fuel S' listed a
 |0,_,_,H=>⟨H.1,fun w hw=>H.2 w (h w hw)⟩
 |_+1,_,_,H=>⟨fun hr w hw=>H.1 hr w (h w hw),fun i hi w hw=>H.2 i hi w (h w hw)⟩
end
end

end Go.Proofs.YtnmbfjgcmfjdcaaGreatDoor

/- Texts of CoreRefuses's proof, together. -/
import Derived.Test.YtnmbfjgcmfjdcaaGreatDoorCoreRefusesZ12
import Derived.Below
namespace Go.Proofs.YtnmbfjgcmfjdcaaGreatDoor
/- A closed call that the checker says is true is true. -/
namespace Ck
open Go Go.RowKit
variable {rW:fu} {ks:List Nat} {P:Program} {n f:Nat}
/-- It says that all ends there may be are true. -/
noncomputable def holds (E:Env) (n f:Nat):Bool:=
 match run E n f #[] ⟨.leaf,0,0,0⟩ with
 |some outs=>outs.all fun x=>match x.1 with
  | .bool true=>true
  |_=>false
 |none=>false
def True' (P:Program) (f:Nat):Prop:=∀w:World,Calls P f #[] w fun e w'=>e= .returned (.bool true)∧Below w.heap.size w w'
theorem Rx (h:∀f∈ks,True' P f):zY ⟨P,[],ks,rW⟩:=fun f hf _φ _L w _ _=>
 (h f (List.contains_iff_mem.1 hf) w).mono fun _e _w' ⟨he,hb⟩=>⟨he,hb.size,fun r hr=>hb.block r hr,hb.os,hb.tape,hb.output⟩
theorem UT:ib ⟨P,[],ks,fun _ _ _=>none⟩ (fun _ _ _=>none):=fun _ _ _ _ h=>by cases h
theorem nE (hm:P.follows .mixedOrders=true) (hh:ib ⟨P,[],ks,rW⟩ rW) (hk:∀f∈ks,True' P f) (h:holds ⟨P,[],ks,rW⟩ n f=true):True' P f:=fun w=>by
 unfold holds at h;split at h
 ·rename_i outs hr;have hc:=Oc (E:=⟨P,[],ks,rW⟩) hm (Rx hk) hh n f #[] ⟨.leaf,0,0,0⟩ outs hr
  refine(hc.2 (fun _=>none) #[] (fun _=>none) w (fun x hx=>by cases hx) (.empty _) ⟨fun b hb=>by simp at hb,fun b _=>rfl⟩ (fun o _=>⟨fun b _ _=>⟨rfl,rfl⟩,fun b _ hb=>by simp at hb⟩)
   ⟨fun b o hb=>by simp at hb,fun b c hb=>absurd rfl hb⟩).mono ?_
  rintro e w' ⟨o,ho,v',φ',L',rfl,hv,hst⟩;rw[List.all_eq_true] at h;have h1:=h o ho;refine⟨?_,hst.g.kept.1,hst.g.kept.2.1,hst.g.kept.2.2,hst.g.size,fun k hk=>hst.g.frame k hk fun b e hb=>absurd rfl hb⟩;split at h1
  ·rename_i hx;rw[hx] at hv;cases hv;rfl
  ·cases h1
 ·cases h
theorem eF (hm:P.follows .mixedOrders=true) (hk:∀f∈ks,True' P f) (h:holds ⟨P,[],ks,fun _ _ _=>none⟩ n f=true):True' P f:=nE hm UT hk h
end Ck

/- What is known of calls that turn nothing, for the checker's hooks. -/
namespace Ck
open Go Go.RowKit
/-- A call that turned nothing that there was. -/
theorem AQ {φ:bq} {L:Nat→Option cz} {w w':World} {σ σ':St} (hg:Good φ L w) (hw:WF σ) (ha:Agree L σ σ') (hn:σ'.next=σ.next) (hm:σ'.mem=σ.mem) (hwr:σ'.wr=σ.wr) (hb:Below w.heap.size w w'):Step σ σ' φ φ L L w w':=
 have h:=Step.same hg hw ha hn hm hwr rfl ⟨rfl,rfl,rfl⟩
 ⟨⟨.refl φ,fun b h h'=>absurd h h',⟨fun b o hbo=>by
   obtain⟨r,e,ob,h1,h2,h3⟩:=hg.obj b o hbo;exact⟨r,e,ob,h1,(hb.block r (Array.getElem?_eq_some_iff.1 h2).1).trans h2,h3⟩,hg.inj⟩,fun _ _ _=>rfl,fun _ _ h=>h,hb.size,fun r hr _=>hb.block r hr,fun b h=>by unfold St.N at h;omega,⟨hb.os,hb.tape,hb.output⟩,fun _ _ h=>h⟩,h.here⟩
theorem bu.yn {φ:bq} {a b:Array Value} (ha:a.all fF=true) (h:bu φ a b):b=a:=by
 rw[Array.all_eq_true_iff_forall_mem] at ha;apply Array.ext h.1
 intro i h1 h2;exact aC.yn (ha _ (Array.getElem_mem h2)) (h.2 i _ _ (Array.getElem?_eq_getElem h2) (Array.getElem?_eq_getElem h1))
theorem aC.eq2 {φ:bq} {v v':Value} (hs:ou v=true) (h:aC φ v v'):v'=v:=by
 cases v with
 |tuple cs=>
  cases h with
  |sc h=>rfl
  |tuple hc h=>rw[bu.yn (φ:=φ) hs ⟨hc,h⟩]
 |_=>exact aC.yn hs h
end Ck

/- The checker's run of a closed call, cut in pieces: each piece is one theorem, and the state between two of them stands as it is. -/
namespace Ck
open Go Go.RowKit
def tZ:Nat→Code→List Code×Code
 |0,c=>([],c)
 |k+1, .seq a b=>(a::(tZ k b).1,(tZ k b).2)
 |_+1,c=>([],c)
def Hm:List Code→Code→Code
 |[],b=>b
 |a::l,b=> .seq a (Hm l b)
theorem Q4:∀(k:Nat) (c:Code),Hm (tZ k c).1 (tZ k c).2=c:=by
 intro k;induction k with
 |zero=>intro c;rfl
 |succ k ih=>
  intro c;cases c<;>first|rfl|skip
  rename_i a b;show Code.seq a (Hm (tZ k b).1 (tZ k b).2)=Code.seq a b
  rw[ih]
theorem j3 {α β:Type} (f:α→Option (List β)) (x:α):bnd f [x]=f x:=by
 simp only[bnd];cases f x<;>simp
noncomputable abbrev Dh (E:Env):=jT E (uQ E) (qV E)
noncomputable def chain (E:Env) (N:Nat):Nat→List Code→Tree Value→St→Option (Nat×Tree Value×St)
 |n,[],T,σ=>some (n,T,σ)
 |n+1,c::cs,T,σ=>match Dh E n N c T σ with
  |some [(.normal,T1,σ1)]=>chain E N n cs T1 σ1
  |_=>none
 |0,_::_,_,_=>none
theorem M5 {E:Env} {N:Nat} {b:Code} {m:Nat} {T1:Tree Value} {σ1:St}:∀{cs:List Code} {n:Nat} {T:Tree Value} {σ:St},chain E N n cs T σ=some (m,T1,σ1)→
  Dh E n N (Hm cs b) T σ=Dh E m N b T1 σ1:=by
 intro cs;induction cs with
 |nil=>
  intro n T σ h;cases n<;>(simp only[chain,Option.some.injEq,Prod.mk.injEq] at h;obtain⟨rfl,rfl,rfl⟩:=h;rfl)
 |cons c cs ih=>
  intro n T σ h;cases n with
  |zero=>simp[chain] at h
  |succ n=>
   simp only[chain] at h;split at h
   ·rename_i T2 σ2 hl
    show(match Dh E n N c T σ with
     |some outs=>bnd (fun x:LX×Tree Value×St=>match x.1 with
      | .normal=>Dh E n N (Hm cs b) x.2.1 x.2.2
      |_=>some [x]) outs
     |none=>none)=_
    rw[hl];simp only[j3];exact ih h
   ·cases h
theorem Ps {E:Env} {N k:Nat} {c:Code} {n m:Nat} {T T1:Tree Value} {σ σ1:St} (h:chain E N n (tZ k c).1 T σ=some (m,T1,σ1)):Dh E n N c T σ=Dh E m N (tZ k c).2 T1 σ1:=by
 have:=M5 (b:=(tZ k c).2) h;rwa [Q4] at this
def M6 (E:Env) (f:Nat):Code:=match E.P.funcs[f]? with
 |some fn=>match fn.body with
  |some b=>b
  |none=> .skip
 |none=> .skip
def V7 (E:Env) (f:Nat):Nat:=match E.P.funcs[f]? with
 |some fn=>max fn.ntmps 0
 |none=>0
def Xb (E:Env) (f:Nat):Bool:=match E.P.funcs[f]? with
 |some fn=>fn.body.isSome
 |none=>false
noncomputable def R7 (E:Env) (f:Nat) (o:Aa):JA:=match E.P.funcs[f]? with
 |some fn=>match o with
  |some outs=>bnd (fun x=>match x.1 with
   | .exit _=>none
   |_=>qV E fn x.2.1 x.2.2) outs
  |none=>none
 |none=>none
def SY (o:JA):Bool:=match o with
 |some outs=>outs.all fun x=>match x.1 with
  | .bool true=>true
  |_=>false
 |none=>false
abbrev VE:St:=⟨.leaf,0,0,0⟩
theorem MP {E:Env} {n f:Nat} (h0:E.known.contains f=false) (h1:E.rW f #[] VE=none) (h2:Xb E f=true):
  holds E n f=SY (R7 E f (Dh E n (V7 E f) (M6 E f) (fromList 0 []) VE)):=by
 unfold Xb at h2;unfold holds run pU;simp only[zS];rw[h1,h0];unfold R7 V7 M6;cases hf:E.P.funcs[f]? with
 |none=>rw[hf] at h2;cases h2
 |some fn=>
  rw[hf] at h2;cases hb:fn.body with
  |none=>simp[hb] at h2
  |some b=>
   simp only[hb];rfl
end Ck

end Go.Proofs.YtnmbfjgcmfjdcaaGreatDoor

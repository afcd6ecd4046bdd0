import Derived.Test.YtnmbfjgcmfjdcaaGreatDoorSyA
import Derived.Test.YtnmbfjgcmfjdcaaGreatDoorCoreRefusesZ1
namespace Go.Proofs.YtnmbfjgcmfjdcaaGreatDoor
open Go Go.RowKit
def jn (h l:Int):Int:=h*18446744073709551616+l
theorem Tq (a:Int):jn (aJ a) (aI a)=a:=by unfold jn aJ aI;omega
end Go.Proofs.YtnmbfjgcmfjdcaaGreatDoor
namespace Go.Proofs.YtnmbfjgcmfjdcaaGreatDoor.Ck
open Go Go.RowKit
class Enc (α:Type) where
 enc:α→Value
 dec:Value→α
 In:α→Prop
def WI:Type:=Int
def TR:Type:=Int
def FL:Type:=Int
def sH:Type:=Int
def gQ:Value→Int
 | .int _ n=>n
 |_=>0
def dW:Value→Int
 | .agg c=>match c.toList with
   |[h,l]=>jn (gQ h) (gQ l)
   |_=>0
 |_=>0
def dP:Value→P3
 | .agg c=>match c.toList with
   |[t,r,v]=>(gQ t,gQ r,gQ v)
   |_=>(0,0,0)
 |_=>(0,0,0)
def dM:Value→Mu
 | .agg c=>match c.toList with
   |[b,h,l,w,n]=>⟨gQ b,jn (gQ h) (gQ l),gQ w,gQ n⟩
   |_=>Mu.no
 |_=>Mu.no
instance:Enc Mu:=⟨Mu.val,dM,Mu.In⟩
instance:Enc P3:=⟨pv,dP,dJ⟩
instance:Enc WI:=⟨wv,dW,WR⟩
instance:Enc TR:=⟨.int .u64,gQ,eZ⟩
instance:Enc FL:=⟨.int .u32,gQ,fun(n:Int)=>0≤n∧n≤4294967295⟩
instance:Enc sH:=⟨.int .i64,gQ,fun(n:Int)=> -9223372036854775808≤n∧n≤9223372036854775807⟩
def cd (α:Type) [e:Enc α] (v:Value):Prop:=v=e.enc (e.dec v)∧e.In (e.dec v)
theorem ku (m:Mu):dM m.val=m:=by show Mu.mk m.b (jn (aJ m.a) (aI m.a)) m.w m.n=m;rw[Tq]
theorem kU (a:Int):dW (wv a)=a:=Tq a
theorem rY (m:Mu):cd Mu m.val↔m.In:=by
 show(m.val=(dM m.val).val∧(dM m.val).In)↔_
 rw[ku];simp
theorem lJ (p:P3):cd P3 (pv p)↔dJ p:=⟨fun h=>h.2,fun h=>⟨rfl,h⟩⟩
theorem rX (a:Int):cd WI (wv a)↔WR a:=by
 show(wv a=wv (dW (wv a))∧WR (dW (wv a)))↔_
 rw[kU];simp
theorem rE (n:Int):cd TR (.int .u64 n)↔0≤n∧n≤18446744073709551615:=⟨fun h=>h.2,fun h=>⟨rfl,h⟩⟩
theorem lN (n:Int):cd FL (.int .u32 n)↔0≤n∧n≤4294967295:=⟨fun h=>h.2,fun h=>⟨rfl,h⟩⟩
theorem lQ (n:Int):cd sH (.int .i64 n)↔-9223372036854775808≤n∧n≤9223372036854775807:=⟨fun h=>h.2,fun h=>⟨rfl,h⟩⟩
theorem kv {x:Bool} {a b:Prop}:br x a b↔(x=true→a)∧(x=false→b):=by cases x<;>simp[br]
abbrev SF:=List Value→Option (Value×Prop)
def Ls (P:Program) (e:Nat×SF):Prop:=∀args v p,e.2 args=some (v,p)→p→∀w,Calls P e.1 args.toArray w (aV v w)
section
variable {α β γ δ:Type} [Enc α] [Enc β] [Enc γ] [Enc δ] {P:Program} {f:Nat}
open Enc
def s0 (v:Value):SF
 |[]=>some (v,True)
 |_=>none
def s1 (r:α→Value):SF
 |[a]=>some (r (dec a),cd α a)
 |_=>none
def s2 (r:α→β→Value):SF
 |[a,b]=>some (r (dec a) (dec b),cd α a∧cd β b)
 |_=>none
def s3 (r:α→β→γ→Value):SF
 |[a,b,c]=>some (r (dec a) (dec b) (dec c),cd α a∧cd β b∧cd γ c)
 |_=>none
theorem ok0 {v:Value} (h:∀w,Calls P f #[] w (aV v w)):Ls P (f,s0 v):=fun args u p e _ w=>by
 match args with
 |[]=>cases e;exact h w
theorem ok1 {r:α→Value} (h:∀a:α,In a→∀w,Calls P f #[enc a] w (aV (r a) w)):Ls P (f,s1 r):=fun args v p e hp w=>by
 match args with
 |[a]=>
  cases e;have h1:=h _ hp.2 w;rw[←hp.1] at h1;exact h1
theorem rA {r:α→β→Value} (h:∀(a:α) (b:β),In a→In b→∀w,Calls P f #[enc a,enc b] w (aV (r a b) w)):Ls P (f,s2 r):=fun args v p e hp w=>by
 match args with
 |[a,b]=>
  cases e;have h1:=h _ _ hp.1.2 hp.2.2 w;rw[←hp.1.1,←hp.2.1] at h1;exact h1
theorem ZR {r:α→β→γ→Value} (h:∀(a:α) (b:β) (c:γ),In a→In b→In c→∀w,Calls P f #[enc a,enc b,enc c] w (aV (r a b c) w)):Ls P (f,s3 r):=fun args v p e hp w=>by
 match args with
 |[a,b,c]=>
  cases e;have h1:=h _ _ _ hp.1.2 hp.2.1.2 hp.2.2.2 w;rw[←hp.1.1,←hp.2.1.1,←hp.2.2.1] at h1;exact h1
end
def gD (l:List (Nat×SF)):pY:=fun f args=>match l with
 |[]=>none
 |e::l=>match Nat.beq e.1 f with
  |true=>e.2 args
  |false=>gD l f args
def oL (P:Program) (l:List (Nat×SF)):Prop:=∀e∈l,Ls P e
theorem oL.nil {P:Program}:oL P []:=fun e h=>by cases h
theorem oL.cons {P:Program} {e:Nat×SF} {l:List (Nat×SF)} (h:Ls P e) (k:oL P l):oL P (e::l):=fun x hx=>(List.mem_cons.1 hx).elim (fun h1=>h1▸h) (k x)
theorem Hl {P:Program}:∀{l:List (Nat×SF)},oL P l→EC P (gD l)
 |[],_,f,args,v,p,h=>by cases h
 |e::l,hl,f,args,v,p,h=>fun hp w=>by
  unfold gD at h;split at h
  ·rename_i he;have he':=Nat.eq_of_beq_eq_true he;subst he';exact hl e (List.mem_cons_self ..) args v p h hp w
  ·exact Hl (fun x hx=>hl x (List.mem_cons_of_mem _ hx)) f args v p h hp w
theorem kF {P:Program} (hm:P.follows .mixedOrders=true) {l:List (Nat×SF)} (hs:oL P l) {f:Nat} {args:List Value} {V:Value} {T:Prop}
  (e:jE P (gD l) 3000 f args (fun v=>v=V)=T) (h:T) (w:World) (ha:args.all fF=true:=by kernel_rfl) (hn:gD l f args=none:=by kernel_rfl):Calls P f args.toArray w (aV V w):=
 (sym hm (Hl hs) (e▸h) ha hn w).mono fun _ _ ⟨_,hv,k⟩=>hv▸k
end Go.Proofs.YtnmbfjgcmfjdcaaGreatDoor.Ck

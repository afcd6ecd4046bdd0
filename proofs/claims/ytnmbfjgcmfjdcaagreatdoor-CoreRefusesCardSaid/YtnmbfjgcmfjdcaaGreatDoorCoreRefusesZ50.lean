/- Texts of CoreRefuses's proof, together. -/
import Derived.Test.YtnmbfjgcmfjdcaaGreatDoorCoreRefusesZ48
import Derived.Test.YtnmbfjgcmfjdcaaGreatDoorClC
namespace Go.Proofs.YtnmbfjgcmfjdcaaGreatDoor
/- The checker's hook for functions of numbers alone: answered by their contracts. -/
namespace Ck
open Go Go.RowKit
variable {f:FuncId} {P:Program} {v:Value}
abbrev iF:=List Value→Option Value
/-- A function that answers by a rule, whatever the world. -/
def jO (P:Program) (f:FuncId) (r:iF):Prop:=∀args v,r args=some v→∀w,Calls P f args.toArray w (aV v w)
def Gi:List (FuncId×iF)→FuncId→Option iF
 |[],_=>none
 |e::l,f=>match Nat.beq e.1 f with
  |true=>some e.2
  |false=>Gi l f
theorem Cq:∀{l:List (FuncId×iF)} {f:FuncId} {r:iF},Gi l f=some r→(f,r)∈l
 |[],_,_,h=>by cases h
 |e::l,f,r,h=>by
  unfold Gi at h;split at h
  ·rename_i he;cases h;have he':=Nat.eq_of_beq_eq_true he;subst he';simp
  ·exact List.mem_cons_of_mem _ (Cq h)
def xq (GY:List (FuncId×iF)):fu:=fun f args σ=>match Gi GY f with
 |some r=>if args.all fF=true then match r args.toList with
  |some v=>if ou v=true then some [(v,σ)] else none
  |none=>none
  else none
 |none=>none
theorem Ga {GY:List (FuncId×iF)} {args:Array Value} {σ:St} {outs:List (Value×St)} (h:xq GY f args σ=some outs):
  ∃r v,(f,r)∈GY∧args.all fF=true∧r args.toList=some v∧ou v=true∧outs=[(v,σ)]:=by
 unfold xq at h;split at h
 ·rename_i r hr;split at h
  ·rename_i ha;split at h
   ·rename_i v hv;split at h
    ·rename_i hs;cases h;exact⟨r,v,Cq hr,ha,hv,hs,rfl⟩
    ·cases h
   ·cases h
  ·cases h
 ·cases h
theorem Kj {ks:List Nat} {hk:fu} {GY:List (FuncId×iF)} (ht:∀e∈GY,jO P e.1 e.2):ib ⟨P,[],ks,hk⟩ (xq GY):=by
 intro f args σ outs h;obtain⟨r,v,hm,ha,hv,hs,rfl⟩:=Ga h;refine⟨⟨by simp,fun x hx=>by simp at hx;subst hx;exact .refl σ⟩,fun φ args' L w hg hrel hw hp hgood=> ?_⟩;have hpre:=hp _ (List.mem_singleton.2 rfl);obtain rfl:=bu.yn ha hrel;refine(ht _ hm args'.toList v hv w).mono ?_;rintro e w' ⟨rfl,hb⟩;exact⟨_,List.mem_singleton.2 rfl,_,φ,L,rfl, .Ca hs,AQ hgood hw hpre.2 rfl rfl rfl hb⟩
instance aa2 (n:Int):Decidable (eZ n):=by unfold eZ;infer_instance
instance aa4 (n:Int):Decidable (WR n):=by unfold WR;infer_instance
instance aa1 (p:P3):Decidable (dJ p):=by unfold dJ;infer_instance
instance aa6 (m:Mu):Decidable m.In:=by unfold Mu.In;infer_instance
instance aa7 (a:It):Decidable a.In:=by unfold It.In;infer_instance
instance aa5 (r:Rq):Decidable r.In:=by unfold Rq.In;infer_instance
def pD:Value→Option P3
 | .agg cs=>match cs.toList with
   |[a,b,c]=>(numOf .u64 a).bind fun t=>(numOf .u32 b).bind fun r=>(numOf .u32 c).bind fun v=>if dJ (t,r,v) then some (t,r,v) else none
   |_=>none
 |_=>none
theorem xR {cs:Array Value} {l:List Value} (h:cs.toList=l):Value.agg cs= .agg l.toArray:=by
 rw[←h]
theorem Cv {p:P3} (h:pD v=some p):v=pv p∧dJ p:=by
 unfold pD at h;split at h
 ·split at h
  ·rename_i a b c hl;simp only[Option.bind_eq_some_iff] at h;obtain⟨t,h1,r,h2,v,h3,h4⟩:=h;split at h4
   ·rename_i hin;cases h4;rw[xR hl,bN h1,bN h2,bN h3];exact⟨rfl,hin⟩
   ·cases h4
  ·cases h
 ·cases h
def mD:Value→Option Mu
 | .agg cs=>match cs.toList with
   |[a,b,c,d,e]=>(numOf .u64 a).bind fun t=>(numOf .i64 b).bind fun h=>(numOf .u64 c).bind fun l=>(numOf .u64 d).bind fun x=>(numOf .i64 e).bind fun n=>
    if (Mu.mk t (h*18446744073709551616+l) x n).In∧0≤l∧l<18446744073709551616 then some ⟨t,h*18446744073709551616+l,x,n⟩ else none
   |_=>none
 |_=>none
theorem Gm {m:Mu} (h:mD v=some m):v=m.val∧m.In:=by
 unfold mD at h;split at h
 ·split at h
  ·rename_i a b c d e hl;simp only[Option.bind_eq_some_iff] at h;obtain⟨t,h1,hh,h2,l,h3,x,h4,n,h5,h6⟩:=h;split at h6
   ·rename_i hin;cases h6;obtain⟨hin,l0,l1⟩:=hin;have e1:aJ (hh*18446744073709551616+l)=hh:=by unfold aJ;omega
    have e2:aI (hh*18446744073709551616+l)=l:=by unfold aI;omega
    rw[xR hl,bN h1,bN h2,bN h3,bN h4,bN h5];refine⟨?_,hin⟩;simp only[Mu.val,e1,e2]
   ·cases h6
  ·cases h
 ·cases h
def iD:Value→Option It
 | .agg cs=>match cs.toList with
   |[a,b,c,d,e,f,g]=>(numOf .u64 a).bind fun t=>(numOf .u32 b).bind fun r=>(numOf .u32 c).bind fun v=>(numOf .i64 d).bind fun i=>(numOf .u64 e).bind fun u=>(numOf .u32 f).bind fun s=>(numOf .u32 g).bind fun y=>
    if (It.mk t r v i u s y).In then some ⟨t,r,v,i,u,s,y⟩ else none
   |_=>none
 |_=>none
theorem MJ {a:It} (h:iD v=some a):v=a.val∧a.In:=by
 unfold iD at h;split at h
 ·split at h
  ·rename_i a b c d e f g hl;simp only[Option.bind_eq_some_iff] at h;obtain⟨t,h1,r,h2,v,h3,i,h4,u,h5,s,h6,y,h7,h8⟩:=h;split at h8
   ·rename_i hin;cases h8;rw[xR hl,bN h1,bN h2,bN h3,bN h4,bN h5,bN h6,bN h7];exact⟨rfl,hin⟩
   ·cases h8
  ·cases h
 ·cases h
def rD (v:Value):Option Rq:=(Rq.dec v).bind fun r=>if r.In then some r else none
theorem Tf {r:Rq} (h:rD v=some r):v=r.val∧r.In:=by
 simp only[rD,Option.bind_eq_some_iff] at h;obtain⟨r',h1,h2⟩:=h;split at h2
 ·rename_i hin;cases h2;exact⟨Rq.Dg h1,hin⟩
 ·cases h2
def tD (v:Value):Option Int:=(numOf .u64 v).bind fun n=>if eZ n then some n else none
theorem Tc {n:Int} (h:tD v=some n):v= .int .u64 n∧eZ n:=by
 simp only[tD,Option.bind_eq_some_iff] at h;obtain⟨r',h1,h2⟩:=h;split at h2
 ·rename_i hin;cases h2;exact⟨bN h1,hin⟩
 ·cases h2
def I9 (r:Mu→P3→Value):iF
 |[a,b]=>(mD a).bind fun m=>(pD b).map fun p=>r m p
 |_=>none
theorem zf {r:Mu→P3→Value} (h:∀m p,m.In→dJ p→∀w,Calls P f #[m.val,pv p] w (aV (r m p) w)):jO P f (I9 r):=fun args v hv w=>by
 unfold I9 at hv;split at hv
 ·simp only[Option.bind_eq_some_iff,Option.map_eq_some_iff] at hv;obtain⟨m,h1,p,h2,rfl⟩:=hv;obtain⟨rfl,hm⟩:=Gm h1;obtain⟨rfl,hp⟩:=Cv h2;exact h m p hm hp w
 ·cases hv
def fM (r:Mu→Value):iF
 |[a]=>(mD a).map r
 |_=>none
theorem Zq {r:Mu→Value} (h:∀m,m.In→∀w,Calls P f #[m.val] w (aV (r m) w)):jO P f (fM r):=fun args v hv w=>by
 unfold fM at hv;split at hv
 ·simp only[Option.map_eq_some_iff] at hv;obtain⟨m,h1,rfl⟩:=hv;obtain⟨rfl,hm⟩:=Gm h1;exact h m hm w
 ·cases hv
def Xx (r:Mu→Int→Value):iF
 |[a,b]=>(mD a).bind fun m=>(numOf .u64 b).map fun t=>r m t
 |_=>none
theorem Xw {r:Mu→Int→Value} (h:∀m t,m.In→∀w,Calls P f #[m.val, .int .u64 t] w (aV (r m t) w)):jO P f (Xx r):=fun args v hv w=>by
 unfold Xx at hv;split at hv
 ·simp only[Option.bind_eq_some_iff,Option.map_eq_some_iff] at hv;obtain⟨m,h1,t,h2,rfl⟩:=hv;obtain⟨rfl,hm⟩:=Gm h1;rw[bN h2];exact h m t hm w
 ·cases hv
def TL (r:It→It→Value):iF
 |[a,b]=>(iD a).bind fun x=>(iD b).map fun y=>r x y
 |_=>none
theorem Pe {r:It→It→Value} (h:∀a b,a.In→b.In→∀w,Calls P f #[a.val,b.val] w (aV (r a b) w)):jO P f (TL r):=fun args v hv w=>by
 unfold TL at hv;split at hv
 ·simp only[Option.bind_eq_some_iff,Option.map_eq_some_iff] at hv;obtain⟨m,h1,p,h2,rfl⟩:=hv;obtain⟨rfl,hm⟩:=MJ h1;obtain⟨rfl,hp⟩:=MJ h2;exact h m p hm hp w
 ·cases hv
def Xq (r:Rq→Int→Value):iF
 |[a,b]=>(rD a).bind fun x=>(tD b).map fun n=>r x n
 |_=>none
theorem Xp {r:Rq→Int→Value} (h:∀q n,q.In→eZ n→∀w,Calls P f #[q.val, .int .u64 n] w (aV (r q n) w)):jO P f (Xq r):=fun args v hv w=>by
 unfold Xq at hv;split at hv
 ·simp only[Option.bind_eq_some_iff,Option.map_eq_some_iff] at hv;obtain⟨m,h1,p,h2,rfl⟩:=hv;obtain⟨rfl,hm⟩:=Tf h1;obtain⟨rfl,hp⟩:=Tc h2;exact h m p hm hp w
 ·cases hv
def wD:Value→Option Int
 | .agg cs=>match cs.toList with
   |[a,b]=>(numOf .i64 a).bind fun h=>(numOf .u64 b).bind fun l=>
    if WR (h*18446744073709551616+l)∧0≤l∧l<18446744073709551616 then some (h*18446744073709551616+l) else none
   |_=>none
 |_=>none
theorem LW {x:Int} (h:wD v=some x):v=wv x∧WR x:=by
 unfold wD at h;split at h
 ·split at h
  ·rename_i a b hl;simp only[Option.bind_eq_some_iff] at h;obtain⟨hh,h1,l,h2,h3⟩:=h;split at h3
   ·rename_i hin;cases h3;obtain⟨hin,l0,l1⟩:=hin;have e1:aJ (hh*18446744073709551616+l)=hh:=by unfold aJ;omega
    have e2:aI (hh*18446744073709551616+l)=l:=by unfold aI;omega
    rw[xR hl,bN h1,bN h2,wv,e1,e2];exact⟨rfl,hin⟩
   ·cases h3
  ·cases h
 ·cases h
def TK (r:Int→Int→Value):iF
 |[a,b]=>(wD a).bind fun x=>(wD b).map fun y=>r x y
 |_=>none
theorem Pb {r:Int→Int→Value} (h:∀a b,WR a→WR b→∀w,Calls P f #[wv a,wv b] w (aV (r a b) w)):jO P f (TK r):=fun args v hv w=>by
 unfold TK at hv;split at hv
 ·simp only[Option.bind_eq_some_iff,Option.map_eq_some_iff] at hv;obtain⟨m,h1,p,h2,rfl⟩:=hv;obtain⟨rfl,hm⟩:=LW h1;obtain⟨rfl,hp⟩:=LW h2;exact h m p hm hp w
 ·cases hv
def fW (r:Int→Value):iF
 |[a]=>(wD a).map r
 |_=>none
theorem Zo {r:Int→Value} (h:∀a,WR a→∀w,Calls P f #[wv a] w (aV (r a) w)):jO P f (fW r):=fun args v hv w=>by
 unfold fW at hv;split at hv
 ·simp only[Option.map_eq_some_iff] at hv;obtain⟨m,h1,rfl⟩:=hv;obtain⟨rfl,hm⟩:=LW h1;exact h m hm w
 ·cases hv
def Xv (r:P3→P3→Value):iF
 |[a,b]=>(pD a).bind fun x=>(pD b).map fun y=>r x y
 |_=>none
theorem Xu {r:P3→P3→Value} (h:∀a b,dJ a→dJ b→∀w,Calls P f #[pv a,pv b] w (aV (r a b) w)):jO P f (Xv r):=fun args v hv w=>by
 unfold Xv at hv;split at hv
 ·simp only[Option.bind_eq_some_iff,Option.map_eq_some_iff] at hv;obtain⟨m,h1,p,h2,rfl⟩:=hv;obtain⟨rfl,hm⟩:=Cv h1;obtain⟨rfl,hp⟩:=Cv h2;exact h m p hm hp w
 ·cases hv
def Xt (r:P3→Int→Value):iF
 |[a,b]=>(pD a).bind fun x=>(numOf .u64 b).map fun y=>r x y
 |_=>none
theorem Xr {r:P3→Int→Value} (h:∀a b,dJ a→∀w,Calls P f #[pv a, .int .u64 b] w (aV (r a b) w)):jO P f (Xt r):=fun args v hv w=>by
 unfold Xt at hv;split at hv
 ·simp only[Option.bind_eq_some_iff,Option.map_eq_some_iff] at hv;obtain⟨m,h1,t,h2,rfl⟩:=hv;obtain⟨rfl,hm⟩:=Cv h1;rw[bN h2];exact h m t hm w
 ·cases hv
def fI (r:It→Value):iF
 |[a]=>(iD a).map r
 |_=>none
theorem Zr {r:It→Value} (h:∀a,a.In→∀w,Calls P f #[a.val] w (aV (r a) w)):jO P f (fI r):=fun args v hv w=>by
 unfold fI at hv;split at hv
 ·simp only[Option.map_eq_some_iff] at hv;obtain⟨m,h1,rfl⟩:=hv;obtain⟨rfl,hm⟩:=MJ h1;exact h m hm w
 ·cases hv
def fR (r:Rq→Value):iF
 |[a]=>(rD a).map r
 |_=>none
theorem Zp {r:Rq→Value} (h:∀a,a.In→∀w,Calls P f #[a.val] w (aV (r a) w)):jO P f (fR r):=fun args v hv w=>by
 unfold fR at hv;split at hv
 ·simp only[Option.map_eq_some_iff] at hv;obtain⟨m,h1,rfl⟩:=hv;obtain⟨rfl,hm⟩:=Tf h1;exact h m hm w
 ·cases hv
def R9:iF
 |[a,b,c]=>(pD a).bind fun p=>(numOf .i64 b).bind fun i=>(tD c).bind fun n=>if-9223372036854775808≤i∧i≤9223372036854775807 then some (.tuple #[Rq.val (Rq.new p i n).1, .bool (Rq.new p i n).2]) else none
 |_=>none
theorem Vb:jO Tryz.prog 39 R9:=fun args v hv w=>by
 unfold R9 at hv;split at hv
 ·simp only[Option.bind_eq_some_iff] at hv;obtain⟨p,h1,i,h2,n,h3,h4⟩:=hv;split at h4
  ·rename_i hi;cases h4;obtain⟨rfl,hp⟩:=Cv h1;obtain⟨rfl,hn⟩:=Tc h3;rw[bN h2];exact gX.new p hp i n hi hn w
  ·cases h4
 ·cases hv
def I8:iF
 |[a,b,c,d]=>(mD a).bind fun m=>(numOf .u64 b).bind fun t=>(numOf .u32 c).bind fun v=>(numOf .i64 d).bind fun o=>
  if 0≤v∧v≤4294967295∧-9223372036854775808≤o∧o≤9223372036854775807 then some (.tuple #[pv (m.place t v o).2, .bool (m.place t v o).1]) else none
 |_=>none
theorem Pd:jO Tryz.prog 38 I8:=fun args v hv w=>by
 unfold I8 at hv;split at hv
 ·simp only[Option.bind_eq_some_iff] at hv;obtain⟨m,h1,t,h2,y,h3,o,h4,h5⟩:=hv;split at h5
  ·rename_i hi;cases h5;obtain⟨rfl,hm⟩:=Gm h1;rw[bN h2,bN h3,bN h4];exact Place.place m t y o hm hi.1 hi.2.1 hi.2.2.1 hi.2.2.2 w
  ·cases h5
 ·cases hv
/-- The functions of numbers alone. -/
def H5:List (FuncId×iF):=[
 (147,I9 fun m p=> .tuple #[Mu.val (m.add p).2, .bool (m.add p).1]),
 (166,I9 fun m p=> .tuple #[Mu.val (m.take p).2, .bool (m.take p).1]),
 (175,Xx fun m t=> .tuple #[Mu.val (m.q9 t).2, .bool (m.q9 t).1]),
 (174,fM fun m=> .tuple #[.int .u64 m.fl.2, .bool m.fl.1]),
 (85,I9 fun m p=> .tuple #[.int .i64 (m.sign p).2, .bool (m.sign p).1]),
 (31,I9 fun m p=> .tuple #[wv (m.lag p).2, .bool (m.lag p).1]),
 (121,TL fun a b=> .bool (It.ahead a b)),
 (159,TL fun a b=> .bool (It.due a b)),
 (76,Xq fun r n=> .tuple #[Rq.val (r.serve n).1, .bool (r.serve n).2.1, .bool (r.serve n).2.2]),
 (39,R9),
 (156,I9 fun m p=> .bool (m.jM p)),
 (107,fI fun a=> .bool (It.right a)),
 (90,fR fun a=> .bool a.right),
 (89,TK fun a b=> .tuple #[wv (eQ (a+b)), .bool (okW (a+b))]),
 (97,TK fun a b=> .tuple #[wv (eQ (a-b)), .bool (okW (a-b))]),
 (151,fW fun a=>wv (q8 a)),
 (161,Xv fun a b=> .int .i64 (Ew a b)),
 (88,Xt fun p t=>wv (Go.Proofs.YtnmbfjgcmfjdcaaGreatDoor.pD t p)),
 (38,I8)]
theorem Ow:∀e∈H5,jO Tryz.prog e.1 e.2:=fun e he=>by
 simp only[H5,List.mem_cons,List.not_mem_nil,or_false] at he;rcases he with rfl|rfl|rfl|rfl|rfl|rfl|rfl|rfl|rfl|rfl|rfl|rfl|rfl|rfl|rfl|rfl|rfl|rfl|rfl
 ·exact zf fun m p hm hp w=>jm.add m p hm hp w
 ·exact zf fun m p hm hp w=>jm.take m p hm hp w
 ·exact Xw fun m t hm w=>jm.Oi m t hm w
 ·exact Zq fun m hm w=>jm.floor m hm w
 ·exact zf fun m p hm hp w=>qc.sign m p hm hp w
 ·exact zf fun m p hm hp w=>qc.read m p hm hp w
 ·exact Pe fun a b ha hb w=>Item.ahead a b ha hb w
 ·exact Pe fun a b ha hb w=>Item.due a b ha hb w
 ·exact Xp fun r n hr hn w=>gX.serve r hr n hn w
 ·exact Vb
 ·exact zf fun m p hm hp w=>qc.eligible m p hm hp w
 ·exact Zr fun a _ w=>Item.right a w
 ·exact Zp fun a ha w=>gX.right a ha w
 ·exact Pb fun a b ha hb w=>bK.SB ha hb w
 ·exact Pb fun a b ha hb w=>bK.VI ha hb w
 ·exact Zo fun a ha w=>qw.size a ha w
 ·exact Xu fun a b ha hb w=>Pos.XF ha hb w
 ·exact Xr fun a t ha w=>Pos.FD t ha w
 ·exact Pd
/-- All hooks. -/
def Ez:fu:=fun f args σ=>match xq H5 f args σ with
 |some r=>some r
 |none=>Ec f args σ
theorem Dp {ks:List Nat} {hk:fu}:ib ⟨Tryz.prog,[],ks,hk⟩ Ez:=by
 intro f args σ outs h;unfold Ez at h;split at h
 ·rename_i r hr;cases h;exact Kj (ks:=ks) (hk:=hk) Ow f args σ _ hr
 ·exact nD (ks:=ks) (hk:=hk) f args σ _ h
#print axioms Dp
end Ck

/- The example of the layer core, by the checker, in two pieces. -/
section
open Go Go.RowKit Ck
/-- What the example of core may call by name: the example of settle. -/
noncomputable abbrev e18:Env:=⟨Tryz.prog,[],[17],Ez⟩
noncomputable abbrev b18:Code:=M6 e18 4
noncomputable abbrev n18:Nat:=V7 e18 4
abbrev lu (n:Nat):Value:= .int .u64 (.ofNat n)
abbrev li (n:Nat):Value:= .int .i64 (.ofNat n)
abbrev lw (n:Nat):Value:= .int .u32 (.ofNat n)
abbrev lp (n:Nat):Value:= .pointer (some ⟨n,0,none⟩)
abbrev ls:Value:= .slice none 0 0
abbrev lc (a:Array Value) (t:Nat):Option cz:=some (.cells a t 0)
abbrev ln {α:Type} (l:Tree α) (x:Option α) (r:Tree α):Tree α:= .node l x r
abbrev lf {α:Type} (x:α):Tree α:= .node .leaf (some x) .leaf
abbrev lg {α:Type} (x:Option α):Tree α:= .node .leaf x .leaf
def Z5:Tree Value:=(ln (ln (ln (ln (lf (li 0)) none .leaf) (some (li 0)) (ln .leaf (some (.tuple #[(.agg #[ls,ls]),(li 0)])) .leaf)) (some (lp 9)) (ln (lf (lp 9)) none (ln .leaf (some (.tuple #[(.agg #[ls,ls]),(li 0)])) .leaf))) (some (.bool false)) (ln (ln (lf (lp 9)) none (lf (lp 9))) (some (lp 94)) (ln (lf (.bool false)) none (lf (.agg #[ls,ls])))))
def Z6:St:=⟨(ln (ln (ln (ln (ln (ln (lg (lc #[(lu 0),(lw 0),(lw 1),(li 1),(lu 2097152),(lw 0),(lw 1)] 57)) (lc #[(lu 0),(lw 0),(lw 1),(li 1),(lu 2097152),(lw 0),(lw 1),(lu 2),(lu 2),(.bool false)] 59) .leaf) (lc #[ls,ls] 36) (ln (lg (lc #[(li 0),(lu 2)] 42)) (lc #[(lu 0),(lw 0),(lw 1)] 55) .leaf)) (some (.other (.map #[] 0))) (ln (ln (lg (lc #[(li 0),(lu 0)] 42)) (lc #[(lu 0),(li 0),(lu 0),(lu 1),(li 1)] 79) .leaf) (lc #[(lp 22),(li 1),(li 0),(lu 2)] 47) (ln (lg (lc #[(lu 0),(lw 0),(lw 1),(li 1),(lu 2097152),(lw 0),(lw 1)] 57)) (lc #[(lu 0),(lw 0),(lw 1),(li 1),(lu 2097152),(lw 0),(lw 1)] 57) .leaf))) (some (.cells #[(.func (.func 118) #[] #[])] 176 0)) (ln (ln (ln (lg (lc #[(li 0),(lu 0)] 42)) (lc #[(lu 0),(lw 0),(lw 1),(li 1),(lu 2097152),(lw 0),(lw 1)] 57) .leaf) (some (.cells #[(.func (.func 121) #[] #[]),(.func (.func 118) #[] #[]),(.func (.func 160) #[] #[(lp 2),(lp 3)]),(lp 56),(li 1)] 212 0)) (ln (lg (lc #[(lu 0),(lw 0),(lw 1),(li 1),(lu 2097152),(lw 0),(lw 1)] 57)) (lc #[(lu 0),(li 0),(lu 0),(lu 1),(li 1)] 79) .leaf)) (lc #[(lw 1)] 29) (ln (ln (lg (lc #[(li 0),(lu 2)] 42)) (lc #[(lu 0),(lw 0),(lw 1)] 55) .leaf) (lc #[(lu 0),(lw 0),(lw 0),(li 0),(lu 0),(lw 0),(lw 0),(lu 0),(lu 0),(.bool false)] 59) (ln (lg (lc #[(lu 0),(lw 0),(lw 1),(li 1),(lu 2097152),(lw 0),(lw 1)] 57)) (lc #[(lu 0),(lw 0),(lw 1),(li 1),(lu 2097152),(lw 0),(lw 1)] 57) .leaf)))) (lc #[(lp 4)] 83) (ln (ln (ln (ln (lg (lc #[(li 0),(lu 0)] 42)) (lc #[(lu 0),(lw 0),(lw 1),(li 1),(lu 2097152),(lw 0),(lw 1),(lu 2),(lu 2),(.bool false)] 59) .leaf) (lc #[(lp 4)] 83) (ln (lg (lc #[(lu 0),(lw 0),(lw 1),(li 1),(lu 2097152),(lw 0),(lw 1),(lu 2),(lu 2),(.bool false)] 59)) (lc #[(lu 0),(li 0),(lu 0),(lu 1),(li 1)] 79) .leaf)) (lc #[(lp 22),(li 1),(li 0),(lu 2)] 47) (ln (ln (lg (lc #[(li 0),(lu 0),(li 0),(lu 0),(li 0),(lu 2)] 42)) (some (.cells #[(lu 0),(lw 0),(lw 1),(li 1),(lu 2097152),(lw 0),(lw 1)] 57 7)) .leaf) (lc #[(lu 0),(lw 0),(lw 0),(li 0),(lu 0),(lw 0),(lw 0),(lu 0),(lu 0),(.bool false)] 59) (ln (lg (lc #[(lu 0),(lw 0),(lw 1),(li 1),(lu 2097152),(lw 0),(lw 1)] 57)) (lc #[(lu 0),(lw 0),(lw 1),(li 1),(lu 2097152),(lw 0),(lw 1)] 57) .leaf))) (lc #[(lp 4)] 83) (ln (ln (ln (lg (lc #[(li 0),(lu 2)] 42)) (lc #[(lu 0),(li 0),(lu 0),(lu 1),(li 1)] 79) .leaf) (some (.other (.map #[⟨(li 1),(.agg #[(lu 0),(lw 0),(lw 1),(li 1),(lu 2097152),(lw 0),(lw 1),(lu 2),(lu 2),(.bool false)]),0⟩] 1))) (ln (lg (lc #[(lu 0),(lw 0),(lw 1),(li 1),(lu 2097152),(lw 0),(lw 1)] 57)) (lc #[(lu 0),(lw 0),(lw 1),(li 1),(lu 2097152),(lw 0),(lw 1)] 57) .leaf)) (lc #[(li 0)] 2) (ln (ln (lg (lc #[(li 0),(lu 0)] 42)) (lc #[(lu 2097152),(lw 0),(lw 1)] 55) .leaf) (lc #[(lu 0),(lw 0),(lw 0),(li 0),(lu 0),(lw 0),(lw 0),(lu 0),(lu 0),(.bool false)] 59) (ln (lg (lc #[(lu 0),(lw 0),(lw 1),(li 1),(lu 2097152),(lw 0),(lw 1)] 57)) (lc #[(li 0),(lu 0)] 42) .leaf))))) (some (.other (.map #[] 0))) (ln (ln (ln (ln (ln (lg (lc #[(lu 0),(lw 0),(lw 1),(li 1),(lu 2097152),(lw 0),(lw 1)] 57)) (lc #[(lp 22)] 45) .leaf) (some (.other (.map #[⟨(li 1),(.agg #[(lu 0),(lw 0),(lw 1),(li 1),(lu 2097152),(lw 0),(lw 1)]),0⟩] 1))) (ln (lf (.cells #[(lu 0),(lw 0),(lw 1),(li 1),(lu 2097152),(lw 0),(lw 1),(lu 2),(lu 2),(.bool false)] 59 10)) (lc #[(lu 2097152),(lw 0),(lw 1)] 55) .leaf)) (lc #[(lp 6),(.map (some 7))] 51) (ln (ln (lg (lc #[(li 0),(lu 2)] 42)) (lc #[(lu 0),(lw 0),(lw 1),(li 1),(lu 2097152),(lw 0),(lw 1)] 57) .leaf) (lc #[ls,ls] 36) (ln (lg (lc #[(lu 0),(lw 0),(lw 1),(li 1),(lu 2097152),(lw 0),(lw 1)] 57)) (lc #[(lu 0),(lw 0),(lw 1),(li 1),(lu 2097152),(lw 0),(lw 1),(lu 0),(lw 0),(lw 1),(li 1),(lu 2097152),(lw 0),(lw 1),(.pointer none),(.pointer none),(.bool false)] 209) .leaf))) (some (.cells #[(.func (.func 121) #[] #[]),(.func (.func 118) #[] #[]),(.func (.func 160) #[] #[(lp 2),(lp 3)]),(.pointer none),(li 0)] 212 0)) (ln (ln (ln (lg (lc #[(li 0),(lu 0)] 42)) (lc #[(lu 0),(lw 0),(lw 0),(li 0),(lu 0),(lw 0),(lw 0)] 57) .leaf) (lc #[(lu 0),(li 0),(lu 0),(lu 1),(li 1),(.map (some 16)),(lp 19)] 85) (ln (lg (lc #[(lp 19)] 83)) (lc #[(lu 0),(lw 0),(lw 1),(li 1),(lu 2097152),(lw 0),(lw 1)] 57) .leaf)) (lc #[(lu 2)] 22) (ln (ln (lg (lc #[(li 0),(lu 0)] 42)) (some (.cells #[(lu 0),(lw 0),(lw 1)] 55 3)) .leaf) (lc #[(lu 0),(lw 0),(lw 0),(li 0),(lu 0),(lw 0),(lw 0),(lu 0),(lu 0),(.bool false)] 59) (ln (lg (lc #[(lu 0),(lw 0),(lw 1),(li 1),(lu 2097152),(lw 0),(lw 1)] 57)) (lc #[(li 0),(lu 0)] 42) .leaf)))) (some (.cells #[(.func (.func 117) #[] #[])] 174 0)) (ln (ln (ln (ln (lg (lc #[(li 0),(lu 0)] 42)) (lc #[(lu 0),(lw 0),(lw 1),(li 1),(lu 2097152),(lw 0),(lw 1),(lu 2),(lu 2),(.bool false)] 59) .leaf) (lc #[(lp 19)] 83) (ln (lg (lc #[(lp 20)] 48)) (lc #[(lu 0),(li 0),(lu 0),(lu 1),(li 1)] 79) .leaf)) (lc #[(li 1)] 3) (ln (ln (lg (lc #[(li 0),(lu 2)] 42)) (lc #[(lu 0),(lw 0),(lw 1),(li 1),(lu 2097152),(lw 0),(lw 1)] 57) .leaf) (lc #[(lu 0),(lw 0),(lw 0),(li 0),(lu 0),(lw 0),(lw 0),(lu 0),(lu 0),(.bool false)] 59) (ln (lg (lc #[(lu 0),(lw 0),(lw 1),(li 1),(lu 2097152),(lw 0),(lw 1)] 57)) (lc #[(lu 0),(lw 0),(lw 1),(li 1),(lu 2097152),(lw 0),(lw 1)] 57) .leaf))) (lc #[(lu 0),(li 0),(lu 0),(lu 0),(li 0),(.map (some 0)),(lp 4)] 85) (ln (ln (ln (lg (lc #[(li 0),(lu 2)] 42)) (lc #[(lu 0),(lw 0),(lw 1),(li 1),(lu 2097152),(lw 0),(lw 1)] 57) .leaf) (lc #[(lp 20),(.map (some 21))] 51) (ln (lg (lc #[(lu 0),(lw 0),(lw 1),(li 1),(lu 2097152),(lw 0),(lw 1)] 57)) (lc #[(lu 0),(lw 0),(lw 1),(li 1),(lu 2097152),(lw 0),(lw 1)] 57) .leaf)) (lc #[ls,ls] 36) (ln (ln (lg (lc #[(li 0),(lu 2)] 42)) (some (.cells #[(lu 2097152),(lw 0),(lw 1)] 55 3)) .leaf) (lc #[(lu 0),(lw 0),(lw 1)] 55) (ln (lg (lc #[ls,ls] 36)) (lc #[(lu 0),(lw 0),(lw 1),(li 1),(lu 2097152),(lw 0),(lw 1)] 57) .leaf)))))),95,19807040628548069930485940223,38041258878002792782360330786⟩
theorem XX:chain e18 n18 3000 (tZ 4 b18).1 (fromList 0 []) VE=some (2996,Z5,Z6):=by kernel_rfl
theorem XW:SY (R7 e18 4 (Dh e18 2996 n18 (tZ 4 b18).2 Z5 Z6))=true:=by kernel_rfl
theorem Zy:holds e18 3000 4=true:=by
 rw[MP (by kernel_rfl) (by kernel_rfl) (by kernel_rfl)]
 rw[Ps XX]
 exact XW
theorem Zz:True' Tryz.prog 4:=nE (n:=3000) mixed Dp (dS ZB known0) Zy
end

end Go.Proofs.YtnmbfjgcmfjdcaaGreatDoor

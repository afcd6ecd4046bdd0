import Derived.Test.YtnmbfjgcmfjdcaaGreatDoorCoreRefusesZ21
import Derived.Test.YtnmbfjgcmfjdcaaGreatDoorRbB
import Derived.Maps.OwnSet
import Derived.Maps.Views
namespace Go.Proofs.YtnmbfjgcmfjdcaaGreatDoor
open Go.RowKit
set_option maxRecDepth 100000
set_option maxHeartbeats 32000000
variable {i:Int} {w:World} {l:List It} {b:Nat} {x:It}
def encI (x:It):DataW Unit:= .agg [.lit (.int .u64 x.t), .lit (.int .u32 x.r), .lit (.int .u32 x.v), .lit (.int .i64 x.i), .lit (.int .u64 x.u), .lit (.int .u32 x.s), .lit (.int .u32 x.y)]
def Z7:List Value→Option (DataW Unit×List MemPlace)
 |[.int .u64 t, .int .u32 r, .int .u32 v, .int .i64 i, .int .u64 u, .int .u32 s, .int .u32 y]=>some (encI ⟨t,r,v,i,u,s,y⟩,[])
 |_=>none
def wo (v:Value):Option (DataW Unit×List MemPlace):=match v with
 | .agg vs=>Z7 vs.toList
 |_=>none
theorem yV (x:It):wo x.val=some (encI x,[]):=rfl
theorem CK {v:Value} {z:DataW Unit×List MemPlace} (h:wo v=some z):∃x:It,v=x.val∧z=(encI x,[]):=by
 unfold wo at h;split at h
 ·rename_i vs;unfold Z7 at h;split at h
  ·rename_i t r v i u s y e;injection h with h;refine⟨⟨t,r,v,i,u,s,y⟩,?_,h.symm⟩
   have:vs= #[.int .u64 t, .int .u32 r, .int .u32 v, .int .i64 i, .int .u64 u, .int .u32 s, .int .u32 y]:=by
    rw[←Array.toArray_toList (xs:=vs),e]
   rw[this]
  ·cases h
 ·cases h
theorem Jc {x y:It} (h:encI x=encI y):x=y:=by
 unfold encI at h;simp only[DataW.agg.injEq,List.cons.injEq,DataW.lit.injEq,Lit.int.injEq,true_and,and_true] at h;obtain⟨h1,h2,h3,h4,h5,h6,h7⟩:=h;cases x;cases y;simp_all
abbrev iP (i:Int):Lit:= .int .i64 i
theorem lZ {i j:Int} (h:i≠j):iP i≠iP j:=fun e=>h (by injection e)
theorem pV (hw:(Lit.int .i64 i).wf=true):keyOf Tryz.prog 3 (.int .i64 i)=some (iP i):=Maps.keyOf_int_mk Tryz.underlying3 hw
theorem ko:Maps.Keyed Tryz.prog 3:=Maps.int_keyed Tryz.underlying3
theorem GA (w:World):(zeroValue 57).run Tryz.prog w= .ok It.zero.val w:=by kernel_rfl
theorem BP (h: -9223372036854775808≤i∧i≤9223372036854775807):(Lit.int .i64 i).wf=true:=by
 have e1:IntKind.i64.min= -9223372036854775808:=rfl;have e2:IntKind.i64.max=9223372036854775807:=rfl;simp[Lit.wf,e1,e2];omega
def jA (w:World) (b:Nat) (l:List It):Prop:=∃D,w.ownsMap Tryz.prog 3 wo b l.length D∧Maps.size D=l.length∧(∀x∈l,Maps.has D (iP x.i)=true∧∀z,D.atKey (iP x.i) z=encI x)∧∀i,(∀x∈l,x.i≠i)→Maps.has D (iP i)=false
theorem Cw {b n:Nat} {D:DataW Unit} (h:w.ownsMap Tryz.prog 3 wo b n D):w.ownsMap Tryz.prog 3 wo b (Maps.size D) D:=by
 obtain⟨es,clock,hb,F,hs,rfl⟩:=h;exact⟨es,clock,hb,F,by rw[Maps.size_eq,length_sorted];simp,rfl⟩
theorem jA.made (w:World):jA (w.alloc (.map #[] 0)) w.heap.size []:=by
 refine⟨.map [],World.ownsMap_made _ _ _ _,rfl,?_,fun i _=>rfl⟩;intro x hx;simp at hx
theorem jA.lt {w:World} {b:Nat} {l:List It} (h:jA w b l):b<w.heap.size:=by obtain⟨D,h,_⟩:=h;exact h.lt
theorem jA.aG {F:List Nat} {w w':World} (h:jA w b l) (hc:ax F w w') (hb:b∉F):jA w' b l:=by
 obtain⟨D,⟨es,clock,hh,r⟩,hr⟩:=h;exact⟨D,⟨es,clock,(hc.block b (Array.getElem?_eq_some_iff.1 hh).1 hb).trans hh,r⟩,hr⟩
theorem jA.below {w w':World} {b:Nat} {l:List It} (h:jA w b l) (hb:Below w w w'):jA w' b l:=h.aG (F:=[]) (ax.below hb) ag
theorem jA.cell {w:World} {b:Nat} {l:List It} (h:jA w b l) (o:Nat):w.cell? ⟨b,o,none⟩=none:=by
 obtain⟨D,⟨es,clock,hh,_⟩,_⟩:=h;simp[World.cell?,hh]
theorem jA.perm {l k:List It} (h:jA w b l) (p:l.Perm k):jA w b k:=by
 obtain⟨D,h1,h2,h3,h4⟩:=h;exact⟨D,by rw[←p.length_eq];exact h1,by rw[←p.length_eq];exact h2,fun x hx=>h3 x (p.mem_iff.2 hx),fun i hi=>h4 i (fun x hx=>hi x (p.mem_iff.1 hx))⟩
theorem jA.yes (h:jA w b l) (hx:x∈l) (hi:x.In):(Instr.lookup 80 (.map (some b)) (.int .i64 x.i) true).run Tryz.prog w= .ok (.tuple #[x.val, .bool true]) w:=by
 obtain⟨D,h1,_,h3,_⟩:=h;obtain⟨v,ps,hr,hv⟩:=h1.look_ok ko Tryz.underlying80 (GA w) (yV It.zero) (pV (BP hi.2.2.2.1));rw[(h3 x hx).1] at hr;rw[(h3 x hx).2] at hv;obtain⟨y,rfl,e⟩:=CK hv;rw[←Jc (congrArg Prod.fst e)] at hr;exact hr
theorem jA.no (h:jA w b l) (hw: -9223372036854775808≤i∧i≤9223372036854775807) (hi:∀x∈l,x.i≠i):(Instr.lookup 80 (.map (some b)) (.int .i64 i) true).run Tryz.prog w= .ok (.tuple #[It.zero.val, .bool false]) w:=by
 obtain⟨D,h1,_,_,h4⟩:=h;obtain⟨v,ps,hr,hv⟩:=h1.look_ok ko Tryz.underlying80 (GA w) (yV It.zero) (pV (BP hw));rw[h4 i hi] at hr;rw[Maps.atKey_of_not_has (h4 i hi)] at hv;obtain⟨y,rfl,e⟩:=CK hv;rw[←Jc (congrArg Prod.fst e)] at hr;exact hr
theorem jA.len {w:World} {b:Nat} {l:List It} (h:jA w b l) (ty:TypeId):(Builtin.len_ #[80] ty #[.map (some b)]).run Tryz.prog w= .ok (.int .i64 l.length) w:=by
 obtain⟨D,h1,h2,_⟩:=h;rw[←h2];exact h1.len Tryz.underlying80 ty
theorem jA.put {w:World} {b:Nat} {l:List It} (h:jA w b l) {x:It} (hi:x.In) (hx:∀y∈l,y.i≠x.i) (hn:l.length≤1000000):
  ∃w',(Instr.mapUpdate 80 (.map (some b)) (.int .i64 x.i) x.val).run Tryz.prog w= .ok () w'∧jA w' b (x::l)∧ax [b] w w':=by
 obtain⟨D,h1,h2,h3,h4⟩:=h;obtain⟨w',hr,g1,g2⟩:=h1.update ko Tryz.underlying80 (by unfold maxLen;omega) (pV (BP hi.2.2.2.1)) (yV x)
 have hz:Maps.size (D.put (iP x.i) (encI x))=l.length+1:=by
  rw[Maps.size_put (h1.tidy ko),h4 x.i hx,h2];simp
 refine⟨w',hr,⟨_,by have:=Cw g1;rwa [hz] at this,hz,fun y hy=> ?_,fun i hi'=> ?_⟩,⟨g2.os,g2.tape,g2.output,g2.size,fun k hk hk'=>g2.block k hk (fun e=>hk' (by injection e with e;simp[e]))⟩⟩
 ·rcases List.mem_cons.1 hy with rfl|hy
  ·exact⟨Maps.has_put_same (k:=iP y.i) h1.isMap (by simp[WideAt.IsKeyLit]) _,fun z=>Maps.atKey_put_same (k:=iP y.i) h1.isMap (by simp[WideAt.IsKeyLit]) _ z⟩
  ·have e:=lZ (hx y hy);exact⟨by rw[Maps.has_put_other e];exact(h3 y hy).1,fun z=>by rw[Maps.atKey_put_other e];exact(h3 y hy).2 z⟩
 ·rw[Maps.has_put_other (lZ (fun e=>hi' x ag e.symm))];exact h4 i (fun y hy=>hi' y (by simp[hy]))
theorem jA.del {w:World} {b:Nat} {l k:List It} (h:jA w b l) {x:It} (hi:x.In) (p:l.Perm (x::k)) (hd:∀y∈k,y.i≠x.i) (ty:TypeId):
  ∃w',(Builtin.delete_ #[80,3] ty #[.map (some b), .int .i64 x.i]).run Tryz.prog w= .ok (.tuple #[]) w'∧jA w' b k∧ax [b] w w':=by
 obtain⟨D,h1,h2,h3,h4⟩:=h.perm p;obtain⟨w',hr,g1,g2⟩:=h1.drop ko Tryz.underlying80 (pV (BP hi.2.2.2.1)) ty
 have hz:Maps.size (D.del (iP x.i))=k.length:=by
  have:=Maps.size_del (k:=iP x.i) (h1.tidy ko);rw[(h3 x ag).1,h2] at this;simp at this;exact this
 have gg:=g2.grown;refine⟨w',hr,⟨_,by have:=Cw g1;rwa [hz] at this,hz,fun y hy=> ?_,fun i hi'=> ?_⟩,⟨gg.os,gg.tape,gg.output,gg.size,fun j hj hj'=>gg.block j hj (fun e=>hj' (by injection e with e;simp[e]))⟩⟩
 ·have e:=lZ (hd y hy);exact⟨by rw[Maps.has_del_other e];exact(h3 y (by simp[hy])).1,fun z=>by rw[Maps.atKey_del_other e];exact(h3 y (by simp[hy])).2 z⟩
 ·by_cases e:i=x.i
  ·rw[e];exact Maps.has_del_same
  ·rw[Maps.has_del_other (lZ e)]
   exact h4 i (fun y hy=>by
    rcases List.mem_cons.1 hy with rfl|hy
    ·exact fun e'=>e e'.symm
    ·exact hi' y hy)
end Go.Proofs.YtnmbfjgcmfjdcaaGreatDoor

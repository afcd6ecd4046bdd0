import Derived.Test.YtnmbfjgcmfjdcaaGreatDoorCoreRefusesZ25
import Derived.Test.YtnmbfjgcmfjdcaaGreatDoorMpA
namespace Go.Proofs.YtnmbfjgcmfjdcaaGreatDoor
open Go.RowKit
set_option maxRecDepth 100000
set_option maxHeartbeats 32000000
variable {w:World} {l k:List Rq} {b:Nat} {x:Rq}
theorem Kw (w:World):(zeroValue 59).run Tryz.prog w= .ok Rq.no.val w:=by kernel_rfl
def jl (w:World) (b:Nat) (l:List Rq):Prop:=∃D,w.ownsMap Tryz.prog 3 qa b l.length D∧Maps.size D=l.length∧(∀x∈l,Maps.has D (iP x.a.i)=true∧∀z,D.atKey (iP x.a.i) z= .held x)∧∀i,(∀x∈l,x.a.i≠i)→Maps.has D (iP i)=false
theorem vD {b n:Nat} {D:DataW Rq} (h:w.ownsMap Tryz.prog 3 qa b n D):w.ownsMap Tryz.prog 3 qa b (Maps.size D) D:=by
 obtain⟨es,clock,hb,F,hs,rfl⟩:=h;exact⟨es,clock,hb,F,by rw[Maps.size_eq,length_sorted];simp,rfl⟩
theorem jl.made (w:World):jl (w.alloc (.map #[] 0)) w.heap.size []:=by
 refine⟨.map [],World.ownsMap_made _ _ _ _,rfl,?_,fun i _=>rfl⟩;intro x hx;simp at hx
theorem jl.lt {w:World} {b:Nat} {l:List Rq} (h:jl w b l):b<w.heap.size:=by obtain⟨D,h,_⟩:=h;exact h.lt
theorem jl.aG {F:List Nat} {w w':World} (h:jl w b l) (hc:ax F w w') (hb:b∉F):jl w' b l:=by
 obtain⟨D,⟨es,clock,hh,r⟩,hr⟩:=h;exact⟨D,⟨es,clock,(hc.block b (Array.getElem?_eq_some_iff.1 hh).1 hb).trans hh,r⟩,hr⟩
theorem jl.below {w w':World} {b:Nat} {l:List Rq} (h:jl w b l) (hb:Below w w w'):jl w' b l:=h.aG (F:=[]) (ax.below hb) ag
theorem jl.cell {w:World} {b:Nat} {l:List Rq} (h:jl w b l) (o:Nat):w.cell? ⟨b,o,none⟩=none:=by
 obtain⟨D,⟨es,clock,hh,_⟩,_⟩:=h;simp[World.cell?,hh]
theorem jl.perm (h:jl w b l) (p:l.Perm k):jl w b k:=by
 obtain⟨D,h1,h2,h3,h4⟩:=h;exact⟨D,by rw[←p.length_eq];exact h1,by rw[←p.length_eq];exact h2,fun x hx=>h3 x (p.mem_iff.2 hx),fun i hi=>h4 i (fun x hx=>hi x (p.mem_iff.1 hx))⟩
theorem K7 {v:Value} {p:List MemPlace} (h:qa v=some (.held x,p)):v=x.val:=by
 obtain⟨c,rfl,e⟩:=Jv h;have e1:=congrArg Prod.fst e;simp only[DataW.held.injEq] at e1;rw[e1]
theorem jl.yes (h:jl w b l) (hx:x∈l) (hi:x.a.In):(Instr.lookup 49 (.map (some b)) (.int .i64 x.a.i) true).run Tryz.prog w= .ok (.tuple #[x.val, .bool true]) w:=by
 obtain⟨D,h1,_,h3,_⟩:=h;obtain⟨v,ps,hr,hv⟩:=h1.look_ok ko Tryz.underlying49 (Kw w) (tu Rq.no) (pV (BP hi.2.2.2.1));rw[(h3 x hx).1] at hr;rw[(h3 x hx).2] at hv;rw[K7 hv] at hr;exact hr
theorem jl.no {w:World} {b:Nat} {l:List Rq} (h:jl w b l) {i:Int} (hw: -9223372036854775808≤i∧i≤9223372036854775807) (hi:∀x∈l,x.a.i≠i):(Instr.lookup 49 (.map (some b)) (.int .i64 i) true).run Tryz.prog w= .ok (.tuple #[Rq.no.val, .bool false]) w:=by
 obtain⟨D,h1,_,_,h4⟩:=h;obtain⟨v,ps,hr,hv⟩:=h1.look_ok ko Tryz.underlying49 (Kw w) (tu Rq.no) (pV (BP hw));rw[h4 i hi] at hr;rw[Maps.atKey_of_not_has (h4 i hi)] at hv;rw[K7 hv] at hr;exact hr
theorem jl.put {w:World} {b:Nat} {l:List Rq} (h:jl w b l) {x:Rq} (hi:x.a.In) (hx:∀y∈l,y.a.i≠x.a.i) (hn:l.length≤1000000):
  ∃w',(Instr.mapUpdate 49 (.map (some b)) (.int .i64 x.a.i) x.val).run Tryz.prog w= .ok () w'∧jl w' b (x::l)∧ax [b] w w':=by
 obtain⟨D,h1,h2,h3,h4⟩:=h;obtain⟨w',hr,g1,g2⟩:=h1.update ko Tryz.underlying49 (by unfold maxLen;omega) (pV (BP hi.2.2.2.1)) (tu x)
 have hz:Maps.size (D.put (iP x.a.i) (.held x))=l.length+1:=by
  rw[Maps.size_put (h1.tidy ko),h4 x.a.i hx,h2];simp
 refine⟨w',hr,⟨_,by have:=vD g1;rwa [hz] at this,hz,fun y hy=> ?_,fun i hi'=> ?_⟩,⟨g2.os,g2.tape,g2.output,g2.size,fun k hk hk'=>g2.block k hk (fun e=>hk' (by injection e with e;simp[e]))⟩⟩
 ·rcases List.mem_cons.1 hy with rfl|hy
  ·exact⟨Maps.has_put_same (k:=iP y.a.i) h1.isMap (by simp[WideAt.IsKeyLit]) _,fun z=>Maps.atKey_put_same (k:=iP y.a.i) h1.isMap (by simp[WideAt.IsKeyLit]) _ z⟩
  ·have e:=lZ (hx y hy);exact⟨by rw[Maps.has_put_other e];exact(h3 y hy).1,fun z=>by rw[Maps.atKey_put_other e];exact(h3 y hy).2 z⟩
 ·rw[Maps.has_put_other (lZ (fun e=>hi' x ag e.symm))];exact h4 i (fun y hy=>hi' y (by simp[hy]))
theorem jl.set (h:jl w b l) {x y:Rq} (hi:x.a.In) (p:l.Perm (y::k)) (he:y.a.i=x.a.i) (hd:∀z∈k,z.a.i≠x.a.i) (hn:l.length≤1000000):
  ∃w',(Instr.mapUpdate 49 (.map (some b)) (.int .i64 x.a.i) x.val).run Tryz.prog w= .ok () w'∧jl w' b (x::k)∧ax [b] w w':=by
 obtain⟨D,h1,h2,h3,h4⟩:=h.perm p;have hn':(y::k).length≤1000000:=by rw[←p.length_eq];exact hn
 obtain⟨w',hr,g1,g2⟩:=h1.update ko Tryz.underlying49 (by unfold maxLen;omega) (pV (BP hi.2.2.2.1)) (tu x);have hh:Maps.has D (iP x.a.i)=true:=by rw[←he];exact(h3 y ag).1
 have hz:Maps.size (D.put (iP x.a.i) (.held x))=k.length+1:=by
  rw[Maps.size_put (h1.tidy ko),hh,h2];simp
 refine⟨w',hr,⟨_,by have:=vD g1;rwa [hz] at this,hz,fun z hz'=> ?_,fun i hi'=> ?_⟩,⟨g2.os,g2.tape,g2.output,g2.size,fun j hj hj'=>g2.block j hj (fun e=>hj' (by injection e with e;simp[e]))⟩⟩
 ·rcases List.mem_cons.1 hz' with rfl|hz'
  ·exact⟨Maps.has_put_same (k:=iP z.a.i) h1.isMap (by simp[WideAt.IsKeyLit]) _,fun u=>Maps.atKey_put_same (k:=iP z.a.i) h1.isMap (by simp[WideAt.IsKeyLit]) _ u⟩
  ·have e:=lZ (hd z hz');exact⟨by rw[Maps.has_put_other e];exact(h3 z (by simp[hz'])).1,fun u=>by rw[Maps.atKey_put_other e];exact(h3 z (by simp[hz'])).2 u⟩
 ·have hx:=hi' x ag;rw[Maps.has_put_other (lZ (fun e=>hx e.symm))]
  exact h4 i (fun z hz'=>by
   rcases List.mem_cons.1 hz' with rfl|hz'
   ·rw[he];exact hx
   ·exact hi' z (by simp[hz']))
theorem jl.del {w:World} {b:Nat} {l k:List Rq} (h:jl w b l) {x:Rq} (hi:x.a.In) (p:l.Perm (x::k)) (hd:∀y∈k,y.a.i≠x.a.i) (ty:TypeId):
  ∃w',(Builtin.delete_ #[49,3] ty #[.map (some b), .int .i64 x.a.i]).run Tryz.prog w= .ok (.tuple #[]) w'∧jl w' b k∧ax [b] w w':=by
 obtain⟨D,h1,h2,h3,h4⟩:=h.perm p;obtain⟨w',hr,g1,g2⟩:=h1.drop ko Tryz.underlying49 (pV (BP hi.2.2.2.1)) ty
 have hz:Maps.size (D.del (iP x.a.i))=k.length:=by
  have:=Maps.size_del (k:=iP x.a.i) (h1.tidy ko);rw[(h3 x ag).1,h2] at this;simp at this;exact this
 have gg:=g2.grown;refine⟨w',hr,⟨_,by have:=vD g1;rwa [hz] at this,hz,fun y hy=> ?_,fun i hi'=> ?_⟩,⟨gg.os,gg.tape,gg.output,gg.size,fun j hj hj'=>gg.block j hj (fun e=>hj' (by injection e with e;simp[e]))⟩⟩
 ·have e:=lZ (hd y hy);exact⟨by rw[Maps.has_del_other e];exact(h3 y (by simp[hy])).1,fun z=>by rw[Maps.atKey_del_other e];exact(h3 y (by simp[hy])).2 z⟩
 ·by_cases e:i=x.a.i
  ·rw[e];exact Maps.has_del_same
  ·rw[Maps.has_del_other (lZ e)]
   exact h4 i (fun y hy=>by
    rcases List.mem_cons.1 hy with rfl|hy
    ·exact fun e'=>e e'.symm
    ·exact hi' y hy)
theorem Kk:∀{l s:List Rq},(l.map (·.a.i)).Nodup→(∀x∈l,x∈s)→s.length≤l.length→l.Perm s:=by
 intro l;induction l with
 |nil=>intro s _ _ hl;rw[List.eq_nil_of_length_eq_zero (l:=s) (by simpa using hl)]
 |cons x l ih=>
  intro s hn hs hl;obtain⟨s1,s2,rfl⟩:=List.append_of_mem (hs x ag);rw[List.map_cons,List.nodup_cons] at hn;refine(List.Perm.cons x (ih (s:=s1++s2) hn.2 (fun y hy=> ?_) ?_)).trans List.perm_middle.symm
  ·have h1:=hs y (by simp[hy]);rcases List.mem_append.1 h1 with h1|h1
   ·exact List.mem_append_left _ h1
   ·rcases List.mem_cons.1 h1 with rfl|h1
    ·exact absurd (List.mem_map_of_mem (f:=fun c:Rq=>c.a.i) hy) hn.1
    ·exact List.mem_append_right _ h1
  ·simp at hl⊢;omega
end Go.Proofs.YtnmbfjgcmfjdcaaGreatDoor

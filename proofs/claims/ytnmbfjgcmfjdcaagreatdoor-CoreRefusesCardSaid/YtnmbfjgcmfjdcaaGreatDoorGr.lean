import Derived.Test.YtnmbfjgcmfjdcaaGreatDoorCoreRefusesZ29
import Derived.Test.YtnmbfjgcmfjdcaaGreatDoorCoreRefusesZ20
namespace Go.Proofs.YtnmbfjgcmfjdcaaGreatDoor
open Go.RowKit
theorem ax.zN {F:List Nat} {w:World} {g:Nat}:∀(vs:List Value) {w':World} (o:Nat),ax F w w'→(g∈F∨w.heap.size≤g)→ax F w (w'.setCells g o vs)
 |[],_,_,h,_=>h
 |v::r,_,o,h,hg=>ax.zN r (o+1) (h.set hg o v) hg
section
variable {α:Type} {enc:α→List Value} {k:Nat} {T:TypeId} {z:α}
def bO (enc:α→List Value) (k:Nat) (T:TypeId) (w:World) (base:Nat) (A:Option Addr) (n c:Nat) (l:List α):Prop:=w.ownsRow base T k (.slice A n c) n (l.flatMap enc)
def yz (enc:α→List Value) (k:Nat) (z:α) (w:World) (A:Option Addr) (n:Nat) (l:List α):Prop:=
 l.length=n∧(0<n→∃b off,A=some ⟨b,off,none⟩∧b<w.heap.size∧∀j,j<n→w.rangeAt b (off+j*k) (enc (l.getD j z)))
theorem tY (hk:∀x,(enc x).length=k) (l:List α):(l.flatMap enc).length=l.length*k:=by
 induction l with
 |nil=>simp
 |cons a l ih=>rw[List.flatMap_cons,List.length_append,ih,hk,List.length_cons,Nat.add_mul,Nat.one_mul,Nat.add_comm]
theorem ze (hk:∀x,(enc x).length=k) (z:α):∀(l:List α) (j i:Nat),j<l.length→i<k→(l.flatMap enc)[j*k+i]?=(enc (l.getD j z))[i]?
 |[],j,i,h,_=>absurd h ag
 |a::l,0,i,_,hi=>by
  rw[List.flatMap_cons,List.getElem?_append_left (by rw[hk];omega)];simp
 |a::l,j+1,i,h,hi=>by
  rw[List.flatMap_cons,List.getElem?_append_right (by rw[hk,Nat.add_mul];omega),hk,show(j+1)*k+i-k=j*k+i by rw[Nat.add_mul];omega,ze hk z l j i (by simpa using h) hi];simp
theorem O9 (h1:∀x,∀v∈enc x,v.oneCell'=true) (l:List α):∀u∈l.flatMap enc,u.oneCell'=true:=fun u hu=>by
 obtain⟨x,_,hx⟩:=List.mem_flatMap.1 hu;exact h1 x u hx
theorem bO.nil (w:World) (base:Nat):bO enc k T w base none 0 0 []:=World.ownsRow_nil _ _ _ _
theorem bO.len (hk:∀x,(enc x).length=k) (h0:0<k) {w:World} {base:Nat} {A:Option Addr} {n c:Nat} {l:List α} (h:bO enc k T w base A n c l):l.length=n:=by
 have:=h.1;rw[tY hk] at this;exact Nat.eq_of_mul_eq_mul_right h0 this
theorem bO.cap {w:World} {base:Nat} {A:Option Addr} {n c:Nat} {l:List α} (h:bO enc k T w base A n c l):n≤c∧c≤maxLen:=by
 rcases h.2 with⟨hv,h0⟩|⟨g,cap,cur,hv,_,_,h1,h2,_⟩
 ·injection hv with _ _ e;exact⟨by omega,by unfold maxLen;omega⟩
 ·injection hv with _ _ e;exact⟨by omega,by omega⟩
theorem bO.dX {w:World} {base:Nat} {A:Option Addr} {n c:Nat} {l:List α} (h:bO enc k T w base A n c l):∀j∈rowOf A,base≤j∧j<w.heap.size:=by
 intro j hj;rcases h.2 with⟨hv,_⟩|⟨g,cap,cur,hv,hb,hg,_⟩
 ·injection hv with e1;subst e1;simp[rowOf] at hj
 ·injection hv with e1;subst e1;have hkg:j=g:=by simpa[rowOf,eq_comm] using hj
  rw[hkg];exact⟨hb,(Array.getElem?_eq_some_iff.1 hg).1⟩
theorem bO.aG {w w':World} {base:Nat} {A:Option Addr} {n c:Nat} {l:List α} {F:List Nat} (h:bO enc k T w base A n c l) (hc:ax F w w') (hF:∀j∈rowOf A,j∉F):bO enc k T w' base A n c l:=by
 obtain⟨h1,h2⟩:=h;refine⟨h1,?_⟩;rcases h2 with h2|⟨g,cap,cur,hv,hg,hh,r⟩
 ·exact .inl h2
 ·refine .inr ⟨g,cap,cur,hv,hg,?_,r⟩;have hlt:g<w.heap.size:=(Array.getElem?_eq_some_iff.1 hh).1;injection hv with e1;subst e1;rw[hc.block g hlt (hF g (by simp[rowOf]))];exact hh
theorem bO.below {w w':World} {base:Nat} {A:Option Addr} {n c:Nat} {l:List α} (h:bO enc k T w base A n c l) (hb:Below w w w'):bO enc k T w' base A n c l:=h.aG (ax.below (F:=[]) hb) ag
theorem bO.alloc {w:World} {base:Nat} {A:Option Addr} {n c:Nat} {l:List α} (h:bO enc k T w base A n c l) (o:Obj):bO enc k T (w.alloc o) base A n c l:=h.below ((Below.refl _ _).alloc ay o)
theorem bO.mono {w:World} {base b:Nat} {A:Option Addr} {n c:Nat} {l:List α} (h:bO enc k T w base A n c l) (hb:b≤base):bO enc k T w b A n c l:=by
 obtain⟨h1,h2⟩:=h;refine⟨h1,?_⟩;rcases h2 with h2|⟨g,cap,cur,hv,hg,r⟩
 ·exact .inl h2
 ·exact .inr ⟨g,cap,cur,hv,Nat.le_trans hb hg,r⟩
theorem bO.head {w:World} {base:Nat} {A:Option Addr} {n c:Nat} {l:List α} (h:bO enc k T w base A n c l) (h0:0<n):∃g,A=some ⟨g,0,none⟩∧base≤g∧g<w.heap.size:=by
 rcases h.2 with⟨_,h0'⟩|⟨g,cap,cur,hv,hb,hg,_⟩
 ·omega
 ·injection hv with e1;exact⟨g,e1,hb,(Array.getElem?_eq_some_iff.1 hg).1⟩
theorem bO.range (hk:∀x,(enc x).length=k) (h0:0<k) (z:α) {w:World} {base g:Nat} {n c:Nat} {l:List α} (h:bO enc k T w base (some ⟨g,0,none⟩) n c l) {j:Nat} (hj:j<n):w.rangeAt g (j*k) (enc (l.getD j z)):=fun i v hv=>by
 have hl:=h.len hk h0;have hi:i<k:=by rw[←hk (l.getD j z)];exact(List.getElem?_eq_some_iff.1 hv).1
 have hlt:j*k+i<n*k:=by
  have:(j+1)*k≤n*k:=Nat.mul_le_mul_right _ hj;rw[Nat.add_mul] at this;omega
 have:=World.ownsRow.cellAt h (j*k+i) hlt;rw[this,ze hk z l j i af hi];exact hv
theorem bO.rd (hk:∀x,(enc x).length=k) (h0:0<k) (z:α) {w:World} {base:Nat} {A:Option Addr} {n c:Nat} {l:List α} (h:bO enc k T w base A n c l):yz enc k z w A n l:=by
 refine⟨h.len hk h0,fun hn=> ?_⟩;obtain⟨g,rfl,_,hlt⟩:=h.head hn;exact⟨g,0,rfl,hlt,fun j hj=>by rw[Nat.zero_add];exact h.range hk h0 z hj⟩
theorem yz.below {w w':World} {A:Option Addr} {n:Nat} {l:List α} (h:yz enc k z w A n l) (hb:Below w w w'):yz enc k z w' A n l:=
 ⟨h.1,fun hn=>by
   obtain⟨b,off,e,hlt,hr⟩:=h.2 hn;exact⟨b,off,e,Nat.lt_of_lt_of_le hlt hb.size,fun j hj i v hv=>(hb.cell (p:=⟨b,off+j*k+i,none⟩) hlt).trans (hr j hj i v hv)⟩⟩
theorem BL {P:Program} {ops:Array Oper} {o:Oper} {a:Act} {rest:List Oper} {Q:Exit→Act→World→Prop} (w:World) (hgd:o.guard=none) (s x:Operand) (TS:TypeId)
  (ho:o.op= .call {callee:= .builtin .append,args:= #[s,x],argTypes:= #[TS,TS]}) (hk:∀x,(enc x).length=k) (h0:0<k) (h1:∀x,∀v∈enc x,v.oneCell'=true)
  (bytes:Nat) (Fx:P.underlying TS=some (.slice T)) (hi:(P.info? T).map (fun i=>(i.zero.map (·.cells.size),i.size,i.bytes))=some (some k,k,bytes)) (hby:bytes≤100)
  (base:Nat) (A:Option Addr) (n c:Nat) (l:List α) (hs:a.eval s= .slice A n c) (hown:bO enc k T w base A n c l) (b:Nat) (d:α) (hx:a.eval x= .slice (some ⟨b,0,none⟩) 1 1)
  (hcell:w.rangeAt b 0 (enc d)) (hn:n≤1000000) (hbase:base≤w.heap.size)
  (h:∀A' c' w',bO enc k T w' base A' (n+1) c' (l++[d])→ax (rowOf A) w w'→(∀j∈rowOf A',j∈rowOf A∨w.heap.size≤j)→wpList P ops Q rest (a.put o.dst (.slice A' (n+1) c')) w'):wpList P ops Q (o::rest) a w:=by
 obtain⟨i0,z0,hi0,hz0,hz1,hz2,hz3⟩:∃i0 z0,P.info? T=some i0∧i0.zero=some z0∧z0.cells.size=k∧i0.size=k∧i0.bytes=bytes:=by
  cases hi':P.info? T with
  |none=>rw[hi'] at hi;cases hi
  |some i=>
   rw[hi'] at hi;simp only[Option.map_some,Option.some.injEq,Prod.mk.injEq] at hi;obtain⟨e1,e2,e3⟩:=hi;cases hz:i.zero with
   |none=>rw[hz] at e1;cases e1
   |some z=>
    rw[hz] at e1;simp only[Option.map_some,Option.some.injEq] at e1;exact⟨i,z,rfl,hz,e1,e2,e3⟩
 refine wpList_append_lies w hgd s x TS ho base T i0 z0 k bytes Fx hi0 hz0 hz2 hz3 hz1 h0 (.slice A n c) n (l.flatMap enc) hs hown
  ⟨b,0,none⟩ 1 1 (enc d) hx (by rw[hk,Nat.one_mul]) ?_ (h1 d) ak (by unfold maxLen;omega) ?_ hbase _ rfl ?_
 ·intro j u hj;rw[Addr.add_mid];exact hcell j u hj
 ·have:=Nat.mul_le_mul (show n+1≤1000001 by omega) hby;omega
 ·intro g cap w' h2 h3 h4 _;refine h _ _ w' (by unfold bO;simpa using h2) (ax.grown h3) (fun j hj=> ?_);simp[rowOf] at hj;subst hj;rcases h4 with h4|h4
  ·exact Or.inl (sV h4)
  ·right;omega
end
end Go.Proofs.YtnmbfjgcmfjdcaaGreatDoor

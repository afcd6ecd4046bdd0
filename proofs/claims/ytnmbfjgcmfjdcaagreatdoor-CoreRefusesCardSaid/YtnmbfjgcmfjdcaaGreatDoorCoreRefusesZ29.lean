/- Texts of CoreRefuses's proof, together. -/
import Derived.Test.YtnmbfjgcmfjdcaaGreatDoorRbB
import Derived.StillTailTactics
import Derived.Deep.TreeCalls
namespace Go.Proofs.YtnmbfjgcmfjdcaaGreatDoor

section
open Go.RowKit
theorem iL {α:Type} (t:Tr α):∃u,ptr t= .pointer u:=by cases t<;>exact⟨_,rfl⟩
end


section
open Go.RowKit
variable {h g:Nat} {c:Bool} {α:Type}
theorem Tr.Hq {l r:Tr α} {x:α} (hv:Tr.V (.node g c l x r) h) (hn:l≠ .nil):l.bS=false→r≠ .nil:=by
 intro hl;cases c with
 |true=>
  rcases Tr.sP (g:=g) (c:=true) (x:=x) hv.1 hv.2.1 hn hv.2.2.2 with⟨a,b⟩|⟨a,b,k,e,d,f,f2,f3,f4,f5,f6⟩|⟨a,b,k,e,g2,g3,a',z,b',y',e',er,f,f2,f3,f4,f5⟩
  ·rw[a] at hl;exact absurd hl ag
  ·exact f6
  ·exact f5
 |false=>
  obtain⟨k,rfl,v1,v2,v3⟩:=hv;rcases Tr.sP (g:=g) (c:=true) (x:=x) v1 v2 hn v3 with⟨a,b⟩|⟨a,b,k,e,d,f,f2,f3,f4,f5,f6⟩|⟨a,b,k,e,g2,g3,a',z,b',y',e',er,f,f2,f3,f4,f5⟩
  ·rw[a] at hl;exact absurd hl ag
  ·exact f6
  ·exact f5
theorem Tr.Ff {l r:Tr α} {x:α} (hv:Tr.V (.node g c l x r) h) (hn:l≠ .nil):∃k,Tr.V (Tr.node g c l x r).aK.left k∧(Tr.node g c l x r).aK.left.bS=true:=by
 cases c with
 |true=>exact Tr.oF hv.1 hv.2.1 hn hv.2.2.2
 |false=>obtain⟨k,rfl,v1,v2,v3⟩:=hv;exact Tr.oF v1 v2 hn v3
end


section
open Go.RowKit
variable {c:Bool} {g N:Nat} {α:Type}
theorem Tr.Kz {l r:Tr α} {x:α} (h:l.red=true):(Tr.node g c l x r).bU=(Tr.node g c l x r).bI:=by simp[Tr.bU,Tr.dh,h]
theorem Tr.xn {lt:α→α→Bool} {x y:α} {l r:Tr α} (h:lt x y=true):
  Tr.rem lt (N+1) x (.node g c l y r)=Tr.balance ((Tr.node g c l y r).aK.dV (Tr.rem lt N x (Tr.node g c l y r).aK.left)):=by simp only[Tr.rem,h,if_true]
theorem Tr.Ee {lt:α→α→Bool} {x y:α} {l r:Tr α} (h:lt x y=false) (hn:(Tr.node g c l y r).bU.right= .nil):
  Tr.rem lt (N+1) x (.node g c l y r)= .nil:=by simp[Tr.rem,h,hn,Tr.isNil]
theorem Tr.yO {lt:α→α→Bool} {x y:α} {l r:Tr α} (h:lt x y=false) (hn:(Tr.node g c l y r).bU.right≠ .nil) (h2:lt ((Tr.node g c l y r).bU.az.thing x) x=true):
  Tr.rem lt (N+1) x (.node g c l y r)=Tr.balance ((Tr.node g c l y r).bU.az.bR (Tr.rem lt N x (Tr.node g c l y r).bU.az.right)):=by
 rw[←Tr.lG] at hn;simp only[Tr.rem,h,hn,h2,if_true,if_false,Bool.false_eq_true]
theorem Tr.AZ {lt:α→α→Bool} {x y:α} {l r:Tr α} (h:lt x y=false) (hn:(Tr.node g c l y r).bU.right≠ .nil) (h2:lt ((Tr.node g c l y r).bU.az.thing x) x=false):
  Tr.rem lt (N+1) x (.node g c l y r)=Tr.balance (((Tr.node g c l y r).bU.az.bR (Tr.fq N (Tr.node g c l y r).bU.az.right)).fP ((Tr.node g c l y r).bU.az.right.least ((Tr.node g c l y r).bU.az.thing x))):=by
 rw[←Tr.lG] at hn;simp only[Tr.rem,h,hn,h2,if_false,Bool.false_eq_true]
theorem Has.len {A B:List α} {m:α} {t u:Tr α} (h:t.list=A++m::B) (h':u.list=A++B):u.list.length≤t.list.length:=by rw[h,h'];simp
end


section
open Go.RowKit
theorem Tr.Om {α:Type} (lt:α→α→Bool) (k:Nat) (x:α) (t:Tr α):Tr.put lt k x t≠ .nil:=by
 intro e;have:=(Tr.iM lt k x t).length_eq;rw[e] at this;simp[Tr.blocks] at this
theorem Tr.xB {α:Type} (lt:α→α→Bool) (k:Nat) (x:α) (t:Tr α):(Tr.put lt k x t).list.length=t.list.length+1:=by
 rw[←Tr.iy,(Tr.iM lt k x t).length_eq,List.length_cons,Tr.iy]
end


section
open Go.RowKit
def rowOf (A:Option Addr):List Nat:=(A.map (·.block)).toList
theorem sV {A:Option Addr} {n c:Nat} {k:Nat} (h:(Value.slice A n c).ownBlock=some k):k∈rowOf A:=by
 cases A with
 |none=>simp[Value.ownBlock] at h
 |some a=>simpa[Value.ownBlock,rowOf,eq_comm] using h
theorem ax.grown {A:Option Addr} {n c:Nat} {w w':World} (h:w.grownBy w' (Value.slice A n c).ownBlock):ax (rowOf A) w w':=
 ⟨h.os,h.tape,h.output,h.size,fun k hk hr=>h.block k hk (fun e=>hr (sV e.symm))⟩
theorem Below.aG {F:List Nat} {W0 w w':World} (h:Below W0 W0 w) (hc:ax F w w') (hF:∀k∈F,W0.heap.size≤k):Below W0 W0 w':=
 h.trans (hc.toBelow h.size hF)
theorem ax.chain {w wa w2 wb w3 w4:World} {A A2 A3 A4:Option Addr} (h0:Below w w wa) (h2:ax (rowOf A) wa w2) (r2:∀k∈rowOf A2,k∈rowOf A∨wa.heap.size≤k) (hb:Below w2 w2 wb) (h3:ax (rowOf A2) wb w3) (r3:∀k∈rowOf A3,k∈rowOf A2∨wb.heap.size≤k)
  (h4:ax (rowOf A3) w3 w4) (r4:∀k∈rowOf A4,k∈rowOf A3∨w3.heap.size≤k):ax (rowOf A) w w4∧∀k∈rowOf A4,k∈rowOf A∨w.heap.size≤k:=by
 have s0:=h0.size;have s2:=h2.size;have sb:=hb.size;have s3:=h3.size;have q2:∀k∈rowOf A2,k∈rowOf A∨w.heap.size≤k:=fun k hk=>(r2 k hk).imp id (fun h=>by omega)
 have q3:∀k∈rowOf A3,k∈rowOf A∨w.heap.size≤k:=fun k hk=>by
  rcases r3 k hk with h|h
  ·exact q2 k h
  ·right;omega
 have q4:∀k∈rowOf A4,k∈rowOf A∨w.heap.size≤k:=fun k hk=>by
  rcases r4 k hk with h|h
  ·exact q3 k h
  ·right;omega
 exact⟨((((ax.below h0).trans h2 (fun j hj=>Or.inl hj)).trans (G:=[]) (ax.below hb) ag).trans h3 q2).trans h4 q3,q4⟩
end

end Go.Proofs.YtnmbfjgcmfjdcaaGreatDoor

/- Texts of CoreRefuses's proof, together. -/
import Derived.Test.YtnmbfjgcmfjdcaaGreatDoorCoreRefusesZ29
import Derived.Shelf.Lay
import Derived.Shelf.Slices.Empties2
namespace Go.Proofs.YtnmbfjgcmfjdcaaGreatDoor

section
open Go.RowKit Go.Shelf
section
variable {P:Program} (w:World)
theorem xh (d:Nat) (t:TypeId) (f:Fn) (a c:Array Value) {ps rs:Array TypeId} {vd:Bool} (h:P.underlying t=some (.func ps rs vd)):
  (Op.equalIn (d+1) t (.func f a c) .nilFunc).run P w= .ok false w:=by
 simp[Op.equalIn,run_underlying h]
theorem lD (t:TypeId) (f:Fn) (a c:Array Value) {ps rs:Array TypeId} {vd:Bool} (h:P.underlying t=some (.func ps rs vd)):
  (binOp .eql t (.func f a c) .nilFunc).run P w= .ok (.bool false) w:=by
 simp only[binOp];simp[show(Op.equal t (.func f a c) .nilFunc).run P w= .ok false w from xh w 9999 t f a c h]
end
end


section
open Go.RowKit
variable {l:List (Int×Int×Int)} {n c base:Nat} {A:Option Addr} {w w':World}
def mX (p:Int×Int×Int):List Value:=[.int .u64 p.1, .int .u32 p.2.1, .int .u32 p.2.2]
def Tp (w:World) (b:Nat) (p:Int×Int×Int):Prop:=w.cell? ⟨b,0,none⟩=some (.int .u64 p.1)∧w.cell? ⟨b,1,none⟩=some (.int .u32 p.2.1)∧w.cell? ⟨b,2,none⟩=some (.int .u32 p.2.2)
theorem Tp.new (w:World) (T:TypeId) (p:Int×Int×Int):Tp (w.alloc (.cells #[.int .u64 p.1, .int .u32 p.2.1, .int .u32 p.2.2] T)) w.heap.size p:=by
 have h:=Cs.bL w T [.int .u64 p.1, .int .u32 p.2.1, .int .u32 p.2.2];exact⟨(h 0 _ rfl).1,(h 1 _ rfl).1,(h 2 _ rfl).1⟩
def jZ (w:World) (base:Nat) (A:Option Addr) (n c:Nat) (l:List (Int×Int×Int)):Prop:=w.ownsRow base 55 3 (.slice A n c) n (l.flatMap mX)
theorem oz (a:Int×Int×Int):(mX a).length=3:=rfl
theorem I6 (l:List (Int×Int×Int)):(l.flatMap mX).length=l.length*3:=by
 induction l with
 |nil=>rfl
 |cons a l ih=>rw[List.flatMap_cons,List.length_append,ih,oz,List.length_cons];omega
theorem FC:∀(l:List (Int×Int×Int)) (j i:Nat),j<l.length→i<3→(l.flatMap mX)[j*3+i]?=(mX (l.getD j (0,0,0)))[i]?
 |[],j,i,h,_=>absurd h ag
 |a::l,0,i,_,hi=>by
  rw[List.flatMap_cons,List.getElem?_append_left (by rw[oz];omega)];simp
 |a::l,j+1,i,h,hi=>by
  rw[List.flatMap_cons,List.getElem?_append_right (by rw[oz];omega),oz,show(j+1)*3+i-3=j*3+i by omega,FC l j i (by simpa using h) hi];simp
theorem jZ.nil (w:World) (base:Nat):jZ w base none 0 0 []:=World.ownsRow_nil _ _ _ _
theorem jZ.len (h:jZ w base A n c l):l.length=n:=by
 have:=h.1;rw[I6] at this;omega
theorem jZ.dX (h:jZ w base A n c l):∀k∈rowOf A,base≤k∧k<w.heap.size:=by
 intro k hk;rcases h.2 with⟨hv,_⟩|⟨g,cap,cur,hv,hb,hg,_⟩
 ·injection hv with e1;subst e1;simp[rowOf] at hk
 ·injection hv with e1;subst e1;have hkg:k=g:=by simpa[rowOf,eq_comm] using hk
  rw[hkg];refine⟨hb,?_⟩;rcases Nat.lt_or_ge g w.heap.size with h1|h1
  ·exact h1
  ·rw[Array.getElem?_eq_none h1] at hg;cases hg
theorem cU8 {P:Prop} (h:P:=by
 rcases Nat.lt_or_ge g w.heap.size with h1|h1
 ·exact h1
 ·rw[Array.getElem?_eq_none h1] at hh;cases hh):P:=h
theorem jZ.below (h:jZ w base A n c l) (hb:Below w w w'):jZ w' base A n c l:=by
 obtain⟨h1,h2⟩:=h;refine⟨h1,?_⟩;rcases h2 with h2|⟨g,cap,cur,hv,hg,hh,r⟩
 ·exact .inl h2
 ·refine .inr ⟨g,cap,cur,hv,hg,?_,r⟩;rw[hb.block g ?_]
  ·exact hh
  ·exact cU8
theorem jZ.ZQ (h:jZ w base A n c l):PR w A n l:=by
 refine⟨h.len,fun i hn=> ?_⟩;obtain⟨g,cap,hv,_,hlt⟩:=h.form af;have hA:A=some ⟨g,0,none⟩:=by injection hv
 subst hA;refine⟨g,0,rfl,hlt,fun j hj=> ?_⟩
 have hc:∀i,i<3→w.cell? ⟨g,0+j*3+i,none⟩=(mX (l.getD j (0,0,0)))[i]?:=fun i hi=>by
  rw[←FC l j i (by rw[h.len];exact hj) hi,Nat.zero_add];injection hv with _ _ e;subst e;exact h.cellAt _ af
 exact⟨hc 0 af,hc 1 af,hc 2 af⟩
theorem sw {ops:Array Oper} {o:Oper} {a:Act} {rest:List Oper} {Q:Exit→Act→World→Prop} (w:World) (hgd:o.guard=none) (s x:Operand)
  (ho:o.op= .call {callee:= .builtin .append,args:= #[s,x],argTypes:= #[235,235]})
  (base:Nat) (A:Option Addr) (n c:Nat) (l:List (Int×Int×Int)) (hs:a.eval s= .slice A n c) (hown:jZ w base A n c l) (b:Nat) (d:Int×Int×Int) (hx:a.eval x= .slice (some ⟨b,0,none⟩) 1 1)
  (hcell:Tp w b d) (hn:n≤1000000) (hbase:base≤w.heap.size)
  (h:∀A' c' w',jZ w' base A' (n+1) c' (l++[d])→ax (rowOf A) w w'→(∀k∈rowOf A',k∈rowOf A∨w.heap.size≤k)→wpList Tryz.prog ops Q rest (a.put o.dst (.slice A' (n+1) c')) w'):wpList Tryz.prog ops Q (o::rest) a w:=by
 obtain⟨i0,hi,hz0,hz1,hz2⟩:∃i0,Tryz.prog.info? 55=some i0∧i0.zero=some (.agg #[.int .u64 0, .int .u32 0, .int .u32 0])∧i0.size=3∧i0.bytes=16:=by
  have hq:(Tryz.prog.info? 55).map (fun i=>(i.zero,i.size,i.bytes))=some (some (.agg #[.int .u64 0, .int .u32 0, .int .u32 0]),3,16):=by kernel_rfl
  cases hi:Tryz.prog.info? 55 with
  |none=>rw[hi] at hq;cases hq
  |some i=>
   rw[hi] at hq;simp only[Option.map_some,Option.some.injEq,Prod.mk.injEq] at hq;exact⟨i,rfl,hq.1,hq.2.1,hq.2.2⟩
 obtain⟨c0,c1,c2⟩:=hcell
 refine wpList_append_lies w hgd s x 235 ho base 55 i0 (.agg #[.int .u64 0, .int .u32 0, .int .u32 0]) 3 16 Tryz.underlying235 hi hz0 hz1 hz2 rfl ak (.slice A n c) n (l.flatMap mX) hs hown
  ⟨b,0,none⟩ 1 1 (mX d) hx rfl ?_ ?_ ak (by unfold maxLen;omega) af hbase _ rfl ?_
 ·intro j u hj;have hadd:(⟨b,0,none⟩:Addr).add j=⟨b,j,none⟩:=by unfold Addr.add;split<;>simp_all
  rw[hadd];match j,hj with
  |0,hj|1,hj|2,hj=>simp[mX] at hj;subst hj;first|exact c0|exact c1|exact c2
  |n+3,hj=>simp[mX] at hj
 ·intro u hu;simp[mX] at hu;rcases hu with rfl|rfl|rfl<;>rfl
 ·intro g cap w' h2 h3 h4 _;refine h _ _ w' (by unfold jZ;simpa using h2) (ax.grown h3) (fun k hk=> ?_);simp[rowOf] at hk;subst hk;rcases h4 with h4|h4
  ·exact Or.inl (sV h4)
  ·right;omega
theorem jZ.aG {F:List Nat} (h:jZ w base A n c l) (hc:ax F w w') (hF:∀k∈rowOf A,k∉F):jZ w' base A n c l:=by
 obtain⟨h1,h2⟩:=h;refine⟨h1,?_⟩;rcases h2 with h2|⟨g,cap,cur,hv,hg,hh,r⟩
 ·exact .inl h2
 ·refine .inr ⟨g,cap,cur,hv,hg,?_,r⟩
  have hlt:g<w.heap.size:=by
   exact cU8
  injection hv with e1;subst e1;rw[hc.block g hlt (hF g (by simp[rowOf]))];exact hh
end

end Go.Proofs.YtnmbfjgcmfjdcaaGreatDoor

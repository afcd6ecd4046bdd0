import Derived.Test.YtnmbfjgcmfjdcaaGreatDoorRbB
import Derived.Test.YtnmbfjgcmfjdcaaGreatDoorCoreRefusesZ21
namespace Go.Proofs.YtnmbfjgcmfjdcaaGreatDoor
open Go.RowKit
variable {c:Bool} {l r:Value} {x m:It} {g:Nat} {w:World}
def nd (x m:It) (l r:Value) (c:Bool):List Value:=x.cells++(m.cells++[l,r, .bool c])
theorem Cs.eO (h:Cs w g (nd x m l r c)):w.cell? ⟨g,14,none⟩=some l:=(h 14 l rfl).1
theorem Cs.fG (h:Cs w g (nd x m l r c)):w.cell? ⟨g,15,none⟩=some r:=(h 15 r rfl).1
theorem Cs.uI (h:Cs w g (nd x m l r c)):w.cell? ⟨g,16,none⟩=some (.bool c):=(h 16 (.bool c) rfl).1
theorem Cs.H8 (h:Cs w g (nd x m l r c)):w.frozen? ⟨g,14,none⟩=false:=(h 14 l rfl).2
theorem Cs.yR (h:Cs w g (nd x m l r c)):w.frozen? ⟨g,15,none⟩=false:=(h 15 r rfl).2
theorem Cs.xx (h:Cs w g (nd x m l r c)):w.frozen? ⟨g,16,none⟩=false:=(h 16 (.bool c) rfl).2
def Wh (w:World) (g:Nat) (x:It):Prop:=w.cell? ⟨g,7,none⟩=some (.int .u64 x.t)∧w.cell? ⟨g,8,none⟩=some (.int .u32 x.r)∧w.cell? ⟨g,9,none⟩=some (.int .u32 x.v)∧w.cell? ⟨g,10,none⟩=some (.int .i64 x.i)∧w.cell? ⟨g,11,none⟩=some (.int .u64 x.u)∧w.cell? ⟨g,12,none⟩=some (.int .u32 x.s)∧w.cell? ⟨g,13,none⟩=some (.int .u32 x.y)
theorem Cs.th (h:Cs w g (nd x m l r c)):Th w g x:=⟨(h 0 _ rfl).1,(h 1 _ rfl).1,(h 2 _ rfl).1,(h 3 _ rfl).1,(h 4 _ rfl).1,(h 5 _ rfl).1,(h 6 _ rfl).1⟩
theorem Cs.wh (h:Cs w g (nd x m l r c)):Wh w g m:=⟨(h 7 _ rfl).1,(h 8 _ rfl).1,(h 9 _ rfl).1,(h 10 _ rfl).1,(h 11 _ rfl).1,(h 12 _ rfl).1,(h 13 _ rfl).1⟩
theorem Cs.Nv (h:Cs w g (nd x m l r c)):w.there g 0 7:=fun j hj=>by
 have e:∃v,(nd x m l r c)[0+j]?=some v:=⟨_,List.getElem?_eq_getElem (by simp[nd,It.cells];omega)⟩;obtain⟨v,e⟩:=e;exact⟨by rw[(h _ _ e).1];rfl,(h _ _ e).2⟩
theorem Cs.Nu (h:Cs w g (nd x m l r c)):w.there g 7 7:=fun j hj=>by
 have e:∃v,(nd x m l r c)[7+j]?=some v:=⟨_,List.getElem?_eq_getElem (by simp[nd,It.cells];omega)⟩;obtain⟨v,e⟩:=e;exact⟨by rw[(h _ _ e).1];rfl,(h _ _ e).2⟩
theorem Wh.below {w w':World} (h:Wh w g x) (hb:Below w.heap.size w w'):Wh w' g x:=⟨aS hb h.1,aS hb h.2.1,aS hb h.2.2.1,aS hb h.2.2.2.1,aS hb h.2.2.2.2.1,aS hb h.2.2.2.2.2.1,aS hb h.2.2.2.2.2.2⟩
theorem Cs.Rj (h:Cs w g (nd x m l r c)) (u:Value):Cs (w.setCell ⟨g,14,none⟩ u) g (nd x m u r c):=h.set 14 (by simp[nd,It.cells]) u
theorem Cs.Mw (h:Cs w g (nd x m l r c)) (u:Value):Cs (w.setCell ⟨g,15,none⟩ u) g (nd x m l u c):=h.set 15 (by simp[nd,It.cells]) u
theorem Cs.Ei (h:Cs w g (nd x m l r c)) (d:Bool):Cs (w.setCell ⟨g,16,none⟩ (.bool d)) g (nd x m l r d):=h.set 16 (by simp[nd,It.cells]) (.bool d)
theorem Cs.VT (h:Cs w g (nd x m l r c)) (k:It):Cs (w.setCells g 7 k.cells) g (nd x k l r c):=
 ((((((h.set 7 (by simp[nd,It.cells]) (.int .u64 k.t)).set 8 (by simp[nd,It.cells]) (.int .u32 k.r)).set 9 (by simp[nd,It.cells]) (.int .u32 k.v)).set 10 (by simp[nd,It.cells]) (.int .i64 k.i)).set 11 (by simp[nd,It.cells]) (.int .u64 k.u)).set 12 (by simp[nd,It.cells]) (.int .u32 k.s)).set 13 (by simp[nd,It.cells]) (.int .u32 k.y)
theorem Cs.VU (h:Cs w g (nd x m l r c)) (k:It):Cs (w.setCells g 0 k.cells) g (nd k m l r c):=
 ((((((h.set 0 (by simp[nd,It.cells]) (.int .u64 k.t)).set 1 (by simp[nd,It.cells]) (.int .u32 k.r)).set 2 (by simp[nd,It.cells]) (.int .u32 k.v)).set 3 (by simp[nd,It.cells]) (.int .i64 k.i)).set 4 (by simp[nd,It.cells]) (.int .u64 k.u)).set 5 (by simp[nd,It.cells]) (.int .u32 k.s)).set 6 (by simp[nd,It.cells]) (.int .u32 k.y)
theorem ax.sets {F:List Nat} {w:World} {g:Nat}:∀(vs:List Value) {w':World} (o:Nat),ax F w w'→(g∈F∨w.heap.size≤g)→ax F w (w'.setCells g o vs)
 |[],_,_,h,_=>h
 |v::r,w',o,h,hg=>ax.sets r (o+1) (h.set hg o v) hg
def Tr.oJ:Tr It→It
 | .nil=>It.mk 0 0 0 0 0 0 0
 | .node _ _ l x r=>if r.isNil then(if l.isNil then x else sooner l.oJ x) else sooner (if l.isNil then x else sooner l.oJ x) r.oJ
def dA (l:Tr It) (x:It):It:=if l.isNil then x else sooner l.oJ x
def YV (v:It) (x:It) (l r:Tr It):Prop:=v=Tr.oJ (.node 0 false l x r)∧v.In∧x.In
theorem YV.form {v x:It} {l r:Tr It} (h:YV v x l r):∃(A:It) (_:A.In) (_:x.In),A=v:=⟨v,h.2.1,h.2.2,rfl⟩
def jq (w:World) (g:Nat):Prop:=∃u,w.cell? ⟨g,14,none⟩=some (.pointer u)
def bM (w:World):Tr It→Prop
 | .nil=>True
 | .node g c l x r=>(∃v,YV v x l r∧Cs w g (nd x v (ptr l) (ptr r) c))∧bM w l∧bM w r
def fB (w:World):Tr It→Prop
 | .nil=>True
 | .node g c l x r=>(∃(A:It) (_:A.In) (_:x.In),Cs w g (nd x A (ptr l) (ptr r) c))∧bM w l∧bM w r
theorem rq (t:Tr It):∃u,ptr t= .pointer u:=by cases t<;>exact⟨_,rfl⟩
theorem Cs.yu {l:Tr It} (h:Cs w g (nd x m (ptr l) r c)):jq w g:=by
 obtain⟨u,hu⟩:=rq l;exact⟨u,by rw[←hu];exact h.eO⟩
theorem bM.st {t:Tr It} (h:bM w t):fB w t:=by
 cases t with
 |nil=>trivial
 |node g c l x r=>
  obtain⟨⟨v,hv,hc⟩,hl,hr⟩:=h;exact⟨⟨v,hv.2.1,hv.2.2,hc⟩,hl,hr⟩
theorem bM.oJ {t:Tr It} (h:bM w t):t.oJ.In:=by
 cases t with
 |nil=>exact It.nz
 |node g c l x r=>obtain⟨⟨v,hv,hc⟩,hl,hr⟩:=h;have:=hv.2.1;rw[hv.1] at this;exact this
theorem bM.nl {t:Tr It}:bM w t→∀g∈t.blocks,jq w g:=by
 induction t with
 |nil=>intro _ g hg;simp[Tr.blocks] at hg
 |node g c l x r ihl ihr=>
  intro h k hk;obtain⟨⟨v,_,hc⟩,hl,hr⟩:=h;simp only[Tr.blocks,List.mem_cons,List.mem_append] at hk;rcases hk with rfl|hk|hk
  ·exact hc.yu
  ·exact ihl hl k hk
  ·exact ihr hr k hk
theorem fB.nl {w:World} {t:Tr It} (h:fB w t):∀g∈t.blocks,jq w g:=by
 cases t with
 |nil=>intro g hg;simp[Tr.blocks] at hg
 |node g c l x r=>
  intro k hk;obtain⟨⟨A,n,cap,hc⟩,hl,hr⟩:=h;simp only[Tr.blocks,List.mem_cons,List.mem_append] at hk;rcases hk with rfl|hk|hk
  ·exact hc.yu
  ·exact hl.nl k hk
  ·exact hr.nl k hk
theorem jq.lt (h:jq w g):g<w.heap.size:=by obtain⟨u,h⟩:=h;exact World.block_lt_of_cell? w _ h
theorem bM.aG {F:List Nat} {w w':World} {t:Tr It}:bM w t→ax F w w'→(∀g∈F,jq w g)→(∀g∈t.blocks,g∉F)→bM w' t:=by
 induction t with
 |nil=>intro _ _ _ _;trivial
 |node g c l x r ihl ihr=>
  intro h hc hF hd;obtain⟨⟨v,hv,hcs⟩,hl,hr⟩:=h;exact⟨⟨v,hv,hcs.aG hc (hd g (by simp[Tr.blocks]))⟩,ihl hl hc hF (fun k hk=>hd k (by simp[Tr.blocks,hk])),ihr hr hc hF (fun k hk=>hd k (by simp[Tr.blocks,hk]))⟩
theorem bM.below {w w':World} {t:Tr It} (h:bM w t) (hb:Below w.heap.size w w'):bM w' t:=h.aG (F:=[]) (ax.below hb) (fun g hg=>by cases hg) (fun g _ hg=>by cases hg)
theorem fB.below {w w':World} {t:Tr It} (h:fB w t) (hb:Below w.heap.size w w'):fB w' t:=by
 cases t with
 |nil=>trivial
 |node g c l x r=>obtain⟨⟨A,n,k,hc⟩,hl,hr⟩:=h;exact⟨⟨A,n,k,hc.below hb⟩,hl.below hb,hr.below hb⟩
def bC (w:World) (th:Nat) (root:Value) (n:Int):Prop:=∃b1 b2,Cs w th [.func (.func 121) #[] #[], .func (.func 118) #[] #[],
    .func (.func 160) #[] #[.pointer (some ⟨b1,0,none⟩), .pointer (some ⟨b2,0,none⟩)],root, .int .i64 n]∧
 Cs w b1 [.func (.func 117) #[] #[]]∧Cs w b2 [.func (.func 118) #[] #[]]∧w.cell? ⟨th,14,none⟩=none∧w.cell? ⟨b1,14,none⟩=none∧w.cell? ⟨b2,14,none⟩=none∧th≠b1∧th≠b2
theorem bC.aG {F:List Nat} {w w':World} {th:Nat} {root:Value} {n:Int} (h:bC w th root n) (hc:ax F w w') (hF:∀g∈F,jq w g):bC w' th root n:=by
 obtain⟨b1,b2,h0,h1,h2,n0,n1,n2,n3,n4⟩:=h;have f0:th∉F:=fun hf=>by obtain⟨u,e⟩:=hF _ hf;rw[n0] at e;cases e
 have f1:b1∉F:=fun hf=>by obtain⟨u,e⟩:=hF _ hf;rw[n1] at e;cases e
 have f2:b2∉F:=fun hf=>by obtain⟨u,e⟩:=hF _ hf;rw[n2] at e;cases e
 exact⟨b1,b2,h0.aG hc f0,h1.aG hc f1,h2.aG hc f2,(hc.cell (p:=⟨th,14,none⟩) h0.lt f0).trans n0,(hc.cell (p:=⟨b1,14,none⟩) h1.lt f1).trans n1,(hc.cell (p:=⟨b2,14,none⟩) h2.lt f2).trans n2,n3,n4⟩
theorem bC.below {w w':World} {th:Nat} {root:Value} {n:Int} (h:bC w th root n) (hb:Below w.heap.size w w'):bC w' th root n:=h.aG (F:=[]) (ax.below hb) (fun g hg=>by cases hg)
-- reading
theorem Dt.isRed (t:Tr It) (w:World) (h:fB w t):Calls Tryz.prog 191 #[ptr t] w fun e w'=>e= .returned (.bool t.red)∧w=w':=by
 cases t with
 |nil=>
  clear h;simp only[kP];go_enter Tryz.func191,Tryz.ntmps191;go_wp2
  go_ret;exact⟨rfl,rfl⟩
 |node g c l x r=>
  obtain⟨⟨A,n,k,hc⟩,_⟩:=h;have h4:=hc.uI;clear hc;simp only[aX];go_enter Tryz.func191,Tryz.ntmps191;go_wp2
  go_ret;exact⟨rfl,rfl⟩
end Go.Proofs.YtnmbfjgcmfjdcaaGreatDoor

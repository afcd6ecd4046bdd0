/- Texts of CoreRefuses's proof, together. -/
import Derived.KernelRfl
import Derived.Tactics
import Derived.IntWalk
import Derived.Below
namespace Go.Proofs.YtnmbfjgcmfjdcaaGreatDoor
/- Short names. -/
section
open Go Go.RowKit
variable {P:Prop} {n:Nat}
inductive Bv where
 |it
abbrev dw:Bv:= .it
instance:Coe Bv (List Value):=⟨fun _=>[.int .u64 0, .int .u32 0, .int .u32 0, .int .i64 0, .int .u64 0, .int .u32 0, .int .u32 0, .int .u64 0, .int .u64 0, .bool false]⟩
instance:Coe Bv (Array Value):=⟨fun _=> #[.int .u64 0, .int .u32 0, .int .u32 0, .int .i64 0, .int .u64 0, .int .u32 0, .int .u32 0, .int .u64 0, .int .u64 0, .bool false]⟩
inductive xS where
 |it
abbrev aM:xS:= .it
instance:Coe xS (List Value):=⟨fun _=>[.int .u64 0, .int .u32 0, .int .u32 0, .int .i64 0, .int .u64 0, .int .u32 0, .int .u32 0]⟩
instance:Coe xS (Array Value):=⟨fun _=> #[.int .u64 0, .int .u32 0, .int .u32 0, .int .i64 0, .int .u64 0, .int .u32 0, .int .u32 0]⟩
inductive zi where
 |it
abbrev bE:zi:= .it
instance:Coe zi (List Value):=⟨fun _=>[.int .u64 0, .int .i64 0, .int .u64 0, .int .u64 0, .int .i64 0]⟩
instance:Coe zi (Array Value):=⟨fun _=> #[.int .u64 0, .int .i64 0, .int .u64 0, .int .u64 0, .int .i64 0]⟩
theorem ae (h:P:=by kernel_rfl):P:=h
theorem af (h:P:=by omega):P:=h
theorem ag (h:P:=by simp):P:=h
theorem ak (h:P:=by decide):P:=h
theorem au (h:P:=by rfl):P:=h
theorem aT (h:P:=by assumption):P:=h
theorem ay:n≤n:=Nat.le_refl n
theorem o7 {w:World}:Below n w w:=Below.refl n w
theorem aD (w:World) (o:Obj):Below w.heap.size w (w.alloc o):=(Below.refl w.heap.size w).alloc (Nat.le_refl _) o
theorem aa {p:Prop} (h:p):Hid p:=h
instance:Coe World Nat:=⟨fun w=>w.heap.size⟩
instance:Coe Nat Value:=⟨fun g=> .pointer (some ⟨g,0,none⟩)⟩
instance:Coe Nat Addr:=⟨fun g=>⟨g,0,none⟩⟩
theorem ah (h:P:=by intro wq hSw;go_simp;try with_reducible rfl):P:=h
theorem aO (h:P:=by intro w hSw;(try dsimp only at hSw);go_simp;(try with_reducible rfl)):P:=h
end


section
open Go Go.RowKit
def aV (v:Value) (w:World) (e:Ending) (w':World):Prop:=e= .returned v∧Below w.heap.size w w'
end


section
inductive Tr (α:Type) where
 |nil
 |node (g:Nat) (c:Bool) (l:Tr α) (x:α) (r:Tr α)
namespace Tr
variable {α:Type}
def red:Tr α→Bool
 |nil=>false
 |node _ c _ _ _=>c
def left:Tr α→Tr α
 |nil=>nil
 |node _ _ l _ _=>l
def right:Tr α→Tr α
 |nil=>nil
 |node _ _ _ _ r=>r
def bS:Tr α→Bool
 |nil=>false
 |node _ c l _ _=>c||l.red
def dz (c:Bool):Tr α→Tr α
 |nil=>nil
 |node g _ l x r=>node g c l x r
def neg:Tr α→Tr α
 |nil=>nil
 |node g c l x r=>node g (!c) l x r
def flip:Tr α→Tr α
 |nil=>nil
 |node g c l x r=>node g (!c) l.neg x r.neg
def eD:Tr α→Tr α
 |node g c a x (node h _ b y e)=>node h c (node g true a x b) y e
 |t=>t
def bI:Tr α→Tr α
 |node g c (node h _ a y b) x e=>node h c a y (node g true b x e)
 |t=>t
def jN (t:Tr α):Tr α:=if t.right.red&& !t.left.red then t.eD else t
def kI (t:Tr α):Tr α:=if t.left.red&&t.left.left.red then t.bI else t
def lL (t:Tr α):Tr α:=if t.left.red&&t.right.red then t.flip else t
def balance (t:Tr α):Tr α:=t.jN.kI.lL
def dV:Tr α→Tr α→Tr α
 |nil,_=>nil
 |node g c _ x r,l=>node g c l x r
def bR:Tr α→Tr α→Tr α
 |nil,_=>nil
 |node g c l x _,r=>node g c l x r
def isNil:Tr α→Bool
 |nil=>true
 |node _ _ _ _ _=>false
def list:Tr α→List α
 |nil=>[]
 |node _ _ l x r=>l.list++x::r.list
def blocks:Tr α→List Nat
 |nil=>[]
 |node g _ l _ r=>g::(l.blocks++r.blocks)
def size:Tr α→Nat
 |nil=>0
 |node _ _ l _ r=>l.size+1+r.size
def least:Tr α→α→α
 |nil,d=>d
 |node _ _ l x _,_=>l.least x
def thing:Tr α→α→α
 |nil,d=>d
 |node _ _ _ x _,_=>x
def put (lt:α→α→Bool) (k:Nat) (x:α):Tr α→Tr α
 |nil=>balance (node k true nil x nil)
 |node g c l y r=>if lt x y then balance (node g c (put lt k x l) y r) else balance (node g c l y (put lt k x r))
def jf (t:Tr α):Tr α:=if t.right.left.red then(t.bR t.right.bI).eD.flip else t
def aK (t:Tr α):Tr α:=if t.left.bS then t else t.flip.jf
def iY (t:Tr α):Tr α:=if t.left.left.red then t.bI.flip else t
def az (t:Tr α):Tr α:=if t.right.bS then t else t.flip.iY
def fq:Nat→Tr α→Tr α
 |0,t=>t
 |n+1,t=>if t.left.isNil then nil else balance (t.aK.dV (fq n t.aK.left))
def bU (t:Tr α):Tr α:=if t.left.red then t.bI else t
def fP:Tr α→α→Tr α
 |nil,_=>nil
 |node g c l _ r,x=>node g c l x r
def rem (lt:α→α→Bool):Nat→α→Tr α→Tr α
 |0,_,t=>t
 |_+1,_,nil=>nil
 |n+1,x,node g c l y r=>
  if lt x y then balance ((node g c l y r).aK.dV (rem lt n x (node g c l y r).aK.left))
  else if (node g c l y r).bU.right.isNil then nil
  else if lt ((node g c l y r).bU.az.thing x) x then balance ((node g c l y r).bU.az.bR (rem lt n x (node g c l y r).bU.az.right))
  else balance (((node g c l y r).bU.az.bR (fq n (node g c l y r).bU.az.right)).fP ((node g c l y r).bU.az.right.least ((node g c l y r).bU.az.thing x)))
-- what is in it, in order
@[simp] theorem iX (c:Bool) (t:Tr α):(t.dz c).list=t.list:=by cases t<;>rfl
@[simp] theorem aah (t:Tr α):t.neg.list=t.list:=by cases t<;>rfl
@[simp] theorem ZX (t:Tr α):t.flip.list=t.list:=by cases t<;>simp[flip,list]
@[simp] theorem ym (t:Tr α):t.eD.list=t.list:=by unfold eD;split<;>simp[list]
@[simp] theorem vZ (t:Tr α):t.bI.list=t.list:=by unfold bI;split<;>simp[list]
@[simp] theorem mQ (t:Tr α):t.balance.list=t.list:=by
  unfold balance lL kI jN;(repeat' split)<;>simp
@[simp] theorem OG (t:Tr α):(t.bR t.right.bI).list=t.list:=by cases t<;>simp[bR,right,list]
@[simp] theorem fV (t:Tr α):t.aK.list=t.list:=by unfold aK jf;(repeat' split)<;>simp
@[simp] theorem gV (t:Tr α):t.az.list=t.list:=by unfold az iY;(repeat' split)<;>simp
@[simp] theorem xA (t:Tr α):t.bU.list=t.list:=by unfold bU;split<;>simp
theorem size_eq (t:Tr α):t.size=t.list.length:=by
 induction t with
 |nil=>rfl
 |node g c l x r ihl ihr=>simp[size,list,ihl,ihr];omega
theorem iy (t:Tr α):t.blocks.length=t.list.length:=by
 induction t with
 |nil=>rfl
 |node g c l x r ihl ihr=>simp[blocks,list,ihl,ihr];omega
theorem pI (t:Tr α) (h:t≠nil):t.left.size<t.size:=by
 cases t with
 |nil=>exact absurd rfl h
 |node g c l x r=>simp only[left,size];omega
theorem rR (t:Tr α) (h:t≠nil):t.right.size<t.size:=by
 cases t with
 |nil=>exact absurd rfl h
 |node g c l x r=>simp only[right,size];omega
theorem size_of_list {t u:Tr α} (h:t.list=u.list):t.size=u.size:=by rw[size_eq,size_eq,h]
theorem iN {t u:Tr α} (h:t.list=u.list) (hu:u≠nil):t≠nil:=by
 intro e;subst e;cases u<;>simp_all [list]
theorem yX (t:Tr α):t.isNil=true↔t=nil:=by cases t<;>simp[isNil]
theorem lG (t:Tr α):t.isNil=false↔t≠nil:=by cases t<;>simp[isNil]
-- the least thing
theorem MF (t:Tr α):∀d,t.list.head?.getD d=t.least d:=by
 induction t with
 |nil=>intro d;simp[list,least]
 |node g c l x r ihl ihr=>
  intro d;have h:=ihl x;simp only[list,least];rw[←h];cases hl:l.list with
  |nil=>simp
  |cons a as=>simp
theorem Rp (lt:α→α→Bool) (k:Nat) (x:α) (t:Tr α):∀A B,t.list=A++B→(∀a∈A,lt x a=false)→(∀b∈B,lt x b=true)→(put lt k x t).list=A++x::B:=by
 induction t with
 |nil=>intro A B h _ _;simp[list] at h;obtain⟨rfl,rfl⟩:=h;simp[put,list]
 |node g c l y r ihl ihr=>
  intro A B h hA hB;simp only[put];simp only[list] at h;split
  ·rename_i hlt;rw[mQ];rcases List.append_eq_append_iff.1 h.symm with⟨a',h1,h2⟩|⟨c',h1,h2⟩
   ·simp only[list,ihl A a' h1 hA (fun b hb=>hB b (by rw[h2];simp[hb])),h2];simp
   ·cases c' with
    |nil=>simp at h1 h2;subst h1;simp only[list,ihl l.list [] ag hA ag];simp[←h2]
    |cons d ds=>
     exfalso
     simp only[List.cons_append,List.cons.injEq] at h2;have:=hA d (by rw[h1];simp);rw[←h2.1,hlt] at this;exact absurd this ag
  ·rename_i hlt;rw[mQ];rcases List.append_eq_append_iff.1 h.symm with⟨a',h1,h2⟩|⟨c',h1,h2⟩
   ·exact absurd (hB y (by rw[h2];simp)) hlt
   ·cases c' with
    |nil=>simp at h2;exact absurd (hB y (by rw[←h2];simp)) hlt
    |cons d ds=>
     simp only[List.cons_append,List.cons.injEq] at h2;simp only[list,ihr ds B h2.2 (fun a ha=>hA a (by rw[h1];simp[ha])) hB,h1,h2.1];simp
-- all ways down have as many black ones
def V:Tr α→Nat→Prop
 |nil,h=>h=0
 |node _ true l _ r,h=>V l h∧V r h∧l.red=false∧r.red=false
 |node _ false l _ r,h=>∃k,h=k+1∧V l k∧V r k∧r.red=false
theorem V.OB {t:Tr α} (h:V t 0) (hr:t.red=false):t=nil:=by
 cases t with
 |nil=>rfl
 |node g c l x r=>cases c with
  |true=>simp[red] at hr
  |false=>obtain⟨k,hk,_⟩:=h;omega
theorem V.black {t:Tr α} {h:Nat} (hv:V t h):∃k,V (t.dz false) k:=by
 cases t with
 |nil=>exact⟨0,rfl⟩
 |node g c l x r=>cases c with
  |true=>exact⟨h+1,h,rfl,hv.1,hv.2.1,hv.2.2.2⟩
  |false=>exact⟨h,hv⟩
theorem jF {l r:Tr α} {h:Nat} (hl:V l h) (hr:V r h) (g:Nat) (x:α):
  V (balance (node g false l x r)) (h+1)∧(l.red=false∨r.red=false→(balance (node g false l x r)).red=false):=by
 rcases l with _|⟨g1,c1,l1,x1,r1⟩<;>rcases r with _|⟨g2,c2,l2,x2,r2⟩<;>(try cases c1)<;>(try cases c2)<;>
  simp_all [balance,jN,kI,lL,V,red,left,right,eD,bI,flip,neg]
end Tr
end


section
namespace Tr
variable {α:Type}
theorem V.put (lt:α→α→Bool) (k:Nat) (x:α) (t:Tr α):∀{h:Nat},V t h→
  (t.red=false→V (put lt k x t) h)∧(t.red=true→(Tr.put lt k x t).red=true∧V (Tr.put lt k x t).left h∧V (Tr.put lt k x t).right h∧(Tr.put lt k x t).right.red=false):=by
 induction t with
 |nil=>intro h hv;simp[V] at hv;subst hv;simp[Tr.put,balance,jN,kI,lL,red,left,right,V]
 |node g c l y r ihl ihr=>
  intro h hv;cases c with
  |true=>
   obtain⟨h1,h2,h3,h4⟩:=hv;refine⟨fun e=>by simp[red] at e,fun _=> ?_⟩;simp only[Tr.put];split
   ·have a:=(ihl h1).1 h3;generalize Tr.put lt k x l=l' at a
    rcases l' with _|⟨g1,c1,l1,x1,r1⟩<;>rcases r with _|⟨g2,c2,l2,x2,r2⟩<;>(try cases c1)<;>(try cases c2)<;>
     simp_all [balance,jN,kI,lL,V,red,left,right,eD,bI,flip,neg]
   ·have a:=(ihr h2).1 h4;generalize Tr.put lt k x r=r' at a
    rcases l with _|⟨g1,c1,l1,x1,r1⟩<;>rcases r' with _|⟨g2,c2,l2,x2,r2⟩<;>(try cases c1)<;>(try cases c2)<;>
     simp_all [balance,jN,kI,lL,V,red,left,right,eD,bI,flip,neg]
  |false=>
   obtain⟨k',rfl,h1,h2,h3⟩:=hv;refine⟨fun _=> ?_,fun e=>by simp[red] at e⟩;simp only[Tr.put];split
   ·cases hl:l.red with
    |false=>exact(jF ((ihl h1).1 hl) h2 g y).1
    |true=>
     have a:=(ihl h1).2 hl;generalize Tr.put lt k x l=l' at a;obtain⟨a1,a2,a3,a4⟩:=a;rcases l' with _|⟨g1,c1,l1,x1,r1⟩
     ·simp[red] at a1
     ·rcases r with _|⟨g2,c2,l2,x2,r2⟩<;>rcases l1 with _|⟨g3,c3,l3,x3,r3⟩<;>(try cases c1)<;>(try cases c2)<;>(try cases c3)<;>
       simp_all [balance,jN,kI,lL,V,red,left,right,eD,bI,flip,neg]
   ·exact(jF h1 ((ihr h2).1 h3) g y).1
theorem Oq {lt:α→α→Bool} {x m z:α} {A B L R:List α} (h:A++m::B=L++z::R) (hA:∀a∈A,lt x a=false) (hm:lt x m=false) (hz:lt x z=true):
  ∃B',L=A++m::B'∧B=B'++z::R:=by
 rcases List.append_eq_append_iff.1 h with⟨a',h1,h2⟩|⟨c',h1,h2⟩
 ·cases a' with
  |nil=>simp at h2;rw[←h2.1,hm] at hz;exact absurd hz ag
  |cons d ds=>simp at h2;exact⟨ds,by rw[h1,←h2.1],h2.2⟩
 ·cases c' with
  |nil=>simp at h2;rw[h2.1,hm] at hz;exact absurd hz ag
  |cons d ds=>
   simp at h2;have:=hA z (by rw[h1,←h2.1];simp);rw[this] at hz;exact absurd hz ag
theorem cao {P:Prop} (h:P:=by
 simp at h2;have:=hB z (by rw[h2.2];simp);rw[this] at hz;exact absurd hz ag):P:=h
theorem Cu {lt:α→α→Bool} {x m z:α} {A B L R:List α} (h:A++m::B=L++z::R) (hB:∀b∈B,lt b x=false) (hm:lt m x=false) (hz:lt z x=true):
  ∃A',R=A'++m::B∧A=L++z::A':=by
 rcases List.append_eq_append_iff.1 h with⟨a',h1,h2⟩|⟨c',h1,h2⟩
 ·cases a' with
  |nil=>simp at h2;rw[←h2.1,hm] at hz;exact absurd hz ag
  |cons d ds=>
   exact cao
 ·cases c' with
  |nil=>simp at h2;rw[h2.1,hm] at hz;exact absurd hz ag
  |cons d ds=>simp at h2;exact⟨ds,h2.2,by rw[h1,←h2.1]⟩
theorem EZ {lt:α→α→Bool} {x m z:α} {A B L R:List α} (h:A++m::B=L++z::R) (hA:∀a∈A,lt a x=true) (hB:∀b∈B,lt x b=true) (hz:lt x z=false) (hz':lt z x=false):L=A∧R=B∧z=m:=by
 rcases List.append_eq_append_iff.1 h with⟨a',h1,h2⟩|⟨c',h1,h2⟩
 ·cases a' with
  |nil=>simp at h1 h2;exact⟨h1,h2.2.symm,h2.1.symm⟩
  |cons d ds=>
   exact cao
 ·cases c' with
  |nil=>simp at h1 h2;exact⟨h1.symm,h2.2,h2.1⟩
  |cons d ds=>
   simp at h2;have:=hA z (by rw[h1,←h2.1];simp);rw[this] at hz';exact absurd hz' ag
structure Has (lt:α→α→Bool) (x:α) (A:List α) (m:α) (B:List α):Prop where
 low:∀a∈A,lt a x=true∧lt x a=false
 high:∀b∈B,lt x b=true∧lt b x=false
 mid:lt x m=false∧lt m x=false
def J3 (u u':Tr α):Prop:=∀h,V u h→V u' h∧(u.red=false→u'.red=false)
def PD (u:Tr α) (h:Nat):Prop:=u≠nil∧u.red=false∧V u.left h∧V u.right h∧u.left.red=false∧u.right.red=true
def SX (u u':Tr α):Prop:=∀h,PD u h→V u' (h+1)∧u'.red=false
def PA (u:Tr α) (h:Nat):Prop:=u≠nil∧V u.left h∧V u.right h∧u.left.red=false∧u.right.red=false
-- a left part that can lend
theorem cam {P:Prop} (h:P:=by
 refine Or.inl ⟨rfl,rfl,k,rfl,?_,?_⟩
 ·simp[aK,jf,left,right,hle,flip,neg,red]
 ·simp_all [neg,V,red,left]):P:=h
theorem sP {g:Nat} {c:Bool} {l r:Tr α} {x:α} {h:Nat} (hl:V l h) (hr:V r h) (hn:l≠nil) (hrr:r.red=false):
  (l.bS=true∧(node g c l x r).aK=node g c l x r)∨
  (l.bS=false∧r.left.red=false∧∃k,h=k+1∧(node g c l x r).aK=node g (!c) l.neg x r.neg∧V l.neg k∧V r.neg k∧l.neg.red=true∧r.neg.red=true∧l.neg.left.red=false∧r≠nil)∨
  (l.bS=false∧r.left.red=true∧∃k,h=k+1∧∃g2 g3 a z b y e,r=node g2 false (node g3 true a z b) y e∧(node g c l x r).aK=node g3 c (node g false l.neg x a) z (node g2 false b y e)∧V (node g false l.neg x a) h∧V (node g2 false b y e) h∧l.neg.red=true∧r≠nil):=by
 rcases l with _|⟨g1,c1,l1,x1,r1⟩
 ·exact absurd rfl hn
 ·cases hle:(node g1 c1 l1 x1 r1).bS with
  |true=>exact Or.inl ⟨rfl,by simp[aK,left,hle]⟩
  |false=>
   refine Or.inr ?_;cases c1 with
   |true=>simp[bS] at hle
   |false=>
    obtain⟨k,rfl,h1,h2,h3⟩:=hl;have h4:l1.red=false:=by simpa[bS] using hle
    rcases r with _|⟨g2,c2,l2,x2,r2⟩
    ·simp[V] at hr
    ·cases c2 with
     |true=>simp[red] at hrr
     |false=>
      obtain⟨k',hk,q1,q2,q3⟩:=hr;obtain rfl:k=k':=af;rcases l2 with _|⟨g3,c3,a,z,b⟩
      ·exact cam
      ·cases c3 with
       |false=>
        exact cam
       |true=>
        refine Or.inr ⟨rfl,rfl,k,rfl,g2,g3,a,z,b,x2,r2,rfl,?_,?_⟩
        ·simp[aK,jf,left,right,hle,flip,neg,red,eD,bI,bR]
        ·simp_all [neg,V,red,left]
end Tr
end


section
namespace Tr
variable {α:Type}
theorem fQ {g:Nat} {c:Bool} {l r:Tr α} {x:α}:(node g c l x r).red=c:=rfl
theorem dh {g:Nat} {c:Bool} {l r:Tr α} {x:α}:(node g c l x r).left=l:=rfl
theorem bY {g:Nat} {c:Bool} {l r:Tr α} {x:α}:(node g c l x r).right=r:=rfl
theorem lK {g:Nat} {c:Bool} {l r:Tr α} {x:α} (hl:l.red=false) (hr:r.red=false):balance (node g c l x r)=node g c l x r:=by
 simp[balance,jN,kI,lL,left,right,hl,hr]
theorem qK {t:Tr α} (h:t.red=true):t.bS=true:=by cases t<;>simp_all [red,bS]
-- a right part that can lend
theorem Gp {g:Nat} {c:Bool} {l r:Tr α} {x:α} {h:Nat} (hl:V l h) (hr:V r h) (hn:r≠nil) (hll:l.red=false) (hrr:r.red=false):
  (r.bS=true∧(node g c l x r).az=node g c l x r)∨
  (r.bS=false∧l.left.red=false∧∃k,h=k+1∧(node g c l x r).az=node g (!c) l.neg x r.neg∧V l.neg k∧V r.neg k∧l.neg.red=true∧r.neg.red=true∧l.neg.left.red=false∧l≠nil)∨
  (r.bS=false∧l.left.red=true∧∃k,h=k+1∧∃g2 a y b,l=node g2 false a y b∧(node g c l x r).az=node g2 c a.neg y (node g false b x r.neg)∧V a.neg h∧a.neg.red=false∧PD (node g false b x r.neg) k∧l≠nil):=by
 rcases r with _|⟨g1,c1,l1,x1,r1⟩
 ·exact absurd rfl hn
 ·cases hle:(node g1 c1 l1 x1 r1).bS with
  |true=>exact Or.inl ⟨rfl,by simp[az,right,hle]⟩
  |false=>
   refine Or.inr ?_;cases c1 with
   |true=>simp[bS] at hle
   |false=>
    obtain⟨k,rfl,h1,h2,h3⟩:=hr;have h4:l1.red=false:=by simpa[bS] using hle
    rcases l with _|⟨g2,c2,l2,x2,r2⟩
    ·simp[V] at hl
    ·cases c2 with
     |true=>simp[red] at hll
     |false=>
      obtain⟨k',hk,q1,q2,q3⟩:=hl;obtain rfl:k=k':=af;cases hr2:l2.red with
      |false=>
       refine Or.inl ⟨rfl,hr2,k,rfl,?_,?_⟩
       ·simp[az,iY,left,right,hle,flip,neg,hr2]
       ·simp_all [neg,V,red,left]
      |true=>
       rcases l2 with _|⟨g3,c3,a,z,b⟩
       ·simp[red] at hr2
       ·simp[red] at hr2;subst hr2;refine Or.inr ⟨rfl,rfl,k,rfl,g2,_,x2,r2,rfl,?_,?_⟩
        ·simp[az,iY,left,right,hle,flip,neg,red,bI]
        ·simp_all [neg,V,red,left,right,PD]
theorem oF {g:Nat} {c:Bool} {l r:Tr α} {x:α} {h:Nat} (hl:V l h) (hr:V r h) (hn:l≠nil) (hrr:r.red=false):
  ∃k,V (node g c l x r).aK.left k∧(node g c l x r).aK.left.bS=true:=by
 rcases sP (g:=g) (c:=c) (x:=x) hl hr hn hrr with⟨a,b⟩|⟨a,b,k,e,d,f,f2,f3,_⟩|⟨a,b,k,e,g2,g3,a',z,b',y,e',er,f,f2,f3,f4,f5⟩
 ·rw[b];exact⟨h,hl,a⟩
 ·rw[d];exact⟨k,f,qK f3⟩
 ·rw[f];exact⟨h,f2,by simp[left,bS,f4]⟩
theorem CG {g:Nat} {c:Bool} {l r L:Tr α} {x:α} {h:Nat} (hv:V (node g c l x r) h) (hle:(node g c l x r).bS=true) (hn:l≠nil) (ha:J3 (node g c l x r).aK.left L):
  V (balance ((node g c l x r).aK.dV L)) h∧(c=false→(balance ((node g c l x r).aK.dV L)).red=false):=by
 cases c with
 |true=>
  obtain⟨hl,hr,h3,h4⟩:=hv;refine⟨?_,fun e=>by simp at e⟩;rcases sP (g:=g) (c:=true) (x:=x) hl hr hn h4 with⟨a,b⟩|⟨a,b,k,rfl,d,f,f2,f3,f4,f6,f5⟩|⟨a,b,k,rfl,g2,g3,a',z,b',y,e',er,f,f2,f3,f4,f5⟩
  ·rw[b] at ha⊢
   obtain⟨v,w⟩:=ha h hl;simp only[dV];rw[lK (w h3) h4];exact⟨v,hr,w h3,h4⟩
  ·rw[d] at ha⊢
   obtain⟨v,w⟩:=ha k f;exact(jF v f2 g x).1
  ·rw[f] at ha⊢
   obtain⟨v,w⟩:=ha _ f2;have w:=w rfl;simp only[dV];rw[lK w rfl];exact⟨v,f3,w,rfl⟩
 |false=>
  obtain⟨k,rfl,hl,hr,h3⟩:=hv;have h4:l.red=true:=by simpa[bS] using hle
  have e:(node g false l x r).aK=node g false l x r:=by simp[aK,left,qK h4]
  rw[e] at ha⊢
  obtain⟨v,w⟩:=ha _ hl;exact⟨(jF v hr g x).1,fun _=>(jF v hr g x).2 (Or.inr h3)⟩
theorem Km {g:Nat} {c:Bool} {l r L:Tr α} {x:α} {h:Nat} (hl:V l h) (hr:V r h) (h3:l.red=false) (h4:r.red=false) (hn:l≠nil) (ha:J3 (node g c l x r).aK.left L):
  ∃k,V (balance ((node g c l x r).aK.dV L)).left k∧V (balance ((node g c l x r).aK.dV L)).right k∧(balance ((node g c l x r).aK.dV L)).right.red=false:=by
 rcases sP (g:=g) (c:=c) (x:=x) hl hr hn h4 with⟨a,b⟩|⟨a,b,k,rfl,d,f,f2,f3,f4,f6,f5⟩|⟨a,b,k,rfl,g2,g3,a',z,b',y,e',er,f,f2,f3,f4,f5⟩
 ·rw[b] at ha⊢
  obtain⟨v,w⟩:=ha h hl;simp only[dV];rw[lK (w h3) h4];exact⟨h,v,hr,h4⟩
 ·rw[d] at ha⊢
  obtain⟨v,w⟩:=ha k f;rcases r with _|⟨g2,c2,l2,x2,r2⟩
  ·exact absurd rfl f5
  ·simp only[neg,fQ] at f2 f4⊢
   simp at f4;subst f4;obtain⟨u1,u2,u3,u4⟩:=f2;cases hL:L.red with
   |false=>exact⟨k,by simp[balance,jN,kI,lL,V,fQ,dh,bY,eD,hL,dV,u3,u4,v,u1,u2]⟩
   |true=>
    rcases L with _|⟨g1,c1,l1,x1,r1⟩
    ·simp[red] at hL
    ·simp[red] at hL;subst hL;obtain⟨v1,v2,v3,v4⟩:=v;exact⟨k+1,by simp[balance,jN,kI,lL,V,fQ,dh,bY,flip,neg,dV,v1,v2,v3,v4,u1,u2,u3,u4]⟩
 ·rw[f] at ha⊢
  obtain⟨v,w⟩:=ha _ f2;have w:=w rfl;simp only[dV];rw[lK w rfl];exact⟨_,v,f3,rfl⟩
theorem Kg {g:Nat} {l r R:Tr α} {x:α} (z:α) {h:Nat} (hv:V (node g true l x r) h) (hn:r≠nil) (ha:J3 (node g true l x r).az.right R) (hd:SX (node g true l x r).az.right R):
  V (balance ((node g true l x r).az.bR R |>.fP z)) h:=by
 obtain⟨hl,hr,h3,h4⟩:=hv;rcases Gp (g:=g) (c:=true) (x:=x) hl hr hn h3 h4 with⟨a,b⟩|⟨a,b,k,rfl,d,f,f2,f3,f4,f5,f6⟩|⟨a,b,k,rfl,g2,a',y,b',er,f,f2,f3,f4,f5⟩
 ·rw[b] at ha⊢
  obtain⟨v,w⟩:=ha h hr;simp only[bR,fP];rw[lK h3 (w h4)];exact⟨hl,v,h3,w h4⟩
 ·rw[d] at ha⊢
  obtain⟨v,w⟩:=ha k f2;exact(jF f v g z).1
 ·rw[f] at hd⊢
  obtain⟨v,w⟩:=hd k f4;simp only[bR,fP];rw[lK f3 w];exact⟨f2,v,f3,w⟩
theorem Hr {g:Nat} {c:Bool} {l r R:Tr α} {x:α} (z:α) {h:Nat} (hl:V l h) (hr:V r h) (h3:l.red=false) (h4:r.red=false) (hn:r≠nil) (ha:J3 (node g c l x r).az.right R) (hd:SX (node g c l x r).az.right R):
  ∃k,V (balance ((node g c l x r).az.bR R |>.fP z)).left k∧V (balance ((node g c l x r).az.bR R |>.fP z)).right k∧(balance ((node g c l x r).az.bR R |>.fP z)).right.red=false:=by
 rcases Gp (g:=g) (c:=c) (x:=x) hl hr hn h3 h4 with⟨a,b⟩|⟨a,b,k,rfl,d,f,f2,f3,f4,f5,f6⟩|⟨a,b,k,rfl,g2,a',y,b',er,f,f2,f3,f4,f5⟩
 ·rw[b] at ha⊢
  obtain⟨v,w⟩:=ha h hr;simp only[bR,fP];rw[lK h3 (w h4)];exact⟨h,hl,v,w h4⟩
 ·rw[d] at ha⊢
  obtain⟨v,w⟩:=ha k f2;rcases l with _|⟨g2,c2,l2,x2,r2⟩
  ·exact absurd rfl f6
  ·simp only[neg,fQ] at f f3 f5⊢
   simp at f3;subst f3;obtain⟨u1,u2,u3,u4⟩:=f;cases hL:R.red with
   |false=>exact⟨k,by simp[balance,jN,kI,lL,V,fQ,dh,bY,hL,bR,fP,u3,u4,v,u1,u2]⟩
   |true=>
    rcases R with _|⟨g1,c1,l1,x1,r1⟩
    ·simp[red] at hL
    ·simp[red] at hL;subst hL;obtain⟨v1,v2,v3,v4⟩:=v;exact⟨k+1,by simp[balance,jN,kI,lL,V,fQ,dh,bY,flip,neg,bR,fP,v1,v2,v3,v4,u1,u2,u3,u4]⟩
 ·rw[f] at hd⊢
  obtain⟨v,w⟩:=hd k f4;simp only[bR,fP];rw[lK f3 w];exact⟨_,f2,v,w⟩
theorem EI {g:Nat} {l r:Tr α} {x:α} {h:Nat} (hl:V l h) (hr:V r h) (RL:l.red=true) (h4:r.red=false):
  ∃g2 a y b,l=node g2 true a y b∧(node g false l x r).bU=node g2 false a y (node g true b x r)∧(node g false l x r).bU.az=node g2 false a y (node g true b x r)∧V a h∧a.red=false∧V (node g true b x r) h:=by
 rcases l with _|⟨g2,c2,a,y,b⟩
 ·simp[red] at RL
 ·simp[red] at RL;subst RL;obtain⟨v1,v2,v3,v4⟩:=hl;exact⟨g2,a,y,b,rfl,by simp[bU,left,red,bI],by simp[bU,left,red,bI,az,right,bS],v1,v3,v2,hr,v4,h4⟩
theorem qE {g:Nat} {c:Bool} {l r:Tr α} {x:α} (h3:l.red=false):(node g c l x r).bU=node g c l x r:=by simp[bU,left,h3]
theorem uE (n:Nat):∀t:Tr α,t.size≤n→
  (∀h,V t h→t.bS=true→V (fq n t) h∧(t.red=false→(fq n t).red=false)∧(fq n t).list=t.list.tail):=by
 induction n with
 |zero=>
  intro t hs h hv hle;cases t with
  |nil=>simp[bS] at hle
  |node g c l x r=>simp only[size] at hs;omega
 |succ n ih=>
  intro t hs h hv hle;cases t with
  |nil=>simp[bS] at hle
  |node g c l x r=>
   rw[fq,dh];cases hn:l.isNil with
   |true=>
    rw[yX] at hn;subst hn;cases c with
    |true=>
     obtain⟨h1,h2,h3,h4⟩:=hv;simp[V] at h1;subst h1;have:=h2.OB h4;subst this;simp[V,red,list]
    |false=>simp[bS,red] at hle
   |false=>
    rw[lG] at hn;rw[if_neg ag];have hT:(node g c l x r).aK.list=(node g c l x r).list:=fV _;have hne:=iN hT ag
    have hsz:(node g c l x r).aK.left.size≤n:=by
     have:=pI _ hne;rw[size_of_list hT] at this;omega
    have hpre:∃k,V (node g c l x r).aK.left k∧(node g c l x r).aK.left.bS=true:=by
     cases c with
     |true=>exact oF hv.1 hv.2.1 hn hv.2.2.2
     |false=>obtain⟨k,rfl,h1,h2,h3⟩:=hv;exact oF h1 h2 hn h3
    obtain⟨k,p1,p2⟩:=hpre;obtain⟨q1,q2,q3⟩:=ih _ hsz k p1 p2;have haft:J3 (node g c l x r).aK.left (fq n (node g c l x r).aK.left):=fun h' hv'=>⟨(ih _ hsz h' hv' p2).1,q2⟩;obtain⟨r1,r2⟩:=CG hv hle hn haft;refine⟨r1,fun e=>r2 e,?_⟩;rw[mQ];generalize (node g c l x r).aK=T at *;cases T with
    |nil=>exact absurd rfl hne
    |node g' c' l' x' r'=>
     simp only[left] at q3 p2;simp only[dV,list,left,q3] at hT⊢
     rw[←hT]
     have hne':l'.list≠[]:=by
      cases l' with
      |nil=>simp[bS] at p2
      |node g2 c2 l2 x2 r2=>simp[list]
     rw[List.tail_append_of_ne_nil hne']
end Tr
end


section
namespace Tr
variable {α:Type}
theorem pF {g:Nat} {c:Bool} {l r:Tr α} {x d:α}:(node g c l x r).thing d=x:=rfl
def Pre (lt:α→α→Bool) (x:α) (t:Tr α):Prop:=
 (∃h,V t h∧t.bS=true)∨(∃h,PD t h∧lt x (t.thing x)=false)∨∃h,PA t h
theorem Pre.kids {lt:α→α→Bool} {x y:α} {g:Nat} {c:Bool} {l r:Tr α} (hp:Pre lt x (node g c l y r)):∃h,V l h∧V r h∧
  ((l.red=false∧r.red=false)∨(c=false∧l.red=true∧r.red=false)∨(c=false∧l.red=false∧r.red=true∧lt x y=false)):=by
 rcases hp with⟨h,hv,hl⟩|⟨h,⟨p1,p2,p3,p4,p5,p6⟩,hx⟩|⟨h,p1,p2,p3,p4,p5⟩
 ·cases c with
  |true=>obtain⟨v1,v2,v3,v4⟩:=hv;exact⟨h,v1,v2,Or.inl ⟨v3,v4⟩⟩
  |false=>obtain⟨k,rfl,v1,v2,v3⟩:=hv;exact⟨k,v1,v2,Or.inr (Or.inl ⟨rfl,by simpa[bS] using hl,v3⟩)⟩
 ·exact⟨h,p3,p4,Or.inr (Or.inr ⟨p2,p5,p6,hx⟩)⟩
 ·exact⟨h,p2,p3,Or.inl ⟨p4,p5⟩⟩
theorem K9 {lt:α→α→Bool} {x y m:α} {A B:List α} {g:Nat} {c:Bool} {l r:Tr α} (hp:Pre lt x (node g c l y r)) (hh:Has lt x A m B) (hs:(node g c l y r).list=A++m::B) (hlt:lt x y=true):
  l≠nil∧(l.bS=false→r≠nil)∧(∃k,V (node g c l y r).aK.left k)∧(node g c l y r).aK.left.bS=true∧
  ∃B',(node g c l y r).aK.left.list=A++m::B'∧B=B'++(node g c l y r).aK.thing x::(node g c l y r).aK.right.list:=by
 obtain⟨h,v1,v2,hc⟩:=hp.kids;obtain⟨B1,e1,e2⟩:=Oq (z:=y) (L:=l.list) (R:=r.list) hs.symm (fun a ha=>(hh.low a ha).2) hh.mid.1 hlt;have hn:l≠nil:=by intro e;subst e;simp[list] at e1
 have hr:r.red=false:=by
  rcases hc with hc|hc|hc
  ·exact hc.2
  ·exact hc.2.2
  ·rw[hc.2.2.2] at hlt;exact absurd hlt ag
 obtain⟨k,k1,k2⟩:=oF (g:=g) (c:=c) (x:=y) v1 v2 hn hr;refine⟨hn,fun hle=> ?_,⟨k,k1⟩,k2,?_⟩
 ·rcases sP (g:=g) (c:=c) (x:=y) v1 v2 hn hr with⟨a,b⟩|⟨a,b,k,e,d,f,f2,f3,f4,f5,f6⟩|⟨a,b,k,e,g2,g3,a',z,b',y',e',er,f,f2,f3,f4,f5⟩
  ·rw[a] at hle;exact absurd hle ag
  ·exact f6
  ·exact f5
 ·rcases sP (g:=g) (c:=c) (x:=y) v1 v2 hn hr with⟨a,b⟩|⟨a,b,k,e,d,f,f2,f3,f4,f5,f6⟩|⟨a,b,k,e,g2,g3,a',z,b',y',e',er,f,f2,f3,f4,f5⟩
  ·rw[b];exact⟨B1,e1,e2⟩
  ·rw[d];exact⟨B1,by simp[left,e1],by simp[right,thing,e2]⟩
  ·rw[f];refine⟨B1++y::a'.list,by simp[left,list,e1],?_⟩;subst er;rw[e2];simp[list,right,thing]
theorem Bi {lt:α→α→Bool} {x y m:α} {A B:List α} {g:Nat} {c:Bool} {l r:Tr α} (hp:Pre lt x (node g c l y r)) (hh:Has lt x A m B) (hs:(node g c l y r).list=A++m::B) (hlt:lt x y=false):
  (((node g c l y r).bU.right=nil∧A=[]∧B=[]∧l=nil∧r=nil)∨
   ((node g c l y r).bU.right≠nil∧((node g c l y r).bU.right.bS=false→(node g c l y r).bU.left≠nil)∧(node g c l y r).bU.az≠nil∧
    (lt ((node g c l y r).bU.az.thing x) x=true→((∃k,V (node g c l y r).bU.az.right k∧(node g c l y r).bU.az.right.bS=true)∨(∃k,PD (node g c l y r).bU.az.right k∧lt x ((node g c l y r).bU.az.right.thing x)=false))∧
     ∃A',(node g c l y r).bU.az.right.list=A'++m::B∧A=(node g c l y r).bU.az.left.list++(node g c l y r).bU.az.thing x::A')∧
    (lt ((node g c l y r).bU.az.thing x) x=false→(∃k,V (node g c l y r).bU.az.right k∧(node g c l y r).bU.az.right.bS=true)∧
     (node g c l y r).bU.az.left.list=A∧(node g c l y r).bU.az.right.list=B))):=by
 obtain⟨h,v1,v2,hc⟩:=hp.kids
 -- the thing at the top is no greater than x
 have key:∀T:Tr α,T≠nil→T.list=A++m::B→lt x (T.thing x)=false→lt (T.thing x) x=true→∃A',T.right.list=A'++m::B∧A=T.left.list++T.thing x::A':=by
  intro T hT e _ h2;cases T with
  |nil=>exact absurd rfl hT
  |node g' c' l' y' r'=>exact Cu (z:=y') (L:=l'.list) (R:=r'.list) e.symm (fun b hb=>(hh.high b hb).2) hh.mid.2 h2
 have here:∀T:Tr α,T≠nil→T.list=A++m::B→lt x (T.thing x)=false→lt (T.thing x) x=false→T.left.list=A∧T.right.list=B:=by
  intro T hT e h1 h2;cases T with
  |nil=>exact absurd rfl hT
  |node g' c' l' y' r'=>
   have:=EZ (z:=y') (L:=l'.list) (R:=r'.list) e.symm (fun a ha=>(hh.low a ha).1) (fun b hb=>(hh.high b hb).1) h1 h2;exact⟨this.1,this.2.1⟩
 -- what stands ahead of y is no greater than x
 have low:∀z∈l.list,lt z x=true∧lt x z=false:=by
  intro z hz
  have hy:y∈A∨y=m:=by
   have:y∈A++m::B:=by rw[←hs];simp[list]
   rcases List.mem_append.1 this with h1|h1
   ·exact Or.inl h1
   ·rcases List.mem_cons.1 h1 with h2|h2
    ·exact Or.inr h2
    ·rw[(hh.high y h2).1] at hlt;exact absurd hlt ag
  cases hyx:lt y x with
  |true=>
   obtain⟨A',_,e⟩:=Cu (z:=y) (L:=l.list) (R:=r.list) hs.symm (fun b hb=>(hh.high b hb).2) hh.mid.2 hyx;exact hh.low z (by rw[e];simp[hz])
  |false=>
   have:=EZ (z:=y) (L:=l.list) (R:=r.list) hs.symm (fun a ha=>(hh.low a ha).1) (fun b hb=>(hh.high b hb).1) hlt hyx;exact hh.low z (by rw[←this.1];exact hz)
 rcases hc with⟨c1,c2⟩|⟨c0,c1,c2⟩|⟨c0,c1,c2,c3⟩
 ·rw[qE c1];cases hr:r.isNil with
  |true=>
   rw[yX] at hr;subst hr;simp[V] at v2;subst v2;have:=v1.OB c1;subst this;left;simp[list] at hs
   have:A=[]∧B=[]:=by
    cases A with
    |nil=>simp at hs;exact⟨rfl,hs.2⟩
    |cons a as=>simp at hs
   exact⟨rfl,this.1,this.2,rfl,rfl⟩
  |false=>
   rw[lG] at hr;right;refine⟨hr,?_,?_⟩
   ·intro hle;rcases Gp (g:=g) (c:=c) (x:=y) v1 v2 hr c1 c2 with⟨a,b⟩|⟨a,b,k,e,d,f,f2,f3,f4,f5,f6⟩|⟨a,b,k,e,g2,a',y',b',er,f,f2,f3,f4,f5⟩
    ·simp only[bY] at hle;rw[a] at hle;exact absurd hle ag
    ·exact f6
    ·exact f5
   ·have hT:(node g c l y r).az.list=A++m::B:=by rw[gV,hs]
    have hne:=iN (t:=(node g c l y r).az) (u:=node g c l y r) (gV _) ag;refine⟨hne,?_⟩;rcases Gp (g:=g) (c:=c) (x:=y) v1 v2 hr c1 c2 with⟨a,b⟩|⟨a,b,k,e,d,f,f2,f3,f4,f5,f6⟩|⟨a,b,k,e,g2,a',y',b',er,f,f2,f3,f4,f5⟩
    ·rw[b] at hT⊢
     exact⟨fun hx=>⟨Or.inl ⟨h,v2,a⟩,key _ ag hT hlt hx⟩,fun hx=>⟨⟨h,v2,a⟩,here _ ag hT hlt hx⟩⟩
    ·rw[d] at hT⊢
     exact⟨fun hx=>⟨Or.inl ⟨k,f2,qK f4⟩,key _ ag hT hlt hx⟩,fun hx=>⟨⟨k,f2,qK f4⟩,here _ ag hT hlt hx⟩⟩
    ·rw[f] at hT⊢
     have hy':=low y' (by rw[er];simp[list]);refine⟨fun hx=>⟨Or.inr ⟨k,f4,hlt⟩,key _ ag hT hy'.2 hx⟩,fun hx=> ?_⟩;simp only[pF] at hx;rw[hy'.1] at hx;exact absurd hx ag
 ·subst c0;obtain⟨g2,a,z,b,el,u1,u2,w1,w2,w3⟩:=EI (g:=g) (x:=y) v1 v2 c1 c2;have hT:(node g false l y r).bU.az.list=A++m::B:=by rw[gV,xA,hs]
  have hz:=low z (by rw[el];simp[list]);right;rw[u2] at hT⊢
  rw[u1];refine⟨by simp[right],by simp[right,bS],by simp,fun hx=>⟨Or.inl ⟨h,w3,by simp[right,bS]⟩,key _ ag hT hz.2 hx⟩,fun hx=> ?_⟩;simp only[pF] at hx;rw[hz.1] at hx;exact absurd hx ag
 ·subst c0;rw[qE c1];have hrl:r.bS=true:=qK c2;have hr:r≠nil:=by intro e;subst e;simp[red] at c2
  have e:(node g false l y r).az=node g false l y r:=by simp[az,right,hrl]
  right;rw[e];refine⟨hr,fun hle=> ?_,by simp,fun hx=>⟨Or.inl ⟨h,v2,hrl⟩,key _ ag hs hlt hx⟩,fun hx=>⟨⟨h,v2,hrl⟩,here _ ag hs hlt hx⟩⟩;simp only[bY] at hle;rw[hrl] at hle;exact absurd hle ag
theorem uH {lt:α→α→Bool} {x:α} {t:Tr α} (h:Pre lt x t):t≠nil:=by
 rcases h with⟨h,hv,hl⟩|⟨h,hp,_⟩|⟨h,hp⟩
 ·intro e;subst e;simp[bS] at hl
 ·exact hp.1
 ·exact hp.1
theorem Eb {t:Tr α} (z R:Tr α) (d:α):(t.bR R).fP (t.thing d)=t.bR R:=by cases t<;>rfl
theorem tN (lt:α→α→Bool) (x:α) (n:Nat):∀(t:Tr α) (A:List α) (m:α) (B:List α),t.size≤n→Pre lt x t→Has lt x A m B→t.list=A++m::B→
  (rem lt n x t).list=A++B∧(∀h,V t h→t.bS=true→V (rem lt n x t) h∧(t.red=false→(rem lt n x t).red=false))∧
  (∀h,PD t h→lt x (t.thing x)=false→V (rem lt n x t) (h+1)∧(rem lt n x t).red=false)∧
  (∀h,PA t h→rem lt n x t=nil∨∃k,V (rem lt n x t).left k∧V (rem lt n x t).right k∧(rem lt n x t).right.red=false):=by
 induction n with
 |zero=>
  intro t A m B hs hp _ hl;have:=uH hp;cases t with
  |nil=>exact absurd rfl this
  |node g c l y r=>simp only[size] at hs;omega
 |succ n ih=>
  intro t A m B hs hp hh hl;cases t with
  |nil=>exact absurd rfl (uH hp)
  |node g c l y r=>
   cases hlt:lt x y with
   |true=>
    obtain⟨hn,_,⟨k,k1⟩,k2,B',e1,e2⟩:=K9 hp hh hl hlt;have hT:(node g c l y r).aK.list=(node g c l y r).list:=fV _;have hne:=iN hT ag
    have hsz:(node g c l y r).aK.left.size≤n:=by
     have:=pI _ hne;rw[size_of_list hT] at this;omega
    have hh':Has lt x A m B':=⟨hh.low,fun b hb=>hh.high b (by rw[e2];simp[hb]),hh.mid⟩;obtain⟨q1,q2,_,_⟩:=ih _ A m B' hsz (Or.inl ⟨k,k1,k2⟩) hh' e1;have haft:J3 (node g c l y r).aK.left (rem lt n x (node g c l y r).aK.left):=fun h' hv'=>q2 h' hv' k2;simp only[rem,hlt,if_true];refine⟨?_,fun h hv hle=> ?_,fun h hd hx=> ?_,fun h ha=> ?_⟩
    ·rw[mQ];generalize (node g c l y r).aK=T at *;cases T with
     |nil=>exact absurd rfl hne
     |node g' c' l' x' r'=>
      simp only[left,right,thing] at q1 e2;simp only[dV,list,left,q1,e2];simp
    ·exact CG hv hle hn haft
    ·simp only[pF] at hx;rw[hx] at hlt;exact absurd hlt ag
    ·exact Or.inr (Km ha.2.1 ha.2.2.1 ha.2.2.2.1 ha.2.2.2.2 hn haft)
   |false=>
    rcases Bi hp hh hl hlt with⟨u1,rfl,rfl,rfl,rfl⟩|⟨hr,_,hne,hgo,hat⟩
    ·have e:rem lt (n+1) x (node g c nil y nil)=nil:=by simp[rem,hlt,u1,isNil]
     rw[e];refine⟨rfl,fun h hv hle=> ?_,fun h hd hx=> ?_,fun h ha=>Or.inl rfl⟩
     ·cases c with
      |true=>exact⟨hv.1,fun _=>rfl⟩
      |false=>simp[bS,red] at hle
     ·have:=hd.2.2.2.2.2;simp[right,red] at this
    ·have hT:(node g c l y r).bU.az.list=(node g c l y r).list:=by rw[gV,xA]
     have hsz:(node g c l y r).bU.az.right.size≤n:=by
      have:=rR _ hne;rw[size_of_list hT] at this;omega
     -- the part that comes in the right one's place
     have main:∃z R,rem lt (n+1) x (node g c l y r)=balance (((node g c l y r).bU.az.bR R).fP z)∧J3 (node g c l y r).bU.az.right R∧SX (node g c l y r).bU.az.right R∧
       (node g c l y r).bU.az.left.list++z::R.list=A++B:=by
      have hrn:(node g c l y r).bU.right.isNil=false:=by rw[lG];exact hr
      cases hx:lt ((node g c l y r).bU.az.thing x) x with
      |true=>
       obtain⟨hpr,A',e1,e2⟩:=hgo hx;have hh':Has lt x A' m B:=⟨fun a ha=>hh.low a (by rw[e2];simp[ha]),hh.high,hh.mid⟩
       have hp':Pre lt x (node g c l y r).bU.az.right:=by
        rcases hpr with h1|h1
        ·exact Or.inl h1
        ·exact Or.inr (Or.inl h1)
       obtain⟨q1,q2,q3,_⟩:=ih _ A' m B hsz hp' hh' e1;refine⟨(node g c l y r).bU.az.thing x,rem lt n x (node g c l y r).bU.az.right,?_,fun h hv=> ?_,fun h hd=> ?_,?_⟩
       ·rw[Eb nil];simp only[rem,hlt,hrn,hx,if_true,if_false,Bool.false_eq_true]
       ·rcases hpr with⟨k,_,h2⟩|⟨k,h1,_⟩
        ·exact q2 h hv h2
        ·exfalso
         obtain⟨p1,p2,p3,p4,p5,p6⟩:=h1;generalize (node g c l y r).bU.az.right=U at *;cases U with
         |nil=>exact absurd rfl p1
         |node g' c' l' x' r'=>
          simp only[fQ] at p2;subst p2;obtain⟨_,_,_,_,b⟩:=hv;simp only[bY] at p6;rw[p6] at b;exact absurd b ag
       ·rcases hpr with⟨k,h1,h2⟩|⟨k,_,h2⟩
        ·exfalso
         obtain⟨p1,p2,p3,p4,p5,p6⟩:=hd;generalize (node g c l y r).bU.az.right=U at *;cases U with
         |nil=>exact absurd rfl p1
         |node g' c' l' x' r'=>
          simp only[fQ] at p2;subst p2;simp only[bS,dh] at h2 p5;rw[p5] at h2;exact absurd h2 ag
        ·exact q3 h hd h2
       ·rw[q1,e2];simp
      |false=>
       obtain⟨⟨k,k1,k2⟩,e1,e2⟩:=hat hx;have q:=uE n _ hsz;refine⟨(node g c l y r).bU.az.right.least ((node g c l y r).bU.az.thing x),fq n (node g c l y r).bU.az.right,?_,fun h hv=> ?_,fun h hd=> ?_,?_⟩
       ·simp only[rem,hlt,hrn,hx,if_false,Bool.false_eq_true]
       ·exact⟨(q h hv k2).1,(q h hv k2).2.1⟩
       ·exfalso
        obtain⟨p1,p2,p3,p4,p5,p6⟩:=hd;generalize (node g c l y r).bU.az.right=U at *;cases U with
        |nil=>exact absurd rfl p1
        |node g' c' l' x' r'=>
         simp only[fQ] at p2;subst p2;simp only[bS,dh] at k2 p5;rw[p5] at k2;exact absurd k2 ag
       ·rw[(q k k1 k2).2.2,e1,←MF,←e2]
        have:(node g c l y r).bU.az.right.list≠[]:=by
         intro e;have:(node g c l y r).bU.az.right.size=0:=by rw[size_eq,e];rfl
         cases hU:(node g c l y r).bU.az.right with
         |nil=>rw[hU] at k2;simp[bS] at k2
         |node g' c' l' x' r'=>rw[hU] at this;simp only[size] at this;omega
        cases hU:(node g c l y r).bU.az.right.list with
        |nil=>exact absurd hU this
        |cons d ds=>simp
     obtain⟨z,R,er,haft,Gs,hlist⟩:=main;rw[er];refine⟨?_,fun h hv hle=> ?_,fun h hd hx=> ?_,fun h ha=> ?_⟩
     ·rw[mQ];generalize (node g c l y r).bU.az=T at *;cases T with
      |nil=>exact absurd rfl hne
      |node g' c' l' x' r'=>simp only[bR,fP,list];exact hlist
     ·cases c with
      |true=>
       rw[qE hv.2.2.1] at haft Gs hr⊢
       exact⟨Kg z hv hr haft Gs,fun e=>by simp[red] at e⟩
      |false=>
       obtain⟨k,rfl,v1,v2,v3⟩:=hv;obtain⟨g2,a,y',b,el,w1,w2,w3,w4,w5⟩:=EI (g:=g) (x:=y) v1 v2 (by simpa[bS] using hle) v3;rw[w2] at haft⊢
       obtain⟨b1,b2⟩:=haft k w5;exact⟨(jF w3 b1 g2 z).1,fun _=>(jF w3 b1 g2 z).2 (Or.inl w4)⟩
     ·obtain⟨p1,p2,p3,p4,p5,p6⟩:=hd;simp only[fQ,dh,bY] at p2 p3 p4 p5 p6;subst p2;have e:(node g false l y r).bU.az=node g false l y r:=by rw[qE p5];simp[az,right,qK p6]
      rw[e] at haft⊢
      obtain⟨b1,b2⟩:=haft h p4;exact⟨(jF p3 b1 g z).1,(jF p3 b1 g z).2 (Or.inl p5)⟩
     ·have a4:l.red=false:=ha.2.2.2.1;rw[qE a4] at haft Gs hr⊢
      exact Or.inr (Hr z ha.2.1 ha.2.2.1 ha.2.2.2.1 ha.2.2.2.2 hr haft Gs)
end Tr
end


section
namespace Tr
variable {α:Type}
@[simp] theorem Zv (t:Tr α):t.neg.blocks=t.blocks:=by cases t<;>rfl
@[simp] theorem fU (c:Bool) (t:Tr α):(t.dz c).blocks=t.blocks:=by cases t<;>rfl
@[simp] theorem Am (t:Tr α):t.flip.blocks=t.blocks:=by cases t<;>simp[flip,blocks]
theorem uU (t:Tr α) (z:α):(t.fP z).blocks=t.blocks:=by cases t<;>rfl
theorem cfc {P:Prop} (h:P:=by
 simp only[blocks];rw[List.perm_iff_count];intro k;simp[List.count_cons,List.count_append];omega):P:=h
theorem gL (t:Tr α):t.eD.blocks.Perm t.blocks:=by
 unfold eD;split
 ·rename_i g c a x h _ b y e;exact cfc
 ·exact List.Perm.refl _
theorem dB (t:Tr α):t.bI.blocks.Perm t.blocks:=by
 unfold bI;split
 ·exact cfc
 ·exact List.Perm.refl _
theorem jJ (t:Tr α):t.balance.blocks.Perm t.blocks:=by
 have h1:t.jN.blocks.Perm t.blocks:=by unfold jN;split<;>first|exact List.Perm.refl _|exact gL t
 have h2:t.jN.kI.blocks.Perm t.jN.blocks:=by unfold kI;split<;>first|exact List.Perm.refl _|exact dB _
 have h3:t.jN.kI.lL.blocks.Perm t.jN.kI.blocks:=by unfold lL;split<;>first|exact List.Perm.refl _|simp
 exact h3.trans (h2.trans h1)
theorem yP (t:Tr α):(t.bR t.right.bI).blocks.Perm t.blocks:=by
 cases t with
 |nil=>exact List.Perm.refl _
 |node g c l x r=>simp only[bR,right,blocks];exact((dB r).append_left l.blocks).cons g
theorem Eg (t:Tr α):t.jf.blocks.Perm t.blocks:=by
 unfold jf;split
 ·rw[Am];exact(gL _).trans (yP t)
 ·exact List.Perm.refl _
theorem ow (t:Tr α):t.aK.blocks.Perm t.blocks:=by
 unfold aK;split
 ·exact List.Perm.refl _
 ·exact(Eg _).trans ag
theorem Cr (t:Tr α):t.iY.blocks.Perm t.blocks:=by
 unfold iY;split
 ·rw[Am];exact dB _
 ·exact List.Perm.refl _
theorem qJ (t:Tr α):t.az.blocks.Perm t.blocks:=by
 unfold az;split
 ·exact List.Perm.refl _
 ·exact(Cr _).trans ag
theorem Bb (t:Tr α):t.bU.blocks.Perm t.blocks:=by
 unfold bU;split
 ·exact dB _
 ·exact List.Perm.refl _
theorem iM (lt:α→α→Bool) (k:Nat) (x:α) (t:Tr α):(put lt k x t).blocks.Perm (k::t.blocks):=by
 induction t with
 |nil=>exact jJ _
 |node g c l y r ihl ihr=>
  simp only[put];split
  ·refine(jJ _).trans ?_;simp only[blocks];refine((ihl.append_right r.blocks).cons g).trans ?_;exact List.Perm.swap _ _ _
  ·refine(jJ _).trans ?_;simp only[blocks];refine((ihr.append_left l.blocks).cons g).trans ?_;rw[List.perm_iff_count];intro j;simp[List.count_cons,List.count_append];omega
def Of (u t:Tr α):Prop:=(t.blocks.Nodup→u.blocks.Nodup)∧∀g∈u.blocks,g∈t.blocks
theorem Of.refl (t:Tr α):Of t t:=⟨id,fun _ h=>h⟩
theorem Of.trans {a b c:Tr α} (h:Of a b) (k:Of b c):Of a c:=⟨fun n=>h.1 (k.1 n),fun g hg=>k.2 g (h.2 g hg)⟩
theorem Of.perm {a b:Tr α} (h:a.blocks.Perm b.blocks):Of a b:=⟨fun n=>h.nodup_iff.2 n,fun _ hg=>h.mem_iff.1 hg⟩
theorem Of.nil (t:Tr α):Of (nil:Tr α) t:=⟨fun _=>List.nodup_nil,fun _ h=>by simp[blocks] at h⟩
theorem Of.dV {t L:Tr α} (h:Of L t.left):Of (t.dV L) t:=by
 cases t with
 |nil=>exact Of.refl _
 |node g c l x r=>
  simp only[left] at h;refine⟨fun n=> ?_,fun k hk=> ?_⟩
  ·simp only[Tr.dV,blocks,List.nodup_cons,List.nodup_append,List.mem_append] at n⊢
   refine⟨fun hg=>n.1 (hg.imp (h.2 g) id),h.1 n.2.1,n.2.2.1,fun a ha b hb=>n.2.2.2 a (h.2 a ha) b hb⟩
  ·simp only[Tr.dV,blocks,List.mem_cons,List.mem_append] at hk⊢
   exact hk.imp id (Or.imp (h.2 k) id)
theorem Of.bR {t R:Tr α} (h:Of R t.right):Of (t.bR R) t:=by
 cases t with
 |nil=>exact Of.refl _
 |node g c l x r=>
  simp only[right] at h;refine⟨fun n=> ?_,fun k hk=> ?_⟩
  ·simp only[Tr.bR,blocks,List.nodup_cons,List.nodup_append,List.mem_append] at n⊢
   refine⟨fun hg=>n.1 (hg.imp id (h.2 g)),n.2.1,h.1 n.2.2.1,fun a ha b hb=>n.2.2.2 a ha b (h.2 b hb)⟩
  ·simp only[Tr.bR,blocks,List.mem_cons,List.mem_append] at hk⊢
   exact hk.imp id (Or.imp id (h.2 k))
theorem Of.fq (n:Nat):∀t:Tr α,Of (fq n t) t:=by
 induction n with
 |zero=>intro t;exact Of.refl _
 |succ n ih=>
  intro t;unfold Tr.fq;split
  ·exact Of.nil _
  ·exact(Of.perm (jJ _)).trans ((Of.dV (ih _)).trans (Of.perm (ow t)))
theorem Of.rem (lt:α→α→Bool) (x:α) (n:Nat):∀t:Tr α,Of (rem lt n x t) t:=by
 induction n with
 |zero=>intro t;exact Of.refl _
 |succ n ih=>
  intro t;cases t with
  |nil=>exact Of.refl _
  |node g c l y r=>
   simp only[Tr.rem];split
   ·exact(Of.perm (jJ _)).trans ((Of.dV (ih _)).trans (Of.perm (ow _)))
   ·split
    ·exact Of.nil _
    ·have up:Of (node g c l y r).bU.az (node g c l y r):=Of.perm ((qJ _).trans (Bb _));split
     ·exact(Of.perm (jJ _)).trans ((Of.bR (ih _)).trans up)
     ·refine(Of.perm (jJ _)).trans (Of.trans ?_ ((Of.bR (Of.fq n _)).trans up));exact⟨fun h=>by rw[uU];exact h,fun g hg=>by rwa [uU] at hg⟩
def Whole (t:Tr α):Prop:=t.red=false∧∃h,V t h
theorem Whole.nil:Whole (nil:Tr α):=⟨rfl,0,rfl⟩
theorem EU (t:Tr α):(t.dz false).red=false:=by cases t<;>rfl
theorem Whole.put {t:Tr α} (lt:α→α→Bool) (k:Nat) (x:α) (h:Whole t):Whole ((put lt k x t).dz false):=by
 obtain⟨h1,h,hv⟩:=h;exact⟨EU _,((V.put lt k x t hv).1 h1).black⟩
theorem Whole.pre {t:Tr α} {lt:α→α→Bool} {x:α} (h:Whole t) (hn:t≠Tr.nil):Pre lt x t:=by
 obtain⟨h1,h,hv⟩:=h;cases t with
 |nil=>exact absurd rfl hn
 |node g c l y r=>
  simp only[red] at h1;subst h1;obtain⟨k,rfl,v1,v2,v3⟩:=hv;cases hl:l.red with
  |true=>exact Or.inl ⟨k+1,⟨k,rfl,v1,v2,v3⟩,by simp[bS,hl]⟩
  |false=>exact Or.inr (Or.inr ⟨k,by simp,v1,v2,hl,v3⟩)
theorem Whole.rem {t:Tr α} {lt:α→α→Bool} {x m:α} {A B:List α} (h:Whole t) (hh:Has lt x A m B) (hl:t.list=A++m::B) {n:Nat} (hn:t.size≤n):
  Whole ((rem lt n x t).dz false)∧((rem lt n x t).dz false).list=A++B:=by
 have hne:t≠Tr.nil:=by intro e;subst e;simp[list] at hl
 obtain⟨q1,q2,_,q4⟩:=tN lt x n t A m B hn (h.pre hne) hh hl;refine⟨⟨EU _,?_⟩,by rw[iX];exact q1⟩;obtain⟨h1,h,hv⟩:=h;cases t with
 |nil=>exact absurd rfl hne
 |node g c l y r=>
  simp only[red] at h1;subst h1;obtain⟨k,rfl,v1,v2,v3⟩:=hv;cases hl:l.red with
  |true=>exact(q2 (k+1) ⟨k,rfl,v1,v2,v3⟩ (by simp[bS,hl])).1.black
  |false=>
   rcases q4 k ⟨by simp,v1,v2,hl,v3⟩ with e|⟨k,u1,u2,u3⟩
   ·rw[e];exact⟨0,rfl⟩
   ·cases hr:Tr.rem lt n x (node g false l y r) with
    |nil=>exact⟨0,rfl⟩
    |node g' c' l' y' r'=>rw[hr] at u1 u2 u3;exact⟨k+1,k,rfl,u1,u2,u3⟩
end Tr
end


section
def Tr.has {α:Type} (lt:α→α→Bool) (x:α):Tr α→Bool
 | .nil=>false
 | .node _ _ l y r=>if lt x y then Tr.has lt x l else if lt y x then Tr.has lt x r else true
end

end Go.Proofs.YtnmbfjgcmfjdcaaGreatDoor

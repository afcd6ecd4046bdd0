/- A checker that runs a closed call on a memory of its own: the memory, what it has to do with a world's, and how runs are joined. -/
import Derived.Orders
namespace Go.Proofs.YtnmbfjgcmfjdcaaGreatDoor.Ck
open Go
/-- A map from numbers, as a tree. -/
inductive Tree (α:Type) where
 |leaf
 |node (l:Tree α) (v:Option α) (r:Tree α)
namespace Tree
variable {α:Type}
def left:Tree α→Tree α
 | .leaf=> .leaf
 | .node l _ _=>l
def right:Tree α→Tree α
 | .leaf=> .leaf
 | .node _ _ r=>r
def here:Tree α→Option α
 | .leaf=>none
 | .node _ v _=>v
def get:Tree α→Nat→Option α
 | .leaf,_=>none
 | .node l v r,n=>if n=0 then v else if n%2=1 then l.get (n/2) else r.get (n/2-1)
def AV:Nat→Tree α→Nat→Option α→Tree α
 |0,t,_,_=>t
 |f+1,t,n,v=>if n=0 then .node t.left v t.right else
   if n%2=1 then .node (AV f t.left (n/2) v) t.here t.right else .node t.left t.here (AV f t.right (n/2-1) v)
def set (t:Tree α) (n:Nat) (v:Option α):Tree α:=t.AV (n+1) n v
theorem get_eq (t:Tree α) (n:Nat):t.get n=if n=0 then t.here else if n%2=1 then t.left.get (n/2) else t.right.get (n/2-1):=by
 cases t with
 |leaf=>simp[get,here,left,right]
 |node l v r=>simp[get,here,left,right]
theorem Kt (f:Nat):∀(t:Tree α) (n:Nat) (v:Option α),n<f→(t.AV f n v).get n=v:=by
 induction f with
 |zero=>intro t n v h;omega
 |succ f ih=>
  intro t n v h;unfold AV;split
  ·rename_i h0;subst h0;simp[get]
  ·split
   ·rename_i h0 h1;simp only[get,h0,h1,if_false,if_true];exact ih _ _ _ (by omega)
   ·rename_i h0 h1;simp only[get,h0,h1,if_false];exact ih _ _ _ (by omega)
theorem Kr (f:Nat):∀(t:Tree α) (n m:Nat) (v:Option α),n≠m→(t.AV f n v).get m=t.get m:=by
 induction f with
 |zero=>intro t n m v h;rfl
 |succ f ih=>
  intro t n m v h;rw[get_eq t m];unfold AV;split
  ·rename_i h0;by_cases hm:m=0
   ·omega
   ·simp only[get,hm,if_false]
  ·rename_i h0;split
   ·rename_i h1;simp only[get];split
    ·rfl
    ·split
     ·exact ih _ _ _ _ (by omega)
     ·rfl
   ·rename_i h1;simp only[get];split
    ·rfl
    ·split
     ·rfl
     ·exact ih _ _ _ _ (by omega)
theorem jG (t:Tree α) (n m:Nat) (v:Option α):(t.set n v).get m=if n=m then v else t.get m:=by
 split
 ·rename_i h;subst h;exact Kt _ _ _ _ (by omega)
 ·rename_i h;exact Kr _ _ _ _ _ h
end Tree
/-- Where a block of one's own lies in a world, and how many elements more there are. -/
abbrev bq:=Nat→Option (Nat×Nat)
def Le (φ ψ:bq):Prop:=∀b x,φ b=some x→ψ b=some x
theorem Le.refl (φ:bq):Le φ φ:=fun _ _ h=>h
theorem Le.trans {φ ψ χ:bq} (h:Le φ ψ) (k:Le ψ χ):Le φ χ:=fun b x hx=>k b x (h b x hx)
/-- Values that hold no address. -/
def dH:Value→Bool
 | .bool _| .int .. | .float .. | .complex .. | .string _| .pointer none| .slice none _ _| .map none| .chan none| .nilFunc| .nilIface=>true
 |_=>false
inductive aC (φ:bq):Value→Value→Prop
 |sc {v:Value} (h:dH v=true):aC φ v v
 |ptr {b b' e off:Nat} (h:φ b=some (b',e)):aC φ (.pointer (some ⟨b,off,none⟩)) (.pointer (some ⟨b',off,none⟩))
 |slice {b b' e off n c:Nat} (h:φ b=some (b',e)):aC φ (.slice (some ⟨b,off,none⟩) n c) (.slice (some ⟨b',off,none⟩) n (c+e))
 |map {b b' e:Nat} (h:φ b=some (b',e)):aC φ (.map (some b)) (.map (some b'))
 |func {fn:Fn} {fs gs cs ds:Array Value} (hfn:∀l,fn≠ .yield l) (hf:gs.size=fs.size) (hc:ds.size=cs.size)
   (h1:∀(i:Nat) v v',fs[i]?=some v→gs[i]?=some v'→aC φ v v') (h2:∀(i:Nat) v v',cs[i]?=some v→ds[i]?=some v'→aC φ v v'):
   aC φ (.func fn fs cs) (.func fn gs ds)
 |yield {l l' e:Nat} (h:φ l=some (l',e)):aC φ (.func (.yield l) #[] #[]) (.func (.yield l') #[] #[])
 |iface {t:TypeId} {v v':Value} (h:aC φ v v'):aC φ (.iface t v) (.iface t v')
 |agg {cs ds:Array Value} (hc:ds.size=cs.size) (h:∀(i:Nat) v v',cs[i]?=some v→ds[i]?=some v'→aC φ v v'):aC φ (.agg cs) (.agg ds)
 |tuple {cs ds:Array Value} (hc:ds.size=cs.size) (h:∀(i:Nat) v v',cs[i]?=some v→ds[i]?=some v'→aC φ v v'):aC φ (.tuple cs) (.tuple ds)
theorem aC.mono {φ ψ:bq} (hl:Le φ ψ) {v v':Value} (h:aC φ v v'):aC ψ v v':=by
 induction h with
 |sc h=>exact .sc h
 |ptr h=>exact .ptr (hl _ _ h)
 |slice h=>exact .slice (hl _ _ h)
 |map h=>exact .map (hl _ _ h)
 |func hfn hf hc _ _ i1 i2=>exact .func hfn hf hc i1 i2
 |yield h=>exact .yield (hl _ _ h)
 |iface _ ih=>exact .iface ih
 |agg hc _ ih=>exact .agg hc ih
 |tuple hc _ ih=>exact .tuple hc ih
/-- Lists, and rows, of values that are so related. -/
def gT (φ:bq) (l m:List Value):Prop:=m.length=l.length∧∀(i:Nat) v v',l[i]?=some v→m[i]?=some v'→aC φ v v'
def bu (φ:bq) (a b:Array Value):Prop:=b.size=a.size∧∀(i:Nat) v v',a[i]?=some v→b[i]?=some v'→aC φ v v'
theorem gT.mono {φ ψ:bq} (hl:Le φ ψ) {l m:List Value} (h:gT φ l m):gT ψ l m:=⟨h.1,fun i v v' a b=>(h.2 i v v' a b).mono hl⟩
theorem bu.mono {φ ψ:bq} (hl:Le φ ψ) {l m:Array Value} (h:bu φ l m):bu ψ l m:=⟨h.1,fun i v v' a b=>(h.2 i v v' a b).mono hl⟩
theorem gT.nil (φ:bq):gT φ [] []:=⟨rfl,fun i v v' h=>by simp at h⟩
theorem gT.cons {φ:bq} {v v':Value} {l m:List Value} (h:aC φ v v') (hl:gT φ l m):gT φ (v::l) (v'::m):=by
 refine⟨by simp[hl.1],fun i x x' hx hx'=> ?_⟩;cases i with
 |zero=>simp at hx hx';subst hx;subst hx';exact h
 |succ i=>exact hl.2 i x x' (by simpa using hx) (by simpa using hx')
theorem gT.cons_inv {φ:bq} {v:Value} {l m:List Value} (h:gT φ (v::l) m):∃v' m',m=v'::m'∧aC φ v v'∧gT φ l m':=by
 cases m with
 |nil=>have:=h.1;simp at this
 |cons v' m'=>
  refine⟨v',m',rfl,h.2 0 v v' rfl rfl,by have:=h.1;simp at this;exact this,fun i x x' hx hx'=>h.2 (i+1) x x' (by simpa using hx) (by simpa using hx')⟩
theorem gT.oU {φ:bq} {m:List Value} (h:gT φ [] m):m=[]:=by
 have:=h.1;simpa using this
theorem bu.toList {φ:bq} {a b:Array Value} (h:bu φ a b):gT φ a.toList b.toList:=
 ⟨by simpa using h.1,fun i v v' hv hv'=>h.2 i v v' (by simpa using hv) (by simpa using hv')⟩
theorem bu.ofList {φ:bq} {a b:Array Value} (h:gT φ a.toList b.toList):bu φ a b:=
 ⟨by simpa using h.1,fun i v v' hv hv'=>h.2 i v v' (by simpa using hv) (by simpa using hv')⟩
theorem gT.append {φ:bq} {l m l' m':List Value} (h:gT φ l m) (h':gT φ l' m'):gT φ (l++l') (m++m'):=by
 induction l generalizing m with
 |nil=>rw[h.oU];exact h'
 |cons v l ih=>
  obtain⟨v',m₁,rfl,hv,hl⟩:=h.cons_inv;exact .cons hv (ih hl)
theorem bu.append {φ:bq} {l m l' m':Array Value} (h:bu φ l m) (h':bu φ l' m'):bu φ (l++l') (m++m'):=
 .ofList (by simpa using h.toList.append h'.toList)
theorem bu.empty (φ:bq):bu φ #[] #[]:=⟨rfl,fun i v v' h=>by simp at h⟩
theorem bu.one {φ:bq} {v v':Value} (h:aC φ v v'):bu φ #[v] #[v']:= .ofList (.cons h (.nil φ))
theorem bu.push {φ:bq} {l m:Array Value} {v v':Value} (h:bu φ l m) (hv:aC φ v v'):bu φ (l.push v) (m.push v'):=by
 rw[Array.push_eq_append,Array.push_eq_append];exact h.append (.one hv)
theorem bu.get {φ:bq} {a b:Array Value} (h:bu φ a b) {i:Nat} {v:Value} (hv:a[i]?=some v):∃v',b[i]?=some v'∧aC φ v v':=by
 have hi:i<a.size:=(Array.getElem?_eq_some_iff.1 hv).1;have hb:i<b.size:=by rw[h.1];exact hi
 exact⟨b[i],Array.getElem?_eq_getElem hb,h.2 i v _ hv (Array.getElem?_eq_getElem hb)⟩
theorem bu.set {φ:bq} {a b:Array Value} (h:bu φ a b) (i:Nat) {v v':Value} (hv:aC φ v v'):bu φ (a.setIfInBounds i v) (b.setIfInBounds i v'):=by
 refine⟨by simp[h.1],fun j x x' hx hx'=> ?_⟩;by_cases hij:i=j
 ·subst hij;rw[Array.getElem?_setIfInBounds_self] at hx hx';split at hx
  ·split at hx'
   ·cases hx;cases hx';exact hv
   ·cases hx'
  ·cases hx
 ·rw[Array.getElem?_setIfInBounds_ne hij] at hx hx';exact h.2 j x x' hx hx'
theorem bu.extract {φ:bq} {a b:Array Value} (h:bu φ a b) (i j:Nat):bu φ (a.extract i j) (b.extract i j):=by
 refine⟨by simp[h.1],fun k x x' hx hx'=> ?_⟩;rw[Array.getElem?_extract] at hx hx';split at hx
 ·split at hx'
  ·exact h.2 _ x x' hx hx'
  ·cases hx'
 ·cases hx
theorem bu.refs {φ:bq} {cs:Array Value} (h:cs.all dH=true):bu φ cs cs:=by
 refine⟨rfl,fun i v v' hv hv'=> ?_⟩;rw[hv] at hv';cases hv';rw[Array.all_eq_true_iff_forall_mem] at h;exact .sc (h v (Array.mem_of_getElem? hv))
theorem aC.Dq {φ:bq} {cs ds:Array Value} (h:bu φ cs ds):aC φ (.agg cs) (.agg ds):= .agg h.1 h.2
theorem aC.DZ {φ:bq} {cs ds:Array Value} (h:bu φ cs ds):aC φ (.tuple cs) (.tuple ds):= .tuple h.1 h.2
theorem aC.undef (φ:bq):aC φ undef undef:= .DZ (.empty φ)
theorem aC.cells {φ:bq} {v v':Value} (h:aC φ v v'):bu φ v.cells v'.cells:=by
 cases h with
 |agg hc h=>exact⟨hc,h⟩
 |sc h=>cases v<;>first|exact bu.one (.sc h)|(simp[dH] at h)
 |ptr h=>exact .one (.ptr h)
 |slice h=>exact .one (.slice h)
 |map h=>exact .one (.map h)
 |func hfn hf hc h1 h2=>exact .one (.func hfn hf hc h1 h2)
 |yield h=>exact .one (.yield h)
 |iface h=>exact .one (.iface h)
 |tuple hc h=>exact .one (.tuple hc h)
/-- Values without an address, at any depth that there is. -/
def fF:Value→Bool
 | .agg cs=>cs.all dH
 |v=>dH v
def ou:Value→Bool
 | .tuple cs=>cs.all fF
 |v=>fF v
theorem aC.zO {φ:bq} {v:Value} (h:fF v=true):aC φ v v:=by
 cases v<;>first|exact .sc h|exact .Dq (.refs h)
theorem aC.Ca {φ:bq} {v:Value} (h:ou v=true):aC φ v v:=by
 cases v with
 |tuple cs=>
  refine .tuple rfl fun i v v' hv hv'=> ?_;rw[hv] at hv';cases hv';have h':cs.all fF=true:=h;rw[Array.all_eq_true_iff_forall_mem] at h';exact .zO (h' v (Array.mem_of_getElem? hv))
 |_=>exact .zO h
theorem aC.yn {φ:bq} {v v':Value} (hs:fF v=true) (h:aC φ v v'):v'=v:=by
 cases h with
 |sc _=>rfl
 |agg hc h=>
  rename_i cs ds;have hs':cs.all dH=true:=hs;rw[Array.all_eq_true_iff_forall_mem] at hs';congr 1
  apply Array.ext hc
  intro i h1 h2;have hv:=h i cs[i] ds[i] (Array.getElem?_eq_getElem h2) (Array.getElem?_eq_getElem h1);have hsc:=hs' cs[i] (Array.getElem_mem h2);generalize cs[i]=x at *;generalize ds[i]=y at *;cases hv<;>first|rfl|(simp[dH] at hsc)
 |_=>simp[fF,dH] at hs
/-- A block of one's own: cells (k: how many an element more takes), a table that is read alone, or another thing. -/
inductive cz where
 |cells (c:Array Value) (T:TypeId) (k:Nat)
 |mM (c:Array Value)
 |other (o:Obj)
def vK (φ:bq) (x y:MapEntry):Prop:=aC φ x.key y.key∧aC φ x.val y.val∧y.born=x.born
def EL (φ:bq):List MapEntry→List MapEntry→Prop
 |[],[]=>True
 |x::l,y::m=>vK φ x y∧EL φ l m
 |_,_=>False
def iG (φ:bq) (a b:Array MapEntry):Prop:=EL φ a.toList b.toList
def Na (φ:bq):Option Nat→Option Nat→Prop
 |none,none=>True
 |some m,some m'=>∃e,φ m=some (m',e)
 |_,_=>False
theorem Na.mono {φ ψ:bq} (hl:Le φ ψ) {m m':Option Nat} (h:Na φ m m'):Na ψ m m':=by
 cases m<;>cases m'<;>first|exact h.elim|exact h|exact Exists.elim h fun e he=>⟨e,hl _ _ he⟩
def zk (φ:bq):Obj→Obj→Prop
 | .map es ck, .map es' FI=>FI=ck∧iG φ es es'
 | .mapIter m a b c, .mapIter m' a' b' c'=>Na φ m m'∧a'=a∧b'=b∧c'=c
 | .stringIter s p, .stringIter s' p'=>s'=s∧p'=p
 |_,_=>False
def vJ (φ:bq) (e:Nat):cz→Obj→Prop
 | .cells c T k, .cells c' T' fz=>T'=T∧fz=(0,0)∧c'.size=c.size+e*k∧(k=0→e=0)∧∀(i:Nat) v v',c[i]?=some v→c'[i]?=some v'→aC φ v v'
 | .mM c, .cells c' _ _=>e=0∧bu φ c c'
 | .other o,o'=>e=0∧zk φ o o'
 |_,_=>False
theorem vK.mono {φ ψ:bq} (hl:Le φ ψ) {x y:MapEntry} (h:vK φ x y):vK ψ x y:=⟨h.1.mono hl,h.2.1.mono hl,h.2.2⟩
theorem EL.mono {φ ψ:bq} (hl:Le φ ψ):∀{l m:List MapEntry},EL φ l m→EL ψ l m
 |[],[],_=>True.intro
 |_::_,_::_,h=>⟨h.1.mono hl,h.2.mono hl⟩
 |[],_::_,h=>h.elim
 |_::_,[],h=>h.elim
theorem EL.length {φ:bq}:∀{l m:List MapEntry},EL φ l m→m.length=l.length
 |[],[],_=>rfl
 |_::_,_::_,h=>by simp[h.2.length]
 |[],_::_,h=>h.elim
 |_::_,[],h=>h.elim
theorem EL.get {φ:bq}:∀{l m:List MapEntry},EL φ l m→∀{i:Nat} {x:MapEntry},l[i]?=some x→∃y,m[i]?=some y∧vK φ x y
 |[],[],_,i,x,h=>by simp at h
 |_::_,y::_,h,0,x,hx=>by simp at hx;subst hx;exact⟨y,rfl,h.1⟩
 |_::l,_::m,h,i+1,x,hx=>by
  obtain⟨y,hy,hr⟩:=EL.get h.2 (i:=i) (x:=x) (by simpa using hx);exact⟨y,by simpa using hy,hr⟩
 |[],_::_,h,_,_,_=>h.elim
 |_::_,[],h,_,_,_=>h.elim
theorem iG.mono {φ ψ:bq} (hl:Le φ ψ) {x y:Array MapEntry} (h:iG φ x y):iG ψ x y:=EL.mono hl h
theorem iG.size {φ:bq} {x y:Array MapEntry} (h:iG φ x y):y.size=x.size:=by simpa using EL.length h
theorem EL.append {φ:bq}:∀{l m l' m':List MapEntry},EL φ l m→EL φ l' m'→EL φ (l++l') (m++m')
 |[],[],_,_,_,h=>h
 |_::_,_::_,_,_,h,h'=>⟨h.1,h.2.append h'⟩
 |[],_::_,_,_,h,_=>h.elim
 |_::_,[],_,_,h,_=>h.elim
theorem EL.modify {φ:bq} {f g:MapEntry→MapEntry} (hf:∀x y,vK φ x y→vK φ (f x) (g y)):∀{l m:List MapEntry} (i:Nat),EL φ l m→EL φ (l.modify i f) (m.modify i g)
 |[],[],i,_=>by simp[EL]
 |x::l,y::m,0,h=>by simp only[List.modify_zero_cons];exact⟨hf _ _ h.1,h.2⟩
 |x::l,y::m,i+1,h=>by simp only[List.modify_succ_cons];exact⟨h.1,EL.modify hf i h.2⟩
 |[],_::_,_,h=>h.elim
 |_::_,[],_,h=>h.elim
theorem EL.erase {φ:bq}:∀{l m:List MapEntry} (i:Nat),EL φ l m→EL φ (l.eraseIdx i) (m.eraseIdx i)
 |[],[],i,_=>by simp[EL]
 |x::l,y::m,0,h=>h.2
 |x::l,y::m,i+1,h=>⟨h.1,EL.erase i h.2⟩
 |[],_::_,_,h=>h.elim
 |_::_,[],_,h=>h.elim
theorem iG.push {φ:bq} {x y:Array MapEntry} (h:iG φ x y) {e f:MapEntry} (he:vK φ e f):iG φ (x.push e) (y.push f):=by
 unfold iG;rw[Array.toList_push,Array.toList_push];exact EL.append h ⟨he,True.intro⟩
theorem iG.modify {φ:bq} {x y:Array MapEntry} (h:iG φ x y) {f g:MapEntry→MapEntry} (hf:∀x y,vK φ x y→vK φ (f x) (g y)) (i:Nat):iG φ (x.modify i f) (y.modify i g):=by
 unfold iG;rw[Array.toList_modify,Array.toList_modify];exact EL.modify hf i h
theorem iG.erase {φ:bq} {x y:Array MapEntry} (h:iG φ x y) (i:Nat):iG φ (x.eraseIdxIfInBounds i) (y.eraseIdxIfInBounds i):=by
 unfold iG;rw[Array.toList_eraseIdxIfInBounds,Array.toList_eraseIdxIfInBounds];exact EL.erase i h
theorem zk.mono {φ ψ:bq} (hl:Le φ ψ) {o o':Obj} (h:zk φ o o'):zk ψ o o':=by
 cases o<;>cases o'<;>first|exact h.elim|skip
 case map.map=>exact⟨h.1,h.2.mono hl⟩
 case stringIter.stringIter=>exact h
 case mapIter.mapIter=>exact⟨h.1.mono hl,h.2⟩
theorem vJ.mono {φ ψ:bq} (hl:Le φ ψ) {e:Nat} {o:cz} {o':Obj} (h:vJ φ e o o'):vJ ψ e o o':=by
 cases o with
 |other o=>exact⟨h.1,h.2.mono hl⟩
 |mM c=>
  cases o'<;>first|exact h.elim|skip
  exact⟨h.1,h.2.mono hl⟩
 |cells c T k=>
  cases o'<;>first|exact h.elim|skip
  exact⟨h.1,h.2.1,h.2.2.1,h.2.2.2.1,fun i v v' a b=>(h.2.2.2.2 i v v' a b).mono hl⟩
/-- The checker's memory, the next free number, and which blocks were read, and written. -/
structure St where
 mem:Tree cz
 next:Nat
 rd:Nat
 wr:Nat
def St.m (σ:St) (b:Nat):Option cz:=σ.mem.get b
def St.read (σ:St) (b:Nat):St:={σ with rd:=σ.rd|||2^b}
def St.write (σ:St) (b:Nat) (o:Option cz):St:={σ with mem:=σ.mem.set b o,wr:=σ.wr|||2^b}
def St.grow (σ:St) (o:cz):St:={σ with mem:=σ.mem.set σ.next (some o),next:=σ.next+1}
def St.look (σ:St) (a:Addr):Option Value:=
 if a.spot.isSome then none else if a.block<σ.next then
  match σ.m a.block with
  |some (.cells c _ _)=>c[a.off]?
  |some (.mM c)=>c[a.off]?
  |_=>none
 else none
def St.put (σ:St) (a:Addr) (v:Value):Option St:=
 if a.spot.isSome then none else if a.block<σ.next then
  match σ.m a.block with
  |some (.cells c T k)=>if a.off<c.size then some (σ.write a.block (some (.cells (c.setIfInBounds a.off v) T k))) else none
  |_=>none
 else none
theorem eX {n b c:Nat}:(n|||2^b).testBit c=true↔n.testBit c=true∨b=c:=by
 rw[Nat.testBit_or,Nat.testBit_two_pow];simp
structure WF (σ:St):Prop where
 wr:∀b,σ.wr.testBit b=true→b<σ.next
 top:∀b,σ.next≤b→σ.m b=none
/-- What a run does to the checker's memory. -/
structure bn (σ σ':St):Prop where
 next:σ.next≤σ'.next
 rd:∀b,σ.rd.testBit b=true→σ'.rd.testBit b=true
 wr:∀b,σ.wr.testBit b=true→σ'.wr.testBit b=true
 BH:∀b,σ'.wr.testBit b=true→σ.wr.testBit b=true∨b<σ'.next
 mem:∀b,¬σ'.wr.testBit b=true→¬(σ.next≤b∧b<σ'.next)→σ'.m b=σ.m b
 dead:∀b,b<σ.next→σ.m b=none→σ'.m b=none
theorem bn.refl (σ:St):bn σ σ:=⟨Nat.le_refl _,fun _ h=>h,fun _ h=>h,fun _ h=> .inl h,fun _ _ _=>rfl,fun _ _ h=>h⟩
theorem bn.trans {σ τ υ:St} (h:bn σ τ) (k:bn τ υ):bn σ υ where
 next:=Nat.le_trans h.next k.next
 rd:=fun b hb=>k.rd b (h.rd b hb)
 wr:=fun b hb=>k.wr b (h.wr b hb)
 BH:=fun b hb=>(k.BH b hb).elim (fun hb=>(h.BH b hb).imp id fun hb=>Nat.lt_of_lt_of_le hb k.next) .inr
 mem:=fun b hb hn=>by
  have h1:=h.next;have h2:=k.next;rw[k.mem b hb (by omega),h.mem b (fun hw=>hb (k.wr b hw)) (by omega)]
 dead:=fun b hb hd=>k.dead b (Nat.lt_of_lt_of_le hb h.next) (h.dead b hb hd)
theorem bn.wf {σ σ':St} (h:bn σ σ') (hw:WF σ):WF σ' where
 wr:=fun b hb=>(h.BH b hb).elim (fun hb=>Nat.lt_of_lt_of_le (hw.wr b hb) h.next) id
 top:=fun b hb=>by
  have n1:=h.next;have hx:¬σ'.wr.testBit b=true:=fun x=>(h.BH b x).elim (fun y=>by have:=hw.wr b y;omega) (fun y=>by omega);rw[h.mem b hx (by omega)];exact hw.top b (by omega)
theorem bn.rf (σ:St) (b:Nat):bn σ (σ.read b):=
 ⟨Nat.le_refl _,fun _ h=>eX.2 (.inl h),fun _ h=>h,fun _ h=> .inl h,fun _ _ _=>rfl,fun _ _ h=>h⟩
theorem bn.DX (σ:St) (b:Nat) (o:Option cz) (hb:b<σ.next) (hl:σ.m b≠none):bn σ (σ.write b o) where
 next:=Nat.le_refl _
 rd:=fun _ h=>h
 wr:=fun _ h=>eX.2 (.inl h)
 BH:=fun c hc=>(eX.1 hc).imp id fun(h:b=c)=>h▸hb
 mem:=fun c hc _=>by
  have:b≠c:=fun h=>hc (eX.2 (.inr h));simp[St.m,St.write,Tree.jG,this]
 dead:=fun c _ hd=>by
  have:b≠c:=fun h=>hl (h▸hd);simpa[St.m,St.write,Tree.jG,this] using hd
theorem bn.fA (σ:St) (o:cz):bn σ (σ.grow o) where
 next:=Nat.le_succ _
 rd:=fun _ h=>h
 wr:=fun _ h=>h
 BH:=fun c hc=> .inl hc
 mem:=fun c _ hn=>by
  have:σ.next≠c:=fun h=>hn ⟨by omega,by simp[St.grow];omega⟩;simp[St.m,St.grow,Tree.jG,this]
 dead:=fun c hc hd=>by
  have:σ.next≠c:=by omega
  simpa[St.m,St.grow,Tree.jG,this] using hd
section
variable {α:Type}
def gather (f:Nat→Option (List α)):Nat→Option (List α)
 |0=>some []
 |n+1=>match gather f n,f n with
  |some l,some r=>some (l++r)
  |_,_=>none
theorem vF {f:Nat→Option (List α)}:∀{n:Nat} {l:List α},gather f n=some l→∀i,i<n→∃r,f i=some r∧∀x∈r,x∈l:=by
 intro n;induction n with
 |zero=>intro l _ i hi;omega
 |succ n ih=>
  intro l h i hi;unfold gather at h;split at h
  ·rename_i l' r h1 h2;cases h;by_cases hin:i<n
   ·obtain⟨r',hr,hx⟩:=ih h1 i hin;exact⟨r',hr,fun x hx'=>List.mem_append_left _ (hx x hx')⟩
   ·obtain rfl:i=n:=by omega
    exact⟨r,h2,fun x hx'=>List.mem_append_right _ hx'⟩
  ·cases h
theorem CX {f:Nat→Option (List α)}:∀{n:Nat} {l:List α},gather f n=some l→∀x∈l,∃i r,i<n∧f i=some r∧x∈r:=by
 intro n;induction n with
 |zero=>intro l h x hx;cases h;cases hx
 |succ n ih=>
  intro l h x hx;unfold gather at h;split at h
  ·rename_i l' r h1 h2;cases h;rcases List.mem_append.1 hx with hx|hx
   ·obtain⟨i,r',hi,hr,hm⟩:=ih h1 x hx;exact⟨i,r',by omega,hr,hm⟩
   ·exact⟨n,r,by omega,h2,hx⟩
  ·cases h
theorem Ku {f:Nat→Option (List α)}:∀{n:Nat},(∀i,i<n→∃r,f i=some r)→∃l,gather f n=some l:=by
 intro n;induction n with
 |zero=>intro _;exact⟨[],rfl⟩
 |succ n ih=>
  intro h;obtain⟨l,hl⟩:=ih fun i hi=>h i (by omega);obtain⟨r,hr⟩:=h n (by omega);exact⟨l++r,by simp[gather,hl,hr]⟩
end
/-- What may be answered to a question that is left open. -/
def XI {α:Type} (q:Question) (f:Nat→Option (List α)):Option (List α):=
 if q.forced then f 0 else match q with
  | .mapNext n=>gather f n
  |_=>none
/-- A run on the checker's memory: all ends that there may be. -/
def bW (P:Program) {α:Type}:Sem α→St→Option (List (α×St))
 | .pure a,σ=>some [(a,σ)]
 | .load _ a k,σ=>match σ.look a with
   |some v=>bW P (k v) (σ.read a.block)
   |none=>none
 | .store _ a v k,σ=>match v with
   | .agg _| .tuple _=>none
   |v=>match σ.put a v with
    |some σ'=>bW P k σ'
    |none=>none
 | .new o k,σ=>match o with
   | .cells c T fz=>if fz=(0,0) then bW P (k σ.next) (σ.grow (.cells c T 0)) else none
   | .map es ck=>bW P (k σ.next) (σ.grow (.other (.map es ck)))
   | .mapIter m a b c=>bW P (k σ.next) (σ.grow (.other (.mapIter m a b c)))
   | .stringIter s p=>bW P (k σ.next) (σ.grow (.other (.stringIter s p)))
   |_=>none
 | .shape r k,σ=>if r<σ.next then match σ.m r with
   |some (.cells c T 0)=>bW P (k (some (T,c.size))) (σ.read r)
   |_=>none
   else none
 | .frozen a k,σ=>if a.block<σ.next then match σ.m a.block with
   |some (.cells _ _ _)=>bW P (k false) (σ.read a.block)
   |_=>none
   else none
 | .getObj r k,σ=>if r<σ.next then match σ.m r with
   |some (.other o)=>bW P (k o) (σ.read r)
   |_=>none
   else none
 | .setObj r o k,σ=>if r<σ.next then match σ.m r with
   |some (.other _)=>bW P k (σ.write r (some (.other o)))
   |_=>none
   else none
 | .choose q k,σ=>XI q fun i=>bW P (k i) σ
 | .program k,σ=>bW P (k P) σ
 | .mark _ k,σ=>bW P k σ
 | .freeze ..,_| .sys ..,_| .halt _,_=>none
 termination_by structural s=>s
theorem uL {σ:St} {a:Addr} {v:Value} (h:σ.look a=some v):a.spot=none∧a.block<σ.next∧∃c,(σ.m a.block=some (.mM c)∨∃T k,σ.m a.block=some (.cells c T k))∧c[a.off]?=some v:=by
 unfold St.look at h;split at h
 ·cases h
 ·rename_i hs;split at h
  ·rename_i hb;split at h
   ·rename_i c T k hm;exact⟨by simpa using hs,hb,c, .inr ⟨T,k,hm⟩,h⟩
   ·rename_i c hm;exact⟨by simpa using hs,hb,c, .inl hm,h⟩
   ·cases h
  ·cases h
theorem Hw {σ σ':St} {a:Addr} {v:Value} (h:σ.put a v=some σ'):a.spot=none∧a.block<σ.next∧∃c T k,σ.m a.block=some (.cells c T k)∧a.off<c.size∧σ'=σ.write a.block (some (.cells (c.setIfInBounds a.off v) T k)):=by
 unfold St.put at h;split at h
 ·cases h
 ·rename_i hs;split at h
  ·rename_i hb;split at h
   ·rename_i c T k hm;split at h
    ·rename_i ho;cases h;exact⟨by simpa using hs,hb,c,T,k,hm,ho,rfl⟩
    ·cases h
   ·cases h
  ·cases h
theorem ae3 {P:Prop} (h:P:=by
 split at h
 ·exact⟨(ih _ _ _ h).1,fun o ho=>(bn.rf σ _).trans ((ih _ _ _ h).2 o ho)⟩
 ·cases h):P:=h
theorem ae0 {P:Prop} (h:P:=by
 intro σ outs h;simp only[bW] at h;split at h
 ·exact ae3
 ·cases h):P:=h
theorem ae2 {P:Prop} (h:P:=by
 exact⟨(ih _ _ _ h).1,fun o ho=>(bn.fA σ _).trans ((ih _ _ _ h).2 o ho)⟩):P:=h
theorem ae4 {P:Prop} (h:P:=by
 exact⟨(ih _ _ h).1,fun o ho=>(bn.DX σ _ _ hb (by rw[hm];simp)).trans ((ih _ _ h).2 o ho)⟩):P:=h
theorem oV (P:Program) {α:Type} (s:Sem α):∀(σ:St) (outs:List (α×St)),bW P s σ=some outs→outs≠[]∧∀o∈outs,bn σ o.2:=by
 induction s with
 |pure a=>intro σ outs h;cases h;exact⟨by simp,fun o ho=>by simp at ho;subst ho;exact .refl σ⟩
 |load m a k ih=>
  intro σ outs h;simp only[bW] at h;exact ae3
 |store m a v k ih=>
  intro σ outs h;simp only[bW] at h;split at h
  ·cases h
  ·cases h
  ·split at h
   ·rename_i σ' hp;obtain⟨_,hb,c,T,kk,hm,_,rfl⟩:=Hw hp;exact ae4
   ·cases h
 |new o k ih=>
  intro σ outs h;simp only[bW] at h;split at h
  ·split at h
   ·exact ae2
   ·cases h
  ·exact ae2
  ·exact ae2
  ·exact ae2
  ·cases h
 |shape r k ih=>
  exact ae0
 |freeze a n k ih=>intro σ outs h;cases h
 |frozen a k ih=>
  exact ae0
 |getObj r k ih=>
  exact ae0
 |setObj r o k ih=>
  intro σ outs h;simp only[bW] at h;split at h
  ·rename_i hb;split at h
   ·rename_i hm;exact ae4
   ·cases h
  ·cases h
 |choose q k ih=>
  intro σ outs h;simp only[bW,XI] at h;split at h
  ·exact ih _ _ _ h
  ·rename_i hf;split at h
   ·rename_i n;have hn:1<n:=by simpa[Question.forced] using hf
    refine⟨?_,fun o ho=> ?_⟩
    ·obtain⟨r,hr,hx⟩:=vF h 0 (by omega);obtain⟨hne,_⟩:=ih _ _ _ hr;intro he;cases r with
     |nil=>exact hne rfl
     |cons x r=>have:=hx x (by simp);rw[he] at this;cases this
    ·obtain⟨i,r,_,hr,hm⟩:=CX h o ho;exact(ih _ _ _ hr).2 o hm
   ·cases h
 |sys c k ih=>intro σ outs h;cases h
 |program k ih=>intro σ outs h;exact ih _ _ _ h
 |mark m k ih=>intro σ outs h;exact ih _ _ h
 |halt x=>intro σ outs h;cases h
theorem ae1 {P:Prop} (h:P:=by
 intro σ outs h;simp only[Sem.bind,bW] at h⊢
 split at h
 ·rename_i hr;simp only[hr,if_true];split at h
  ·exact ih _ _ _ h
  ·cases h
 ·cases h):P:=h
theorem yS (P:Program) {α β:Type} (s:Sem α) (f:α→Sem β):∀(σ:St) (outs:List (β×St)),bW P (s.bind f) σ=some outs→
  ∃l,bW P s σ=some l∧∀o∈l,∃r,bW P (f o.1) o.2=some r∧∀x∈r,x∈outs:=by
 induction s with
 |pure a=>intro σ outs h;exact⟨_,rfl,fun o ho=>by simp at ho;subst ho;exact⟨outs,h,fun _ h=>h⟩⟩
 |load m a k ih=>
  intro σ outs h;simp only[Sem.bind,bW] at h⊢
  split at h
  ·exact ih _ _ _ h
  ·cases h
 |store m a v k ih=>
  intro σ outs h;simp only[Sem.bind,bW] at h⊢
  split at h
  ·cases h
  ·cases h
  ·split at h
   ·rename_i σ' hp;exact ih _ _ h
   ·cases h
 |new o k ih=>
  intro σ outs h;simp only[Sem.bind,bW] at h⊢
  split at h
  ·split at h
   ·rename_i hz;simp only[hz,if_true];exact ih _ _ _ h
   ·cases h
  ·exact ih _ _ _ h
  ·exact ih _ _ _ h
  ·exact ih _ _ _ h
  ·cases h
 |shape r k ih=>
  exact ae1
 |freeze a n k ih=>intro σ outs h;cases h
 |frozen a k ih=>
  exact ae1
 |getObj r k ih=>
  exact ae1
 |setObj r o k ih=>
  intro σ outs h;simp only[Sem.bind,bW] at h⊢
  split at h
  ·rename_i hr;simp only[hr,if_true];split at h
   ·exact ih _ _ h
   ·cases h
  ·cases h
 |choose q k ih=>
  intro σ outs h;simp only[Sem.bind,bW,XI] at h⊢
  split at h
  ·rename_i hf;simp only[hf,if_true];exact ih _ _ _ h
  ·rename_i hf;simp only[hf,Bool.false_eq_true,if_false];split at h
   ·rename_i n
    have hall:∀i,i<n→∃r,bW P (k i) σ=some r:=fun i hi=>by
     obtain⟨r,hr,_⟩:=vF h i hi;obtain⟨l,hl,_⟩:=ih i _ _ hr;exact⟨l,hl⟩
    obtain⟨l,hl⟩:=Ku hall;refine⟨l,hl,fun o ho=> ?_⟩;obtain⟨i,r,hi,hr,hm⟩:=CX hl o ho;obtain⟨r',hr',hx⟩:=vF h i hi;obtain⟨l',hl',hx'⟩:=ih i _ _ hr';have hr2:bW P (k i) σ=some r:=hr;rw[hr2] at hl';cases hl';obtain⟨r'',h1,h2⟩:=hx' o hm;exact⟨r'',h1,fun x hxx=>hx x (h2 x hxx)⟩
   ·cases h
 |sys c k ih=>intro σ outs h;cases h
 |program k ih=>intro σ outs h;exact ih _ _ _ h
 |mark m k ih=>intro σ outs h;exact ih _ _ h
 |halt x=>intro σ outs h;cases h
/-- A world holds what the checker's memory L holds. -/
structure Good (φ:bq) (L:Nat→Option cz) (w:World):Prop where
 obj:∀b o,L b=some o→∃r e ob,φ b=some (r,e)∧w.heap[r]?=some ob∧vJ φ e o ob
 inj:∀b c,L b≠none→L c≠none→∀r e e',φ b=some (r,e)→φ c=some (r,e')→b=c
def Agree (L:Nat→Option cz) (σ σ':St):Prop:=∀b,(σ'.rd.testBit b=true∨σ'.wr.testBit b=true)→b<σ.next→L b=σ.m b
def Clear (φ:bq) (L:Nat→Option cz) (σ σ':St):Prop:=∀b,σ.next≤b→b<σ'.next→φ b=none∧L b=none
/-- From a world to another one: what may have been written (W), what is new (N). -/
structure kL (W N:Nat→Prop) (φ φ':bq) (L L':Nat→Option cz) (w w':World):Prop where
 le:Le φ φ'
 new:∀b,φ b=none→φ' b≠none→N b
 good:Good φ' L' w'
 stay:∀b,¬W b→¬N b→L' b=L b
 dead:∀b,¬N b→L b=none→L' b=none
 size:w.heap.size≤w'.heap.size
 frame:∀r,r<w.heap.size→(∀b e,L b≠none→W b→φ b≠some (r,e))→w'.heap[r]?=w.heap[r]?
 fresh:∀b,N b→L' b≠none→∀r e,φ' b=some (r,e)→w.heap.size≤r∨∃c,¬N c∧L c≠none∧W c∧∃e',φ c=some (r,e')
 kept:w'.os=w.os∧w'.tape=w.tape∧w'.output=w.output
 mM:∀b c,L b=some (.mM c)→L' b=some (.mM c)
theorem kL.refl {φ:bq} {L:Nat→Option cz} {w:World} (W:Nat→Prop) (hg:Good φ L w):kL W (fun _=>False) φ φ L L w w:=
 ⟨.refl φ,fun _b h h'=>absurd h h',hg,fun _ _ _=>rfl,fun _ _ h=>h,Nat.le_refl _,fun _ _ _=>rfl,fun _ h=>h.elim,⟨rfl,rfl,rfl⟩,fun _ _ h=>h⟩
theorem kL.trans {W₁ W₂ N₁ N₂:Nat→Prop} {φ ψ χ:bq} {L M K:Nat→Option cz} {w w' w'':World} (hc:∀b,N₂ b→L b=none)
  (h:kL W₁ N₁ φ ψ L M w w') (k:kL W₂ N₂ ψ χ M K w' w''):kL (fun b=>W₁ b∨W₂ b) (fun b=>N₁ b∨N₂ b) φ χ L K w w'' where
 le:=h.le.trans k.le
 new:=fun b h1 h2=>by
  by_cases hp:ψ b=none
  ·exact .inr (k.new b hp h2)
  ·exact .inl (h.new b h1 hp)
 good:=k.good
 stay:=fun b h1 h2=>by rw[k.stay b (fun x=>h1 (.inr x)) (fun x=>h2 (.inr x)),h.stay b (fun x=>h1 (.inl x)) (fun x=>h2 (.inl x))]
 dead:=fun b h1 h2=>k.dead b (fun x=>h1 (.inr x)) (h.dead b (fun x=>h1 (.inl x)) h2)
 size:=Nat.le_trans h.size k.size
 frame:=fun r hr hno=>by
  rw[k.frame r (Nat.lt_of_lt_of_le hr h.size) ?_]
  ·exact h.frame r hr fun b e h1 h2=>hno b e h1 (.inl h2)
  ·intro b e hM hW hp;by_cases hn:N₁ b
   ·rcases h.fresh b hn hM r e hp with hf|⟨c,_,Xi,hWc,e',hpc⟩
    ·omega
    ·exact hno c e' Xi (.inl hWc) hpc
   ·have IZ:L b≠none:=fun h0=>hM (h.dead b hn h0);cases hφ:φ b with
    |none=>exact hn (h.new b hφ (by rw[hp];simp))
    |some x=>
     have:=h.le b x hφ;rw[hp] at this;cases this;exact hno b e IZ (.inr hW) hφ
 fresh:=fun b hN hK r e hp=>by
  have first:∀b,N₁ b→M b≠none→∀r e,ψ b=some (r,e)→w.heap.size≤r∨∃c,¬(N₁ c∨N₂ c)∧L c≠none∧(W₁ c∨W₂ c)∧∃e',φ c=some (r,e'):=fun b h1 h2 r e h3=>
   (h.fresh b h1 h2 r e h3).imp id fun⟨c,c1,c2,c3,c4⟩=>⟨c,fun x=>x.elim c1 fun y=>c2 (hc c y),c2, .inl c3,c4⟩
  by_cases h2:N₂ b
  ·rcases k.fresh b h2 hK r e hp with hf|⟨c,c1,c2,c3,e',c4⟩
   ·exact .inl (Nat.le_trans h.size hf)
   ·by_cases hn:N₁ c
    ·exact first c hn c2 r e' c4
    ·have Xi:L c≠none:=fun h0=>c2 (h.dead c hn h0);cases hφ:φ c with
     |none=>exact absurd (h.new c hφ (by rw[c4];simp)) hn
     |some x=>
      have:=h.le c x hφ;rw[c4] at this;cases this;exact .inr ⟨c,fun x=>x.elim hn c1,Xi, .inr c3,e',hφ⟩
  ·have h1:N₁ b:=hN.resolve_right h2;have hMb:M b≠none:=fun h0=>hK (k.dead b h2 h0);obtain⟨o,ho⟩:=Option.ne_none_iff_exists'.1 hMb;obtain⟨r',e1,ob,hp',_,_⟩:=h.good.obj b o ho;have:=k.le b _ hp';rw[hp] at this;cases this;exact first b h1 hMb r e hp'
 kept:=⟨k.kept.1.trans h.kept.1,k.kept.2.1.trans h.kept.2.1,k.kept.2.2.trans h.kept.2.2⟩
 mM:=fun b c hb=>k.mM b c (h.mM b c hb)
theorem kL.wider {W W' N N':Nat→Prop} {φ ψ:bq} {L M:Nat→Option cz} {w w':World} (h:kL W N φ ψ L M w w') (hW:∀b,W b→W' b) (hN:∀b,N b→N' b) (hc:∀b,N' b→L b=none):
  kL W' N' φ ψ L M w w' where
 le:=h.le
 new:=fun b h1 h2=>hN b (h.new b h1 h2)
 good:=h.good
 stay:=fun b h1 h2=>h.stay b (fun x=>h1 (hW b x)) fun x=>h2 (hN b x)
 dead:=fun b h1 h2=>h.dead b (fun x=>h1 (hN b x)) h2
 size:=h.size
 frame:=fun r hr hno=>h.frame r hr fun b e h1 h2=>hno b e h1 (hW b h2)
 fresh:=fun b h1 h2 r e h3=>by
  by_cases hn:N b
  ·exact(h.fresh b hn h2 r e h3).imp id fun⟨c,c1,c2,c3,c4⟩=>⟨c,fun x=>c2 (hc c x),c2,hW c c3,c4⟩
  ·exact absurd (h.dead b hn (hc b h1)) h2
 kept:=h.kept
 mM:=h.mM
def St.W (σ:St) (b:Nat):Prop:=σ.wr.testBit b=true
def St.N (σ σ':St) (b:Nat):Prop:=σ.next≤b∧b<σ'.next
structure Step (σ σ':St) (φ φ':bq) (L L':Nat→Option cz) (w w':World):Prop where
 g:kL σ'.W (St.N σ σ') φ φ' L L' w w'
 here:∀b,(σ'.W b∨St.N σ σ' b)→L' b=σ'.m b
theorem Step.same {σ σ':St} {φ:bq} {L:Nat→Option cz} {w w':World} (hg:Good φ L w) (hw:WF σ) (ha:Agree L σ σ') (hn:σ'.next=σ.next) (hm:σ'.mem=σ.mem) (hwr:σ'.wr=σ.wr)
  (hh:w'.heap=w.heap) (hk:w'.os=w.os∧w'.tape=w.tape∧w'.output=w.output):
  Step σ σ' φ φ L L w w' where
 g:=⟨.refl φ,fun b h h'=>absurd h h',⟨fun b o h=>by rw[hh];exact hg.obj b o h,hg.inj⟩,fun _ _ _=>rfl,fun _ _ h=>h,by rw[hh];exact Nat.le_refl _,fun _ _ _=>by rw[hh],fun b h=>by unfold St.N at h;omega,hk,fun _ _ h=>h⟩
 here:=fun b hb=>by
  rcases hb with hb|hb
  ·rw[ha b (.inr hb) (hw.wr b (by unfold St.W at hb;rw[hwr] at hb;exact hb))];simp[St.m,hm]
  ·unfold St.N at hb;omega
theorem Step.refl {σ:St} {φ:bq} {L:Nat→Option cz} {w:World} (hg:Good φ L w) (hw:WF σ) (ha:Agree L σ σ):Step σ σ φ φ L L w w:= .same hg hw ha rfl rfl rfl rfl ⟨rfl,rfl,rfl⟩
theorem Step.trans {σ τ υ:St} {φ ψ χ:bq} {L M K:Nat→Option cz} {w w' w'':World} (h1:bn σ τ) (h2:bn τ υ) (hc:Clear φ L σ υ)
  (h:Step σ τ φ ψ L M w w') (k:Step τ υ ψ χ M K w' w''):Step σ υ φ χ L K w w'' where
 g:=by
  have n1:=h1.next;have n2:=h2.next;have hcl:∀b,St.N σ υ b→L b=none:=fun b hb=>(hc b hb.1 hb.2).2;refine(kL.trans (fun b hb=>hcl b ⟨by unfold St.N at hb;omega,hb.2⟩) h.g k.g).wider (fun b hb=>hb.elim (h2.wr b) id) (fun b hb=> ?_) hcl;unfold St.N at *;omega
 here:=fun b hb=>by
  have n1:=h1.next;have n2:=h2.next;by_cases hh:υ.W b∨St.N τ υ b
  ·exact k.here b hh
  ·have hn:¬υ.W b:=fun x=>hh (.inl x);have hm:¬St.N τ υ b:=fun x=>hh (.inr x)
   have hb':St.N σ τ b:=by
    rcases hb with hb|hb
    ·exact absurd hb hn
    ·unfold St.N at *;omega
   rw[k.g.stay b hn hm,h.here b (.inr hb'),h2.mem b hn hm]
theorem Agree.first {L:Nat→Option cz} {σ τ υ:St} (h2:bn τ υ) (ha:Agree L σ υ):Agree L σ τ:=fun b hb hn=>ha b (hb.imp (h2.rd b) (h2.wr b)) hn
theorem Clear.first {φ:bq} {L:Nat→Option cz} {σ τ υ:St} (h2:bn τ υ) (ha:Clear φ L σ υ):Clear φ L σ τ:=fun b hb hn=>ha b hb (Nat.lt_of_lt_of_le hn h2.next)
theorem Step.agree {σ τ υ:St} {φ ψ:bq} {L M:Nat→Option cz} {w w':World} (h1:bn σ τ) (ha:Agree L σ υ) (h:Step σ τ φ ψ L M w w'):Agree M τ υ:=fun b hf hb=>by
 by_cases hh:τ.wr.testBit b=true∨(σ.next≤b∧b<τ.next)
 ·exact h.here b hh
 ·have hn:¬τ.wr.testBit b=true:=fun x=>hh (.inl x);have hm:¬(σ.next≤b∧b<τ.next):=fun x=>hh (.inr x);rw[h.g.stay b hn hm,ha b hf (by omega),h1.mem b hn hm]
theorem Step.clear {σ τ υ:St} {φ ψ:bq} {L M:Nat→Option cz} {w w':World} (hw:WF σ) (h1:bn σ τ) (hc:Clear φ L σ υ) (h:Step σ τ φ ψ L M w w'):Clear ψ M τ υ:=fun b hb hn=>by
 have wf1:=h1.wf hw;have:=h1.next;have hcl:=hc b (by omega) hn;refine⟨?_,?_⟩
 ·cases hp:ψ b with
  |none=>rfl
  |some x=>have:=h.g.new b hcl.1 (by rw[hp];simp);unfold St.N at this;omega
 ·rw[h.g.stay b (fun x=>by have:=wf1.wr b x;omega) (by unfold St.N;omega)];exact hcl.2
/-- Whatever the checker runs, the world runs alike. -/
def aj (P:Program) (φ:bq) {α β:Type} (A:bq→α→β→Prop) (s:Sem α) (t:Sem β):Prop:=
 ∀ψ,Le φ ψ→∀(σ:St) (outs:List (α×St)) (L:Nat→Option cz) (w:World),bW P s σ=some outs→WF σ→(∀o∈outs,Clear ψ L σ o.2∧Agree L σ o.2)→Good ψ L w→
  ∃o∈outs,∃b w' ψ' L',t.run P w= .ok b w'∧A ψ' o.1 b∧Step σ o.2 ψ ψ' L L' w w'
section
variable {P:Program} {φ:bq} {α β γ δ:Type} {A:bq→α→β→Prop} {B:bq→γ→δ→Prop}
theorem aj.halt {x:Halt} {t:Sem β}:aj P φ A (.halt x:Sem α) t:=fun ψ _ σ outs L w h=>by cases h
theorem aj.ret {a:α} {b:β} (h:∀ψ,Le φ ψ→A ψ a b):aj P φ A (Pure.pure a:Sem α) (Pure.pure b:Sem β):=fun ψ hl σ outs L w hr hw hc hg=>by
 cases hr;exact⟨(a,σ),List.mem_singleton.2 rfl,b,w,ψ,L,rfl,h ψ hl, .refl hg hw (hc _ (List.mem_singleton.2 rfl)).2⟩
theorem run_bind' (s:Sem β) (f:β→Sem δ) (w:World):(s.bind f).run P w=match s.run P w with
  | .ok b w'=>(f b).run P w'
  | .halt h w'=> .halt h w':=by
 induction s generalizing w with
 |pure a=>rfl
 |load m a k ih=>
  simp only[Sem.bind,Sem.run];split
  ·exact ih _ _
  ·split
   ·exact ih _ _
   ·rfl
 |store m a v k ih=>
  cases v<;>simp only[Sem.bind,Sem.run]<;>first|rfl|skip
  all_goals
   split
   ·split
    ·rfl
    ·exact ih _
   ·split
    ·exact ih _
    ·rfl
 |new o k ih=>exact ih _ _
 |shape r k ih=>exact ih _ _
 |freeze a n k ih=>exact ih _
 |frozen a k ih=>exact ih _ _
 |getObj r k ih=>
  simp only[Sem.bind,Sem.run];split
  ·rfl
  ·exact ih _ _
  ·rfl
 |setObj r o k ih=>
  simp only[Sem.bind,Sem.run];split
  ·rfl
  ·exact ih _
  ·rfl
 |choose q k ih=>
  simp only[Sem.bind,Sem.run];split
  ·exact ih _ _
  ·exact ih _ _
 |sys c k ih=>exact ih _ _
 |program k ih=>exact ih _ _
 |mark m k ih=>exact ih _
 |halt x=>rfl
theorem aj.bind {s:Sem α} {t:Sem β} {f:α→Sem γ} {g:β→Sem δ} (h:aj P φ A s t) (k:∀ψ,Le φ ψ→∀a b,A ψ a b→aj P ψ B (f a) (g b)):
  aj P φ B (s>>= f) (t>>= g):=fun ψ hl σ outs L w hr hw hc hg=>by
 obtain⟨l,hl1,hl2⟩:=yS P s f σ outs hr;have p1:=oV P s σ l hl1
 have pre:∀o∈l,Clear ψ L σ o.2∧Agree L σ o.2:=fun o ho=>by
  obtain⟨r,hr',hx⟩:=hl2 o ho;obtain⟨hne,hp⟩:=oV P _ _ _ hr';cases r with
  |nil=>exact absurd rfl hne
  |cons x r=>
   have hxm:=hx x (by simp);exact⟨(hc x hxm).1.first (hp x (by simp)),(hc x hxm).2.first (hp x (by simp))⟩
 obtain⟨o,ho,b,w',ψ',L',hrun,hA,hst⟩:=h ψ hl σ l L w hl1 hw pre hg;obtain⟨r,hr',hx⟩:=hl2 o ho;have hp:=(oV P _ _ _ hr').2;have q1:=p1.2 o ho
 obtain⟨o',ho',b',w'',Vw,wQ,hrun',hB,hst'⟩:=k ψ' (hl.trans hst.g.le) o.1 b hA ψ' (.refl _) o.2 r L' w' hr' (q1.wf hw)
  (fun x OT=>⟨hst.clear hw q1 (hc x (hx x OT)).1,hst.agree q1 (hc x (hx x OT)).2⟩) hst.g.good
 refine⟨o',hx o' ho',b',w'',Vw,wQ,?_,hB,hst.trans q1 (hp o' ho') (hc o' (hx o' ho')).1 hst'⟩;show(t.bind g).run P w=_
 rw[run_bind',hrun];exact hrun'
theorem aj.program:aj P φ (fun _ p q=>P=p∧P=q) program program:=fun ψ _ σ outs L w hr hw hc hg=>by
 cases hr;exact⟨(P,σ),List.mem_singleton.2 rfl,P,w,ψ,L,rfl,⟨rfl,rfl⟩, .refl hg hw (hc _ (List.mem_singleton.2 rfl)).2⟩
theorem aj.mark {m m':Mark}:aj P φ (fun _ _ _=>True) (mark m) (mark m'):=fun ψ _ σ outs L w hr hw hc hg=>by
 cases hr;exact⟨((),σ),List.mem_singleton.2 rfl,(),w,ψ,L,rfl,trivial, .refl hg hw (hc _ (List.mem_singleton.2 rfl)).2⟩
/-- An address of one's own, and of the world's. -/
def kX (φ:bq) (a a':Addr):Prop:=a.spot=none∧a'.spot=none∧a'.off=a.off∧∃e,φ a.block=some (a'.block,e)
theorem kX.mono {ψ:bq} (hl:Le φ ψ) {a a':Addr} (h:kX φ a a'):kX ψ a a':=⟨h.1,h.2.1,h.2.2.1,h.2.2.2.elim fun e he=>⟨e,hl _ _ he⟩⟩
theorem kX.add {a a':Addr} (h:kX φ a a') (n:Nat):kX φ (a.add n) (a'.add n):=by
 unfold Addr.add;split
 ·exact h
 ·exact⟨rfl,rfl,by simp[h.2.2.1],h.2.2.2⟩
theorem kX.ptr {a a':Addr} (h:kX φ a a'):aC φ (.pointer (some a)) (.pointer (some a')):=by
 obtain⟨b,o,s⟩:=a;obtain⟨b',o',s'⟩:=a';obtain⟨h1,h2,h3,e,h4⟩:=h;simp only at h1 h2 h3 h4;subst h1 h2 h3;exact .ptr h4
theorem Good.cells {L:Nat→Option cz} {w:World} (hg:Good φ L w) {b r e:Nat} {c:Array Value} {T:TypeId} {k:Nat} (hL:L b=some (.cells c T k)) (hp:φ b=some (r,e)):
  ∃c',w.heap[r]?=some (.cells c' T (0,0))∧c'.size=c.size+e*k∧(k=0→e=0)∧∀(i:Nat) v v',c[i]?=some v→c'[i]?=some v'→aC φ v v':=by
 obtain⟨r',e',ob,hp',hh,ho⟩:=hg.obj b _ hL;rw[hp] at hp';cases hp';cases ob<;>first|exact ho.elim|skip
 rename_i c' T' fz;obtain⟨rfl,rfl,h3,h4,h5⟩:=ho;exact⟨c',hh,h3,h4,h5⟩
theorem Hg {a a':Addr} (m:Mode) (h:kX φ a a'):aj P φ aC (load a m) (load a' m):=fun ψ hl σ outs L w hr hw hc hg=>by
 replace h:=h.mono hl;replace hr:bW P (Sem.load m a Sem.pure) σ=some outs:=hr;simp only[bW] at hr;split at hr
 ·rename_i v hv;cases hr;obtain⟨hs,hb,c,hm,hcv⟩:=uL hv;have hag:=(hc _ (List.mem_singleton.2 rfl)).2;have O6:L a.block=σ.m a.block:=hag a.block (.inl (eX.2 (.inr rfl))) hb;obtain⟨e,hp⟩:=h.2.2.2;have ho:a.off<c.size:=(Array.getElem?_eq_some_iff.1 hcv).1
  have key:∃c' T fz,w.heap[a'.block]?=some (.cells c' T fz)∧∃v',c'[a.off]?=some v'∧aC ψ v v':=by
   rcases hm with hm|⟨T,k,hm⟩
   ·obtain⟨r',e',ob,hp',hh,ho⟩:=hg.obj _ _ (O6.trans hm);rw[hp] at hp';cases hp';cases ob<;>first|exact ho.elim|skip
    exact⟨_,_,_,hh,ho.2.get hcv⟩
   ·obtain⟨c',hh,hsz,_,hrel⟩:=hg.cells (O6.trans hm) hp;have ho':a.off<c'.size:=by omega
    exact⟨c',T,_,hh,c'[a.off],Array.getElem?_eq_getElem ho',hrel _ _ _ hcv (Array.getElem?_eq_getElem ho')⟩
  obtain⟨c',T,fz,hh,v',hv',hrel⟩:=key;refine⟨_,List.mem_singleton.2 rfl,v',w,ψ,L,?_,hrel, .same hg hw hag rfl rfl rfl rfl ⟨rfl,rfl,rfl⟩⟩
  have hcell:w.cell? a'=some v':=by
   unfold World.cell?;rw[hh];simp only[h.2.1,h.2.2.1,Option.isSome_none,Bool.false_eq_true,if_false,hv']
  show(Sem.load m a' .pure).run P w=_
  simp only[Sem.run,hcell]
 ·cases hr
theorem getElem?_modify' {α:Type} (xs:Array α) (i j:Nat) (f:α→α):(xs.modify i f)[j]?=if i=j then xs[j]?.map f else xs[j]?:=by
 rw[Array.getElem?_modify]
theorem EO {L:Nat→Option cz} {w w':World} {σ:St} {b r e:Nat} {o:cz} {ob':Obj} (hg:Good φ L w) (hw:WF σ) (_hb:b<σ.next) (hp:φ b=some (r,e)) (hlive:L b≠none)
  (ha:Agree L σ (σ.write b (some o))) (ho:vJ φ e o ob') (hh:∀j,w'.heap[j]?=if r=j then some ob' else w.heap[j]?) (hs:w'.heap.size=w.heap.size)
  (hk:w'.os=w.os∧w'.tape=w.tape∧w'.output=w.output) (hnr:∀c,L b≠some (.mM c)):
  Step σ (σ.write b (some o)) φ φ L (fun c=>if b=c then some o else L c) w w' where
 g:={
  le:= .refl φ
  new:=fun c h h'=>absurd h h'
  good:=by
   refine⟨fun c x hx=> ?_,fun c d hc hd r' e1 e2 h1 h2=> ?_⟩
   ·split at hx
    ·rename_i hbc;subst hbc;cases hx;exact⟨r,e,ob',hp,by rw[hh];simp,ho⟩
    ·rename_i hbc;obtain⟨r',e',ob,hp',hr',ho'⟩:=hg.obj c x hx;refine⟨r',e',ob,hp',?_,ho'⟩;rw[hh];split
     ·rename_i hrr;subst hrr;exact absurd (hg.inj b c hlive (by rw[hx];simp) r e e' hp hp') hbc
     ·exact hr'
   ·have conv:∀x,(if b=x then some o else L x)≠none→L x≠none:=fun x hx=>by
     split at hx
     ·rename_i h;exact h▸hlive
     ·exact hx
    exact hg.inj c d (conv c hc) (conv d hd) r' e1 e2 h1 h2
  stay:=fun c hc _=>by
   have:b≠c:=fun h=>hc (eX.2 (.inr h));simp[this]
  dead:=fun c _ hd=>by
   have:b≠c:=fun h=>hlive (h▸hd);simp[this,hd]
  size:=by omega
  frame:=fun j _ hno=>by
   rw[hh];split
   ·rename_i h;exact absurd (h▸hp) (hno b e hlive (eX.2 (.inr rfl)))
   ·rfl
  fresh:=fun c h1=>by simp[St.N,St.write] at h1;omega
  kept:=hk
  mM:=fun c x hx=>by
   have:b≠c:=fun h=>hnr x (h▸hx);simp[this,hx]}
 here:=fun c hc=>by
  rcases hc with hc|hc
  ·simp only[St.m,St.write,Tree.jG];split
   ·rfl
   ·rename_i hbc;have hc2:=eX.1 hc;rcases hc2 with hc2|hc2
    ·exact ha c (.inr (eX.2 (.inl hc2))) (hw.wr c hc2)
    ·exact absurd hc2 hbc
  ·simp[St.N,St.write] at hc;omega
theorem NR {a a':Addr} {v v':Value} (m:Mode) (h:kX φ a a') (hv:aC φ v v'):aj P φ (fun _ _ _=>True) (store a v m) (store a' v' m):=fun ψ hl σ outs L w hr hw hc hg=>by
 replace h:=h.mono hl;replace hv:=hv.mono hl;replace hr:bW P (Sem.store m a v (.pure ())) σ=some outs:=hr;simp only[bW] at hr
 have hva:(∀cs,v'≠ .agg cs)∧(∀cs,v'≠ .tuple cs):=by
  cases hv<;>first|(constructor<;>intro _ hh<;>cases hh;done)|skip
  case sc hs=>constructor<;>intro cs hh<;>subst hh<;>simp[dH] at hs
  case agg=>cases hr
  case tuple=>cases hr
 have hr':(match σ.put a v with
   |some σ'=>bW P (Sem.pure ()) σ'
   |none=>none)=some outs:=by
  cases v<;>first|exact hr|cases hr
 clear hr;split at hr'
 ·rename_i σ' hput;cases hr';obtain⟨hs,hb,c,T,k,hm,ho,rfl⟩:=Hw hput;have hag:=(hc _ (List.mem_singleton.2 rfl)).2;have hL:L a.block=some (.cells c T k):=by rw[hag a.block (.inr (eX.2 (.inr rfl))) hb,hm]
  obtain⟨e,hp⟩:=h.2.2.2;obtain⟨c',hh,hsz,hk,hrel⟩:=hg.cells hL hp;have ho':a.off<c'.size:=by omega
  have hcell:w.cell? a'=some c'[a.off]:=by
   unfold World.cell?;rw[hh];simp only[h.2.1,h.2.2.1];simp[ho']
  have hfz:w.frozen? a'=false:=by
   unfold World.frozen?;rw[hh];simp
  refine⟨_,List.mem_singleton.2 rfl,(),w.setCell a' v',ψ,_,?_,trivial,
   EO (ob':= .cells (c'.setIfInBounds a.off v') T (0,0)) hg hw hb hp (by rw[hL];simp) hag ⟨rfl,rfl,by simp[hsz],hk,?_⟩ ?_ ?_ ⟨rfl,rfl,rfl⟩ (fun c h=>by rw[hL] at h;cases h)⟩
  ·show(Sem.store m a' v' (.pure ())).run P w=_
   cases v'<;>first|exact absurd rfl (hva.1 _)|exact absurd rfl (hva.2 _)|simp only[Sem.run,hcell,hfz,Bool.false_eq_true,if_false]
  ·intro i x x' hx hx';by_cases hi:a.off=i
   ·subst hi;rw[Array.getElem?_setIfInBounds_self_of_lt ho] at hx;rw[Array.getElem?_setIfInBounds_self_of_lt ho'] at hx';cases hx;cases hx';exact hv
   ·rw[Array.getElem?_setIfInBounds_ne hi] at hx hx';exact hrel i x x' hx hx'
  ·intro j;unfold World.setCell;simp only[getElem?_modify'];split
   ·rename_i hj;subst hj;rw[hh];simp[h.2.1,h.2.2.1]
   ·rfl
  ·simp[World.setCell]
 ·cases hr'
theorem AU {L:Nat→Option cz} {w:World} {σ:St} {o:cz} {ob:Obj} (hg:Good φ L w) (hw:WF σ) (ha:Agree L σ (σ.grow o)) (hc:Clear φ L σ (σ.grow o))
  (ho:∀ψ,Le φ ψ→vJ ψ 0 o ob):
  Step σ (σ.grow o) φ (fun c=>if σ.next=c then some (w.heap.size,0) else φ c) L (fun c=>if σ.next=c then some o else L c) w {w with heap:=w.heap.push ob}:=by
 have hcl:=hc σ.next (Nat.le_refl _) (by simp[St.grow])
 have hle:Le φ (fun c=>if σ.next=c then some (w.heap.size,0) else φ c):=fun b x hx=>by
  have:σ.next≠b:=fun h=>by rw[←h,hcl.1] at hx;cases hx
  simp[this,hx]
 have hN:∀c,St.N σ (σ.grow o) c↔σ.next=c:=fun c=>by simp[St.N,St.grow];omega
 refine⟨⟨hle,fun b h1 h2=> ?_,?_,fun c h1 h2=> ?_,fun c h1 h2=> ?_,by simp,fun r hr _=> ?_,fun b h1 _ r e hp=> ?_,⟨rfl,rfl,rfl⟩,fun b c hb=> ?_⟩,fun c hc'=> ?_⟩
 ·rw[hN];by_cases hb:σ.next=b
  ·exact hb
  ·simp[hb] at h2;exact absurd h1 h2
 ·refine⟨fun c x hx=> ?_,fun c d h1 h2 r e1 e2 h3 h4=> ?_⟩
  ·split at hx
   ·rename_i h;subst h;cases hx;exact⟨w.heap.size,0,ob,by simp,by simp,ho _ hle⟩
   ·rename_i h;obtain⟨r,e,ob',h1,h2,h3⟩:=hg.obj c x hx;have hlt:r<w.heap.size:=(Array.getElem?_eq_some_iff.1 h2).1;refine⟨r,e,ob',hle _ _ h1,?_,h3.mono hle⟩;rw[Array.getElem?_push];simp[Nat.ne_of_lt hlt,h2]
  ·have key:∀x,L x≠none→∀r e,φ x=some (r,e)→r<w.heap.size:=fun x hx r e hp=>by
    obtain⟨o',ho'⟩:=Option.ne_none_iff_exists'.1 hx;obtain⟨r',e',ob',h1,h2,_⟩:=hg.obj x o' ho';rw[hp] at h1;cases h1;exact(Array.getElem?_eq_some_iff.1 h2).1
   by_cases hc1:σ.next=c
   ·by_cases hd1:σ.next=d
    ·omega
    ·rw[if_pos hc1] at h3;rw[if_neg hd1] at h2 h4;cases h3;have:=key d h2 _ _ h4;omega
   ·by_cases hd1:σ.next=d
    ·rw[if_neg hc1] at h1 h3;rw[if_pos hd1] at h4;cases h4;have:=key c h1 _ _ h3;omega
    ·rw[if_neg hc1] at h1 h3;rw[if_neg hd1] at h2 h4;exact hg.inj c d h1 h2 r e1 e2 h3 h4
 ·rw[hN] at h2;simp[h2]
 ·rw[hN] at h1;simp[h1,h2]
 ·simp only;rw[Array.getElem?_push];simp[Nat.ne_of_lt hr]
 ·rw[hN] at h1;simp[h1] at hp;exact .inl (by omega)
 ·have:σ.next≠b:=fun h=>by rw[←h,hcl.2] at hb;cases hb
  simp[this,hb]
 ·simp only[St.m,St.grow,Tree.jG];split
  ·rfl
  ·rename_i h;rcases hc' with hc'|hc'
   ·exact ha c (.inr hc') (hw.wr c hc')
   ·rw[hN] at hc';exact absurd hc' h
theorem UH {c c':Array Value} (T:TypeId) (h:bu φ c c'):aj P φ (fun ψ r r'=>ψ r=some (r',0)) (newObj (.cells c T)) (newObj (.cells c' T)):=fun ψ hl σ outs L w hr hw hc hg=>by
 replace hr:bW P (Sem.new (.cells c T) .pure) σ=some outs:=hr;simp only[bW,if_true] at hr;cases hr;have hpre:=hc _ (List.mem_singleton.2 rfl);have h':=h.mono hl;refine⟨_,List.mem_singleton.2 rfl,w.heap.size,_,_,_,rfl,?_,AU hg hw hpre.2 hpre.1 fun χ hχ=>⟨rfl,rfl,by simp[h'.1],fun _=>rfl,fun i v v' a b=>(h'.2 i v v' a b).mono hχ⟩⟩;simp
theorem Hf {o o':Obj} (h:zk φ o o'):aj P φ (fun ψ r r'=>ψ r=some (r',0)) (newObj o) (newObj o'):=fun ψ hl σ outs L w hr hw hc hg=>by
 have key:outs=[(σ.next,σ.grow (.other o))]:=by
  change bW P (Sem.new o Sem.pure) σ=some outs at hr
  cases o<;>first|exact h.elim|skip
  all_goals (simp only[bW] at hr;cases hr;rfl)
 subst key;have hpre:=hc _ (List.mem_singleton.2 rfl);have h':=h.mono hl;refine⟨_,List.mem_singleton.2 rfl,w.heap.size,_,_,_,rfl,?_,AU hg hw hpre.2 hpre.1 fun χ hχ=>⟨rfl,h'.mono hχ⟩⟩;simp
theorem pK {r r' e:Nat} (h:φ r=some (r',e)):aj P φ zk (getObj r) (getObj r'):=fun ψ hl σ outs L w hr hw hc hg=>by
 replace h:=hl _ _ h;replace hr:bW P (Sem.getObj r .pure) σ=some outs:=hr;simp only[bW] at hr;split at hr
 ·rename_i hb;split at hr
  ·rename_i o hm;cases hr;have hag:=(hc _ (List.mem_singleton.2 rfl)).2;have hL:L r=some (.other o):=by rw[hag r (.inl (eX.2 (.inr rfl))) hb,hm]
   obtain⟨r2,e2,ob,hp,hh,ho⟩:=hg.obj r _ hL;rw[h] at hp;cases hp;refine⟨_,List.mem_singleton.2 rfl,ob,w,ψ,L,?_,ho.2, .same hg hw hag rfl rfl rfl rfl ⟨rfl,rfl,rfl⟩⟩;show(Sem.getObj r' .pure).run P w=_
   simp only[Sem.run,hh];have hx:=ho.2;cases o<;>cases ob<;>first|exact hx.elim|rfl
  ·cases hr
 ·cases hr
theorem sN {r r' e:Nat} {o o':Obj} (h:φ r=some (r',e)) (hx:zk φ o o'):aj P φ (fun _ _ _=>True) (setObj r o) (setObj r' o'):=fun ψ hl σ outs L w hr hw hc hg=>by
 replace h:=hl _ _ h;replace hx:=hx.mono hl;replace hr:bW P (Sem.setObj r o (.pure ())) σ=some outs:=hr;simp only[bW] at hr;split at hr
 ·rename_i hb;split at hr
  ·rename_i o1 hm;cases hr;have hag:=(hc _ (List.mem_singleton.2 rfl)).2;have hL:L r=some (.other o1):=by rw[hag r (.inr (eX.2 (.inr rfl))) hb,hm]
   obtain⟨r2,e2,ob,hp,hh,ho⟩:=hg.obj r _ hL;rw[h] at hp;cases hp;have hlt:r'<w.heap.size:=(Array.getElem?_eq_some_iff.1 hh).1
   refine⟨_,List.mem_singleton.2 rfl,(),{w with heap:=w.heap.setIfInBounds r' o'},ψ,_,?_,trivial,
    EO (ob':=o') hg hw hb h (by rw[hL];simp) hag ⟨ho.1,hx⟩ ?_ (by simp) ⟨rfl,rfl,rfl⟩ (fun c h=>by rw[hL] at h;cases h)⟩
   ·show(Sem.setObj r' o' (.pure ())).run P w=_
    simp only[Sem.run,hh];have hx2:=ho.2;cases o1<;>cases ob<;>first|exact hx2.elim|rfl
   ·intro j;simp only;by_cases hj:r'=j
    ·subst hj;rw[Array.getElem?_setIfInBounds_self_of_lt hlt];simp
    ·rw[Array.getElem?_setIfInBounds_ne hj];simp[hj]
  ·cases hr
 ·cases hr
end
end Go.Proofs.YtnmbfjgcmfjdcaaGreatDoor.Ck

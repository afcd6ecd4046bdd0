/- Texts of CoreRefuses's proof, together. -/
import Derived.Test.YtnmbfjgcmfjdcaaGreatDoorCkA
import Derived.Deep.AppendSrc
namespace Go.Proofs.YtnmbfjgcmfjdcaaGreatDoor
/- The checker's operations: each one runs in a world as it runs on the checker's memory. -/
namespace Ck
open Go
/-- What needs no memory. -/
def G6 (P:Program) {α:Type}:Sem α→Option α
 | .pure a=>some a
 | .program k=>G6 P (k P)
 | .mark _ k=>G6 P k
 |_=>none
section
variable {P:Program} {φ:bq} {α β γ δ:Type} {A:bq→α→β→Prop}
theorem QE {s:Sem α} {a:α} (h:G6 P s=some a) (w:World):s.run P w= .ok a w:=by
 induction s with
 |pure x=>cases h;rfl
 |program k ih=>exact ih _ h
 |mark m k ih=>exact ih h
 |_=>cases h
theorem kX.of {b b' e off:Nat} (h:φ b=some (b',e)):kX φ ⟨b,off,none⟩ ⟨b',off,none⟩:=⟨rfl,rfl,rfl,e,h⟩
def bD (P:Program) (s:Sem α):Prop:=∀σ outs,bW P s σ≠some outs
theorem bD.halt (x:Halt):bD P (.halt x:Sem α):=fun σ outs h=>by cases h
theorem bD.xO {s:Sem α} {f:α→Sem β} (h:∀a,bD P (f a)):bD P (s>>= f):=fun σ outs hr=>by
 obtain⟨l,h1,h2⟩:=yS P s f σ outs hr;cases l with
 |nil=>exact(oV P s σ _ h1).1 rfl
 |cons o l=>obtain⟨r,hr',_⟩:=h2 o (by simp);exact h o.1 _ _ hr'
theorem bD.iZ {s:Sem α} {f:α→Sem β} (h:bD P s):bD P (s>>= f):=fun σ outs hr=>by
 obtain⟨l,h1,_⟩:=yS P s f σ outs hr;exact h _ _ h1
theorem aj.no {s:Sem α} {t:Sem β} (h:bD P s):aj P φ A s t:=fun _ψ _ σ outs _L _w hr=>absurd hr (h σ outs)
theorem j6 (e:RuntimeError):bD P (runtimePanic e:Sem α):=by
 unfold runtimePanic;refine bD.xO fun p=> ?_
 cases e<;>first
  |exact bD.halt _
  |(repeat (first|exact bD.halt _|refine bD.xO fun _=> ?_))
theorem kR (k:IntKind) (x y:Int) (c:BoundsCode):bD P (boundsPanic k x y c:Sem α):=by
 unfold boundsPanic;dsimp only;split<;>exact bD.xO fun _=>j6 _
theorem bJ (t:TypeId):aj P φ (fun _ d d'=>d=d'∧P.underlying t=some d) (underlying t) (underlying t):=by
 unfold underlying;refine aj.bind aj.program ?_;rintro ψ hl p q ⟨rfl,rfl⟩;cases h:P.underlying t with
 |none=>exact aj.halt
 |some d=>exact aj.ret fun _ _=>⟨rfl,rfl⟩
theorem tL (t:TypeId):aj P φ (fun _ d d'=>d=d'∧P.info? t=some d) (typeInfo t) (typeInfo t):=by
 unfold typeInfo;refine aj.bind aj.program ?_;rintro ψ hl p q ⟨rfl,rfl⟩;cases h:P.info? t with
 |none=>exact aj.halt
 |some d=>exact aj.ret fun _ _=>⟨rfl,rfl⟩
theorem fe (t:TypeId):aj P φ (fun _ a b=>a=b∧∃i,P.info? t=some i∧i.size=a) (sizeOf t) (sizeOf t):=by
 unfold sizeOf;refine aj.bind (tL t) ?_;rintro ψ hl i _ ⟨rfl,h⟩;exact aj.ret fun _ _=>⟨rfl,_,h,rfl⟩
theorem EP (t:TypeId):aj P φ (fun _ a b=>a=b) (isAgg t) (isAgg t):=by
 unfold isAgg;refine aj.bind (bJ t) ?_;rintro ψ hl i _ ⟨rfl,h⟩;cases i<;>exact aj.ret fun _ _=>rfl
/-- A type's zero value holds no address. -/
def xY (P:Program) (t:TypeId):Bool:=
 match P.info? t with
 |some i=>match i.zero with
  |some z=>fF z
  |none=>true
 |none=>true
theorem qH {t:TypeId} (hz:xY P t=true):aj P φ (fun _ v v'=>v=v'∧fF v=true) (zeroValue t) (zeroValue t):=by
 unfold zeroValue;refine aj.bind (tL t) ?_;rintro ψ hl j _ ⟨rfl,h⟩;simp only[xY,h] at hz;cases hj:j.zero with
 |none=>exact aj.halt
 |some z=>rw[hj] at hz;exact aj.ret fun _ _=>⟨rfl,hz⟩
theorem vB {v v':Value} (h:aC φ v v'):aj P φ (fun _ a b=>a=b) (asIntOf v) (asIntOf v'):=by
 cases h with
 |sc hs=>cases v<;>first|exact aj.ret fun _ _=>rfl|exact aj.halt|(rename_i a;cases a<;>first|exact aj.halt|simp[dH] at hs)
 |_=>exact aj.halt
theorem ES {v v':Value} (h:aC φ v v'):aj P φ (fun _ a b=>a=b) (asInt v) (asInt v'):=by
 unfold asInt;refine aj.bind (vB h) ?_;rintro ψ hl a b rfl;exact aj.ret fun _ _=>rfl
theorem Mi {v v':Value} (h:aC φ v v'):aj P φ (fun _ a b=>a=b) (asBool v) (asBool v'):=by
 cases h with
 |sc hs=>cases v<;>first|exact aj.ret fun _ _=>rfl|exact aj.halt
 |_=>exact aj.halt
theorem N8 {v v':Value} (h:aC φ v v'):aj P φ bu (asAgg v) (asAgg v'):=by
 cases h with
 |agg hc h=>exact aj.ret fun ψ hl=>bu.mono hl ⟨hc,h⟩
 |sc hs=>cases v<;>first|exact aj.halt|simp[dH] at hs
 |_=>exact aj.halt
theorem pJ {v v':Value} (h:aC φ v v'):aj P φ kX (Instr.sureAddr v) (Instr.sureAddr v'):=by
 cases h with
 |ptr h=>exact aj.ret fun ψ hl=>⟨rfl,rfl,rfl,_,hl _ _ h⟩
 |sc hs=>cases v<;>first|exact aj.halt|(rename_i a;cases a<;>first|exact aj.halt|simp[dH] at hs)
 |_=>exact aj.halt
theorem Mj {v v':Value} (h:aC φ v v'):aj P φ kX (asAddr v) (asAddr v'):=by
 cases h with
 |ptr h=>exact aj.ret fun ψ hl=>⟨rfl,rfl,rfl,_,hl _ _ h⟩
 |sc hs=>cases v<;>first|exact aj.halt|(rename_i a;cases a<;>first|exact aj.no (show bD P (runtimePanic .nilDeref:Sem Addr) from j6 _)|simp[dH] at hs)
 |_=>exact aj.halt
theorem Ab (n:Nat):∀{φ:bq} {a a':Addr} (i:Nat) {acc acc':Array Value},kX φ a a'→bu φ acc acc'→aj P φ bu (loadCellsFrom a i n acc) (loadCellsFrom a' i n acc'):=by
 induction n with
 |zero=>intro φ a a' i acc acc' ha hacc;exact aj.ret fun ψ hl=>hacc.mono hl
 |succ n ih=>
  intro φ a a' i acc acc' ha hacc;unfold loadCellsFrom;refine aj.bind (Hg _ (ha.add i)) ?_;intro ψ hl v v' hv;exact ih (i+1) (ha.mono hl) ((hacc.mono hl).push hv)
theorem yg {a a':Addr} (n:Nat) (h:kX φ a a'):aj P φ bu (loadCells a n) (loadCells a' n):=Ab n 0 h (.empty φ)
theorem nC:∀{l l':List Value} {φ:bq} {a a':Addr} (i:Nat),kX φ a a'→gT φ l l'→aj P φ (fun _ _ _=>True) (storeCells a l i) (storeCells a' l' i):=by
 intro l;induction l with
 |nil=>intro l' φ a a' i ha hl;rw[hl.oU];exact aj.ret fun _ _=>trivial
 |cons v l ih=>
  intro l' φ a a' i ha hl;obtain⟨v',m,rfl,hv,hm⟩:=hl.cons_inv;unfold storeCells;refine aj.bind (NR _ (ha.add i) hv) ?_;intro ψ hle _ _ _;exact ih (i+1) (ha.mono hle) (hm.mono hle)
theorem Ae {a a':Addr} (t:TypeId) (h:kX φ a a'):aj P φ aC (loadVar t a) (loadVar t a'):=by
 unfold loadVar;refine aj.bind (EP t) ?_;rintro ψ hl b _ rfl;cases b with
 |false=>exact Hg _ (h.mono hl)
 |true=>
  refine aj.bind (fe t) ?_;rintro ψ' hl' n _ ⟨rfl,_⟩;refine aj.bind (yg _ ((h.mono hl).mono hl')) ?_;intro χ hχ cs ds hcs;exact aj.ret fun _ hle=>(aC.Dq hcs).mono hle
theorem Hd {a a':Addr} {v v':Value} (t:TypeId) (h:kX φ a a') (hv:aC φ v v'):aj P φ (fun _ _ _=>True) (storeVar t a v) (storeVar t a' v'):=by
 unfold storeVar;refine aj.bind (fe t) ?_;rintro ψ hl n _ ⟨rfl,_⟩;have hc:=(hv.mono hl).cells;by_cases hn:v.cells.size=n
 ·have hn':v'.cells.size=n:=by rw[hc.1,hn]
  simp only[hn,hn',ne_eq,not_true_eq_false,if_false];exact nC 0 (h.mono hl) hc.toList
 ·simp only[ne_eq,hn,not_false_eq_true,if_true];exact aj.no (bD.iZ (bD.halt _))
/-- The address of a new row. -/
def DV (φ:bq) (a a':Addr):Prop:=∃b b',a=⟨b,0,none⟩∧a'=⟨b',0,none⟩∧φ b=some (b',0)
theorem DV.ptr {a a':Addr} (h:DV φ a a'):aC φ (.pointer (some a)) (.pointer (some a')):=by
 obtain⟨b,b',rfl,rfl,h⟩:=h;exact .ptr h
theorem DV.slice {a a':Addr} (h:DV φ a a') (n c:Nat):aC φ (.slice (some a) n c) (.slice (some a') n c):=by
 obtain⟨b,b',rfl,rfl,h⟩:=h;exact .slice (e:=0) h
theorem DV.mono {ψ:bq} (hl:Le φ ψ) {a a':Addr} (h:DV φ a a'):DV ψ a a':=by
 obtain⟨b,b',h1,h2,h⟩:=h;exact⟨b,b',h1,h2,hl _ _ h⟩
theorem xc {c c':Array Value} (T:TypeId) (h:bu φ c c'):aj P φ DV (newRow T c) (newRow T c'):=by
 unfold newRow;refine aj.bind (UH T h) ?_;intro ψ hl r r' hr;exact aj.ret fun χ hχ=>⟨_,_,rfl,rfl,hχ _ _ hr⟩
theorem He {cs ds:Array Value} (t:TypeId) (off:Nat) (h:bu φ cs ds):aj P φ aC (part t cs off) (part t ds off):=by
 unfold part;refine aj.bind (EP t) ?_;rintro ψ hl b _ rfl;cases b with
 |true=>
  refine aj.bind (fe t) ?_;rintro ψ' hl' n _ ⟨rfl,_⟩;exact aj.ret fun _ hle=>aC.Dq ((((h.mono hl).mono hl').extract _ _).mono hle)
 |false=>
  cases hc:cs[off]? with
  |none=>simp only[];exact aj.halt
  |some v=>
   obtain⟨v',hv',hr⟩:=(h.mono hl).get hc;simp only[hv'];exact aj.ret fun _ hle=>hr.mono hle
/-- What an operation yields. -/
def zl (φ:bq):Next→Next→Prop
 | .value v, .value v'=>aC φ v v'
 | .skip, .skip=>True
 | .enter f args, .enter f' args'=>f'=f∧bu φ args args'
 |_,_=>False
theorem aj.value {s t:Sem Value} (h:aj P φ aC s t):aj P φ zl (do pure (.value (←s))) (do pure (.value (←t))):=by
 refine aj.bind h ?_;intro ψ hl v v' hv;exact aj.ret fun _ hle=>hv.mono hle
theorem aj.unit {s t:Sem Unit} (h:aj P φ (fun _ _ _=>True) s t):aj P φ zl (do s;pure .skip) (do t;pure .skip):=by
 refine aj.bind h ?_;intro ψ hl v v' hv;exact aj.ret fun _ hle=>True.intro
theorem Kb {s:TypeId} {x x':Value} {f:Nat} (hs:∀fs fd i,P.underlying s=some (.struct fs)→fs[f]?=some fd→P.info? fd.type=some i→i.size≠0) (h:aC φ x x'):
  aj P φ aC (Instr.fieldAt s x f) (Instr.fieldAt s x' f):=by
 unfold Instr.fieldAt;refine aj.bind (bJ s) ?_;rintro ψ hl d _ ⟨rfl,hd⟩;cases d<;>first|exact aj.halt|skip
 rename_i fields;cases hf:fields[f]? with
 |none=>simp only[hf];exact aj.halt
 |some fd=>
  simp only[hf];refine aj.bind (pJ (h.mono hl)) ?_;intro ψ' hl' a a' ha;unfold fieldPlace;refine aj.bind ?_ (A:=kX) ?_
  ·refine aj.bind (fe fd.type) ?_;rintro Vw aap n _ ⟨rfl,i,hi,rfl⟩;have:=hs _ _ _ hd hf hi;simp only[this,if_false];exact aj.ret fun _ hle=>((ha.mono aap).add _).mono hle
  ·intro χ hχ b b' hb;exact aj.ret fun _ hle=>(hb.mono hle).ptr
def wB (t:TypeId) (k:IntKind) (n:Int) (b:Option Addr) (len:Nat) (elem:TypeId):Sem Value:=do
 let tiny:=len≤1&&(match ←underlying t with| .array .. =>true|_=>false)
 match b with
 |some a=>
  if 0≤n∧n<len then pure (.pointer (some (a.add (n.toNat*(←sizeOf elem)))))
  else if tiny then unsupported (.noEntry "op/indexAddr.an index out of range at an array of length 0 or 1 (ledger 616)")
  else boundsPanic k n len .index
 |none=>boundsPanic k n 0 .index
theorem Ka (t:TypeId) (k:IntKind) (n:Int) (len:Nat) (elem:TypeId) (s:Sem Value):aj P φ aC (wB t k n none len elem) s:=by
 unfold wB;exact aj.no (bD.xO fun _=>kR _ _ _ _)
theorem Af (t:TypeId) (k:IntKind) (n:Int) {a a':Addr} (len:Nat) (elem:TypeId) (ha:kX φ a a'):aj P φ aC (wB t k n (some a) len elem) (wB t k n (some a') len elem):=by
 unfold wB;refine aj.bind (bJ t) ?_;rintro ψ3 hl3 d' _ ⟨rfl,hd'⟩;simp only;split
 ·refine aj.bind (fe elem) ?_;rintro ψ4 hl4 s _ ⟨rfl,_⟩;exact aj.ret fun _ hle=>((((ha.mono hl3).mono hl4).add _).mono hle).ptr
 ·refine aj.no ?_;split<;>(split<;>first|exact bD.halt _|exact kR _ _ _ _)
theorem J9 {t:TypeId} {x x' i i':Value} (h:aC φ x x') (hi:aC φ i i'):aj P φ aC (Instr.indexAt t x i) (Instr.indexAt t x' i'):=by
 unfold Instr.indexAt;refine aj.bind (vB hi) ?_;rintro ψ hl ⟨k,n⟩ _ rfl;refine aj.bind (bJ t) ?_;rintro ψ1 hl1 d _ ⟨rfl,hd⟩;have hx:=(h.mono hl).mono hl1;cases d<;>first|exact aj.no (bD.iZ (bD.halt _))|skip
 case array len elem=>
  refine aj.bind (pJ hx) ?_;intro ψ2 hl2 a a' ha;exact Af t k n len elem ha
 case slice elem=>
  cases hx with
  |slice hb=>exact Af t k n _ elem ⟨rfl,rfl,rfl,_,hb⟩
  |sc hs=>
   cases x<;>first|exact aj.no (bD.iZ (bD.halt _))|skip
   rename_i a _ _;cases a with
   |none=>exact Ka t k n 0 elem _
   |some a=>simp[dH] at hs
  |_=>exact aj.no (bD.iZ (bD.halt _))
theorem NW {t:TypeId} {x x':Value} {f:Nat} (h:aC φ x x'):aj P φ aC (Instr.field t x f) (Instr.field t x' f):=by
 unfold Instr.field;refine aj.bind (bJ t) ?_;rintro ψ hl d _ ⟨rfl,hd⟩;cases d<;>first|exact aj.halt|skip
 rename_i fields;cases hf:fields[f]? with
 |none=>simp only[hf];exact aj.halt
 |some fd=>
  simp only[hf];refine aj.bind (N8 (h.mono hl)) ?_;intro ψ' hl' a a' ha;exact He _ _ ha
theorem NV {t:TypeId} {x x' i i':Value} (h:aC φ x x') (hi:aC φ i i'):aj P φ aC (Instr.index t x i) (Instr.index t x' i'):=by
 unfold Instr.index;refine aj.bind (vB hi) ?_;rintro ψ hl ⟨k,n⟩ _ rfl;refine aj.bind (bJ t) ?_;rintro ψ1 hl1 d _ ⟨rfl,hd⟩;have hx:=(h.mono hl).mono hl1;cases d<;>first|exact aj.halt|skip
 case array len elem=>
  cases hx with
  |agg hc hh=>
   simp only;split
   ·refine aj.bind (fe elem) ?_;rintro ψ4 hl4 s _ ⟨rfl,_⟩;exact He _ _ (bu.mono hl4 ⟨hc,hh⟩)
   ·exact aj.no (kR _ _ _ _)
  |sc hs=>cases x<;>first|exact aj.halt|simp[dH] at hs
  |_=>exact aj.halt
 case string=>
  cases hx with
  |sc hs=>
   cases x<;>first|exact aj.halt|skip
   simp only;split
   ·exact aj.ret fun _ _=> .sc rfl
   ·exact aj.no (kR _ _ _ _)
  |_=>exact aj.halt
theorem Kc {x x':Value} {i:Nat} (h:aC φ x x'):aj P φ aC (Instr.extract x i) (Instr.extract x' i):=by
 cases h with
 |tuple hc h=>
  rename_i cs ds;unfold Instr.extract;cases hv:cs[i]? with
  |none=>simp only[hv];exact aj.halt
  |some v=>
   obtain⟨v',hv',hr⟩:=bu.get ⟨hc,h⟩ hv;simp only[hv,hv'];exact aj.ret fun _ hle=>hr.mono hle
 |sc hs=>cases x<;>first|exact aj.halt|simp[dH] at hs
 |_=>exact aj.halt
/-- Parts of a struct, or of a row. -/
def xU (φ:bq):List (Nat×Value)→List (Nat×Value)→Prop
 |[],[]=>True
 |(i,v)::l,(j,v')::m=>j=i∧aC φ v v'∧xU φ l m
 |_,_=>False
theorem xU.mono {ψ:bq} (hl:Le φ ψ):∀{l m:List (Nat×Value)},xU φ l m→xU ψ l m
 |[],[],_=>trivial
 |(_,_)::_,(_,_)::_,h=>⟨h.1,h.2.1.mono hl,h.2.2.mono hl⟩
 |[],_::_,h=>h.elim
 |_::_,[],h=>h.elim
theorem foldl_set {cs:List Value}:∀{ds:List Value} {xs ys:Array Value} (k off:Nat),gT φ cs ds→bu φ xs ys→
  bu φ ((cs.zipIdx k).foldl (fun a (x:Value×Nat)=>a.setIfInBounds (off+x.2) x.1) xs) ((ds.zipIdx k).foldl (fun a (x:Value×Nat)=>a.setIfInBounds (off+x.2) x.1) ys):=by
 induction cs with
 |nil=>intro ds xs ys k off h hx;rw[h.oU];exact hx
 |cons c cs ih=>
  intro ds xs ys k off h hx;obtain⟨d,ds,rfl,hc,hl⟩:=h.cons_inv;simp only[List.zipIdx_cons,List.foldl_cons];exact ih (k+1) off hl (hx.set _ hc)
theorem Bn {place:Nat→Option (Nat×Nat)}:∀{l m:List (Nat×Value)} {xs ys r:Array Value},xU φ l m→bu φ xs ys→Instr.fill place xs l=some r→
  ∃r',Instr.fill place ys m=some r'∧bu φ r r':=by
 intro l;induction l with
 |nil=>
  intro m xs ys r hp hx h;cases m with
  |nil=>cases h;exact⟨ys,rfl,hx⟩
  |cons _ _=>exact hp.elim
 |cons p l ih=>
  intro m xs ys r hp hx h;obtain⟨i,v⟩:=p;cases m with
  |nil=>exact hp.elim
  |cons q m=>
   obtain⟨j,v'⟩:=q;obtain⟨rfl,hv,hp⟩:=hp;have hc:=hv.cells;unfold Instr.fill at h⊢
   cases hpl:place j with
   |none=>simp[hpl] at h
   |some os=>
    obtain⟨off,size⟩:=os;simp only[hpl] at h⊢
    rw[hc.1,hx.1];split at h
    ·cases h
    ·rename_i hcond;simp only[hcond];refine ih hp ?_ h;have:=foldl_set 0 off hc.toList hx;rw[←Array.foldl_toList,←Array.foldl_toList,Array.toList_zipIdx,Array.toList_zipIdx];exact this
theorem agE {P:Prop} (h:P:=by
 obtain⟨r',hr',hrel⟩:=Bn (hp.mono hl2) (hzc ψ2) hf;simp only[hr'];exact aj.ret fun _ hle=>(aC.Dq hrel).mono hle):P:=h
theorem N7 {t:TypeId} {ps qs:Array (Nat×Value)} (hz:xY P t=true) (h:xU φ ps.toList qs.toList):aj P φ aC (Instr.build t ps) (Instr.build t qs):=by
 unfold Instr.build;refine aj.bind (qH hz) ?_;rintro ψ hl z _ ⟨rfl,hs⟩;refine aj.bind (bJ t) ?_;rintro ψ1 hl1 d _ ⟨rfl,hd⟩;have hp:=(h.mono hl).mono hl1;have hzc:∀χ,bu χ z.cells z.cells:=fun χ=>(aC.zO hs).cells;cases d<;>first|exact aj.halt|skip
 case struct fields=>
  refine aj.bind (A:=fun _ a b=>a=b) ?_ ?_
  ·have key:∀(l:List Field) (χ:bq),aj P χ (fun _ a b=>a=b) (l.mapM fun f=>(do pure (f.offset,←sizeOf f.type):Sem (Nat×Nat))) (l.mapM fun f=>(do pure (f.offset,←sizeOf f.type):Sem (Nat×Nat))):=by
    intro l;induction l with
    |nil=>intro χ;exact aj.ret fun _ _=>rfl
    |cons f l ih=>
     intro χ;simp only[List.mapM_cons];refine aj.bind (A:=fun _ a b=>a=b) ?_ ?_
     ·refine aj.bind (fe _) ?_;rintro _ _ n _ ⟨rfl,_⟩;exact aj.ret fun _ _=>rfl
     ·rintro χ1 aa9 x _ rfl;refine aj.bind (ih χ1) ?_;rintro _ _ xs _ rfl;exact aj.ret fun _ _=>rfl
   simp only[Array.mapM_eq_mapM_toList];refine aj.bind (key _ _) ?_;rintro _ _ xs _ rfl;exact aj.ret fun _ _=>rfl
  ·rintro ψ2 hl2 places _ rfl;cases hf:Instr.fill (places[·]?) z.cells ps.toList with
   |none=>simp only[];exact aj.halt
   |some r=>
    exact agE
 case array n elem=>
  refine aj.bind (fe elem) ?_;rintro ψ2 hl2 s _ ⟨rfl,_⟩;cases hf:Instr.fill (fun i=>some (i*s,s)) z.cells ps.toList with
  |none=>simp only[];exact aj.halt
  |some r=>
   exact agE
theorem yI {z:Value} (hs:fF z=true) (n:Nat) (χ:bq):bu χ ((Array.range n).map (z.cells[·%z.cells.size]!)) ((Array.range n).map (z.cells[·%z.cells.size]!)):=by
 have hzc:∀v∈z.cells,dH v=true:=by
  intro v hv;cases z
  case agg cs=>
   have h':cs.all dH=true:=hs;rw[Array.all_eq_true_iff_forall_mem] at h';exact h' v hv
  all_goals
   have hv':=(Array.mem_singleton (α:=Value)).1 hv;rw[hv'];exact hs
 refine⟨rfl,fun i v v' hv hv'=> ?_⟩;rw[hv] at hv';cases hv';rw[Array.getElem?_map] at hv;obtain⟨j,_,rfl⟩:=Option.map_eq_some_iff.1 hv;refine .sc ?_;by_cases hj:j%z.cells.size<z.cells.size
 ·rw[getElem!_pos z.cells _ hj];exact hzc _ (Array.getElem_mem hj)
 ·rw[getElem!_neg z.cells _ hj];rfl
theorem Ea {t:TypeId} {n:Nat} {ps qs:Array (Nat×Value)} (hz:∀e,P.underlying t=some (.slice e)→xY P e=true) (h:xU φ ps.toList qs.toList):
  aj P φ aC (Instr.buildSlice t n ps) (Instr.buildSlice t n qs):=by
 unfold Instr.buildSlice;refine aj.bind (bJ t) ?_;rintro ψ1 hl1 d _ ⟨rfl,hd⟩;cases d<;>first|exact aj.halt|skip
 rename_i elem;refine aj.bind (fe elem) ?_;rintro ψ2 hl2 s _ ⟨rfl,_⟩;have hp:=(h.mono hl1).mono hl2
 have tail:∀χ,Le ψ2 χ→∀z:Value,fF z=true→aj P χ aC
   (do let some cells:=Instr.fill (fun i=>some (i*s,s)) ((Array.range (n*s)).map (z.cells[·%z.cells.size]!)) ps.toList
        |stuck "buildSlice: a part of the wrong size"
       pure (.slice (some (←newRow elem cells)) n n))
   (do let some cells:=Instr.fill (fun i=>some (i*s,s)) ((Array.range (n*s)).map (z.cells[·%z.cells.size]!)) qs.toList
        |stuck "buildSlice: a part of the wrong size"
       pure (.slice (some (←newRow elem cells)) n n)):=by
  intro χ hχ z hs;cases hf:Instr.fill (fun i=>some (i*s,s)) ((Array.range (n*s)).map (z.cells[·%z.cells.size]!)) ps.toList with
  |none=>exact aj.halt
  |some r=>
   obtain⟨r',hr',hrel⟩:=Bn (hp.mono hχ) (yI hs _ χ) hf;simp only[hr'];refine aj.bind (xc elem hrel) ?_;intro ψ4 hl4 a a' ha;exact aj.ret fun _ hle=>(ha.mono hle).slice _ _
 dsimp only;split
 ·refine aj.no ?_;split<;>exact bD.iZ (bD.halt _)
 ·split
  ·exact tail _ (.refl _) (.agg #[]) (by simp[fF])
  ·refine aj.bind (qH (hz elem hd)) ?_;rintro ψ3 hl3 z _ ⟨rfl,hs⟩;exact tail _ hl3 z hs
theorem BV {v v':Value} (T:TypeId) (h:aC φ v v'):aj P φ DV (newVar T v) (newVar T v'):=xc T h.cells
theorem UJ {v v':Value} (T:TypeId) (h:aC φ v v'):aj P φ aC (Instr.box T v) (Instr.box T v'):=by
 unfold Instr.box;refine aj.bind (BV T h) ?_;intro ψ hl a a' ha;exact aj.ret fun _ hle=>(ha.mono hle).ptr
theorem N9 {T:TypeId} (hz:xY P T=true):aj P φ aC (Instr.alloc T true (.tuple #[])) (Instr.alloc T true (.tuple #[])):=by
 unfold Instr.alloc;refine aj.bind (qH hz) ?_;rintro ψ hl z _ ⟨rfl,hs⟩;refine aj.bind (BV T (.zO hs)) ?_;intro ψ hl a a' ha;exact aj.ret fun _ hle=>(ha.mono hle).ptr
theorem Mg {t:TypeId} {v v':Value} (h:aC φ v v'):aj P φ aC (Instr.loadAt t v) (Instr.loadAt t v'):=by
 unfold Instr.loadAt;refine aj.bind (pJ h) ?_;intro ψ hl a a' ha;exact Ae t ha
theorem J7 {t:TypeId} {v v' x x':Value} (h:aC φ v v') (hx:aC φ x x'):aj P φ (fun _ _ _=>True) (Instr.storeAt t v x) (Instr.storeAt t v' x'):=by
 unfold Instr.storeAt;refine aj.bind (pJ h) ?_;intro ψ hl a a' ha;exact Hd t ha (hx.mono hl)
theorem F6 {t:TypeId} {n n' c c':Value} (hz:∀e,P.underlying t=some (.slice e)→xY P e=true) (hn:aC φ n n') (hc:aC φ c c'):
  aj P φ aC (Instr.makeSlice t n c) (Instr.makeSlice t n' c'):=by
 unfold Instr.makeSlice;refine aj.bind (bJ t) ?_;rintro ψ1 hl1 d _ ⟨rfl,hd⟩;cases d<;>first|exact aj.halt|skip
 rename_i elem;refine aj.bind (ES (hn.mono hl1)) ?_;rintro ψ2 hl2 ln _ rfl;refine aj.bind (ES ((hc.mono hl1).mono hl2)) ?_;rintro ψ3 hl3 cp _ rfl;refine aj.bind (tL elem) ?_;rintro ψ4 hl4 i _ ⟨rfl,hi⟩;dsimp only
 have tail:∀χ:bq,aj P χ aC
   (do askRoom ((IntKind.i64.wrap cp).toNat*i.bytes)
       let n:=(IntKind.i64.wrap cp).toNat*(←sizeOf elem)
       let zero ←if n=0 then pure #[] else do pure (←zeroValue elem).cells
       let a ←newRow elem ((Array.range n).map (zero[·%zero.size]!))
       pure (.slice (some a) (IntKind.i64.wrap ln).toNat (IntKind.i64.wrap cp).toNat))
   (do askRoom ((IntKind.i64.wrap cp).toNat*i.bytes)
       let n:=(IntKind.i64.wrap cp).toNat*(←sizeOf elem)
       let zero ←if n=0 then pure #[] else do pure (←zeroValue elem).cells
       let a ←newRow elem ((Array.range n).map (zero[·%zero.size]!))
       pure (.slice (some a) (IntKind.i64.wrap ln).toNat (IntKind.i64.wrap cp).toNat)):=by
  intro χ;refine aj.bind (A:=fun _ _ _=>True) ?_ ?_
  ·unfold askRoom;split
   ·exact aj.mark
   ·exact aj.ret fun _ _=>trivial
  ·intro χ1 _ _ _ _;refine aj.bind (fe elem) ?_;rintro χ2 _ s _ ⟨rfl,_⟩
   have last:∀χ3,∀z:Value,fF z=true→aj P χ3 aC
     (do let a ←newRow elem ((Array.range ((IntKind.i64.wrap cp).toNat*s)).map (z.cells[·%z.cells.size]!))
         pure (.slice (some a) (IntKind.i64.wrap ln).toNat (IntKind.i64.wrap cp).toNat))
     (do let a ←newRow elem ((Array.range ((IntKind.i64.wrap cp).toNat*s)).map (z.cells[·%z.cells.size]!))
         pure (.slice (some a) (IntKind.i64.wrap ln).toNat (IntKind.i64.wrap cp).toNat)):=by
    intro χ3 z hs;refine aj.bind (xc elem (yI hs _ χ3)) ?_;intro ψ4 hl4 a a' ha;exact aj.ret fun _ hle=>(ha.mono hle).slice _ _
   dsimp only;split
   ·exact last _ (.agg #[]) (by simp[fF])
   ·refine aj.bind (qH (hz elem hd)) ?_;rintro ψ3 hl3 z _ ⟨rfl,hs⟩;exact last _ z hs
 split
 ·refine aj.no ?_;split
  ·exact bD.iZ (j6 _)
  ·split
   ·exact bD.iZ (j6 _)
   ·exact bD.xO fun _=>bD.iZ (j6 _)
 ·exact tail ψ4
theorem vR {x x':Value} {y y':Nat} {c:BoundsCode} (h:aC φ x x') (hy:y≤y'):aj P φ (fun _ a b=>a=b∧a≤y∧∀k l,x= .int k l→a=l.toNat) (Instr.sliceBound x y c) (Instr.sliceBound x' y' c):=by
 cases h with
 |sc hs=>
  cases x<;>first|exact aj.no (bD.iZ (bD.halt _))|skip
  case int k i=>
   unfold Instr.sliceBound;refine aj.bind (A:=fun _ a b=>b=(k,i)∧a=(k,i)) (aj.ret fun _ _=>⟨rfl,rfl⟩) ?_;rintro ψ hl _ _ ⟨rfl,rfl⟩;simp only;split
   ·rename_i hc;have hc':0≤i∧i≤(y':Int):=⟨hc.1,by omega⟩;simp only[hc',and_self,if_true];exact aj.ret fun _ _=>⟨rfl,by omega,fun k l h=>by cases h;rfl⟩
   ·exact aj.no (kR _ _ _ _)
  case pointer a=>cases a<;>first|exact aj.no (bD.iZ (bD.halt _))|simp[dH] at hs
 |_=>exact aj.no (bD.iZ (bD.halt _))
theorem xe {s:Bool} {len cap cap':Nat} {lo lo' hi hi':Option Value} (hc:cap≤cap') (hlen:len≤cap)
  (hl:(lo=none∧lo'=none)∨∃v v',lo=some v∧lo'=some v'∧aC φ v v') (hh:(hi=none∧hi'=none)∨∃v v',hi=some v∧hi'=some v'∧aC φ v v'):
  aj P φ (fun _ p q=>q.1=p.1∧q.2.1=p.2.1∧p.2.2=cap∧q.2.2=cap'∧p.1≤p.2.1∧p.2.1≤cap∧(lo=none→p.1=0)∧∀k l,lo=some (.int k l)→p.1=l.toNat)
   (Instr.sliceBounds s len cap lo hi none) (Instr.sliceBounds s len cap' lo' hi' none):=by
 unfold Instr.sliceBounds
 have low:∀ψ,Le φ ψ→∀h,h≤cap→aj P ψ (fun _ (p q:Nat×Nat×Nat)=>q.1=p.1∧q.2.1=p.2.1∧p.2.2=cap∧q.2.2=cap'∧p.1≤p.2.1∧p.2.1≤cap∧(lo=none→p.1=0)∧∀k l,lo=some (.int k l)→p.1=l.toNat)
   (do let l ←match lo with
        |some v=>Instr.sliceBound v h (if (none:Option Value).isSome then .slice3C else .sliceB)
        |none=>pure 0
       pure (l,h,cap))
   (do let l ←match lo' with
        |some v=>Instr.sliceBound v h (if (none:Option Value).isSome then .slice3C else .sliceB)
        |none=>pure 0
       pure (l,h,cap')):=by
  intro ψ hψ h hle;rcases hl with⟨rfl,rfl⟩|⟨v,v',rfl,rfl,hv⟩
  ·exact aj.ret fun _ _=>⟨rfl,rfl,rfl,rfl,Nat.zero_le _,hle,fun _=>rfl,fun _ _ h=>by cases h⟩
  ·refine aj.bind (vR (hv.mono hψ) (Nat.le_refl h)) ?_;rintro ψ' _ a _ ⟨rfl,h1,h2⟩;exact aj.ret fun _ _=>⟨rfl,rfl,rfl,rfl,h1,hle,(by intro h;cases h),fun k l h=>h2 k l (by cases h;rfl)⟩
 rcases hh with⟨rfl,rfl⟩|⟨v,v',rfl,rfl,hv⟩
 ·exact low φ (.refl φ) len hlen
 ·refine aj.bind (A:=fun _ x y=>cap=x∧cap'=y) (aj.ret fun _ _=>⟨rfl,rfl⟩) ?_;rintro ψ0 h0 _ _ ⟨rfl,rfl⟩;refine aj.bind (vR (hv.mono h0) hc) ?_;rintro ψ' aaj a _ ⟨rfl,h1,h2⟩;exact low ψ' (h0.trans aaj) a h1
/-- A slice is cut so that it keeps its address just where the world's does. -/
def zQ (x:Value) (lo:Option Value):Bool:=
 match x with
 | .slice _ n c=>decide (n≤c)&&(match lo with
   |some (.int _ l)=>l.toNat == 0||l.toNat != c
   |some _=>false
   |none=>true)
 | .string _=>true
 |_=>false
theorem NS {t:TypeId} {x x':Value} {lo lo' hi hi':Option Value} (hok:zQ x lo=true) (ht:∀n e,P.underlying t≠some (.array n e)) (h:aC φ x x')
  (hl:(lo=none∧lo'=none)∨∃v v',lo=some v∧lo'=some v'∧aC φ v v') (hh:(hi=none∧hi'=none)∨∃v v',hi=some v∧hi'=some v'∧aC φ v v'):
  aj P φ aC (Instr.sliceAt t x lo hi none) (Instr.sliceAt t x' lo' hi' none):=by
 have up:∀{ψ:bq} {o o':Option Value},Le φ ψ→((o=none∧o'=none)∨∃v v',o=some v∧o'=some v'∧aC φ v v')→((o=none∧o'=none)∨∃v v',o=some v∧o'=some v'∧aC ψ v v'):=
  fun hle h=>h.imp id fun⟨v,v',a,b,c⟩=>⟨v,v',a,b,c.mono hle⟩
 have main:∀ψ,Le φ ψ→aj P ψ aC (Instr.slice t x lo hi none) (Instr.slice t x' lo' hi' none):=by
  intro ψ hψ;unfold Instr.slice;refine aj.bind (bJ t) ?_;rintro ψ1 hl1 d _ ⟨rfl,hd⟩;have hx:=(h.mono hψ).mono hl1;have hle:=hψ.trans hl1;cases hx with
  |sc hs=>
   cases x<;>first|(cases hok;done)|skip
   case string s=>
    cases d<;>first|exact aj.halt|skip
    case string=>
     simp only[Option.isSome_none,Bool.false_eq_true,if_false];refine aj.bind (xe (Nat.le_refl _) (Nat.le_refl _) (up hle hl) (up hle hh)) ?_;rintro ψ2 _ ⟨l,hh,m⟩ ⟨l',hh',m'⟩ ⟨h1,h2,_⟩;simp only at h1 h2;subst h1 h2;exact aj.ret fun _ _=> .sc rfl
   case slice a n c=>
    cases a with
    |some a=>simp[dH] at hs
    |none=>
     cases d<;>first|exact aj.halt|skip
     case slice elem=>
      simp only[zQ,Bool.and_eq_true,decide_eq_true_eq] at hok;refine aj.bind (xe (Nat.le_refl _) hok.1 (up hle hl) (up hle hh)) ?_;rintro ψ2 _ ⟨l,hh,m⟩ ⟨l',hh',m'⟩ ⟨h1,h2,h3,h4,_⟩;simp only at h1 h2 h3 h4;subst h1 h2 h3 h4;refine aj.bind (fe elem) ?_;rintro ψ4 hl4 s _ ⟨rfl,_⟩;refine aj.ret fun _ _=> ?_;split<;>exact .sc rfl
  |slice hb=>
   rename_i b b' e off n c;cases d<;>first|exact aj.halt|skip
   case slice elem=>
    simp only[zQ,Bool.and_eq_true,decide_eq_true_eq] at hok;refine aj.bind (xe (Nat.le_add_right c e) hok.1 (up hle hl) (up hle hh)) ?_;rintro ψ2 hl2 ⟨l,hh,m⟩ ⟨l',hh',m'⟩ ⟨h1,h2,h3,h4,h5,h6,h7,h8⟩;simp only at h1 h2 h3 h4 h5 h6 h7 h8;subst h1 h2 h3 h4;refine aj.bind (fe elem) ?_;rintro ψ4 hl4 s _ ⟨rfl,_⟩;refine aj.ret fun ψ5 hl5=> ?_;have hb':=hl5 _ _ (hl4 _ _ (hl2 _ _ hb))
    have hl0:l'=0∨(l'≠m∧l'<m):=by
     by_cases h0:l'=0
     ·exact .inl h0
     ·refine .inr ?_
      have:l'≠m:=by
       intro hlm;have h2:=hok.2;cases lo with
       |none=>exact h0 (h7 rfl)
       |some v=>
        cases v<;>first|(simp at h2;done)|skip
        have:=h8 _ _ rfl;simp only[Bool.or_eq_true,beq_iff_eq,bne_iff_ne,ne_eq] at h2;rw[←this] at h2;exact h2.elim h0 fun x=>x hlm
      exact⟨this,by omega⟩
    have ec:m+e-l'=(m-l')+e:=by omega
    have em:∀(x:Addr) n,n=0→x.add n=x:=fun x n hn=>by simp[Addr.add,hn]
    rcases hl0 with h0|⟨h0,h0'⟩
    ·subst h0;simp only[Nat.zero_mul,Nat.sub_zero];have e1:(if m=0 then some (⟨b,off,none⟩:Addr) else Option.map (fun x:Addr=>x.add 0) (some ⟨b,off,none⟩))=some ⟨b,off,none⟩:=by split<;>simp[Addr.add]
     have e2:(if m+e=0 then some (⟨b',off,none⟩:Addr) else Option.map (fun x:Addr=>x.add 0) (some ⟨b',off,none⟩))=some ⟨b',off,none⟩:=by split<;>simp[Addr.add]
     rw[e1,e2];exact .slice hb'
    ·have n1:¬m=l':=fun h=>h0 h.symm;have n2:¬m+e=l':=by omega
     simp only[n1,n2,if_false,Option.map_some,ec];unfold Addr.add;split
     ·exact .slice hb'
     ·exact .slice hb'
  |_=>cases hok
 unfold Instr.sliceAt;refine aj.bind (bJ t) ?_;rintro ψ1 hl1 d _ ⟨rfl,hd⟩;cases d<;>first|exact main ψ1 hl1|exact absurd hd (ht _ _)
theorem bu.mapOf {ρ ρ':Operand→Value} {xs:Array Operand} (h:∀x∈xs,aC φ (ρ x) (ρ' x)):bu φ (xs.map ρ) (xs.map ρ'):=by
 refine⟨by simp,fun i v v' hv hv'=> ?_⟩;rw[Array.getElem?_map] at hv hv';obtain⟨x,hx,rfl⟩:=Option.map_eq_some_iff.1 hv;rw[hx] at hv';cases hv';exact h x (Array.mem_of_getElem? hx)
/-- A function of Go's that is called by a value. -/
def Be (P:Program):Value→Bool
 | .func (.func f) _ _=>match P.funcs[f]? with
   |some fn=>fn.body.isSome&& !(fn.name == "runtime.NumGoroutine")
   |none=>false
 |_=>false
theorem QY {f f':Value} {args args':Array Value} (hok:Be P f=true) (h:aC φ f f') (ha:bu φ args args'):
  aj P φ zl (do let d ←Deferred.ofValue f args;invoke d.target d.args) (do let d ←Deferred.ofValue f' args';invoke d.target d.args):=by
 cases h with
 |func hfn hf hc h1 h2=>
  rename_i fn fs gs cs ds;cases fn<;>first|(cases hok;done)|skip
  rename_i g;show aj P φ zl (callFunc g ((fs++args)++cs)) (callFunc g ((gs++args')++ds))
  have hall:bu φ ((fs++args)++cs) ((gs++args')++ds):=(bu.append (bu.append ⟨hf,h1⟩ ha) ⟨hc,h2⟩);simp only[Be] at hok;cases hg:P.funcs[g]? with
  |none=>rw[hg] at hok;cases hok
  |some fn=>
   rw[hg] at hok;simp only[Bool.and_eq_true,Bool.not_eq_true'] at hok;unfold callFunc;refine aj.bind aj.program ?_;rintro ψ hl _ _ ⟨rfl,rfl⟩
   have hb:fn.body.isNone=false:=by
    cases hbb:fn.body with
    |none=>rw[hbb] at hok;simp at hok
    |some b=>rfl
   simp only[hg,hok.2,Bool.false_eq_true,if_false,hb];exact aj.ret fun _ hle=>⟨rfl,(hall.mono hl).mono hle⟩
 |sc hs=>cases f<;>first|(cases hok;done)|(simp[dH] at hs;done)
 |_=>cases hok
theorem agG {P:Prop} (h:P:=by
 cases v<;>first|exact aj.halt|skip
 rename_i a;cases a<;>first|exact aj.ret fun _ _=> .sc rfl|simp[dH] at hs):P:=h
theorem UI {ts:Array TypeId} {ty:TypeId} {args args':Array Value} (ha:bu φ args args'):aj P φ aC (Builtin.len_ ts ty args) (Builtin.len_ ts ty args'):=by
 unfold Builtin.len_;cases ht:ts[0]? with
 |none=>exact aj.halt
 |some t=>
  cases hv:args[0]? with
  |none=>exact aj.halt
  |some v=>
   obtain⟨v',hv',hr⟩:=ha.get hv;simp only[hv'];refine aj.bind (bJ t) ?_;rintro ψ hl d _ ⟨rfl,hd⟩;have hx:=hr.mono hl;cases d<;>first|exact aj.halt|skip
   case array n e=>exact aj.ret fun _ _=> .sc rfl
   case pointer arr=>
    refine aj.bind (bJ arr) ?_;rintro ψ' _ d' _ ⟨rfl,_⟩;cases d'<;>first|exact aj.halt|exact aj.ret fun _ _=> .sc rfl
   case string=>
    cases hx with
    |sc hs=>cases v<;>first|exact aj.halt|exact aj.ret fun _ _=> .sc rfl
    |_=>exact aj.halt
   case slice e=>
    cases hx with
    |sc hs=>cases v<;>first|exact aj.halt|exact aj.ret fun _ _=> .sc rfl
    |slice hb=>exact aj.ret fun _ _=> .sc rfl
    |_=>exact aj.halt
   case chan=>
    cases hx with
    |sc hs=>
     exact agG
    |_=>exact aj.halt
   case map=>
    cases hx with
    |sc hs=>
     exact agG
    |map hb=>
     refine aj.bind (pK hb) ?_;intro ψ' _ o o' ho;cases o<;>cases o'<;>first|exact ho.elim|exact aj.halt|skip
     have:=ho.2.size;simp only[this];exact aj.ret fun _ _=> .sc rfl
    |_=>exact aj.halt
def nH:Value→Nat
 | .pointer (some _)=>1
 | .pointer none=>2
 | .slice (some _) _ _=>3
 | .slice none _ _=>4
 | .map (some _)=>5
 | .map none=>6
 | .func .. =>7
 | .nilFunc=>8
 |_=>0
def VY:Nat→Nat→Bool
 |1,2|2,1|3,4|4,3|5,6|6,5|7,8|8,7=>true
 |_,_=>false
/-- A comparison with nothing. -/
def qU:Value→Value→Bool
 | .pointer (some _), .pointer none| .pointer none, .pointer (some _)| .slice (some _) _ _, .slice none _ _| .slice none _ _, .slice (some _) _ _
 | .map (some _), .map none| .map none, .map (some _)| .func .., .nilFunc| .nilFunc, .func .. =>true
 |_,_=>false
theorem Wt {a:Value} (h:nH a=1):∃x,a= .pointer (some x):=by
 unfold nH at h;split at h<;>first|(cases h;done)|exact⟨_,rfl⟩
theorem agH {P:Prop} (h:P:=by
 unfold nH at h;split at h<;>first|(cases h;done)|rfl):P:=h
theorem Ws {a:Value} (h:nH a=2):a= .pointer none:=by
 exact agH
theorem Wq {a:Value} (h:nH a=3):∃x n c,a= .slice (some x) n c:=by
 unfold nH at h;split at h<;>first|(cases h;done)|exact⟨_,_,_,rfl⟩
theorem Wp {a:Value} (h:nH a=4):∃n c,a= .slice none n c:=by
 unfold nH at h;split at h<;>first|(cases h;done)|exact⟨_,_,rfl⟩
theorem Wo {a:Value} (h:nH a=5):∃x,a= .map (some x):=by
 unfold nH at h;split at h<;>first|(cases h;done)|exact⟨_,rfl⟩
theorem Wn {a:Value} (h:nH a=6):a= .map none:=by
 exact agH
theorem Wm {a:Value} (h:nH a=7):∃x y z,a= .func x y z:=by
 unfold nH at h;split at h<;>first|(cases h;done)|exact⟨_,_,_,rfl⟩
theorem Wl {a:Value} (h:nH a=8):a= .nilFunc:=by
 exact agH
theorem Ov {a b:Value} (h:qU a b=true):VY (nH a) (nH b)=true:=by
 unfold qU at h;split at h<;>first|rfl|cases h
theorem Rf {a b:Value} (h:VY (nH a) (nH b)=true):qU a b=true:=by
 unfold VY at h;split at h
 ·rename_i h1 h2;obtain⟨_,rfl⟩:=Wt h1;rw[Ws h2];rfl
 ·rename_i h1 h2;obtain⟨_,rfl⟩:=Wt h2;rw[Ws h1];rfl
 ·rename_i h1 h2;obtain⟨_,_,_,rfl⟩:=Wq h1;obtain⟨_,_,rfl⟩:=Wp h2;rfl
 ·rename_i h1 h2;obtain⟨_,_,_,rfl⟩:=Wq h2;obtain⟨_,_,rfl⟩:=Wp h1;rfl
 ·rename_i h1 h2;obtain⟨_,rfl⟩:=Wo h1;rw[Wn h2];rfl
 ·rename_i h1 h2;obtain⟨_,rfl⟩:=Wo h2;rw[Wn h1];rfl
 ·rename_i h1 h2;obtain⟨_,_,_,rfl⟩:=Wm h1;rw[Wl h2];rfl
 ·rename_i h1 h2;obtain⟨_,_,_,rfl⟩:=Wm h2;rw[Wl h1];rfl
 ·cases h
theorem agC {P:Prop} (h:P:=by
 cases hy<;>first|(cases hok;done)|skip
 case sc hs'=>
  cases y<;>first|(cases hok;done)|skip
  rename_i a;cases a<;>first|(cases hok;done)|skip
  cases d<;>first|exact aj.halt|exact aj.ret fun _ _=>rfl):P:=h
theorem agD {P:Prop} (h:P:=by
 cases hy<;>first|(cases hok;done)|skip
 case sc hs'=>cases y<;>first|(cases hok;done)|(cases d<;>first|exact aj.halt|exact aj.ret fun _ _=>rfl)):P:=h
theorem ER {t:TypeId} {x x' y y':Value} (hok:qU x y=true) (hx:aC φ x x') (hy:aC φ y y'):aj P φ (fun _ a b=>a=b) (Op.equal t x y) (Op.equal t x' y'):=by
 unfold Op.equal Op.maxDepth;have e:(10000:Nat)=9999+1:=rfl;rw[e];unfold Op.equalIn;refine aj.bind (bJ t) ?_;rintro ψ hl d _ ⟨rfl,_⟩;cases hx with
 |sc hs=>
  cases x<;>first|(cases y<;>cases hok;done)|skip
  case pointer a=>
   cases a<;>first|(simp[dH] at hs;done)|skip
   cases hy<;>first|(cases hok;done)|skip
   case sc hs'=>cases y<;>first|(cases hok;done)|(rename_i b;cases b<;>first|(cases hok;done)|(simp[dH] at hs';done))
   case ptr=>cases d<;>first|exact aj.halt|exact aj.ret fun _ _=>rfl
  case slice a _ _=>
   cases a<;>first|(simp[dH] at hs;done)|skip
   cases hy<;>first|(cases hok;done)|skip
   case sc hs'=>cases y<;>first|(cases hok;done)|(rename_i b _ _;cases b<;>first|(cases hok;done)|(simp[dH] at hs';done))
   case slice=>cases d<;>first|exact aj.halt|exact aj.ret fun _ _=>rfl
  case map a=>
   cases a<;>first|(simp[dH] at hs;done)|skip
   cases hy<;>first|(cases hok;done)|skip
   case sc hs'=>cases y<;>first|(cases hok;done)|(rename_i b;cases b<;>first|(cases hok;done)|(simp[dH] at hs';done))
   case map=>cases d<;>first|exact aj.halt|exact aj.ret fun _ _=>rfl
  case func=>simp[dH] at hs
  case nilFunc=>
   cases hy<;>first|(cases hok;done)|skip
   case sc hs'=>cases y<;>first|(cases hok;done)|(simp[dH] at hs';done)
   case func=>cases d<;>first|exact aj.halt|exact aj.ret fun _ _=>rfl
   case yield=>cases d<;>first|exact aj.halt|exact aj.ret fun _ _=>rfl
 |ptr hb=>
  exact agC
 |slice hb=>
  cases hy<;>first|(cases hok;done)|skip
  case sc hs'=>
   cases y<;>first|(cases hok;done)|skip
   rename_i a _ _;cases a<;>first|(cases hok;done)|skip
   cases d<;>first|exact aj.halt|exact aj.ret fun _ _=>rfl
 |map hb=>
  exact agC
 |func=>
  exact agD
 |yield=>
  exact agD
 |iface=>cases hok
 |agg=>cases hok
 |tuple=>cases hok
theorem KZ {a a':Value} (h:aC φ a a'):nH a'=nH a:=by
 cases h<;>rfl
theorem Fa {a b a' b':Value} (h:qU a b=true) (ha:aC φ a a') (hb:aC φ b b'):qU a' b'=true:=by
 refine Rf ?_;rw[KZ ha,KZ hb];exact Ov h
theorem qY {op:BinOp} {t:TypeId} {x y:Operand} {a b:Value} (h:qU a b=true):eqGuard op t x y a b=pure ():=by
 unfold eqGuard;cases a<;>cases b<;>first|(cases h;done)|(split<;>rfl)
theorem binOp_eql {t:TypeId} {a b:Value} (h:qU a b=true):binOp .eql t a b=(do pure (.bool (←Op.equal t a b))):=by
 cases a<;>cases b<;>first|(cases h;done)|rfl
theorem binOp_neq {t:TypeId} {a b:Value} (h:qU a b=true):binOp .neq t a b=(do pure (.bool (!(←Op.equal t a b)))):=by
 cases a<;>cases b<;>first|(cases h;done)|rfl
theorem NU {v v':Value} (h:aC φ v v'):aj P φ (fun _ a b=>a=b) (Builtin.lenOf v) (Builtin.lenOf v'):=by
 cases h with
 |sc hs=>cases v<;>first|exact aj.halt|exact aj.ret fun _ _=>rfl
 |slice=>exact aj.ret fun _ _=>rfl
 |_=>exact aj.halt
theorem vS {v v':Value} (s n:Nat) (h:aC φ v v'):aj P φ bu (Builtin.firstCells s n v) (Builtin.firstCells s n v'):=by
 cases h with
 |sc hs=>
  cases v<;>first|exact aj.halt|skip
  case slice a _ _=>cases a<;>first|exact aj.ret fun _ _=> .empty _|(simp[dH] at hs;done)
  case string x=>
   refine aj.ret fun _ _=>bu.refs ?_;rw[Array.all_eq_true_iff_forall_mem];intro x hx;obtain⟨_,_,rfl⟩:=Array.mem_map.1 hx;rfl
 |slice hb=>exact yg _ ⟨rfl,rfl,rfl,_,hb⟩
 |_=>exact aj.halt
theorem QX {ts:Array TypeId} {ty:TypeId} {args args':Array Value} (ha:bu φ args args'):aj P φ aC (Builtin.copy_ ts ty args) (Builtin.copy_ ts ty args'):=by
 unfold Builtin.copy_;cases ht:ts[0]? with
 |none=>exact aj.halt
 |some t=>
  cases hd:args[0]? with
  |none=>exact aj.halt
  |some d=>
   cases hs:args[1]? with
   |none=>exact aj.halt
   |some s=>
    obtain⟨d',hd',hrd⟩:=ha.get hd;obtain⟨s',hs',hrs⟩:=ha.get hs;simp only[hd',hs'];refine aj.bind (bJ t) ?_;rintro ψ hl u _ ⟨rfl,hu⟩;cases u<;>first|exact aj.halt|skip
    rename_i elem
    have go:∀(b b':Option Addr) (n:Nat),((b=none∧b'=none)∨∃a a',b=some a∧b'=some a'∧kX ψ a a')→aj P ψ aC
      (do let n:=Nat.min (←Builtin.lenOf s) n
          let cells ←Builtin.firstCells (←sizeOf elem) n s
          if let some a:=b then storeCells a cells.toList
          pure (goInt n))
      (do let n:=Nat.min (←Builtin.lenOf s') n
          let cells ←Builtin.firstCells (←sizeOf elem) n s'
          if let some a:=b' then storeCells a cells.toList
          pure (goInt n)):=by
     intro b b' n hb;refine aj.bind (NU (hrs.mono hl)) ?_;rintro ψ1 hl1 ln _ rfl;refine aj.bind (fe elem) ?_;rintro ψ2 hl2 sz _ ⟨rfl,_⟩;refine aj.bind (vS _ _ (((hrs.mono hl).mono hl1).mono hl2)) ?_;intro ψ3 hl3 cs ds hcs;rcases hb with⟨rfl,rfl⟩|⟨a,a',rfl,rfl,haa⟩
     ·exact aj.ret fun _ _=> .sc rfl
     ·refine aj.bind (nC 0 (((haa.mono hl1).mono hl2).mono hl3) hcs.toList) ?_;intro ψ4 _ _ _ _;exact aj.ret fun _ _=> .sc rfl
    cases hrd.mono hl with
    |slice hb=>exact go _ _ _ (.inr ⟨_,_,rfl,rfl,kX.of hb⟩)
    |sc hsc=>
     cases d<;>first|exact aj.halt|skip
     rename_i a _ _;cases a<;>first|exact go none none _ (.inl ⟨rfl,rfl⟩)|(simp[dH] at hsc;done)
    |_=>exact aj.halt
/-- An append for which there is room. -/
def Hz (P:Program) (ats:Array TypeId) (args:Array Value):Bool:=
 match (ats[1]?:Option TypeId),(args[0]?:Option Value),(args[1]?:Option Value) with
 |some xT,some (.slice _ n c),some x=>(match P.underlying xT with|some (.slice _)|some .string=>true|_=>false)&&(match x with
  | .slice _ k _=>decide (n+k≤c)
  | .string s=>decide (n+s.size≤c)
  |_=>false)
 |_,_,_=>false
theorem QT {ats:Array TypeId} {ty:TypeId} {args args':Array Value} (hok:Hz P ats args=true) (ha:bu φ args args'):aj P φ aC (Builtin.append_ ats ty args) (Builtin.append_ ats ty args'):=by
 unfold Hz at hok;split at hok
 ·rename_i xT base n c x Iu hs hx;simp only[Bool.and_eq_true] at hok;obtain⟨hk1,hk2⟩:=hok;obtain⟨s',hs',hrs⟩:=ha.get hs;obtain⟨x',hx',hrx⟩:=ha.get hx
  have hlen:∃k,(Builtin.lenOf x=(Pure.pure k:Sem Nat))∧(Builtin.lenOf x'=(Pure.pure k:Sem Nat))∧n+k≤c:=by
   cases hrx with
   |slice hb=>exact⟨_,rfl,rfl,by simpa using hk2⟩
   |sc h0=>cases x<;>first|(cases hk2;done)|exact⟨_,rfl,rfl,by simpa using hk2⟩
   |_=>cases hk2
  obtain⟨k,hlx,WM,hnk⟩:=hlen
  have body:∀(ψ:bq) (elem:TypeId) (base base':Option Addr) (c':Nat),Le φ ψ→c≤c'→((base=none∧base'=none∧c'=c)∨∃b b' e off,base=some ⟨b,off,none⟩∧base'=some ⟨b',off,none⟩∧ψ b=some (b',e)∧c'=c+e)→∀sz,aj P ψ aC
    (do let new ←Builtin.firstCells sz k x
        if let some a:=base then storeCells (a.add (n*sz)) new.toList
        pure (.slice base (n+k) c))
    (do let new ←Builtin.firstCells sz k x'
        if let some a:=base' then storeCells (a.add (n*sz)) new.toList
        pure (.slice base' (n+k) c')):=by
   intro ψ elem base base' c' hψ hcc hb sz;refine aj.bind (vS _ _ (hrx.mono hψ)) ?_;intro ψ1 hl1 cs ds hcs;rcases hb with⟨rfl,rfl,rfl⟩|⟨b,b',e,off,rfl,rfl,hp,rfl⟩
   ·exact aj.ret fun _ _=> .sc rfl
   ·refine aj.bind (nC 0 ((kX.of (hl1 _ _ hp)).add _) hcs.toList) ?_;intro ψ2 hl2 _ _ _;exact aj.ret fun _ hle=> .slice (hle _ _ (hl2 _ _ (hl1 _ _ hp)))
  unfold Builtin.append_;cases h0:ats[0]? with
  |none=>exact aj.halt
  |some sT=>
   simp only[hs,hx,hs',hx',Iu];refine aj.bind (bJ sT) ?_;rintro ψ hl d _ ⟨rfl,hd⟩;cases d<;>first|exact aj.halt|skip
   rename_i elem;cases hrs with
   |slice hb=>
    rename_i b b' e off;refine aj.bind (fe elem) ?_;rintro ψ2 hl2 sz _ ⟨rfl,_⟩;refine aj.bind (bJ xT) ?_;rintro ψ3 hl3 d2 _ ⟨rfl,hd2⟩;rw[hd2] at hk1;have hle:=(hl.trans hl2).trans hl3;have fin:=body ψ3 elem _ _ (c+e) hle (Nat.le_add_right _ _) (.inr ⟨b,b',e,off,rfl,rfl,hle _ _ hb,rfl⟩) sz;have aan:n+k≤c+e:=by omega
    cases d2<;>first|(cases hk1;done)|skip
    all_goals
     simp only[pure_bind,hlx,WM,hnk,aan,if_true,Bool.not_false,Bool.false_eq_true,if_false];exact fin
   |sc h0=>
    cases base with
    |some a=>simp[dH] at h0
    |none=>
     refine aj.bind (fe elem) ?_;rintro ψ2 hl2 sz _ ⟨rfl,_⟩;refine aj.bind (bJ xT) ?_;rintro ψ3 hl3 d2 _ ⟨rfl,hd2⟩;rw[hd2] at hk1;have hle:=(hl.trans hl2).trans hl3;have fin:=body ψ3 elem none none c hle (Nat.le_refl _) (.inl ⟨rfl,rfl,rfl⟩) sz;cases d2<;>first|(cases hk1;done)|skip
     all_goals
      simp only[pure_bind,hlx,WM,hnk,if_true,Bool.not_false,Bool.false_eq_true,if_false];exact fin
 ·cases hok
/-- A value that holds no address, or a function of Go's. -/
def BZ:Value→Bool
 | .func (.func _) fs cs=>fs.isEmpty&&cs.isEmpty
 |v=>fF v
theorem aC.eqF {v v':Value} (hs:BZ v=true) (h:aC φ v v'):v'=v:=by
 cases h with
 |func hfn hf hc h1 h2=>
  rename_i fn fs gs cs ds;cases fn<;>first|(simp[BZ,fF,dH] at hs;done)|skip
  simp only[BZ,Bool.and_eq_true,Array.isEmpty_iff] at hs;obtain⟨rfl,rfl⟩:=hs;have e1:gs= #[]:=by simpa using hf
  have e2:ds= #[]:=by simpa using hc
  rw[e1,e2]
 |sc h0=>rfl
 |agg hc h=>exact aC.yn hs (.agg hc h)
 |_=>simp[BZ,fF,dH] at hs
/-- Operations on values that hold no address. -/
def Cj (P:Program) (ρ:Operand→Value) (o:Oper):Option Value:=
 if o.op.operands.all fun x=>BZ (ρ x) then
  match o.op with
  | .select .. =>none
  |_=>match G6 P (execOp ρ o) with
   |some (.value v)=>if ou v then some v else none
   |_=>none
 else none
theorem Ki {ρ ρ':Operand→Value} {o:Oper} {v:Value} (h:Cj P ρ o=some v) (hρ:∀x∈o.op.operands,aC φ (ρ x) (ρ' x)) (w:World):
  (execOp ρ' o).run P w= .ok (.value v) w∧aC φ v v:=by
 unfold Cj at h;split at h
 ·rename_i hall;rw[Array.all_eq_true_iff_forall_mem] at hall;have hns:∀cs b,o.op≠ .select cs b:=fun cs b hop=>by rw[hop] at h;cases h
  have heq:execOp ρ' o=execOp ρ o:=execOp_congr o hns fun x hx=>aC.eqF (hall x hx) (hρ x hx)
  have h':(match G6 P (execOp ρ o) with
   |some (.value v)=>if ou v then some v else none
   |_=>none)=some v:=by
   split at h
   ·cases h
   ·exact h
  split at h'
  ·rename_i u hu;split at h'
   ·rename_i hs;cases h';rw[heq];exact⟨QE hu w, .Ca hs⟩
   ·cases h'
  ·cases h'
 ·cases h
def zR (P:Program) (t:TypeId):Bool:=
 match P.underlying t with
 |some (.slice e)=>xY P e
 |_=>false
def KQ (P:Program) (s:TypeId) (f:Nat):Bool:=
 match P.underlying s with
 |some (.struct fs)=>match fs[f]? with
  |some fd=>match P.info? fd.type with
   |some i=>i.size != 0
   |none=>false
  |none=>false
 |_=>false
def Tg (P:Program) (t:TypeId):Bool:=
 match P.underlying t with
 |some (.array ..)=>false
 |_=>true
/-- Which operations the checker runs by the model itself. -/
def Mv (P:Program) (ρ:Operand→Value) (o:Oper):Bool:=
 match o.op with
 | .move _| .assign _| .pick .. | .load .. | .store .. | .extract .. | .field .. | .index .. | .indexAddr .. | .box .. =>true
 | .alloc e=>xY P e
 | .build t _=>xY P t
 | .buildSlice t _ _=>zR P t
 | .makeSlice t _ _=>zR P t
 | .fieldAddr s _ f=>KQ P s f
 | .slice t x lo _ none=>Tg P t&&zQ (ρ x) (lo.map ρ)
 | .makeFunc (.func _) _ _=>true
 | .nilCheck x=>match ρ x with
   | .pointer (some _)=>true
   |_=>false
 | .binOp .eql _ x y _| .binOp .neq _ x y _=>qU (ρ x) (ρ y)
 | .call {callee:= .value f, .. }=>Be P (ρ f)
 | .call {callee:= .builtin .append,args,argTypes}=>Hz P argTypes (args.map ρ)
 | .call {callee:= .builtin .len, .. }| .call {callee:= .builtin .copy, .. }=>true
 |_=>false
theorem Ct {ρ ρ':Operand→Value}:∀(ps:List (Nat×Operand)),(∀p∈ps,aC φ (ρ p.2) (ρ' p.2))→xU φ (ps.map fun x=>(x.1,ρ x.2)) (ps.map fun x=>(x.1,ρ' x.2))
 |[],_=>True.intro
 |p::ps,h=>⟨rfl,h p (by simp),Ct ps fun q hq=>h q (by simp[hq])⟩
theorem EY {ρ ρ':Operand→Value} (ps:Array (Nat×Operand)) (h:∀x∈(ps.toList.map (·.2)).toArray,aC φ (ρ x) (ρ' x)):
  xU φ (ps.map fun(i,x)=>(i,ρ x)).toList (ps.map fun(i,x)=>(i,ρ' x)).toList:=by
 rw[Array.toList_map,Array.toList_map];refine Ct ps.toList fun p hp=>h p.2 ?_;simp;exact⟨p.1,by simpa using hp⟩
theorem agF {P:Prop} (h:P:=by
 simp only[pure_bind];refine aj.bind (ER hok hx hy) ?_;rintro ψ hl b _ rfl;exact aj.ret fun _ _=> .sc rfl):P:=h
theorem Re {ρ ρ':Operand→Value} {o:Oper} (hok:Mv P ρ o=true) (hρ:∀x∈o.op.operands,aC φ (ρ x) (ρ' x)):aj P φ zl (execOp ρ o) (execOp ρ' o):=by
 obtain⟨dst,op,type,pos,after,guard⟩:=o;cases op<;>simp only[Mv] at hok<;>simp only[Op.operands] at hρ<;>try(cases hok;done)
 case move x=>exact aj.ret fun _ hl=>(hρ x (by simp)).mono hl
 case assign x=>exact aj.ret fun _ hl=>(hρ x (by simp)).mono hl
 case pick c a b=>
  refine aj.bind (Mi (hρ c (by simp))) ?_;rintro ψ hl t _ rfl;cases t
  ·exact aj.ret fun _ hle=>((hρ b (by simp)).mono hl).mono hle
  ·exact aj.ret fun _ hle=>((hρ a (by simp)).mono hl).mono hle
 case alloc e=>exact aj.value (N9 hok)
 case box e x=>exact aj.value (UJ e (hρ x (by simp)))
 case build t ps=>exact aj.value (N7 hok (EY ps hρ))
 case buildSlice t n ps=>
  refine aj.value (Ea ?_ (EY ps hρ));intro e he;simpa[zR,he] using hok
 case load t a=>exact aj.value (Mg (hρ a (by simp)))
 case store t a x=>exact aj.unit (J7 (hρ a (by simp)) (hρ x (by simp)))
 case nilCheck x=>
  have hx:=hρ x (by simp);show aj P φ zl (execOp ρ ⟨dst, .nilCheck x,type,pos,after,guard⟩) (execOp ρ' ⟨dst, .nilCheck x,type,pos,after,guard⟩)
  simp only[execOp];generalize ρ x=u at *;generalize ρ' x=u' at *;cases hx with
  |ptr hb=>exact aj.ret fun _ hl=> .ptr (hl _ _ hb)
  |sc hs=>cases u<;>first|(cases hok;done)|(rename_i a;cases a<;>first|(cases hok;done)|(simp[dH] at hs;done))
  |_=>cases hok
 case binOp op t x y yt=>
  have hx:=hρ x (by simp);have hy:=hρ y (by simp);cases op<;>first|(cases hok;done)|skip
  ·have hok':=Fa hok hx hy;refine aj.value ?_;rw[qY hok,qY hok',binOp_eql hok,binOp_eql hok'];exact agF
  ·have hok':=Fa hok hx hy;refine aj.value ?_;rw[qY hok,qY hok',binOp_neq hok,binOp_neq hok'];exact agF
 case makeFunc fn first captured=>
  cases fn<;>first|(cases hok;done)|skip
  rename_i f;refine aj.value (aj.ret fun ψ hl=> ?_);have h1:bu φ (first.map ρ) (first.map ρ'):=bu.mapOf fun x hx=>hρ x (by simp[hx]);have h2:bu φ (captured.map ρ) (captured.map ρ'):=bu.mapOf fun x hx=>hρ x (by simp[hx]);have h1':=h1.mono hl;have h2':=h2.mono hl;exact .func (fun l=>by simp) h1'.1 h2'.1 h1'.2 h2'.2
 case makeSlice t l c=>
  refine aj.value (F6 ?_ (hρ l (by simp)) (hρ c (by simp)));intro e he;simpa[zR,he] using hok
 case slice t x lo hi mx=>
  cases mx with
  |some m=>cases hok
  |none=>
   simp only[Bool.and_eq_true] at hok;refine aj.value (NS hok.2 ?_ (hρ x (by simp)) ?_ ?_)
   ·intro n e he;simp[Tg,he] at hok
   ·cases lo with
    |none=>exact .inl ⟨rfl,rfl⟩
    |some l=>exact .inr ⟨_,_,rfl,rfl,hρ l (by simp)⟩
   ·cases hi with
    |none=>exact .inl ⟨rfl,rfl⟩
    |some l=>exact .inr ⟨_,_,rfl,rfl,hρ l (by simp)⟩
 case fieldAddr s x f=>
  refine aj.value (Kb ?_ (hρ x (by simp)));intro fs fd i h1 h2 h3;simpa[KQ,h1,h2,h3] using hok
 case field t x f=>exact aj.value (NW (hρ x (by simp)))
 case indexAddr t x i=>exact aj.value (J9 (hρ x (by simp)) (hρ i (by simp)))
 case index t x i=>exact aj.value (NV (hρ x (by simp)) (hρ i (by simp)))
 case extract x i=>exact aj.value (Kc (hρ x (by simp)))
 case call c=>
  obtain⟨callee,args,ats⟩:=c;cases callee with
  |value f=>
   have hf:=hρ f (by simp[Call.operands]);have ha:bu φ (args.map ρ) (args.map ρ'):=bu.mapOf fun x hx=>hρ x (by simp[Call.operands,hx]);exact QY hok hf ha
  |invoke r m=>cases hok
  |builtin b=>
   have ha:bu φ (args.map ρ) (args.map ρ'):=bu.mapOf fun x hx=>hρ x (by simp[Call.operands,hx]);cases b<;>first|(cases hok;done)|skip
   case append=>exact aj.value (QT hok ha)
   case len=>exact aj.value (UI ha)
   case copy=>exact aj.value (QX ha)
end
end Ck

/- The checker's append, where there is no room. -/
namespace Ck
open Go
section
variable {P:Program} {φ:bq}
/-- A slice that grows: in a world it may grow where it is, or elsewhere; the checker's grows elsewhere, and what it was is gone. -/
def Rt:Value→Option Nat
 | .slice _ n _=>some n
 | .string s=>some s.size
 |_=>none
def xw (d:TypeDesc) (x:Value) (size:Nat):Bool:=
 match d,x with
 | .slice _, .slice .. =>true
 | .string, .string _=>size == 1
 |_,_=>false
structure JW where
 elem:TypeId
 i:TypeInfo
 k:Nat
def I4 (P:Program) (sT xT:TypeId) (n c:Nat) (x:Value):Option JW:=
 match P.underlying sT,P.underlying xT,Rt x with
 |some (.slice elem),some d,some k=>
  match P.info? elem with
  |some i=>
   match i.zero with
   |some z=>if xw d x i.size&&decide (c<n+k)&&decide (n≤c)&&decide (n+k≤1000)&&fF z&&z.cells.size == i.size&&i.size != 0&&decide (i.bytes≤4096) then some ⟨elem,i,k⟩ else none
   |none=>none
  |none=>none
 |_,_,_=>none
def K8 (n c:Nat) (elem:TypeId) (size:Nat) (b:Addr) (σ:St):Option (Array Value×St):=
 if b.off=0&&b.spot.isNone&&decide (b.block<σ.next) then
  match σ.m b.block with
  |some (.cells cs T kk)=>
   if T == elem&&cs.size == c*size&&cs.all (·.oneCell') then
    if kk=0 then some (cs.extract 0 (n*size),σ.read b.block)
    else if kk=size then some (cs.extract 0 (n*size),σ.write b.block none) else none
   else none
  |_=>none
 else none
def Gt (P:Program) (ats:Array TypeId) (args:Array Value) (σ:St):Option (Value×St):=
 match ats.toList,args.toList with
 |[sT,xT],[.slice base n c,x]=>
  match I4 P sT xT n c x with
  |some g=>
   match bW P (Builtin.firstCells g.i.size g.k x) σ with
   |some [new]=>
    if new.1.all (·.oneCell')&&new.1.size == g.k*g.i.size then
     match (match base with|none=>if n=0 then some (#[],new.2) else none|some b=>K8 n c g.elem g.i.size b new.2) with
     |some (old,τ)=>some (.slice (some ⟨τ.next,0,none⟩) (n+g.k) (n+g.k),τ.grow (.cells (old++new.1) g.elem g.i.size))
     |none=>none
    else none
   |_=>none
  |none=>none
 |_,_=>none
def I1 (P:Program) (ρ:Operand→Value) (o:Oper) (σ:St):Option (Value×St):=
 match o.op with
 | .call {callee:= .builtin .append,args,argTypes}=>Gt P argTypes (args.map ρ) σ
 |_=>none
/-- A run that reads alone. -/
structure Reads (σ τ:St):Prop where
 mem:τ.mem=σ.mem
 next:τ.next=σ.next
 wr:τ.wr=σ.wr
 rd:∀b,σ.rd.testBit b=true→τ.rd.testBit b=true
theorem Reads.refl (σ:St):Reads σ σ:=⟨rfl,rfl,rfl,fun _ h=>h⟩
theorem Reads.trans {σ τ υ:St} (h:Reads σ τ) (k:Reads τ υ):Reads σ υ:=⟨k.mem.trans h.mem,k.next.trans h.next,k.wr.trans h.wr,fun b hb=>k.rd b (h.rd b hb)⟩
theorem Reads.read (σ:St) (b:Nat):Reads σ (σ.read b):=⟨rfl,rfl,rfl,fun _ h=>eX.2 (.inl h)⟩
theorem Reads.prop {σ τ:St} (h:Reads σ τ):bn σ τ:=⟨by rw[h.next];exact Nat.le_refl _,h.rd,fun b hb=>by rw[h.wr];exact hb,fun b hb=> .inl (by rw[←h.wr];exact hb),fun b _ _=>by simp[St.m,h.mem],fun b _ hd=>by simpa[St.m,h.mem] using hd⟩
theorem Agree.reads {L:Nat→Option cz} {σ τ υ:St} (h:Reads σ τ) (ha:Agree L σ υ):Agree L τ υ:=fun b hb hn=>by
 have:=ha b hb (by rw[←h.next];exact hn);rw[this];simp[St.m,h.mem]
theorem Good.block {L:Nat→Option cz} {w:World} (hg:Good φ L w) {b r e:Nat} {c:Array Value} (hL:L b=some (.mM c)∨∃T k,L b=some (.cells c T k)) (hp:φ b=some (r,e)):
  ∃c' T fz,w.heap[r]?=some (.cells c' T fz)∧∀(i:Nat) v,c[i]?=some v→∃v',c'[i]?=some v'∧aC φ v v':=by
 rcases hL with hm|⟨T,k,hm⟩
 ·obtain⟨r',e',ob,hp',hh,ho⟩:=hg.obj _ _ hm;rw[hp] at hp';cases hp';cases ob<;>first|exact ho.elim|skip
  exact⟨_,_,_,hh,fun i v hv=>ho.2.get hv⟩
 ·obtain⟨c',hh,hsz,_,hrel⟩:=hg.cells hm hp;refine⟨c',T,_,hh,fun i v hv=> ?_⟩;have hi:i<c.size:=(Array.getElem?_eq_some_iff.1 hv).1;have hi':i<c'.size:=by omega
  exact⟨c'[i],Array.getElem?_eq_getElem hi',hrel _ _ _ hv (Array.getElem?_eq_getElem hi')⟩
theorem Ik (a:Addr) (n:Nat):∀(i:Nat) (acc:Array Value) (σ:St) (outs:List (Array Value×St)),bW P (loadCellsFrom a i n acc) σ=some outs→
  ∃(vs:List Value) (τ:St),outs=[(acc++vs.toArray,τ)]∧Reads σ τ∧vs.length=n∧(∀j v,vs[j]?=some v→σ.look (a.add (i+j))=some v)∧(0<n→τ.rd.testBit a.block=true):=by
 induction n with
 |zero=>
  intro i acc σ outs h;cases h;exact⟨[],σ,by simp, .refl σ,rfl,fun j v h=>by simp at h,fun h=>by omega⟩
 |succ n ih=>
  intro i acc σ outs h;unfold loadCellsFrom at h;replace h:bW P (Sem.load .plain (a.add i) fun v=>loadCellsFrom a (i+1) n (acc.push v)) σ=some outs:=h;simp only[bW] at h;split at h
  ·rename_i v hv;obtain⟨vs,τ,rfl,hr,hl,xI,_⟩:=ih _ _ _ _ h;have hbl:(a.add i).block=a.block:=by unfold Addr.add;split<;>rfl
   refine⟨v::vs,τ,by simp,(Reads.read σ _).trans hr,by simp[hl],fun j u hj=> ?_,fun _=>hr.rd _ (eX.2 (.inr hbl))⟩;cases j with
   |zero=>simp at hj;subst hj;exact hv
   |succ j=>
    have h2:=xI j u (by simpa using hj);have e:i+1+j=i+(j+1):=by omega
    rw[e] at h2;exact h2
  ·cases h
/-- Cells that the checker reads stand in the world, too. -/
theorem aoG {P:Prop} (h:P:=by
 obtain⟨v',hv',_⟩:=MN Ad.length _ (List.getElem?_eq_getElem (by simp));have:=(Array.getElem?_eq_some_iff.1 hv').1;simp;omega):P:=h
theorem Q9 {L:Nat→Option cz} {w:World} {a a':Addr} {σ:St} {vs:List Value} (ha:kX φ a a') (hg:Good φ L w) (xI:∀j v,vs[j]?=some v→σ.look (a.add j)=some v)
  (hL:vs≠[]→L a.block=σ.m a.block):∃us:List Value,us.length=vs.length∧gT φ vs us∧∀j u,us[j]?=some u→w.cell? (a'.add j)=some u:=by
 cases vs with
 |nil=>exact⟨[],rfl, .nil φ,fun j u h=>by simp at h⟩
 |cons v0 Ad=>
  have h0:=xI 0 v0 rfl;obtain⟨hs,hb,c,hm,hcv⟩:=uL h0;have hz:a.add 0=a:=by simp[Addr.add]
  rw[hz] at hm hcv;have O6:=hL (by simp);obtain⟨e,hp⟩:=ha.2.2.2;obtain⟨c',T,fz,hh,hrel⟩:=hg.block (hm.imp (fun h=>O6.trans h) fun⟨T,k,h⟩=>⟨T,k,O6.trans h⟩) hp
  have hoff:∀(x:Addr),x.spot=none→∀j,(x.add j).off=x.off+j∧(x.add j).block=x.block∧(x.add j).spot=none:=fun x hx j=>by
   unfold Addr.add;split
   ·rename_i h;subst h;exact⟨rfl,rfl,hx⟩
   ·exact⟨rfl,rfl,rfl⟩
  have hloc:∀j v,(v0::Ad)[j]?=some v→c[a.off+j]?=some v:=fun j v hj=>by
   obtain⟨_,_,c2,hm2,hc2⟩:=uL (xI j v hj);rw[(hoff a ha.1 j).2.1] at hm2;rw[(hoff a ha.1 j).1] at hc2
   have:c2=c:=by
    rcases hm with hm|⟨_,_,hm⟩<;>rcases hm2 with hm2|⟨_,_,hm2⟩<;>rw[hm] at hm2<;>cases hm2<;>rfl
   rw[this] at hc2;exact hc2
  have MN:∀j v,(v0::Ad)[j]?=some v→∃v',c'[a.off+j]?=some v'∧aC φ v v':=fun j v hj=>hrel _ _ (hloc j v hj)
  have hget:∀j,j<(v0::Ad).length→((c'.toList.drop a.off).take (v0::Ad).length)[j]?=c'[a.off+j]?:=fun j hj=>by
   rw[List.getElem?_take,if_pos hj,List.getElem?_drop,Array.getElem?_toList]
  refine⟨(c'.toList.drop a.off).take (v0::Ad).length,?_,⟨?_,fun j v v' hv hv'=> ?_⟩,fun j u hu=> ?_⟩
  ·exact aoG
  ·exact aoG
  ·have hj:j<(v0::Ad).length:=(List.getElem?_eq_some_iff.1 hv).1;obtain⟨u,hu,hr⟩:=MN j v hv;rw[hget j hj,hu] at hv';cases hv';exact hr
  ·have hj:j<(v0::Ad).length:=by
    have:=(List.getElem?_eq_some_iff.1 hu).1;simp at this⊢;omega
   rw[hget j hj] at hu;unfold World.cell?;rw[(hoff a' ha.2.1 j).2.1,hh,(hoff a' ha.2.1 j).1,(hoff a' ha.2.1 j).2.2,ha.2.2.1];simpa using hu
theorem Kl {v v':Value} (h:aC φ v v') (h1:v.oneCell'=true):v'.oneCell'=true:=by
 cases h<;>first|exact h1|rfl
theorem gT.one {l m:List Value} (h:gT φ l m) (h1:∀v∈l,v.oneCell'=true):∀u∈m,u.oneCell'=true:=fun u hu=>by
 obtain⟨i,hi,rfl⟩:=List.getElem_of_mem hu;have hl:i<l.length:=by rw[←h.1];exact hi
 exact Kl (h.2 i l[i] m[i] (List.getElem?_eq_getElem hl) (List.getElem?_eq_getElem hi)) (h1 _ (List.getElem_mem hl))
theorem yh (b:Nat):∀(vs:List Value) (o:Nat) (w:World) (c:Array Value) (T:TypeId),w.heap[b]?=some (.cells c T (0,0))→o+vs.length≤c.size→
  ∃c':Array Value,c'.size=c.size∧(∀i,i<o∨o+vs.length≤i→c'[i]?=c[i]?)∧(∀i,i<vs.length→c'[o+i]?=vs[i]?)∧
   (∀j,(w.setCells b o vs).heap[j]?=if b=j then some (.cells c' T (0,0)) else w.heap[j]?)∧(w.setCells b o vs).heap.size=w.heap.size∧
   (w.setCells b o vs).os=w.os∧(w.setCells b o vs).tape=w.tape∧(w.setCells b o vs).output=w.output
 |[],o,w,c,T,hb,ho=>⟨c,rfl,fun _ _=>rfl,fun i hi=>by simp at hi,fun j=>by
    simp only[World.setCells];split
    ·rename_i h;rw[←h,hb]
    ·rfl,rfl,rfl,rfl,rfl⟩
 |v::vs,o,w,c,T,hb,ho=>by
  simp at ho
  have hb':(w.setCell ⟨b,o,none⟩ v).heap[b]?=some (.cells (c.setIfInBounds o v) T (0,0)):=by
   unfold World.setCell;simp[Array.getElem?_modify,hb]
  have hne:∀j,b≠j→(w.setCell ⟨b,o,none⟩ v).heap[j]?=w.heap[j]?:=fun j hj=>by
   unfold World.setCell;simp[Array.getElem?_modify,hj]
  obtain⟨c',h1,h2,h3,h4,h5,h6,h7,h8⟩:=yh b vs (o+1) (w.setCell ⟨b,o,none⟩ v) (c.setIfInBounds o v) T hb' (by simp;omega);refine⟨c',by simpa using h1,fun i hi=> ?_,fun i hi=> ?_,fun j=> ?_,?_,h6,h7,h8⟩
  ·rw[h2 i (by simp at hi;omega),Array.getElem?_setIfInBounds_ne (by simp at hi;omega)]
  ·cases i with
   |zero=>rw[Nat.add_zero,h2 o (by omega),Array.getElem?_setIfInBounds_self_of_lt (by omega)];simp
   |succ i=>
    have:=h3 i (by simp at hi;omega);rw[show o+(i+1)=o+1+i by omega,this];simp
  ·simp only[World.setCells];rw[h4 j];split
   ·rfl
   ·rename_i h;exact hne j h
  ·simp only[World.setCells];rw[h5];simp[World.setCell]
theorem Fz (newLen:Nat):∀r c,c≤newLen+newLen/4+192→Builtin.growBy newLen r c≤newLen+newLen/4+192
 |0,c,h=>h
 |r+1,c,h=>by
  unfold Builtin.growBy;split
  ·exact h
  ·exact Fz newLen r _ (by omega)
theorem XM {need old:Nat} (h:old<need):Builtin.nextslicecap need old≤2*need+192:=by
 unfold Builtin.nextslicecap;split
 ·omega
 ·split
  ·omega
  ·have:=Fz need 4 old (by omega);omega
theorem Kq {sT xT:TypeId} {n c:Nat} {x:Value} {g:JW} (h:I4 P sT xT n c x=some g):
  P.underlying sT=some (.slice g.elem)∧(∃d,P.underlying xT=some d∧xw d x g.i.size=true)∧Rt x=some g.k∧P.info? g.elem=some g.i∧
    (∃z,g.i.zero=some z∧fF z=true∧z.cells.size=g.i.size)∧c<n+g.k∧n≤c∧n+g.k≤1000∧g.i.size≠0∧g.i.bytes≤4096:=by
 unfold I4 at h;split at h
 ·rename_i elem d k h1 h2 h3;split at h
  ·rename_i i hi;split at h
   ·rename_i z hz;split at h
    ·rename_i hc;cases h;simp only[Bool.and_eq_true,decide_eq_true_eq,beq_iff_eq,bne_iff_ne,ne_eq] at hc;obtain⟨⟨⟨⟨⟨⟨⟨c1,c2⟩,c3⟩,c4⟩,c5⟩,c6⟩,c7⟩,c8⟩:=hc;exact⟨h1,⟨d,h2,c1⟩,h3,hi,⟨z,hz,c5,c6⟩,c2,c3,c4,c7,c8⟩
    ·cases h
   ·cases h
  ·cases h
 ·cases h
theorem AL {x x':Value} {σ:St} {new:Array Value×St} {size k:Nat} {xT:TypeId} {d:TypeDesc} (hx:aC φ x x') (hl:bW P (Builtin.firstCells size k x) σ=some [new]) (hd:P.underlying xT=some d)
  (hs:xw d x size=true) (hk:Rt x=some k) (hz:new.1.size=k*size) (h1:∀v∈new.1,v.oneCell'=true):Reads σ new.2∧
  ∀(υ:St) (L:Nat→Option cz) (w:World),bn new.2 υ→Agree L σ υ→Good φ L w→∃news:List Value,Src P size xT x' k news w∧gT φ new.1.toList news:=by
 cases x<;>first|(cases d<;>(simp[xw] at hs;done))|skip
 case string s=>
  cases d<;>first|(simp[xw] at hs;done)|skip
  simp only[xw,beq_iff_eq] at hs;subst hs;cases hk;have hx':x'= .string s:=aC.yn rfl hx;subst hx';have hp:Builtin.firstCells 1 s.size (.string s)=Sem.pure (((s.extract 0 s.size).data.map fun b=>Value.int .u8 b.toNat)):=rfl;rw[hp] at hl;cases hl;refine⟨.refl σ,fun υ L w _ _ _=>⟨byteCells s,Src.ofString w hd s,?_⟩⟩;have hr:=firstCells_string (P:=P) s w;rw[hp] at hr;simp only[Sem.run,Result.ok.injEq,and_true] at hr;rw[hr];refine⟨rfl,fun i v v' hv hv'=> ?_⟩;rw[hv'] at hv;cases hv;have hm:=List.mem_of_getElem? hv';unfold byteCells at hm;obtain⟨_,_,rfl⟩:=List.mem_map.1 hm;exact .sc rfl
 case slice a m c=>
  cases d<;>first|(simp[xw] at hs;done)|skip
  rename_i e';cases hk;cases a with
  |none=>
   have hp:Builtin.firstCells size k (.slice none k c)=Sem.pure #[]:=rfl;rw[hp] at hl;cases hl;have hx':x'= .slice none k c:=aC.yn rfl hx;subst hx';refine⟨.refl σ,fun υ L w _ _ _=>⟨[],?_, .nil φ⟩⟩;have hk0:0=k*size:=by simpa using hz
   exact⟨.inl ⟨e',hd⟩,fun _=>rfl,rfl,rfl,by simpa using hk0,fun u hu=>by cases hu⟩
  |some a=>
   have hp:Builtin.firstCells size k (.slice (some a) k c)=loadCellsFrom a 0 (k*size) #[]:=rfl;rw[hp] at hl;obtain⟨vs,τ,ho,hr,hlen,xI,hbit⟩:=Ik a (k*size) 0 #[] σ _ hl;simp only[List.cons.injEq,and_true] at ho;subst ho;refine⟨hr,fun υ L w hpr hag hg=> ?_⟩;cases hx with
   |sc h0=>simp[dH] at h0
   |slice hb=>
    rename_i b b' e off;have hz0:∀(x:Addr) j,x.add (0+j)=x.add j:=fun x j=>by rw[Nat.zero_add]
    have IZ:vs≠[]→L b=σ.m b:=fun hne=>by
     have hpos:0<k*size:=by rw[←hlen];exact List.length_pos_iff.2 hne
     have hb0:=xI 0 _ (List.getElem?_eq_getElem (List.length_pos_iff.2 hne));obtain⟨_,hbn,_⟩:=uL hb0;have hbl:(Addr.add ⟨b,off,none⟩ (0+0)).block=b:=rfl;rw[hbl] at hbn;exact hag b (.inl (hpr.rd b (hbit hpos))) hbn
    obtain⟨us,hul,hrel,hcell⟩:=Q9 (w:=w) (L:=L) (σ:=σ) (vs:=vs) (kX.of hb) hg (fun j v hj=>by rw[←hz0];exact xI j v hj) IZ;refine⟨us,Src.ofSlice w hd _ k _ us (by rw[hul,hlen]) hcell ?_,by simpa using hrel⟩;exact hrel.one fun v hv=>h1 v (by simpa using hv)
theorem EN {x:Value} {σ:St} {new:Array Value×St} {size k:Nat} (hl:bW P (Builtin.firstCells size k x) σ=some [new]):Reads σ new.2:=by
 cases x<;>first|(cases hl;done)|skip
 case string s=> 
  replace hl:bW P (Sem.pure _) σ=some [new]:=hl;cases hl;exact .refl σ
 case slice a m c=>
  cases a with
  |none=>
   replace hl:bW P (Sem.pure _) σ=some [new]:=hl;cases hl;exact .refl σ
  |some a=>
   obtain⟨vs,τ,ho,hr,_⟩:=Ik a (k*size) 0 #[] σ _ (show bW P (loadCellsFrom a 0 (k*size) #[]) σ=some [new] from hl);simp only[List.cons.injEq,and_true] at ho;subst ho;exact hr
/-- A block of the checker's is gone. -/
theorem QW {L:Nat→Option cz} {w:World} {σ:St} {b:Nat} (hg:Good φ L w) (hw:WF σ) (_hb:b<σ.next) (_hlive:L b≠none) (ha:Agree L σ (σ.write b none)) (hnr:∀c,L b≠some (.mM c)):
  Step σ (σ.write b none) φ φ L (fun c=>if b=c then none else L c) w w where
 g:={
  le:= .refl φ
  new:=fun c h h'=>absurd h h'
  good:=by
   refine⟨fun c x hx=> ?_,fun c d hc hd r' e1 e2 h1 h2=> ?_⟩
   ·split at hx
    ·cases hx
    ·exact hg.obj c x hx
   ·have conv:∀x,(if b=x then none else L x)≠none→L x≠none:=fun x hx=>by
     split at hx
     ·exact absurd rfl hx
     ·exact hx
    exact hg.inj c d (conv c hc) (conv d hd) r' e1 e2 h1 h2
  stay:=fun c hc _=>by
   have:b≠c:=fun h=>hc (eX.2 (.inr h));simp[this]
  dead:=fun c _ hd=>by split<;>first|rfl|exact hd
  size:=Nat.le_refl _
  frame:=fun j _ _=>rfl
  fresh:=fun c h1=>by simp[St.N,St.write] at h1;omega
  kept:=⟨rfl,rfl,rfl⟩
  mM:=fun c x hx=>by
   have:b≠c:=fun h=>hnr x (h▸hx);simp[this,hx]}
 here:=fun c hc=>by
  rcases hc with hc|hc
  ·simp only[St.m,St.write,Tree.jG];split
   ·rfl
   ·rename_i hbc;have hc2:=eX.1 hc;rcases hc2 with hc2|hc2
    ·exact ha c (.inr (eX.2 (.inl hc2))) (hw.wr c hc2)
    ·exact absurd hc2 hbc
  ·simp[St.N,St.write] at hc;omega
theorem Good.lt {L:Nat→Option cz} {w:World} (hg:Good φ L w) {x:Nat} (hx:L x≠none) {r e:Nat} (hp:φ x=some (r,e)):r<w.heap.size:=by
 obtain⟨o',ho'⟩:=Option.ne_none_iff_exists'.1 hx;obtain⟨r',e',ob',h1,h2,_⟩:=hg.obj x o' ho';rw[hp] at h1;cases h1;exact(Array.getElem?_eq_some_iff.1 h2).1
/-- A new block. -/
theorem aoH {P:Prop} (h:P:=by
 rw[hN];by_cases hb:σ.next=b
 ·exact hb
 ·simp[hb] at h2;exact absurd h1 h2):P:=h
theorem AR {L:Nat→Option cz} {w w':World} {σ:St} {o:cz} {ob:Obj} {e:Nat} (hg:Good φ L w) (hw:WF σ) (ha:Agree L σ (σ.grow o)) (hc:Clear φ L σ (σ.grow o))
  (ho:∀ψ,Le φ ψ→vJ ψ e o ob) (hh:∀j,w'.heap[j]?=if w.heap.size=j then some ob else w.heap[j]?) (hs:w.heap.size≤w'.heap.size)
  (hk:w'.os=w.os∧w'.tape=w.tape∧w'.output=w.output):
  Step σ (σ.grow o) φ (fun c=>if σ.next=c then some (w.heap.size,e) else φ c) L (fun c=>if σ.next=c then some o else L c) w w':=by
 have hcl:=hc σ.next (Nat.le_refl _) (by simp[St.grow])
 have hle:Le φ (fun c=>if σ.next=c then some (w.heap.size,e) else φ c):=fun b x hx=>by
  have:σ.next≠b:=fun h=>by rw[←h,hcl.1] at hx;cases hx
  simp[this,hx]
 have hN:∀c,St.N σ (σ.grow o) c↔σ.next=c:=fun c=>by simp[St.N,St.grow];omega
 refine⟨⟨hle,fun b h1 h2=> ?_,?_,fun c h1 h2=> ?_,fun c h1 h2=> ?_,hs,fun r hr _=> ?_,fun b h1 _ r e hp=> ?_,hk,fun b c hb=> ?_⟩,fun c hc'=> ?_⟩
 ·exact aoH
 ·refine⟨fun c x hx=> ?_,fun c d h1 h2 r e1 e2 h3 h4=> ?_⟩
  ·split at hx
   ·rename_i h;subst h;cases hx;exact⟨w.heap.size,e,ob,by simp,by rw[hh];simp,ho _ hle⟩
   ·rename_i h;obtain⟨r,e,ob',h1,h2,h3⟩:=hg.obj c x hx;have hlt:r<w.heap.size:=(Array.getElem?_eq_some_iff.1 h2).1;refine⟨r,e,ob',hle _ _ h1,?_,h3.mono hle⟩;rw[hh,if_neg (by omega)];exact h2
  ·by_cases hc1:σ.next=c
   ·by_cases hd1:σ.next=d
    ·omega
    ·rw[if_pos hc1] at h3;rw[if_neg hd1] at h2 h4;cases h3;have:=hg.lt h2 h4;omega
   ·by_cases hd1:σ.next=d
    ·rw[if_neg hc1] at h1 h3;rw[if_pos hd1] at h4;cases h4;have:=hg.lt h1 h3;omega
    ·rw[if_neg hc1] at h1 h3;rw[if_neg hd1] at h2 h4;exact hg.inj c d h1 h2 r e1 e2 h3 h4
 ·rw[hN] at h2;simp[h2]
 ·rw[hN] at h1;simp[h1,h2]
 ·rw[hh,if_neg (by omega)]
 ·rw[hN] at h1;simp[h1] at hp;exact .inl (by omega)
 ·have:σ.next≠b:=fun h=>by rw[←h,hcl.2] at hb;cases hb
  simp[this,hb]
 ·simp only[St.m,St.grow,Tree.jG];split
  ·rfl
  ·rename_i h;rcases hc' with hc'|hc'
   ·exact ha c (.inr hc') (hw.wr c hc')
   ·rw[hN] at hc';exact absurd hc' h
/-- A block takes another one's place. -/
theorem QS {L:Nat→Option cz} {w w':World} {σ:St} {b r e e':Nat} {o:cz} {ob:Obj} (hg:Good φ L w) (hw:WF σ) (hb:b<σ.next) (hp:φ b=some (r,e)) (hlive:L b≠none)
  (ha:Agree L σ ((σ.write b none).grow o)) (hc:Clear φ L σ ((σ.write b none).grow o)) (ho:∀ψ,Le φ ψ→vJ ψ e' o ob) (hh:∀j,w'.heap[j]?=if r=j then some ob else w.heap[j]?)
  (hs:w'.heap.size=w.heap.size) (hk:w'.os=w.os∧w'.tape=w.tape∧w'.output=w.output) (hnr:∀c,L b≠some (.mM c)):
  Step σ ((σ.write b none).grow o) φ (fun c=>if σ.next=c then some (r,e') else φ c) L (fun c=>if σ.next=c then some o else if b=c then none else L c) w w':=by
 have hnx:(σ.write b none).next=σ.next:=rfl;have hcl:=hc σ.next (Nat.le_refl _) (by simp[St.grow,St.write])
 have hle:Le φ (fun c=>if σ.next=c then some (r,e') else φ c):=fun b x hx=>by
  have:σ.next≠b:=fun h=>by rw[←h,hcl.1] at hx;cases hx
  simp[this,hx]
 have hN:∀c,St.N σ ((σ.write b none).grow o) c↔σ.next=c:=fun c=>by simp[St.N,St.grow,St.write];omega
 have Xc:((σ.write b none).grow o).W b:=eX.2 (.inr rfl);have hr:=hg.lt hlive hp;have hbn:σ.next≠b:=by omega
 refine⟨⟨hle,fun b h1 h2=> ?_,?_,fun c h1 h2=> ?_,fun c h1 h2=> ?_,by omega,fun j hj hno=> ?_,fun c h1 _ r1 e1 hp1=> ?_,hk,fun c x hx=> ?_⟩,fun c hc'=> ?_⟩
 ·exact aoH
 ·have live:∀c,σ.next≠c→(if σ.next=c then some o else if b=c then none else L c)≠none→b≠c∧L c≠none:=fun c hcn h=>by
   rw[if_neg hcn] at h;by_cases hbc:b=c
   ·rw[if_pos hbc] at h;exact absurd rfl h
   ·rw[if_neg hbc] at h;exact⟨hbc,h⟩
  refine⟨fun c x hx=> ?_,fun c d h1 h2 r1 e1 e2 h3 h4=> ?_⟩
  ·by_cases hcn:σ.next=c
   ·rw[if_pos hcn] at hx;cases hx;exact⟨r,e',ob,by simp[hcn],by rw[hh];simp,ho _ hle⟩
   ·have hl:=live c hcn (by rw[hx];simp);rw[if_neg hcn,if_neg hl.1] at hx;obtain⟨r1,e1,ob',h1,h2,h3⟩:=hg.obj c x hx;refine⟨r1,e1,ob',hle _ _ h1,?_,h3.mono hle⟩;rw[hh,if_neg (fun h:r=r1=>hl.1 (hg.inj b c hlive hl.2 r e e1 hp (by rw[h];exact h1)))];exact h2
  ·by_cases hc1:σ.next=c
   ·by_cases hd1:σ.next=d
    ·omega
    ·have hl:=live d hd1 h2;rw[if_pos hc1] at h3;rw[if_neg hd1] at h4;cases h3;exact absurd (hg.inj b d hlive hl.2 r e e2 hp h4) hl.1
   ·by_cases hd1:σ.next=d
    ·have hl:=live c hc1 h1;rw[if_neg hc1] at h3;rw[if_pos hd1] at h4;cases h4;exact absurd (hg.inj b c hlive hl.2 r e e1 hp h3) hl.1
    ·have l1:=live c hc1 h1;have l2:=live d hd1 h2;rw[if_neg hc1] at h3;rw[if_neg hd1] at h4;exact hg.inj c d l1.2 l2.2 r1 e1 e2 h3 h4
 ·have h3:b≠c:=fun h=>h1 (h▸Xc);rw[hN] at h2;simp[h2,h3]
 ·rw[hN] at h1;simp[h1,h2]
 ·rw[hh];split
  ·rename_i h;exact absurd (h▸hp) (hno b e hlive Xc)
  ·rfl
 ·rw[hN] at h1;simp only[h1,if_true,Option.some.injEq,Prod.mk.injEq] at hp1;refine .inr ⟨b,?_,hlive,Xc,e,by rw[hp,hp1.1]⟩;rw[hN];exact hbn
 ·have h3:σ.next≠c:=fun h=>by rw[←h,hcl.2] at hx;cases hx
  have h4:b≠c:=fun h=>hnr x (h▸hx);simp[h3,h4,hx]
 ·simp only[St.m,St.grow,St.write,Tree.jG];split
  ·rfl
  ·rename_i h;split
   ·rfl
   ·rename_i hbc;rcases hc' with hc'|hc'
    ·have hc2:=eX.1 (show(σ.wr|||2^b).testBit c=true from hc');rcases hc2 with hc2|hc2
     ·exact ha c (.inr (show((σ.wr|||2^b).testBit c=true) from eX.2 (.inl hc2))) (hw.wr c hc2)
     ·exact absurd hc2 hbc
    ·rw[hN] at hc';exact absurd hc' h
theorem H7 {need old bytes:Nat} (h:old<need) (hn:need≤1000) (hb:bytes≤4096):Builtin.nextslicecap need old*bytes≤281474976710656:=by
 have h1:=XM h;have h2:Builtin.nextslicecap need old≤2192:=by omega
 have h3:=Nat.mul_le_mul h2 hb;omega
/-- A new row in a world: the elements, and room behind them. -/
theorem AY {sT xT ty:TypeId} {g:JW} {z:Value} {base:Option Addr} {n c:Nat} {x:Value} {olds news:List Value} {w:World} (Fp:P.underlying sT=some (.slice g.elem)) (hi:P.info? g.elem=some g.i) (hz:g.i.zero=some z)
  (hzs:z.cells.size=g.i.size) (hold:(Builtin.firstCells g.i.size n (.slice base n c)).run P w.drew= .ok olds.toArray w.drew) (hol:olds.length=n*g.i.size) (hs:Src P g.i.size xT x g.k news w) (hg:c<n+g.k)
  (hn:n+g.k≤1000) (hb:g.i.bytes≤4096):
  ∃(cap:Nat) (cells:Array Value) (w':World),(Builtin.append_ #[sT,xT] ty #[.slice base n c,x]).run P w= .ok (.slice (some ⟨w.heap.size,0,none⟩) (n+g.k) (n+g.k+cap)) w'∧
   (∀j,w'.heap[j]?=if w.heap.size=j then some (.cells cells g.elem (0,0)) else w.heap[j]?)∧w.heap.size≤w'.heap.size∧(w'.os=w.os∧w'.tape=w.tape∧w'.output=w.output)∧
   cells.size=(n+g.k)*g.i.size+cap*g.i.size∧∀i,i<(n+g.k)*g.i.size→cells[i]?=(olds++news)[i]?:=by
 have hrun:=run_append_grow_src (P:=P) w sT xT ty g.elem g.i z Fp hi hz base n c olds hold x g.k news hs hg (by omega) (H7 hg hn hb);have hge:=grownCap_ge w (n+g.k) c g.elem;have hlen:(olds++news).length=(n+g.k)*g.i.size:=by rw[List.length_append,hol,hs.newsLen,Nat.add_mul]
 refine⟨grownCap w (n+g.k) c g.elem-(n+g.k),(olds++news).toArray++Builtin.zeroCells z.cells (grownCap w (n+g.k) c g.elem-(n+g.k)),w.drew.alloc (.cells ((olds++news).toArray++Builtin.zeroCells z.cells (grownCap w (n+g.k) c g.elem-(n+g.k))) g.elem),by rw[hrun,show n+g.k+(grownCap w (n+g.k) c g.elem-(n+g.k))=grownCap w (n+g.k) c g.elem by omega],fun j=> ?_,(by show w.heap.size≤(w.heap.push _).size;rw[Array.size_push];omega),⟨rfl,rfl,rfl⟩,?_,fun i hi=> ?_⟩
 ·show(w.heap.push _)[j]?=_
  rw[Array.getElem?_push];by_cases hj:w.heap.size=j
  ·simp[hj]
  ·have:¬j=w.heap.size:=fun h=>hj h.symm;simp[hj,this]
 ·rw[Array.size_append,List.size_toArray,hlen];simp[Builtin.zeroCells,hzs]
 ·rw[Array.getElem?_append_left (by rw[List.size_toArray,hlen];exact hi)];simp
/-- What is joined on both sides. -/
theorem joined {cs c' cells:Array Value} {new:Array Value} {news:List Value} {N M:Nat} (hn:N≤cs.size) (hn':N≤c'.size) (hrel:∀(i:Nat) v v',cs[i]?=some v→c'[i]?=some v'→aC φ v v') (hnr:gT φ new.toList news)
  {k:Nat} (hk:new.size=k) (hci:∀i,i<M→cells[i]?=(c'.toList.take N++news)[i]?) {i:Nat} {v v':Value} (hv:(cs.extract 0 N++new)[i]?=some v) (hv':cells[i]?=some v') (hM:M=N+k:=by rw[Nat.add_mul]):aC φ v v':=by
 have hi:i<N+k:=by
  have:=(Array.getElem?_eq_some_iff.1 hv).1;rw[Array.size_append,Array.size_extract] at this;omega
 rw[hci i (by omega)] at hv';have hes:(cs.extract 0 N).size=N:=by rw[Array.size_extract];omega
 have htl:(c'.toList.take N).length=N:=by simp;omega
 by_cases hin:i<N
 ·rw[Array.getElem?_append_left (by omega),Array.getElem?_extract] at hv;rw[List.getElem?_append_left (by omega),List.getElem?_take,if_pos hin,Array.getElem?_toList] at hv';split at hv
  ·rw[Nat.zero_add] at hv;exact hrel i v v' hv hv'
  ·cases hv
 ·rw[Array.getElem?_append_right (by omega),hes] at hv;rw[List.getElem?_append_right (by omega),htl] at hv';exact hnr.2 _ v v' (by simpa using hv) hv'
theorem MU {ats:Array TypeId} {args:Array Value} {σ:St} {r:Value×St} (h:Gt P ats args σ=some r) (ty:TypeId):bn σ r.2∧
  ∀φ args' L w,bu φ args args'→WF σ→Clear φ L σ r.2→Agree L σ r.2→Good φ L w→
   ∃v' w' φ' L',(Builtin.append_ ats ty args').run P w= .ok v' w'∧aC φ' r.1 v'∧Step σ r.2 φ φ' L L' w w':=by
 unfold Gt at h;split at h
 ·rename_i sT xT base n c x aas hargs;split at h
  ·rename_i g hg;obtain⟨Fp,⟨d,Iu,hsrc⟩,hlenx,hi,⟨z,hz,_,hzs⟩,hlt,hnc,hn,hs0,hb⟩:=Kq hg;split at h
   ·rename_i new hnew;split at h
    ·rename_i hone;simp only[Bool.and_eq_true,beq_iff_eq] at hone
     have MO:∀v∈new.1,v.oneCell'=true:=by
      have:=hone.1;rw[Array.all_eq_true_iff_forall_mem] at this;exact this
     have aaE:ats= #[sT,xT]:=by rw[←Array.toArray_toList (xs:=ats),aas]
     have args':args= #[.slice base n c,x]:=by rw[←Array.toArray_toList (xs:=args),hargs]
     subst aaE;subst args'
     have Q8:∀{φ:bq} {as:Array Value},bu φ #[.slice base n c,x] as→∃s' x',as= #[s',x']∧aC φ (.slice base n c) s'∧aC φ x x':=fun{φ as} ha=>by
      have hl:=ha.toList;obtain⟨s',m,hm,hv,hl2⟩:=gT.cons_inv hl;obtain⟨x',m',rfl,hv',hl3⟩:=gT.cons_inv hl2;have:=hl3.oU;subst this;exact⟨s',x',by rw[←Array.toArray_toList (xs:=as),hm],hv,hv'⟩
     cases base with
     |none=>
      simp only at h;split at h
      ·rename_i old τ hot;cases h;split at hot
       ·rename_i hn0;cases hot;subst hn0;have hrd:Reads σ new.2:=EN hnew;refine⟨hrd.prop.trans (bn.fA _ _),fun φ as L w ha hw hc hag hgood=> ?_⟩;obtain⟨s',x',rfl,hs',hx'⟩:=Q8 ha;have e1:s'= .slice none 0 c:=aC.yn rfl hs';subst e1;obtain⟨news,uN,hnr⟩:=(AL hx' hnew Iu hsrc hlenx hone.2 MO).2 _ L w (bn.fA _ _) hag hgood;obtain⟨cap,cells,w',hrun,hh,hsz,hk,hcs,hci⟩:=AY (ty:=ty) (base:=none) (olds:=[]) Fp hi hz hzs rfl (by simp) uN hlt hn hb;have CS:Good φ L w:=hgood
        have hstep:=AR (o:= .cells (#[]++new.1) g.elem g.i.size) (ob:= .cells cells g.elem (0,0)) (e:=cap) hgood (hrd.prop.wf hw) (hag.reads hrd) (fun b h1 h2=>hc b (by rw[←hrd.next];exact h1) h2)
         (fun ψ hψ=>⟨rfl,rfl,by rw[hcs];simp[hone.2],fun h=>absurd h hs0,fun i v v' hv hv'=> ?_⟩) hh hsz hk
        ·refine⟨_,w',_,_,hrun,?_,(Step.same hgood hw (hag.first (bn.fA _ _)) hrd.next hrd.mem hrd.wr rfl ⟨rfl,rfl,rfl⟩).trans hrd.prop (bn.fA _ _) hc hstep⟩;exact .slice (by simp)
        ·have hv2:new.1.toList[i]?=some v:=by simpa using hv
         have hi1:i<(0+g.k)*g.i.size:=by
          have:=(List.getElem?_eq_some_iff.1 hv2).1;rw[Nat.zero_add,←hone.2];simpa using this
         rw[hci i hi1] at hv';exact(hnr.2 i v v' hv2 (by simpa using hv')).mono hψ
       ·cases hot
      ·cases h
     |some b=>
      simp only at h;split at h
      ·rename_i old τ hot;cases h;have hrd:Reads σ new.2:=EN hnew;unfold K8 at hot;split at hot
       ·rename_i hb0;simp only[Bool.and_eq_true,decide_eq_true_eq,Option.isNone_iff_eq_none] at hb0;split at hot
        ·rename_i cs T kk hm;split at hot
         ·rename_i hcs;simp only[Bool.and_eq_true,beq_iff_eq] at hcs;obtain⟨⟨rfl,hcsz⟩,TD⟩:=hcs
          have aa0:∀v∈cs,v.oneCell'=true:=by
           rw[Array.all_eq_true_iff_forall_mem] at TD;exact TD
          have RU:σ.m b.block=some (.cells cs g.elem kk):=by rw[←hm];simp[St.m,hrd.mem]
          have RX:b.block<σ.next:=by rw[←hrd.next];exact hb0.2
          obtain⟨bb,bo,bs⟩:=b;simp only at hb0 hm RU RX hot;obtain⟨⟨rfl,rfl⟩,RY⟩:=hb0;have RQ:n*g.i.size≤cs.size:=by rw[hcsz];exact Nat.mul_le_mul_right _ hnc
          have real:∀{φ:bq} {L:Nat→Option cz} {w:World} {s':Value},aC φ (.slice (some ⟨bb,0,none⟩) n c) s'→Good φ L w→L bb=some (.cells cs g.elem kk)→
            ∃(b' e:Nat) (c':Array Value),φ bb=some (b',e)∧s'= .slice (some ⟨b',0,none⟩) n (c+e)∧w.heap[b']?=some (.cells c' g.elem (0,0))∧c'.size=cs.size+e*kk∧(kk=0→e=0)∧
             (∀(i:Nat) v v',cs[i]?=some v→c'[i]?=some v'→aC φ v v')∧
             (Builtin.firstCells g.i.size n (.slice (some ⟨b',0,none⟩) n (c+e))).run P w.drew= .ok (c'.toList.take (n*g.i.size)).toArray w.drew:=fun{φ L w s'} hs' hgood hL=>by
           cases hs' with
           |sc h0=>simp[dH] at h0
           |slice hp=>
            rename_i b' e;obtain⟨c',hh,hsz,hk0,hrel⟩:=hgood.cells hL hp;refine⟨b',e,c',hp,rfl,hh,hsz,hk0,hrel,run_firstCells_some w.drew g.i.size n _ n (c+e) _ (by simp;omega) fun j v hj=> ?_⟩
            have hj2:c'[j]?=some v:=by
             rw[List.getElem?_take] at hj;split at hj
             ·simpa using hj
             ·cases hj
            have hadd:(⟨b',0,none⟩:Addr).add j=⟨b',j,none⟩:=by unfold Addr.add;split<;>simp_all
            rw[hadd];unfold World.cell?;show(match w.heap[b']? with|some (.cells c _ _)=>_|_=>none)=_
            rw[hh];simpa using hj2
          split at hot
          ·rename_i hk0;cases hot;subst hk0;have p1:bn new.2 (new.2.read bb):=bn.rf _ _;have r1:Reads σ (new.2.read bb):=hrd.trans (.read _ _);refine⟨r1.prop.trans (bn.fA _ _),fun φ as L w ha hw hc hag hgood=> ?_⟩;obtain⟨s',x',rfl,hs',hx'⟩:=Q8 ha;have hL:L bb=some (.cells cs g.elem 0):=by rw[hag bb (.inl (eX.2 (.inr rfl))) RX];exact RU
           obtain⟨b',e,c',hp,rfl,hh0,hsz0,he0,hrel,hold⟩:=real hs' hgood hL;have he:=he0 rfl;subst he;obtain⟨news,uN,hnr⟩:=(AL hx' hnew Iu hsrc hlenx hone.2 MO).2 _ L w (p1.trans (bn.fA _ _)) hag hgood;obtain⟨cap,cells,w',hrun,hh,hsz,hk,hcs,hci⟩:=AY (ty:=ty) Fp hi hz hzs hold (by simp;omega) uN (by simpa using hlt) hn hb
           have hstep:=AR (o:= .cells (cs.extract 0 (n*g.i.size)++new.1) g.elem g.i.size) (ob:= .cells cells g.elem (0,0)) (e:=cap) hgood (r1.prop.wf hw) (hag.reads r1) (fun b h1 h2=>hc b (by rw[←r1.next];exact h1) h2)
            (fun ψ hψ=>⟨rfl,rfl,by rw[hcs,Array.size_append,hone.2,Array.size_extract,Nat.add_mul];omega,fun h=>absurd h hs0,fun i v v' hv hv'=>(joined RQ (by omega) hrel hnr hone.2 hci hv hv').mono hψ⟩) hh hsz hk
           exact⟨_,w',_,_,hrun, .slice (by simp),(Step.same hgood hw (hag.first (bn.fA _ _)) r1.next r1.mem r1.wr rfl ⟨rfl,rfl,rfl⟩).trans r1.prop (bn.fA _ _) hc hstep⟩
          ·rename_i hk0;split at hot
           ·rename_i hkk;cases hot;subst hkk;have p1:bn new.2 (new.2.write bb none):=bn.DX _ _ _ RY (by rw[hm];simp);refine⟨hrd.prop.trans (p1.trans (bn.fA _ _)),fun φ as L w ha hw hc hag hgood=> ?_⟩;obtain⟨s',x',rfl,hs',hx'⟩:=Q8 ha;have hL:L bb=some (.cells cs g.elem g.i.size):=by rw[hag bb (.inr (eX.2 (.inr rfl))) RX];exact RU
            obtain⟨b',e,c',hp,rfl,hh0,hsz0,he0,hrel,hold⟩:=real hs' hgood hL;obtain⟨news,uN,hnr⟩:=(AL hx' hnew Iu hsrc hlenx hone.2 MO).2 _ L w (p1.trans (bn.fA _ _)) hag hgood;have hlive:L bb≠none:=by rw[hL];simp
            have Tx:∀c,L bb≠some (.mM c):=fun c h=>by rw[hL] at h;cases h
            have hw1:=hrd.prop.wf hw;have R3:=hag.reads hrd;have hc1:Clear φ L new.2 ((new.2.write bb none).grow (.cells (cs.extract 0 (n*g.i.size)++new.1) g.elem g.i.size)):=fun b h1 h2=>hc b (by rw[←hrd.next];exact h1) h2;have pre:=Step.same (w':=w) hgood hw (hag.first (p1.trans (bn.fA _ _))) hrd.next hrd.mem hrd.wr rfl ⟨rfl,rfl,rfl⟩;by_cases hroom:n+g.k≤c+e
            · -- it grows where it is
              have hb1:b'<w.heap.size:=hgood.lt hlive hp
              have hfit:n*g.i.size+news.length≤c'.size:=by
               rw[uN.newsLen,hsz0,hcsz,←Nat.add_mul,←Nat.add_mul];exact Nat.mul_le_mul_right _ hroom
              have hcell:∀j,j<news.length→(w.cell? ⟨b',0+n*g.i.size+j,none⟩).isSome=true:=fun j hj=>by
               have hlt:0+n*g.i.size+j<c'.size:=by omega
               unfold World.cell?;show(match w.heap[b']? with|some (.cells c _ _)=>_|_=>none).isSome=true
               rw[hh0];show(c'[0+n*g.i.size+j]?).isSome=true
               rw[Array.getElem?_eq_getElem hlt];rfl
              have hrun:=run_append_room_src (P:=P) w sT xT ty g.elem g.i Fp hi b' 0 n (c+e) x' g.k news uN hroom hcell
               (fun j hj=>by unfold World.frozen?;rw[hh0];simp)
              obtain⟨c2,d1,d2,d3,d4,d5,d6,d7,d8⟩:=yh b' news (0+n*g.i.size) w c' g.elem hh0 (by omega)
              have hstep:=QS (o:= .cells (cs.extract 0 (n*g.i.size)++new.1) g.elem g.i.size) (ob:= .cells c2 g.elem (0,0)) (e':=c+e-(n+g.k)) hgood hw1 RY hp hlive R3 hc1
               (fun ψ hψ=>⟨rfl,rfl,by
                 rw[d1,hsz0,hcsz,Array.size_append,hone.2,Array.size_extract,←Nat.add_mul];have e1:min (n*g.i.size) cs.size-0=n*g.i.size:=by omega
                 rw[e1,←Nat.add_mul,←Nat.add_mul]
                 congr 1;omega,fun h=>absurd h hs0,fun i v v' hv hv'=>
                  (joined (cells:=c2) (M:=(n+g.k)*g.i.size) RQ (by omega) hrel hnr hone.2 (fun i hi=>by
                   by_cases hin:i<n*g.i.size
                   ·rw[d2 i (.inl (by omega)),List.getElem?_append_left (by simp;omega),List.getElem?_take,if_pos hin];simp
                   ·have e2:i=0+n*g.i.size+(i-n*g.i.size):=by omega
                    rw[e2,d3 _ (by rw[uN.newsLen];rw[Nat.add_mul] at hi;omega),List.getElem?_append_right (by simp;omega)];congr 1
                    simp;omega) hv hv').mono hψ⟩) d4 d5 ⟨d6,d7,d8⟩ Tx
              refine⟨_,_,_,_,hrun,?_,pre.trans hrd.prop (p1.trans (bn.fA _ _)) hc hstep⟩;have e3:c+e=(n+g.k)+(c+e-(n+g.k)):=by omega
              show aC _ (.slice (some ⟨new.2.next,0,none⟩) (n+g.k) (n+g.k)) (.slice (some ⟨b',0,none⟩) (n+g.k) (c+e))
              rw[e3];exact .slice (by simp[])
            ·obtain⟨cap,cells,w',hrun,hh,hsz,hk,hcs,hci⟩:=AY (ty:=ty) Fp hi hz hzs hold (by simp;omega) uN (by omega) hn hb;have k1:=QW hgood hw1 RY hlive (R3.first (bn.fA _ _)) Tx
             have hstep:=AR (o:= .cells (cs.extract 0 (n*g.i.size)++new.1) g.elem g.i.size) (ob:= .cells cells g.elem (0,0)) (e:=cap) k1.g.good (p1.wf hw1) (k1.agree p1 R3) (k1.clear hw1 p1 hc1)
              (fun ψ hψ=>⟨rfl,rfl,by rw[hcs,Array.size_append,hone.2,Array.size_extract,Nat.add_mul];omega,fun h=>absurd h hs0,fun i v v' hv hv'=>(joined RQ (by omega) hrel hnr hone.2 hci hv hv').mono hψ⟩) hh hsz hk
             exact⟨_,w',_,_,hrun, .slice (by simp),pre.trans hrd.prop (p1.trans (bn.fA _ _)) hc (k1.trans p1 (bn.fA _ _) hc1 hstep)⟩
           ·cases hot
         ·cases hot
        ·cases hot
       ·cases hot
      ·cases h
    ·cases h
   ·cases h
  ·cases h
 ·cases h
theorem Ko {ρ:Operand→Value} {o:Oper} {σ:St} {r:Value×St} (h:I1 P ρ o σ=some r):bn σ r.2∧
  ∀φ ρ' L w,(∀x∈o.op.operands,aC φ (ρ x) (ρ' x))→WF σ→Clear φ L σ r.2→Agree L σ r.2→Good φ L w→
   ∃v' w' φ' L',(execOp ρ' o).run P w= .ok (.value v') w'∧aC φ' r.1 v'∧Step σ r.2 φ φ' L L' w w':=by
 obtain⟨dst,op,type,pos,after,guard⟩:=o;cases op<;>first|(cases h;done)|skip
 rename_i cl;obtain⟨callee,args,ats⟩:=cl;cases callee<;>first|(cases h;done)|skip
 rename_i b;cases b<;>first|(cases h;done)|skip
 obtain⟨h1,h2⟩:=MU (show Gt P ats (args.map ρ) σ=some r from h) type;refine⟨h1,fun φ ρ' L w hρ hw hc hag hg=> ?_⟩;have ha:bu φ (args.map ρ) (args.map ρ'):=bu.mapOf fun x hx=>hρ x (by simp[Op.operands,Call.operands,hx]);obtain⟨v',w',φ',L',hrun,hv,hst⟩:=h2 φ (args.map ρ') L w ha hw hc hag hg;refine⟨v',w',φ',L',?_,hv,hst⟩;show((Builtin.append_ ats type (args.map ρ')).bind fun v=>Sem.pure (Next.value v)).run P w=_
 rw[run_bind',hrun];rfl
end
end Ck

/- The checker's maps. -/
namespace Ck
open Go
section
variable {P:Program} {φ:bq} {α β γ:Type} {A:bq→α→γ→Prop}
theorem aj.skip {s:Sem α} {t:Sem β} {g:β→Sem γ} {b:β} (ht:∀w,t.run P w= .ok b w) (h:aj P φ A s (g b)):aj P φ A s (t>>= g):=fun ψ hl σ outs L w hr hw hc hg=>by
 obtain⟨o,ho,c,w',ψ',L',h1,h2,h3⟩:=h ψ hl σ outs L w hr hw hc hg;refine⟨o,ho,c,w',ψ',L',?_,h2,h3⟩;show(t.bind g).run P w=_
 rw[run_bind',ht];exact h1
def CJ:TypeDesc→Bool
 | .int _| .string| .bool=>true
 |_=>false
theorem run_checkKey {t:TypeId} {d:TypeDesc} (hd:P.underlying t=some d) (hk:CJ d=true) (e:Bool) (n:Nat) (v:Value) (w:World):(Instr.checkKey e (n+1) t v).run P w= .ok () w:=by
 unfold Instr.checkKey;show((underlying t).bind _).run P w=_
 rw[run_bind',run_underlying hd];cases d<;>first|(cases hk;done)|rfl
theorem Ke {d:TypeDesc} {k k' x x':Value} {b:Bool} (h:Instr.sameNow d k x=some b) (hk:aC φ k k') (hx:aC φ x x'):Instr.sameNow d k' x'=some b:=by
 unfold Instr.sameNow at h;split at h
 ·cases hk;cases hx;exact h
 ·cases hk;cases hx;exact h
 ·cases hk;cases hx;exact h
 ·cases h
theorem qX {d:TypeDesc} {k k':Value} (hk:aC φ k k'):∀{l m:List MapEntry} (i:Nat) {r:Option (Nat×Value)},EL φ l m→Instr.findNow d k l i=some r→
  ∃r',Instr.findNow d k' m i=some r'∧((r=none∧r'=none)∨∃j v v',r=some (j,v)∧r'=some (j,v')∧aC φ v v')
 |[],[],i,r,_,h=>by cases h;exact⟨none,rfl, .inl ⟨rfl,rfl⟩⟩
 |x::l,y::m,i,r,he,h=>by
  unfold Instr.findNow at h⊢
  cases hs:Instr.sameNow d k x.key with
  |none=>rw[hs] at h;cases h
  |some b=>
   rw[hs] at h;rw[Ke hs hk he.1.1];cases b with
   |true=>cases h;exact⟨_,rfl, .inr ⟨i,_,_,rfl,rfl,he.1.2.1⟩⟩
   |false=>exact qX hk (i+1) he.2 h
 |[],_::_,_,_,h,_=>h.elim
 |_::_,[],_,_,h,_=>h.elim
theorem run_findKey {t:TypeId} {d:TypeDesc} {k:Value} {es:List MapEntry} {r:Option (Nat×Value)} (hd:P.underlying t=some d) (h:Instr.findNow d k es 0=some r) (w:World):(Instr.findKey t k es).run P w= .ok r w:=by
 unfold Instr.findKey;show((underlying t).bind _).run P w=_
 rw[run_bind',run_underlying hd];simp only[h];rfl
def tell (ok:Bool) (v:Value) (b:Bool):Value:=if ok then .tuple #[v, .bool b] else v
theorem GX {v v':Value} (ok b:Bool) (h:aC φ v v'):aC φ (tell ok v b) (tell ok v' b):=by
 unfold tell;split
 ·exact .DZ (.ofList (.cons h (.cons (.sc rfl) (.nil φ))))
 ·exact h
def entriesOf (x:Value):Sem (Array MapEntry):=
 match x with
 | .map none=>pure #[]
 | .map (some r)=>do
   let .map es _ ←getObj r|stuck ""
   pure es
 |_=>stuck ""
def Ej (P:Program) (xType:TypeId) (x index:Value) (ok:Bool):Sem Value:=do
 let es ←entriesOf x
 match P.underlying xType with
 |some (.map key elem)=>
  match P.underlying key with
  |some d=>
   if CJ d&&xY P elem then
    match Instr.findNow d index es.toList 0 with
    |some (some (_,v))=>pure (tell ok v true)
    |some none=>do pure (tell ok (←zeroValue elem) false)
    |none=>stuck ""
   else stuck ""
  |none=>stuck ""
 |_=>stuck ""
theorem Mf {t:TypeId} {x x' k k':Value} {ok:Bool} (hx:aC φ x x') (hk:aC φ k k'):aj P φ aC (Ej P t x k ok) (Instr.lookup t x' k' ok):=by
 unfold Ej;cases ht:P.underlying t with
 |none=>exact aj.no (bD.xO fun _=>bD.halt _)
 |some d=>
  cases d<;>first|exact aj.no (bD.xO fun _=>bD.halt _)|skip
  rename_i key elem;unfold Instr.lookup;refine aj.skip (run_underlying ht) ?_
  have go:∀(ψ:bq) (es es':Array MapEntry),Le φ ψ→iG ψ es es'→aj P ψ aC
    (match P.underlying key with
     |some d=>
      if CJ d&&xY P elem then
       match Instr.findNow d k es.toList 0 with
       |some (some (_,v))=>pure (tell ok v true)
       |some none=>do pure (tell ok (←zeroValue elem) false)
       |none=>stuck ""
      else stuck ""
     |none=>stuck "")
    (do Instr.checkKey es'.isEmpty 10000 key k'
        let (v,b) ←match ←Instr.findKey key k' es'.toList with
         |some (_,v)=>pure (v,true)
         |none=>pure (←zeroValue elem,false)
        pure (if ok then .tuple #[v, .bool b] else v)):=by
   intro ψ es es' hψ hes;cases hd:P.underlying key with
   |none=>exact aj.halt
   |some d=>
    simp only;split
    ·rename_i hc;simp only[Bool.and_eq_true] at hc;cases hf:Instr.findNow d k es.toList 0 with
     |none=>exact aj.halt
     |some r=>
      obtain⟨r',hr',hrel⟩:=qX (hk.mono hψ) 0 hes hf;refine aj.skip (fun w=>run_checkKey hd hc.1 _ 9999 _ w) (aj.skip (run_findKey hd hr') ?_);rcases hrel with⟨rfl,rfl⟩|⟨j,v,v',rfl,rfl,hv⟩
      ·refine aj.bind (qH hc.2) ?_;rintro χ hχ z _ ⟨rfl,hs⟩;exact aj.ret fun _ _=>GX ok false (.zO hs)
      ·exact aj.ret fun _ hle=>GX ok true (hv.mono hle)
    ·exact aj.halt
  cases hx with
  |sc hs=>
   cases x<;>first|exact aj.no (bD.iZ (bD.halt _))|skip
   rename_i a;cases a with
   |some a=>simp[dH] at hs
   |none=>exact go φ #[] #[] (.refl φ) True.intro
  |map hb=>
   unfold entriesOf;simp only[bind_assoc];refine aj.bind (pK hb) ?_;intro ψ hψ o o' ho;cases o<;>cases o'<;>first|exact ho.elim|exact aj.no (bD.iZ (bD.halt _))|skip
   exact go ψ _ _ hψ ho.2
  |_=>exact aj.no (bD.iZ (bD.halt _))
def sameKey:Value→Value→Bool
 | .int j a, .int k b=>j == k&&a == b
 | .string a, .string b=>a == b
 | .bool a, .bool b=>a == b
 |_,_=>false
theorem Ob {old new old' new':Value} (h:sameKey old new=true) (ho:aC φ old old') (hn:aC φ new new') (w:World):(Instr.keyThatStays old' new').run P w= .ok new' w:=by
 unfold sameKey at h;split at h
 ·cases ho;cases hn;unfold Instr.keyThatStays;have:Instr.sameBits 10000 (.int _ _) (.int _ _)=true:=h;rw[this];rfl
 ·cases ho;cases hn;unfold Instr.keyThatStays;have:Instr.sameBits 10000 (.string _) (.string _)=true:=h;rw[this];rfl
 ·cases ho;cases hn;unfold Instr.keyThatStays;have:Instr.sameBits 10000 (.bool _) (.bool _)=true:=h;rw[this];rfl
 ·cases h
def DY (P:Program) (mapType:TypeId) (map key value:Value):Sem Unit:=
 match P.underlying mapType,map with
 |some (.map keyType _), .map (some r)=>do
  let o ←getObj r
  match o,P.underlying keyType with
  | .map es clock,some d=>
    if CJ d then
     match Instr.findNow d key es.toList 0 with
     |some (some (i,_))=>if (match es[i]? with|some e=>sameKey e.key key|none=>false) then setObj r (.map (es.modify i fun e=>{e with key,val:=value}) clock) else stuck ""
     |some none=>setObj r (.map (es.push {key,val:=value,born:=clock}) (clock+1))
     |none=>stuck ""
    else stuck ""
  |_,_=>stuck ""
 |_,_=>stuck ""
theorem BU {t:TypeId} {x x' k k' v v':Value} (hx:aC φ x x') (hk:aC φ k k') (hv:aC φ v v'):aj P φ (fun _ _ _=>True) (DY P t x k v) (Instr.mapUpdate t x' k' v'):=by
 unfold DY;cases ht:P.underlying t with
 |none=>exact aj.halt
 |some d=>
  cases d<;>first|exact aj.halt|skip
  rename_i key elem;cases hx with
  |sc hs=>cases x<;>first|exact aj.halt|(rename_i a;cases a<;>first|exact aj.halt|(simp[dH] at hs;done))
  |map hb=>
   unfold Instr.mapUpdate;refine aj.skip (run_underlying ht) ?_;refine aj.bind (pK hb) ?_;intro ψ hψ o o' ho;cases o<;>cases o'<;>first|exact ho.elim|exact aj.halt|skip
   rename_i es ck es' FI;obtain⟨hck,hes⟩:=ho;subst hck;cases hd:P.underlying key with
   |none=>exact aj.halt
   |some d=>
    simp only;split
    ·rename_i hc;cases hf:Instr.findNow d k es.toList 0 with
     |none=>exact aj.halt
     |some r=>
      obtain⟨r',hr',hrel⟩:=qX (hk.mono hψ) 0 hes hf;refine aj.skip (fun w=>run_checkKey hd hc _ 9999 _ w) (aj.skip (run_findKey hd hr') ?_);rcases hrel with⟨rfl,rfl⟩|⟨j,u,u',rfl,rfl,hu⟩
      ·exact sN (hψ _ _ hb) ⟨rfl,iG.push hes ⟨hk.mono hψ,hv.mono hψ,rfl⟩⟩
      ·simp only;cases he:es[j]? with
       |none=>simp only[Bool.false_eq_true,if_false];exact aj.halt
       |some e=>
        simp only;split
        ·rename_i hsk;obtain⟨e',he',hre⟩:=EL.get hes (i:=j) (x:=e) (by simpa using he);have he2:es'[j]?=some e':=by simpa using he'
         simp only[he2,Option.map_some,Option.getD_some];refine aj.skip (Ob hsk hre.1 (hk.mono hψ)) ?_;exact sN (hψ _ _ hb) ⟨rfl,iG.modify hes (f:=fun e=>{e with key:=k,val:=v}) (g:=fun e=>{e with key:=k',val:=v'}) (fun x y hxy=>⟨hk.mono hψ,hv.mono hψ,hxy.2.2⟩) j⟩
        ·exact aj.halt
    ·exact aj.halt
  |_=>exact aj.halt
def Ev (P:Program) (mapType:TypeId) (map key:Value):Sem Value:=
 match P.underlying mapType with
 |some (.map keyType _)=>match P.underlying keyType with
  |some d=>if CJ d then
    match map with
    | .map none=>pure (.tuple #[])
    | .map (some r)=>do
      let o ←getObj r
      match o with
      | .map es clock=>
        match Instr.findNow d key es.toList 0 with
        |some (some (i,_))=>do setObj r (.map (es.eraseIdxIfInBounds i) clock);pure (.tuple #[])
        |some none=>do setObj r (.map es clock);pure (.tuple #[])
        |none=>stuck ""
      |_=>stuck ""
    |_=>stuck ""
   else stuck ""
  |none=>stuck ""
 |_=>stuck ""
theorem Mh {t:TypeId} {ats:Array TypeId} {ty:TypeId} {args args':Array Value} {x k:Value} (h0:ats[0]?=some t) (h1:args[0]?=some x) (h2:args[1]?=some k) (ha:bu φ args args'):
  aj P φ aC (Ev P t x k) (Builtin.delete_ ats ty args'):=by
 obtain⟨x',hx',hx⟩:=ha.get h1;obtain⟨k',hk',hk⟩:=ha.get h2;unfold Ev Builtin.delete_;simp only[h0,hx',hk'];cases ht:P.underlying t with
 |none=>exact aj.halt
 |some d=>
  cases d<;>first|exact aj.halt|skip
  rename_i key elem;refine aj.skip (run_underlying ht) ?_;simp only;cases hd:P.underlying key with
  |none=>exact aj.halt
  |some d=>
   simp only;split
   ·rename_i hc;cases hx with
    |sc hs=>
     cases x<;>first|exact aj.halt|skip
     rename_i a;cases a with
     |some a=>simp[dH] at hs
     |none=>
      refine aj.skip (fun w=>run_checkKey hd hc _ 9999 _ w) ?_;exact aj.ret fun ψ _=> .undef ψ
    |map hb=>
     refine aj.bind (pK hb) ?_;intro ψ hψ o o' ho;cases o<;>cases o'<;>first|exact ho.elim|exact aj.halt|skip
     rename_i es ck es' FI;obtain⟨hck,hes⟩:=ho;subst hck;simp only;cases hf:Instr.findNow d k es.toList 0 with
     |none=>exact aj.halt
     |some r=>
      obtain⟨r',hr',hrel⟩:=qX (hk.mono hψ) 0 hes hf;refine aj.skip (fun w=>run_checkKey hd hc _ 9999 _ w) (aj.skip (run_findKey hd hr') ?_);rcases hrel with⟨rfl,rfl⟩|⟨j,u,u',rfl,rfl,hu⟩
      ·refine aj.bind (sN (hψ _ _ hb) ⟨rfl,hes⟩) ?_;intro χ _ _ _ _;exact aj.ret fun ψ _=> .undef ψ
      ·refine aj.bind (sN (hψ _ _ hb) ⟨rfl,iG.erase hes j⟩) ?_;intro χ _ _ _ _;exact aj.ret fun ψ _=> .undef ψ
    |_=>exact aj.halt
   ·exact aj.halt
theorem NT {t:TypeId} {x x':Value} (hx:aC φ x x'):aj P φ aC (Instr.range t x) (Instr.range t x'):=by
 unfold Instr.range;refine aj.bind (bJ t) ?_;rintro ψ hψ d _ ⟨rfl,_⟩
 have fin:∀(χ:bq) (o o':Obj),zk χ o o'→aj P χ aC (do pure (.pointer (some ⟨←newObj o,0,none⟩))) (do pure (.pointer (some ⟨←newObj o',0,none⟩))):=by
  intro χ o o' ho;refine aj.bind (Hf ho) ?_;intro χ' _ r r' hr;exact aj.ret fun _ hle=> .ptr (hle _ _ hr)
 cases hx.mono hψ with
 |sc hs=>
  cases d<;>first|exact aj.no (bD.iZ (bD.halt _))|skip
  case string=>cases x<;>first|exact aj.no (bD.iZ (bD.halt _))|exact fin ψ _ _ ⟨rfl,rfl⟩
  case map=>
   cases x<;>first|exact aj.no (bD.iZ (bD.halt _))|skip
   rename_i a;cases a with
   |some a=>simp[dH] at hs
   |none=>exact fin ψ _ _ ⟨True.intro,rfl,rfl,rfl⟩
 |map hb=>
  cases d<;>first|exact aj.no (bD.iZ (bD.halt _))|skip
  refine aj.bind (pK hb) ?_;intro χ hχ o o' ho;cases o<;>cases o'<;>first|exact ho.elim|exact aj.no (bD.iZ (bD.halt _))|skip
  obtain⟨hck,_⟩:=ho;subst hck;exact fin χ _ _ ⟨⟨_,hχ _ _ hb⟩,rfl,rfl,rfl⟩
 |_=>cases d<;>exact aj.no (bD.iZ (bD.halt _))
/-- The clearing of a slice. -/
def Eh (P:Program) (ats:Array TypeId) (args:Array Value):Bool:=
 match (ats[0]?:Option TypeId),(args[0]?:Option Value) with
 |some t,some (.slice ..)=>zR P t
 |_,_=>false
theorem FZ {z:Value} (hs:fF z=true) (n:Nat) (χ:bq):bu χ (Builtin.zeroCells z.cells n) (Builtin.zeroCells z.cells n):=yI hs (n*z.cells.size) χ
theorem NY {ats:Array TypeId} {ty:TypeId} {args args':Array Value} (hok:Eh P ats args=true) (ha:bu φ args args'):aj P φ aC (Builtin.clear_ ats ty args) (Builtin.clear_ ats ty args'):=by
 unfold Eh at hok;split at hok
 ·rename_i t b n c ht hx;obtain⟨x',hx',hrx⟩:=ha.get hx;unfold Builtin.clear_;simp only[ht,hx,hx'];refine aj.bind (bJ t) ?_;rintro ψ hl d _ ⟨rfl,hd⟩;cases hrx.mono hl with
  |sc h0=>
   cases b with
   |some a=>simp[dH] at h0
   |none=>cases d<;>exact aj.ret fun ψ _=> .undef ψ
  |slice hb=>
   rename_i b b' e off;cases n with
   |zero=>cases d<;>exact aj.ret fun ψ _=> .undef ψ
   |succ n=>
    cases d<;>first|exact aj.no (bD.iZ (bD.halt _))|skip
    rename_i elem;have hz:xY P elem=true:=by simpa[zR,hd] using hok
    refine aj.bind (qH hz) ?_;rintro ψ1 hl1 z _ ⟨rfl,hs⟩;refine aj.bind (nC 0 (kX.of (hl1 _ _ hb)) (FZ hs _ _).toList) ?_;intro ψ2 _ _ _ _;exact aj.ret fun ψ _=> .undef ψ
 ·cases hok
/-- What the checker runs for an operation. -/
def Mx (P:Program) (ρ:Operand→Value) (o:Oper):Sem Next:=
 match o.op with
 | .lookup t m k ok=>do pure (.value (←Ej P t (ρ m) (ρ k) ok))
 | .mapUpdate t m k x| .insert t m k x=>do DY P t (ρ m) (ρ k) (ρ x);pure .skip
 | .call {callee:= .builtin .delete,args,argTypes}=>
   match argTypes.toList,args.toList with
   |t::_,[m,k]=>do pure (.value (←Ev P t (ρ m) (ρ k)))
   |_,_=>stuck ""
 |_=>execOp ρ o
def Mt (P:Program) (ρ:Operand→Value) (o:Oper):Bool:=
 match o.op with
 | .lookup .. | .mapUpdate .. | .insert .. | .makeMap _ none| .range .. =>true
 | .call {callee:= .builtin .delete, .. }=>true
 | .call {callee:= .builtin .clear,args,argTypes}=>Eh P argTypes (args.map ρ)
 |_=>Mv P ρ o
theorem Rn {ρ ρ':Operand→Value} {o:Oper} (hok:Mt P ρ o=true) (hρ:∀x∈o.op.operands,aC φ (ρ x) (ρ' x)):aj P φ zl (Mx P ρ o) (execOp ρ' o):=by
 obtain⟨dst,op,type,pos,after,guard⟩:=o;have other:Mv P ρ ⟨dst,op,type,pos,after,guard⟩=true→aj P φ zl (execOp ρ ⟨dst,op,type,pos,after,guard⟩) (execOp ρ' ⟨dst,op,type,pos,after,guard⟩):=fun h=>Re h hρ;cases op<;>first|exact other hok|skip
 case insert t m k x=>exact aj.unit (BU (hρ m (by simp[Op.operands])) (hρ k (by simp[Op.operands])) (hρ x (by simp[Op.operands])))
 case mapUpdate t m k x=>exact aj.unit (BU (hρ m (by simp[Op.operands])) (hρ k (by simp[Op.operands])) (hρ x (by simp[Op.operands])))
 case lookup t m k ok=>exact aj.value (Mf (hρ m (by simp[Op.operands])) (hρ k (by simp[Op.operands])))
 case range t x=>exact aj.value (NT (hρ x (by simp[Op.operands])))
 case makeMap t r=>
  cases r with
  |some r=>exact other hok
  |none=>
   refine aj.value ?_;unfold Instr.makeMap;refine aj.bind (Hf (o:= .map #[] 0) (o':= .map #[] 0) ⟨rfl,True.intro⟩) ?_;intro ψ _ r r' hr;exact aj.ret fun _ hle=> .map (hle _ _ hr)
 case call c=>
  obtain⟨callee,args,ats⟩:=c;cases callee with
  |value f=>exact other hok
  |invoke r m=>exact other hok
  |builtin b=>
   cases b<;>first|exact other hok|skip
   case clear=>
    have ha:bu φ (args.map ρ) (args.map ρ'):=bu.mapOf fun x hx=>hρ x (by simp[Op.operands,Call.operands,hx]);exact aj.value (NY hok ha)
   have ha:bu φ (args.map ρ) (args.map ρ'):=bu.mapOf fun x hx=>hρ x (by simp[Op.operands,Call.operands,hx]);unfold Mx;simp only;split
   ·rename_i t ts m k ht hm;have e1:args= #[m,k]:=by rw[←Array.toArray_toList (xs:=args),hm]
    subst e1;have e2:ats[0]?=some t:=by rw[←Array.getElem?_toList,ht];rfl
    exact aj.value (Mh e2 (by simp) (by simp) ha)
   ·exact aj.halt
end
end Ck

/- The checker's code: operations, regions, calls. -/
namespace Ck
open Go
section
variable {α β:Type}
def bnd (f:α→Option (List β)):List α→Option (List β)
 |[]=>some []
 |o::l=>match f o,bnd f l with
  |some r,some rs=>some (r++rs)
  |_,_=>none
theorem kH {f:α→Option (List β)}:∀{l:List α} {outs:List β},bnd f l=some outs→∀o∈l,∃r,f o=some r∧∀x∈r,x∈outs
 |[],_,_,o,ho=>by cases ho
 |x::l,outs,h,o,ho=>by
  unfold bnd at h;split at h
  ·rename_i r rs h1 h2;cases h;rcases List.mem_cons.1 ho with rfl|ho
   ·exact⟨r,h1,fun y hy=>List.mem_append_left _ hy⟩
   ·obtain⟨r',hr,hx⟩:=kH h2 o ho;exact⟨r',hr,fun y hy=>List.mem_append_right _ (hx y hy)⟩
  ·cases h
theorem Lr {f:α→Option (List β)}:∀{l:List α} {outs:List β},bnd f l=some outs→∀x∈outs,∃o∈l,∃r,f o=some r∧x∈r
 |[],_,h,x,hx=>by cases h;cases hx
 |y::l,outs,h,x,hx=>by
  unfold bnd at h;split at h
  ·rename_i r rs h1 h2;cases h;rcases List.mem_append.1 hx with hx|hx
   ·exact⟨y,by simp,r,h1,hx⟩
   ·obtain⟨o,ho,r',hr,hm⟩:=Lr h2 x hx;exact⟨o,by simp[ho],r',hr,hm⟩
  ·cases h
end
/-- Ends of a run, and what each one does to the memory. -/
def Ends {α:Type} (σ:St) (get:α→St) (outs:List α):Prop:=outs≠[]∧∀o∈outs,bn σ (get o)
theorem Ends.bnd {α β:Type} {σ:St} {g:α→St} {g':β→St} {f:α→Option (List β)} {l:List α} {outs:List β} (h:Ends σ g l) (hb:bnd f l=some outs)
  (hf:∀o∈l,∀r,f o=some r→Ends (g o) g' r):Ends σ g' outs:=by
 refine⟨?_,fun x hx=> ?_⟩
 ·obtain⟨hne,_⟩:=h;cases l with
  |nil=>exact absurd rfl hne
  |cons o l=>
   obtain⟨r,hr,hx⟩:=kH hb o (by simp);obtain⟨hr0,_⟩:=hf o (by simp) r hr;cases r with
   |nil=>exact absurd rfl hr0
   |cons y r=>intro he;have:=hx y (by simp);rw[he] at this;cases this
 ·obtain⟨o,ho,r,hr,hm⟩:=Lr hb x hx;exact(h.2 o ho).trans ((hf o ho r hr).2 x hm)
/-- What must hold of the world's memory ahead of a run. -/
def Pre {α:Type} (φ:bq) (L:Nat→Option cz) (σ:St) (get:α→St) (outs:List α):Prop:=∀o∈outs,Clear φ L σ (get o)∧Agree L σ (get o)
theorem Pre.first {α β:Type} {φ:bq} {L:Nat→Option cz} {σ:St} {g:α→St} {g':β→St} {f:α→Option (List β)} {l:List α} {outs:List β} (hp:Pre φ L σ g' outs) (hb:bnd f l=some outs)
  (hf:∀o∈l,∀r,f o=some r→Ends (g o) g' r):Pre φ L σ g l:=fun o ho=>by
 obtain⟨r,hr,hx⟩:=kH hb o ho;obtain⟨hr0,hrp⟩:=hf o ho r hr;cases r with
 |nil=>exact absurd rfl hr0
 |cons y r=>
  have hp':=hp y (hx y (by simp));have h2:=hrp y (by simp);exact⟨hp'.1.first h2,hp'.2.first h2⟩
theorem Pre.next {β:Type} {φ ψ:bq} {L M:Nat→Option cz} {w w':World} {σ:St} {g':β→St} {τ:St} {r outs:List β} (hp:Pre φ L σ g' outs) (hw:WF σ) (h1:bn σ τ)
  (hst:Step σ τ φ ψ L M w w') (hx:∀x∈r,x∈outs):Pre ψ M τ g' r:=fun x OT=>
 ⟨hst.clear hw h1 (hp x (hx x OT)).1,hst.agree h1 (hp x (hx x OT)).2⟩
abbrev JA:=Option (List (Value×St))
abbrev fu:=FuncId→Array Value→St→JA
/-- Temporaries. -/
def uM (T:Tree Value):Operand→Value
 | .tmp t=>(T.get t).getD undef
 | .const v=>v
 | .global g=> .pointer (some ⟨g,0,none⟩)
 | .func f=> .func (.func f) #[] #[]
def pQ (N:Nat) (T:Tree Value) (dst:Option Tmp) (v:Value):Tree Value:=
 match dst with
 |some d=>if d<N then T.set d (some v) else T
 |none=>T
def jc (ops:Array Oper) (T:Tree Value) (j:Nat):Option Bool:=
 match (ops[j]?).bind (·.dst) with
 |some t=>match T.get t with
  |some (.bool b)=>some b
  |_=>none
 |none=>none
def rz (G:List (Nat×Array Value)):Operand→Bool
 | .const v=>ou v
 | .global g=>G.any fun x=>x.1 == g
 |_=>true
/-- A look into a list that the kernel walks fast. -/
noncomputable def nth {α:Type} (l:List α):Nat→Option α:=List.rec (fun _=>none) (fun a _ ih n=>Nat.rec (some a) (fun m _=>ih m) n) l
theorem Oy {α:Type}:∀(l:List α) (n:Nat),nth l n=l[n]?
 |[],_=>by simp[nth]
 |_::_,0=>rfl
 |_::l,n+1=>(Oy l n).trans rfl
theorem zS {α:Type} (a:Array α) (n:Nat):nth a.toList n=a[n]?:=by rw[Oy,Array.getElem?_toList]
/-- What the checker knows to run. -/
structure Env where
 P:Program
 G:List (Nat×Array Value)
 known:List Nat
 rW:fu:=fun _ _ _=>none
/-- An operation. -/
noncomputable def yU (E:Env) (call:fu) (ρ:Operand→Value) (o:Oper) (σ:St):JA:=
 if o.op.operands.all (rz E.G) then
  match Cj E.P ρ o with
  |some v=>some [(v,σ)]
  |none=>
   match I1 E.P ρ o σ with
   |some r=>some [r]
   |none=>
    if Mt E.P ρ o then
     match bW E.P (Mx E.P ρ o) σ with
     |some outs=>bnd (fun x=>match x.1 with
      | .value v=>some [(v,x.2)]
      | .skip=>some [(undef,x.2)]
      | .enter f args=>call f args x.2
      |_=>none) outs
     |none=>none
    else none
 else none
/-- The operations of a region, one behind the other. -/
noncomputable def yT (E:Env) (call:fu) (N:Nat) (ops:Array Oper):List Nat→Tree Value→St→Option (List (Tree Value×St))
 |[],T,σ=>some [(T,σ)]
 |i::rest,T,σ=>
  match nth ops.toList i with
  |none=>none
  |some o=>
   if Region.wanted o (jc ops T) then
    match yU E call (uM T) o σ with
    |some outs=>bnd (fun x=>yT E call N ops rest (pQ N T o.dst x.1) x.2) outs
    |none=>none
   else yT E call N ops rest (pQ N T o.dst undef) σ
inductive LX where
 |normal
 |exit (id:Nat)
 |ret
def LX.to:LX→Exit
 | .normal=> .normal
 | .exit id=> .exit id
 | .ret=> .ret
abbrev Aa:=Option (List (LX×Tree Value×St))
section
variable {E:Env}
def nV (E:Env) (φ:bq) (L:Nat→Option cz):Prop:=∀x∈E.G,φ x.1=some (x.1,0)∧L x.1=some (.mM x.2)
theorem nV.mono {φ ψ:bq} {L M:Nat→Option cz} {σ τ:St} {w w':World} (h:nV E φ L) (hst:Step σ τ φ ψ L M w w'):nV E ψ M:=fun x hx=>⟨hst.g.le _ _ (h x hx).1,hst.g.mM _ _ (h x hx).2⟩
def Dr (P:Program) (Post:Value→World→Prop):Result Next→Prop
 | .ok (.value u) w'=>Post u w'
 | .ok .skip w'=>Post undef w'
 | .ok (.enter f args) w'=>Calls P f args w' fun e w''=>∃u,e= .returned u∧Post u w''
 |_=>False
theorem Dr.wp {P:Program} {o:Oper} {a:Act} {w:World} {Post:Value→World→Prop} {K:Act→World→Prop} {Q:Exit→Act→World→Prop} (h:Dr P Post ((execOp a.eval o).run P w))
  (hK:∀v w',Post v w'→K (a.put o.dst v) w'):o.wp P a w K Q:=by
 unfold Oper.wp;generalize (execOp a.eval o).run P w=r at *;cases r with
 |ok n w'=>
  cases n<;>simp only[Dr,Oper.upon] at h⊢
  case value u=>exact hK _ _ h
  case skip=>exact hK _ _ h
  case enter f args=>
   refine Calls.mono h fun e w'' he=> ?_;obtain⟨u,rfl,hp⟩:=he;exact hK _ _ hp
 |halt x w'=>exact h.elim
/-- What a call that the checker runs promises. -/
def ib (E:Env) (call:fu):Prop:=∀f args σ outs,call f args σ=some outs→Ends σ (·.2) outs∧
 ∀φ args' L w,nV E φ L→bu φ args args'→WF σ→Pre φ L σ (·.2) outs→Good φ L w→
  Calls E.P f args' w fun e w'=>∃o∈outs,∃v' φ' L',e= .returned v'∧aC φ' o.1 v'∧Step σ o.2 φ φ' L L' w w'
def nR (φ:bq) (N:Nat) (T:Tree Value) (a:Act):Prop:=
 a.tmps.size=N∧a.defers=[]∧∀t,aC φ ((T.get t).getD undef) (a.tmps.getD t undef)
theorem nR.mono {φ ψ:bq} {N:Nat} {T:Tree Value} {a:Act} (hl:Le φ ψ) (h:nR φ N T a):nR ψ N T a:=⟨h.1,h.2.1,fun t=>(h.2.2 t).mono hl⟩
theorem KU {φ:bq} {N:Nat} {T:Tree Value} {a:Act} {L:Nat→Option cz} (hg:nV E φ L) (h:nR φ N T a) {x:Operand} (hx:rz E.G x=true):aC φ (uM T x) (a.eval x):=by
 cases x with
 |tmp t=>exact h.2.2 t
 |const v=>exact .Ca hx
 |global g=>
  obtain⟨y,hy,hyg⟩:=List.any_eq_true.1 hx;have:=(hg y hy).1;rw[eq_of_beq hyg] at this;exact .ptr this
 |func f=>exact .func (fun l=>by simp) rfl rfl (fun i v v' h=>by simp at h) (fun i v v' h=>by simp at h)
theorem Ic {φ:bq} {N:Nat} {T:Tree Value} {a:Act} (h:nR φ N T a) (dst:Option Tmp) {v v':Value} (hv:aC φ v v'):nR φ N (pQ N T dst v) (a.put dst v'):=by
 cases dst with
 |none=>exact h
 |some d=>
  refine⟨by simp[Act.put,h.1],h.2.1,fun t=> ?_⟩;simp only[pQ,Act.put];by_cases hd:d<N
  ·simp only[hd,if_true];rw[Tree.jG];by_cases hdt:d=t
   ·subst hdt;have:d<a.tmps.size:=by rw[h.1];exact hd
    simp[this,hv]
   ·have h3:=h.2.2 t;simp[hdt] at h3⊢
    exact h3
  ·simp only[hd,if_false];by_cases hdt:d=t
   ·subst hdt;have h2:=h.2.2 d;have:¬d<a.tmps.size:=by rw[h.1];exact hd
    simp[this] at h2⊢
    exact h2
   ·have h3:=h.2.2 t;simp[hdt] at h3⊢
    exact h3
theorem Fb {φ:bq} {N:Nat} {T:Tree Value} {a:Act} (h:nR φ N T a) (ops:Array Oper):jc ops T=yielded ops a.tmps:=by
 funext j
 unfold jc yielded;cases hj:(ops[j]?).bind (·.dst) with
 |none=>simp
 |some t=>
  have ht:=h.2.2 t;simp only[Option.bind_some];cases hT:T.get t with
  |none=>
   rw[hT] at ht;simp only[Option.getD_none] at ht;cases hA:a.tmps[t]? with
   |none=>simp
   |some u=>
    have:a.tmps.getD t undef=u:=by simp[hA]
    rw[this] at ht;cases u<;>first|rfl|(simp only[undef] at ht;cases ht)
  |some v=>
   rw[hT] at ht;simp only[Option.getD_some] at ht;cases hA:a.tmps[t]? with
   |none=>
    have:a.tmps.getD t undef=undef:=by simp[hA]
    rw[this] at ht;cases v<;>first|rfl|(simp only[undef] at ht;cases ht)
   |some u=>
    have:a.tmps.getD t undef=u:=by simp[hA]
    rw[this] at ht;cases v<;>cases u<;>first|rfl|(cases ht;done)|(cases ht;rfl)
theorem Bf {call:fu} (hcall:ib E call) {ρ:Operand→Value} {o:Oper} {σ:St} {outs:List (Value×St)} (h:yU E call ρ o σ=some outs):
  Ends σ (·.2) outs∧∀φ ρ' L w,nV E φ L→(∀x∈o.op.operands,aC φ (ρ x) (ρ' x))→WF σ→Pre φ L σ (·.2) outs→Good φ L w→
   Dr E.P (fun v' w'=>∃x∈outs,∃φ' L',aC φ' x.1 v'∧Step σ x.2 φ φ' L L' w w') ((execOp ρ' o).run E.P w):=by
 unfold yU at h;split at h
 ·split at h
  ·rename_i v hv;cases h;refine⟨⟨by simp,fun x hx=>by simp at hx;subst hx;exact .refl σ⟩,fun φ ρ' L w hg hρ hw hp hgood=> ?_⟩;obtain⟨hrun,hrel⟩:=Ki hv hρ w;rw[hrun];exact⟨_,List.mem_singleton.2 rfl,φ,L,hrel, .refl hgood hw (hp _ (List.mem_singleton.2 rfl)).2⟩
  ·split at h
   ·rename_i r hr;cases h;obtain⟨h1,h2⟩:=Ko hr;refine⟨⟨by simp,fun x hx=>by simp at hx;subst hx;exact h1⟩,fun φ ρ' L w hg hρ hw hp hgood=> ?_⟩;obtain⟨v',w',φ',L',hrun,hrel,hst⟩:=h2 φ ρ' L w hρ hw (hp _ (List.mem_singleton.2 rfl)).1 (hp _ (List.mem_singleton.2 rfl)).2 hgood;rw[hrun];exact⟨_,List.mem_singleton.2 rfl,φ',L',hrel,hst⟩
   ·split at h
    ·rename_i hok;split at h
     ·rename_i l hl;have p1:=oV E.P _ σ l hl;have e1:Ends σ (·.2) l:=p1
      have hf:∀x∈l,∀r,(fun x:Next×St=>match x.1 with
        | .value v=>some [(v,x.2)]
        | .skip=>some [(undef,x.2)]
        | .enter f args=>call f args x.2
        |_=>none) x=some r→Ends x.2 (·.2) r:=fun x _ r hr=>by
       obtain⟨n,τ⟩:=x;cases n<;>first|(cases hr;done)|skip
       case value v=>cases hr;exact⟨by simp,fun y hy=>by simp at hy;subst hy;exact .refl _⟩
       case skip=>cases hr;exact⟨by simp,fun y hy=>by simp at hy;subst hy;exact .refl _⟩
       case enter f args=>exact(hcall _ _ _ _ hr).1
      refine⟨e1.bnd h hf,fun φ ρ' L w hg hρ hw hp hgood=> ?_⟩;have hpre:Pre φ L σ (·.2) l:=hp.first h hf;obtain⟨⟨n,τ⟩,hx,n',w',ψ',L',hrun,hA,hst⟩:=Rn hok hρ φ (.refl φ) σ l L w hl hw hpre hgood;rw[hrun];obtain⟨r,hr,hsub⟩:=kH h _ hx;have q1:=p1.2 _ hx;cases n<;>cases n'<;>first|exact hA.elim|skip
      case value.value v v'=>cases hr;exact⟨_,hsub _ (List.mem_singleton.2 rfl),ψ',L',hA,hst⟩
      case skip.skip=>cases hr;exact⟨_,hsub _ (List.mem_singleton.2 rfl),ψ',L', .undef _,hst⟩
      case enter.enter f args f' args'=>
       obtain⟨rfl,hargs⟩:=hA;have Zj:=hf _ hx _ hr;refine Calls.mono ((hcall _ _ _ _ hr).2 ψ' args' L' w' (hg.mono hst) hargs (q1.wf hw) (hp.next hw q1 hst hsub) hst.g.good) fun e w'' he=> ?_;obtain⟨y,hy,v',φ',wQ,rfl,hv,hst'⟩:=he;exact⟨v',rfl,y,hsub y hy,φ',wQ,hv,hst.trans q1 (Zj.2 y hy) (hp y (hsub y hy)).1 hst'⟩
     ·cases h
    ·cases h
 ·cases h
theorem OE {call:fu} (hcall:ib E call) {N:Nat} {ops:Array Oper}:∀{l:List Nat} {T:Tree Value} {σ:St} {outs:List (Tree Value×St)},yT E call N ops l T σ=some outs→
  Ends σ (·.2) outs∧∀φ L w a (Q:Exit→Act→World→Prop),nV E φ L→nR φ N T a→WF σ→Pre φ L σ (·.2) outs→Good φ L w→
   (∀o∈outs,∀φ' L' a' w',nR φ' N o.1 a'→Step σ o.2 φ φ' L L' w w'→Q .normal a' w')→wpOps E.P ops Q l a w:=by
 intro l;induction l with
 |nil=>
  intro T σ outs h;cases h;refine⟨⟨by simp,fun x hx=>by simp at hx;subst hx;exact .refl σ⟩,fun φ L w a Q hg hT hw hp hgood hQ=> ?_⟩;exact hQ _ (List.mem_singleton.2 rfl) φ L a w hT (.refl hgood hw (hp _ (List.mem_singleton.2 rfl)).2)
 |cons i rest ih=>
  intro T σ outs h;unfold yT at h;rw[zS] at h;split at h
  ·cases h
  ·rename_i o ho;split at h
   ·rename_i hwant;split at h
    ·rename_i l1 hl1;obtain⟨e1,s1⟩:=Bf hcall hl1;have hf:∀x∈l1,∀r,(fun x:Value×St=>yT E call N ops rest (pQ N T o.dst x.1) x.2) x=some r→Ends x.2 (·.2) r:=fun x _ r hr=>(ih hr).1;refine⟨e1.bnd h hf,fun φ L w a Q hg hT hw hp hgood hQ=> ?_⟩;simp only[wpOps,ho];rw[←Fb hT];simp only[hwant,if_true];refine .inl ?_
     have hops:∀x∈o.op.operands,aC φ (uM T x) (a.eval x):=fun x hx=>by
      refine KU hg hT ?_
      have hall:o.op.operands.all (rz E.G)=true:=by
       unfold yU at hl1;split at hl1
       ·assumption
       ·cases hl1
      rw[Array.all_eq_true_iff_forall_mem] at hall;exact hall x hx
     refine(s1 φ a.eval L w hg hops hw (hp.first h hf) hgood).wp ?_;rintro v' w' ⟨x,hx,φ',L',hv,hst⟩;obtain⟨r,hr,hsub⟩:=kH h x hx;have q1:=e1.2 x hx;obtain⟨e2,s2⟩:=ih hr;refine s2 φ' L' w' _ Q (hg.mono hst) (Ic (hT.mono hst.g.le) o.dst hv) (q1.wf hw) (hp.next hw q1 hst hsub) hst.g.good ?_;intro y hy vk wQ a'' w'' hT' hst';exact hQ y (hsub y hy) vk wQ a'' w'' hT' (hst.trans q1 (e2.2 y hy) (hp y (hsub y hy)).1 hst')
    ·cases h
   ·rename_i hwant;obtain⟨e2,s2⟩:=ih h;refine⟨e2,fun φ L w a Q hg hT hw hp hgood hQ=> ?_⟩;simp only[wpOps,ho];rw[←Fb hT];simp only[hwant,Bool.false_eq_true,if_false];exact s2 φ L w _ Q hg (Ic hT o.dst (.undef φ)) hw hp hgood hQ
/-- A loop whose round is under way. -/
def oP (P:Program) (c:Code) (Q:Exit→Act→World→Prop) (a:Act) (w:World):Prop:=
 ∀(b:Frame) (k:List Item) (cs:List Frame),∃e a' w',Q e a' w'∧Arrives P (lone (b.at a (.code c:: .inLoop c::k)) cs w) b k cs e a' w'
theorem oP.loop {P:Program} {c:Code} {Q:Exit→Act→World→Prop} {a:Act} {w:World} (h:oP P c Q a w):(Code.loop c).wp P Q a w:=
 fun b k cs=>let ⟨e,a',w',hq,harr⟩:=h b k cs;⟨e,a',w',hq, .of_steps (.one step_loop) harr⟩
theorem oP.next {P:Program} {c:Code} {Q:Exit→Act→World→Prop} {a:Act} {w:World} (h:c.wp P (Exit.then (fun a' w'=>oP P c Q a' w') Q) a w):oP P c Q a w:=by
 intro b k cs;obtain⟨e,a₁,w₁,hq,harr⟩:=h b (.inLoop c::k) cs;cases e with
 |normal=>
  obtain⟨e₂,a₂,w₂,hq₂,harr₂⟩:=hq b k cs;exact⟨e₂,a₂,w₂,hq₂, .of_steps (Steps.trans harr (.one step_inLoop)) harr₂⟩
 |exit id=>exact⟨_,a₁,w₁,hq, .pass (x:= .inLoop c) rfl (fun _ _=> .inl (by simp)) harr⟩
 |goto l=>exact⟨_,a₁,w₁,hq, .pass (x:= .inLoop c) rfl (fun _ _=> .inl (by simp)) harr⟩
 |ret=>exact⟨_,a₁,w₁,hq, .pass (x:= .inLoop c) rfl (fun _ _=> .inl (by simp)) harr⟩
 |panic ch=>exact⟨_,a₁,w₁,hq, .pass (x:= .inLoop c) rfl (fun _ _=> .inl (by simp)) harr⟩
 |outgrown=>exact⟨_,a₁,w₁,hq, .pass (x:= .inLoop c) rfl (fun _ _=> .inl (by simp)) harr⟩
/-- Code, or a loop whose round is under way. -/
def CW (P:Program) (c:Code) (Q:Exit→Act→World→Prop) (a:Act) (w:World):Prop:=
 match c with
 | .loop b=>oP P b Q a w
 |c=>c.wp P Q a w
theorem CW.wp {P:Program} {c:Code} {Q:Exit→Act→World→Prop} {a:Act} {w:World} (h:CW P c Q a w):c.wp P Q a w:=by
 cases c<;>first|exact h|exact oP.loop h
end
section
variable {E:Env}
abbrev Gy:=fu→Nat→Array Oper→Tree Value→St→Option (Tree Value×St)
abbrev Bw:=Func→Tree Value→St→JA
def Qv (E:Env) (draw:Gy):Prop:=∀call N ops T σ T' σ',ib E call→draw call N ops T σ=some (T',σ')→bn σ σ'∧
 ∀(id:Nat) φ L w a (Q:Exit→Act→World→Prop),nV E φ L→nR φ N T a→WF σ→Clear φ L σ σ'→Agree L σ σ'→Good φ L w→
  (∀φ' L' a' w',nR φ' N T' a'→Step σ σ' φ φ' L L' w w'→Q .normal a' w')→(Code.region id ops true).wp E.P Q a w
def M9 (E:Env) (jd:Bw):Prop:=∀fn T σ outs,jd fn T σ=some outs→Ends σ (·.2) outs∧
 ∀φ L w a N,nV E φ L→nR φ N T a→WF σ→Pre φ L σ (·.2) outs→Good φ L w→
  ∃x∈outs,∃v φ' L',(results fn a.tmps).run E.P w= .ok v w∧aC φ' x.1 v∧Step σ x.2 φ φ' L L' w w
def fromList:Nat→List Value→Tree Value
 |_,[]=> .leaf
 |n,v::l=>(fromList (n+1) l).set n (some v)
theorem zb:∀(l:List Value) (n t:Nat),(fromList n l).get t=if n≤t then l[t-n]? else none
 |[],n,t=>by simp[fromList,Tree.get]
 |v::l,n,t=>by
  simp only[fromList,Tree.jG,zb l (n+1) t];by_cases h:n=t
  ·subst h;simp
  ·by_cases h2:n≤t
   ·have h3:n+1≤t:=by omega
    simp only[h,h2,h3,if_false,if_true];have:t-n=(t-(n+1))+1:=by omega
    rw[this];simp
   ·have h3:¬n+1≤t:=by omega
    simp[h,h2,h3]
noncomputable def pU (E:Env) (jd:Bw) (code:Nat→Code→Tree Value→St→Aa):fu:=fun f args σ=>
 if args.isEmpty&&E.known.contains f then some [(.bool true,σ)] else
 match E.rW f args σ with
 |some outs=>some outs
 |none=>
 match nth E.P.funcs.toList f with
 |some fn=>match fn.body with
  |some body=>
   match code (max fn.ntmps args.size) body (fromList 0 args.toList) σ with
   |some outs=>bnd (fun x=>match x.1 with
    | .exit _=>none
    |_=>jd fn x.2.1 x.2.2) outs
   |none=>none
  |none=>none
 |none=>none
/-- Code. -/
noncomputable def jT (E:Env) (draw:Gy) (jd:Bw):Nat→Nat→Code→Tree Value→St→Aa
 |0,_,_,_,_=>none
 |n+1,N,c,T,σ=>
  match c with
  | .skip=>some [(.normal,T,σ)]
  | .seq a b=>match jT E draw jd n N a T σ with
    |some outs=>bnd (fun x=>match x.1 with
     | .normal=>jT E draw jd n N b x.2.1 x.2.2
     |_=>some [x]) outs
    |none=>none
  | .cond c a b=>if rz E.G c then match uM T c with
    | .bool t=>jT E draw jd n N (if t then a else b) T σ
    |_=>none
    else none
  | .block id body=>match jT E draw jd n N body T σ with
    |some outs=>bnd (fun x=>match x.1 with
     | .exit id'=>if id'=id then some [(.normal,x.2)] else some [x]
     |_=>some [x]) outs
    |none=>none
  | .loop body=>match jT E draw jd n N body T σ with
    |some outs=>bnd (fun x=>match x.1 with
     | .normal=>jT E draw jd n N (.loop body) x.2.1 x.2.2
     |_=>some [x]) outs
    |none=>none
  | .exit id=>some [(.exit id,T,σ)]
  | .ret=>some [(.ret,T,σ)]
  | .region _ ops false=>match yT E (pU E jd (jT E draw jd n)) N ops (List.range ops.size) T σ with
    |some outs=>bnd (fun x=>some [(.normal,x.1,x.2)]) outs
    |none=>none
  | .region _ ops true=>match draw (pU E jd (jT E draw jd n)) N ops T σ with
    |some x=>some [(.normal,x.1,x.2)]
    |none=>none
  |_=>none
def J2 (E:Env) (code:Nat→Code→Tree Value→St→Aa):Prop:=∀N c T σ outs,code N c T σ=some outs→Ends σ (fun x=>x.2.2) outs∧
 ∀φ L w a (Q:Exit→Act→World→Prop),nV E φ L→nR φ N T a→WF σ→Pre φ L σ (fun x=>x.2.2) outs→Good φ L w→
  (∀o∈outs,∀φ' L' a' w',nR φ' N o.2.1 a'→Step σ o.2.2 φ φ' L L' w w'→Q o.1.to a' w')→CW E.P c Q a w
/-- What is known already answers true, in any world that holds the tables, and turns nothing. -/
def zY (E:Env):Prop:=∀f,E.known.contains f=true→∀φ L w,nV E φ L→Good φ L w→Calls E.P f #[] w fun e w'=>e= .returned (.bool true)∧
 w.heap.size≤w'.heap.size∧(∀r,r<w.heap.size→w'.heap[r]?=w.heap[r]?)∧w'.os=w.os∧w'.tape=w.tape∧w'.output=w.output
theorem Ij (wC:zY E) (zV:ib E E.rW) {jd:Bw} (hres:M9 E jd) {code:Nat→Code→Tree Value→St→Aa} (hcode:J2 E code):ib E (pU E jd code):=by
 intro f args σ outs h;unfold pU at h;simp only[zS] at h;split at h
 ·rename_i hk;cases h;simp only[Bool.and_eq_true,Array.isEmpty_iff] at hk;obtain⟨rfl,hk⟩:=hk;refine⟨⟨by simp,fun x hx=>by simp at hx;subst hx;exact .refl σ⟩,fun φ args' L w hg hargs hw hp hgood=> ?_⟩;have e1:args'= #[]:=by have:=hargs.1;simpa using this
  subst e1;refine(wC f hk φ L w hg hgood).mono ?_;rintro e w' ⟨rfl,hs,hh,h1,h2,h3⟩;have hag:=(hp _ (List.mem_singleton.2 rfl)).2
  have CS:Good φ L w':=⟨fun b o hb=>by
   obtain⟨r,e,ob,h1,h2,h3⟩:=hgood.obj b o hb;exact⟨r,e,ob,h1,by rw[hh r (Array.getElem?_eq_some_iff.1 h2).1];exact h2,h3⟩,hgood.inj⟩
  exact⟨_,List.mem_singleton.2 rfl,_,φ,L,rfl, .sc rfl,⟨⟨.refl φ,fun b h h'=>absurd h h',CS,fun _ _ _=>rfl,fun _ _ h=>h,hs,fun r hr _=>hh r hr,fun b h=>by have h':σ.next≤b∧b<σ.next:=h;omega,⟨h1,h2,h3⟩,fun _ _ h=>h⟩,
   (Step.refl hgood hw hag).here⟩⟩
 split at h
 ·rename_i r hr;cases h;exact zV f args σ _ hr
 split at h
 ·rename_i fn hfn;split at h
  ·rename_i body hbody;split at h
   ·rename_i l hl;obtain⟨e1,s1⟩:=hcode _ _ _ _ _ hl
    have hf:∀x∈l,∀r,(fun x:LX×Tree Value×St=>match x.1 with
      | .exit _=>none
      |_=>jd fn x.2.1 x.2.2) x=some r→Ends x.2.2 (·.2) r:=fun x _ r hr=>by
     obtain⟨e,T,τ⟩:=x;cases e<;>first|cases hr|exact(hres _ _ _ _ hr).1
    refine⟨e1.bnd h hf,fun φ args' L w hg hargs hw hp hgood=> ?_⟩;refine calls_of_wp hfn hbody (CW.wp ?_)
    have hT:nR φ (max fn.ntmps args.size) (fromList 0 args.toList) {tmps:=args'++Array.replicate (fn.ntmps-args'.size) undef,defers:=[]}:=by
     refine⟨by simp[hargs.1];omega,rfl,fun t=> ?_⟩;rw[zb];simp only[Nat.zero_le,if_true,Nat.sub_zero];have hs:=hargs.1;by_cases ht:t<args.size
     ·have ht':t<args'.size:=by omega
      have hr:=hargs.2 t args[t] args'[t] (Array.getElem?_eq_getElem ht) (Array.getElem?_eq_getElem ht')
      have e2:(args'++Array.replicate (fn.ntmps-args'.size) undef).getD t undef=args'[t]:=by
       rw[Array.getD_eq_getD_getElem?,Array.getElem?_append_left ht',Array.getElem?_eq_getElem ht'];rfl
      rw[e2];simp[ht,hr]
     ·have e1:args.toList[t]?=none:=by simp;omega
      have e2:(args'++Array.replicate (fn.ntmps-args'.size) undef).getD t undef=undef:=by
       rw[Array.getD_eq_getD_getElem?,Array.getElem?_append_right (by omega),Array.getElem?_replicate];split<;>rfl
      rw[e1,e2];exact .undef φ
    refine s1 φ L w _ _ hg hT hw (hp.first h hf) hgood ?_;rintro⟨e,T',τ⟩ ho φ' L' a' w' hT' hst;obtain⟨r,hr,hsub⟩:=kH h _ ho;have q1:=e1.2 _ ho
    have fin:jd fn T' τ=some r→a'.defers=[]∧∃v,(results fn a'.tmps).run E.P w'= .ok v w'∧
      ∃o∈outs,∃v' vk wQ,Ending.returned v= .returned v'∧aC vk o.1 v'∧Step σ o.2 φ vk L wQ w w':=by
     intro hr;obtain⟨e2,s2⟩:=hres _ _ _ _ hr;obtain⟨x,hx,v,vk,wQ,hrun,hv,hst'⟩:=s2 φ' L' w' a' _ (hg.mono hst) hT' (q1.wf hw) (hp.next hw q1 hst hsub) hst.g.good;exact⟨hT'.2.1,v,hrun,x,hsub x hx,v,vk,wQ,rfl,hv,hst.trans q1 (e2.2 x hx) (hp x (hsub x hx)).1 hst'⟩
    cases e with
    |exit id=>cases hr
    |normal=>exact fin hr
    |ret=>exact fin hr
   ·cases h
  ·cases h
 ·cases h
theorem Ends.one {α:Type} {σ:St} {g:α→St} {x:α} (h:bn σ (g x)):Ends σ g [x]:=⟨by simp,fun y hy=>by simp at hy;subst hy;exact h⟩
theorem MG (wC:zY E) (zV:ib E E.rW) {draw:Gy} {jd:Bw} (Zk:Qv E draw) (hres:M9 E jd):∀n,J2 E (jT E draw jd n):=by
 intro n;induction n with
 |zero=>intro N c T σ outs h;cases h
 |succ n ih=>
  intro N c T σ outs h;have hcall:=Ij wC zV hres ih;have single:∀(x:LX×Tree Value×St),∀r,some [x]=some r→Ends x.2.2 (fun x:LX×Tree Value×St=>x.2.2) r:=fun x r hr=>by cases hr;exact Ends.one (.refl _)
  unfold jT at h;cases c<;>try simp only at h
  case skip=>
   cases h;exact⟨Ends.one (.refl σ),fun φ L w a Q hg hT hw hp hgood hQ=>wp_skip (hQ _ (List.mem_singleton.2 rfl) φ L a w hT (.refl hgood hw (hp _ (List.mem_singleton.2 rfl)).2))⟩
  case exit id=>
   cases h;exact⟨Ends.one (.refl σ),fun φ L w a Q hg hT hw hp hgood hQ=>wp_exit (hQ _ (List.mem_singleton.2 rfl) φ L a w hT (.refl hgood hw (hp _ (List.mem_singleton.2 rfl)).2))⟩
  case ret=>
   cases h;exact⟨Ends.one (.refl σ),fun φ L w a Q hg hT hw hp hgood hQ=>wp_ret (hQ _ (List.mem_singleton.2 rfl) φ L a w hT (.refl hgood hw (hp _ (List.mem_singleton.2 rfl)).2))⟩
  case region id ops d=>
   cases d with
   |false=>
    simp only at h;split at h
    ·rename_i l hl;obtain⟨e1,s1⟩:=OE hcall hl;have hf:∀x∈l,∀r,(fun x:Tree Value×St=>some [((LX.normal,x.1,x.2):LX×Tree Value×St)]) x=some r→Ends x.2 (fun x:LX×Tree Value×St=>x.2.2) r:=fun x _ r hr=>by cases hr;exact Ends.one (.refl _)
     refine⟨e1.bnd h hf,fun φ L w a Q hg hT hw hp hgood hQ=>wp_region (s1 φ L w a Q hg hT hw (hp.first h hf) hgood ?_)⟩;intro o ho φ' L' a' w' hT' hst;obtain⟨r,hr,hsub⟩:=kH h o ho;cases hr;exact hQ _ (hsub _ (List.mem_singleton.2 rfl)) φ' L' a' w' hT' hst
    ·cases h
   |true=>
    simp only at h;split at h
    ·rename_i x hx;cases h;obtain⟨p1,s1⟩:=Zk _ _ _ _ _ _ _ hcall hx;refine⟨Ends.one p1,fun φ L w a Q hg hT hw hp hgood hQ=> ?_⟩;have hp':=hp _ (List.mem_singleton.2 rfl);exact s1 id φ L w a Q hg hT hw hp'.1 hp'.2 hgood fun φ' L' a' w' hT' hst=>hQ _ (List.mem_singleton.2 rfl) φ' L' a' w' hT' hst
    ·cases h
  case seq c1 c2=>
   split at h
   ·rename_i l hl;obtain⟨e1,s1⟩:=ih _ _ _ _ _ hl
    have hf:∀x∈l,∀r,(fun x:LX×Tree Value×St=>match x.1 with
      | .normal=>jT E draw jd n N c2 x.2.1 x.2.2
      |_=>some [x]) x=some r→Ends x.2.2 (fun x:LX×Tree Value×St=>x.2.2) r:=fun x _ r hr=>by
     obtain⟨e,T',τ⟩:=x;cases e<;>first|exact(ih _ _ _ _ _ hr).1|exact single _ r hr
    refine⟨e1.bnd h hf,fun φ L w a Q hg hT hw hp hgood hQ=>wp_seq (CW.wp (s1 φ L w a _ hg hT hw (hp.first h hf) hgood ?_))⟩;rintro⟨e,T',τ⟩ ho φ' L' a' w' hT' hst;obtain⟨r,hr,hsub⟩:=kH h _ ho;have q1:=e1.2 _ ho;cases e with
    |normal=>
     obtain⟨e2,s2⟩:=ih _ _ _ _ _ hr
     exact CW.wp (s2 φ' L' w' a' Q (hg.mono hst) hT' (q1.wf hw) (hp.next hw q1 hst hsub) hst.g.good fun y hy vk wQ a'' w'' R4 MK=>
      hQ y (hsub y hy) vk wQ a'' w'' R4 (hst.trans q1 (e2.2 y hy) (hp y (hsub y hy)).1 MK))
    |exit id=>cases hr;exact hQ _ (hsub _ (List.mem_singleton.2 rfl)) φ' L' a' w' hT' hst
    |ret=>cases hr;exact hQ _ (hsub _ (List.mem_singleton.2 rfl)) φ' L' a' w' hT' hst
   ·cases h
  case cond x c1 c2=>
   split at h
   ·rename_i hx;split at h
    ·rename_i t ht;obtain⟨e1,s1⟩:=ih _ _ _ _ _ h;refine⟨e1,fun φ L w a Q hg hT hw hp hgood hQ=> ?_⟩;have hv:=KU hg hT hx;rw[ht] at hv
     have ha:a.eval x= .bool t:=by
      generalize a.eval x=y at hv;cases hv;rfl
     exact wp_cond ha (CW.wp (s1 φ L w a Q hg hT hw hp hgood hQ))
    ·cases h
   ·cases h
  case block id body=>
   split at h
   ·rename_i l hl;obtain⟨e1,s1⟩:=ih _ _ _ _ _ hl
    have hf:∀x∈l,∀r,(fun x:LX×Tree Value×St=>match x.1 with
      | .exit id'=>if id'=id then some [(LX.normal,x.2)] else some [x]
      |_=>some [x]) x=some r→Ends x.2.2 (fun x:LX×Tree Value×St=>x.2.2) r:=fun x _ r hr=>by
     obtain⟨e,T',τ⟩:=x;cases e with
     |exit id'=>simp only at hr;split at hr<;>(cases hr;exact Ends.one (.refl _))
     |_=>exact single _ r hr
    refine⟨e1.bnd h hf,fun φ L w a Q hg hT hw hp hgood hQ=>wp_block (CW.wp (s1 φ L w a _ hg hT hw (hp.first h hf) hgood ?_))⟩;rintro⟨e,T',τ⟩ ho φ' L' a' w' hT' hst;obtain⟨r,hr,hsub⟩:=kH h _ ho;cases e with
    |normal=>cases hr;exact hQ _ (hsub _ (List.mem_singleton.2 rfl)) φ' L' a' w' hT' hst
    |ret=>cases hr;exact hQ _ (hsub _ (List.mem_singleton.2 rfl)) φ' L' a' w' hT' hst
    |exit id'=>
     simp only at hr;simp only[LX.to,Exit.inBlock];split at hr
     ·rename_i hid;cases hr;simp only[hid,if_true];exact hQ _ (hsub _ (List.mem_singleton.2 rfl)) φ' L' a' w' hT' hst
     ·rename_i hid;cases hr;simp only[hid,if_false];exact hQ _ (hsub _ (List.mem_singleton.2 rfl)) φ' L' a' w' hT' hst
   ·cases h
  case loop body=>
   split at h
   ·rename_i l hl;obtain⟨e1,s1⟩:=ih _ _ _ _ _ hl
    have hf:∀x∈l,∀r,(fun x:LX×Tree Value×St=>match x.1 with
      | .normal=>jT E draw jd n N (.loop body) x.2.1 x.2.2
      |_=>some [x]) x=some r→Ends x.2.2 (fun x:LX×Tree Value×St=>x.2.2) r:=fun x _ r hr=>by
     obtain⟨e,T',τ⟩:=x;cases e<;>first|exact(ih _ _ _ _ _ hr).1|exact single _ r hr
    refine⟨e1.bnd h hf,fun φ L w a Q hg hT hw hp hgood hQ=>oP.next (CW.wp (s1 φ L w a _ hg hT hw (hp.first h hf) hgood ?_))⟩;rintro⟨e,T',τ⟩ ho φ' L' a' w' hT' hst;obtain⟨r,hr,hsub⟩:=kH h _ ho;have q1:=e1.2 _ ho;cases e with
    |normal=>
     obtain⟨e2,s2⟩:=ih _ _ _ _ _ hr
     exact s2 φ' L' w' a' Q (hg.mono hst) hT' (q1.wf hw) (hp.next hw q1 hst hsub) hst.g.good fun y hy vk wQ a'' w'' R4 MK=>
      hQ y (hsub y hy) vk wQ a'' w'' R4 (hst.trans q1 (e2.2 y hy) (hp y (hsub y hy)).1 MK)
    |exit id=>cases hr;exact hQ _ (hsub _ (List.mem_singleton.2 rfl)) φ' L' a' w' hT' hst
    |ret=>cases hr;exact hQ _ (hsub _ (List.mem_singleton.2 rfl)) φ' L' a' w' hT' hst
   ·cases h
  all_goals cases h
end
end Ck

/- What a call hands back, on the checker's memory and in a world. -/
namespace Ck
open Go
/-- What a call hands back. -/
def CB (fn:Func) (T:Tree Value):Sem Value:=do
 let vs ←fn.results.mapM fun
  | .tmp t=>pure (uM T (.tmp t))
  | .cell a t=>do loadVar t (←asAddr (uM T (.tmp a)))
 pure (if h:vs.size=1 then vs[0] else .tuple vs)
def qV (E:Env):Bw:=fun fn T σ=>bW E.P (CB fn T) σ
section
variable {P:Program} {α β:Type}
/-- A run that turns nothing. -/
def Quiet (P:Program) (s:Sem α):Prop:=∀w a w',s.run P w= .ok a w'→w'=w
theorem Quiet.pure (a:α):Quiet P (Pure.pure a:Sem α):=fun w b w' h=>by cases h;rfl
theorem Quiet.halt (x:Halt):Quiet P (.halt x:Sem α):=fun w b w' h=>by cases h
theorem Quiet.bind {s:Sem α} {f:α→Sem β} (h:Quiet P s) (k:∀a,Quiet P (f a)):Quiet P (s>>= f):=fun w b w' hr=>by
 replace hr:(s.bind f).run P w= .ok b w':=hr;rw[run_bind'] at hr;cases hs:s.run P w with
 |halt x w1=>rw[hs] at hr;cases hr
 |ok a w1=>
  rw[hs] at hr;have:=h w a w1 hs;subst this;exact k a _ _ _ hr
theorem Quiet.load (a:Addr) (m:Mode):Quiet P (load a m):=fun w b w' h=>by
 replace h:(Sem.load m a .pure).run P w= .ok b w':=h;simp only[Sem.run] at h;split at h
 ·cases h;rfl
 ·split at h
  ·cases h;rfl
  ·cases h
theorem Quiet.program:Quiet P program:=fun w b w' h=>by cases h;rfl
theorem Ch (a:Addr) (n:Nat):∀(i:Nat) (acc:Array Value),Quiet P (loadCellsFrom a i n acc):=by
 induction n with
 |zero=>intro i acc;exact Quiet.pure _
 |succ n ih=>intro i acc;unfold loadCellsFrom;exact Quiet.bind (Quiet.load _ _) fun v=>ih _ _
theorem A7 (t:TypeId):Quiet P (underlying t):=by
 unfold underlying;refine Quiet.bind Quiet.program fun p=> ?_;cases Program.underlying p t<;>first|exact Quiet.pure _|exact Quiet.halt _
theorem Ht (t:TypeId):Quiet P (sizeOf t):=by
 unfold sizeOf typeInfo;refine Quiet.bind (Quiet.bind Quiet.program fun p=> ?_) fun i=>Quiet.pure _;cases Tables.info? p.toTables t<;>first|exact Quiet.pure _|exact Quiet.halt _
theorem F9 (t:TypeId) (a:Addr):Quiet P (loadVar t a):=by
 unfold loadVar isAgg;refine Quiet.bind (Quiet.bind (A7 t) fun d=> ?_) fun b=> ?_
 ·cases d<;>exact Quiet.pure _
 ·cases b
  ·exact Quiet.load _ _
  ·exact Quiet.bind (Ht t) fun n=>Quiet.bind (Ch a n 0 #[]) fun cs=>Quiet.pure _
theorem Hu (v:Value):Quiet P (asAddr v):=by
 cases v<;>first|exact Quiet.halt _|skip
 rename_i a;cases a with
 |none=>exact Quiet.bind Quiet.program fun p=>Quiet.halt _
 |some a=>exact Quiet.pure _
theorem Mq {γ:Type} (f:γ→Sem Value) (hf:∀x,Quiet P (f x)):∀l:List γ,Quiet P (l.mapM f):=by
 intro l;induction l with
 |nil=>exact Quiet.pure _
 |cons x l ih=>
  rw[List.mapM_cons];exact Quiet.bind (hf x) fun v=>Quiet.bind ih fun vs=>Quiet.pure _
theorem F8 (fn:Func) (tmps:Array Value):Quiet P (results fn tmps):=by
 unfold results;rw[Array.mapM_eq_mapM_toList];refine Quiet.bind (Quiet.bind (Mq _ (fun x=> ?_) _) fun vs=>Quiet.pure _) fun vs=>Quiet.pure _;cases x with
 |tmp t=>exact Quiet.pure _
 |cell a t=>exact Quiet.bind (Hu _) fun b=>F9 _ _
theorem QU {γ:Type} {f g:γ→Sem Value}:∀(l:List γ) {φ:bq},(∀x,∀ψ,Le φ ψ→aj P ψ aC (f x) (g x))→aj P φ gT (l.mapM f) (l.mapM g):=by
 intro l;induction l with
 |nil=>intro φ h;exact aj.ret fun ψ _=>gT.nil ψ
 |cons x l ih=>
  intro φ h;rw[List.mapM_cons,List.mapM_cons];refine aj.bind (h x φ (.refl φ)) ?_;intro ψ hl v v' hv;refine aj.bind (ih fun y χ hχ=>h y χ (hl.trans hχ)) ?_;intro χ hχ vs us hvs;exact aj.ret fun _ hle=>(gT.cons (hv.mono hχ) hvs).mono hle
theorem J8 {φ:bq} {N:Nat} {T:Tree Value} {a:Act} (fn:Func) (hT:nR φ N T a):aj P φ aC (CB fn T) (results fn a.tmps):=by
 unfold results CB;rw[Array.mapM_eq_mapM_toList,Array.mapM_eq_mapM_toList];refine aj.bind (A:=bu) ?_ ?_
 ·refine aj.bind (QU _ (fun x ψ hψ=> ?_)) ?_
  ·cases x with
   |tmp t=>exact aj.ret fun _ hle=>((hT.2.2 t).mono hψ).mono hle
   |cell b t=>
    refine aj.bind (Mj ((hT.2.2 b).mono hψ)) ?_;intro χ hχ c c' hc;exact Ae t hc
  ·intro ψ hψ l m hlm;exact aj.ret fun _ hle=>bu.ofList (by simpa using hlm.mono hle)
 ·intro ψ hψ vs us hvs;refine aj.ret fun χ hχ=> ?_;have hv2:=hvs.mono hχ;by_cases h1:vs.size=1
  ·have h2:us.size=1:=by rw[hvs.1,h1]
   simp only[h1,h2,dif_pos];exact hv2.2 0 _ _ (Array.getElem?_eq_getElem (by omega)) (Array.getElem?_eq_getElem (by omega))
  ·have h2:¬us.size=1:=by rw[hvs.1];exact h1
   simp only[h1,h2,dif_neg,not_false_eq_true];exact .DZ hv2
theorem Ib (E:Env):M9 E (qV E):=by
 intro fn T σ outs h;refine⟨oV E.P _ σ outs h,fun φ L w a N hg hT hw hp hgood=> ?_⟩;obtain⟨o,ho,v,w',ψ',L',hrun,hA,hst⟩:=J8 (P:=E.P) fn hT φ (.refl φ) σ outs L w h hw hp hgood;have hq:=F8 (P:=E.P) fn a.tmps w v w' hrun;subst hq;exact⟨o,ho,v,ψ',L',hrun,hA,hst⟩
end
end Ck

/- The checker's regions that draw their order: one way through, when what may come up beside one another does not meet. -/
namespace Ck
open Go
structure Rec where
 o:Oper
 T:Tree Value
 v:Value
 τ:St
 τ':St
def oh (σ:St):St:={σ with rd:=0,wr:=0}
def uK (σ τ:St):St:={τ with rd:=σ.rd|||τ.rd,wr:=σ.wr|||τ.wr}
noncomputable def xE (E:Env) (call:fu) (N:Nat) (ops:Array Oper):List Nat→Tree Value→St→Option (List Rec×Tree Value×St)
 |[],T,σ=>some ([],T,σ)
 |i::rest,T,σ=>
  match nth ops.toList i with
  |none=>none
  |some o=>
   if Region.wanted o (jc ops T) then
    match yU E call (uM T) o (oh σ) with
    |some [x]=>match xE E call N ops rest (pQ N T o.dst x.1) (uK σ x.2) with
     |some (rs,T',σ')=>some (⟨o,T,x.1,oh σ,x.2⟩::rs,T',σ')
     |none=>none
    |_=>none
   else match xE E call N ops rest (pQ N T o.dst undef) (uK σ (oh σ)) with
    |some (rs,T',σ')=>some (⟨o,T,undef,oh σ,oh σ⟩::rs,T',σ')
    |none=>none
/-- Which must have come ahead of each one. -/
def upTo (c:Array Nat) (o:Oper):Nat:=o.after.foldl (fun s e=>if Region.binds .any e then s|||2^e.on|||c.getD e.on 0 else s) 0
def masks (ops:Array Oper):Array Nat:=ops.foldl (fun acc o=>acc.push (upTo acc o)) #[]
def writers (ops:Array Oper):Tree Nat:=
 (ops.toList.zipIdx.foldl (fun W (x:Oper×Nat)=>match x.1.dst with|some d=>W.set d (some x.2)|none=>W) .leaf)
/-- What can be told of a region ahead of any run. -/
def QO (ops:Array Oper) (c:Array Nat) (W:Tree Nat):Bool:=
 ops.toList.zipIdx.all fun x=>
  (c.getD x.2 0|||upTo c x.1) == upTo c x.1&&
  x.1.after.all (fun e=> !Region.binds .any e||decide (e.on<x.2))&&
  (match x.1.dst with|some d=>W.get d == some x.2|none=>true)&&
  (x.1.looksAt ops).all (fun t=>match W.get t with
    |some j=>((c.getD x.2 0).testBit j&&decide (j<x.2))||((c.getD j 0).testBit x.2&&decide (x.2<j))
    |none=>true)&&
  (match x.1.op with| .select .. =>false|_=>true)
def ZN (ops:Array Oper):Bool:=QO ops (masks ops) (writers ops)
def Gj (x:Nat) (r:Rec):Bool:=(x>>>r.τ.next)%2^(r.τ'.next-r.τ.next) == 0
def apart (r s:Rec):Bool:=
 (r.τ'.wr&&& (s.τ'.rd|||s.τ'.wr)) == 0&&(s.τ'.wr&&& (r.τ'.rd|||r.τ'.wr)) == 0&&Gj (s.τ'.rd|||s.τ'.wr) r&&Gj (r.τ'.rd|||r.τ'.wr) s
def quiet (r:Rec):Bool:=r.τ'.rd == 0&&r.τ'.wr == 0&&r.τ'.next == r.τ.next
def sW (c:Array Nat):List (Rec×Nat)→Bool
 |[]=>true
 |x::l=>l.all (fun y=>(c.getD y.2 0).testBit x.2||apart x.1 y.1)&&sW c l
noncomputable def uQ (E:Env):Gy:=fun call N ops T σ=>
 if ZN ops then
  match xE E call N ops (List.range ops.size) T σ with
  |some (rs,T',σ')=>if sW (masks ops) (rs.zipIdx.filter fun x=> !quiet x.1) then some (T',σ') else none
  |none=>none
 else none
noncomputable def run (E:Env) (n:Nat):fu:=pU E (qV E) (jT E (uQ E) (qV E) n)
end Ck

/- The checker's regions that draw their order are right. -/
namespace Ck
open Go
section
variable {E:Env} {call:fu} {N:Nat} {ops:Array Oper}
inductive zZ (E:Env) (call:fu) (N:Nat) (ops:Array Oper):Nat→List Rec→Tree Value→St→Tree Value→St→Prop
 |nil {k T σ}:zZ E call N ops k [] T σ T σ
 |cons {k r rs T σ T' σ'} (hop:ops[k]?=some r.o) (hT:r.T=T) (hτ:r.τ=oh σ)
   (hrun:(Region.wanted r.o (jc ops T)=true∧yU E call (uM T) r.o (oh σ)=some [(r.v,r.τ')])∨(Region.wanted r.o (jc ops T)=false∧r.v=undef∧r.τ'=oh σ))
   (rest:zZ E call N ops (k+1) rs (pQ N T r.o.dst r.v) (uK σ r.τ') T' σ'):zZ E call N ops k (r::rs) T σ T' σ'
theorem Kn:∀(m k:Nat) (T:Tree Value) (σ:St) (rs:List Rec) (T':Tree Value) (σ':St),xE E call N ops (List.range' k m) T σ=some (rs,T',σ')→zZ E call N ops k rs T σ T' σ'∧rs.length=m:=by
 intro m;induction m with
 |zero=>intro k T σ rs T' σ' h;cases h;exact⟨.nil,rfl⟩
 |succ m ih=>
  intro k T σ rs T' σ' h;rw[List.range'_succ] at h;unfold xE at h;rw[zS] at h;split at h
  ·cases h
  ·rename_i o ho;split at h
   ·rename_i hw;split at h
    ·rename_i x hx;split at h
     ·rename_i rs1 T1 σ1 h1;cases h;obtain⟨c,hl⟩:=ih _ _ _ _ _ _ h1;exact⟨.cons ho rfl rfl (.inl ⟨hw,hx⟩) c,by simp[hl]⟩
     ·cases h
    ·cases h
   ·rename_i hw;split at h
    ·rename_i rs1 T1 σ1 h1;cases h;obtain⟨c,hl⟩:=ih _ _ _ _ _ _ h1;exact⟨.cons ho rfl rfl (.inr ⟨by simpa using hw,rfl,rfl⟩) c,by simp[hl]⟩
    ·cases h
def j4 (r:Rec) (b:Nat):Bool:=r.τ'.wr.testBit b||(decide (r.τ.next≤b)&&decide (b<r.τ'.next))
def foot (r:Rec) (b:Nat):Bool:=r.τ'.rd.testBit b||r.τ'.wr.testBit b
theorem lW {r:Rec} {b:Nat}:j4 r b=true↔r.τ'.W b∨St.N r.τ r.τ' b:=by simp[j4,St.W,St.N]
theorem Bj {r:Rec} {b:Nat}:foot r b=true↔(r.τ'.rd.testBit b=true∨r.τ'.wr.testBit b=true):=by simp[foot]
def lF:Nat→List Rec→(Nat→Bool)→Nat→Option cz→Option cz
 |_,[],_,_,x=>x
 |k,r::rs,D,b,x=>lF (k+1) rs D b (if D k&&j4 r b then r.τ'.m b else x)
def mJ (N:Nat):Nat→List Rec→(Nat→Bool)→Nat→Option Value→Option Value
 |_,[],_,_,x=>x
 |k,r::rs,D,t,x=>mJ N (k+1) rs D t (if D k&&(r.o.dst == some t&&decide (t<N)) then some r.v else x)
theorem nX {D D':Nat→Bool} {b:Nat}:∀{rs:List Rec} {k:Nat} {x:Option cz},(∀(i:Nat) (r:Rec),rs[i]?=some r→j4 r b=true→D (k+i)=D' (k+i))→lF k rs D b x=lF k rs D' b x
 |[],_,_,_=>rfl
 |r::rs,k,x,h=>by
  have h0:=h 0 r rfl
  have e:(if D k&&j4 r b then r.τ'.m b else x)=(if D' k&&j4 r b then r.τ'.m b else x):=by
   by_cases hw:j4 r b=true
   ·have:=h0 hw;rw[Nat.add_zero] at this;rw[this]
   ·simp[hw]
  simp only[lF];rw[e];exact nX fun i s hs hw=>by have:=h (i+1) s (by simpa using hs) hw;rw[show k+1+i=k+(i+1) by omega];exact this
theorem sO {D:Nat→Bool} {b:Nat}:∀{rs:List Rec} {k:Nat} {x:Option cz},(∀i,D (k+i)=false)→lF k rs D b x=x
 |[],_,_,_=>rfl
 |r::rs,k,x,h=>by
  have h0:=h 0;rw[Nat.add_zero] at h0;simp only[lF,h0,Bool.false_and,Bool.false_eq_true,if_false];exact sO fun i=>by have:=h (i+1);rw[show k+1+i=k+(i+1) by omega];exact this
theorem Ie {b:Nat}:∀{rs:List Rec} {k i:Nat} {r:Rec} {x:Option cz},rs[i]?=some r→j4 r b=true→lF k rs (fun j=>decide (j≤k+i)) b x=r.τ'.m b
 |[],_,i,_,_,h,_=>by simp at h
 |s::rs,k,0,r,x,h,hw=>by
  cases h;simp only[lF,Nat.add_zero,Nat.le_refl,decide_true,Bool.true_and,hw,if_true];exact sO fun i=>by simp;omega
 |s::rs,k,i+1,r,x,h,hw=>by
  simp only[lF];have:=Ie (k:=k+1) (i:=i) (x:=if decide (k≤k+(i+1))&&j4 s b then s.τ'.m b else x) (by simpa using h) hw;rw[show k+1+i=k+(i+1) by omega] at this;exact this
theorem pE {D D':Nat→Bool} {t:Nat}:∀{rs:List Rec} {k:Nat} {x:Option Value},(∀(i:Nat) (r:Rec),rs[i]?=some r→r.o.dst=some t→t<N→D (k+i)=D' (k+i))→mJ N k rs D t x=mJ N k rs D' t x
 |[],_,_,_=>rfl
 |r::rs,k,x,h=>by
  have h0:=h 0 r rfl
  have e:(if D k&&(r.o.dst == some t&&decide (t<N)) then some r.v else x)=(if D' k&&(r.o.dst == some t&&decide (t<N)) then some r.v else x):=by
   by_cases hw:(r.o.dst == some t&&decide (t<N))=true
   ·simp only[Bool.and_eq_true,beq_iff_eq,decide_eq_true_eq] at hw;have:=h0 hw.1 hw.2;rw[Nat.add_zero] at this;rw[this]
   ·simp[hw]
  simp only[mJ];rw[e];exact pE fun i s hs h1 h2=>by have:=h (i+1) s (by simpa using hs) h1 h2;rw[show k+1+i=k+(i+1) by omega];exact this
theorem yL {D:Nat→Bool} {t:Nat} {rs:List Rec} {k:Nat} {x:Option Value} (h:∀(i:Nat) (r:Rec),rs[i]?=some r→r.o.dst=some t→t<N→D (k+i)=false):mJ N k rs D t x=x:=by
 rw[pE (D':=fun _=>false) h];clear h;induction rs generalizing k x with
 |nil=>rfl
 |cons r rs ih=>simp only[mJ,Bool.false_and,Bool.false_eq_true,if_false];exact ih
theorem GQ {D:Nat→Bool} {t:Nat}:∀{rs:List Rec} {k i:Nat} {r:Rec} {x:Option Value},rs[i]?=some r→r.o.dst=some t→t<N→D (k+i)=true→(∀j s,rs[j]?=some s→s.o.dst=some t→j=i)→mJ N k rs D t x=some r.v
 |[],_,i,_,_,h,_,_,_,_=>by simp at h
 |s::rs,k,0,r,x,h,hd,ht,hD,hu=>by
  cases h;rw[Nat.add_zero] at hD;simp only[mJ,hD,hd,beq_self_eq_true,ht,decide_true,Bool.true_and,if_true];exact yL fun j s hs hd _=>by have:=hu (j+1) s (by simpa using hs) hd;omega
 |s::rs,k,i+1,r,x,h,hd,ht,hD,hu=>by
  simp only[mJ]
  exact GQ (k:=k+1) (i:=i) (by simpa using h) hd ht (by rw[show k+1+i=k+(i+1) by omega];exact hD) fun j s hs hd=>by
   have:=hu (j+1) s (by simpa using hs) hd;omega
theorem Sk {σ τ:St} (h:bn (oh σ) τ):bn σ (uK σ τ) where
 next:=h.next
 rd:=fun b hb=>by simp[uK,Nat.testBit_or,hb]
 wr:=fun b hb=>by simp[uK,Nat.testBit_or,hb]
 BH:=fun b hb=>by
  simp only[uK,Nat.testBit_or,Bool.or_eq_true] at hb;rcases hb with hb|hb
  ·exact .inl hb
  ·rcases h.BH b hb with hb|hb
   ·simp[oh] at hb
   ·exact .inr hb
 mem:=fun b hb hn=>h.mem b (fun x=>hb (by simp[uK,Nat.testBit_or,x])) hn
 dead:=h.dead
theorem XG {σ:St} (h:WF σ):WF (oh σ):=⟨fun b hb=>by simp[oh] at hb,h.top⟩
theorem Rec.prop (hcall:ib E call) {r:Rec} {T:Tree Value} {σ:St} (_hτ:r.τ=oh σ)
  (hrun:(Region.wanted r.o (jc ops T)=true∧yU E call (uM T) r.o (oh σ)=some [(r.v,r.τ')])∨(Region.wanted r.o (jc ops T)=false∧r.v=undef∧r.τ'=oh σ)):bn (oh σ) r.τ':=by
 rcases hrun with⟨_,h⟩|⟨_,_,h⟩
 ·exact(Bf hcall h).1.2 _ (List.mem_singleton.2 rfl)
 ·rw[h];exact .refl _
/-- All that a chain tells. -/
structure Facts (E:Env) (call:fu) (N:Nat) (ops:Array Oper) (k:Nat) (rs:List Rec) (T:Tree Value) (σ:St) (T':Tree Value) (σ':St):Prop where
 prop:bn σ σ'
 op:∀(i:Nat) (r:Rec),rs[i]?=some r→ops[k+i]?=some r.o
 run:∀(i:Nat) (r:Rec),rs[i]?=some r→(Region.wanted r.o (jc ops r.T)=true∧yU E call (uM r.T) r.o r.τ=some [(r.v,r.τ')])∨(Region.wanted r.o (jc ops r.T)=false∧r.v=undef∧r.τ'=r.τ)
 each:∀(i:Nat) (r:Rec),rs[i]?=some r→bn r.τ r.τ'
 wf:WF σ→∀(i:Nat) (r:Rec),rs[i]?=some r→WF r.τ
 mem:∀(i:Nat) (r:Rec),rs[i]?=some r→∀b,r.τ.m b=lF k rs (fun j=>decide (j<k+i)) b (σ.m b)
 last:∀b,σ'.m b=lF k rs (fun _=>true) b (σ.m b)
 tmp:∀(i:Nat) (r:Rec),rs[i]?=some r→∀t,r.T.get t=mJ N k rs (fun j=>decide (j<k+i)) t (T.get t)
 S9:∀t,T'.get t=mJ N k rs (fun _=>true) t (T.get t)
 lo:∀(i:Nat) (r:Rec),rs[i]?=some r→σ.next≤r.τ.next
 hi:∀(i:Nat) (r:Rec),rs[i]?=some r→r.τ'.next≤σ'.next
 ord:∀(i j:Nat) (r s:Rec),i<j→rs[i]?=some r→rs[j]?=some s→r.τ'.next≤s.τ.next
 rd:∀(i:Nat) (r:Rec),rs[i]?=some r→∀b,r.τ'.rd.testBit b=true→σ'.rd.testBit b=true
 wr:∀(i:Nat) (r:Rec),rs[i]?=some r→∀b,r.τ'.wr.testBit b=true→σ'.wr.testBit b=true
theorem alx {P:Prop} (h:P:=by
 have:decide (k<k+(i+1))=true:=by simp
 simp only[this,Bool.true_and]):P:=h
theorem zZ.facts (hcall:ib E call) {k:Nat} {rs:List Rec} {T:Tree Value} {σ:St} {T':Tree Value} {σ':St} (h:zZ E call N ops k rs T σ T' σ'):Facts E call N ops k rs T σ T' σ':=by
 induction h with
 |nil=>exact⟨.refl _,by simp,by simp,by simp,by simp,by simp,fun _=>rfl,by simp,fun _=>rfl,by simp,by simp,by simp,by simp,by simp⟩
 | @cons k r rs T σ T' σ' hop hT hτ hrun rest ih=>
   have p:=Rec.prop hcall hτ hrun;have pm:=Sk p;have shift:∀i,k+1+i=k+(i+1):=fun i=>by omega
   have hm:∀b,(uK σ r.τ').m b=if j4 r b then r.τ'.m b else σ.m b:=fun b=>by
    by_cases hw:j4 r b=true
    ·simp[hw,St.m,uK]
    ·simp only[hw,Bool.false_eq_true,if_false];rw[lW,hτ] at hw;have:=p.mem b (fun x=>hw (.inl x)) (fun x=>hw (.inr x));exact this
   have hput:∀t,(pQ N T r.o.dst r.v).get t=if (r.o.dst == some t&&decide (t<N)) then some r.v else T.get t:=fun t=>by
    unfold pQ;cases hd:r.o.dst with
    |none=>simp
    |some d=>
     by_cases hdN:d<N
     ·simp only[hdN,if_true,Tree.jG];by_cases hdt:d=t
      ·subst hdt;simp[hdN]
      ·simp[hdt]
     ·simp only[hdN,if_false];by_cases hdt:d=t
      ·subst hdt;simp[hdN]
      ·simp[hdt]
   refine⟨pm.trans ih.prop,?_,?_,?_,?_,?_,?_,?_,?_,?_,?_,?_,?_,?_⟩
   ·intro i s hs;cases i with
    |zero=>cases hs;exact hop
    |succ i=>rw[←shift];exact ih.op i s (by simpa using hs)
   ·intro i s hs;cases i with
    |zero=>cases hs;rw[hT,hτ];exact hrun
    |succ i=>exact ih.run i s (by simpa using hs)
   ·intro i s hs;cases i with
    |zero=>cases hs;rw[hτ];exact p
    |succ i=>exact ih.each i s (by simpa using hs)
   ·intro hw i s hs;cases i with
    |zero=>cases hs;rw[hτ];exact XG hw
    |succ i=>exact ih.wf (pm.wf hw) i s (by simpa using hs)
   ·intro i s hs b;cases i with
    |zero=>
     cases hs;rw[sO fun i=>by simp,hτ];rfl
    |succ i=>
     rw[ih.mem i s (by simpa using hs) b,hm b,shift];simp only[lF];exact alx
   ·intro b;rw[ih.last b,hm b];simp only[lF,Bool.true_and]
   ·intro i s hs t;cases i with
    |zero=>
     cases hs;rw[yL fun i s hs h1 h2=>by simp,hT]
    |succ i=>
     rw[ih.tmp i s (by simpa using hs) t,hput t,shift];simp only[mJ];exact alx
   ·intro t;rw[ih.S9 t,hput t];simp only[mJ,Bool.true_and]
   ·intro i s hs;cases i with
    |zero=>cases hs;rw[hτ];exact Nat.le_refl _
    |succ i=>exact Nat.le_trans pm.next (ih.lo i s (by simpa using hs))
   ·intro i s hs;cases i with
    |zero=>cases hs;exact ih.prop.next
    |succ i=>exact ih.hi i s (by simpa using hs)
   ·intro i j s s' hij hs hs';cases j with
    |zero=>omega
    |succ j=>
     cases i with
     |zero=>cases hs;exact ih.lo j s' (by simpa using hs')
     |succ i=>exact ih.ord i j s s' (by omega) (by simpa using hs) (by simpa using hs')
   ·intro i s hs b hb;cases i with
    |zero=>cases hs;exact ih.prop.rd b (by simp[uK,Nat.testBit_or,hb])
    |succ i=>exact ih.rd i s (by simpa using hs) b hb
   ·intro i s hs b hb;cases i with
    |zero=>cases hs;exact ih.prop.wr b (by simp[uK,Nat.testBit_or,hb])
    |succ i=>exact ih.wr i s (by simpa using hs) b hb
theorem Ns {c:Array Nat} {o:Oper} {j:Nat} (h:(upTo c o).testBit j=true):∃e∈o.after,Region.binds .any e=true∧(e.on=j∨(c.getD e.on 0).testBit j=true):=by
 unfold upTo at h;rw[←Array.foldl_toList] at h
 have key:∀(l:List Edge) (s:Nat),(l.foldl (fun s e=>if Region.binds .any e then s|||2^e.on|||c.getD e.on 0 else s) s).testBit j=true→
   s.testBit j=true∨∃e∈l,Region.binds .any e=true∧(e.on=j∨(c.getD e.on 0).testBit j=true):=by
  intro l;induction l with
  |nil=>intro s h;exact .inl h
  |cons e l ih=>
   intro s h;rw[List.foldl_cons] at h;rcases ih _ h with h|⟨e',he',hb⟩
   ·split at h
    ·rename_i hb;rw[Nat.testBit_or,Nat.testBit_or,Nat.testBit_two_pow] at h;simp only[Bool.or_eq_true,decide_eq_true_eq] at h;rcases h with(h|h)|h
     ·exact .inl h
     ·exact .inr ⟨e,by simp,hb, .inl h⟩
     ·exact .inr ⟨e,by simp,hb, .inr h⟩
    ·exact .inl h
   ·exact .inr ⟨e',by simp[he'],hb⟩
 rcases key _ _ h with h|⟨e,he,hb⟩
 ·simp at h
 ·exact⟨e,Array.mem_toList_iff.1 he,hb⟩
structure TV (ops:Array Oper) (c:Array Nat) (W:Tree Nat):Prop where
 cl:∀(i:Nat) (o:Oper),ops[i]?=some o→∀j,(c.getD i 0).testBit j=true→∃e∈o.after,Region.binds .any e=true∧(e.on=j∨(c.getD e.on 0).testBit j=true)
 lt:∀(i:Nat) (o:Oper),ops[i]?=some o→∀e∈o.after,Region.binds .any e=true→e.on<i
 dst:∀(i:Nat) (o:Oper),ops[i]?=some o→∀d,o.dst=some d→W.get d=some i
 look:∀(i:Nat) (o:Oper),ops[i]?=some o→∀t∈o.looksAt ops,∀j,W.get t=some j→((c.getD i 0).testBit j=true∧j<i)∨((c.getD j 0).testBit i=true∧i<j)
theorem NN {ops:Array Oper} {c:Array Nat} {W:Tree Nat} (h:QO ops c W=true):TV ops c W:=by
 unfold QO at h;rw[List.all_eq_true] at h
 have key:∀(i:Nat) (o:Oper),ops[i]?=some o→(o,i)∈ops.toList.zipIdx:=fun i o ho=>by
  rw[List.mem_zipIdx_iff_getElem?];simpa using ho
 refine⟨fun i o ho j hj=> ?_,fun i o ho e he hb=> ?_,fun i o ho d hd=> ?_,fun i o ho t ht j hj=> ?_⟩
 all_goals
  have hx:=h _ (key i o ho);simp only[Bool.and_eq_true] at hx;obtain⟨⟨⟨⟨h1,h2⟩,h3⟩,h4⟩,h5⟩:=hx
 ·refine Ns ?_;rw[beq_iff_eq] at h1;rw[←h1,Nat.testBit_or,hj,Bool.true_or]
 ·rw[Array.all_eq_true_iff_forall_mem] at h2;have:=h2 e he;simpa[hb] using this
 ·rw[hd] at h3;simpa using h3
 ·rw[List.all_eq_true] at h4;have:=h4 t ht;rw[hj] at this;simpa using this
theorem Cx {x:Nat} {r:Rec} (h:Gj x r=true) {b:Nat} (hb:x.testBit b=true):¬St.N r.τ r.τ' b:=fun hn=>by
 unfold Gj at h;rw[beq_iff_eq] at h
 have h1:((x>>>r.τ.next)%2^(r.τ'.next-r.τ.next)).testBit (b-r.τ.next)=true:=by
  rw[Nat.testBit_mod_two_pow,Nat.testBit_shiftRight];have e:r.τ.next+(b-r.τ.next)=b:=by have:=hn.1;omega
  rw[e,hb];have:=hn.1;have:=hn.2;simp;omega
 rw[h] at h1;simp at h1
theorem Fg {x y b:Nat} (h:(x&&& y)=0) (hx:x.testBit b=true) (hy:y.testBit b=true):False:=by
 have:=Nat.testBit_and x y b;rw[h,hx,hy] at this;simp at this
theorem apart_spec {r s:Rec} (h:apart r s=true) {b:Nat}:
  (r.τ'.wr.testBit b=true→foot s b=false)∧(s.τ'.wr.testBit b=true→foot r b=false)∧(foot s b=true→¬St.N r.τ r.τ' b)∧(foot r b=true→¬St.N s.τ s.τ' b):=by
 unfold apart at h;simp only[Bool.and_eq_true,beq_iff_eq] at h;obtain⟨⟨⟨h1,h2⟩,h3⟩,h4⟩:=h
 have f:∀(q:Rec),foot q b=true→(q.τ'.rd|||q.τ'.wr).testBit b=true:=fun q hq=>by
  rw[Nat.testBit_or];exact hq
 refine⟨fun hw=> ?_,fun hw=> ?_,fun hf=>Cx h3 (f s hf),fun hf=>Cx h4 (f r hf)⟩
 ·cases hf:foot s b with
  |false=>rfl
  |true=>exact(Fg h1 hw (f s hf)).elim
 ·cases hf:foot r b with
  |false=>rfl
  |true=>exact(Fg h2 hw (f r hf)).elim
theorem Cg {r:Rec} (h:quiet r=true) (b:Nat):foot r b=false∧j4 r b=false:=by
 unfold quiet at h;simp only[Bool.and_eq_true,beq_iff_eq] at h;obtain⟨⟨h1,h2⟩,h3⟩:=h;constructor
 ·simp[foot,h1,h2]
 ·simp[j4,h2,h3]
theorem yQ {c:Array Nat}:∀{l:List (Rec×Nat)},sW c l=true→l.Pairwise fun x y=>(c.getD y.2 0).testBit x.2=true∨apart x.1 y.1=true
 |[],_=> .nil
 |x::l,h=>by
  unfold sW at h;simp only[Bool.and_eq_true,List.all_eq_true,Bool.or_eq_true] at h;exact .cons (fun y hy=>h.1 y hy) (yQ h.2)
/-- Two that may come up in any order do not meet. -/
theorem indep {c:Array Nat} {rs:List Rec} (hp:sW c (rs.zipIdx.filter fun x=> !quiet x.1)=true) (aam:∀(i j:Nat) (r s:Rec),i<j→rs[i]?=some r→rs[j]?=some s→r.τ'.next≤s.τ.next)
  {i j:Nat} {r s:Rec} (hij:i<j) (hr:rs[i]?=some r) (hs:rs[j]?=some s) (hc:¬(c.getD j 0).testBit i=true) (b:Nat):
  (j4 r b=true→foot s b=false∧j4 s b=false)∧(j4 s b=true→foot r b=false∧j4 r b=false):=by
 by_cases hq:quiet r=true
 ·have:=Cg hq b;exact⟨fun h=>by(rw[this.2] at h;cases h),fun _=>this⟩
 by_cases hq':quiet s=true
 ·have:=Cg hq' b;exact⟨fun _=>this,fun h=>by rw[this.2] at h;cases h⟩
 have hpw:=yQ hp;rw[List.pairwise_filter,List.pairwise_iff_getElem] at hpw;have hi:i<rs.length:=(List.getElem?_eq_some_iff.1 hr).1;have hj:j<rs.length:=(List.getElem?_eq_some_iff.1 hs).1;have ei:rs[i]=r:=(List.getElem?_eq_some_iff.1 hr).2;have ej:rs[j]=s:=(List.getElem?_eq_some_iff.1 hs).2;have hx:=hpw i j (by simpa using hi) (by simpa using hj) hij;simp only[List.getElem_zipIdx,Nat.zero_add,ei,ej] at hx;have hap:=(hx (by simp[hq]) (by simp[hq'])).resolve_left hc;obtain⟨a1,a2,a3,a4⟩:=apart_spec hap (b:=b)
 have hNN:¬(St.N r.τ r.τ' b∧St.N s.τ s.τ' b):=fun⟨h1,h2⟩=>by
  have:=aam i j r s hij hr hs;have:=h1.2;have:=h2.1;omega
 have ff:∀{q:Rec},q.τ'.wr.testBit b=true→foot q b=true:=fun{q} h=>Bj.2 (.inr h);have bf:∀{p:Bool},(p=true→False)→p=false:=fun{p} h=>by cases p<;>simp_all
 constructor
 ·intro hw;rcases lW.1 hw with h|h
  ·have fs:=a1 h;refine⟨fs,bf fun hws=> ?_⟩;rcases lW.1 hws with h'|h'
   ·have:=ff h';rw[fs] at this;cases this
   ·exact a4 (ff h) h'
  ·refine⟨bf fun hf=>a3 hf h,bf fun hws=> ?_⟩;rcases lW.1 hws with h'|h'
   ·exact a3 (ff h') h
   ·exact hNN ⟨h,h'⟩
 ·intro hw;rcases lW.1 hw with h|h
  ·have fs:=a2 h;refine⟨fs,bf fun hws=> ?_⟩;rcases lW.1 hws with h'|h'
   ·have:=ff h';rw[fs] at this;cases this
   ·exact a3 (ff h) h'
  ·refine⟨bf fun hf=>a4 hf h,bf fun hws=> ?_⟩;rcases lW.1 hws with h'|h'
   ·exact a4 (ff h') h
   ·exact hNN ⟨h',h⟩
theorem Ra (a:Act) (d:Option Tmp) (v:Value):(a.put d v).tmps.size=a.tmps.size:=by cases d<;>simp[Act.put]
theorem nV.Ze {W N:Nat→Prop} {φ ψ:bq} {L M:Nat→Option cz} {w w':World} (h:nV E φ L) (hst:kL W N φ ψ L M w w'):nV E ψ M:=fun x hx=>⟨hst.le _ _ (h x hx).1,hst.mM _ _ (h x hx).2⟩
theorem Qy {φ:bq} {T:Tree Value} {tmps:Array Value} {j:Nat} (h:∀t,(ops[j]?).bind (·.dst)=some t→aC φ ((T.get t).getD undef) (tmps.getD t undef)):jc ops T j=yielded ops tmps j:=by
 unfold jc yielded;cases hj:(ops[j]?).bind (·.dst) with
 |none=>simp
 |some t=>
  have ht:=h t hj;simp only[Option.bind_some];cases hT:T.get t with
  |none=>
   rw[hT] at ht;simp only[Option.getD_none] at ht;cases hA:tmps[t]? with
   |none=>simp
   |some u=>
    have:tmps.getD t undef=u:=by simp[hA]
    rw[this] at ht;cases u<;>first|rfl|(simp only[undef] at ht;cases ht)
  |some v=>
   rw[hT] at ht;simp only[Option.getD_some] at ht;cases hA:tmps[t]? with
   |none=>
    have:tmps.getD t undef=undef:=by simp[hA]
    rw[this] at ht;cases v<;>first|rfl|(simp only[undef] at ht;cases ht)
   |some u=>
    have:tmps.getD t undef=u:=by simp[hA]
    rw[this] at ht;cases v<;>cases u<;>first|rfl|(cases ht;done)|(cases ht;rfl)
theorem Nr {o:Oper} {f g:Nat→Option Bool} (h:∀j want,o.guard=some (j,want)→f j=g j):Region.wanted o f=Region.wanted o g:=by
 unfold Region.wanted;cases hg:o.guard with
 |none=>rfl
 |some x=>obtain⟨j,want⟩:=x;simp only[h j want hg]
/-- Where a region stands, when what is in D has come up. -/
structure Inv (E:Env) (N:Nat) (ops:Array Oper) (c:Array Nat) (rs:List Rec) (T:Tree Value) (φ:bq) (L:Nat→Option cz) (w₀:World) (D:Array Bool) (ψ:bq) (M:Nat→Option cz) (w:World) (a:Act):Prop where
 size:D.size=ops.size
 g:kL (fun b=>∃(i:Nat) (r:Rec),rs[i]?=some r∧D.getD i false=true∧r.τ'.W b) (fun b=>∃(i:Nat) (r:Rec),rs[i]?=some r∧D.getD i false=true∧St.N r.τ r.τ' b) φ ψ L M w₀ w
 mem:∀b,M b=lF 0 rs (fun j=>D.getD j false) b (L b)
 Gf:a.tmps.size=N
 defers:a.defers=[]
 tmps:∀t,aC ψ ((mJ N 0 rs (fun j=>D.getD j false) t (T.get t)).getD undef) (a.tmps.getD t undef)
 down:∀i,D.getD i false=true→∀j,(c.getD i 0).testBit j=true→D.getD j false=true
section
variable {c:Array Nat} {W:Tree Nat} {rs:List Rec} {T T':Tree Value} {σ σ':St} {φ:bq} {L:Nat→Option cz} {w₀:World}
theorem als {P:Prop} (h:P:=by
 rintro b (⟨j,s,hs,hD,hb⟩|hb)
 ·exact⟨j,s,hs,by rw[hset,hD];simp,hb⟩
 ·exact⟨i,r,hr,by rw[hset];simp,hb⟩):P:=h
theorem alu {P:Prop} (h:P:=by
 rcases hb with hb|hb
 ·rw[this.1] at hb;cases hb
 ·rw[this.2] at hb;cases hb):P:=h
theorem alv {P:Prop} (h:P:=by
 have:¬j=i:=fun e=>hji e.symm;simp[Array.getElem?_setIfInBounds_ne hji,this]):P:=h
theorem RD (hcall:ib E call) (hk:TV ops c W) (hf:Facts E call N ops 0 rs T σ T' σ')
  (hi:∀{i j:Nat} {r s:Rec},i<j→rs[i]?=some r→rs[j]?=some s→¬(c.getD j 0).testBit i=true→∀b,(j4 r b=true→foot s b=false∧j4 s b=false)∧(j4 s b=true→foot r b=false∧j4 r b=false))
  (hg:nV E φ L) (hw:WF σ) (hcl:Clear φ L σ σ') (hag:Agree L σ σ') {Q:Exit→Act→World→Prop}
  {D:Array Bool} {ψ:bq} {M:Nat→Option cz} {w:World} {a:Act} (h:Inv E N ops c rs T φ L w₀ D ψ M w a) {i:Nat} {o:Oper} {r:Rec} (ho:ops[i]?=some o) (hr:rs[i]?=some r)
  (hnot:D.getD i true=false) (Iw:∀e∈o.after,Region.binds .any e=true→D.getD e.on false=true)
  {K:Act→World→Prop} (hK:∀ψ' M' w' a',Inv E N ops c rs T φ L w₀ (D.setIfInBounds i true) ψ' M' w' a'→K a' w'):wpOp E.P ops Q i K a w:=by
 have hisz:i<D.size:=by rw[h.size];exact(Array.getElem?_eq_some_iff.1 ho).1
 have Gr:D.getD i false=false:=by
  have e1:D[i]?=some D[i]:=Array.getElem?_eq_getElem hisz;rw[Array.getD_eq_getD_getElem?,e1] at hnot⊢
  simpa using hnot
 have hro:r.o=o:=by
  have:=hf.op i r hr;rw[Nat.zero_add,ho] at this;exact(Option.some.inj this).symm
 -- what must have come ahead has
 have Ep:∀j,(c.getD i 0).testBit j=true→D.getD j false=true:=fun j hj=>by
  obtain⟨e,he,hb,h1⟩:=hk.cl i o ho j hj;have hon:=Iw e he hb;rcases h1 with h1|h1
  ·rw[←h1];exact hon
  ·exact h.down _ hon j h1
 -- what writes where this one looks stands in order with it
 have hkey:∀b,(foot r b=true∨j4 r b=true)→∀(j:Nat) (s:Rec),rs[j]?=some s→j4 s b=true→j≠i→D.getD j false=decide (j<i):=fun b hb j s hs hws hji=>by
  rcases Nat.lt_or_ge j i with hlt|hge
  ·rw[decide_eq_true hlt];by_cases hc:(c.getD i 0).testBit j=true
   ·exact Ep j hc
   ·have:=(hi hlt hs hr hc b).1 hws;exact alu
  ·have hgt:i<j:=by omega
   have RS:¬j<i:=by omega
   rw[decide_eq_false RS];by_cases hc:(c.getD j 0).testBit i=true
   ·cases hD:D.getD j false with
    |false=>rfl
    |true=>have:=h.down j hD i hc;rw[Gr] at this;cases this
   ·have:=(hi hgt hr hs hc b).2 hws;exact alu
 have Ty:∀b,(foot r b=true∨j4 r b=true)→M b=lF 0 rs (fun j=>decide (j<0+i)) b (L b):=fun b hb=>by
  rw[h.mem b];refine nX fun j s hs hws=> ?_;simp only[Nat.zero_add];by_cases hji:j=i
  ·subst hji;simp[Gr]
  ·exact hkey b hb j s hs hws hji
 have RI:=hf.wf hw i r hr
 have Xh:∀b,b<r.τ'.next→(foot r b=true∨St.N r.τ r.τ' b)→L b=σ.m b:=fun b hb IE=>by
  by_cases hlt:b<σ.next
  ·refine hag b ?_ hlt;rcases IE with IE|IE
   ·rcases Bj.1 IE with x|x
    ·exact .inl (hf.rd i r hr b x)
    ·exact .inr (hf.wr i r hr b x)
   ·have:=hf.lo i r hr;have:=IE.1;omega
  ·rw[(hcl b (by omega) (by have:=hf.hi i r hr;omega)).2,hw.top b (by omega)]
 have Zl:∀b,St.N r.τ r.τ' b→∀(j:Nat) (s:Rec),rs[j]?=some s→D.getD j false=true→¬St.N s.τ s.τ' b:=fun b hb j s hs hD hbs=>by
  have hji:j≠i:=fun e=>by rw[e,Gr] at hD;cases hD
  rcases Nat.lt_or_ge j i with hlt|hge
  ·have:=hf.ord j i s r hlt hs hr;have:=hb.1;have:=hbs.2;omega
  ·have:=hf.ord i j r s (by omega) hr hs;have:=hb.2;have:=hbs.1;omega
 have hNL:∀b,St.N r.τ r.τ' b→φ b=none∧L b=none:=fun b hb=>hcl b (by have:=hf.lo i r hr;have:=hb.1;omega) (by have:=hf.hi i r hr;have:=hb.2;omega)
 have WY:Clear ψ M r.τ r.τ':=fun b h1 h2=>by
  have hN:St.N r.τ r.τ' b:=⟨h1,h2⟩;obtain⟨c1,c2⟩:=hNL b hN;refine⟨?_,?_⟩
  ·cases hp:ψ b with
   |none=>rfl
   |some x=>
    obtain⟨j,s,hs,hD,hbs⟩:=h.g.new b c1 (by rw[hp];simp);exact absurd hbs (Zl b hN j s hs hD)
  ·rw[Ty b (.inr (lW.2 (.inr hN))),Xh b h2 (.inr hN),←hf.mem i r hr b];exact RI.top b h1
 have IQ:Agree M r.τ r.τ':=fun b IE hb=>by
  have WU:foot r b=true:=Bj.2 IE;rw[Ty b (.inl WU),Xh b (Nat.lt_of_lt_of_le hb (hf.each i r hr).next) (.inl WU),hf.mem i r hr b]
 have hgl:=hg.Ze h.g
 -- temporaries
 have WE:∀t,t∈o.looksAt ops→aC ψ ((r.T.get t).getD undef) (a.tmps.getD t undef):=fun t ht=>by
  have:=h.tmps t;rw[hf.tmp i r hr t];rw[pE (D':=fun j=>decide (j<0+i))] at this
  ·exact this
  ·intro j s hs hd _;simp only[Nat.zero_add];have hso:=hf.op j s hs;rw[Nat.zero_add] at hso;rcases hk.look i o ho t ht j (hk.dst j s.o hso t hd) with⟨h1,h2⟩|⟨h1,h2⟩
   ·rw[Ep j h1,decide_eq_true h2]
   ·have RS:¬j<i:=by omega
    rw[decide_eq_false RS];cases hD:D.getD j false with
    |false=>rfl
    |true=>have:=h.down j hD i h1;rw[Gr] at this;cases this
 have hwant:Region.wanted o (yielded ops a.tmps)=Region.wanted o (jc ops r.T):=Nr fun j want hgd=>(Qy fun t ht=>WE t (by
  unfold Oper.looksAt;simp only[hgd,ht,Option.toList];simp)).symm
 -- the state behind it
 have finish:∀ψ' M' w' v',aC ψ' r.v v'→Step r.τ r.τ' ψ ψ' M M' w w'→K (a.put o.dst v') w':=by
  intro ψ' M' w' v' hv hst;refine hK ψ' M' w' _ ?_
  have hset:∀j,(D.setIfInBounds i true).getD j false=(decide (j=i)||D.getD j false):=fun j=>by
   rw[Array.getD_eq_getD_getElem?,Array.getD_eq_getD_getElem?];by_cases hji:i=j
   ·subst hji;simp[Array.getElem?_setIfInBounds_self_of_lt hisz]
   ·exact alv
  refine⟨by simp[h.size],?_,?_,by simp[Ra,h.Gf],?_,?_,?_⟩
  ·refine(kL.trans (fun b hb=>(hNL b hb).2) h.g hst.g).wider ?_ ?_ ?_
   ·exact als
   ·exact als
   ·rintro b ⟨j,s,hs,_,hb⟩;exact(hcl b (by have:=hf.lo j s hs;have:=hb.1;omega) (by have:=hf.hi j s hs;have:=hb.2;omega)).2
  ·intro b;by_cases hwb:j4 r b=true
   ·rw[hst.here b (lW.1 hwb),←Ie (k:=0) (x:=L b) hr hwb];refine nX fun j s hs hws=> ?_;simp only[Nat.zero_add];rw[hset];by_cases hji:j=i
    ·subst hji;simp
    ·have:=hkey b (.inr hwb) j s hs hws hji;rw[this];have e1:decide (j=i)=false:=decide_eq_false hji;rw[e1,Bool.false_or];exact decide_eq_decide.2 (by omega)
   ·have hns:¬(r.τ'.W b∨St.N r.τ r.τ' b):=fun x=>hwb (lW.2 x);rw[hst.g.stay b (fun x=>hns (.inl x)) (fun x=>hns (.inr x)),h.mem b];refine nX fun j s hs hws=> ?_;simp only[Nat.zero_add];rw[hset];have hji:j≠i:=fun e=>by subst e;rw[hr] at hs;cases hs;exact hwb hws
    simp[hji]
  ·cases o.dst<;>exact h.defers
  ·intro t;have hup:∀(x:Option Value) (y:Value),aC ψ (x.getD undef) y→aC ψ' (x.getD undef) y:=fun x y hxy=>hxy.mono hst.g.le;by_cases hdt:o.dst=some t∧t<N
   ·obtain⟨hd,Tu⟩:=hdt
    have e1:mJ N 0 rs (fun j=>(D.setIfInBounds i true).getD j false) t (T.get t)=some r.v:=
     GQ hr (by rw[hro];exact hd) Tu (by rw[hset];simp) fun j s hs hds=>by
      have hso:=hf.op j s hs;rw[Nat.zero_add] at hso;have h1:=hk.dst j s.o hso t hds;have h2:=hk.dst i o ho t hd;rw[h1] at h2;exact Option.some.inj h2
    have e2:(a.put o.dst v').tmps.getD t undef=v':=by
     rw[hd];have:t<a.tmps.size:=by rw[h.Gf];exact Tu
     simp[Act.put,this]
    rw[e1,e2];exact hv
   ·have e1:mJ N 0 rs (fun j=>(D.setIfInBounds i true).getD j false) t (T.get t)=mJ N 0 rs (fun j=>D.getD j false) t (T.get t):=pE fun j s hs hds Tu=>by
     simp only[Nat.zero_add];rw[hset]
     have hji:j≠i:=fun e=>by
      subst e;rw[hr] at hs;cases hs;exact hdt ⟨by rw[←hro];exact hds,Tu⟩
     simp[hji]
    have e2:(a.put o.dst v').tmps.getD t undef=a.tmps.getD t undef:=by
     cases hd:o.dst with
     |none=>rfl
     |some d=>
      by_cases WX:d=t
      ·subst WX;have:¬d<a.tmps.size:=fun x=>hdt ⟨hd,by rw[←h.Gf];exact x⟩;simp[Act.put,this]
      ·simp[Act.put,Array.getElem?_setIfInBounds_ne WX]
    rw[e1,e2];exact hup _ _ (h.tmps t)
  ·intro j hj k hk';rw[hset] at hj⊢
   by_cases hji:j=i
   ·subst hji;rw[Ep k hk'];simp
   ·simp only[hji,decide_false,Bool.false_or] at hj;rw[h.down j hj k hk'];simp
 unfold wpOp;simp only[ho];rw[hwant];rcases hf.run i r hr with⟨hwt,IA⟩|⟨hwt,hv,hτ⟩
 ·rw[hro] at hwt;simp only[hwt,if_true];refine .inl ?_;rw[hro] at IA
  have hall:o.op.operands.all (rz E.G)=true:=by
   unfold yU at IA;split at IA
   ·assumption
   ·cases IA
  rw[Array.all_eq_true_iff_forall_mem] at hall
  have hops:∀x∈o.op.operands,aC ψ (uM r.T x) (a.eval x):=fun x hx=>by
   have hx':=hall x hx;cases x with
   |tmp t=>
    refine WE t (List.mem_append_left _ (List.mem_filterMap.2 ⟨.tmp t,by simpa using hx,rfl⟩))
   |const v=>exact .Ca hx'
   |global g=>
    obtain⟨y,hy,hyg⟩:=List.any_eq_true.1 hx';have:=(hgl y hy).1;rw[eq_of_beq hyg] at this;exact .ptr this
   |func f=>exact .func (fun l=>by simp) rfl rfl (fun i v v' h=>by simp at h) (fun i v v' h=>by simp at h)
  obtain⟨_,s1⟩:=Bf hcall IA;refine(s1 ψ a.eval M w hgl hops RI (fun x hx=>by rw[List.mem_singleton.1 hx];exact⟨WY,IQ⟩) h.g.good).wp ?_;rintro v' w' ⟨x,hx,φ',L',hv,hst⟩;rw[List.mem_singleton.1 hx] at hv hst;exact finish φ' L' w' v' hv hst
 ·rw[hro] at hwt;simp only[hwt,Bool.false_eq_true,if_false];refine finish ψ M w undef (by rw[hv];exact .undef ψ) ?_;rw[hτ];exact .refl h.g.good RI (by rw[hτ] at IQ;exact IQ)
theorem FH {α:Type} {p q:α→Bool}:∀{l:List α},(∀x∈l,q x=true→p x=true)→∀{i:α},i∈l→p i=true→q i=false→l.countP q<l.countP p
 |[],_,i,hi,_,_=>by cases hi
 |x::l,h,i,hi,hp,hq=>by
  have hle:l.countP q≤l.countP p:=List.countP_mono_left fun y hy=>h y (by simp[hy]);rcases List.mem_cons.1 hi with rfl|hi
  ·rw[List.countP_cons_of_pos hp,List.countP_cons_of_neg (by simp[hq])];omega
  ·have:=FH (fun y hy=>h y (by simp[hy])) hi hp hq;by_cases hx:q x=true
   ·rw[List.countP_cons_of_pos hx,List.countP_cons_of_pos (h x (by simp) hx)];omega
   ·rw[List.countP_cons_of_neg hx];have:=List.countP_le_length (p:=p) (l:=[x]);by_cases hpx:p x=true
    ·rw[List.countP_cons_of_pos hpx];omega
    ·rw[List.countP_cons_of_neg hpx];omega
def GN (n:Nat) (D:Array Bool):Nat:=(List.range n).countP fun j=> !D.getD j false
theorem Sd (hcall:ib E call) (hk:TV ops c W) (hf:Facts E call N ops 0 rs T σ T' σ') (hlen:rs.length=ops.size)
  (hi:∀{i j:Nat} {r s:Rec},i<j→rs[i]?=some r→rs[j]?=some s→¬(c.getD j 0).testBit i=true→∀b,(j4 r b=true→foot s b=false∧j4 s b=false)∧(j4 s b=true→foot r b=false∧j4 r b=false))
  (hg:nV E φ L) (hw:WF σ) (hcl:Clear φ L σ σ') (hag:Agree L σ σ') {Q:Exit→Act→World→Prop}
  (hQ:∀D ψ M w a,Inv E N ops c rs T φ L w₀ D ψ M w a→(∀i,i<ops.size→D.getD i false=true)→Q .normal a w):
  ∀(fuel:Nat) (D:Array Bool) (ψ:bq) (M:Nat→Option cz) (w:World) (a:Act),Inv E N ops c rs T φ L w₀ D ψ M w a→GN ops.size D≤fuel→wpAny E.P .any ops Q fuel D a w:=by
 have stuck:∀D ψ M w a,Inv E N ops c rs T φ L w₀ D ψ M w a→Region.ready .any ops D=[]→∀i,i<ops.size→D.getD i false=true:=by
  intro D ψ M w a h hr i;induction i using Nat.strongRecOn with
  |_ i ih=>
   intro his;cases hD:D.getD i false with
   |true=>rfl
   |false=>
    exfalso
    have ho:ops[i]?=some ops[i]:=Array.getElem?_eq_getElem his
    have hm:i∈Region.ready .any ops D:=by
     rw[mem_ready];refine⟨?_,ops[i],ho,fun e he hb=> ?_⟩
     ·have hlt:i<D.size:=by rw[h.size];exact his
      have e1:D[i]?=some D[i]:=Array.getElem?_eq_getElem hlt;rw[Array.getD_eq_getD_getElem?,e1] at hD⊢
      simpa using hD
     ·have hlt:=hk.lt i _ ho e he hb;exact ih e.on hlt (by omega)
    rw[hr] at hm;cases hm
 intro fuel;induction fuel with
 |zero=>
  intro D ψ M w a h hu
  have hall:∀i,i<ops.size→D.getD i false=true:=fun i his=>by
   have h0:GN ops.size D=0:=by omega
   unfold GN at h0;rw[List.countP_eq_zero] at h0;have:=h0 i (List.mem_range.2 his);simpa using this
  refine⟨?_,hQ D ψ M w a h hall⟩;cases hr:Region.ready .any ops D with
  |nil=>rfl
  |cons i l=>
   exfalso
   have hm:i∈Region.ready .any ops D:=by rw[hr];simp
   obtain⟨h1,o,ho,_⟩:=mem_ready.1 hm;have his:i<ops.size:=(Array.getElem?_eq_some_iff.1 ho).1;have h2:=hall i his;have hlt:i<D.size:=by rw[h.size];exact his
   have e1:D[i]?=some D[i]:=Array.getElem?_eq_getElem hlt;rw[Array.getD_eq_getD_getElem?,e1] at h1 h2;simp at h1 h2;rw[h1] at h2;cases h2
 |succ fuel ih=>
  intro D ψ M w a h hu;refine⟨fun hr=>hQ D ψ M w a h (stuck D ψ M w a h hr),fun i hm=> ?_⟩;obtain⟨h1,o,ho,Iw⟩:=mem_ready.1 hm;have his:i<ops.size:=(Array.getElem?_eq_some_iff.1 ho).1;have hr:rs[i]?=some rs[i]:=List.getElem?_eq_getElem (by rw[hlen];exact his);refine RD hcall hk hf hi hg hw hcl hag h ho hr h1 Iw fun ψ' M' w' a' h'=>ih _ ψ' M' w' a' h' ?_;have hsz:i<D.size:=by rw[h.size];exact his
  have hset:∀j,(D.setIfInBounds i true).getD j false=(decide (j=i)||D.getD j false):=fun j=>by
   rw[Array.getD_eq_getD_getElem?,Array.getD_eq_getD_getElem?];by_cases hji:i=j
   ·subst hji;simp[Array.getElem?_setIfInBounds_self_of_lt hsz]
   ·exact alv
  have:GN ops.size (D.setIfInBounds i true)<GN ops.size D:=by
   unfold GN;refine FH (fun j _ hj=> ?_) (List.mem_range.2 his) ?_ ?_
   ·rw[hset] at hj;simp at hj⊢;exact hj.2
   ·have e1:D[i]?=some D[i]:=Array.getElem?_eq_getElem hsz;rw[Array.getD_eq_getD_getElem?,e1] at h1;simp at h1;rw[Array.getD_eq_getD_getElem?,e1];simp[h1]
   ·rw[hset];simp
  omega
theorem Sg (hm:E.P.follows .mixedOrders=true):Qv E (uQ E):=by
 intro call N ops T σ T' σ' hcall h;unfold uQ at h;split at h
 ·rename_i aal;split at h
  ·rename_i rs T1 σ1 hld;split at h
   ·rename_i WJ;cases h;obtain⟨hch,hlen⟩:=Kn ops.size 0 T σ rs T' σ' (by rw[List.range_eq_range'] at hld;exact hld);have hf:=hch.facts hcall;have hk:TV ops (masks ops) (writers ops):=NN aal;refine⟨hf.prop,fun id φ L w a Q hg hT hw hcl hag hgood hQ=> ?_⟩;have CS:Good φ L {w with drawn:=w.drawn+1}:=⟨hgood.obj,hgood.inj⟩;refine wp_region_any hm (Sd (w₀:={w with drawn:=w.drawn+1}) hcall hk hf hlen (fun hij hr hs hc b=>indep WJ hf.ord hij hr hs hc b) hg hw hcl hag ?_ ops.size _ φ L _ a ?_ ?_)
    ·intro D ψ M w' a' h hall;have hD:∀(i:Nat) (r:Rec),rs[i]?=some r→D.getD i false=true:=fun i r hr=>hall i (by rw[←hlen];exact(List.getElem?_eq_some_iff.1 hr).1);refine hQ ψ M a' w' ⟨h.Gf,h.defers,fun t=> ?_⟩ ⟨?_,fun b hb=> ?_⟩
     ·have:=h.tmps t;rw[hf.S9 t];rw[pE (D':=fun _=>true) fun i r hr _ _=>by rw[Nat.zero_add];exact hD i r hr] at this;exact this
     ·have hst:kL σ'.W (St.N σ σ') φ ψ L M {w with drawn:=w.drawn+1} w':=h.g.wider (fun b ⟨i,r,hr,_,hb⟩=>hf.wr i r hr b hb)
       (fun b ⟨i,r,hr,_,hb⟩=>⟨Nat.le_trans (hf.lo i r hr) hb.1,Nat.lt_of_lt_of_le hb.2 (hf.hi i r hr)⟩) (fun b hb=>(hcl b hb.1 hb.2).2)
      exact⟨hst.le,hst.new,hst.good,hst.stay,hst.dead,hst.size,hst.frame,hst.fresh,hst.kept,hst.mM⟩
     ·rw[h.mem b,hf.last b];rw[nX (D':=fun _=>true) fun i r hr _=>by rw[Nat.zero_add];exact hD i r hr];congr 1
      by_cases hlt:b<σ.next
      ·rcases hb with hb|hb
       ·exact hag b (.inr hb) hlt
       ·have:=hb.1;omega
      ·have hb2:b<σ'.next:=by
        rcases hb with hb|hb
        ·exact(hf.prop.wf hw).wr b hb
        ·exact hb.2
       rw[(hcl b (by omega) hb2).2,hw.top b (by omega)]
    ·have hno:∀i,(Array.replicate ops.size false).getD i false=false:=fun i=>by
      rw[Array.getD_eq_getD_getElem?,Array.getElem?_replicate];split<;>rfl
     refine⟨by simp,?_,fun b=> ?_,hT.1,hT.2.1,fun t=> ?_,fun i hi=> ?_⟩
     ·exact(kL.refl (fun b=>∃(i:Nat) (r:Rec),rs[i]?=some r∧(Array.replicate ops.size false).getD i false=true∧r.τ'.W b) CS).wider (fun b hb=>hb) (fun b hb=>hb.elim) (fun b ⟨i,r,_,hD,_⟩=>by rw[hno] at hD;cases hD)
     ·rw[sO fun i=>hno _]
     ·rw[yL fun i r _ _ _=>hno _];exact hT.2.2 t
     ·rw[hno] at hi;cases hi
    ·unfold GN;have:=List.countP_le_length (p:=fun j=> !(Array.replicate ops.size false).getD j false) (l:=List.range ops.size);simpa using this
   ·cases h
  ·cases h
 ·cases h
end
end
/-- The checker's calls are right. -/
theorem Oc {E:Env} (hm:E.P.follows .mixedOrders=true) (wC:zY E) (zV:ib E E.rW) (n:Nat):ib E (run E n):=
 Ij wC zV (Ib E) (MG wC zV (Sg hm) (Ib E) n)
end Ck

end Go.Proofs.YtnmbfjgcmfjdcaaGreatDoor

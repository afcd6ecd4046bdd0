import Derived.Test.YtnmbfjgcmfjdcaaGreatDoorCoreRefusesZ0
import Derived.Test.YtnmbfjgcmfjdcaaGreatDoorCoreRefusesZ13
namespace Go.Proofs.YtnmbfjgcmfjdcaaGreatDoor.Ck
open Go Go.RowKit
abbrev pY:=FuncId→List Value→Option (Value×Prop)
def EC (P:Program) (sh:pY):Prop:=∀f args v p,sh f args=some (v,p)→p→∀w,Calls P f args.toArray w (aV v w)
def br (x:Bool) (a b:Prop):Prop:=Bool.rec b a x
theorem oI {x:Bool} {a b:Prop} (h:x=true→a) (k:x=false→b):br x a b:=by
 cases x
 ·exact k rfl
 ·exact h rfl
theorem Lp {a b:Prop} (h:br true a b):a:=h
def want (o:Oper) (f:Nat→Option Bool):Bool:=
 match o.guard with
 |none=>true
 |some (j,w)=>match f j with
  |some b=>match w with
   |true=>b
   |false=> !b
  |none=>false
theorem Ky (o:Oper) (f:Nat→Option Bool):want o f=Region.wanted o f:=by
 unfold want Region.wanted;split
 ·rename_i h;rw[h]
 ·rename_i j w h;rw[h];simp only;cases f j with
  |none=>rfl
  |some b=>cases b<;>cases w<;>rfl
def fin (v:Value) (K:Value→Prop):Prop:=
 match v with
 | .bool x=>br x (K (.bool true)) (K (.bool false))
 |v=>K v
def guards (ops:Array Oper) (i:Nat):Bool:=ops.toList.any fun o=>match o.guard with
 |some (j,_)=>Nat.beq j i
 |none=>false
def Td (P:Program) (sh:pY) (g:Bool) (ρ:Operand→Value) (o:Oper) (σ:St) (K:Value→St→Prop):Prop:=
 if o.op.operands.all (rz []) then
  match Cj P ρ o with
  |some v=>match o.op with
   | .binOp .. =>fin v (fun u=>K u σ)
   |_=>match g with
    |true=>fin v (fun u=>K u σ)
    |false=>K v σ
  |none=>
   match I1 P ρ o σ with
   |some r=>K r.1 r.2
   |none=>
    if Mt P ρ o then
     match bW P (Mx P ρ o) σ with
     |some [(.value v,τ)]=>match g with
      |true=>fin v (fun u=>K u τ)
      |false=>K v τ
     |some [(.skip,τ)]=>K undef τ
     |some [(.enter f args,τ)]=>match sh f args.toList with
      |some r=>if args.all fF&&ou r.1 then r.2∧fin r.1 (fun u=>K u τ) else False
      |none=>False
     |_=>False
    else False
 else False
noncomputable def G9 (P:Program) (sh:pY) (N:Nat) (ops:Array Oper):List Nat→Tree Value→St→(Tree Value→St→Prop)→Prop
 |[],T,σ,K=>K T σ
 |i::rest,T,σ,K=>
  match nth ops.toList i with
  |none=>False
  |some o=>
   br (want o (jc ops T)) (Td P sh (guards ops i) (uM T) o σ fun v τ=>G9 P sh N ops rest (pQ N T o.dst v) τ K)
    (G9 P sh N ops rest (pQ N T o.dst undef) σ K)
noncomputable def BX (P:Program) (sh:pY) (N:Nat) (ops:Array Oper):List Nat→List Rec→Tree Value→St→(List Rec→Tree Value→St→Prop)→Prop
 |[],rs,T,σ,K=>K rs T σ
 |i::rest,rs,T,σ,K=>
  match nth ops.toList i with
  |none=>False
  |some o=>
   br (want o (jc ops T)) (Td P sh (guards ops i) (uM T) o (oh σ) fun v τ=>BX P sh N ops rest (⟨o,T,v,oh σ,τ⟩::rs) (pQ N T o.dst v) (uK σ τ) K)
    (BX P sh N ops rest (⟨o,T,undef,oh σ,oh σ⟩::rs) (pQ N T o.dst undef) (uK σ (oh σ)) K)
noncomputable def qR (P:Program) (sh:pY):Nat→Nat→Code→Tree Value→St→(LX→Tree Value→St→Prop)→Prop
 |0,_,_,_,_,_=>False
 |n+1,N,c,T,σ,K=>
  match c with
  | .skip=>K .normal T σ
  | .seq a b=>qR P sh n N a T σ fun x T' τ=>match x with
    | .normal=>qR P sh n N b T' τ K
    |x=>K x T' τ
  | .cond c a b=>if rz [] c then match uM T c with
    | .bool t=>br t (qR P sh n N a T σ K) (qR P sh n N b T σ K)
    |_=>False
    else False
  | .block id body=>qR P sh n N body T σ fun x T' τ=>match x with
    | .exit id'=>if id'=id then K .normal T' τ else K (.exit id') T' τ
    |x=>K x T' τ
  | .loop body=>qR P sh n N body T σ fun x T' τ=>match x with
    | .normal=>qR P sh n N (.loop body) T' τ K
    |x=>K x T' τ
  | .exit id=>K (.exit id) T σ
  | .ret=>K .ret T σ
  | .region _ ops false=>G9 P sh N ops (List.range ops.size) T σ fun T' τ=>K .normal T' τ
  | .region _ ops true=>if ZN ops then BX P sh N ops (List.range ops.size) [] T σ fun rs T' τ=>
    if sW (masks ops) (rs.reverse.zipIdx.filter fun x=> !quiet x.1) then K .normal T' τ else False
    else False
  |_=>False
noncomputable def jE (P:Program) (sh:pY) (n f:Nat) (args:List Value) (K:Value→Prop):Prop:=
 match nth P.funcs.toList f with
 |some fn=>match fn.body with
  |some body=>qR P sh n (max fn.ntmps args.length) body (fromList 0 args) ⟨.leaf,0,0,0⟩ fun x T τ=>match x with
   | .exit _=>False
   |_=>match bW P (CB fn T) τ with
    |some [(v,_)]=>if ou v then K v else False
    |_=>False
  |none=>False
 |none=>False
section
variable {P:Program} {sh:pY}
theorem C9 {v:Value} {K:Value→Prop} (h:fin v K):K v:=by
 unfold fin at h;split at h
 ·rename_i x;cases x<;>exact h
 ·exact h
open Classical in
noncomputable def xH (sh:pY):fu:=fun f args σ=>match sh f args.toList with
 |some (v,p)=>if p∧args.all fF=true∧ou v=true then some [(v,σ)] else none
 |none=>none
theorem RP (hs:EC P sh) {ks:List Nat} {hk:fu}:ib ⟨P,[],ks,hk⟩ (xH sh):=by
 intro f args σ outs h;unfold xH at h;split at h
 ·rename_i v p hv;split at h
  ·rename_i hc;cases h;refine⟨⟨by simp,fun x hx=>by simp at hx;subst hx;exact .refl σ⟩,fun φ args' L w hg hrel hw hp hgood=> ?_⟩;have hpre:=hp _ (List.mem_singleton.2 rfl);obtain rfl:=bu.yn hc.2.1 hrel;refine(hs _ _ _ _ hv hc.1 w).mono ?_;rintro e w' ⟨rfl,hb⟩;exact⟨_,List.mem_singleton.2 rfl,_,φ,L,rfl, .Ca hc.2.2,AQ hgood hw hpre.2 rfl rfl rfl hb⟩
  ·cases h
 ·cases h
noncomputable abbrev jR (P:Program) (sh:pY):Env:=⟨P,[],[],xH sh⟩
def Gz (sh:pY) (call:fu):Prop:=∀f args σ v p,sh f args.toList=some (v,p)→p→args.all fF=true→ou v=true→call f args σ=some [(v,σ)]
theorem NL {call:fu} (hcall:Gz sh call) {g:Bool} {ρ:Operand→Value} {o:Oper} {σ:St} {K:Value→St→Prop}
  (h:Td P sh g ρ o σ K):∃v τ,yU (jR P sh) call ρ o σ=some [(v,τ)]∧K v τ:=by
 unfold Td at h;unfold yU;split at h
 ·rename_i h1;rw[if_pos h1];split at h
  ·rename_i v hv;rw[hv];split at h
   ·exact⟨v,σ,rfl,C9 h⟩
   ·cases g
    ·exact⟨v,σ,rfl,h⟩
    ·exact⟨v,σ,rfl,C9 h⟩
  ·rename_i hv;rw[hv];split at h
   ·rename_i r hr;rw[hr];exact⟨r.1,r.2,rfl,h⟩
   ·rename_i hr;rw[hr];split at h
    ·rename_i h2;simp only[h2,if_true];split at h
     ·rename_i v τ hl;rw[hl];cases g
      ·exact⟨v,τ,j3 _ _,h⟩
      ·exact⟨v,τ,j3 _ _,C9 h⟩
     ·rename_i τ hl;rw[hl];exact⟨_,τ,j3 _ _,h⟩
     ·rename_i f args τ hl;split at h
      ·rename_i r hs;split at h
       ·rename_i hb;rw[Bool.and_eq_true] at hb;rw[hl];exact⟨r.1,τ,(j3 _ _).trans (hcall f args τ r.1 r.2 hs h.1 hb.1 hb.2),C9 h.2⟩
       ·exact h.elim
      ·exact h.elim
     ·exact h.elim
    ·exact h.elim
 ·exact h.elim
theorem D8 {call:fu} (hcall:Gz sh call) {N:Nat} {ops:Array Oper}:∀{l:List Nat} {T:Tree Value} {σ:St} {K:Tree Value→St→Prop},
  G9 P sh N ops l T σ K→∃T' τ,yT (jR P sh) call N ops l T σ=some [(T',τ)]∧K T' τ
 |[],T,σ,K,h=>⟨T,σ,rfl,h⟩
 |i::rest,T,σ,K,h=>by
  unfold G9 at h;unfold yT;split at h
  ·exact h.elim
  ·rename_i o ho;rw[ho];rw[Ky] at h;cases hw:Region.wanted o (jc ops T)
   ·rw[hw] at h;simp only[hw];exact D8 hcall (K:=K) h
   ·rw[hw] at h;replace h:=Lp h;simp only[hw,if_true];obtain⟨v,τ,b,k⟩:=NL hcall h;rw[b];obtain⟨T',τ',b',k'⟩:=D8 hcall k;exact⟨T',τ',(j3 _ _).trans b',k'⟩
theorem AX {call:fu} (hcall:Gz sh call) {N:Nat} {ops:Array Oper}:∀{l:List Nat} {rs:List Rec} {T:Tree Value} {σ:St} {K:List Rec→Tree Value→St→Prop},
  BX P sh N ops l rs T σ K→∃rs' T' τ,xE (jR P sh) call N ops l T σ=some (rs',T',τ)∧K (rs'.reverse++rs) T' τ
 |[],rs,T,σ,K,h=>⟨[],T,σ,rfl,h⟩
 |i::rest,rs,T,σ,K,h=>by
  unfold BX at h;unfold xE;split at h
  ·exact h.elim
  ·rename_i o ho;rw[ho];rw[Ky] at h;cases hw:Region.wanted o (jc ops T)
   ·rw[hw] at h;simp only[hw];obtain⟨rs',T',τ',b',k'⟩:=AX hcall (K:=K) h;simp only[b'];exact⟨_,T',τ',rfl,by simpa using k'⟩
   ·rw[hw] at h;replace h:=Lp h;simp only[hw,if_true];obtain⟨v,τ,b,k⟩:=NL hcall h;obtain⟨rs',T',τ',b',k'⟩:=AX hcall k;rw[b];simp only[b'];exact⟨_,T',τ',rfl,by simpa using k'⟩
theorem KY {jd:Bw} {code:Nat→Code→Tree Value→St→Aa}:Gz sh (pU (jR P sh) jd code):=fun f args σ v p h hp h1 h2=>by
 unfold pU;have e1:(args.isEmpty&&(jR P sh).known.contains f)=false:=by simp
 have e2:xH sh f args σ=some [(v,σ)]:=by
  unfold xH;rw[h];exact if_pos ⟨hp,h1,h2⟩
 rw[e1];simp only[e2,Bool.false_eq_true,if_false]
theorem d8W {P:Prop} (h:P:=by
 obtain⟨x,T',τ,b,k⟩:=ih h;simp only[b,j3];cases x
 ·obtain⟨y,T2,τ2,b2,k2⟩:=ih k;exact⟨y,T2,τ2,b2,k2⟩
 ·exact⟨_,_,_,rfl,k⟩
 ·exact⟨_,_,_,rfl,k⟩):P:=h
theorem Q5:∀{n N:Nat} {c:Code} {T:Tree Value} {σ:St} {K:LX→Tree Value→St→Prop},
  qR P sh n N c T σ K→∃x T' τ,jT (jR P sh) (uQ (jR P sh)) (qV (jR P sh)) n N c T σ=some [(x,T',τ)]∧K x T' τ:=by
 intro n;induction n with
 |zero=>intro N c T σ K h;exact h.elim
 |succ n ih=>
  intro N c T σ K h;unfold qR at h;unfold jT;split at h
  ·exact⟨_,_,_,rfl,h⟩
  ·exact d8W
  ·split at h
   ·rename_i h1;split at h
    ·rename_i t ht;have h1':rz (jR P sh).G _=true:=h1;simp only[h1',if_true,ht];cases t
     ·exact ih (K:=K) h
     ·exact ih (K:=K) h
    ·exact h.elim
   ·exact h.elim
  ·obtain⟨x,T',τ,b,k⟩:=ih h;simp only[b,j3];cases x
   ·exact⟨_,_,_,rfl,k⟩
   ·simp only at k⊢
    split at k
    ·rename_i h2;simp only[h2,if_true];exact⟨_,_,_,rfl,k⟩
    ·rename_i h2;simp only[h2,if_false];exact⟨_,_,_,rfl,k⟩
   ·exact⟨_,_,_,rfl,k⟩
  ·exact d8W
  ·exact⟨_,_,_,rfl,h⟩
  ·exact⟨_,_,_,rfl,h⟩
  ·obtain⟨T',τ,b,k⟩:=D8 (call:=pU (jR P sh) (qV (jR P sh)) (jT (jR P sh) (uQ (jR P sh)) (qV (jR P sh)) n)) KY h;simp only[b,j3];exact⟨_,_,_,rfl,k⟩
  ·split at h
   ·rename_i h1;obtain⟨rs,T',τ,b,k⟩:=AX (call:=pU (jR P sh) (qV (jR P sh)) (jT (jR P sh) (uQ (jR P sh)) (qV (jR P sh)) n)) KY h;split at k
    ·rename_i h2;simp only[List.append_nil,List.reverse_reverse] at h2;simp only[uQ,h1,if_true,b,h2];exact⟨_,_,_,rfl,k⟩
    ·exact k.elim
   ·exact h.elim
  ·exact h.elim
theorem sym (hm:P.follows .mixedOrders=true) (hs:EC P sh) {n f:Nat} {args:List Value} {K:Value→Prop}
  (h:jE P sh n f args K) (ha:args.all fF=true) (hn:sh f args=none) (w:World):Calls P f args.toArray w fun e w'=>∃v,K v∧aV v w e w':=by
 unfold jE at h;split at h
 ·rename_i fn hfn;split at h
  ·rename_i body hb;obtain⟨x,T,τ,b,k⟩:=Q5 h
   have hx:∃v τ',bW P (CB fn T) τ=some [(v,τ')]∧ou v=true∧K v∧∀id,x≠ .exit id:=by
    cases x
    case exit=>exact k.elim
    all_goals
     simp only at k;split at k
     ·rename_i v τ' hl;split at k
      ·rename_i hv;exact⟨v,τ',hl,hv,k,by simp⟩
      ·exact k.elim
     ·exact k.elim
   obtain⟨v,τ',hl,hv,hK,hne⟩:=hx
   have hr:run (jR P sh) n f args.toArray ⟨.leaf,0,0,0⟩=some [(v,τ')]:=by
    unfold run pU;have e1:(args.toArray.isEmpty&&(jR P sh).known.contains f)=false:=by simp
    have e2:xH sh f args.toArray ⟨.leaf,0,0,0⟩=none:=by
     unfold xH;simp only[hn]
    have e3:nth (jR P sh).P.funcs.toList f=some fn:=hfn;simp only[e1,e2,e3,hb,List.size_toArray,Bool.false_eq_true,if_false,b,j3];cases x
    case exit id=>exact absurd rfl (hne id)
    all_goals exact hl
   have hok:=Oc (E:=jR P sh) hm (fun f hf=>by simp at hf) (RP hs) n f args.toArray ⟨.leaf,0,0,0⟩ _ hr
   have hA:bu (fun _=>none) args.toArray args.toArray:=⟨rfl,fun i v v' e1 e2=>by
    rw[e1] at e2;cases e2;rw[List.all_eq_true] at ha;exact .zO (ha v (by simpa using Array.mem_of_getElem? e1))⟩
   refine(hok.2 (fun _=>none) args.toArray (fun _=>none) w (fun x hx=>by cases hx) hA ⟨fun b hb=>by simp at hb,fun b _=>rfl⟩ (fun o _=>⟨fun b _ _=>⟨rfl,rfl⟩,fun b _ hb=>by simp at hb⟩)
    ⟨fun b o hb=>by simp at hb,fun b c hb=>absurd rfl hb⟩).mono ?_
   rintro e w' ⟨o,ho,v',φ',L',rfl,hv',hst⟩;simp only[List.mem_singleton] at ho;subst ho;exact⟨v,hK,congrArg _ (aC.eq2 hv hv'),hst.g.kept.1,hst.g.kept.2.1,hst.g.kept.2.2,hst.g.size,fun k hk=>hst.g.frame k hk fun b e hb=>absurd rfl hb⟩
  ·exact h.elim
 ·exact h.elim
end
end Go.Proofs.YtnmbfjgcmfjdcaaGreatDoor.Ck

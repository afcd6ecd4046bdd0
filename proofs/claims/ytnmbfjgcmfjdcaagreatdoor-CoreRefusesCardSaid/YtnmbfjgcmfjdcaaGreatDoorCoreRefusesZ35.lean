/- Texts of CoreRefuses's proof, together. -/
import Derived.Test.YtnmbfjgcmfjdcaaGreatDoorCoreRefusesZ30
import Derived.Test.YtnmbfjgcmfjdcaaGreatDoorCoreRefusesZ33
import Derived.Test.YtnmbfjgcmfjdcaaGreatDoorOrdH
namespace Go.Proofs.YtnmbfjgcmfjdcaaGreatDoor

section
open Go.RowKit
abbrev It.pp (x:It):Int×Int×Int:=(x.t,x.r,x.v)
abbrev It.dp (x:It):Int×Int×Int:=(x.u,x.s,x.y)
def iw (base:Int) (l:List It):Int:=IntKind.u64.wrap (IntKind.u64.wrap (max (kT base (l.map It.pp)) (kT base (l.map It.dp)))-IntKind.u64.wrap (oW base (l.map It.pp)))
def Tw (w:World) (A:Option Addr) (n c:Nat) (L:List (Int×Int×Int)) (B:Option Addr) (m d:Nat) (M:List (Int×Int×Int)) (wr:World):Prop:=
 jZ wr w.heap.size A n c L∧jZ wr w.heap.size B m d M∧(∀q∈rowOf A,q∉rowOf B)∧Below w w wr
theorem Tw.below {w w1 w2:World} {A B:Option Addr} {n c m d:Nat} {L M:List (Int×Int×Int)} (h:Tw w A n c L B m d M w1) (hb:Below w1 w1 w2):Tw w A n c L B m d M w2:=⟨h.1.below hb,h.2.1.below hb,h.2.2.1,ai h.2.2.2 hb⟩
theorem Tw.flip {w w1:World} {A B:Option Addr} {n c m d:Nat} {L M:List (Int×Int×Int)} (h:Tw w A n c L B m d M w1):Tw w B m d M A n c L w1:=⟨h.2.1,h.1,fun q hq hq'=>h.2.2.1 q hq' hq,h.2.2.2⟩
theorem Tw.grow {w w1 w2:World} {A B A':Option Addr} {n c c' m d:Nat} {L M:List (Int×Int×Int)} {x:Int×Int×Int} (h:Tw w A n c L B m d M w1) (ho:jZ w2 w.heap.size A' (n+1) c' (L++[x])) (hc:ax (rowOf A) w1 w2) (hr:∀k∈rowOf A',k∈rowOf A∨w1.heap.size≤k):Tw w A' (n+1) c' (L++[x]) B m d M w2:=
 ⟨ho,h.2.1.aG hc (fun k hk hk'=>h.2.2.1 k hk' hk),fun q hq hq'=>by
  rcases hr q hq with h1|h1
  ·exact h.2.2.1 q h1 hq'
  ·have:=(h.2.1.dX q hq').2;omega,Below.aG h.2.2.2 hc (fun k hk=>(h.1.dX k hk).1)⟩
set_option maxRecDepth 100000 in
set_option maxHeartbeats 8000000 in
theorem Item.spread (base:Int) (A:Option Addr) (n c:Nat) (l:List It) (w:World) (hr:uk w A n l) (hn:n≤1000000):
  Calls Tryz.prog 173 #[.int .u64 base, .slice A n c] w (aV (.int .u64 (iw base l)) w):=by
 have HR:=aa hr;have hni:(n:Int)≤1000000:=af;clear hr;go_enter Tryz.func173,Tryz.ntmps173;go_wp2_with fail
 go_loopg [5,6,15] n (fun s a5 a6 i wr=>∃(k:Nat) (A1:Option Addr) (c1:Nat) (A2:Option Addr) (c2:Nat),a5= .slice A1 k c1∧a6= .slice A2 k c2∧i= .int .i64 k∧k≤n∧s=n-k∧Tw w A1 k c1 ((l.take k).map It.pp) A2 k c2 ((l.take k).map It.dp) wr)
 case atStart=>exact⟨0,none,0,none,0,rfl,rfl,rfl,Nat.zero_le _,by omega,by simpa using jZ.nil _ _,by simpa using jZ.nil _ _,(fun q hq=>by simp[rowOf] at hq),Below.refl _ _⟩
 case round=>
  obtain⟨k,A1,c1,A2,c2,rfl,rfl,rfl,hk,hs,ht⟩:=hrel;have HS:=aa hs;have HT:=aa ht;clear hs ht;by_cases hkn:k<n
  ·obtain⟨bb,off,hA,_,hc⟩:=(HR.out.below HT.out.2.2.2).2 0 af;obtain⟨p0,p1,p2,p3,p4,p5,p6⟩:=hc k hkn
   have zt:Hid (l.take (k+1)=l.take k++[l.getD k It.zero]):=aa (by
    have hkl:k<l.length:=by have:=HR.out.1;omega
    rw[List.take_succ_eq_append_getElem hkl];simp[List.getD,hkl])
   generalize l.getD k It.zero=x at *;subst hA;have hki:(k:Int)<n:=af;have hk0:(0:Int)≤k:=af;clear hc;have ha1:=aD wr (.cells x 57);have ha2:=ha1.alloc ag (.cells #[.int .u64 x.t, .int .u32 x.r, .int .u32 x.v] 55);have HT2:=aa (HT.out.below ha2);have dK:Hid (Th ((wr.alloc (.cells x 57)).alloc (.cells #[.int .u64 x.t, .int .u32 x.r, .int .u32 x.v] 55)) wr.heap.size x):=aa ((Cs.cu wr 57 x).alloc _).nW
   have hTP:Tp ((wr.alloc (.cells x 57)).alloc (.cells #[.int .u64 x.t, .int .u32 x.r, .int .u32 x.v] 55)) (wr.heap.size+1) x.pp:=by
    have:=Tp.new (wr.alloc (.cells x 57)) 55 x.pp;simp only[World.size_alloc] at this;exact this
   have O5:=HT2.out.1;have hk1:k≤1000000:=af;have hbs:=HT2.out.2.2.2.size;clear ha1 ha2
   go_wp2_with (first
    |(at_builtin;(with_reducible refine sw _ rfl (.tmp 19) (.tmp 22) rfl w.heap.size A1 k c1 ((l.take k).map It.pp) ?a1 O5 (wr.heap.size+1) x.pp ?a2 hTP hk1 hbs ?a3);(case a1=>rfl);(case a2=>rfl);(intro A3 c3 w3 ho3 hc3 hr3);(have o8:=aa (dK.out.aG hc3 (fun hm=>by have:=(HT.out.1.dX _ hm).2;omega)));(have HT3:=aa (HT2.out.grow ho3 hc3 hr3));(clear ho3 hc3 hr3 hTP O5 hbs p0 p1 p2 p3 p4 p5 p6);(obtain⟨q0,q1,q2,q3,q4,q5,q6⟩:=o8.out);(have hb4:=aD w3 (.cells #[.int .u64 x.u, .int .u32 x.s, .int .u32 x.y] 55));(have uZ:=aa (HT3.out.below hb4));(have Xg:=uZ.out.2.1);(have Xf:Tp (w3.alloc (.cells #[.int .u64 x.u, .int .u32 x.s, .int .u32 x.y] 55)) w3.heap.size x.dp:=Tp.new w3 55 x.dp);(have Xa:=uZ.out.2.2.2.size);(clear hb4))
    |(at_builtin;(with_reducible refine sw _ rfl (.tmp 24) (.tmp 27) rfl w.heap.size A2 k c2 ((l.take k).map It.dp) ?b1 Xg w3.heap.size x.dp ?b2 Xf hk1 Xa ?b3);(case b1=>rfl);(case b2=>rfl);(intro A5 c5 w5 OZ uO hr5);(have wT:=aa (uZ.out.flip.grow OZ uO hr5).flip);(clear OZ uO hr5 Xf Xg Xa q0 q1 q2 q3 q4 q5 q6))
    |fail)
   go_roundg (n-(k+1))
   case measure=>have:=HS.out;omega
   case rel=>exact⟨k+1,A3,c3,A5,c5,rfl,rfl,by go_num,by omega,rfl,by rw[zt.out,List.map_append,List.map_append];exact wT.out⟩
  ·obtain rfl:k=n:=af;have hki:¬(k:Int)<k:=af;have ht:=HT.out;rw[List.take_of_length_le (by have:=HR.out.1;omega)] at ht;have yC:=aa ht;clear ht HT;go_wp2_with fail
   refine(Pos.O8 base A1 k c1 (l.map It.pp) _ yC.out.1.ZQ af).mono ?_;rintro e w1 ⟨rfl,hb⟩;have HT1:=aa (yC.out.below hb);clear hb;go_wp2_with fail
   refine(Pos.O8 base A2 k c2 (l.map It.dp) _ HT1.out.2.1.ZQ af).mono ?_;rintro e w2 ⟨rfl,hb⟩;have HB:=aa (ai HT1.out.2.2.2 hb);clear hb;go_wp2_with fail
   go_ret;exact⟨rfl,HB.out⟩
end


section
open Go.RowKit Go.Shelf
theorem Ve (f:Fn) (a c:Array Value) (w:World):(binOp .eql 178 (.func f a c) .nilFunc).run Tryz.prog w= .ok (.bool false) w:=lD w _ f a c Tryz.underlying178
theorem Xz (f:Fn) (a c:Array Value) (w:World):(binOp .eql 174 (.func f a c) .nilFunc).run Tryz.prog w= .ok (.bool false) w:=lD w _ f a c Tryz.underlying174
theorem Xy (f:Fn) (a c:Array Value) (w:World):(binOp .eql 176 (.func f a c) .nilFunc).run Tryz.prog w= .ok (.bool false) w:=lD w _ f a c Tryz.underlying176
theorem Zt (f:Fn) (a c:Array Value) (w:World):(binOp .eql 179 (.func f a c) .nilFunc).run Tryz.prog w= .ok (.bool false) w:=lD w _ f a c Tryz.underlying179
def ZK (w:World) (e:Ending) (w':World):Prop:=∃th,e= .returned (.pointer (some ⟨th,0,none⟩))∧w.heap.size≤th∧cZ w' th .nil∧Below w.heap.size w w'
section
attribute [local go_sem] Ve Xz Xy
set_option maxRecDepth 100000 in
set_option maxHeartbeats 1000000 in
theorem Dt.new (w:World):
  Calls Tryz.prog 120 #[(.func (.func 121) #[] #[]),(.func (.func 117) #[] #[]),(.func (.func 118) #[] #[])] w (ZK w):=by
 have HN:Hid (∀W,W=((w.alloc (.cells #[(.func (.func 117) #[] #[])] 174)).alloc (.cells #[(.func (.func 118) #[] #[])] 176))→
   cZ (W.alloc (.cells #[(.func (.func 121) #[] #[]),(.func (.func 118) #[] #[]),(.func (.func 160) #[] #[w, .pointer (some ⟨w.heap.size+1,0,none⟩)]), .pointer none, .int .i64 0] 212)) (w.heap.size+2) .nil):=aa (by
  rintro W rfl;have h1:=Cs.bL w 174 [(.func (.func 117) #[] #[])];have h2:=Cs.bL (w.alloc (.cells #[(.func (.func 117) #[] #[])] 174)) 176 [(.func (.func 118) #[] #[])];have h3:=Cs.bL ((w.alloc (.cells #[(.func (.func 117) #[] #[])] 174)).alloc (.cells #[(.func (.func 118) #[] #[])] 176)) 212 [(.func (.func 121) #[] #[]),(.func (.func 118) #[] #[]),(.func (.func 160) #[] #[w, .pointer (some ⟨w.heap.size+1,0,none⟩)]), .pointer none, .int .i64 0];simp only[World.size_alloc] at h2 h3;refine⟨⟨w.heap.size,w.heap.size+1,h3,(h1.alloc _).alloc _,h2.alloc _,?_,?_,?_,by omega,by omega⟩,trivial,List.nodup_nil⟩
  ·simp[go_sem]
  ·simp[go_sem]
  ·simp[go_sem])
 go_enter Tryz.func120,Tryz.ntmps120;go_wp2_with fail
 go_ret;exact⟨w.heap.size+2,rfl,by omega,HN.out _ rfl,(((Below.refl _ _).alloc ay _).alloc ag _).alloc (by simp;omega) _⟩
end
inductive mI:List It→Tr It→Prop
 |nil:mI [] .nil
 |put {l:List It} {t:Tr It} {x:It} {k:Nat}:mI l t→Tr.has It.ahead x t=false→mI (l++[x]) ((Tr.put It.ahead k x t).dz false)
 |skip {l:List It} {t:Tr It} {x:It}:mI l t→Tr.has It.ahead x t=true→mI (l++[x]) t
theorem mI.len {l:List It} {t:Tr It} (h:mI l t):t.list.length≤l.length:=by
 induction h with
 |nil=>simp[Tr.list]
 |put _ _ ih=>rw[Tr.iX,Tr.xB];simp;omega
 |skip _ _ ih=>simp;omega
def Gd (w:World) (th:Nat) (t:Tr It) (w':World):Prop:=cZ w' th t∧w.heap.size≤th∧(∀g∈t.blocks,w.heap.size≤g)∧Below w.heap.size w w'
theorem Gd.below {w w1 w2:World} {th:Nat} {t:Tr It} (h:Gd w th t w1) (hb:Below w1 w1 w2):Gd w th t w2:=⟨h.1.below hb,h.2.1,h.2.2.1,ai h.2.2.2 hb⟩
theorem Gd.ins {w w1 w2:World} {th:Nat} {t:Tr It} {x:It} {k:Nat} (h:Gd w th t w1) (hk:w1.heap.size≤k) (ht:cZ w2 th ((Tr.put It.ahead k x t).dz false)) (hc:ax (th::t.blocks) w1 w2):Gd w th ((Tr.put It.ahead k x t).dz false) w2:=
 ⟨ht,h.2.1,fun g hg=>by
  rw[Tr.fU] at hg;rcases List.mem_cons.1 ((Tr.iM It.ahead k x t).mem_iff.1 hg) with rfl|h1
  ·exact Nat.le_trans h.2.2.2.size hk
  ·exact h.2.2.1 g h1,h.2.2.2.trans (hc.toBelow h.2.2.2.size (fun g hg=>by
  rcases List.mem_cons.1 hg with rfl|h1
  ·exact h.2.1
  ·exact h.2.2.1 g h1))⟩
end


section
open Go.RowKit
variable {a:It} {w w1:World}
def gN (p:It→Bool):Tr It→Bool×It→Bool×It
 | .nil,acc=>acc
 | .node _ _ l x r,acc=>if p x then gN p r (true,if acc.1 then sooner acc.2 (dA l x) else dA l x) else gN p l acc
def Fv (w:World) (a:It) (w':World):Prop:=(∃z:It,Cs w' w.heap.size z.cells)∧Cs w' (w.heap.size+1) a.cells∧Below w.heap.size w w'
theorem Fv.below {w w1 w2:World} {a:It} (h:Fv w a w1) (hb:Below w1 w1 w2):Fv w a w2:=⟨by obtain⟨z,hz⟩:=h.1;exact⟨z,hz.below hb⟩,h.2.1.below hb,ai h.2.2 hb⟩
theorem Fv.store (h:Fv w a w1) (k:It):∀W,W=w1.setCells (w.heap.size+1) 0 k.cells→Fv w k W:=fun W e=>by
 obtain⟨⟨z,hz⟩,h1,h2⟩:=h;rw[e];exact⟨⟨z,hz.qL af _ _⟩,h1.stored k,aU af _ _ h2⟩
theorem Fv.other (h:Fv w a w1) {b:Nat} (hb:w.heap.size+1<b) (k:It):Fv w a (w1.setCells b 0 k.cells):=by
 obtain⟨⟨z,hz⟩,h1,h2⟩:=h;exact⟨⟨z,hz.qL af _ _⟩,h1.qL af _ _,aU af _ _ h2⟩
theorem Cs.lt7 {g:Nat} (h:Cs w g a.cells):g<w.heap.size:=World.block_lt_of_cell? w _ (h 0 _ rfl).1
end


section
open Go.RowKit
def gY (a:It) (L:List It):Prop:=a∈L∧∀b∈L,It.due b a=false
theorem Tr.xG {t:Tr It} (h:t.isNil=true):t.list=[]:=by cases t with
 |nil=>rfl
 |node g c l x r=>simp[Tr.isNil] at h
def oK (L:List It):Prop:=L.Pairwise (fun a b=>It.ahead a b=true)
def SS (q:Bool×It) (M:List It):Prop:=(q.1=false∧q.2=It.zero∧M=[])∨(q.1=true∧gY q.2 M)
def same (x y:It):Prop:=It.ahead x y=false∧It.ahead y x=false
def jX (x:It) (L:List It):List It:=L.takeWhile (fun y=> !It.ahead x y)++x::L.dropWhile (fun y=> !It.ahead x y)
theorem vP {p:It→Bool} (L:List It):∀a∈L.takeWhile p,p a=true:=by
 induction L with
 |nil=>intro a h;simp at h
 |cons b bs ih=>
  intro a h;rw[List.takeWhile_cons] at h;split at h
  ·rcases List.mem_cons.1 h with rfl|h
   ·assumption
   ·exact ih a h
  ·simp at h
end


section
open Go.RowKit
theorem MX (b:Int) (ps:List (Int×Int×Int)):∀m:Int,ps.foldl (fun m q=>min m (aH q.1 b)) m≤m:=by
 induction ps with
 |nil=>intro m;exact Int.le_refl _
 |cons p ps ih=>intro m;exact Int.le_trans (ih _) (by show min m (aH p.1 b)≤m;omega)
theorem M0 (b:Int) (ps:List (Int×Int×Int)):∀m:Int,m≤ps.foldl (fun m q=>max m (aH q.1 b)) m:=by
 induction ps with
 |nil=>intro m;exact Int.le_refl _
 |cons p ps ih=>intro m;exact Int.le_trans (by show m≤max m (aH p.1 b);omega) (ih _)
theorem MZ (b:Int) (ps:List (Int×Int×Int)):∀m:Int,-9223372036854775808≤m→-9223372036854775808≤ps.foldl (fun m q=>min m (aH q.1 b)) m:=by
 induction ps with
 |nil=>intro m h;exact h
 |cons p ps ih=>intro m h;exact ih _ (by have:=og p.1 b;show-9223372036854775808≤min m (aH p.1 b);omega)
theorem CZ (b:Int) (ps:List (Int×Int×Int)):∀m:Int,m≤9223372036854775807→ps.foldl (fun m q=>max m (aH q.1 b)) m≤9223372036854775807:=by
 induction ps with
 |nil=>intro m h;exact h
 |cons p ps ih=>intro m h;exact ih _ (by have:=og p.1 b;show max m (aH p.1 b)≤9223372036854775807;omega)
theorem lC (b:Int) (l:List It):iw b l=max (kT b (l.map It.pp)) (kT b (l.map It.dp))-oW b (l.map It.pp)∧0≤iw b l∧iw b l≤18446744073709551615:=by
 have key:∀M m:Int,m≤M→-9223372036854775808≤m→M≤9223372036854775807→IntKind.u64.wrap (IntKind.u64.wrap M-IntKind.u64.wrap m)=M-m:=by
  intro M m h1 h2 h3;rw[IntKind.wrap_u64,IntKind.wrap_u64,IntKind.wrap_u64];omega
 unfold iw;cases l with
 |nil=>
  have e:oW b ([].map It.pp)=0∧kT b ([].map It.pp)=0∧kT b ([].map It.dp)=0:=⟨rfl,rfl,rfl⟩;rw[e.1,e.2.1,e.2.2,key (max 0 0) 0 af af af];omega
 |cons a l=>
  have h1:oW b ((a::l).map It.pp)≤aH a.t b:=MX b (l.map It.pp) _;have h2:aH a.t b≤kT b ((a::l).map It.pp):=M0 b (l.map It.pp) _;have h3: -9223372036854775808≤oW b ((a::l).map It.pp):=MZ b (l.map It.pp) _ (og _ _).1;have h4:kT b ((a::l).map It.pp)≤9223372036854775807:=CZ b (l.map It.pp) _ (og _ _).2;have h5:kT b ((a::l).map It.dp)≤9223372036854775807:=CZ b (l.map It.dp) _ (og _ _).2;rw[key _ _ af h3 af];omega
end


section
open Go.RowKit
variable {u:Value} {b:Nat} {t:Tr It} {w W:World}
def aaX (l:List It) (w:World) (e:Ending) (w':World):Prop:=∃th t,e= .returned (.agg #[.pointer (some ⟨th,0,none⟩)])∧mI l t∧Gd w th t w'
def Dn (w:World) (b th:Nat) (t:Tr It) (wr:World):Prop:=Gd w th t wr∧Cs wr w.heap.size [.pointer none]∧Cs wr b [.pointer (some ⟨th,0,none⟩)]∧(∀g∈th::t.blocks,g≠w.heap.size∧g≠b)
theorem Dn.below {w w1 w2:World} {b th:Nat} {t:Tr It} (h:Dn w b th t w1) (hb:Below w1 w1 w2):Dn w b th t w2:=⟨h.1.below hb,h.2.1.below hb,h.2.2.1.below hb,h.2.2.2⟩
theorem Dn.ins {w w1 w2:World} {b th:Nat} {t:Tr It} {x:It} {k:Nat} (h:Dn w b th t w1) (hk:w1.heap.size≤k) (ht:cZ w2 th ((Tr.put It.ahead k x t).dz false)) (hc:ax (th::t.blocks) w1 w2):Dn w b th ((Tr.put It.ahead k x t).dz false) w2:=
 ⟨h.1.ins hk ht hc,h.2.1.aG hc (fun hm=>(h.2.2.2 _ hm).1 rfl),h.2.2.1.aG hc (fun hm=>(h.2.2.2 _ hm).2 rfl),fun g hg=>by
   rcases List.mem_cons.1 hg with rfl|h1
   ·exact h.2.2.2 _ ag
   ·rw[Tr.fU] at h1;rcases List.mem_cons.1 ((Tr.iM It.ahead k x t).mem_iff.1 h1) with rfl|h2
    ·have h3:=h.2.1.lt;have h4:=h.2.2.1.lt;exact⟨by omega,by omega⟩
    ·exact h.2.2.2 g (by simp[h2])⟩
theorem bM.R8 (h:bM w t) {o:Nat} (e:W=w.setCell ⟨b,o,none⟩ u) (hb:b∉t.blocks):bM W t:=by
 have hch:ax [b] w W:=by rw[e];exact(ax.refl _ _).set (Or.inl ag) _ _
 induction t with
 |nil=>trivial
 |node g c l x r ihl ihr=>
  obtain⟨⟨v,hv,hc⟩,hl,hr⟩:=h;simp only[Tr.blocks,List.mem_cons,List.mem_append,not_or] at hb;exact⟨⟨v,hv,hc.aG hch (by simp;exact fun e=>hb.1 e.symm)⟩,ihl hl hb.2.1,ihr hr hb.2.2⟩
theorem bC.R8 {th:Nat} {rt:Value} {n:Int} {v u:Value} (h:bC w th rt n) (hc:Cs w b [v]) (hp:∃p,v= .pointer p) (hth:th≠b) (e:W=w.setCell ⟨b,0,none⟩ u):bC W th rt n:=by
 obtain⟨p,rfl⟩:=hp;obtain⟨b1,b2,h0,h1,h2,n0,n1,n2,f1,f2⟩:=h;have hch:ax [b] w W:=by rw[e];exact(ax.refl _ _).set (Or.inl ag) _ _
 have g1:b1∉[b]:=fun hm=>by simp at hm;subst hm;have:=hc.aL;rw[h1.aL] at this;cases this
 have g2:b2∉[b]:=fun hm=>by simp at hm;subst hm;have:=hc.aL;rw[h2.aL] at this;cases this
 have g0:th∉[b]:=by simpa using hth
 exact⟨b1,b2,h0.aG hch g0,h1.aG hch g1,h2.aG hch g2,(hch.cell (p:=⟨th,14,none⟩) h0.lt g0).trans n0,(hch.cell (p:=⟨b1,14,none⟩) h1.lt g1).trans n1,(hch.cell (p:=⟨b2,14,none⟩) h2.lt g2).trans n2,f1,f2⟩
set_option maxRecDepth 100000 in
set_option maxHeartbeats 4000000 in
theorem oD.new (A:Option Addr) (n c:Nat) (l:List It) (w:World) (hr:uk w A n l) (hl:Du l) (hn:n≤800000):
  Calls Tryz.prog 80 #[.slice A n c] w (aaX l w):=by
 have HR:=aa hr;have HL:=aa hl;have hni:(n:Int)≤800000:=af;clear hr hl;go_enter Tryz.func80,Tryz.ntmps80;go_wp2_with fail
 refine(Dt.new _).mono ?_;rintro e w1 ⟨th,rfl,hth,ht,hb⟩;have hb1:=ai (aD w (.cells #[.pointer none] 83)) hb
 have HD0:Hid (Dn w w1.heap.size th .nil (w1.alloc (.cells #[th] 83))):=aa (by
  have hz:=Cs.bL w 83 [.pointer none];have hz2:=Cs.bL w1 83 [.pointer (some ⟨th,0,none⟩)];have hlt:th<w1.heap.size:=by obtain⟨_,_,t0,_⟩:=ht.1;exact t0.lt
  simp at hth;have ha:=aD w1 (.cells #[th] 83)
  exact⟨⟨ht.below ha,by omega,fun g hg=>by simp[Tr.blocks] at hg,ai hb1 ha⟩,(hz.below hb).below ha,hz2,fun g hg=>by
   simp[Tr.blocks] at hg;subst hg;exact⟨by omega,by omega⟩⟩)
 clear hth ht hb hb1;go_wp2_with fail
 generalize hbb:w1.heap.size=b at HD0⊢
 generalize (w1.alloc (.cells #[th] 83))=W1 at HD0⊢
 go_loopg [14] n (fun s i wr=>∃(k:Nat) (t:Tr It),i= .int .i64 k∧k≤n∧s=n-k∧mI (l.take k) t∧Dn w b th t wr)
 case atStart=>exact⟨0, .nil,rfl,Nat.zero_le _,by omega,by simpa using mI.nil,HD0.out⟩
 case round=>
  obtain⟨k,t,rfl,hk,hs,hbt,hd⟩:=hrel;have HS:=aa hs;have Us:=aa hbt;have HD:=aa hd;clear hs hbt hd HD0;by_cases hkn:k<n
  ·obtain⟨bb,off,hA,_,hc⟩:=(HR.out.below HD.out.1.2.2.2).2 0 af;obtain⟨p0,p1,p2,p3,p4,p5,p6⟩:=hc k hkn;have HX:=aa (HL.out.get (show k<l.length by have:=HR.out.1;omega))
   have zt:Hid (l.take (k+1)=l.take k++[l.getD k It.zero]):=aa (by
    have hkl:k<l.length:=by have:=HR.out.1;omega
    rw[List.take_succ_eq_append_getElem hkl];simp[List.getD,hkl])
   have gG:Hid (t.list.length<900000):=aa (by have h1:=Us.out.len;simp at h1;omega);generalize l.getD k It.zero=x at *;subst hA;have hki:(k:Int)<n:=af;clear hc;have DR:=aa (HD.out.below (aD wr (.cells x 57)));have q:=DR.out.2.2.1.aL;cases hh:Tr.has It.ahead x t with
   |true=>
    have HH:=aa hh;clear hh;go_wp2_with fail
    refine(Dt.OQ th t x HX.out _ DR.out.1.1 HH.out).mono ?_;rintro e w3 ⟨rfl,hb3⟩;have HD3:=aa (DR.out.below hb3);clear hb3 q p0 p1 p2 p3 p4 p5 p6;go_wp2_with fail
    go_roundg (n-(k+1))
    case measure=>have:=HS.out;omega
    case rel=>exact⟨k+1,t,by go_num,by omega,rfl,by rw[zt.out];exact .skip Us.out HH.out,HD3.out⟩
   |false=>
    have HH:=aa hh;clear hh;go_wp2_with fail
    refine(Dt.insert th t x HX.out _ DR.out.1.1 gG.out HH.out).mono ?_;rintro e w3 ⟨k',hk',rfl,ht',hc'⟩;have HD3:=aa (DR.out.ins hk' ht' hc');clear hk' ht' hc' q p0 p1 p2 p3 p4 p5 p6;go_wp2_with fail
    go_roundg (n-(k+1))
    case measure=>have:=HS.out;omega
    case rel=>exact⟨k+1,_,by go_num,by omega,rfl,by rw[zt.out];exact .put Us.out HH.out,HD3.out⟩
  ·obtain rfl:k=n:=af;have hki:¬(k:Int)<k:=af;have hq:=Us.out;rw[List.take_of_length_le (by have:=HR.out.1;omega)] at hq;have HQ:=aa hq;clear hq;have q0:=HD.out.2.2.1.aL;have q1:=HD.out.2.1.aL;have q2:=HD.out.2.1.lM
   have qN:Hid (∀W,W=wr.setCell ⟨w,0,none⟩ (.pointer (some ⟨th,0,none⟩))→Gd w th t W∧W.cell? w=some (.pointer (some ⟨th,0,none⟩))):=aa (by
    intro W e;obtain⟨⟨h1,h2,h3,h4⟩,h5,h6,h7⟩:=HD.out;have hch:ax [w.heap.size] wr W:=by rw[e];exact(ax.refl _ _).set (Or.inl ag) _ _
    have hno:∀g∈th::t.blocks,g∉[w.heap.size]:=fun g hg hg'=>by simp at hg';exact(h7 g hg).1 hg'
    refine⟨⟨⟨bC.R8 h1.1 h5 ⟨_,rfl⟩ (h7 th ag).1 e,bM.R8 h1.2.1 e (fun hm=>(h7 _ (by simp[hm])).1 rfl),h1.2.2⟩,h2,h3,h4.trans (hch.toBelow h4.size (fun g hg=>by simp at hg;omega))⟩,by rw[e];exact World.cell?_setCell_same _ _ _ q1⟩)
   go_wp2_with fail
   have mG:=aa (qN.out _ rfl);clear qN q0 q1 q2;generalize wr.setCell ⟨w,0,none⟩ (.pointer (some ⟨th,0,none⟩))=W9 at mG⊢
   have q:=mG.out.2;refine bodyPost_ret (v:= .agg #[th]) (by simp[results,Tryz.results80,go_sem,q]) rfl ⟨th,t,rfl,HQ.out,mG.out.1⟩
theorem mI.oU {L:List It} (h:mI L t) (e:L=[]):t= .nil:=by
 cases h with
 |nil=>rfl
 |put h1 h2=>exact absurd (congrArg List.length e) ag
 |skip h1 h2=>exact absurd (congrArg List.length e) ag
end


section
open Go.RowKit
variable {n c base:Nat} {A:Option Addr} {w:World}
def bV (w:World) (base:Nat) (A:Option Addr) (n c:Nat) (l:List It):Prop:=w.ownsRow base 57 7 (.slice A n c) n (l.flatMap It.cells)
theorem It.kV (a:It):a.cells.length=7:=rfl
theorem qW (l:List It):(l.flatMap It.cells).length=l.length*7:=by
 induction l with
 |nil=>rfl
 |cons a l ih=>rw[List.flatMap_cons,List.length_append,ih,It.kV,List.length_cons];omega
theorem FB:∀(l:List It) (j i:Nat),j<l.length→i<7→(l.flatMap It.cells)[j*7+i]?=(l.getD j It.zero).cells[i]?
 |[],j,i,h,_=>absurd h ag
 |a::l,0,i,_,hi=>by
  rw[List.flatMap_cons,List.getElem?_append_left (by rw[It.kV];omega)];simp
 |a::l,j+1,i,h,hi=>by
  rw[List.flatMap_cons,List.getElem?_append_right (by rw[It.kV];omega),It.kV,show(j+1)*7+i-7=j*7+i by omega,FB l j i (by simpa using h) hi];simp
theorem bV.nil (w:World) (base:Nat):bV w base none 0 0 []:=World.ownsRow_nil _ _ _ _
theorem bV.len {l:List It} (h:bV w base A n c l):l.length=n:=by
 have:=h.1;rw[qW] at this;omega
theorem bV.cap {w:World} {base:Nat} {A:Option Addr} {n c:Nat} {l:List It} (h:bV w base A n c l):n≤c:=by
 rcases h.2 with⟨hv,h0⟩|⟨g,cap,cur,hv,_,_,h1,_⟩
 ·omega
 ·injection hv with _ _ e;omega
theorem bV.dX {l:List It} (h:bV w base A n c l):∀k∈rowOf A,base≤k∧k<w.heap.size:=by
 intro k hk;rcases h.2 with⟨hv,_⟩|⟨g,cap,cur,hv,hb,hg,_⟩
 ·injection hv with e1;subst e1;simp[rowOf] at hk
 ·injection hv with e1;subst e1;have hkg:k=g:=by simpa[rowOf,eq_comm] using hk
  rw[hkg];refine⟨hb,?_⟩;rcases Nat.lt_or_ge g w.heap.size with h1|h1
  ·exact h1
  ·rw[Array.getElem?_eq_none h1] at hg;cases hg
theorem bV.below {w w':World} {l:List It} (h:bV w base A n c l) (hb:Below w w w'):bV w' base A n c l:=by
 obtain⟨h1,h2⟩:=h;refine⟨h1,?_⟩;rcases h2 with h2|⟨g,cap,cur,hv,hg,hh,r⟩
 ·exact .inl h2
 ·refine .inr ⟨g,cap,cur,hv,hg,?_,r⟩;rw[hb.block g ?_]
  ·exact hh
  ·rcases Nat.lt_or_ge g w.heap.size with h1|h1
   ·exact h1
   ·rw[Array.getElem?_eq_none h1] at hh;cases hh
theorem bV.alloc {w:World} {base:Nat} {A:Option Addr} {n c:Nat} {l:List It} (h:bV w base A n c l) (o:Obj):bV (w.alloc o) base A n c l:=h.below ((Below.refl _ _).alloc ay o)
theorem bV.Ol {l:List It} (h:bV w base A n c l):uk w A n l:=by
 refine⟨h.len,fun i hn=> ?_⟩;obtain⟨g,cap,hv,_,hlt⟩:=h.form af;have hA:A=some ⟨g,0,none⟩:=by injection hv
 subst hA;refine⟨g,0,rfl,hlt,fun j hj=> ?_⟩
 have hc:∀i,i<7→w.cell? ⟨g,0+j*7+i,none⟩=(l.getD j It.zero).cells[i]?:=fun i hi=>by
  rw[←FB l j i (by rw[h.len];exact hj) hi,Nat.zero_add];injection hv with _ _ e;subst e;exact h.cellAt _ af
 exact⟨hc 0 af,hc 1 af,hc 2 af,hc 3 af,hc 4 af,hc 5 af,hc 6 af⟩
theorem qF {ops:Array Oper} {o:Oper} {a:Act} {K:Act→World→Prop} {Q:Exit→Act→World→Prop} {E:Prop} (w:World) (hgd:o.guard=none) (s x:Operand)
  (ho:o.op= .call {callee:= .builtin .append,args:= #[s,x],argTypes:= #[166,166]})
  (base:Nat) (A:Option Addr) (n c:Nat) (l:List It) (hs:a.eval s= .slice A n c) (hown:bV w base A n c l) (b:Nat) (d:It) (hx:a.eval x= .slice (some ⟨b,0,none⟩) 1 1)
  (hcell:Th w b d) (hn:n≤1000000) (hbase:base≤w.heap.size)
  (h:∀A' c' w',bV w' base A' (n+1) c' (l++[d])→ax (rowOf A) w w'→(∀k∈rowOf A',k∈rowOf A∨w.heap.size≤k)→K (a.put o.dst (.slice A' (n+1) c')) w'):
  if Region.wanted o (yielded ops a.tmps)=true then Oper.wp Tryz.prog o a w K Q else E:=by
 obtain⟨i0,hi,hz0,hz1,hz2⟩:∃i0,Tryz.prog.info? 57=some i0∧i0.zero=some (.agg aM)∧i0.size=7∧i0.bytes=40:=by
  have hq:(Tryz.prog.info? 57).map (fun i=>(i.zero,i.size,i.bytes))=some (some (.agg aM),7,40):=by kernel_rfl
  cases hi:Tryz.prog.info? 57 with
  |none=>rw[hi] at hq;cases hq
  |some i=>
   rw[hi] at hq;simp only[Option.map_some,Option.some.injEq,Prod.mk.injEq] at hq;exact⟨i,rfl,hq.1,hq.2.1,hq.2.2⟩
 obtain⟨c0,c1,c2,c3,c4,c5,c6⟩:=hcell
 refine step_append_lies w hgd s x 166 ho base 57 i0 (.agg aM) 7 40 Tryz.underlying166 hi hz0 hz1 hz2 rfl ak (.slice A n c) n (l.flatMap It.cells) hs hown
  ⟨b,0,none⟩ 1 1 d.cells hx rfl ?_ ?_ ak (by unfold maxLen;omega) af hbase _ rfl ?_
 ·intro j u hj;have hadd:(⟨b,0,none⟩:Addr).add j=⟨b,j,none⟩:=by unfold Addr.add;split<;>simp_all
  rw[hadd];match j,hj with
  |0,hj|1,hj|2,hj|3,hj|4,hj|5,hj|6,hj=>simp[It.cells] at hj;subst hj;first|exact c0|exact c1|exact c2|exact c3|exact c4|exact c5|exact c6
  |n+7,hj=>simp[It.cells] at hj
 ·intro u hu;simp[It.cells] at hu;rcases hu with rfl|rfl|rfl|rfl|rfl|rfl|rfl<;>rfl
 ·intro g cap w' h2 h3 h4 _;refine h _ _ w' (by unfold bV;simpa using h2) (ax.grown h3) (fun k hk=> ?_);simp[rowOf] at hk;subst hk;rcases h4 with h4|h4
  ·exact Or.inl (sV h4)
  ·right;omega
end


section
open Go.RowKit
def Uw (W0:World) (A0:Option Addr) (L:List It) (w:World) (e:Ending) (w':World):Prop:=∃A n c,e= .returned (.slice A n c)∧bV w' W0.heap.size A n c L∧Below W0.heap.size W0 w'∧ax (rowOf A0) w w'∧∀k∈rowOf A,k∈rowOf A0∨w.heap.size≤k
theorem Pz {w w2:World} {base:Nat} {A:Option Addr} {n c:Nat} {l:List It} {x:It} {t:TypeId} (ho:bV w base A n c l) (hc:ax (rowOf A) (w.alloc (.cells x t)).drew w2):Th w2 w.heap.size x:=
 (show Th (w.alloc (.cells x t)).drew w.heap.size x from(Cs.cu w t x).nW).aG hc (fun hm=>by have:=(ho.dX _ hm).2;omega)
set_option maxRecDepth 100000 in
set_option maxHeartbeats 2000000 in
theorem Dt.ZG (W0:World) (t:Tr It):bM W0 t→∀(w:World) (A:Option Addr) (n c:Nat) (zs:List It),Below W0 W0 w→bV w W0.heap.size A n c zs→zs.length+t.list.length≤900000→
  Calls Tryz.prog 176 #[ptr t, .slice A n c] w (Uw W0 A (zs++t.list) w):=by
 induction t with
 |nil=>
  intro _ w A n c zs hb ho _;have HB:=aa hb;have HO:=aa ho;clear hb ho;simp only[kP];go_enter Tryz.func176,Tryz.ntmps176;go_wp2_with fail
  go_ret;exact⟨A,n,c,rfl,by simpa[Tr.list] using HO.out,HB.out,ax.refl _ _,fun k hk=>Or.inl hk⟩
 |node g cc l x r ihl ihr=>
  intro h w A n c zs hb ho hn;have IL:=aa (ihl h.2.1);have IR:=aa (ihr h.2.2);have HI:=aa h;have HB:=aa hb;have HO:=aa ho;simp only[Tr.list,List.length_append,List.length_cons] at hn;obtain⟨⟨v,_,hc⟩,_,_⟩:=h;have HQ:Hid (∀w',Below W0 W0 w'→(w'.cell? ⟨g,15,none⟩=some (ptr r)∧w'.cell? ⟨g,14,none⟩=some (ptr l)∧(w'.cell? g=some (.int .u64 x.t)∧w'.cell? ⟨g,1,none⟩=some (.int .u32 x.r)∧w'.cell? ⟨g,2,none⟩=some (.int .u32 x.v)∧w'.cell? ⟨g,3,none⟩=some (.int .i64 x.i)∧w'.cell? ⟨g,4,none⟩=some (.int .u64 x.u)∧w'.cell? ⟨g,5,none⟩=some (.int .u32 x.s)∧w'.cell? ⟨g,6,none⟩=some (.int .u32 x.y)))∧Below W0 W0 w'):=aa (fun w' hb=>⟨⟨aS hb hc.fG,aS hb hc.eO,(hc.th.below hb)⟩,hb⟩);have kE:=aa ho.len;have hn1:zs.length+l.list.length≤900000:=af;have hn2:(zs++l.list++[x]).length+r.list.length≤900000:=by simp;omega
  have iU:=aa hn1;have sJ:=aa hn2;have hz:=hb.size;clear hb ho hc ihl ihr hn1 hn2;simp only[aX];go_enter Tryz.func176,Tryz.ntmps176;go_wp2_with fail
  go_region_held3 (fun w'=>(w'.cell? ⟨g,15,none⟩=some (ptr r)∧w'.cell? ⟨g,14,none⟩=some (ptr l)∧(w'.cell? g=some (.int .u64 x.t)∧w'.cell? ⟨g,1,none⟩=some (.int .u32 x.r)∧w'.cell? ⟨g,2,none⟩=some (.int .u32 x.v)∧w'.cell? ⟨g,3,none⟩=some (.int .i64 x.i)∧w'.cell? ⟨g,4,none⟩=some (.int .u64 x.u)∧w'.cell? ⟨g,5,none⟩=some (.int .u32 x.s)∧w'.cell? ⟨g,6,none⟩=some (.int .u32 x.y)))∧Below W0 W0 w')
   (first|with_reducible exact HQ.out _ HB.out.drew|with_reducible exact HQ.out _ hb2|with_reducible exact HQ.out _ ((HB.out.alloc hz _).drew)|with_reducible exact HQ.out _ (hb2.alloc hb2.size _))
   (first
    |(go_at_call_of 176 (ptr l);refine(IL.out _ A n c zs (And.right (by assumption:(_∧_∧_)∧Below W0 W0 _)) (by first|exact HO.out|exact HO.out.alloc _) iU.out).mono ?_;rintro e w2 ⟨A2,n2,c2,rfl,ho2,hb2,hc2,hr2⟩;have ig:=aa ho2;have jD:=aa hc2;have HR2:=aa hr2;(try(have ZI:=aa (Pz HO.out jD.out)));clear ho2 hc2 hr2)
    |(go_at_call_of 176 (ptr r);refine(IR.out _ A3 _ c3 (zs++l.list++[x]) (And.right (by assumption:(_∧_∧_)∧Below W0 W0 _)) fJ.out sJ.out).mono ?_;rintro e w4 ⟨A4,n4,c4,rfl,Fu,hb2,hc4,hr4⟩;have qj:=aa Fu;have Uq:=aa hc4;have HR4:=aa hr4;clear Fu hc4 hr4)
    |((refine qF _ au (.tmp 17) (.tmp 22) au W0.heap.size A2 n2 c2 (zs++l.list) au (ig.out.alloc _) w2.heap.size x au (Cs.cu _ _ x).nW (by have:=ig.out.len;have:=iU.out;simp at *;omega) (by simp;exact Nat.le_succ_of_le hb2.size) ?_);intro A3 c3 w3 ho3 hc3 hr3;have fJ:=aa ho3;have nL:=aa hc3;have HR3:=aa hr3;have hb2:=Below.aG (And.right (by assumption:(_∧_∧_)∧Below W0 W0 _)) hc3 (fun k hk=>(ig.out.dX k hk).1);clear ho3 hc3 hr3)
    |(refine qF _ au (.tmp 17) (.tmp 22) au W0.heap.size A2 n2 c2 (zs++l.list) au ig.out w.heap.size x au ZI.out (by have:=ig.out.len;have:=iU.out;simp at *;omega) hb2.size ?_;intro A3 c3 w3 ho3 hc3 hr3;have fJ:=aa ho3;have nL:=aa hc3;have HR3:=aa hr3;have hb2:=Below.aG (And.right (by assumption:(_∧_∧_)∧Below W0 W0 _)) hc3 (fun k hk=>(ig.out.dX k hk).1);clear ho3 hc3 hr3)
    |fail)
  all_goals
   have Qs:=aa (And.right (by assumption:(_∧_∧_)∧Below W0 W0 w4));have jQ:=aa (show bV w4 W0.heap.size A4 n4 c4 (zs++(Tr.node g cc l x r).list) by have:=qj.out;simpa[Tr.list] using this);go_wp2_with fail
   go_ret;refine⟨A4,n4,c4,rfl,jQ.out,Qs.out,?_⟩
   first
    |exact ax.chain (Below.refl _ _).drew jD.out HR2.out ((Below.refl _ _).alloc ay _) nL.out HR3.out Uq.out HR4.out
    |exact ax.chain ((Below.refl _ _).alloc ay _).drew jD.out HR2.out o7 nL.out HR3.out Uq.out HR4.out
set_option maxHeartbeats 1000000 in
theorem Dt.all (th:Nat) (t:Tr It) (w:World) (h:cZ w th t) (hn:t.list.length≤900000):
  Calls Tryz.prog 149 #[th] w (Uw w none t.list w):=by
 obtain⟨_,_,t0,_⟩:=h.1;have e3:=t0.at3;have HI:=aa h.2.1;clear h t0;go_enter Tryz.func149,Tryz.ntmps149;go_wp2_with fail
 refine(Dt.ZG w t HI.out w none 0 0 [] o7 (bV.nil _ _) (by simpa using hn)).mono ?_;rintro e w1 ⟨A,n,c,rfl,h1,h2,h3⟩;have H1:=aa h1;have H2:=aa h2;have H3:=aa h3;clear h1 h2 h3;go_wp2_with fail
 go_ret;exact⟨A,n,c,rfl,by simpa using H1.out,H2.out,H3.out⟩
end


section
open Go.RowKit
def uJ (d:Int):Bool:=decide (-4611686018427387904<d)&&decide (d<4611686018427387904)
def dY (t:Int) (a:It):Bool:=uJ (aH a.t t)&&uJ (aH a.u t)&&It.right a
theorem FE {a b t:Int} (ha:uJ (aH a t)=true) (hb:uJ (aH b t)=true):aH b a=aH b t-aH a t:=by
 unfold uJ at ha hb;simp at ha hb;unfold aH at *;omega
namespace Wd
theorem gp {t:Int} {a:It} (h:dY t a=true):uJ (aH a.t t)=true∧uJ (aH a.u t)=true∧0<a.v∧0<a.y:=by
 unfold dY It.right Cn at h;simp at h;refine⟨h.1.1,h.1.2,?_,?_⟩<;>omega
theorem Zb {t:Int} {a b:It} (ha:dY t a=true) (hb:dY t b=true):mO a.t a.r a.v b.t b.r b.v=(a.p1 t).c (b.p1 t):=by
 unfold mO Pl.c It.p1;rw[FE (gp ha).1 (gp hb).1]
theorem Za {t:Int} {a b:It} (ha:dY t a=true) (hb:dY t b=true):mO a.u a.s a.y b.u b.s b.y=(a.p2 t).c (b.p2 t):=by
 unfold mO Pl.c It.p2;rw[FE (gp ha).2.1 (gp hb).2.1]
theorem ji {t:Int} {a b:It} (ha:dY t a=true) (hb:dY t b=true):It.ahead a b=true↔(a.p1 t).c (b.p1 t)<0∨(a.p1 t).c (b.p1 t)=0∧a.i<b.i:=by
 unfold It.ahead;rw[Zb ha hb];split
 ·rename_i h;simp[h]
 ·rename_i h;simp;omega
theorem Lg {t:Int} {a b:It} (ha:dY t a=true) (hb:dY t b=true):It.due a b=true↔(a.p2 t).c (b.p2 t)<0∨(a.p2 t).c (b.p2 t)=0∧It.ahead a b=true:=by
 unfold It.due;rw[Za ha hb];split
 ·rename_i h;simp[h]
 ·rename_i h;simp;omega
theorem Sz {t:Int} {a b:It} (ha:dY t a=true) (hb:dY t b=true) (h:a.i≠b.i):It.ahead b a= !It.ahead a b:=by
 have h1:=ji ha hb;have h2:=ji hb ha;have h3:=Pl.Jq (a.p1 t) (b.p1 t);cases e:It.ahead a b<;>cases e':It.ahead b a<;>simp_all<;>omega
theorem YZ {t:Int} {a b c:It} (ha:dY t a=true) (hb:dY t b=true) (hc:dY t c=true) (h1:It.ahead a b=true) (h2:It.ahead b c=true):It.ahead a c=true:=by
 rw[ji ha hb] at h1;rw[ji hb hc] at h2;rw[ji ha hc];have h3:=Pl.trans (p:=a.p1 t) (q:=b.p1 t) (s:=c.p1 t) (gp ha).2.2.1 (gp hb).2.2.1 (gp hc).2.2.1 af af;by_cases h4:(a.p1 t).c (b.p1 t)<0∨(b.p1 t).c (c.p1 t)<0
 ·exact Or.inl (h3.2 h4)
 ·omega
def mq (t:Int) (L:List It):Prop:=∀x∈L,dY t x=true
theorem mq.app {t:Int} {L M:List It} (h:mq t L) (k:mq t M):mq t (L++M):=fun x hx=>(List.mem_append.1 hx).elim (h x) (k x)
theorem Pl.tr {t:Int} {a b c:It} (ha:dY t a=true) (hb:dY t b=true) (hc:dY t c=true):
  ((a.p1 t).c (b.p1 t)≤0→(b.p1 t).c (c.p1 t)≤0→(a.p1 t).c (c.p1 t)≤0∧((a.p1 t).c (b.p1 t)<0∨(b.p1 t).c (c.p1 t)<0→(a.p1 t).c (c.p1 t)<0))∧
  ((a.p2 t).c (b.p2 t)≤0→(b.p2 t).c (c.p2 t)≤0→(a.p2 t).c (c.p2 t)≤0∧((a.p2 t).c (b.p2 t)<0∨(b.p2 t).c (c.p2 t)<0→(a.p2 t).c (c.p2 t)<0)):=
 ⟨Pl.trans (gp ha).2.2.1 (gp hb).2.2.1 (gp hc).2.2.1,Pl.trans (gp ha).2.2.2 (gp hb).2.2.2 (gp hc).2.2.2⟩
theorem xQ {t:Int} {a b:It} (ha:dY t a=true) (hb:dY t b=true):It.ahead a b=false↔(b.p1 t).c (a.p1 t)<0∨(b.p1 t).c (a.p1 t)=0∧b.i≤a.i:=by
 have h:=ji ha hb;have k:=Pl.Jq (a.p1 t) (b.p1 t);cases hc:It.ahead a b with
 |true=>
  have:=h.1 hc;constructor
  ·intro e;cases e
  ·intro e;exfalso;omega
 |false=>
  have:¬((a.p1 t).c (b.p1 t)<0∨(a.p1 t).c (b.p1 t)=0∧a.i<b.i):=fun e=>by rw[h.2 e] at hc;cases hc
  constructor
  ·intro _;omega
  ·intro _;rfl
theorem sS {t:Int} {a b:It} (ha:dY t a=true) (hb:dY t b=true) (h:It.ahead a b=true):It.ahead b a=false:=by
 have h1:=(ji ha hb).1 h;have k:=Pl.Jq (a.p1 t) (b.p1 t);exact(xQ hb ha).2 af
theorem Bu {t:Int} {a b c:It} (ha:dY t a=true) (hb:dY t b=true) (hc:dY t c=true) (h1:It.ahead a b=true) (h2:It.ahead b c=true):It.ahead a c=true:=by
 have e1:=(ji ha hb).1 h1;have e2:=(ji hb hc).1 h2;have k:=(Pl.tr ha hb hc).1 af af;exact(ji ha hc).2 af
theorem PQ {t:Int} {a b c:It} (ha:dY t a=true) (hb:dY t b=true) (hc:dY t c=true) (h1:It.ahead a b=false) (h2:It.ahead b c=false):It.ahead a c=false:=by
 have e1:=(xQ ha hb).1 h1;have e2:=(xQ hb hc).1 h2;have k:=(Pl.tr hc hb ha).1 af af;exact(xQ ha hc).2 af
theorem De {t:Int} {a b:It} (ha:dY t a=true) (hb:dY t b=true):It.due a b=false↔(b.p2 t).c (a.p2 t)<0∨(b.p2 t).c (a.p2 t)=0∧It.ahead a b=false:=by
 have h:=Lg ha hb;have k:=Pl.Jq (a.p2 t) (b.p2 t);cases hc:It.due a b with
 |true=>
  have:=h.1 hc;constructor
  ·intro e;cases e
  ·intro e;rcases this with h1|⟨h1,h2⟩
   ·exfalso;omega
   ·rcases e with e|⟨e,e2⟩
    ·exfalso;omega
    ·rw[h2] at e2;cases e2
 |false=>
  constructor
  ·intro _;rcases Int.lt_trichotomy ((a.p2 t).c (b.p2 t)) 0 with h1|h1|h1
   ·rw[h.2 (Or.inl h1)] at hc;cases hc
   ·right;refine⟨by omega,?_⟩;cases h2:It.ahead a b with
    |false=>rfl
    |true=>rw[h.2 (Or.inr ⟨h1,h2⟩)] at hc;cases hc
   ·left;omega
  ·intro _;rfl
theorem Jd {t:Int} {a b:It} (ha:dY t a=true) (hb:dY t b=true) (h:It.due a b=true):It.due b a=false:=by
 have h1:=(Lg ha hb).1 h;have k:=Pl.Jq (a.p2 t) (b.p2 t);refine(De hb ha).2 ?_;rcases h1 with h1|⟨h1,h2⟩
 ·left;exact h1
 ·right;exact⟨h1,sS ha hb h2⟩
theorem Lf {t:Int} {a b c:It} (ha:dY t a=true) (hb:dY t b=true) (hc:dY t c=true) (h1:It.due a b=false) (h2:It.due b c=false):It.due a c=false:=by
 have e1:=(De ha hb).1 h1;have e2:=(De hb hc).1 h2;have k:=(Pl.tr hc hb ha).2 af af;refine(De ha hc).2 ?_;rcases e1 with e1|⟨e1,f1⟩
 ·left;exact k.2 (Or.inr e1)
 ·rcases e2 with e2|⟨e2,f2⟩
  ·left;exact k.2 (Or.inl e2)
  ·rcases Int.lt_or_eq_of_le k.1 with g|g
   ·left;exact g
   ·right;exact⟨g,PQ ha hb hc f1 f2⟩
theorem gY.one {t:Int} {a:It} (h:dY t a=true):gY a [a]:=⟨by simp,fun b hb=>by
 simp at hb;subst hb;cases hd:It.due b b with
 |false=>rfl
 |true=>have:=Jd h h hd;rw[hd] at this;cases this⟩
theorem gY.join {t:Int} {a b:It} {L M:List It} (hL:mq t L) (hM:mq t M) (ha:gY a L) (hb:gY b M):gY (sooner a b) (L++M):=by
 unfold sooner;cases hd:It.due b a with
 |true=>
  rw[if_pos rfl];refine⟨List.mem_append_right _ hb.1,fun x hx=> ?_⟩;rcases List.mem_append.1 hx with h|h
  ·exact Lf (hL x h) (hL a ha.1) (hM b hb.1) (ha.2 x h) (Jd (hM b hb.1) (hL a ha.1) hd)
  ·exact hb.2 x h
 |false=>
  rw[if_neg ag];refine⟨List.mem_append_left _ ha.1,fun x hx=> ?_⟩;rcases List.mem_append.1 hx with h|h
  ·exact ha.2 x h
  ·exact Lf (hM x h) (hM b hb.1) (hL a ha.1) (hb.2 x h) hd
theorem Vq (t0:Int) (t:Tr It):mq t0 t.list→t.isNil=false→gY t.oJ t.list:=by
 induction t with
 |nil=>intro _ h;simp[Tr.isNil] at h
 |node g c l x r ihl ihr=>
  intro h _;have hl:mq t0 l.list:=fun y hy=>h y (by simp[Tr.list,hy]);have hr:mq t0 r.list:=fun y hy=>h y (by simp[Tr.list,hy]);have hx:dY t0 x=true:=h x (by simp[Tr.list]);have h1:mq t0 [x]:=fun y hy=>by simp at hy;subst hy;exact hx
  have hL:gY (dA l x) (l.list++[x]):=by
   unfold dA;cases hn:l.isNil with
   |true=>rw[if_pos rfl,Tr.xG hn];exact gY.one hx
   |false=>rw[if_neg ag];exact gY.join hl h1 (ihl hl hn) (gY.one hx)
  show gY (if r.isNil then dA l x else sooner (dA l x) r.oJ) (l.list++x::r.list)
  cases hn:r.isNil with
  |true=>rw[if_pos rfl,Tr.xG hn];exact hL
  |false=>
   rw[if_neg ag,show l.list++x::r.list=(l.list++[x])++r.list by simp];exact gY.join (hl.app h1) hr hL (ihr hr hn)
theorem Jo {t0:Int} {l:Tr It} {x:It} (hl:mq t0 l.list) (hx:dY t0 x=true):gY (dA l x) (l.list++[x]):=by
 have h1:mq t0 [x]:=fun y hy=>by simp at hy;subst hy;exact hx
 unfold dA;cases hn:l.isNil with
 |true=>rw[if_pos rfl,Tr.xG hn];exact gY.one hx
 |false=>rw[if_neg ag];exact gY.join hl h1 (Vq t0 l hl hn) (gY.one hx)
theorem M3 {t0:Int} (p:It→Bool) (t:Tr It):∀(q:Bool×It) (M:List It),mq t0 t.list→oK t.list→(∀a∈t.list,∀b∈t.list,It.ahead a b=true→p b=true→p a=true)→mq t0 M→SS q M→SS (gN p t q) (M++t.list.filter p):=by
 induction t with
 |nil=>intro q M _ _ _ _ h;simpa[gN,Tr.list] using h
 |node g c l x r ihl ihr=>
  intro q M hn hs hp hM h;have hnl:mq t0 l.list:=fun y hy=>hn y (by simp[Tr.list,hy]);have hnr:mq t0 r.list:=fun y hy=>hn y (by simp[Tr.list,hy]);have hnx:dY t0 x=true:=hn x (by simp[Tr.list]);have hs':=hs;unfold oK at hs;simp only[Tr.list] at hs⊢
  rw[List.pairwise_append,List.pairwise_cons] at hs;cases hx:p x with
  |true=>
   have hl:l.list.filter p=l.list:=List.filter_eq_self.2 (fun a ha=>hp a (by simp[Tr.list,ha]) x (by simp[Tr.list]) (hs.2.2 a ha x ag) hx);rw[gN,if_pos hx,List.filter_append,List.filter_cons,if_pos hx,hl];have hx1:mq t0 (l.list++[x]):=hnl.app (fun y hy=>by simp at hy;subst hy;exact hnx)
   have hd:SS (true,if q.1 then sooner q.2 (dA l x) else dA l x) (M++(l.list++[x])):=by
    right;refine⟨rfl,?_⟩;rcases h with⟨h1,_,h3⟩|⟨h1,h2⟩
    ·rw[h1,h3,List.nil_append];exact Jo hnl hnx
    ·rw[h1];exact gY.join hM hx1 h2 (Jo hnl hnx)
   have:=ihr _ _ hnr hs.2.1.2 (fun a ha b hb=>hp a (by simp[Tr.list,ha]) b (by simp[Tr.list,hb])) (hM.app hx1) hd;rw[show M++(l.list++x::r.list.filter p)=M++(l.list++[x])++r.list.filter p by simp];exact this
  |false=>
   have hr:r.list.filter p=[]:=List.filter_eq_nil_iff.2 (fun a ha hpa=>by
    have:=hp x (by simp[Tr.list]) a (by simp[Tr.list,ha]) (hs.2.1.1 a ha) hpa;rw[hx] at this;cases this)
   rw[gN,if_neg (by rw[hx];simp),List.filter_append,List.filter_cons,if_neg (by rw[hx];simp),hr,List.append_nil];exact ihl _ _ hnl hs.1 (fun a ha b hb=>hp a (by simp[Tr.list,ha]) b (by simp[Tr.list,hb])) hM h
theorem IM {t0:Int} (x:It) (hx:dY t0 x=true) (t:Tr It):mq t0 t.list→oK t.list→(Tr.has It.ahead x t=true↔∃y∈t.list,same x y):=by
 induction t with
 |nil=>intro _ _;simp[Tr.has,Tr.list]
 |node g c l y r ihl ihr=>
  intro hn hs;have hnl:mq t0 l.list:=fun z hz=>hn z (by simp[Tr.list,hz]);have hnr:mq t0 r.list:=fun z hz=>hn z (by simp[Tr.list,hz]);have hny:dY t0 y=true:=hn y (by simp[Tr.list]);unfold oK at hs;simp only[Tr.list] at hs⊢
  rw[List.pairwise_append,List.pairwise_cons] at hs;simp only[Tr.has];cases h1:It.ahead x y with
  |true=>
   rw[if_pos rfl,ihl hnl hs.1];constructor
   ·rintro⟨z,hz,e⟩;exact⟨z,by simp[hz],e⟩
   ·rintro⟨z,hz,e⟩;rcases List.mem_append.1 hz with h|h
    ·exact⟨z,h,e⟩
    ·rcases List.mem_cons.1 h with rfl|h
     ·exact absurd e.1 (by rw[h1];simp)
     ·have:=Bu hx hny (hnr z h) h1 (hs.2.1.1 z h);exact absurd e.1 (by rw[this];simp)
  |false=>
   rw[if_neg ag];cases h2:It.ahead y x with
   |true=>
    rw[if_pos rfl,ihr hnr hs.2.1.2];constructor
    ·rintro⟨z,hz,e⟩;exact⟨z,by simp[hz],e⟩
    ·rintro⟨z,hz,e⟩;rcases List.mem_append.1 hz with h|h
     ·have:=Bu (hnl z h) hny hx (hs.2.2 z h y ag) h2;exact absurd e.2 (by rw[this];simp)
     ·rcases List.mem_cons.1 h with rfl|h
      ·exact absurd e.2 (by rw[h2];simp)
      ·exact⟨z,h,e⟩
   |false=>
    rw[if_neg ag];exact⟨fun _=>⟨y,by simp,h1,h2⟩,fun _=>rfl⟩
theorem yo {t0:Int} {x:It} (hx:dY t0 x=true) {L:List It} (hn:mq t0 L) (h:oK L):∀b∈L.dropWhile (fun y=> !It.ahead x y),It.ahead x b=true:=by
 induction L with
 |nil=>intro b hb;simp at hb
 |cons a bs ih=>
  intro b hb;rw[List.dropWhile_cons] at hb;split at hb
  ·exact ih (fun y hy=>hn y (by simp[hy])) (List.Pairwise.of_cons h) b hb
  ·rename_i hp;have ha:It.ahead x a=true:=by simpa using hp
   rcases List.mem_cons.1 hb with rfl|hb
   ·exact ha
   ·exact Bu hx (hn a ag) (hn b (by simp[hb])) ha ((List.pairwise_cons.1 h).1 b hb)
theorem oK.ins {t0:Int} {x:It} (hx:dY t0 x=true) {L:List It} (hn:mq t0 L) (h:oK L) (hno:∀y∈L,¬same x y):oK (jX x L):=by
 have e:L.takeWhile (fun y=> !It.ahead x y)++L.dropWhile (fun y=> !It.ahead x y)=L:=List.takeWhile_append_dropWhile;have h0:=h;unfold oK at h;rw[←e,List.pairwise_append] at h;unfold jX oK;rw[List.pairwise_append,List.pairwise_cons];refine⟨h.1,⟨fun b hb=>yo hx hn h0 b hb,h.2.1⟩,fun a ha b hb=> ?_⟩;rcases List.mem_cons.1 hb with rfl|hb
 ·have h1:It.ahead b a=false:=by simpa using vP L a ha
  have ham:a∈L:=by have h3:=List.mem_append_left (L.dropWhile (fun y=> !It.ahead b y)) ha;rw[e] at h3;exact h3
  cases h2:It.ahead a b with
  |true=>rfl
  |false=>exact absurd ⟨h1,h2⟩ (hno a ham)
 ·exact h.2.2 a ha b hb
theorem OH {t0:Int} (k:Nat) (x:It) (hx:dY t0 x=true) (t:Tr It) (hn:mq t0 t.list) (h:oK t.list):(Tr.put It.ahead k x t).list=jX x t.list:=by
 rw[Tr.Rp It.ahead k x t _ _ (List.takeWhile_append_dropWhile (p:=fun y=> !It.ahead x y) (l:=t.list)).symm]
 ·rfl
 ·intro a ha;simpa using vP t.list a ha
 ·intro b hb;exact yo hx hn h b hb
end Wd
end


section
open Go.RowKit
set_option maxRecDepth 100000
set_option maxHeartbeats 32000000
inductive Tr.jU:Tr It→Tr It→Prop
 |nil:Tr.jU .nil .nil
 |node {g h:Nat} {c:Bool} {l r l' r':Tr It} {x:It}:Tr.jU l l'→Tr.jU r r'→Tr.jU (.node g c l x r) (.node h c l' x r')
theorem Tr.jU.list {t t':Tr It} (h:Tr.jU t t'):t'.list=t.list:=by
 induction h with
 |nil=>rfl
 |node _ _ ihl ihr=>simp only[Tr.list,ihl,ihr]
theorem Tr.jU.red {t t':Tr It} (h:Tr.jU t t'):t'.red=t.red:=by cases h<;>rfl
theorem Tr.jU.v {t t':Tr It} (h:Tr.jU t t'):∀k,Tr.V t k→Tr.V t' k:=by
 induction h with
 |nil=>intro k hk;exact hk
 | @node g h c l r l' r' x hl hr ihl ihr=>
   intro k hk;cases c with
   |true=>exact⟨ihl _ hk.1,ihr _ hk.2.1,by rw[hl.red];exact hk.2.2.1,by rw[hr.red];exact hk.2.2.2⟩
   |false=>
    obtain⟨j,rfl,v1,v2,v3⟩:=hk;exact⟨j,rfl,ihl _ v1,ihr _ v2,by rw[hr.red];exact v3⟩
theorem Tr.jU.whole {t t':Tr It} (h:Tr.jU t t') (hw:t.Whole):t'.Whole:=⟨by rw[h.red];exact hw.1,by obtain⟨k,hk⟩:=hw.2;exact⟨k,h.v k hk⟩⟩
theorem Gl {w:World} {g:Nat} {x m:It} {l r:Value} {c:Bool} (h:Cs w g (nd x m l r c)):w.cell? g=some (.int .u64 x.t)∧w.cell? ⟨g,1,none⟩=some (.int .u32 x.r)∧w.cell? ⟨g,2,none⟩=some (.int .u32 x.v)∧w.cell? ⟨g,3,none⟩=some (.int .i64 x.i)∧w.cell? ⟨g,4,none⟩=some (.int .u64 x.u)∧w.cell? ⟨g,5,none⟩=some (.int .u32 x.s)∧w.cell? ⟨g,6,none⟩=some (.int .u32 x.y):=
 ⟨(h 0 _ rfl).1,(h 1 _ rfl).1,(h 2 _ rfl).1,(h 3 _ rfl).1,(h 4 _ rfl).1,(h 5 _ rfl).1,(h 6 _ rfl).1⟩
def JZ (B:Nat) (t t':Tr It) (w:World):Prop:=Tr.jU t t'∧bM w t'∧t'.blocks.Nodup∧∀g∈t'.blocks,B≤g∧g<w.heap.size
theorem JZ.st (B:Nat) (t t':Tr It):aF (JZ B t t'):=fun _ _ h hb=>⟨h.1,h.2.1.below hb,h.2.2.1,fun g hg=>⟨(h.2.2.2 g hg).1,Nat.lt_of_lt_of_le (h.2.2.2 g hg).2 hb.size⟩⟩
def Ux (B:Nat) (l1 t t':Tr It) (w:World):Prop:=JZ B t t' w∧∀g∈t'.blocks,g∉l1.blocks
theorem Ux.st (B:Nat) (l1 t t':Tr It):aF (Ux B l1 t t'):=fun _ _ h hb=>⟨JZ.st B t t' _ _ h.1 hb,h.2⟩
def Vu (t:Tr It) (w:World) (e:Ending) (w':World):Prop:=∃t',e= .returned (ptr t')∧Tr.jU t t'∧bM w' t'∧Below w.heap.size w w'∧t'.blocks.Nodup∧∀g∈t'.blocks,w.heap.size≤g
theorem Dt.copied (th:Nat) (rt:Value) (n:Int) (t:Tr It):∀w,bM w t→t.list.length≤900000→bC w th rt n→
  Calls Tryz.prog 164 #[th,ptr t] w (Vu t w):=by
 induction t with
 |nil=>
  intro w _ _ _;simp only[kP];go_enter Tryz.func164,Tryz.ntmps164;go_wp2_with fail
  go_ret;exact⟨.nil,rfl, .nil,trivial,Below.refl _ _,List.nodup_nil,fun g hg=>by simp[Tr.blocks] at hg⟩
 |node g c l x r ihl ihr=>
  intro w h hn he;have HI:=aa h;have HE:=aa he;have IL:=aa ihl;have IR:=aa ihr;have ek:Hid x.In:=aa (by obtain⟨⟨v,hv,_⟩,_⟩:=h;exact hv.2.2);simp only[Tr.list,List.length_append,List.length_cons] at hn;have n1:l.list.length≤900000:=af;have n2:r.list.length≤900000:=af;have HN:=aa hn;clear he ihl ihr hn h;simp only[aX];go_enter Tryz.func164,Tryz.ntmps164;go_upto_region 3 with fail
  have aB:aF (fun wx=>(bM wx (.node g c l x r)∧bC wx th rt n)∧Below w w wx):=fun _ _ h hb=>⟨⟨h.1.1.below hb,h.1.2.below hb⟩,ai h.2 hb⟩;refine aA (S:=fun wx=>(bM wx (.node g c l x r)∧bC wx th rt n)∧Below w w wx) 20 ae (aB _ _ (⟨⟨HI.out,HE.out⟩,Below.refl _ _⟩) (Below.refl _ _).drew) ?_;refine aQ (aB) (fun _ h=>h) fun g=> ?_;refine tk 0 ?_ g ?_ ?_ (tk 1 ?_ g ?_ ?_ (tk 2 ?_ g ?_ ?_ (tk 3 ?_ g ?_ ?_ (tk 4 ?_ g ?_ ?_ (tk 5 ?_ g ?_ ?_ (tk 6 ?_ g ?_ ?_ (tk 7 ?_ g ?_ ?_ (tk 8 ?_ g ?_ ?_ (tk 9 ?_ g ?_ ?_ (tk 10 ?_ g ?_ ?_ (tk 11 ?_ g ?_ ?_ (tk 12 ?_ g ?_ ?_ (tk 14 ?_ g ?_ ?_ (tk 15 ?_ g ?_ ?_ (tk 16 ?_ g ?_ ?_ (tk 17 ?_ g ?_ ?_ (tk 18 ?_ g ?_ ?_ ?_)))))))))))))))));iterate 3 (rotate_left;(·rfl);(·exact ah))
  rotate_left;(·rfl);(·intro wq hSw;obtain⟨⟨v,hv,hc⟩,_,_⟩:=hSw.1.1;obtain⟨x0,x1,x2,x3,x4,x5,x6⟩:=Gl hc;have c2:=hc.eO;have c3:=hc.fG;have c4:=hc.uI;go_simp;try with_reducible rfl);iterate 3 (rotate_left;(·rfl);(·exact ah))
  rotate_left;(·rfl);(·intro wq hSw;obtain⟨⟨v,hv,hc⟩,_,_⟩:=hSw.1.1;obtain⟨x0,x1,x2,x3,x4,x5,x6⟩:=Gl hc;have c2:=hc.eO;have c3:=hc.fG;have c4:=hc.uI;go_simp;try with_reducible rfl);iterate 4 (rotate_left;(·rfl);(·exact ah))
  rotate_left;(·rfl);(·intro wq hSw;obtain⟨⟨v,hv,hc⟩,_,_⟩:=hSw.1.1;obtain⟨x0,x1,x2,x3,x4,x5,x6⟩:=Gl hc;have c2:=hc.eO;have c3:=hc.fG;have c4:=hc.uI;go_simp;try with_reducible rfl);iterate 4 (rotate_left;(·rfl);(·exact ah))
  rotate_left;(·rfl);(·intro wq hSw;obtain⟨⟨v,hv,hc⟩,_,_⟩:=hSw.1.1;obtain⟨x0,x1,x2,x3,x4,x5,x6⟩:=Gl hc;have c2:=hc.eO;have c3:=hc.fG;have c4:=hc.uI;go_simp;try with_reducible rfl);try simp only[av]
  clear g;refine fC (i:=13) (fun y:Tr It=>ptr y) (fun y wx=>JZ w.heap.size l y wx) rfl ae ak au (aB) (fun _ h=>h) (fun yq=>JZ.st w.heap.size l yq) (fun wq hSw=> ?_) (fun yq=> ?_)
  ·exact jw.aN (IL.out wq hSw.1.1.2.1 n1 hSw.1.2) (by go_simp) (fun e w' h=>by
    obtain⟨t',he,h1,h2,hb,h3,h4⟩:=h;exact⟨t',he,⟨h1,h2,h3,fun g hg=>⟨Nat.le_trans hSw.2.size (h4 g hg),(h2.nl g hg).lt⟩⟩,hb⟩)
  obtain yq:=yq;revert yq;intro l1;try dsimp only
  try simp only[av]
  refine fC (i:=19) (fun y:Tr It=>ptr y) (fun y wx=>Ux w.heap.size l1 r y wx) rfl ae ak au (aF.dF (aB) (JZ.st w.heap.size l l1)) (fun _ h=>h.1) (fun yq=>Ux.st w.heap.size l1 r yq) (fun wq hSw=> ?_) (fun yq=> ?_)
  ·exact jw.aN (IR.out wq hSw.1.1.1.2.2 n2 hSw.1.1.2) (by go_simp) (fun e w' h=>by
    obtain⟨t',he,h1,h2,hb,h3,h4⟩:=h;exact⟨t',he,⟨⟨h1,h2,h3,fun g hg=>⟨Nat.le_trans hSw.1.2.size (h4 g hg),(h2.nl g hg).lt⟩⟩,fun g hg hm=>by have:=(hSw.2.2.2.2 g hm).2;have:=h4 g hg;omega⟩,hb⟩)
  obtain yq:=yq;revert yq;intro r1;try dsimp only
  try simp only[av]
  refine bP (n:=20) rfl rfl ae (fun wz hSz=> ?_);simp only[List.toList_toArray,List.drop_succ_cons,List.drop_zero];have HZ:=aa hSz;clear hSz;obtain⟨u2,hu2⟩:=rq l1;obtain⟨u3,hu3⟩:=rq r1;have HU2:=aa hu2;have HU3:=aa hu3;rw[hu2,hu3];clear hu2 hu3;have hal:=aD wz (.cells #[.int .u64 x.t, .int .u32 x.r, .int .u32 x.v, .int .i64 x.i, .int .u64 x.u, .int .u32 x.s, .int .u32 x.y, .int .u64 0, .int .u32 0, .int .u32 0, .int .i64 0, .int .u64 0, .int .u32 0, .int .u32 0, .pointer u2, .pointer u3, .bool c] 209);have Qs:=aa (ai HZ.out.1.1.2 hal);have HST:Hid (fB (wz.alloc (.cells #[.int .u64 x.t, .int .u32 x.r, .int .u32 x.v, .int .i64 x.i, .int .u64 x.u, .int .u32 x.s, .int .u32 x.y, .int .u64 0, .int .u32 0, .int .u32 0, .int .i64 0, .int .u64 0, .int .u32 0, .int .u32 0, .pointer u2, .pointer u3, .bool c] 209)) (.node wz.heap.size c l1 x r1)):=aa ⟨⟨It.zero,It.nz,ek.out,by rw[HU2.out,HU3.out];exact Cs.bL wz 209 [.int .u64 x.t, .int .u32 x.r, .int .u32 x.v, .int .i64 x.i, .int .u64 x.u, .int .u32 x.s, .int .u32 x.y, .int .u64 0, .int .u32 0, .int .u32 0, .int .i64 0, .int .u64 0, .int .u32 0, .int .u32 0, .pointer u2, .pointer u3, .bool c]⟩,HZ.out.1.2.2.1.below hal,HZ.out.2.1.2.1.below hal⟩
  have mE:Hid ((Tr.node wz.heap.size c l1 x r1).blocks.Nodup):=aa (by
   refine List.nodup_cons.2 ⟨fun hm=> ?_,List.nodup_append.2 ⟨HZ.out.1.2.2.2.1,HZ.out.2.1.2.2.1,fun a ha b hb e=> ?_⟩⟩
   ·rcases List.mem_append.1 hm with hm|hm
    ·exact Nat.lt_irrefl _ (HZ.out.1.2.2.2.2 _ hm).2
    ·exact Nat.lt_irrefl _ (HZ.out.2.1.2.2.2 _ hm).2
   ·subst e;exact HZ.out.2.2 _ hb ha)
  have kE:Hid ((Tr.node wz.heap.size c l1 x r1).list.length≤900000):=aa (by
   have:=HN.out;simp only[Tr.list,List.length_append,List.length_cons,HZ.out.1.2.1.list,HZ.out.2.1.1.list];omega)
  have DN:=aa (HZ.out.1.1.1.2.below hal);have kJ:Hid (w.heap.size≤wz.heap.size):=aa HZ.out.1.1.2.size;clear hal;go_upto_region 4 with fail
  generalize (wz.alloc (.cells #[.int .u64 x.t, .int .u32 x.r, .int .u32 x.v, .int .i64 x.i, .int .u64 x.u, .int .u32 x.s, .int .u32 x.y, .int .u64 0, .int .u32 0, .int .u32 0, .int .i64 0, .int .u64 0, .int .u32 0, .int .u32 0, .pointer u2, .pointer u3, .bool c] 209))=W4 at Qs HST DN⊢
  go_wp2_with fail
  refine(Dt.count th wz.heap.size c l1 r1 x rt n _ HST.out mE.out kE.out DN.out).mono ?_;rintro e w4 ⟨rfl,hi,hw⟩;have HI4:=aa hi;have JC:=aa hw;clear hi hw;go_wp2_with fail
  go_ret;refine⟨.node wz.heap.size c l1 x r1,rfl, .node HZ.out.1.2.1 HZ.out.2.1.1,HI4.out,Qs.out.trans (JC.out.toBelow Qs.out.size (fun k hk=>by simp at hk;subst hk;exact kJ.out)),mE.out,fun k hk=> ?_⟩;rcases List.mem_cons.1 hk with rfl|hk
  ·exact kJ.out
  ·rcases List.mem_append.1 hk with hk|hk
   ·exact(HZ.out.1.2.2.2.2 k hk).1
   ·exact(HZ.out.2.1.2.2.2 k hk).1
theorem Gc (w:World) (c:Array Value) (ty:TypeId) {o:Nat} (h:c.size≤o):(w.alloc (.cells c ty)).cell? ⟨w.heap.size,o,none⟩=none:=by
 have e:(w.alloc (.cells c ty)).heap[w.heap.size]?=some (.cells c ty (0,0)):=by unfold World.alloc;exact Array.getElem?_push_size
 show(match (w.alloc (.cells c ty)).heap[w.heap.size]? with
  |some (.cells c _ _)=>if (none:Option Nat).isSome then none else c[o]?
  |_=>none)=none
 rw[e];exact Array.getElem?_eq_none h
def Vv (t:Tr It) (w:World) (e:Ending) (w':World):Prop:=∃th t',e= .returned (.pointer (some ⟨th,0,none⟩))∧Tr.jU t t'∧cZ w' th t'∧(∀g∈th::t'.blocks,w.heap.size≤g)∧Below w.heap.size w w'
theorem Dt.clone (th:Nat) (t:Tr It) (hn:t.list.length≤900000) (w:World) (h:cZ w th t):Calls Tryz.prog 123 #[th] w (Vv t w):=by
 have HG:=aa h;obtain⟨⟨b1,b2,t0,t1,t2,m0,m1,m2,m3,m4⟩,_⟩:=h;have e0:=t0.aL;have e1:=(t0 1 _ rfl).1;have e2:=(t0 2 _ rfl).1;have e3:=(t0 3 _ rfl).1;obtain⟨u,hu⟩:=rq t;have HU:=aa hu;rw[hu] at e3;clear hu;have e4:=(t0 4 _ rfl).1;have hb:=aD w (.cells #[.func (.func 121) #[] #[], .func (.func 118) #[] #[], .func (.func 160) #[] #[b1, .pointer (some ⟨b2,0,none⟩)], .pointer u, .int .i64 t.list.length] 212);have HB:=aa hb;have HG2:=aa (HG.out.below hb);have hcs:=Cs.bL w 212 [.func (.func 121) #[] #[], .func (.func 118) #[] #[], .func (.func 160) #[] #[b1, .pointer (some ⟨b2,0,none⟩)], .pointer u, .int .i64 t.list.length];have hlt1:=t1.lt;have hlt2:=t2.lt;have DN:Hid (bC (w.alloc (.cells #[.func (.func 121) #[] #[], .func (.func 118) #[] #[], .func (.func 160) #[] #[b1, .pointer (some ⟨b2,0,none⟩)], .pointer u, .int .i64 t.list.length] 212)) w.heap.size (.pointer u) t.list.length):=aa ⟨b1,b2,hcs,t1.below hb,t2.below hb,Gc w _ _ ag,(hb.cell (p:=⟨b1,14,none⟩) t1.lt).trans m1,(hb.cell (p:=⟨b2,14,none⟩) t2.lt).trans m2,by omega,by omega⟩;clear hb t0 t1 t2 m0 m1 m2 m3 m4 hcs hlt1 hlt2;go_enter Tryz.func123,Tryz.ntmps123;go_upto_region 4 with fail
 clear e0 e1 e2 e3 e4;generalize (w.alloc (.cells #[.func (.func 121) #[] #[], .func (.func 118) #[] #[], .func (.func 160) #[] #[b1, .pointer (some ⟨b2,0,none⟩)], .pointer u, .int .i64 t.list.length] 212))=W0 at HB HG2 DN⊢
 obtain⟨e3,_⟩:=(show bC W0 th (ptr t) t.list.length from HG2.out.1).at3;rw[HU.out] at e3;go_wp2_with fail
 have hcp:=Dt.copied th (ptr t) t.list.length t _ HG2.out.2.1 hn HG2.out.1;rw[HU.out] at hcp;refine hcp.mono ?_;clear hcp;rintro e w1 ⟨t',rfl,hs,hi,hb,hd,hg⟩;have gI:=aa (DN.out.below hb);obtain⟨q3,q4,_⟩:=gI.out.at3;have HS:=aa hs;have HI:=aa hi;have HD:=aa hd;have HG3:=aa hg;have HB1:=aa (ai HB.out hb);have kJ:=aa HB.out.size;clear hs hi hd hg hb e3;obtain⟨v,hv⟩:=rq t';have HV:=aa hv;rw[hv];clear hv;go_wp2_with fail
 go_ret;rw[←HV.out];refine⟨w.heap.size,t',rfl,HS.out,⟨?_,HI.out.I7 gI.out.hd _ _,HD.out⟩,fun k hk=> ?_,HB1.out.trans (ax.toBelow ((ax.refl [w.heap.size] w1).set (Or.inl ag) 3 (ptr t')) HB1.out.size (fun k hk=>by simp at hk;omega))⟩
 ·rw[HS.out.list];exact gI.out.root _
 ·rcases List.mem_cons.1 hk with rfl|hk
  ·exact Nat.le_refl _
  ·exact Nat.le_trans kJ.out (HG3.out k hk)
end

end Go.Proofs.YtnmbfjgcmfjdcaaGreatDoor

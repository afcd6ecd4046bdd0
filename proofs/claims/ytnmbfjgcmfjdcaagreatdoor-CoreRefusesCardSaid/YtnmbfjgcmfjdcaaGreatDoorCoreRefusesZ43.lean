/- Texts of CoreRefuses's proof, together. -/
import Derived.Test.YtnmbfjgcmfjdcaaGreatDoorSpB
import Derived.Test.YtnmbfjgcmfjdcaaGreatDoorTxt
import Derived.Test.YtnmbfjgcmfjdcaaGreatDoorClC
import Derived.Shelf.Strings.Repeat
import Derived.Lib.ItoaNum
namespace Go.Proofs.YtnmbfjgcmfjdcaaGreatDoor

section
open Go.RowKit
section
variable {P:Program} {ops:Array Oper} {Q:Exit→Act→World→Prop} {md:Region.Mode} {S0:World→Prop} {S:World→Prop}
theorem rP {n i:Nat} {oi:Oper} {fuel:Nat} {listed:Array Bool} {a:Act} (T:World→Nat→Prop) (hi:ops[i]?=some oi) (hr:Region.ready md ops listed=[i]) (hin:i<n) (hw:Region.wanted oi (yielded ops a.tmps)=true)
  (hst:aF S) (hs0:∀w,S w→S0 w) (hT:∀g,aF (fun w=>T w g)) (hrun:∀w,S w→∃w',(execOp a.eval oi).run P w= .ok (.value (.slice (some ⟨w,0,none⟩) 1 1)) w'∧Below w w w'∧T w' w.heap.size)
  (h:∀g,bT P md ops Q S0 n fuel (fun w=>S w∧T w g) (listed.setIfInBounds i true) (a.put oi.dst (.slice (some ⟨g,0,none⟩) 1 1))):bT P md ops Q S0 n (fuel+1) S listed a:=
 lv hi hr hin hw (fun w hS K hK=>by
  obtain⟨w',e,hb,hT'⟩:=hrun w hS;unfold Oper.wp;rw[e];exact hK.out _ _ (fun w2=>S w2∧T w2 w.heap.size) (fun _ h=>hs0 _ h.1) (fun x y hx hb=>⟨hst _ _ hx.1 hb,hT _ _ _ hx.2 hb⟩) ⟨hst _ _ hS hb,hT'⟩ (h _))
end
theorem bZ (_x:Unit):aF (fun _:World=>True):=fun _ _ _ _=>trivial
end


section
open Go.RowKit
set_option maxRecDepth 100000
set_option maxHeartbeats 32000000
theorem Js {m:Mu} {p:P3} (hm:m.In) (hp:dJ p):(m.add p).2.In:=by
 unfold Mu.add;split
 ·rename_i h;unfold Mu.pX at h;simp only[Bool.and_eq_true,decide_eq_true_eq] at h;obtain⟨⟨⟨h1,h2⟩,h3⟩,h4⟩:=h;have h5:=kQ hp h2
  have hw:0≤m.w∧m.w≤33554432:=by
   unfold Mu.right at h1;split at h1
   ·simp at h1;omega
   ·simp only[Bool.and_eq_true,decide_eq_true_eq] at h1;omega
  have hn:0≤m.n:=by
   unfold Mu.right at h1;split at h1
   ·omega
   ·simp only[Bool.and_eq_true,decide_eq_true_eq] at h1;omega
  have hv:=hp.2.2;refine⟨hm.1,dG.1 h4,⟨?_,?_⟩,?_,?_⟩<;>simp only<;>omega
 ·exact Mu.uG
theorem Oj {m:Mu} {t:Int} (hm:m.In) (ht:eZ t):(m.q9 t).2.In:=by
 unfold Mu.q9;split
 ·rename_i h;unfold Mu.zP at h;simp only[Bool.and_eq_true] at h;exact⟨ht,dG.1 h.2,hm.2.2.1,hm.2.2.2⟩
 ·exact Mu.uG
theorem Xn {m:Mu}:eZ m.fl.2:=by
 unfold Mu.fl;split
 ·exact Gv _ _
 ·exact⟨by decide,by decide⟩
def nO (m:Mu):Mu:=if m.fl.1=true then(m.q9 m.fl.2).2 else m
theorem UQ {m:Mu} (hm:m.In):(nO m).In:=by
 unfold nO;split
 ·exact Oj hm Xn
 ·exact hm
def sQ (m:Mu) (a:It):Int:=if m.n=0 then a.t else m.b
def jS (m:Mu) (l:List It) (a:It):Bool×Mu:=
 if fD (sQ m a) (l++[a])=true then((Mu.add ⟨sQ m a,m.a,m.w,m.n⟩ a.pp).1,nO (Mu.add ⟨sQ m a,m.a,m.w,m.n⟩ a.pp).2) else(false,Mu.no)
def F2 (w:World) (g:Nat) (m k:Mu) (w':World):Prop:=(Cs w' g m.cells∧Cs w' (g+1) k.cells)∧w.heap.size≤g∧Below w.heap.size w w'
theorem F2.below {w w1 w2:World} {g:Nat} {m k:Mu} (h:F2 w g m k w1) (hb:Below w1 w1 w2):F2 w g m k w2:=⟨⟨h.1.1.below hb,h.1.2.below hb⟩,h.2.1,ai h.2.2 hb⟩
theorem F2.Ba {w w1:World} {g:Nat} {m k:Mu} (h:F2 w g m k w1) (j:Mu) {W:World} (hW:W=w1.setCells g 0 j.cells):F2 w g j k W:=by
 rw[hW];exact⟨⟨Cs.bH j.cells 0 h.1.1 (by simp[Mu.cells]),h.1.2.qL af _ _⟩,h.2.1,aU h.2.1 _ _ h.2.2⟩
theorem F2.kN {w w1:World} {g:Nat} {m k:Mu} (h:F2 w g m k w1) (j:Mu) {W:World} (hW:W=w1.setCells (g+1) 0 j.cells):F2 w g m j W:=by
 rw[hW];exact⟨⟨h.1.1.qL af _ _,Cs.bH j.cells 0 h.1.2 (by simp[Mu.cells])⟩,h.2.1,aU (by have:=h.2.1;omega) _ _ h.2.2⟩
theorem pz:(Mu.mk 0 0 0 0).cells=[.int .u64 0, .int .i64 0, .int .u64 0, .int .u64 0, .int .i64 0]:=by unfold Mu.cells;rw[show aJ 0=0 by decide,show aI 0=0 by decide]
theorem Queue.Es (m:Mu) (hm:m.In) (w:World):Calls Tryz.prog 148 #[m.val] w (aV (nO m).val w):=by
 have HM:=aa hm
 have nK:Hid (F2 w w.heap.size m ⟨0,0,0,0⟩ ((w.alloc (.cells m 79)).alloc (.cells bE 79))):=aa (by
  have h1:=Cs.ja w 79 m.cells;have h2:=Cs.ja (w.alloc (.cells m 79)) 79 bE;simp only[World.size_alloc] at h2;exact⟨⟨h1.alloc _,by rw[pz];exact h2⟩,Nat.le_refl _,(aD w _).alloc ag _⟩)
 have zu:=aa (Oj hm (t:=m.fl.2) Xn);clear hm;unfold Mu.val;go_enter Tryz.func148,Tryz.ntmps148;go_wp2_with fail
 generalize ((w.alloc (.cells m 79)).alloc (.cells bE 79))=W0 at nK⊢
 obtain⟨m0,m1,m2,m3,m4⟩:=Mu.at m nK.out.1.1;go_wp2_with fail
 refine(jm.floor m HM.out _).mono ?_;rintro e w1 ⟨rfl,hb⟩;have zH:=aa (nK.out.below hb);clear hb nK m0 m1 m2 m3 m4;obtain⟨ok,t,hf⟩:∃ok t,m.fl=(ok,t):=⟨_,_,rfl⟩;rw[hf] at zu⊢
 have HE:Hid (nO m=if ok=true then(m.q9 t).2 else m):=aa (by unfold nO;rw[hf]);clear hf;dsimp only at zu⊢
 obtain⟨m0,m1,m2,m3,m4⟩:=Mu.at m zH.out.1.1;have LJ:=aa zH.out.1.2;cases ok with
 |false=>
  go_wp2_with (first|((with_reducible refine bG 79 m.cells fE rfl (.tmp 2) (.tmp 12) rfl (w.heap.size+1) _ LJ.out ?_ ?_ ?_ ?_ ?_ ?_);(iterate 5 (·rfl));(intro W2 hW2);(have mG:=aa (zH.out.kN m hW2));(clear hW2 m0 m1 m2 m3 m4);(obtain⟨z0,z1,z2,z3,z4⟩:=Mu.at m mG.out.1.2))|fail)
  refine bodyPost_ret (v:=m.val) (by simp[results,Tryz.results148,go_sem,z0,z1,z2,z3,z4,Mu.val]) rfl ⟨by rw[HE.out,if_neg ak],mG.out.2.2⟩
 |true=>
  obtain⟨k,hk⟩:∃k,m.q9 t=k:=⟨_,rfl⟩;rw[hk] at HE zu;go_wp2_with fail
  refine(jm.Oi m t HM.out _).mono ?_;rw[hk];rintro e w2 ⟨rfl,hb⟩;have mG:=aa (zH.out.below hb);have FW:=aa mG.out.1.1;clear hb zH m0 m1 m2 m3 m4 hk LJ
  go_wp2_with (first
   |((with_reducible refine bG 79 k.2.cells fE rfl (.tmp 1) (.tmp 17) rfl w.heap.size _ FW.out ?_ ?_ ?_ ?_ ?_ ?_);(iterate 5 (·rfl));(intro W2 hW2);(have jW:=aa (mG.out.Ba k.2 hW2));(have zI:=aa jW.out.1.2);(clear hW2);(obtain⟨m0,m1,m2,m3,m4⟩:=Mu.at k.2 jW.out.1.1))
   |((with_reducible refine bG 79 k.2.cells fE rfl (.tmp 2) (.tmp 19) rfl (w.heap.size+1) _ zI.out ?_ ?_ ?_ ?_ ?_ ?_);(iterate 5 (·rfl));(intro W3 hW3);(have LF:=aa (jW.out.kN k.2 hW3));(clear hW3 m0 m1 m2 m3 m4);(obtain⟨z0,z1,z2,z3,z4⟩:=Mu.at k.2 LF.out.1.2))
   |fail)
  refine bodyPost_ret (v:=k.2.val) (by simp[results,Tryz.results148,go_sem,z0,z1,z2,z3,z4,Mu.val]) rfl ⟨by rw[HE.out];simp[Mu.val],LF.out.2.2⟩
theorem ax.on {F:List Nat} {a b c:World} (h:ax F a b) (hb:Below b.heap.size b c):ax F a c:=h.trans (ax.below (F:=[]) hb) ag
def kz (w:World) (F:List Nat) (m:Mu) (x:It) (k:Mu) (w':World):Prop:=(Cs w' w.heap.size m.cells∧Cs w' (w.heap.size+1) x.cells∧Cs w' (w.heap.size+2) k.cells)∧ax F w w'
theorem kz.below {w w1 w2:World} {F:List Nat} {m k:Mu} {x:It} (h:kz w F m x k w1) (hb:Below w1 w1 w2):kz w F m x k w2:=⟨⟨h.1.1.below hb,h.1.2.1.below hb,h.1.2.2.below hb⟩,h.2.on hb⟩
theorem kz.Ba {w w1:World} {F:List Nat} {m k:Mu} {x:It} (h:kz w F m x k w1) (j:Mu) {W:World} (hW:W=w1.setCells w.heap.size 0 j.cells):kz w F j x k W:=by
 rw[hW];exact⟨⟨Cs.bH j.cells 0 h.1.1 (by simp[Mu.cells]),h.1.2.1.qL af _ _,h.1.2.2.qL af _ _⟩,ax.sets _ _ h.2 (Or.inr ay)⟩
theorem kz.Mr {w w1:World} {F:List Nat} {m k:Mu} {x:It} (h:kz w F m x k w1) (j:Mu) {W:World} (hW:W=w1.setCells (w.heap.size+2) 0 j.cells):kz w F m x j W:=by
 rw[hW];exact⟨⟨h.1.1.qL af _ _,h.1.2.1.qL af _ _,Cs.bH j.cells 0 h.1.2.2 (by simp[Mu.cells])⟩,ax.sets _ _ h.2 (Or.inr af)⟩
theorem kz.aG {w w1 w2:World} {F:List Nat} {m k:Mu} {x:It} (h:kz w F m x k w1) (hc:ax F w1 w2) (hF:∀q∈F,q<w.heap.size):kz w F m x k w2:=
 ⟨⟨h.1.1.aG hc (fun hq=>by have:=hF _ hq;omega),h.1.2.1.aG hc (fun hq=>by have:=hF _ hq;omega),h.1.2.2.aG hc (fun hq=>by have:=hF _ hq;omega)⟩,h.2.trans hc (fun g hg=>Or.inl hg)⟩
theorem kz.base {w w1:World} {F:List Nat} {m k:Mu} {x:It} (h:kz w F m x k w1) (b:Int):kz w F ⟨b,m.a,m.w,m.n⟩ x k (w1.setCell ⟨w,0,none⟩ (.int .u64 b)):=
 ⟨⟨h.1.1.putAt 0 (by simp[Mu.cells]) _,h.1.2.1.far af _ _,h.1.2.2.far af _ _⟩,h.2.set (Or.inr ay) _ _⟩
theorem GJ {m:Mu} {l:List It} {a:It} (hm:m.In) (ha:a.In):(jS m l a).2.In:=by
 unfold jS;split
 ·refine UQ (Js ⟨?_,hm.2.1,hm.2.2.1,hm.2.2.2⟩ ⟨ha.1,ha.2.1,ha.2.2.1⟩);show 0≤sQ m a∧_
  unfold sQ;split
  ·exact ha.1
  ·exact hm.1
 ·exact Mu.uG
def SV (F:List Nat) (v:Value) (w:World) (e:Ending) (w':World):Prop:=e= .returned v∧ax F w w'
section
variable {ops:Array Oper} {Q:Exit→Act→World→Prop} {md:Region.Mode} {S0:World→Prop} {S:World→Prop}
theorem tF {t i:Nat} {oi:Oper} {fuel:Nat} {listed:Array Bool} {a:Act} (hi:ops[i]?=some oi) (hr:Region.ready md ops listed=[i]) (hin:i<t) (hw:Region.wanted oi (yielded ops a.tmps)=true) (hgd:oi.guard=none) (s x:Operand)
  (ho:oi.op= .call {callee:= .builtin .append,args:= #[s,x],argTypes:= #[166,166]})
  (base:Nat) (A:Option Addr) (n c:Nat) (l:List It) (b:Nat) (d:It) (hn:n≤1000000) (hown:∀w,S w→bV w base A n c l∧Th w b d∧base≤w.heap.size)
  (S':Option Addr→Nat→World→Prop) (hS:∀w w' A' c',S w→bV w' base A' (n+1) c' (l++[d])→ax (rowOf A) w w'→(∀k∈rowOf A',k∈rowOf A∨w.heap.size≤k)→S' A' c' w')
  (hsub:∀A' c' w,S' A' c' w→S0 w) (hst:∀A' c',aF (S' A' c')) (hs:a.eval s= .slice A n c) (hx:a.eval x= .slice (some ⟨b,0,none⟩) 1 1)
  (h:∀A' c',bT Tryz.prog md ops Q S0 t fuel (S' A' c') (listed.setIfInBounds i true) (a.put oi.dst (.slice A' (n+1) c'))):bT Tryz.prog md ops Q S0 t (fuel+1) S listed a:=
 lv hi hr hin hw (fun w hSw K hK=>by
  obtain⟨h1,h2,h3⟩:=hown w hSw;have:=qF (ops:=ops) (a:=a) (K:=K) (Q:=Q) (E:=False) w hgd s x ho base A n c l hs h1 b d hx h2 hn h3 (fun A' c' w' g1 g2 g3=>hK.out _ _ (S' A' c') (hsub A' c') (hst A' c') (hS w w' A' c' hSw g1 g2 g3) (h A' c'));rwa [if_pos hw] at this)
end
theorem cWM {P:Prop} (h:P:=by
 intro wq hSw;obtain⟨m0,m1,m2,m3,m4⟩:=Mu.at M hSw.1.1;obtain⟨q0,q1,q2,q3,q4,q5,q6⟩:=It.at x hSw.1.2.1;go_simp;try with_reducible rfl):P:=h
theorem cWK {P:Prop} (h:P:=by
 obtain⟨m0,m1,m2,m3,m4⟩:=Mu.at M HV.out.1.1;obtain⟨q0,q1,q2,q3,q4,q5,q6⟩:=It.at x HV.out.1.2.1;clear m0 m1 m2 m3 m4 q0 q1 q2 q3 q4 q5 q6;have aW:=aa (And.intro HV.out HO.out);go_wp2_with fail
 have Fp:aF (fun wx=>kz w (rowOf A) M x ⟨0,0,0,0⟩ wx):=fun _ _ h hb=>h.below hb;have nI:aF (fun wx=>kz w (rowOf A) M x ⟨0,0,0,0⟩ wx∧bV wx base A n c l):=fun _ _ h hb=>⟨h.1.below hb,h.2.below hb⟩;refine wp_region_any ae (iW (S0:=(fun wx=>kz w (rowOf A) M x ⟨0,0,0,0⟩ wx)) (n:=8) _ (fun wx=>kz w (rowOf A) M x ⟨0,0,0,0⟩ wx∧bV wx base A n c l) _ _ _ (nI _ _ aW.out (Below.refl _ _).drew) ?_);refine cB (i:=0) (v:= ?_) nI (fun _ h=>h.1) rfl ae ae ae ae (fun _ _ _ h=>h) (bA.bF (Or.inl ⟨by rfl,?_⟩)) ?_;rotate_left
 ·exact ah
 try simp only[av]
 refine cB (i:=1) (v:= ?_) nI (fun _ h=>h.1) rfl ae ae ae ae (fun _ _ _ h=>h) (bA.bF (Or.inl ⟨by rfl,?_⟩)) ?_;rotate_left
 ·exact cWM
 try simp only[av]
 refine cB (i:=2) (v:= ?_) nI (fun _ h=>h.1) rfl ae ae ae ae (fun _ _ _ h=>h) (bA.bF (Or.inl ⟨by rfl,?_⟩)) ?_;rotate_left
 ·exact ah
 try simp only[av]
 refine cB (i:=3) (v:= ?_) nI (fun _ h=>h.1) rfl ae ae ae ae (fun _ _ _ h=>h) (bA.bF (Or.inl ⟨by rfl,?_⟩)) ?_;rotate_left
 ·exact cWM
 try simp only[av]
 refine rP (i:=4) (fun wx g=>Cs wx g x.cells) rfl ae ak au nI (fun _ h=>h.1) (fun g=>fun _ _ h hb=>h.below hb) (fun wq hSw=> ?_) (fun gs=> ?_)
 ·exact⟨_,by go_simp;(try with_reducible rfl),(Below.refl _ _).alloc ay _,Cs.cu _ _ x⟩
 try simp only[av]
 refine tF (i:=5) rfl ae ak au rfl (.tmp 18) (.tmp 20) rfl base A n c l gs x hn (fun wq hSw=>⟨hSw.1.2,It.at x hSw.2,Nat.le_trans HB0.out hSw.1.1.2.size⟩) (fun A4 c4 wx=>kz w (rowOf A) M x ⟨0,0,0,0⟩ wx∧uk wx A4 (n+1) (l++[x])) (fun _ _ _ _ hSw g1 g2 _=>⟨hSw.1.1.aG g2 Nf.out,g1.Ol⟩) (fun _ _ _ h=>h.1) (fun _ _=>fun _ _ h hb=>⟨h.1.below hb,h.2.below hb⟩) rfl rfl (fun A4 c4=> ?_);try simp only[av]
 refine fC (i:=6) (fun _:Unit=>Value.bool (fD M.b (l++[x]))) (fun(_:Unit) (_:World)=>True) rfl ae ak au (fun _ _ h hb=>⟨h.1.below hb,h.2.below hb⟩) (fun _ h=>h.1) (fun yq=>bZ yq) (fun wq hSw=> ?_) (fun yq=> ?_)
 ·exact jw.aN (Span.within M.b A4 (n+1) c4 (l++[x]) wq hSw.2 af) (by go_simp) (fun e w' h=>⟨(),h.1,trivial,h.2⟩)
 obtain⟨⟩:=yq;try simp only[av]
 refine aQ (fun _ _ h hb=>⟨⟨h.1.1.below hb,h.1.2.below hb⟩,trivial⟩) (fun _ h=>h.1.1) fun g=> ?_;refine tk 7 ?_ g ?_ ?_ ?_;rotate_left;(·rfl);(·exact ah);try simp only[av]
 clear g;refine aZ ae (fun wz hSz=> ?_) _;replace hSz:=hSz.1;have HV5:=aa hSz.1;clear hSz aW HV HO;obtain⟨wi,kS⟩:∃wi,fD M.b (l++[x])=wi:=⟨_,rfl⟩;rw[kS] at HE⊢
 clear kS;obtain⟨m0,m1,m2,m3,m4⟩:=Mu.at M HV5.out.1.1;obtain⟨q0,q1,q2,q3,q4,q5,q6⟩:=It.at x HV5.out.1.2.1;cases wi with
 |false=>
  have LJ:=aa HV5.out.1.2.2;go_wp2_with (first|((with_reducible refine bG 79 bE fE rfl (.tmp 6) (.tmp 24) rfl (w.heap.size+2) _ LJ.out ?_ ?_ ?_ ?_ ?_ ?_);(iterate 5 (·rfl));(intro W2 hW2);(rw[←pz] at hW2);(have wS:=aa (HV5.out.Mr ⟨0,0,0,0⟩ hW2));(clear hW2 m0 m1 m2 m3 m4 q0 q1 q2 q3 q4 q5 q6);(obtain⟨z0,z1,z2,z3,z4⟩:=Mu.at _ wS.out.1.2.2))|fail)
  refine bodyPost_ret (v:= .tuple #[Mu.val ⟨0,0,0,0⟩, .bool false]) (by simp[results,Tryz.results108,go_sem,z0,z1,z2,z3,z4,Mu.val]) rfl ⟨by rw[HE.out];rfl,wS.out.2⟩
 |true=>
  obtain⟨ok,k,hk⟩:∃ok k,M.add x.pp=(ok,k):=⟨_,_,rfl⟩;have vg:Hid k.In:=aa (by have:=Js HM.out PV.out;rwa [hk] at this);rw[hk] at HE;go_wp2_with fail
  refine(jm.add M x.pp HM.out PV.out _).mono ?_;rw[hk];rintro e w6 ⟨rfl,hb⟩;have wS:=aa (HV5.out.below hb);have FW:=aa wS.out.1.1;clear hb hk HV5 m0 m1 m2 m3 m4 q0 q1 q2 q3 q4 q5 q6;go_wp2_with (first|((with_reducible refine bG 79 k.cells fE rfl (.tmp 3) (.tmp 30) rfl w.heap.size _ FW.out ?_ ?_ ?_ ?_ ?_ ?_);(iterate 5 (·rfl));(intro W2 hW2);(have JD:=aa (wS.out.Ba k hW2));(clear hW2);(obtain⟨m0,m1,m2,m3,m4⟩:=Mu.at k JD.out.1.1))|fail)
  clear m0 m1 m2 m3 m4;refine(Queue.Es k vg.out _).mono ?_;rintro e w8 ⟨rfl,hb⟩;have P6:=aa (JD.out.below hb);have zI:=aa P6.out.1.2.2;clear hb wS JD;obtain⟨j,hj⟩:∃j,nO k=j:=⟨_,rfl⟩;simp only[hj] at HE;rw[hj];clear hj;go_wp2_with (first|((with_reducible refine bG 79 j.cells fE rfl (.tmp 6) (.tmp 33) rfl (w.heap.size+2) _ zI.out ?_ ?_ ?_ ?_ ?_ ?_);(iterate 5 (·rfl));(intro W2 hW2);(have P5:=aa (P6.out.Mr j hW2));(clear hW2);(obtain⟨z0,z1,z2,z3,z4⟩:=Mu.at j P5.out.1.2.2))|fail)
  refine bodyPost_ret (v:= .tuple #[Mu.val j, .bool ok]) (by simp[results,Tryz.results108,go_sem,z0,z1,z2,z3,z4,Mu.val]) rfl ⟨by rw[HE.out];rfl,P5.out.2⟩):P:=h
theorem cWL {P:Prop} (h:P:=by
 have h1:=Cs.ja w 79 m.cells;have h2:=Cs.cu (w.alloc (.cells m 79)) 57 x;have h3:=Cs.ja ((w.alloc (.cells m 79)).alloc (.cells x 57)) 79 bE;simp only[World.size_alloc] at h2 h3;exact⟨⟨(h1.alloc _).alloc _,h2.alloc _,by rw[pz];exact h3⟩,ax.below hbelow⟩):P:=h
theorem Queue.Y3 (m:Mu) (hm:m.In) (x:It) (hx:x.In) (A:Option Addr) (n c:Nat) (l:List It) (w:World) (base:Nat) (hb0:base≤w.heap.size) (ho:bV w base A n c l) (hn:n≤900000) (hz:m.n=0):Calls Tryz.prog 108 #[m.val, .slice A n c,x.val] w (SV (rowOf A) (.tuple #[Mu.val (jS m l x).2, .bool (jS m l x).1]) w):=by
 have hn:n≤1000000:=af;have HB0:=aa hb0;have PV:Hid (dJ x.pp):=aa ⟨hx.1,hx.2.1,hx.2.2.1⟩;have Nf:Hid (∀q∈rowOf A,q<w.heap.size):=aa (fun q hq=>(ho.dX q hq).2);have hbelow:=((aD w (.cells m 79)).alloc ag (.cells x 57)).alloc (by simp;omega) (.cells bE 79)
 have aY:Hid (kz w (rowOf A) m x ⟨0,0,0,0⟩ (((w.alloc (.cells m 79)).alloc (.cells x 57)).alloc (.cells bE 79))):=aa (by
  exact cWL)
 have yE:=aa (ho.below hbelow);have HX:=aa hx;obtain⟨M,hM⟩:∃M:Mu,M=⟨x.t,m.a,m.w,m.n⟩:=⟨_,rfl⟩;have HM:Hid M.In:=aa (by rw[hM];exact⟨hx.1,hm.2.1,hm.2.2.1,hm.2.2.2⟩);have HE:Hid (jS m l x=if fD M.b (l++[x])=true then((M.add x.pp).1,nO (M.add x.pp).2) else(false,Mu.no)):=aa (by unfold jS sQ;rw[hM];simp only[if_pos hz]);have Yw:=aa hM;have c0:(m.n == 0)=true:=by rw[hz];rfl
 clear hm hx ho hbelow hz hM;unfold Mu.val It.val;go_enter Tryz.func108,Tryz.ntmps108;go_upto_region 1 with fail
 generalize (((w.alloc (.cells m 79)).alloc (.cells x 57)).alloc (.cells bE 79))=W at aY yE⊢
 obtain⟨m0,m1,m2,m3,m4⟩:=Mu.at m aY.out.1.1;obtain⟨q0,q1,q2,q3,q4,q5,q6⟩:=It.at x aY.out.1.2.1;have f0:=aY.out.1.1.lM;go_upto_region 3 with fail
 clear m0 m1 m2 m3 m4 q0 q1 q2 q3 q4 q5 q6 f0;have HV:Hid (kz w (rowOf A) M x ⟨0,0,0,0⟩ (W.setCell ⟨w,0,none⟩ (.int .u64 x.t))):=aa (by rw[Yw.out];exact aY.out.base x.t);have HO:=aa (yE.out.aaw (F:=[w.heap.size]) (ax.set (g:=w.heap.size) (ax.refl [w.heap.size] W) (Or.inl ag) 0 (.int .u64 x.t)) (fun q hq h=>by have:=Nf.out q hq;simp at h;omega));clear aY yE;generalize W.setCell ⟨w,0,none⟩ (.int .u64 x.t)=W at HV HO⊢
 exact cWK
theorem Queue.Y2 (m:Mu) (hm:m.In) (x:It) (hx:x.In) (A:Option Addr) (n c:Nat) (l:List It) (w:World) (base:Nat) (hb0:base≤w.heap.size) (ho:bV w base A n c l) (hn:n≤900000) (hz:¬m.n=0):Calls Tryz.prog 108 #[m.val, .slice A n c,x.val] w (SV (rowOf A) (.tuple #[Mu.val (jS m l x).2, .bool (jS m l x).1]) w):=by
 have hn:n≤1000000:=af;have HB0:=aa hb0;have PV:Hid (dJ x.pp):=aa ⟨hx.1,hx.2.1,hx.2.2.1⟩;have Nf:Hid (∀q∈rowOf A,q<w.heap.size):=aa (fun q hq=>(ho.dX q hq).2);have hbelow:=((aD w (.cells m 79)).alloc ag (.cells x 57)).alloc (by simp;omega) (.cells bE 79)
 have aY:Hid (kz w (rowOf A) m x ⟨0,0,0,0⟩ (((w.alloc (.cells m 79)).alloc (.cells x 57)).alloc (.cells bE 79))):=aa (by
  exact cWL)
 have yE:=aa (ho.below hbelow);have HX:=aa hx;obtain⟨M,hM⟩:∃M:Mu,M=⟨m.b,m.a,m.w,m.n⟩:=⟨_,rfl⟩;have HM:Hid M.In:=aa (by rw[hM];exact⟨hm.1,hm.2.1,hm.2.2.1,hm.2.2.2⟩);have HE:Hid (jS m l x=if fD M.b (l++[x])=true then((M.add x.pp).1,nO (M.add x.pp).2) else(false,Mu.no)):=aa (by unfold jS sQ;rw[hM];simp only[if_neg hz]);have Yw:=aa hM;have c0:(m.n == 0)=false:=by simpa using hz
 clear hm hx ho hbelow hz hM;unfold Mu.val It.val;go_enter Tryz.func108,Tryz.ntmps108;go_upto_region 1 with fail
 generalize (((w.alloc (.cells m 79)).alloc (.cells x 57)).alloc (.cells bE 79))=W at aY yE⊢
 have HV:Hid (kz w (rowOf A) M x ⟨0,0,0,0⟩ W):=aa (by rw[Yw.out];exact aY.out);have HO:=yE;obtain⟨m0,m1,m2,m3,m4⟩:=Mu.at m aY.out.1.1;go_upto_region 3 with fail
 clear aY yE m0 m1 m2 m3 m4;exact cWK
theorem Queue.with (m:Mu) (hm:m.In) (x:It) (hx:x.In) (A:Option Addr) (n c:Nat) (l:List It) (w:World) (base:Nat) (hb0:base≤w.heap.size) (ho:bV w base A n c l) (hn:n≤900000):Calls Tryz.prog 108 #[m.val, .slice A n c,x.val] w (SV (rowOf A) (.tuple #[Mu.val (jS m l x).2, .bool (jS m l x).1]) w):=by
 by_cases hz:m.n=0
 ·exact Queue.Y3 m hm x hx A n c l w base hb0 ho hn hz
 ·exact Queue.Y2 m hm x hx A n c l w base hb0 ho hn hz
end


section
open Go.RowKit
variable {a:It} {l:List It} {b:Int}
structure fZ (b:Int) (l:List It):Prop where
 fw:Fw b l
 EM:oK l
 ids:(l.map (·.i)).Nodup
 now:dE b l=b
 base:eZ b
def gF (b:Int) (l:List It) (a:It):Int:=
 if a.right=false then 2 else if (l.any fun y=>decide (y.i=a.i))=true then 13 else if l.length=32 then 7 else if fD (dZ b l a) (l++[a])=false then 8 else 0
theorem Em (h:gF b l a=0):a.right=true∧(∀y∈l,y.i≠a.i)∧l.length≠32∧fD (dZ b l a) (l++[a])=true:=by
 unfold gF at h;split at h
 ·cases h
 ·rename_i h1;split at h
  ·cases h
  ·rename_i h2;split at h
   ·cases h
   ·rename_i h3;split at h
    ·cases h
    ·rename_i h4;exact⟨by simpa using h1,by simpa using h2,h3,by simpa using h4⟩
theorem fZ.nil {b:Int} (h:eZ b):fZ b []:=⟨Fw.nil b,List.Pairwise.nil,by simp,by simp[dE],h⟩
theorem VQ (b c:Int):(⟨c,(qM b []).a,(qM b []).w,(qM b []).n⟩:Mu)=qM c []:=by simp[qM,Mu.sums,dD,dL]
theorem FK (b:Int) (l:List It) (a:It):sQ (qM b l) a=dZ b l a:=by
 unfold sQ dZ qM Mu.sums;simp
theorem U7 (b:Int) (l:List It) (a:It):(⟨dZ b l a,(qM b l).a,(qM b l).w,(qM b l).n⟩:Mu)=qM (dZ b l a) l:=by
 unfold dZ;split
 ·rename_i h;have:l=[]:=List.eq_nil_of_length_eq_zero h;subst this;exact VQ _ _
 ·rfl
theorem Fw.settled (h:Fw b l) (h0:0<l.length):nO (qM b l)=qM (dE b l) l:=by
 obtain⟨h1,h2⟩:=h.settle h0;unfold nO;rw[h1,if_pos rfl,h2]
theorem fZ.join {b:Int} {l:List It} {a:It} (h:fZ b l) (ha:a.In) (hj:gF b l a=0):
  jS (qM b l) l a=(true,qM (dE (dZ b l a) (l++[a])) (jX a l))∧fZ (dE (dZ b l a) (l++[a])) (jX a l)∧(∀(t:Tr It),t.list=l→Tr.has It.ahead a t=false∧∀k,(Tr.put It.ahead k a t).list=jX a l):=by
 obtain⟨h1,h2,h3,h4⟩:=Em hj;have h32:l.length<32:=by have:=h.fw.few;omega
 obtain⟨hF,hadd⟩:=h.fw.join h.now ha h1 h32 h4;have p:=yY a l;have hT:eZ (dZ b l a):=by unfold dZ;split;exact ha.1;exact h.base
 obtain⟨T,k,hn⟩:=hF.dY;have hna:dY T a=true:=(hn a ag).1;have hnl:∀y∈l,dY T y=true:=fun y hy=>(hn y (by simp[hy])).1
 have hns:∀y∈l,¬same a y:=fun y hy hs=>by
  have:=Wd.Sz hna (hnl y hy) (fun e=>h2 y hy e.symm);rw[hs.1,hs.2] at this;cases this
 refine⟨?_,⟨?_,?_,?_,?_,OA hT _⟩,fun t ht=>⟨?_,fun k=> ?_⟩⟩
 ·unfold jS;rw[FK,if_pos h4,U7,hadd];dsimp only;rw[hF.settled ag,UN (dE (dZ b l a) (l++[a])) p]
 ·exact(hF.now).perm p
 ·exact Wd.oK.ins hna hnl h.EM hns
 ·rw[(p.map (·.i)).nodup_iff.symm,List.map_append,List.nodup_append];refine⟨h.ids,by simp,fun x hx y hy e=> ?_⟩;obtain⟨z,hz,rfl⟩:=List.mem_map.1 hx;simp at hy;exact h2 z hz (e.trans hy)
 ·rw[←Oz _ p];exact hF.KR
 ·cases hh:Tr.has It.ahead a t with
  |false=>rfl
  |true=>
   obtain⟨y,hy,hs⟩:=(Wd.IM a hna t (by rw[ht];exact hnl) (by rw[ht];exact h.EM)).1 hh;rw[ht] at hy;exact absurd hs (hns y hy)
 ·rw[Wd.OH k a hna t (by rw[ht];exact hnl) (by rw[ht];exact h.EM),ht]
theorem fZ.K3 (h:fD (dZ b l a) (l++[a])=false):jS (qM b l) l a=(false,Mu.no):=by
 unfold jS;rw[FK,if_neg (by rw[h];simp)]
end


section
open Go.RowKit
variable {x:It} {l:List It} {b:Int}
theorem uV {T:Int} (h:dY T x=true):It.ahead x x=false:=by
 cases e:It.ahead x x with
 |false=>rfl
 |true=>have:=Wd.sS h h e;rw[e] at this;exact this
theorem fZ.dY {b:Int} {l:List It} (h:fZ b l):∃T:Int,∀a∈l,dY T a=true:=by
 obtain⟨T,k,hn⟩:=h.fw.dY;exact⟨T,fun a ha=>(hn a ha).1⟩
theorem fZ.has (h:fZ b l) (hx:x∈l) {t:Tr It} (ht:t.list=l):Tr.has It.ahead x t=true:=by
 obtain⟨T,hn⟩:=h.dY;exact(Wd.IM x (hn x hx) t (by rw[ht];exact hn) (by rw[ht];exact h.EM)).2 ⟨x,by rw[ht];exact hx,uV (hn x hx),uV (hn x hx)⟩
theorem fZ.parts (h:fZ b l) (hx:x∈l):∃A B,l=A++x::B∧(∀y∈A++B,y.i≠x.i)∧Tr.Has It.ahead x A x B:=by
 obtain⟨T,hn⟩:=h.dY;obtain⟨A,B,rfl⟩:=List.append_of_mem hx;refine⟨A,B,rfl,?_,?_⟩
 ·have hi:=h.ids;rw[List.map_append,List.map_cons,List.nodup_append,List.nodup_cons] at hi;intro y hy e;rcases List.mem_append.1 hy with hy|hy
  ·exact hi.2.2 y.i (List.mem_map_of_mem hy) x.i ag e
  ·exact hi.2.1.1 (by rw[←e];exact List.mem_map_of_mem hy)
 ·have hs:=h.EM;unfold oK at hs;rw[List.pairwise_append,List.pairwise_cons] at hs;refine⟨fun a ha=> ?_,fun c hc=> ?_,uV (hn x ag),uV (hn x ag)⟩
  ·have h1:=hs.2.2 a ha x ag;exact⟨h1,Wd.sS (hn a (by simp[ha])) (hn x ag) h1⟩
  ·have h1:=hs.2.1.1 c hc;exact⟨h1,Wd.sS (hn x ag) (hn c (by simp[hc])) h1⟩
theorem fZ.leave {A B:List It} (h:fZ b (A++x::B)):
  (qM b (A++x::B)).take x.pp=(true,qM b (A++B))∧(qM b (A++B)).In∧nO (qM b (A++B))=qM (dE b (A++B)) (A++B)∧fZ (dE b (A++B)) (A++B):=by
 obtain⟨h1,h2⟩:=h.fw.take;have hsub:(A++B).Sublist (A++x::B):=List.Sublist.append_left (List.sublist_cons_self x B) A;refine⟨h1,zL h.base h2.qz h2.n32,?_,⟨h2.now,List.Pairwise.sublist hsub h.EM,List.Pairwise.sublist (hsub.map (·.i)) h.ids,h2.KR,OA h.base _⟩⟩;by_cases h0:0<(A++B).length
 ·exact h2.settled h0
 ·have e:A++B=[]:=by
   cases hh:A++B with
   |nil=>rfl
   |cons c l=>rw[hh] at h0;simp at h0
  rw[e];unfold nO;rw[UR b,if_neg ag];simp[dE]
end


section
open Go.RowKit
def rU (i:Int) (l:List It):List It:=l.filter fun y=> !(y.i == i)
def anyI (i:Int) (l:List It):Bool:=l.any fun y=>y.i == i
theorem U0 {i:Int} {l:List It} (h:anyI i l=false):rU i l=l:=by
 unfold anyI at h;unfold rU;rw[List.any_eq_false] at h;exact List.filter_eq_self.2 (fun y hy=>by have:=h y hy;simpa using this)
end

end Go.Proofs.YtnmbfjgcmfjdcaaGreatDoor

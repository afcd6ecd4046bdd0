/- Texts of CoreRefuses's proof, together. -/
import Derived.Test.YtnmbfjgcmfjdcaaGreatDoorCoreRefusesZ43
import Derived.Test.YtnmbfjgcmfjdcaaGreatDoorMpA
namespace Go.Proofs.YtnmbfjgcmfjdcaaGreatDoor

section
open Go.RowKit
set_option maxRecDepth 100000
set_option maxHeartbeats 32000000
variable {t:Tr It} {w w':World} {F:List Nat} {th:Nat}
theorem bM.Sm:bM w t→ax F w w'→(∀g∈t.blocks,g∉F)→bM w' t:=by
 induction t with
 |nil=>intro _ _ _;trivial
 |node g c l x r ihl ihr=>
  intro h hc hd;obtain⟨⟨v,hv,hcs⟩,hl,hr⟩:=h;exact⟨⟨v,hv,hcs.aG hc (hd g (by simp[Tr.blocks]))⟩,ihl hl hc (fun k hk=>hd k (by simp[Tr.blocks,hk])),ihr hr hc (fun k hk=>hd k (by simp[Tr.blocks,hk]))⟩
theorem bC.Sm {root:Value} {n:Int} (h:bC w th root n) (hc:ax F w w') (hF:∀g∈F,∀f a c,w.cell? g≠some (.func f a c)):bC w' th root n:=by
 obtain⟨b1,b2,h0,h1,h2,n0,n1,n2,n3,n4⟩:=h;have f0:th∉F:=fun hf=>hF _ hf _ _ _ h0.aL;have f1:b1∉F:=fun hf=>hF _ hf _ _ _ h1.aL;have f2:b2∉F:=fun hf=>hF _ hf _ _ _ h2.aL;exact⟨b1,b2,h0.aG hc f0,h1.aG hc f1,h2.aG hc f2,(hc.cell (p:=⟨th,14,none⟩) h0.lt f0).trans n0,(hc.cell (p:=⟨b1,14,none⟩) h1.lt f1).trans n1,(hc.cell (p:=⟨b2,14,none⟩) h2.lt f2).trans n2,n3,n4⟩
theorem cZ.far (h:cZ w th t) (hc:ax F w w') (hF:∀g∈F,∀f a c,w.cell? g≠some (.func f a c)) (hd:∀g∈t.blocks,g∉F):cZ w' th t:=
 ⟨h.1.Sm hc hF,h.2.1.Sm hc hd,h.2.2⟩
theorem cZ.func (h:cZ w th t):∃f a c,w.cell? th=some (.func f a c):=by
 obtain⟨⟨b1,b2,h0,_⟩,_⟩:=h;exact⟨_,_,_,h0.aL⟩
def pM (m:Mu) (mb th:Nat):List Value:=[.int .u64 m.b, .int .i64 (aJ m.a), .int .u64 (aI m.a), .int .u64 m.w, .int .i64 m.n, .map (some mb), .pointer (some ⟨th,0,none⟩)]
def bQ (w:World) (q mb th:Nat) (m:Mu) (t:Tr It):Prop:=
 (Cs w q (pM m mb th)∧jA w mb t.list∧cZ w th t)∧(q≠mb∧q∉t.blocks∧mb∉t.blocks)∧m.In∧Du t.list∧t.list.length≤32
theorem bQ.below {w w':World} {q mb th:Nat} {m:Mu} {t:Tr It} (h:bQ w q mb th m t) (hb:Below w w w'):bQ w' q mb th m t:=
 ⟨⟨h.1.1.below hb,h.1.2.1.below hb,h.1.2.2.below hb⟩,h.2⟩
theorem bQ.at {q mb th:Nat} {m:Mu} (h:bQ w q mb th m t):w.cell? q=some (.int .u64 m.b)∧w.cell? ⟨q,1,none⟩=some (.int .i64 (aJ m.a))∧w.cell? ⟨q,2,none⟩=some (.int .u64 (aI m.a))∧w.cell? ⟨q,3,none⟩=some (.int .u64 m.w)∧w.cell? ⟨q,4,none⟩=some (.int .i64 m.n)∧w.cell? ⟨q,5,none⟩=some (.map (some mb))∧w.cell? ⟨q,6,none⟩=some (.pointer (some ⟨th,0,none⟩)):=
 ⟨(h.1.1 0 _ rfl).1,(h.1.1 1 _ rfl).1,(h.1.1 2 _ rfl).1,(h.1.1 3 _ rfl).1,(h.1.1 4 _ rfl).1,(h.1.1 5 _ rfl).1,(h.1.1 6 _ rfl).1⟩
theorem bQ.lt {w:World} {q mb th:Nat} {m:Mu} {t:Tr It} (h:bQ w q mb th m t):q<w.heap.size∧mb<w.heap.size∧th<w.heap.size:=
 ⟨h.1.1.lt,h.1.2.1.lt,by obtain⟨⟨_,_,t0,_⟩,_⟩:=h.1.2.2;exact t0.lt⟩
def foot (q mb th:Nat) (t:Tr It):List Nat:=q::mb::th::t.blocks
def aaH (c:Int) (w:World) (e:Ending) (w':World):Prop:=∃q mb th,e= .returned (.pointer (some ⟨q,0,none⟩))∧bQ w' q mb th ⟨c,0,0,0⟩ .nil∧(∀g∈foot q mb th .nil,w.heap.size≤g)∧Below w.heap.size w w'
theorem mI.of_nil (h:mI [] t):t= .nil:=h.oU rfl
theorem Queue.new (c:Int) (hc:eZ c) (w:World):Calls Tryz.prog 46 #[.int .u64 c] w (aaH c w):=by
 have hmm:= @run_makeMap Tryz.prog;have HC:=aa hc;have DI:=aa (jA.made w);have HB0:=aa (aD w (.map #[] 0));clear hc;go_enter Tryz.func46,Tryz.ntmps46;go_wp2_with fail
 refine(oD.new none 0 0 [] _ ⟨rfl,fun i hi=>absurd hi af⟩ (by intro x hx;cases hx) af).mono ?_;rintro e w1 ⟨th,t,rfl,hbt,hg⟩;obtain rfl:=hbt.of_nil
 have HF:Hid (bQ (w1.alloc (.cells #[.int .u64 c, .int .i64 0, .int .u64 0, .int .u64 0, .int .i64 0, .map (some w.heap.size), .pointer (some ⟨th,0,none⟩)] 85)) w1.heap.size w.heap.size th ⟨c,0,0,0⟩ .nil∧(∀g∈foot w1.heap.size w.heap.size th .nil,w.heap.size≤g)∧Below w w (w1.alloc (.cells #[.int .u64 c, .int .i64 0, .int .u64 0, .int .u64 0, .int .i64 0, .map (some w.heap.size), .pointer (some ⟨th,0,none⟩)] 85))):=aa (by
  have ha:=aD w1 (.cells #[.int .u64 c, .int .i64 0, .int .u64 0, .int .u64 0, .int .i64 0, .map (some w.heap.size), .pointer (some ⟨th,0,none⟩)] 85);have hq:=Cs.bL w1 85 [.int .u64 c, .int .i64 0, .int .u64 0, .int .u64 0, .int .i64 0, .map (some w.heap.size), .pointer (some ⟨th,0,none⟩)];have hm:=DI.out.below hg.2.2.2;have hsz:=hg.2.2.2.size;simp only[World.size_alloc] at hsz;have hth:=hg.2.1;simp only[World.size_alloc] at hth;refine⟨⟨⟨?_,hm.below ha,hg.1.below ha⟩,⟨by omega,by simp[Tr.blocks],by simp[Tr.blocks]⟩,?_,(by intro x hx;cases hx),by simp[Tr.list]⟩,?_,ai (ai HB0.out hg.2.2.2) ha⟩
  ·unfold pM;rw[show aJ 0=0 by decide,show aI 0=0 by decide];exact hq
  ·unfold Mu.In WR;exact⟨HC.out,⟨by simp,by simp⟩,⟨by simp,by simp⟩,⟨by simp,by simp⟩⟩
  ·intro g hg';simp[foot,Tr.blocks] at hg';rcases hg' with rfl|rfl|rfl<;>omega)
 clear hbt hg DI HB0;go_wp2_with fail
 go_ret;exact⟨_,_,_,rfl,HF.out⟩
theorem Queue.lI (q mb th:Nat) (m:Mu) (t:Tr It) (x:It) (hx:x∈t.list) (w:World) (h:bQ w q mb th m t):Calls Tryz.prog 30 #[(.pointer (some ⟨q,0,none⟩)), .int .i64 x.i] w (aV (.tuple #[x.val, .int .i64 0]) w):=by
 have ha:=aD w (.cells aM 57);have HB0:=aa ha;have aW:=aa (h.below ha);have HZ:Hid (Cs (w.alloc (.cells aM 57)) w.heap.size It.zero.cells):=aa (Cs.cu w 57 It.zero);have hlk:=aW.out.1.2.1.yes hx (h.2.2.2.1 x hx);clear ha h hx;unfold It.val at hlk;go_enter Tryz.func30,Tryz.ntmps30;go_upto_region 1 with fail
 generalize (w.alloc (.cells aM 57))=W0 at aW HB0 HZ hlk⊢
 obtain⟨_,_,_,_,_,k5,_⟩:=aW.out.at;have HX:Hid (Cs (W0.alloc (.cells x 57)) W0.heap.size x.cells):=aa (Cs.cu W0 57 x);have HZ1:=aa (HZ.out.alloc (.cells x 57));have HB1:=aa (HB0.out.alloc HB0.out.size (.cells x 57));go_upto_region 4 with fail
 clear hlk k5 aW HB0 HZ;generalize W0.alloc (.cells x 57)=W1 at HX HZ1 HB1⊢
 generalize W0.heap.size=gx at HX⊢
 obtain⟨x0,x1,x2,x3,x4,x5,x6⟩:=It.at x HX.out;go_wp2_with (first|((with_reducible refine bG 57 x.cells dx rfl (.tmp 4) (.tmp 23) rfl w.heap.size _ HZ1.out ?_ ?_ ?_ ?_ ?_ ?_);(iterate 5 (·rfl));(intro W2 hW2);(have HY:=aa (show Cs W2 w x.cells∧Below w w W2 by subst hW2;exact⟨Cs.bH x.cells 0 HZ1.out (by simp[It.cells]),aU ay _ _ HB1.out⟩));(clear hW2 x0 x1 x2 x3 x4 x5 x6);(obtain⟨z0,z1,z2,z3,z4,z5,z6⟩:=It.at x HY.out.1))|fail)
 refine bodyPost_ret (v:= .tuple #[x.val, .int .i64 0]) (by simp[results,Tryz.results30,go_sem,z0,z1,z2,z3,z4,z5,z6,It.val]) rfl ⟨rfl,HY.out.2⟩
theorem Queue.wF (q mb th:Nat) (m:Mu) (t:Tr It) (i:Int) (hi: -9223372036854775808≤i∧i≤9223372036854775807) (hn:∀x∈t.list,x.i≠i) (w:World) (h:bQ w q mb th m t):Calls Tryz.prog 30 #[(.pointer (some ⟨q,0,none⟩)), .int .i64 i] w (aV (.tuple #[It.zero.val, .int .i64 14]) w):=by
 have ha:=aD w (.cells aM 57);have HB0:=aa ha;have aW:=aa (h.below ha);have HZ:Hid (Cs (w.alloc (.cells aM 57)) w.heap.size It.zero.cells):=aa (Cs.cu w 57 It.zero);have hlk:=aW.out.1.2.1.no hi hn;clear ha h hn hi;unfold It.val at hlk;go_enter Tryz.func30,Tryz.ntmps30;go_upto_region 1 with fail
 generalize (w.alloc (.cells aM 57))=W0 at aW HB0 HZ hlk⊢
 obtain⟨_,_,_,_,_,k5,_⟩:=aW.out.at;have HZ1:=aa (HZ.out.alloc (.cells aM 57));have HB1:=aa (HB0.out.alloc HB0.out.size (.cells aM 57));go_upto_region 4 with fail
 clear hlk k5 aW HB0 HZ;generalize W0.alloc (.cells aM 57)=W1 at HZ1 HB1⊢
 go_wp2_with (first|((with_reducible refine bG 57 It.zero.cells dx rfl (.tmp 4) (.tmp 22) rfl w.heap.size _ HZ1.out ?_ ?_ ?_ ?_ ?_ ?_);(iterate 5 (·rfl));(intro W2 hW2);(have HY:=aa (show Cs W2 w It.zero.cells∧Below w w W2 by subst hW2;exact⟨Cs.bH It.zero.cells 0 HZ1.out (by simp[It.cells]),aU ay _ _ HB1.out⟩));(clear hW2);(obtain⟨z0,z1,z2,z3,z4,z5,z6⟩:=It.at It.zero HY.out.1))|fail)
 refine bodyPost_ret (v:= .tuple #[It.zero.val, .int .i64 14]) (by simp[results,Tryz.results30,go_sem,z0,z1,z2,z3,z4,z5,z6,It.val]) rfl ⟨rfl,HY.out.2⟩
def aaJ (l:List It) (w:World) (e:Ending) (w':World):Prop:=∃A c,e= .returned (.slice A l.length c)∧bV w' w.heap.size A l.length c l∧Below w.heap.size w w'
theorem Queue.items (q mb th:Nat) (m:Mu) (t:Tr It) (w:World) (h:bQ w q mb th m t):Calls Tryz.prog 109 #[(.pointer (some ⟨q,0,none⟩))] w (aaJ t.list w):=by
 have HQ:=aa h;obtain⟨_,_,_,_,_,_,k6⟩:=h.at;clear h;go_enter Tryz.func109,Tryz.ntmps109;go_wp2_with fail
 refine(Dt.all th t _ HQ.out.1.2.2 (by have:=HQ.out.2.2.2.2;omega)).mono ?_;rintro e w1 ⟨A,n,c,rfl,ho,hb,_⟩;obtain rfl:=ho.len;have HO:=aa ho;have HB:=aa hb;clear ho hb;go_wp2_with fail
 go_ret;exact⟨A,c,rfl,HO.out,HB.out⟩
theorem Queue.len (q mb th:Nat) (m:Mu) (t:Tr It) (w:World) (h:bQ w q mb th m t):Calls Tryz.prog 37 #[(.pointer (some ⟨q,0,none⟩))] w (aV (.int .i64 t.list.length) w):=by
 have hl:=h.1.2.1.len 3;obtain⟨_,_,_,_,_,k5,_⟩:=h.at;clear h;go_enter Tryz.func37,Tryz.ntmps37;go_wp2_with fail
 go_ret;exact⟨rfl,Below.refl _ _⟩
theorem Queue.now (q mb th:Nat) (m:Mu) (t:Tr It) (w:World) (h:bQ w q mb th m t):Calls Tryz.prog 11 #[(.pointer (some ⟨q,0,none⟩))] w (aV (.int .u64 m.b) w):=by
 obtain⟨k0,_,_,_,_,_,_⟩:=h.at;clear h;go_enter Tryz.func11,Tryz.ntmps11;go_wp2_with fail
 go_ret;exact⟨rfl,Below.refl _ _⟩
end


section
open Go.RowKit
variable {l:List It} {m:Mu} {q mb th:Nat} {w:World}
theorem Tr.Gb {lt:It→It→Bool} {k:Nat} {x:It} {t:Tr It} (h:(Tr.put lt k x t).list=jX x l) (e:t.list=l):((Tr.put lt k x t).dz false).list.Perm (x::t.list):=by
 rw[Tr.iX,h,e];exact((yY x l).symm.trans (by rw[List.perm_comm];exact(List.perm_append_singleton x l).symm))
theorem bQ.funcs {t:Tr It} (h:bQ w q mb th m t):(∀f a c,w.cell? q≠some (.func f a c))∧(∀f a c,w.cell? mb≠some (.func f a c))∧q≠th∧mb≠th:=by
 have h0:=h.at.1;have h1:=h.1.2.1.cell 0;obtain⟨f,a,c,hf⟩:=h.1.2.2.func;exact⟨fun f a c e=>(by rw[h0] at e;cases e),fun f a c e=>(by rw[h1] at e;cases e),fun e=>(by rw[←e,h0] at hf;cases hf),fun e=>(by rw[←e,h1] at hf;cases hf)⟩
theorem bQ.mean {t:Tr It} (h:bQ w q mb th m t) {k:Mu} (hk:k.In) {W:World} (hW:W=w.setCells q 0 k.cells):bQ W q mb th k t∧ax [q] w W:=by
 have hc:ax [q] w W:=by rw[hW];exact ax.sets _ _ (ax.refl _ _) (Or.inl ag)
 refine⟨⟨⟨?_,h.1.2.1.aG hc (by simpa using fun e=>h.2.1.1 e.symm),h.1.2.2.far hc (fun g hg=>by simp at hg;subst hg;exact h.funcs.1) (fun g hg=>by simp;rintro rfl;exact h.2.1.2.1 hg)⟩,h.2.1,hk,h.2.2.2⟩,hc⟩;rw[hW];exact Cs.bH k.cells 0 h.1.1 (by simp[Mu.cells,pM])
def X3 (q mb th:Nat) (m:Mu) (t:Tr It) (x:It) (w w':World):Prop:=∃k,w.heap.size≤k∧bQ w' q mb th m ((Tr.put It.ahead k x t).dz false)∧ax (foot q mb th t) w w'
theorem VR {x:It} {l k:List It} (hx:x.In) (h:Du l) (p:k.Perm (x::l)):Du k:=fun y hy=>by
 rcases List.mem_cons.1 (p.mem_iff.1 hy) with rfl|g
 ·exact hx
 ·exact h y g
set_option maxRecDepth 100000 in
set_option maxHeartbeats 8000000 in
theorem Queue.put (q mb th:Nat) (m:Mu) (t:Tr It) (x:It) (hx:x.In) (hi:∀y∈t.list,y.i≠x.i) (hh:Tr.has It.ahead x t=false) (hp:∀k,(Tr.put It.ahead k x t).list=jX x t.list) (hl:t.list.length<32) (w:World) (h:bQ w q mb th m t):
  Calls Tryz.prog 110 #[(.pointer (some ⟨q,0,none⟩)),x.val] w (fun e w'=>e= .returned (.tuple #[])∧X3 q mb th m t x w w'):=by
 have ha:=aD w (.cells x 57);have HB0:=aa ha;have aW:Hid ((bQ (w.alloc (.cells x 57)) q mb th m t∧Cs (w.alloc (.cells x 57)) w.heap.size x.cells)∧Below w w (w.alloc (.cells x 57))):=aa ⟨⟨h.below ha,Cs.cu w 57 x⟩,ha⟩;have HX:=aa hx;have HI:=aa hi;have HH:=aa hh;have HP:=aa hp;have HL:=aa hl;have gG:=aa h.lt;clear ha h hx hi hh hp hl HB0;unfold It.val;go_enter Tryz.func110,Tryz.ntmps110;go_upto_region 1 with fail
 generalize (w.alloc (.cells x 57))=W0 at aW⊢
 have aB:aF (fun wx=>(bQ wx q mb th m t∧Cs wx w x.cells)∧Below w w wx):=fun _ _ h hb=>⟨⟨h.1.1.below hb,h.1.2.below hb⟩,ai h.2 hb⟩;refine aA (S:=fun wx=>(bQ wx q mb th m t∧Cs wx w x.cells)∧Below w w wx) 7 ae (aB _ _ (aW.out) (Below.refl _ _).drew) ?_;refine aQ (aB) (fun _ h=>h) fun g=> ?_;refine tk 0 ?_ g ?_ ?_ (tk 1 ?_ g ?_ ?_ (tk 2 ?_ g ?_ ?_ (tk 3 ?_ g ?_ ?_ (tk 4 ?_ g ?_ ?_ (tk 5 ?_ g ?_ ?_ ?_)))));iterate 3 (rotate_left;(·rfl);(·exact ah))
 rotate_left;(·rfl);(·intro wq hSw;obtain⟨_,_,_,_,_,k5,k6⟩:=hSw.1.1.at;obtain⟨q0,q1,q2,q3,q4,q5,q6⟩:=It.at x hSw.1.2;go_simp;try with_reducible rfl);rotate_left;(·rfl);(·exact ah);rotate_left;(·rfl);(·intro wq hSw;obtain⟨_,_,_,_,_,k5,k6⟩:=hSw.1.1.at;obtain⟨q0,q1,q2,q3,q4,q5,q6⟩:=It.at x hSw.1.2;go_simp;try with_reducible rfl);try simp only[av]
 clear g;refine aQ (aB) (fun _ h=>h) fun g=> ?_;refine tk 6 ?_ g ?_ ?_ ?_;rotate_left;(·rfl);(·intro wq hSw;obtain⟨_,_,_,_,_,k5,k6⟩:=hSw.1.1.at;obtain⟨q0,q1,q2,q3,q4,q5,q6⟩:=It.at x hSw.1.2;go_simp;try with_reducible rfl);try simp only[av]
 clear g;refine bP (n:=7) rfl rfl ae (fun wz hSz=> ?_);simp only[List.toList_toArray,List.drop_succ_cons,List.drop_zero];have aP:=aa hSz;clear hSz aW;obtain⟨w2,hrun,hm2,hc2⟩:=aP.out.1.1.1.2.1.put HX.out HI.out (by have:=HL.out;omega);have zB:=aa hm2;have jD:=aa hc2;have LK:Hid (ax (foot q mb th t) w w2):=aa ((ax.below (F:=foot q mb th t) aP.out.2).trans hc2 (fun g hg=>Or.inl (by simp at hg;subst hg;simp[foot])));have wW:=aa aP.out.2;unfold It.val at hrun;have dK:Hid (Cs w2 w x.cells):=aa (aP.out.1.2.aG hc2 (by simp;have:=gG.out;omega));have HN:Hid (mb∉t.blocks∧q≠mb∧q∉t.blocks∧q≠th∧mb≠th):=aa ⟨aP.out.1.1.2.1.2.2,aP.out.1.1.2.1.1,aP.out.1.1.2.1.2.1,aP.out.1.1.funcs.2.2.1,aP.out.1.1.funcs.2.2.2⟩;have HT2:Hid (cZ w2 th t):=aa (aP.out.1.1.1.2.2.far hc2 (fun g hg=>by simp at hg;subst hg;exact aP.out.1.1.funcs.2.1) (fun g hg=>by simp;rintro rfl;exact HN.out.1 hg));have Qa:Hid (Cs w2 q (pM m mb th)):=aa (aP.out.1.1.1.1.aG hc2 (by simp;exact HN.out.2.1));have kZ:=aa aP.out.1.1.2.2;have Ak:w2.cell? ⟨q,6,none⟩=some (.pointer (some ⟨th,0,none⟩)):=(Qa.out 6 _ rfl).1;have Qh:=aa Ak;clear hm2 hc2 aP Ak;go_wp2_with fail
 clear hrun;have dN:aF (fun wx=>(Cs wx q (pM m mb th)∧Cs wx w x.cells)∧Below w2 w2 wx):=fun _ _ h hb=>⟨⟨h.1.1.below hb,h.1.2.below hb⟩,ai h.2 hb⟩;refine aA (S:=fun wx=>(Cs wx q (pM m mb th)∧Cs wx w x.cells)∧Below w2 w2 wx) 6 ae (dN _ _ (⟨⟨Qa.out,dK.out⟩,Below.refl _ _⟩) (Below.refl _ _).drew) ?_;refine aQ (dN) (fun _ h=>h) fun g=> ?_;refine tk 0 ?_ g ?_ ?_ (tk 1 ?_ g ?_ ?_ (tk 2 ?_ g ?_ ?_ (tk 3 ?_ g ?_ ?_ (tk 4 ?_ g ?_ ?_ (tk 5 ?_ g ?_ ?_ ?_)))));iterate 4 (rotate_left;(·rfl);(·exact ah))
 iterate 2 (rotate_left;(·rfl);(·intro wq hSw;have k6:wq.cell? ⟨q,6,none⟩=some (.pointer (some ⟨th,0,none⟩)):=(hSw.1.1 6 _ rfl).1;obtain⟨q0,q1,q2,q3,q4,q5,q6⟩:=It.at x hSw.1.2;go_simp;try with_reducible rfl))
 try simp only[av]
 clear g;refine bP (n:=6) rfl rfl ae (fun wz hSz=> ?_);simp only[List.toList_toArray,List.drop_succ_cons,List.drop_zero];have iA:=aa hSz;clear hSz;go_wp2_with fail
 refine(Dt.insert th t x HX.out _ (HT2.out.below iA.out.2) (by have:=HL.out;omega) HH.out).mono ?_;rintro e w4 ⟨k,hk,rfl,OV,hc4⟩;have hkz:=iA.out.2.size;have hbz:=wW.out.size;have hc2:=jD.out;have hsz:=hc2.size;have hpl:((Tr.put It.ahead k x t).dz false).list.Perm (x::t.list):=Tr.Gb (HP.out k) rfl
 have hbl:∀g∈((Tr.put It.ahead k x t).dz false).blocks,g=k∨g∈t.blocks:=fun g hg=>by
  rw[Tr.fU] at hg;simpa using(Tr.iM It.ahead k x t).mem_iff.1 hg
 have hlt:=gG.out
 have qN:Hid (X3 q mb th m t x w w4):=aa (by
  refine⟨k,by omega,⟨⟨(iA.out.1.1).aG hc4 (by simp;exact⟨HN.out.2.2.2.1,HN.out.2.2.1⟩),((zB.out.below iA.out.2).aG hc4 (by simp;exact⟨HN.out.2.2.2.2,HN.out.1⟩)).perm hpl.symm,OV⟩,⟨HN.out.2.1,fun hg=>by rcases hbl _ hg with rfl|hg;omega;exact HN.out.2.2.1 hg,fun hg=>by rcases hbl _ hg with rfl|hg;omega;exact HN.out.1 hg⟩,kZ.out.1,VR HX.out kZ.out.2.1 hpl,by rw[hpl.length_eq];simp;have:=HL.out;omega⟩,?_⟩;exact(LK.out.on iA.out.2).trans hc4 (fun g hg=>Or.inl (by unfold foot;exact List.mem_cons_of_mem _ (List.mem_cons_of_mem _ hg))))
 clear OV hc4 hpl hbl hkz hbz hc2 hsz hlt;go_wp2_with fail
 refine bodyPost_end (v:= .tuple #[]) (by simp[results,Tryz.results110,go_sem]) rfl ⟨rfl,qN.out⟩
end


section
open Go.RowKit
set_option maxRecDepth 100000 in
set_option maxHeartbeats 8000000 in
theorem Queue.drop (q mb th:Nat) (m:Mu) (t:Tr It) (x:It) (hx:x.In) (A B:List It) (hl:t.list=A++x::B) (hi:∀y∈A++B,y.i≠x.i) (hh:Tr.has It.ahead x t=true) (hp:Tr.Pre It.ahead x t) (hs:Tr.Has It.ahead x A x B) (he:(Tr.rem It.ahead t.size x t).list=A++B) (w:World) (h:bQ w q mb th m t):
  Calls Tryz.prog 133 #[(.pointer (some ⟨q,0,none⟩)),x.val] w (fun e w'=>e= .returned (.tuple #[])∧bQ w' q mb th m ((Tr.rem It.ahead t.size x t).dz false)∧ax (foot q mb th t) w w'):=by
 have ha:=aD w (.cells x 57);have HB0:=aa ha;have aW:Hid ((bQ (w.alloc (.cells x 57)) q mb th m t∧Cs (w.alloc (.cells x 57)) w.heap.size x.cells)∧Below w w (w.alloc (.cells x 57))):=aa ⟨⟨h.below ha,Cs.cu w 57 x⟩,ha⟩;have HX:=aa hx;have HI:=aa hi;have HH:=aa hh;have HP:=aa hp;have HS:=aa hs;have HE:=aa he;have HL:=aa hl;have gG:=aa h.lt;clear ha h hx hi hh hp hl hs he HB0;unfold It.val;go_enter Tryz.func133,Tryz.ntmps133;go_upto_region 1 with fail
 generalize (w.alloc (.cells x 57))=W0 at aW⊢
 have aB:aF (fun wx=>(bQ wx q mb th m t∧Cs wx w x.cells)∧Below w w wx):=fun _ _ h hb=>⟨⟨h.1.1.below hb,h.1.2.below hb⟩,ai h.2 hb⟩;refine aA (S:=fun wx=>(bQ wx q mb th m t∧Cs wx w x.cells)∧Below w w wx) 6 ae (aB _ _ (aW.out) (Below.refl _ _).drew) ?_;refine aQ (aB) (fun _ h=>h) fun g=> ?_;refine tk 0 ?_ g ?_ ?_ (tk 1 ?_ g ?_ ?_ (tk 2 ?_ g ?_ ?_ (tk 3 ?_ g ?_ ?_ (tk 4 ?_ g ?_ ?_ (tk 5 ?_ g ?_ ?_ ?_)))));iterate 3 (rotate_left;(·rfl);(·exact ah))
 rotate_left;(·rfl);(·intro wq hSw;obtain⟨_,_,_,_,_,k5,k6⟩:=hSw.1.1.at;obtain⟨q0,q1,q2,q3,q4,q5,q6⟩:=It.at x hSw.1.2;go_simp;try with_reducible rfl);rotate_left;(·rfl);(·exact ah);rotate_left;(·rfl);(·intro wq hSw;obtain⟨_,_,_,_,_,k5,k6⟩:=hSw.1.1.at;obtain⟨q0,q1,q2,q3,q4,q5,q6⟩:=It.at x hSw.1.2;go_simp;try with_reducible rfl);try simp only[av]
 clear g;refine bP (n:=6) rfl rfl ae (fun wz hSz=> ?_);simp only[List.toList_toArray,List.drop_succ_cons,List.drop_zero];have aP:=aa hSz;clear hSz aW;obtain⟨w2,hrun,hm2,hc2⟩:=aP.out.1.1.1.2.1.del (k:=A++B) HX.out (by rw[HL.out];exact List.perm_middle) HI.out 0;have zB:=aa hm2;have jD:=aa hc2;have LK:Hid (ax (foot q mb th t) w w2):=aa ((ax.below (F:=foot q mb th t) aP.out.2).trans hc2 (fun g hg=>Or.inl (by simp at hg;subst hg;simp[foot])));have wW:=aa aP.out.2;have dK:Hid (Cs w2 w x.cells):=aa (aP.out.1.2.aG hc2 (by simp;have:=gG.out;omega));have HN:Hid (mb∉t.blocks∧q≠mb∧q∉t.blocks∧q≠th∧mb≠th):=aa ⟨aP.out.1.1.2.1.2.2,aP.out.1.1.2.1.1,aP.out.1.1.2.1.2.1,aP.out.1.1.funcs.2.2.1,aP.out.1.1.funcs.2.2.2⟩;have HT2:Hid (cZ w2 th t):=aa (aP.out.1.1.1.2.2.far hc2 (fun g hg=>by simp at hg;subst hg;exact aP.out.1.1.funcs.2.1) (fun g hg=>by simp;rintro rfl;exact HN.out.1 hg));have Qa:Hid (Cs w2 q (pM m mb th)):=aa (aP.out.1.1.1.1.aG hc2 (by simp;exact HN.out.2.1));have kZ:=aa aP.out.1.1.2.2;have Ak:w2.cell? ⟨q,6,none⟩=some (.pointer (some ⟨th,0,none⟩)):=(Qa.out 6 _ rfl).1;have Qh:=aa Ak;clear hm2 hc2 aP Ak;go_wp2_with fail
 clear hrun;have dN:aF (fun wx=>(Cs wx q (pM m mb th)∧Cs wx w x.cells)∧Below w2 w2 wx):=fun _ _ h hb=>⟨⟨h.1.1.below hb,h.1.2.below hb⟩,ai h.2 hb⟩;refine aA (S:=fun wx=>(Cs wx q (pM m mb th)∧Cs wx w x.cells)∧Below w2 w2 wx) 6 ae (dN _ _ (⟨⟨Qa.out,dK.out⟩,Below.refl _ _⟩) (Below.refl _ _).drew) ?_;refine aQ (dN) (fun _ h=>h) fun g=> ?_;refine tk 0 ?_ g ?_ ?_ (tk 1 ?_ g ?_ ?_ (tk 2 ?_ g ?_ ?_ (tk 3 ?_ g ?_ ?_ (tk 4 ?_ g ?_ ?_ (tk 5 ?_ g ?_ ?_ ?_)))));iterate 4 (rotate_left;(·rfl);(·exact ah))
 iterate 2 (rotate_left;(·rfl);(·intro wq hSw;have k6:wq.cell? ⟨q,6,none⟩=some (.pointer (some ⟨th,0,none⟩)):=(hSw.1.1 6 _ rfl).1;obtain⟨q0,q1,q2,q3,q4,q5,q6⟩:=It.at x hSw.1.2;go_simp;try with_reducible rfl))
 try simp only[av]
 clear g;refine bP (n:=6) rfl rfl ae (fun wz hSz=> ?_);simp only[List.toList_toArray,List.drop_succ_cons,List.drop_zero];have iA:=aa hSz;clear hSz;go_wp2_with fail
 refine(Dt.delete th t x HX.out _ A x B (HT2.out.below iA.out.2) (by have:=kZ.out.2.2;omega) HH.out HP.out HS.out HL.out).mono ?_;rintro e w4 ⟨rfl,OV,hc4⟩;have hpl:((Tr.rem It.ahead t.size x t).dz false).list=A++B:=by rw[Tr.iX];exact HE.out
 have hbl:∀g∈((Tr.rem It.ahead t.size x t).dz false).blocks,g∈t.blocks:=fun g hg=>by
  rw[Tr.fU] at hg;exact(Tr.Of.rem It.ahead x t.size t).2 g hg
 have hsub:∀y∈A++B,y∈t.list:=fun y hy=>by
  rw[HL.out];rcases List.mem_append.1 hy with h|h
  ·exact List.mem_append_left _ h
  ·exact List.mem_append_right _ (List.mem_cons_of_mem _ h)
 have qN:Hid (bQ w4 q mb th m ((Tr.rem It.ahead t.size x t).dz false)∧ax (foot q mb th t) w w4):=aa (by
  refine⟨⟨⟨(iA.out.1.1).aG hc4 (by simp;exact⟨HN.out.2.2.2.1,HN.out.2.2.1⟩),?_,OV⟩,⟨HN.out.2.1,fun hg=>HN.out.2.2.1 (hbl _ hg),fun hg=>HN.out.1 (hbl _ hg)⟩,kZ.out.1,?_,?_⟩,?_⟩
  ·rw[hpl];exact(zB.out.below iA.out.2).aG hc4 (by simp;exact⟨HN.out.2.2.2.2,HN.out.1⟩)
  ·rw[hpl];exact fun y hy=>kZ.out.2.1 y (hsub y hy)
  ·rw[hpl];have h1:=kZ.out.2.2;rw[HL.out] at h1;simp only[List.length_append,List.length_cons] at h1⊢;omega
  ·exact(LK.out.E9 iA.out.2).trans hc4 (fun g hg=>Or.inl (by unfold foot;exact List.mem_cons_of_mem _ (List.mem_cons_of_mem _ hg))))
 clear OV hc4 hpl hbl hsub;go_wp2_with fail
 refine bodyPost_end (v:= .tuple #[]) (by simp[results,Tryz.results133,go_sem]) rfl ⟨rfl,qN.out⟩
end


section
open Go.RowKit
set_option maxRecDepth 100000
set_option maxHeartbeats 32000000
variable {n:Nat} {w:World} {P:Prop}
theorem qD {ops:Array Oper} {rest:List Oper} {op:Oper} {a:Act} {Q:Exit→Act→World→Prop} (T:TypeId) (vs:List Value) (hT:(Tryz.prog.info? T).map (·.size)=some n) (hgd:op.guard=none) (x y:Operand) (ho:op.op= .store T x y)
  (b:Nat) (us:List Value) (hc:Cs w b us) (hn:vs.length=n) (hl:n≤us.length) (h1:vs.all (·.oneCell')=true) (hx:a.eval x= .pointer (some ⟨b,0,none⟩)) (hy:a.eval y= .agg vs.toArray)
  (h:∀W,W=w.setCells b 0 vs→wpList Tryz.prog ops Q rest (a.put op.dst undef) W):wpList Tryz.prog ops Q (op::rest) a w:=
 wpList_store_mid hgd T x y ho b 0 vs.toArray hx hy (fun j hj=>by have:=hc.Nw;exact this j (by simp at hj;omega)) (by rw[hT,←hn];simp) (by simpa using h1) (h _ rfl)
theorem bV.weaken {b b':Nat} {A:Option Addr} {n c:Nat} {l:List It} (h:bV w b A n c l) (hb:b'≤b):bV w b' A n c l:=by
 obtain⟨h1,h2⟩:=h;refine⟨h1,?_⟩;rcases h2 with h2|⟨g,cap,cur,hv,hg,r⟩
 ·exact .inl h2
 ·exact .inr ⟨g,cap,cur,hv,Nat.le_trans hb hg,r⟩
def zm (b:Nat) (l:List It) (y:Option Addr×Nat) (w:World):Prop:=bV w b y.1 l.length y.2 l
theorem zm.stays (b:Nat) (l:List It) (y:Option Addr×Nat):aF (zm b l y):=fun _ _ h hb=>bV.below h hb
def MV (w:World) (g:Nat) (vs:List Value):Prop:=Cs w g vs∧∃cs fr,w.heap[g]?=some (.cells cs 79 fr)
theorem MV.new (w:World):MV (w.alloc (.cells bE 79)) w.heap.size bE:=⟨Cs.ja w 79 bE,_,_,(MapKept.heap_alloc w _).1⟩
theorem MV.below {w w':World} {g:Nat} {vs:List Value} (h:MV w g vs) (hb:Below w w w'):MV w' g vs:=by
 obtain⟨cs,fr,hh⟩:=h.2;exact⟨h.1.below hb,cs,fr,(hb.block g (Array.getElem?_eq_some_iff.1 hh).1).trans hh⟩
theorem MV.aG {w w':World} {g:Nat} {vs:List Value} {b:Nat} {A:Option Addr} {n c:Nat} {l:List It} (h:MV w g vs) (ho:bV w b A n c l) (hc:ax (rowOf A) w w'):MV w' g vs:=by
 obtain⟨cs,fr,hh⟩:=h.2
 have hn:g∉rowOf A:=fun hg=>by
  rcases ho.2 with⟨hv,_⟩|⟨g',cap,cur,hv,_,hg',_⟩
  ·injection hv with e1;subst e1;simp[rowOf] at hg
  ·injection hv with e1;subst e1;have e:g=g':=by simpa[rowOf,eq_comm] using hg
   subst e;rw[hh] at hg';injection hg' with hg';injection hg' with _ e2 _;exact absurd e2 ak
 exact⟨h.1.aG hc hn,cs,fr,(hc.block g (Array.getElem?_eq_some_iff.1 hh).1 hn).trans hh⟩
def zX (q mb th:Nat) (b:Int) (t:Tr It) (a:It) (w:World) (e:Ending) (w':World):Prop:=
 e= .returned (.int .i64 (gF b t.list a))∧((gF b t.list a≠0∧Below w w w')∨(gF b t.list a=0∧∃k,w.heap.size≤k∧bQ w' q mb th (qM (dE (dZ b t.list a) (t.list++[a])) (jX a t.list)) ((Tr.put It.ahead k a t).dz false)∧ax (foot q mb th t) w w'))
theorem bQ.gW {q mb th:Nat} {m:Mu} {t:Tr It} (h:bQ w q mb th m t):∀g∈foot q mb th t,g<w.heap.size:=fun g hg=>by
 have hl:=h.lt;simp only[foot,List.mem_cons] at hg;rcases hg with rfl|rfl|rfl|hg
 ·exact hl.1
 ·exact hl.2.1
 ·exact hl.2.2
 ·exact(h.1.2.2.2.1.nl g hg).lt
theorem Queue.Wx (q mb th:Nat) (b:Int) (t:Tr It) (a:It) (hq:fZ b t.list) (ha:a.In) (hr:a.right=false) (w:World) (h:bQ w q mb th (qM b t.list) t):Calls Tryz.prog 74 #[(.pointer (some ⟨q,0,none⟩)),a.val] w (zX q mb th b t a w):=by
 have HR:=aa hr;have HJ:Hid (gF b t.list a=2):=aa (by unfold gF;rw[if_pos hr]);clear hr;have hal:=aD w (.cells a 57);have aW:Hid ((bQ (w.alloc (.cells a 57)) q mb th (qM b t.list) t∧Cs (w.alloc (.cells a 57)) w.heap.size a.cells)∧Below w w (w.alloc (.cells a 57))):=aa ⟨⟨h.below hal,Cs.cu w 57 a⟩,hal⟩;have HA:=aa ha;have gG:=aa h.lt;have kZ:=aa h.2.2.1;have zG:Hid (∀g∈foot q mb th t,g<w.heap.size):=aa h.gW;generalize qM b t.list=m at *;clear hal h ha hq;unfold It.val;go_enter Tryz.func74,Tryz.ntmps74;go_upto_region 1 with fail
 generalize (w.alloc (.cells a 57))=W0 at aW⊢
 obtain⟨q0,q1,q2,q3,q4,q5,q6⟩:=It.at a aW.out.1.2;go_wp2_with fail
 clear q0 q1 q2 q3 q4 q5 q6;refine(Item.right a _).mono ?_;rw[HR.out];rintro e w1 ⟨rfl,hb⟩;have aP:=aa (And.intro (And.intro (aW.out.1.1.below hb) (aW.out.1.2.below hb)) (ai aW.out.2 hb));clear hb aW;go_wp2_with fail
 go_ret;exact⟨by rw[HJ.out]<;>rfl,Or.inl ⟨by rw[HJ.out];decide,aP.out.2⟩⟩
theorem c1B (h:P:=by
 exact⟨_,by go_simp;(try with_reducible rfl),(Below.refl _ _).alloc ay _,Cs.cu _ _ It.zero,hSw.size⟩):P:=h
theorem Queue.U5 (q mb th:Nat) (b:Int) (t:Tr It) (a:It) (hq:fZ b t.list) (ha:a.In) (hr:a.right=true) (x:It) (hx:x∈t.list) (hi:x.i=a.i) (w:World) (h:bQ w q mb th (qM b t.list) t):Calls Tryz.prog 74 #[(.pointer (some ⟨q,0,none⟩)),a.val] w (zX q mb th b t a w):=by
 have HR:=aa hr;have ek:=aa (hq.fw.Fj x hx);have HX:=aa hx;have HI:=aa hi;have HJ:Hid (gF b t.list a=13):=aa (by unfold gF;rw[if_neg (by rw[hr];simp),if_pos (by simp;exact⟨x,hx,hi⟩)]);clear hr hx hi;have hal:=aD w (.cells a 57);have aW:Hid ((bQ (w.alloc (.cells a 57)) q mb th (qM b t.list) t∧Cs (w.alloc (.cells a 57)) w.heap.size a.cells)∧Below w w (w.alloc (.cells a 57))):=aa ⟨⟨h.below hal,Cs.cu w 57 a⟩,hal⟩;have HA:=aa ha;have gG:=aa h.lt;have kZ:=aa h.2.2.1;have zG:Hid (∀g∈foot q mb th t,g<w.heap.size):=aa h.gW;generalize qM b t.list=m at *;clear hal h ha hq;unfold It.val;go_enter Tryz.func74,Tryz.ntmps74;go_upto_region 1 with fail
 generalize (w.alloc (.cells a 57))=W0 at aW⊢
 obtain⟨q0,q1,q2,q3,q4,q5,q6⟩:=It.at a aW.out.1.2;go_wp2_with fail
 clear q0 q1 q2 q3 q4 q5 q6;refine(Item.right a _).mono ?_;rw[HR.out];rintro e w1 ⟨rfl,hb⟩;have aP:=aa (And.intro (And.intro (aW.out.1.1.below hb) (aW.out.1.2.below hb)) (ai aW.out.2 hb));clear hb aW;go_wp2_with fail
 have aB:aF (fun wx=>Below w1 w1 wx):=fun _ _ h hb=>ai h hb;refine aA (S:=fun wx=>Below w1 w1 wx) 13 ae (aB _ _ ((Below.refl w1.heap.size w1)) (Below.refl _ _).drew) ?_;refine aQ (aB) (fun _ h=>h) fun g=> ?_;refine tk 0 ?_ g ?_ ?_ (tk 1 ?_ g ?_ ?_ (tk 2 ?_ g ?_ ?_ (tk 3 ?_ g ?_ ?_ (tk 4 ?_ g ?_ ?_ (tk 5 ?_ g ?_ ?_ ?_)))));iterate 3 (rotate_left;(·rfl);(·exact ah))
 rotate_left;(·rfl);(·intro wq hSw;obtain⟨_,_,_,_,_,k5,_⟩:=(aP.out.1.1.below hSw).at;obtain⟨q0,q1,q2,q3,q4,q5,q6⟩:=It.at a (aP.out.1.2.below hSw);have hlk:=(aP.out.1.1.below hSw).1.2.1.yes HX.out ek.out;rw[HI.out] at hlk;unfold It.val at hlk;go_simp;try with_reducible rfl);rotate_left;(·rfl);(·exact ah);rotate_left;(·rfl);(·intro wq hSw;obtain⟨_,_,_,_,_,k5,_⟩:=(aP.out.1.1.below hSw).at;obtain⟨q0,q1,q2,q3,q4,q5,q6⟩:=It.at a (aP.out.1.2.below hSw);have hlk:=(aP.out.1.1.below hSw).1.2.1.yes HX.out ek.out;rw[HI.out] at hlk;unfold It.val at hlk;go_simp;try with_reducible rfl);try simp only[av]
 clear g;refine aQ (aB) (fun _ h=>h) fun g=> ?_;refine tk 6 ?_ g ?_ ?_ (tk 7 ?_ g ?_ ?_ (tk 8 ?_ g ?_ ?_ (tk 9 ?_ g ?_ ?_ ?_)));rotate_left;(·rfl);(·intro wq hSw;obtain⟨_,_,_,_,_,k5,_⟩:=(aP.out.1.1.below hSw).at;obtain⟨q0,q1,q2,q3,q4,q5,q6⟩:=It.at a (aP.out.1.2.below hSw);have hlk:=(aP.out.1.1.below hSw).1.2.1.yes HX.out ek.out;rw[HI.out] at hlk;unfold It.val at hlk;go_simp;try with_reducible rfl);iterate 3 (rotate_left;(·rfl);(·exact ah))
 try simp only[av]
 clear g;refine df (i:=10) (fun wx g=>Cs wx g It.zero.cells∧w1.heap.size≤g) rfl ae ak au (aB) (fun _ h=>h) (fun g=>fun _ _ h hb=>⟨h.1.below hb,h.2⟩) (fun wq hSw=> ?_) (fun gB=> ?_)
 ·exact c1B
 try simp only[av]
 refine bB (i:=11) (fun wx=>Below w1 w1 wx) 57 x.cells It.zero.cells gB dx (.tmp 5) (.tmp 22) rfl rfl ae ak au ?hz1a ?hz1b ?hz1c ?hz1d ?hz1e (fun _ h=>h.2.1) (fun _ h=>aU h.2.2 _ _ h.1) (fun _ h=>h) ((fun _ _ h hb=>ai h hb)) ?hz1f
 case hz1a=>rfl
 case hz1b=>rfl
 case hz1c=>rfl
 case hz1d=>rfl
 case hz1e=>rfl
 try simp only[av]
 refine aQ ((fun _ _ h hb=>ai h hb)) (fun _ h=>h) fun g=> ?_;refine tk 12 ?_ g ?_ ?_ ?_;rotate_left;(·rfl);(·exact ah);try simp only[av]
 clear g;refine aZ ae (fun jb mU=> ?_) _;have cO:=aa (ai aP.out.2 mU);clear mU aP;go_wp2_with fail
 go_ret;exact⟨by rw[HJ.out]<;>rfl,Or.inl ⟨by rw[HJ.out];decide,cO.out⟩⟩
theorem Queue.Ww (q mb th:Nat) (b:Int) (t:Tr It) (a:It) (hq:fZ b t.list) (ha:a.In) (hr:a.right=true) (hn:∀x∈t.list,x.i≠a.i) (h32:t.list.length=32) (w:World) (h:bQ w q mb th (qM b t.list) t):Calls Tryz.prog 74 #[(.pointer (some ⟨q,0,none⟩)),a.val] w (zX q mb th b t a w):=by
 have HR:=aa hr;have HN:=aa hn;have hany:¬(t.list.any fun y=>decide (y.i=a.i))=true:=by simpa using hn
 have HJ:Hid (gF b t.list a=7):=aa (by unfold gF;rw[if_neg (by rw[hr];simp),if_neg hany,if_pos h32]);have zJ:=aa h32;clear hr hn h32 hany;have hal:=aD w (.cells a 57);have aW:Hid ((bQ (w.alloc (.cells a 57)) q mb th (qM b t.list) t∧Cs (w.alloc (.cells a 57)) w.heap.size a.cells)∧Below w w (w.alloc (.cells a 57))):=aa ⟨⟨h.below hal,Cs.cu w 57 a⟩,hal⟩;have HA:=aa ha;have gG:=aa h.lt;have kZ:=aa h.2.2.1;have zG:Hid (∀g∈foot q mb th t,g<w.heap.size):=aa h.gW;generalize qM b t.list=m at *;clear hal h ha hq;unfold It.val;go_enter Tryz.func74,Tryz.ntmps74;go_upto_region 1 with fail
 generalize (w.alloc (.cells a 57))=W0 at aW⊢
 obtain⟨q0,q1,q2,q3,q4,q5,q6⟩:=It.at a aW.out.1.2;go_wp2_with fail
 clear q0 q1 q2 q3 q4 q5 q6;refine(Item.right a _).mono ?_;rw[HR.out];rintro e w1 ⟨rfl,hb⟩;have aP:=aa (And.intro (And.intro (aW.out.1.1.below hb) (aW.out.1.2.below hb)) (ai aW.out.2 hb));clear hb aW;go_wp2_with fail
 have aB:aF (fun wx=>Below w1 w1 wx):=fun _ _ h hb=>ai h hb;refine aA (S:=fun wx=>Below w1 w1 wx) 13 ae (aB _ _ ((Below.refl w1.heap.size w1)) (Below.refl _ _).drew) ?_;refine aQ (aB) (fun _ h=>h) fun g=> ?_;refine tk 0 ?_ g ?_ ?_ (tk 1 ?_ g ?_ ?_ (tk 2 ?_ g ?_ ?_ (tk 3 ?_ g ?_ ?_ (tk 4 ?_ g ?_ ?_ (tk 5 ?_ g ?_ ?_ ?_)))));iterate 3 (rotate_left;(·rfl);(·exact ah))
 rotate_left;(·rfl);(·intro wq hSw;obtain⟨_,_,_,_,_,k5,_⟩:=(aP.out.1.1.below hSw).at;obtain⟨q0,q1,q2,q3,q4,q5,q6⟩:=It.at a (aP.out.1.2.below hSw);have hlk:=(aP.out.1.1.below hSw).1.2.1.no HA.out.2.2.2.1 HN.out;unfold It.val at hlk;go_simp;try with_reducible rfl);rotate_left;(·rfl);(·exact ah);rotate_left;(·rfl);(·intro wq hSw;obtain⟨_,_,_,_,_,k5,_⟩:=(aP.out.1.1.below hSw).at;obtain⟨q0,q1,q2,q3,q4,q5,q6⟩:=It.at a (aP.out.1.2.below hSw);have hlk:=(aP.out.1.1.below hSw).1.2.1.no HA.out.2.2.2.1 HN.out;unfold It.val at hlk;go_simp;try with_reducible rfl);try simp only[av]
 clear g;refine aQ (aB) (fun _ h=>h) fun g=> ?_;refine tk 6 ?_ g ?_ ?_ (tk 7 ?_ g ?_ ?_ (tk 8 ?_ g ?_ ?_ (tk 9 ?_ g ?_ ?_ ?_)));rotate_left;(·rfl);(·intro wq hSw;obtain⟨_,_,_,_,_,k5,_⟩:=(aP.out.1.1.below hSw).at;obtain⟨q0,q1,q2,q3,q4,q5,q6⟩:=It.at a (aP.out.1.2.below hSw);have hlk:=(aP.out.1.1.below hSw).1.2.1.no HA.out.2.2.2.1 HN.out;unfold It.val at hlk;go_simp;try with_reducible rfl);iterate 3 (rotate_left;(·rfl);(·exact ah))
 try simp only[av]
 clear g;refine df (i:=10) (fun wx g=>Cs wx g It.zero.cells∧w1.heap.size≤g) rfl ae ak au (aB) (fun _ h=>h) (fun g=>fun _ _ h hb=>⟨h.1.below hb,h.2⟩) (fun wq hSw=> ?_) (fun gB=> ?_)
 ·exact c1B
 try simp only[av]
 refine bB (i:=11) (fun wx=>Below w1 w1 wx) 57 It.zero.cells It.zero.cells gB dx (.tmp 5) (.tmp 22) rfl rfl ae ak au ?hz1a ?hz1b ?hz1c ?hz1d ?hz1e (fun _ h=>h.2.1) (fun _ h=>aU h.2.2 _ _ h.1) (fun _ h=>h) ((fun _ _ h hb=>ai h hb)) ?hz1f
 case hz1a=>rfl
 case hz1b=>rfl
 case hz1c=>rfl
 case hz1d=>rfl
 case hz1e=>rfl
 try simp only[av]
 refine aQ ((fun _ _ h hb=>ai h hb)) (fun _ h=>h) fun g=> ?_;refine tk 12 ?_ g ?_ ?_ ?_;rotate_left;(·rfl);(·exact ah);try simp only[av]
 clear g;refine aZ ae (fun jb mU=> ?_) _;have cO:=aa (And.intro (And.intro (aP.out.1.1.below mU) (aP.out.1.2.below mU)) (ai aP.out.2 mU));clear mU aP;have hl:=cO.out.1.1.1.2.1.len 3;obtain⟨_,_,_,_,_,k5,_⟩:=cO.out.1.1.at;have c32:((t.list.length:Int) == 32)=true:=by rw[zJ.out];rfl
 go_wp2_with fail
 go_ret;exact⟨by rw[HJ.out]<;>rfl,Or.inl ⟨by rw[HJ.out];decide,cO.out.2⟩⟩
theorem c1A (h:P:=by
 (first|exact⟨_,by go_simp;(try with_reducible rfl),(Below.refl _ _).alloc ay _,MV.new _,hSw.size⟩|exact⟨_,by go_simp;(try with_reducible rfl),(Below.refl _ _).alloc ay _,MV.new _,hSw.1.size⟩|exact⟨_,by go_simp;(try with_reducible rfl),(Below.refl _ _).alloc ay _,MV.new _,hSw.1.1.size⟩)):P:=h
theorem c1C (h:P:=by
 exact uj.aN (Queue.with m kZ.out a HA.out A5 t.list.length c5 t.list wq jb.heap.size hSw.1.size hSw.2 (by have:=cO.out.1.1.2.2.2.2;omega)) (by go_simp) (fun e w' h=>by rw[HW.out] at h;exact⟨(),h.1,trivial,h.2⟩)):P:=h
theorem c1D (h:P:=by
 exact jw.aN (Queue.items q mb th m t wq (cO.out.1.1.below hSw)) (by go_simp) (fun e w' h=>by obtain⟨A,c,he,ho,hb⟩:=h;exact⟨(A,c),he,ho.weaken hSw.size,hb⟩)):P:=h
theorem Queue.Wv (q mb th:Nat) (b:Int) (t:Tr It) (a:It) (hq:fZ b t.list) (ha:a.In) (hr:a.right=true) (hn:∀x∈t.list,x.i≠a.i) (h32:t.list.length≠32) (kS:fD (dZ b t.list a) (t.list++[a])=false) (w:World) (h:bQ w q mb th (qM b t.list) t):Calls Tryz.prog 74 #[(.pointer (some ⟨q,0,none⟩)),a.val] w (zX q mb th b t a w):=by
 have HR:=aa hr;have HN:=aa hn;have hany:¬(t.list.any fun y=>decide (y.i=a.i))=true:=by simpa using hn
 have HJ:Hid (gF b t.list a=8):=aa (by unfold gF;rw[if_neg (by rw[hr];simp),if_neg hany,if_neg h32,if_pos kS]);have zJ:=aa h32;obtain⟨k,hk⟩:∃k,k=Mu.no:=⟨_,rfl⟩;have HW:Hid (jS (qM b t.list) t.list a=(false,k)):=aa (by rw[hk];exact fZ.K3 kS);clear hr hn h32 hany kS hk;have hal:=aD w (.cells a 57);have aW:Hid ((bQ (w.alloc (.cells a 57)) q mb th (qM b t.list) t∧Cs (w.alloc (.cells a 57)) w.heap.size a.cells)∧Below w w (w.alloc (.cells a 57))):=aa ⟨⟨h.below hal,Cs.cu w 57 a⟩,hal⟩;have HA:=aa ha;have gG:=aa h.lt;have kZ:=aa h.2.2.1;have zG:Hid (∀g∈foot q mb th t,g<w.heap.size):=aa h.gW;generalize qM b t.list=m at *;clear hal h ha hq;unfold It.val;go_enter Tryz.func74,Tryz.ntmps74;go_upto_region 1 with fail
 generalize (w.alloc (.cells a 57))=W0 at aW⊢
 obtain⟨q0,q1,q2,q3,q4,q5,q6⟩:=It.at a aW.out.1.2;go_wp2_with fail
 clear q0 q1 q2 q3 q4 q5 q6;refine(Item.right a _).mono ?_;rw[HR.out];rintro e w1 ⟨rfl,hb⟩;have aP:=aa (And.intro (And.intro (aW.out.1.1.below hb) (aW.out.1.2.below hb)) (ai aW.out.2 hb));clear hb aW;go_wp2_with fail
 have aB:aF (fun wx=>Below w1 w1 wx):=fun _ _ h hb=>ai h hb;refine aA (S:=fun wx=>Below w1 w1 wx) 13 ae (aB _ _ ((Below.refl w1.heap.size w1)) (Below.refl _ _).drew) ?_;refine aQ (aB) (fun _ h=>h) fun g=> ?_;refine tk 0 ?_ g ?_ ?_ (tk 1 ?_ g ?_ ?_ (tk 2 ?_ g ?_ ?_ (tk 3 ?_ g ?_ ?_ (tk 4 ?_ g ?_ ?_ (tk 5 ?_ g ?_ ?_ ?_)))));iterate 3 (rotate_left;(·rfl);(·exact ah))
 rotate_left;(·rfl);(·intro wq hSw;obtain⟨_,_,_,_,_,k5,_⟩:=(aP.out.1.1.below hSw).at;obtain⟨q0,q1,q2,q3,q4,q5,q6⟩:=It.at a (aP.out.1.2.below hSw);have hlk:=(aP.out.1.1.below hSw).1.2.1.no HA.out.2.2.2.1 HN.out;unfold It.val at hlk;go_simp;try with_reducible rfl);rotate_left;(·rfl);(·exact ah);rotate_left;(·rfl);(·intro wq hSw;obtain⟨_,_,_,_,_,k5,_⟩:=(aP.out.1.1.below hSw).at;obtain⟨q0,q1,q2,q3,q4,q5,q6⟩:=It.at a (aP.out.1.2.below hSw);have hlk:=(aP.out.1.1.below hSw).1.2.1.no HA.out.2.2.2.1 HN.out;unfold It.val at hlk;go_simp;try with_reducible rfl);try simp only[av]
 clear g;refine aQ (aB) (fun _ h=>h) fun g=> ?_;refine tk 6 ?_ g ?_ ?_ (tk 7 ?_ g ?_ ?_ (tk 8 ?_ g ?_ ?_ (tk 9 ?_ g ?_ ?_ ?_)));rotate_left;(·rfl);(·intro wq hSw;obtain⟨_,_,_,_,_,k5,_⟩:=(aP.out.1.1.below hSw).at;obtain⟨q0,q1,q2,q3,q4,q5,q6⟩:=It.at a (aP.out.1.2.below hSw);have hlk:=(aP.out.1.1.below hSw).1.2.1.no HA.out.2.2.2.1 HN.out;unfold It.val at hlk;go_simp;try with_reducible rfl);iterate 3 (rotate_left;(·rfl);(·exact ah))
 try simp only[av]
 clear g;refine df (i:=10) (fun wx g=>Cs wx g It.zero.cells∧w1.heap.size≤g) rfl ae ak au (aB) (fun _ h=>h) (fun g=>fun _ _ h hb=>⟨h.1.below hb,h.2⟩) (fun wq hSw=> ?_) (fun gB=> ?_)
 ·exact c1B
 try simp only[av]
 refine bB (i:=11) (fun wx=>Below w1 w1 wx) 57 It.zero.cells It.zero.cells gB dx (.tmp 5) (.tmp 22) rfl rfl ae ak au ?hz1a ?hz1b ?hz1c ?hz1d ?hz1e (fun _ h=>h.2.1) (fun _ h=>aU h.2.2 _ _ h.1) (fun _ h=>h) ((fun _ _ h hb=>ai h hb)) ?hz1f
 case hz1a=>rfl
 case hz1b=>rfl
 case hz1c=>rfl
 case hz1d=>rfl
 case hz1e=>rfl
 try simp only[av]
 refine aQ ((fun _ _ h hb=>ai h hb)) (fun _ h=>h) fun g=> ?_;refine tk 12 ?_ g ?_ ?_ ?_;rotate_left;(·rfl);(·exact ah);try simp only[av]
 clear g;refine aZ ae (fun jb mU=> ?_) _;have cO:=aa (And.intro (And.intro (aP.out.1.1.below mU) (aP.out.1.2.below mU)) (ai aP.out.2 mU));clear mU aP;have hl:=cO.out.1.1.1.2.1.len 3;obtain⟨_,_,_,_,_,k5,_⟩:=cO.out.1.1.at;have c32:((t.list.length:Int) == 32)=false:=by rw[beq_eq_false_iff_ne];have:=zJ.out;omega
 go_wp2_with fail
 clear hl k5 c32;have dN:aF (fun wx=>Below jb jb wx):=fun _ _ h hb=>ai h hb;refine aA (S:=fun wx=>Below jb jb wx) 14 ae (dN _ _ ((Below.refl jb.heap.size jb)) (Below.refl _ _).drew) ?_;refine aQ (dN) (fun _ h=>h) fun g=> ?_;refine tk 0 ?_ g ?_ ?_ (tk 1 ?_ g ?_ ?_ (tk 2 ?_ g ?_ ?_ (tk 3 ?_ g ?_ ?_ (tk 4 ?_ g ?_ ?_ (tk 6 ?_ g ?_ ?_ ?_)))));iterate 3 (rotate_left;(·rfl);(·exact ah))
 rotate_left;(·rfl);(·intro wq hSw;obtain⟨k0,k1,k2,k3,k4,_,_⟩:=(cO.out.1.1.below hSw).at;obtain⟨q0,q1,q2,q3,q4,q5,q6⟩:=It.at a (cO.out.1.2.below hSw);go_simp;try with_reducible rfl);rotate_left;(·rfl);(·exact ah);rotate_left;(·rfl);(·intro wq hSw;obtain⟨k0,k1,k2,k3,k4,_,_⟩:=(cO.out.1.1.below hSw).at;obtain⟨q0,q1,q2,q3,q4,q5,q6⟩:=It.at a (cO.out.1.2.below hSw);go_simp;try with_reducible rfl);try simp only[av]
 clear g;refine uB.fst (j:=11) (dst:=some 7) (T:=fun wx g=>MV wx g bE∧jb.heap.size≤g) ?_;refine wZ (k:=5) _ (fun y:Option Addr×Nat=> .slice y.1 t.list.length y.2) (zm jb.heap.size t.list) rfl rfl rfl (Or.inl ae) ae ak ak ak ae (by intro cs b h;cases h) au (fun _=>rfl) (dN) (fun _ h=>h) (fun g=>fun _ _ h hb=>⟨h.1.below hb,h.2⟩) (fun yq=>zm.stays jb.heap.size t.list yq) (fun aq wq hSw=> ?_) (fun wq hSw=> ?_) (fun yq=> ?_)
 ·exact c1A
 ·exact c1D
 obtain⟨A5,c5⟩:=yq;dsimp only;try simp only[av]
 refine uA (k:=7) (rowOf A5) (fun wx=>Below jb jb wx) _ (fun _:Unit=> .tuple #[Mu.val k, .bool false]) (fun(_:Unit) (_:World)=>True) rfl rfl rfl (Or.inl ae) ae ak ak ak ae (by intro cs b h;cases h) au (fun _=>rfl) (aF.dF (dN) (zm.stays jb.heap.size t.list (A5,c5))) (fun _ h=>h.1) (fun _ _ h hb=>ai h hb) (fun _ h=>h) (fun g=>fun _ _ h hb=>⟨h.1.below hb,h.2⟩) (fun yq=>bZ yq) (fun _ _ h hc=>Below.aG h.1 hc (fun q hq=>(h.2.dX q hq).1)) (fun g _ _ h hT hc=>⟨hT.1.aG h.2 hc,hT.2⟩) (fun aq wq hSw=> ?_) (fun wq hSw=> ?_) (fun yq=> ?_)
 ·exact c1A
 ·exact c1C
 obtain⟨⟩:=yq;skip
 try simp only[av]
 refine gq (k:=8) (v:= ?_) _ rfl rfl rfl ak (aF.dF (fun _ _ h hb=>ai h hb) (bZ ())) (fun _ h=>h.1) (fun g=>fun _ _ h hb=>⟨h.1.below hb,h.2⟩) ae ae ae ae ae ae ae ae (by intro cs b h;cases h) (fun _ _ _ h=>h) (bA.bF (Or.inl ⟨by rfl,?_⟩)) ?_;rotate_left
 ·exact ah
 try simp only[av]
 refine gq (k:=9) (v:= ?_) _ rfl rfl rfl ak (aF.dF (fun _ _ h hb=>ai h hb) (bZ ())) (fun _ h=>h.1) (fun g=>fun _ _ h hb=>⟨h.1.below hb,h.2⟩) ae ae ae ae ae ae ae ae (by intro cs b h;cases h) (fun _ _ _ h=>h) (bA.bF (Or.inl ⟨by rfl,?_⟩)) ?_;rotate_left
 ·exact ah
 try simp only[av]
 refine gq (k:=10) (v:= ?_) _ rfl rfl rfl ak (aF.dF (fun _ _ h hb=>ai h hb) (bZ ())) (fun _ h=>h.1) (fun g=>fun _ _ h hb=>⟨h.1.below hb,h.2⟩) ae ae ae ae ae ae ae ae (by intro cs b h;cases h) (fun _ _ _ h=>h) (bA.bF (Or.inl ⟨by rfl,?_⟩)) ?_;rotate_left
 ·exact ah
 try simp only[av]
 refine tC _ rfl rfl ae ak au (aF.dF (fun _ _ h hb=>ai h hb) (bZ ())) (fun _ h=>h.1) (fun g=>fun _ _ h hb=>⟨h.1.below hb,h.2⟩) (fun wq hSw=> ?_) (fun gA=> ?_)
 ·exact c1A
 try simp only[av]
 refine bB (i:=12) (fun wx=>Below jb jb wx∧(Cs wx gA k.cells∧jb.heap.size≤gA)) 79 k.cells bE gA fE (.tmp 7) (.tmp 40) rfl rfl ae ak au ?hz2a ?hz2b ?hz2c ?hz2d ?hz2e (fun _ h=>h.2.1.1) (fun _ h=>⟨aU h.2.2 _ _ h.1.1,Cs.bH k.cells 0 h.2.1.1 (by simp[Mu.cells]),h.2.2⟩) (fun _ h=>h.1) ((fun _ _ h hb=>⟨ai h.1 hb,h.2.1.below hb,h.2.2⟩)) ?hz2f
 case hz2a=>rfl
 case hz2b=>rfl
 case hz2c=>rfl
 case hz2d=>rfl
 case hz2e=>rfl
 try simp only[av]
 refine aQ ((fun _ _ h hb=>⟨ai h.1 hb,h.2.1.below hb,h.2.2⟩)) (fun _ h=>h.1) fun g=> ?_;refine tk 13 ?_ g ?_ ?_ ?_;rotate_left;(·rfl);(·exact ah);try simp only[av]
 clear g;refine aZ ae (fun wz hSz=> ?_) _;have iA:=aa (ai cO.out.2 hSz.1);clear hSz cO;go_wp2_with fail
 go_ret;exact⟨by rw[HJ.out]<;>rfl,Or.inl ⟨by rw[HJ.out];decide,iA.out⟩⟩
theorem Queue.Wz (q mb th:Nat) (b:Int) (t:Tr It) (a:It) (hq:fZ b t.list) (ha:a.In) (hj:gF b t.list a=0) (w:World) (h:bQ w q mb th (qM b t.list) t):Calls Tryz.prog 74 #[(.pointer (some ⟨q,0,none⟩)),a.val] w (zX q mb th b t a w):=by
 obtain⟨hr,hn,h32,kS⟩:=Em hj;have HR:=aa hr;have HN:=aa hn;have HJ:=aa hj;have zJ:=aa h32;obtain⟨hw,hqk,htr⟩:=hq.join ha hj;have HQK:=aa hqk;have Lu:=aa (htr t rfl);obtain⟨k,hk⟩:∃k,k=qM (dE (dZ b t.list a) (t.list++[a])) (jX a t.list):=⟨_,rfl⟩;rw[←hk] at hw;have vg:Hid k.In:=aa (by have:=GJ (l:=t.list) h.2.2.1 ha;rwa [hw] at this);have HW:=aa hw;have Qg:=aa hk;have aaS:Hid (t.list.length<32):=aa (by have:=h.2.2.2.2;omega);clear hr hn h32 kS hk hj hw hqk htr;have hal:=aD w (.cells a 57);have aW:Hid ((bQ (w.alloc (.cells a 57)) q mb th (qM b t.list) t∧Cs (w.alloc (.cells a 57)) w.heap.size a.cells)∧Below w w (w.alloc (.cells a 57))):=aa ⟨⟨h.below hal,Cs.cu w 57 a⟩,hal⟩;have HA:=aa ha;have gG:=aa h.lt;have kZ:=aa h.2.2.1;have zG:Hid (∀g∈foot q mb th t,g<w.heap.size):=aa h.gW;generalize qM b t.list=m at *;clear hal h ha hq;unfold It.val;go_enter Tryz.func74,Tryz.ntmps74;go_upto_region 1 with fail
 generalize (w.alloc (.cells a 57))=W0 at aW⊢
 obtain⟨q0,q1,q2,q3,q4,q5,q6⟩:=It.at a aW.out.1.2;go_wp2_with fail
 clear q0 q1 q2 q3 q4 q5 q6;refine(Item.right a _).mono ?_;rw[HR.out];rintro e w1 ⟨rfl,hb⟩;have aP:=aa (And.intro (And.intro (aW.out.1.1.below hb) (aW.out.1.2.below hb)) (ai aW.out.2 hb));clear hb aW;go_wp2_with fail
 have aB:aF (fun wx=>Below w1 w1 wx):=fun _ _ h hb=>ai h hb;refine aA (S:=fun wx=>Below w1 w1 wx) 13 ae (aB _ _ ((Below.refl w1.heap.size w1)) (Below.refl _ _).drew) ?_;refine aQ (aB) (fun _ h=>h) fun g=> ?_;refine tk 0 ?_ g ?_ ?_ (tk 1 ?_ g ?_ ?_ (tk 2 ?_ g ?_ ?_ (tk 3 ?_ g ?_ ?_ (tk 4 ?_ g ?_ ?_ (tk 5 ?_ g ?_ ?_ ?_)))));iterate 3 (rotate_left;(·rfl);(·exact ah))
 rotate_left;(·rfl);(·intro wq hSw;obtain⟨_,_,_,_,_,k5,_⟩:=(aP.out.1.1.below hSw).at;obtain⟨q0,q1,q2,q3,q4,q5,q6⟩:=It.at a (aP.out.1.2.below hSw);have hlk:=(aP.out.1.1.below hSw).1.2.1.no HA.out.2.2.2.1 HN.out;unfold It.val at hlk;go_simp;try with_reducible rfl);rotate_left;(·rfl);(·exact ah);rotate_left;(·rfl);(·intro wq hSw;obtain⟨_,_,_,_,_,k5,_⟩:=(aP.out.1.1.below hSw).at;obtain⟨q0,q1,q2,q3,q4,q5,q6⟩:=It.at a (aP.out.1.2.below hSw);have hlk:=(aP.out.1.1.below hSw).1.2.1.no HA.out.2.2.2.1 HN.out;unfold It.val at hlk;go_simp;try with_reducible rfl);try simp only[av]
 clear g;refine aQ (aB) (fun _ h=>h) fun g=> ?_;refine tk 6 ?_ g ?_ ?_ (tk 7 ?_ g ?_ ?_ (tk 8 ?_ g ?_ ?_ (tk 9 ?_ g ?_ ?_ ?_)));rotate_left;(·rfl);(·intro wq hSw;obtain⟨_,_,_,_,_,k5,_⟩:=(aP.out.1.1.below hSw).at;obtain⟨q0,q1,q2,q3,q4,q5,q6⟩:=It.at a (aP.out.1.2.below hSw);have hlk:=(aP.out.1.1.below hSw).1.2.1.no HA.out.2.2.2.1 HN.out;unfold It.val at hlk;go_simp;try with_reducible rfl);iterate 3 (rotate_left;(·rfl);(·exact ah))
 try simp only[av]
 clear g;refine df (i:=10) (fun wx g=>Cs wx g It.zero.cells∧w1.heap.size≤g) rfl ae ak au (aB) (fun _ h=>h) (fun g=>fun _ _ h hb=>⟨h.1.below hb,h.2⟩) (fun wq hSw=> ?_) (fun gB=> ?_)
 ·exact c1B
 try simp only[av]
 refine bB (i:=11) (fun wx=>Below w1 w1 wx) 57 It.zero.cells It.zero.cells gB dx (.tmp 5) (.tmp 22) rfl rfl ae ak au ?hz1a ?hz1b ?hz1c ?hz1d ?hz1e (fun _ h=>h.2.1) (fun _ h=>aU h.2.2 _ _ h.1) (fun _ h=>h) ((fun _ _ h hb=>ai h hb)) ?hz1f
 case hz1a=>rfl
 case hz1b=>rfl
 case hz1c=>rfl
 case hz1d=>rfl
 case hz1e=>rfl
 try simp only[av]
 refine aQ ((fun _ _ h hb=>ai h hb)) (fun _ h=>h) fun g=> ?_;refine tk 12 ?_ g ?_ ?_ ?_;rotate_left;(·rfl);(·exact ah);try simp only[av]
 clear g;refine aZ ae (fun jb mU=> ?_) _;have cO:=aa (And.intro (And.intro (aP.out.1.1.below mU) (aP.out.1.2.below mU)) (ai aP.out.2 mU));clear mU aP;have hl:=cO.out.1.1.1.2.1.len 3;obtain⟨_,_,_,_,_,k5,_⟩:=cO.out.1.1.at;have c32:((t.list.length:Int) == 32)=false:=by rw[beq_eq_false_iff_ne];have:=zJ.out;omega
 go_wp2_with fail
 clear hl k5 c32;have dN:aF (fun wx=>Below jb jb wx):=fun _ _ h hb=>ai h hb;refine aA (S:=fun wx=>Below jb jb wx) 14 ae (dN _ _ ((Below.refl jb.heap.size jb)) (Below.refl _ _).drew) ?_;refine aQ (dN) (fun _ h=>h) fun g=> ?_;refine tk 0 ?_ g ?_ ?_ (tk 1 ?_ g ?_ ?_ (tk 2 ?_ g ?_ ?_ (tk 3 ?_ g ?_ ?_ (tk 4 ?_ g ?_ ?_ (tk 6 ?_ g ?_ ?_ ?_)))));iterate 3 (rotate_left;(·rfl);(·exact ah))
 rotate_left;(·rfl);(·intro wq hSw;obtain⟨k0,k1,k2,k3,k4,_,_⟩:=(cO.out.1.1.below hSw).at;obtain⟨q0,q1,q2,q3,q4,q5,q6⟩:=It.at a (cO.out.1.2.below hSw);go_simp;try with_reducible rfl);rotate_left;(·rfl);(·exact ah);rotate_left;(·rfl);(·intro wq hSw;obtain⟨k0,k1,k2,k3,k4,_,_⟩:=(cO.out.1.1.below hSw).at;obtain⟨q0,q1,q2,q3,q4,q5,q6⟩:=It.at a (cO.out.1.2.below hSw);go_simp;try with_reducible rfl);try simp only[av]
 clear g;refine uB.fst (j:=11) (dst:=some 7) (T:=fun wx g=>MV wx g bE∧jb.heap.size≤g) ?_;refine wZ (k:=5) _ (fun y:Option Addr×Nat=> .slice y.1 t.list.length y.2) (zm jb.heap.size t.list) rfl rfl rfl (Or.inl ae) ae ak ak ak ae (by intro cs b h;cases h) au (fun _=>rfl) (dN) (fun _ h=>h) (fun g=>fun _ _ h hb=>⟨h.1.below hb,h.2⟩) (fun yq=>zm.stays jb.heap.size t.list yq) (fun aq wq hSw=> ?_) (fun wq hSw=> ?_) (fun yq=> ?_)
 ·exact c1A
 ·exact c1D
 obtain⟨A5,c5⟩:=yq;dsimp only;try simp only[av]
 refine uA (k:=7) (rowOf A5) (fun wx=>Below jb jb wx) _ (fun _:Unit=> .tuple #[Mu.val k, .bool true]) (fun(_:Unit) (_:World)=>True) rfl rfl rfl (Or.inl ae) ae ak ak ak ae (by intro cs b h;cases h) au (fun _=>rfl) (aF.dF (dN) (zm.stays jb.heap.size t.list (A5,c5))) (fun _ h=>h.1) (fun _ _ h hb=>ai h hb) (fun _ h=>h) (fun g=>fun _ _ h hb=>⟨h.1.below hb,h.2⟩) (fun yq=>bZ yq) (fun _ _ h hc=>Below.aG h.1 hc (fun q hq=>(h.2.dX q hq).1)) (fun g _ _ h hT hc=>⟨hT.1.aG h.2 hc,hT.2⟩) (fun aq wq hSw=> ?_) (fun wq hSw=> ?_) (fun yq=> ?_)
 ·exact c1A
 ·exact c1C
 obtain⟨⟩:=yq;skip
 try simp only[av]
 refine gq (k:=8) (v:= ?_) _ rfl rfl rfl ak (aF.dF (fun _ _ h hb=>ai h hb) (bZ ())) (fun _ h=>h.1) (fun g=>fun _ _ h hb=>⟨h.1.below hb,h.2⟩) ae ae ae ae ae ae ae ae (by intro cs b h;cases h) (fun _ _ _ h=>h) (bA.bF (Or.inl ⟨by rfl,?_⟩)) ?_;rotate_left
 ·exact ah
 try simp only[av]
 refine gq (k:=9) (v:= ?_) _ rfl rfl rfl ak (aF.dF (fun _ _ h hb=>ai h hb) (bZ ())) (fun _ h=>h.1) (fun g=>fun _ _ h hb=>⟨h.1.below hb,h.2⟩) ae ae ae ae ae ae ae ae (by intro cs b h;cases h) (fun _ _ _ h=>h) (bA.bF (Or.inl ⟨by rfl,?_⟩)) ?_;rotate_left
 ·exact ah
 try simp only[av]
 refine gq (k:=10) (v:= ?_) _ rfl rfl rfl ak (aF.dF (fun _ _ h hb=>ai h hb) (bZ ())) (fun _ h=>h.1) (fun g=>fun _ _ h hb=>⟨h.1.below hb,h.2⟩) ae ae ae ae ae ae ae ae (by intro cs b h;cases h) (fun _ _ _ h=>h) (bA.bF (Or.inl ⟨by rfl,?_⟩)) ?_;rotate_left
 ·exact ah
 try simp only[av]
 refine tC _ rfl rfl ae ak au (aF.dF (fun _ _ h hb=>ai h hb) (bZ ())) (fun _ h=>h.1) (fun g=>fun _ _ h hb=>⟨h.1.below hb,h.2⟩) (fun wq hSw=> ?_) (fun gA=> ?_)
 ·exact c1A
 try simp only[av]
 refine bB (i:=12) (fun wx=>Below jb jb wx∧(Cs wx gA k.cells∧jb.heap.size≤gA)) 79 k.cells bE gA fE (.tmp 7) (.tmp 40) rfl rfl ae ak au ?hz2a ?hz2b ?hz2c ?hz2d ?hz2e (fun _ h=>h.2.1.1) (fun _ h=>⟨aU h.2.2 _ _ h.1.1,Cs.bH k.cells 0 h.2.1.1 (by simp[Mu.cells]),h.2.2⟩) (fun _ h=>h.1) ((fun _ _ h hb=>⟨ai h.1 hb,h.2.1.below hb,h.2.2⟩)) ?hz2f
 case hz2a=>rfl
 case hz2b=>rfl
 case hz2c=>rfl
 case hz2d=>rfl
 case hz2e=>rfl
 try simp only[av]
 refine aQ ((fun _ _ h hb=>⟨ai h.1 hb,h.2.1.below hb,h.2.2⟩)) (fun _ h=>h.1) fun g=> ?_;refine tk 13 ?_ g ?_ ?_ ?_;rotate_left;(·rfl);(·exact ah);try simp only[av]
 clear g;refine aZ ae (fun wz hSz=> ?_) _;have iA:=aa (And.intro (And.intro (cO.out.1.1.below hSz.1) (cO.out.1.2.below hSz.1)) (ai cO.out.2 hSz.1));have rJ:=aa hSz.2.1;have kJ:=aa cO.out.2.size;have FU:=aa hSz.2.2;clear hSz cO;obtain⟨m0,m1,m2,m3,m4⟩:=Mu.at k rJ.out;have Qn:=aa iA.out.1.1.1.1;have hb3:=iA.out.2;go_wp2_with (first|((with_reducible refine qD 79 k.cells fE rfl (.tmp 47) (.tmp 45) rfl q _ Qn.out ?hz3a ?hz3b ?hz3c ?hz3d ?hz3e ?aba);(case hz3a=>rfl);(case hz3b=>exact(show 5≤7 by decide));(case hz3c=>rfl);(case hz3d=>rfl);(case hz3e=>rfl);(intro W2 hW2);(have FP:=aa (iA.out.1.1.mean vg.out hW2));(clear hW2 m0 m1 m2 m3 m4);(have HA4:=aa (iA.out.1.2.aG FP.out.2 (by simp;have:=gG.out;omega)));(obtain⟨q0,q1,q2,q3,q4,q5,q6⟩:=It.at a HA4.out))|fail)
 clear q0 q1 q2 q3 q4 q5 q6;refine(Queue.put q mb th k t a HA.out HN.out Lu.out.1 Lu.out.2 aaS.out _ FP.out.1).mono ?_;rintro e w9 ⟨rfl,kk,hkk,OX,hcc⟩
 have qN:Hid (∃k',w.heap.size≤k'∧bQ w9 q mb th (qM (dE (dZ b t.list a) (t.list++[a])) (jX a t.list)) ((Tr.put It.ahead k' a t).dz false)∧ax (foot q mb th t) w w9):=aa (by
  have hc4:=FP.out.2;refine⟨kk,?_,by rw[←Qg.out];exact OX,?_⟩
  ·have h1:=hc4.size;have h2:=iA.out.2.size;omega
  ·have g1:ax (foot q mb th t) w wz:=ax.below iA.out.2;exact(g1.trans hc4 (fun g hg=>Or.inl (by simp at hg;subst hg;simp[foot]))).trans hcc (fun g hg=>Or.inl hg))
 clear hkk OX hcc hb3;go_wp2_with fail
 go_ret;exact⟨by rw[HJ.out]<;>rfl,Or.inr ⟨HJ.out,qN.out⟩⟩
theorem Queue.join (q mb th:Nat) (b:Int) (t:Tr It) (a:It) (hq:fZ b t.list) (ha:a.In) (w:World) (h:bQ w q mb th (qM b t.list) t):Calls Tryz.prog 74 #[(.pointer (some ⟨q,0,none⟩)),a.val] w (zX q mb th b t a w):=by
 by_cases hj:gF b t.list a=0
 ·exact Queue.Wz q mb th b t a hq ha hj w h
 ·cases hr:a.right with
  |false=>exact Queue.Wx q mb th b t a hq ha hr w h
  |true=>
   by_cases hn:∃x∈t.list,x.i=a.i
   ·obtain⟨x,hx,hi⟩:=hn;exact Queue.U5 q mb th b t a hq ha hr x hx hi w h
   ·have hn:∀x∈t.list,x.i≠a.i:=fun x hx e=>hn ⟨x,hx,e⟩;by_cases h32:t.list.length=32
    ·exact Queue.Ww q mb th b t a hq ha hr hn h32 w h
    ·cases kS:fD (dZ b t.list a) (t.list++[a]) with
     |false=>exact Queue.Wv q mb th b t a hq ha hr hn h32 kS w h
     |true=>
      refine absurd ?_ hj;unfold gF;rw[if_neg (by rw[hr];simp),if_neg (by simpa using hn),if_neg h32,if_neg (by rw[kS];simp)]
end


section
open Go.RowKit
set_option maxRecDepth 100000
set_option maxHeartbeats 32000000
theorem bQ.away {F:List Nat} {w w':World} {q mb th:Nat} {m:Mu} {t:Tr It} (h:bQ w q mb th m t) (hc:ax F w w') (hF:∀g∈F,∀f a c,w.cell? g≠some (.func f a c)) (hd:∀g∈foot q mb th t,g∉F):bQ w' q mb th m t:=
 ⟨⟨h.1.1.aG hc (hd q (by simp[foot])),h.1.2.1.aG hc (hd mb (by simp[foot])),h.1.2.2.far hc hF (fun g hg=>hd g (by simp[foot,hg]))⟩,h.2⟩
theorem Queue.without (q mb th:Nat) (m:Mu) (t:Tr It) (x:It) (hx:x.In) (k:Mu) (hk:k.In) (htk:m.take x.pp=(true,k)) (w:World) (h:bQ w q mb th m t):Calls Tryz.prog 132 #[(.pointer (some ⟨q,0,none⟩)),x.val] w (aV (nO k).val w):=by
 have hal:=(aD w (.cells x 57)).alloc ag (.cells bE 79)
 have aP:Hid ((bQ ((w.alloc (.cells x 57)).alloc (.cells bE 79)) q mb th m t∧Cs ((w.alloc (.cells x 57)).alloc (.cells bE 79)) w.heap.size x.cells)∧(Cs ((w.alloc (.cells x 57)).alloc (.cells bE 79)) (w.heap.size+1) bE∧Below w w ((w.alloc (.cells x 57)).alloc (.cells bE 79)))):=aa (by
  have h1:=Cs.cu w 57 x;have h2:=Cs.ja (w.alloc (.cells x 57)) 79 bE;simp only[World.size_alloc] at h2;exact⟨⟨h.below hal,h1.alloc _⟩,h2,hal⟩)
 have kZ:=aa h.2.2.1;have HX:=aa hx;have vg:=aa hk;have zt:=aa htk;clear h hal hx hk htk;unfold It.val;go_enter Tryz.func132,Tryz.ntmps132;go_upto_region 1 with fail
 generalize ((w.alloc (.cells x 57)).alloc (.cells bE 79))=W1 at aP⊢
 have aB:aF (fun wx=>Below W1 W1 wx):=fun _ _ h hb=>ai h hb;refine aA (S:=fun wx=>Below W1 W1 wx) 13 ae (aB _ _ ((Below.refl W1.heap.size W1)) (Below.refl _ _).drew) ?_;refine aQ (aB) (fun _ h=>h) fun g=> ?_;refine tk 0 ?_ g ?_ ?_ (tk 1 ?_ g ?_ ?_ (tk 2 ?_ g ?_ ?_ (tk 3 ?_ g ?_ ?_ (tk 4 ?_ g ?_ ?_ (tk 5 ?_ g ?_ ?_ ?_)))));iterate 3 (rotate_left;(·rfl);(·exact ah))
 rotate_left;(·rfl);(·intro wq hSw;obtain⟨k0,k1,k2,k3,k4,_,_⟩:=(aP.out.1.1.below hSw).at;obtain⟨q0,q1,q2,q3,q4,q5,q6⟩:=It.at x (aP.out.1.2.below hSw);go_simp;try with_reducible rfl);rotate_left;(·rfl);(·exact ah);rotate_left;(·rfl);(·intro wq hSw;obtain⟨k0,k1,k2,k3,k4,_,_⟩:=(aP.out.1.1.below hSw).at;obtain⟨q0,q1,q2,q3,q4,q5,q6⟩:=It.at x (aP.out.1.2.below hSw);go_simp;try with_reducible rfl);try simp only[av]
 clear g;refine iI 6 (.tuple #[Mu.val k, .bool true]) (aB) (fun _ h=>h) (fun wq hSw=> ?_) ?_
 ·refine dU.aN ((by have:=jm.take m x.pp kZ.out ⟨HX.out.1,HX.out.2.1,HX.out.2.2.1⟩ wq;rw[zt.out] at this;exact this:Calls Tryz.prog 166 #[m.val,pv x.pp] wq (aV (.tuple #[Mu.val k, .bool true]) wq))) (by go_simp) ?_;rintro e wr ⟨rfl,hb⟩;exact⟨rfl,hb⟩
 try simp only[av]
 refine aQ (aB) (fun _ h=>h) fun g=> ?_;refine tk 7 ?_ g ?_ ?_ (tk 8 ?_ g ?_ ?_ (tk 9 ?_ g ?_ ?_ ?_));iterate 3 (rotate_left;(·rfl);(·exact ah))
 try simp only[av]
 clear g;refine df (i:=10) (fun wx g=>Cs wx g bE∧W1.heap.size≤g) rfl ae ak au (aB) (fun _ h=>h) (fun g=>fun _ _ h hb=>⟨h.1.below hb,h.2⟩) (fun wq hSw=> ?_) (fun gA=> ?_)
 ·exact⟨_,by go_simp;(try with_reducible rfl),(Below.refl _ _).alloc ay _,Cs.ja _ _ _,hSw.size⟩
 try simp only[av]
 refine bB (i:=11) (fun wx=>Below W1 W1 wx∧(Cs wx gA k.cells∧W1.heap.size≤gA)) 79 k.cells bE gA fE (.tmp 5) (.tmp 15) rfl rfl ae ak au ?hz1a ?hz1b ?hz1c ?hz1d ?hz1e (fun _ h=>h.2.1) (fun _ h=>⟨aU h.2.2 _ _ h.1,Cs.bH _ 0 h.2.1 (by simp[Mu.cells]),h.2.2⟩) (fun _ h=>h.1) ((fun _ _ h hb=>⟨ai h.1 hb,h.2.1.below hb,h.2.2⟩)) ?hz1f
 case hz1a=>rfl
 case hz1b=>rfl
 case hz1c=>rfl
 case hz1d=>rfl
 case hz1e=>rfl
 try simp only[av]
 refine aQ ((fun _ _ h hb=>⟨ai h.1 hb,h.2.1.below hb,h.2.2⟩)) (fun _ h=>h.1) fun g=> ?_;refine tk 12 ?_ g ?_ ?_ ?_;rotate_left;(·rfl);(·exact ah);try simp only[av]
 clear g;refine aZ ae (fun wz hSz=> ?_) _;have HZ2:=aa (aP.out.2.1.below hSz.1);have HB2:=aa (ai aP.out.2.2 hSz.1);have HA:=aa hSz.2.1;clear hSz aP zt;obtain⟨m0,m1,m2,m3,m4⟩:=Mu.at k HA.out;go_wp2_with fail
 refine(Queue.Es k vg.out _).mono ?_;rintro e w2 ⟨rfl,hb⟩;have HZ3:=aa (HZ2.out.below hb);have HB3:=aa (ai HB2.out hb);clear hb HZ2 HB2 m0 m1 m2 m3 m4;obtain⟨j,hj⟩:∃j,nO k=j:=⟨_,rfl⟩;rw[hj];have HJ:=aa hj;clear hj;go_wp2_with (first|((with_reducible refine bG 79 j.cells fE rfl (.tmp 4) (.tmp 18) rfl (w.heap.size+1) _ HZ3.out ?_ ?_ ?_ ?_ ?_ ?_);(iterate 5 (·rfl));(intro W2 hW2);(have HY:=aa (show Cs W2 (w.heap.size+1) j.cells∧Below w w W2 by subst hW2;exact⟨Cs.bH _ 0 HZ3.out (by simp[Mu.cells]),aU af _ _ HB3.out⟩));(clear hW2);(obtain⟨z0,z1,z2,z3,z4⟩:=Mu.at j HY.out.1))|fail)
 refine bodyPost_ret (v:=j.val) (by simp[results,Tryz.results132,go_sem,z0,z1,z2,z3,z4,Mu.val]) rfl ⟨by rw[HJ.out],HY.out.2⟩
def TZ (q mb th:Nat) (b:Int) (t:Tr It) (x:It) (w w':World):Prop:=∃t' A B,t.list=A++x::B∧t'.list=A++B∧(∀y∈A++B,y.i≠x.i)∧bQ w' q mb th (qM (dE b (A++B)) (A++B)) t'∧fZ (dE b (A++B)) (A++B)∧Tr.Whole t'∧(∀g∈t'.blocks,g∈t.blocks)∧ax (foot q mb th t) w w'
theorem Queue.Ru (q mb th:Nat) (m:Mu) (t:Tr It) (i:Int) (hi: -9223372036854775808≤i∧i≤9223372036854775807) (hn:∀x∈t.list,x.i≠i) (w:World) (h:bQ w q mb th m t):Calls Tryz.prog 124 #[(.pointer (some ⟨q,0,none⟩)), .int .i64 i] w (aV (.tuple #[It.zero.val, .int .i64 14]) w):=by
 have HI:=aa hi;have HN:=aa hn;have hal:=aD w (.cells aM 57);have HB0:=aa hal;have aW:=aa (h.below hal);have HZ:Hid (Cs (w.alloc (.cells aM 57)) w.heap.size It.zero.cells):=aa (Cs.cu w 57 It.zero);clear h hal hi hn;go_enter Tryz.func124,Tryz.ntmps124;go_upto_region 1 with fail
 generalize (w.alloc (.cells aM 57))=W0 at aW HB0 HZ⊢
 go_wp2_with fail
 refine(Queue.wF q mb th m t i HI.out HN.out _ aW.out).mono ?_;rintro e w1 ⟨rfl,hb⟩;have ha:=aD w1 (.cells aM 57);have bX:Hid (Cs (w1.alloc (.cells aM 57)) w1.heap.size It.zero.cells):=aa (Cs.cu w1 57 It.zero);have HZ1:=aa ((HZ.out.below hb).below ha);have HB1:=aa (ai (ai HB0.out hb) ha);have aP:=aa ((aW.out.below hb).below ha);have oo:Hid (w.heap.size<w1.heap.size):=aa (HZ.out.below hb).lt;clear hb ha aW HB0 HZ;unfold It.val;go_upto_region 2 with fail
 generalize w1.alloc (.cells aM 57)=W1 at bX HZ1 HB1 aP⊢
 generalize w1.heap.size=gx at bX oo⊢
 obtain⟨x0,x1,x2,x3,x4,x5,x6⟩:=It.at It.zero bX.out;go_wp2_with (first|((with_reducible refine bG 57 It.zero.cells dx rfl (.tmp 4) (.tmp 16) rfl w.heap.size _ HZ1.out ?_ ?_ ?_ ?_ ?_ ?_);(iterate 5 (·rfl));(intro W2 hW2);(have HY:=aa (show Cs W2 w It.zero.cells∧Below w w W2 by subst hW2;exact⟨Cs.bH It.zero.cells 0 HZ1.out (by simp[It.cells]),aU ay _ _ HB1.out⟩));(clear hW2 x0 x1 x2 x3 x4 x5 x6);(obtain⟨z0,z1,z2,z3,z4,z5,z6⟩:=It.at It.zero HY.out.1))|fail)
 refine bodyPost_ret (v:= .tuple #[It.zero.val, .int .i64 14]) (by simp[results,Tryz.results124,go_sem,z0,z1,z2,z3,z4,z5,z6,It.val]) rfl ⟨rfl,HY.out.2⟩
theorem Queue.OO (q mb th:Nat) (b:Int) (t:Tr It) (hq:fZ b t.list) (ma:Tr.Whole t) (x:It) (hx:x∈t.list) (w:World) (h:bQ w q mb th (qM b t.list) t):Calls Tryz.prog 124 #[(.pointer (some ⟨q,0,none⟩)), .int .i64 x.i] w (fun e w'=>e= .returned (.tuple #[x.val, .int .i64 0])∧TZ q mb th b t x w w'):=by
 have HX:=aa hx;have ek:=aa (h.2.2.2.1 x hx);obtain⟨A,B,hl,hi,hs⟩:=hq.parts hx;have om:=aa (fZ.leave (by rw[hl] at hq;exact hq:fZ b (A++x::B)));have HL:=aa hl;have HI:=aa hi;have HS:=aa hs;have HH:=aa (hq.has hx (t:=t) rfl);have HR:=aa (ma.rem hs hl ay);have HP:=aa (ma.pre (lt:=It.ahead) (x:=x) (by intro e;rw[e] at hx;simp[Tr.list] at hx));have gG:Hid (∀g∈foot q mb th t,g<w.heap.size):=aa h.gW;obtain⟨m,hm⟩:∃m,m=qM b t.list:=⟨_,rfl⟩;have HM:=aa hm;rw[←hm] at h;have zt:Hid (m.take x.pp=(true,qM b (A++B))):=aa (by rw[hm,hl];exact om.out.1);have hal:=aD w (.cells aM 57);have HB0:=aa hal;have aW:=aa (h.below hal);have HZ:Hid (Cs (w.alloc (.cells aM 57)) w.heap.size It.zero.cells):=aa (Cs.cu w 57 It.zero);clear h hal hx hl hi hs hq ma hm;go_enter Tryz.func124,Tryz.ntmps124;go_upto_region 1 with fail
 generalize (w.alloc (.cells aM 57))=W0 at aW HB0 HZ⊢
 go_wp2_with fail
 refine(Queue.lI q mb th m t x HX.out _ aW.out).mono ?_;rintro e w1 ⟨rfl,hb⟩;have ha:=aD w1 (.cells x 57);have bX:Hid (Cs (w1.alloc (.cells x 57)) w1.heap.size x.cells):=aa (Cs.cu w1 57 x);have HZ1:=aa ((HZ.out.below hb).below ha);have HB1:=aa (ai (ai HB0.out hb) ha);have aP:=aa ((aW.out.below hb).below ha);have oo:Hid (w.heap.size<w1.heap.size):=aa (HZ.out.below hb).lt;clear hb ha aW HB0 HZ;unfold It.val;go_upto_region 2 with fail
 generalize w1.alloc (.cells x 57)=W1 at bX HZ1 HB1 aP⊢
 generalize w1.heap.size=gx at bX oo⊢
 obtain⟨x0,x1,x2,x3,x4,x5,x6⟩:=It.at x bX.out;go_wp2_with fail
 refine(Queue.without q mb th m t x ek.out (qM b (A++B)) om.out.2.1 zt.out _ aP.out).mono ?_;rintro e w2 ⟨rfl,hb⟩;have cO:=aa (aP.out.below hb);have dK:=aa (bX.out.below hb);have HZ2:=aa (HZ1.out.below hb);have HB2:=aa (ai HB1.out hb);clear hb aP bX HZ1 HB1 x0 x1 x2 x3 x4 x5 x6;rw[om.out.2.2.1];obtain⟨j,hj⟩:∃j,j=qM (dE b (A++B)) (A++B):=⟨_,rfl⟩;rw[←hj];have HJ:=aa hj;have HJI:Hid j.In:=aa (by have:=om.out.2.2.2;rw[hj];exact zL this.base this.fw.qz this.fw.n32);clear hj;have Qn:=aa cO.out.1.1;have Dx:Hid (∀j',j'∈foot q mb th t→j'≠w.heap.size∧j'≠gx):=aa (fun j' hj'=>by have h1:=gG.out j' hj';have h2:=oo.out;exact⟨by omega,by omega⟩);go_wp2_with (first|((with_reducible refine qD 79 j.cells fE rfl (.tmp 23) (.tmp 21) rfl q _ Qn.out ?hz1a ?hz1b ?hz1c ?hz1d ?hz1e ?hz1f);(case hz1a=>rfl);(case hz1b=>exact(show 5≤7 by decide));(case hz1c=>rfl);(case hz1d=>rfl);(case hz1e=>rfl);(intro W2 hW2);(have FP:=aa (cO.out.mean HJI.out hW2));(clear hW2);(have kY:=aa (dK.out.aG FP.out.2 (by simp;exact Ne.symm (Dx.out q (by simp[foot])).2)));(have uY:=aa (HZ2.out.aG FP.out.2 (by simp;exact Ne.symm (Dx.out q (by simp[foot])).1)));(obtain⟨x0,x1,x2,x3,x4,x5,x6⟩:=It.at x kY.out))|fail)
 refine(Queue.drop q mb th j t x ek.out A B HL.out HI.out HH.out HP.out HS.out (by have:=HR.out.2;rwa [Tr.iX] at this) _ FP.out.1).mono ?_;rintro e w5 ⟨rfl,OY,uO⟩;have HX5:=aa (kY.out.aG uO (fun hg=>(Dx.out _ hg).2 rfl));have HZ1:=aa (uY.out.aG uO (fun hg=>(Dx.out _ hg).1 rfl));have Qb:=aa OY;have DT:Hid (ax (foot q mb th t) w w5):=aa (((ax.below (F:=foot q mb th t) HB2.out).trans FP.out.2 (fun g hg=>Or.inl (by simp at hg;subst hg;simp[foot]))).trans uO (fun g hg=>Or.inl hg));clear OY uO x0 x1 x2 x3 x4 x5 x6 kY uY;obtain⟨x0,x1,x2,x3,x4,x5,x6⟩:=It.at x HX5.out;go_wp2_with (first|((with_reducible refine bG 57 x.cells dx rfl (.tmp 4) (.tmp 27) rfl w.heap.size _ HZ1.out ?_ ?_ ?_ ?_ ?_ ?_);(iterate 5 (·rfl));(intro W2 hW2);(have HY:=aa (show Cs W2 w x.cells∧ax [w.heap.size] w5 W2 by subst hW2;exact⟨Cs.bH x.cells 0 HZ1.out (by simp[It.cells]),ax.sets _ _ (ax.refl _ _) (Or.inl ag)⟩));(clear hW2 x0 x1 x2 x3 x4 x5 x6);(obtain⟨z0,z1,z2,z3,z4,z5,z6⟩:=It.at x HY.out.1))|fail)
 have qN:Hid (TZ q mb th b t x w W2):=aa (by
  refine⟨(Tr.rem It.ahead t.size x t).dz false,A,B,HL.out,HR.out.2,HI.out,?_,om.out.2.2.2,HR.out.1,fun g hg=>by
   rw[Tr.fU] at hg;exact(Tr.Of.rem It.ahead x t.size t).2 g hg,DT.out.trans HY.out.2 (fun g hg=>Or.inr (by simp at hg;omega))⟩
  rw[←HJ.out]
  exact Qb.out.away HY.out.2 (fun g hg f a c hcell=>by simp at hg;subst hg;rw[HZ1.out.aL] at hcell;cases hcell) (fun g hg hm=>by
   simp at hm;subst hm
   have hg':w.heap.size∈foot q mb th t:=by
    simp only[foot,List.mem_cons] at hg⊢
    rcases hg with h1|h1|h1|h1
    ·exact Or.inl h1
    ·exact Or.inr (Or.inl h1)
    ·exact Or.inr (Or.inr (Or.inl h1))
    ·rw[Tr.fU] at h1;exact Or.inr (Or.inr (Or.inr ((Tr.Of.rem It.ahead x t.size t).2 _ h1)))
   exact(Dx.out _ hg').1 rfl))
 refine bodyPost_ret (v:= .tuple #[x.val, .int .i64 0]) (by simp[results,Tryz.results124,go_sem,z0,z1,z2,z3,z4,z5,z6,It.val]) rfl ⟨rfl,qN.out⟩
end


section
open Go.RowKit
set_option maxRecDepth 100000
set_option maxHeartbeats 32000000
variable {m n c base g:Nat} {w:World} {L M:List It}
theorem BK {ops:Array Oper} {rest:List Oper} {op:Oper} {a:Act} {Q:Exit→Act→World→Prop} (T:TypeId) (vs:List Value) (hT:(Tryz.prog.info? T).map (·.size)=some m) (hgd:op.guard=none) (x y:Operand) (ho:op.op= .store T x y)
  (b o:Nat) (ht:w.there b o m) (hn:vs.length=m) (h1:vs.all (·.oneCell')=true) (hx:a.eval x= .pointer (some ⟨b,o,none⟩)) (hy:a.eval y= .agg vs.toArray)
  (h:∀W,W=w.setCells b o vs→wpList Tryz.prog ops Q rest (a.put op.dst undef) W):wpList Tryz.prog ops Q (op::rest) a w:=
 wpList_store_mid hgd T x y ho b o vs.toArray hx hy (by rw[←hn] at ht;simpa using ht) (by rw[hT,←hn];simp) (by simpa using h1) (h _ rfl)
theorem bV.GV {l:List It} (ho:bV w base (some ⟨g,0,none⟩) n c l) (h0:0<n) (j:Nat) (hj:j<n):w.there g (0+j*7) 7:=fun i hi=>by
 have hs:=ho.len;rw[Nat.zero_add];refine⟨?_,?_⟩
 ·have hc:=ho.Ol.2 0 h0;obtain⟨b,off,e,_,hc⟩:=hc;injection e with e;injection e with e1 e2;subst e1 e2;have:=(hc j hj);obtain⟨c0,c1,c2,c3,c4,c5,c6⟩:=this;rw[Nat.zero_add] at c0 c1 c2 c3 c4 c5 c6;match i,hi with
  |0,_=>rw[Nat.add_zero,c0];rfl
  |1,_=>rw[c1];rfl
  |2,_=>rw[c2];rfl
  |3,_=>rw[c3];rfl
  |4,_=>rw[c4];rfl
  |5,_=>rw[c5];rfl
  |6,_=>rw[c6];rfl
 ·rcases ho.2 with⟨hv,_⟩|⟨g',cap,cur,hv,_,hg,_⟩
  ·injection hv with e1;cases e1
  ·injection hv with e1;injection e1 with e1;injection e1 with e1;subst e1;simp[World.frozen?,hg]
theorem I5 (x:It):∀(L:List It) (k:Nat),k<L.length→(((((((L.flatMap It.cells).set (k*7) (.int .u64 x.t)).set (k*7+1) (.int .u32 x.r)).set (k*7+2) (.int .u32 x.v)).set (k*7+3) (.int .i64 x.i)).set (k*7+4) (.int .u64 x.u)).set (k*7+5) (.int .u32 x.s)).set (k*7+6) (.int .u32 x.y)=(L.set k x).flatMap It.cells
 |[],k,h=>absurd h ag
 |a::L,0,_=>by simp[It.cells,List.flatMap_cons]
 |a::L,k+1,h=>by
  have ih:=I5 x L k (by simpa using h);rw[List.set_cons_succ,List.flatMap_cons,List.flatMap_cons,←ih]
  have e:∀(r:List Value) (j:Nat) (v:Value),(a.cells++r).set ((k+1)*7+j) v=a.cells++r.set (k*7+j) v:=fun r j v=>by
   rw[List.set_append_right _ _ (by rw[It.kV];omega),It.kV];congr 2
   omega
  have e0:∀(r:List Value) (v:Value),(a.cells++r).set ((k+1)*7) v=a.cells++r.set (k*7) v:=fun r v=>by simpa using e r 0 v
  rw[e0,e,e,e,e,e,e]
theorem bV.putAt (h:bV w base (some ⟨g,0,none⟩) n c L) {k:Nat} (hk:k<n) (x:It):bV (w.setCells g (k*7) x.cells) base (some ⟨g,0,none⟩) n c (L.set k x):=by
 have hl:=h.len;unfold bV at h⊢
 rw[←I5 x L k af];exact((((((((h.stored (k*7) _).1.stored (k*7+1) _).1.stored (k*7+2) _).1.stored (k*7+3) _).1.stored (k*7+4) _).1.stored (k*7+5) _).1.stored (k*7+6) _).1:_)
theorem bV.Zu {A:Option Addr} (h:bV w base A n c (L++M)) (hm:L.length=m) (h0:0<n):bV w base A m c L:=by
 have hl:=h.len;have Iz:m≤n:=by rw[List.length_append] at hl;omega
 refine⟨by rw[qW,hm],?_⟩;rcases h.2 with⟨_,e⟩|⟨g,cap,cur,hv,hb,hg,hnc,hcm,hcs,ht⟩
 ·omega
 ·injection hv with e1 e2 e3;subst e1 e3;refine .inr ⟨g,c,cur,rfl,hb,hg,by omega,hcm,hcs,?_⟩;have e:m*7=min (m*7) (n*7):=af;rw[e,←List.take_take,ht,List.flatMap_append,List.take_append_of_le_length (by rw[qW,hm];omega),List.take_of_length_le (by rw[qW,hm];omega)]
theorem J5:It.zero.val.cells=It.zero.cells.toArray:=by simp[It.val,Value.cells,It.cells]
theorem J4:(Builtin.zeroCells It.zero.val.cells 1).toList=It.zero.cells:=by
 rw[J5];apply List.ext_getElem?
 intro i;match i with
 |0|1|2|3|4|5|6=>simp[Builtin.zeroCells,It.cells]
 |i+7=>simp[Builtin.zeroCells,It.cells]
theorem Vx (w:World):(zeroValue 57).run Tryz.prog w= .ok It.zero.val w:=by kernel_rfl
theorem Pp (w:World) (b o n c:Nat) (ty:TypeId) (hn:n=1) (ht:w.there b o 7):(Builtin.clear_ #[166] ty #[.slice (some ⟨b,o,none⟩) n c]).run Tryz.prog w= .ok (.tuple #[]) (w.setCells b o It.zero.cells):=by
 subst hn;have hst:=run_storeCells_cells (P:=Tryz.prog) b o It.zero.cells 0 w (fun j hj=>(ht j (by simpa[It.cells] using hj)).1) (fun j hj=>(ht j (by simpa[It.cells] using hj)).2) ak;simp only[Nat.add_zero] at hst;have hz:=J4;simp[Builtin.clear_,run_underlying Tryz.underlying166,Vx,hz,hst]
theorem Queue.Oa (ga:Nat) (a y:It) (w:World) (hk:Cs w ga a.cells):Calls Tryz.prog 131 #[y.val, .pointer (some ⟨ga,0,none⟩)] w (aV (.bool (y.i == a.i)) w):=by
 have hal:=aD w (.cells y 57);have HB0:=aa hal;have yH:=aa (hk.below hal);have HY:Hid (Cs (w.alloc (.cells y 57)) w.heap.size y.cells):=aa (Cs.cu w 57 y);clear hk hal;unfold It.val;go_enter Tryz.func131,Tryz.ntmps131;go_upto_region 1 with fail
 generalize (w.alloc (.cells y 57))=W0 at HB0 yH HY⊢
 obtain⟨a0,a1,a2,a3,a4,a5,a6⟩:=It.at a yH.out;obtain⟨q0,q1,q2,q3,q4,q5,q6⟩:=It.at y HY.out;go_wp2_with fail
 go_ret;exact⟨rfl,HB0.out⟩
theorem TW.WB (ga:Nat) (a:It) (A:Option Addr) (n c:Nat) (L M:List It) (x:It) (hx:x.i=a.i) (hL:∀y∈L,y.i≠a.i) (w:World) (hr:uk w A n (L++x::M)) (hn:n≤1000000) (hk:Cs w ga a.cells):
  Calls Tryz.prog 165 #[.slice A n c,(.func (.func 131) #[] #[ga])] w (aV (.int .i64 L.length) w):=by
 have HR:=aa hr;have yH:=aa hk;have HX:=aa hx;have HL:=aa hL;have kE:Hid (n=L.length+(M.length+1)):=aa (by have:=hr.1;simp at this;omega);have hni:(n:Int)≤1000000:=af;clear hr hk hx hL;go_enter Tryz.func165,Tryz.ntmps165;go_wp2_with fail
 go_loopg [8] n (fun s i wr=>∃k:Nat,i= .int .i64 k∧k≤L.length∧s=n-k∧Below w w wr)
 case atStart=>exact⟨0,rfl,Nat.zero_le _,by omega,Below.refl _ _⟩
 case round=>
  obtain⟨k,rfl,hk,hs,hb⟩:=hrel;have HS:=aa hs;have HKL:=aa hk;have HB:=aa hb;have HA:=aa (yH.out.below hb);clear hs hb;have hkn:k<n:=by have:=kE.out;omega
  obtain⟨bb,off,hA,_,hc⟩:=(HR.out.below HB.out).2 0 af;obtain⟨p0,p1,p2,p3,p4,p5,p6⟩:=hc k hkn
  have HG:Hid (((L++x::M).getD k It.zero).i≠a.i∧k<L.length∨((L++x::M).getD k It.zero).i=a.i∧k=L.length):=aa (by
   rcases Nat.lt_or_ge k L.length with h1|h1
   ·refine Or.inl ⟨?_,h1⟩;have e:(L++x::M).getD k It.zero=L[k]:=by simp[List.getD,List.getElem?_append_left h1,h1]
    rw[e];exact HL.out _ (List.getElem_mem h1)
   ·have e2:k=L.length:=af;refine Or.inr ⟨?_,e2⟩;subst e2;have e:(L++x::M).getD L.length It.zero=x:=by simp[List.getD]
    rw[e];exact HX.out)
  generalize (L++x::M).getD k It.zero=y at *;subst hA;have hki:(k:Int)<n:=af;have hk0:(0:Int)≤k:=af;clear hc hk;go_wp2_with fail
  refine(Queue.Oa ga a y _ HA.out).mono ?_;rintro e w2 ⟨rfl,hb2⟩;have HB2:=aa (ai HB.out hb2);clear hb2 p0 p1 p2 p3 p4 p5 p6;rcases HG.out with⟨h1,h2⟩|⟨h1,h2⟩
  ·have e1:(y.i == a.i)=false:=by simpa using h1
   rw[e1];have HK:=aa h2;clear e1 h1 h2 HG;go_wp2_with fail
   go_roundg (n-(k+1))
   case measure=>have:=HS.out;omega
   case rel=>exact⟨k+1,by go_num,HK.out,rfl,HB2.out⟩
  ·have e1:(y.i == a.i)=true:=by simpa using h1
   rw[e1];have HK:=aa h2;clear e1 h1 h2 HG;go_wp2_with fail
   go_ret;exact⟨by rw[←HK.out]<;>rfl,HB2.out⟩
def xX (w:World) (base ga:Nat) (a:It) (g n c:Nat) (L M:List It) (m:Nat) (wr:World):Prop:=
 ∃z,bV wr base (some ⟨g,0,none⟩) n c (L++M.take m++z::M.drop m)∧Cs wr ga a.cells∧ax [g] w wr
theorem xX.below {w:World} {base ga:Nat} {a:It} {g n c:Nat} {L M:List It} {m:Nat} {w1 w2:World} (h:xX w base ga a g n c L M m w1) (hb:Below w1 w1 w2):xX w base ga a g n c L M m w2:=by
 obtain⟨z,h1,h2,h3⟩:=h;exact⟨z,h1.below hb,h2.below hb,h3.trans (ax.below (F:=[]) hb) ag⟩
theorem Sc (hm:m<M.length) (z:It):(L++M.take m++z::M.drop m).set (L.length+m) (M.getD m It.zero)=L++M.take (m+1)++M.getD m It.zero::M.drop (m+1):=by
 have h1:(L++M.take m).length=L.length+m:=by simp;omega
 rw[←h1,List.set_append_right _ _ ay,Nat.sub_self,List.set_cons_zero,List.drop_eq_getElem_cons hm,List.take_succ_eq_append_getElem hm];have e:M.getD m It.zero=M[m]:=by simp[List.getD,hm]
 rw[e];simp only[List.append_assoc,List.cons_append,List.nil_append]
theorem xX.step {base ga:Nat} {a:It} {w1:World} (h:xX w base ga a g n c L M m w1) (hm:m<M.length) (hg:ga≠g):∀W,W=w1.setCells g ((L.length+m)*7) (M.getD m It.zero).cells→xX w base ga a g n c L M (m+1) W:=fun W e=>by
 obtain⟨z,h1,h2,h3⟩:=h;subst e;have hl:=h1.len;simp at hl;have:=h1.putAt (k:=L.length+m) af (M.getD m It.zero);rw[Sc hm z] at this;exact⟨_,this,h2.qL (Ne.symm hg) _ _,ax.sets _ _ h3 (Or.inl ag)⟩
theorem TW.Li (ga:Nat) (a:It) (base:Nat) (A:Option Addr) (n c:Nat) (L M:List It) (x:It) (hx:x.i=a.i) (hL:∀y∈L,y.i≠a.i) (hM:∀y∈M,y.i≠a.i) (w:World) (ho:bV w base A n c (L++x::M)) (hn:n≤1000000) (hk:Cs w ga a.cells) (hga:ga<base):
  Calls Tryz.prog 130 #[.slice A n c,(.func (.func 131) #[] #[ga])] w (fun e w'=>e= .returned (.slice A (n-1) c)∧bV w' base A (n-1) c (L++M)∧ax (rowOf A) w w'):=by
 have hlen:=ho.len;have kE:Hid (n=L.length+(M.length+1)):=aa (by simp at hlen;omega);have HCAP:=aa ho.cap;obtain⟨g,cap,hv,hge,hlt⟩:=ho.form (by simp at hlen;omega);have hA:A=some ⟨g,0,none⟩:=by injection hv
 clear hv;subst hA;have FU:Hid (ga≠g∧base≤g):=aa ⟨by omega,hge⟩;have HO:=aa ho;have yH:=aa hk;have HX:=aa hx;have HL:=aa hL;have HM:=aa hM;have hni:(n:Int)≤1000000:=af;clear ho hk hx hL hM hlen hga hge hlt;go_enter Tryz.func130,Tryz.ntmps130;go_wp2_with fail
 refine(TW.WB ga a _ n c L M x HX.out HL.out _ HO.out.Ol hn yH.out).mono ?_;rintro e w1 ⟨rfl,hb⟩;have HD0:Hid (xX w base ga a g n c L M 0 w1):=aa ⟨x,by simpa using HO.out.below hb,yH.out.below hb,ax.below hb⟩;clear hb HO yH;have hkl:(L.length:Int)+1≤n:=by have:=kE.out;omega
 have hl1:((L.length:Int) == -1)=false:=by rw[beq_eq_false_iff_ne];omega
 go_wp2_with fail
 go_loopg [5,6] n (fun s i j wr=>∃m ii jj:Nat,i= .int .i64 ii∧j= .int .i64 jj∧ii=L.length+m∧jj=ii+1∧m≤M.length∧s=n-m∧xX w base ga a g n c L M m wr)
 case atStart=>exact⟨0,L.length,L.length+1,rfl,by go_num,rfl,rfl,Nat.zero_le _,by omega,HD0.out⟩
 case round=>
  obtain⟨m,i,j,rfl,rfl,hi,hj,hm,hs,hd⟩:=hrel;have HS:=aa hs;have HD:=aa hd;have zA:=aa hm;clear hs hd;by_cases Iz:m<M.length
  ·obtain⟨z,ho,hk,hch⟩:=HD.out;have hkn:j<n:=by have:=kE.out;omega
   have JP:=aa (And.intro hi hj);have HT:=aa (ho.GV af i af);obtain⟨bb,off,hA,_,hc⟩:=ho.Ol.2 0 af;injection hA with hA;injection hA with e1 e2;subst e1 e2;obtain⟨p0,p1,p2,p3,p4,p5,p6⟩:=hc j hkn
   have hget:(L++M.take m++z::M.drop m).getD j It.zero=M.getD m It.zero:=by
    have h1:(L++M.take m).length=L.length+m:=by simp;omega
    rw[List.getD,List.getElem?_append_right af,h1,show j-(L.length+m)=1 by omega,List.getElem?_cons_succ,List.getElem?_drop,Nat.add_zero,List.getD]
   rw[hget] at p0 p1 p2 p3 p4 p5 p6;simp only[Nat.zero_add] at p0 p1 p2 p3 p4 p5 p6
   have HY:Hid ((M.getD m It.zero).i≠a.i):=aa (by
    have e:M.getD m It.zero=M[m]:=by simp[List.getD,Iz]
    rw[e];exact HM.out _ (List.getElem_mem Iz))
   have HST:=aa (fun w1 (h:xX w base ga a g n c L M m w1)=>by have:=h.step Iz FU.out.1;rw[←hi] at this;exact this);generalize M.getD m It.zero=y at *;have hki:(j:Int)<n:=af;have hk0:(0:Int)≤j:=af;have abg:(i:Int)<n:=af;have hk0':(0:Int)≤i:=af;clear hc ho hget hch hm hi hj;have hal:=aD wr (.cells y 57);have DR:=aa (HD.out.below hal);have X4:Hid (Cs (wr.alloc (.cells y 57)) wr.heap.size y.cells):=aa (Cs.cu wr 57 y);clear hal;go_upto_region 8 with fail
   generalize (wr.alloc (.cells y 57))=W1 at DR X4⊢
   clear p0 p1 p2 p3 p4 p5 p6;obtain⟨x0,x1,x2,x3,x4,x5,x6⟩:=It.at y X4.out;have HKA:Hid (Cs W1 ga a.cells):=aa (by obtain⟨_,_,h,_⟩:=DR.out;exact h);go_wp2_with fail
   refine(Queue.Oa ga a y _ HKA.out).mono ?_;rintro e w2 ⟨rfl,hb⟩;have e1:(y.i == a.i)=false:=by simpa using HY.out
   rw[e1];have HD2:=aa (DR.out.below hb);have aaK:=aa (X4.out.below hb);clear e1 hb x0 x1 x2 x3 x4 x5 x6;obtain⟨x0,x1,x2,x3,x4,x5,x6⟩:=It.at y aaK.out;have HT2:Hid (w2.there g (i*7) 7):=aa (by obtain⟨z,h,_⟩:=HD2.out;have:=h.GV af i af;rwa [Nat.zero_add] at this);go_wp2_with (first|((with_reducible refine BK 57 y.cells dx rfl (.tmp 33) (.tmp 32) rfl g (i*7) HT2.out ?qia ?qib ?qic ?qid ?qie);(case qia=>rfl);(case qib=>rfl);(case qic=>rfl);(case qid=>rfl);(intro W2 hW2);(have HD3:=aa (HST.out _ HD2.out W2 hW2));(clear hW2))|fail)
   go_roundg (n-(m+1))
   case measure=>have:=HS.out;have:=kE.out;omega
   case rel=>exact⟨m+1,i+1,j+1,by go_num,by go_num,by have:=JP.out;omega,by have:=JP.out;omega,by omega,rfl,HD3.out⟩
  ·obtain⟨z,ho,hk,hch⟩:=HD.out;have hmm:m=M.length:=af;have JP:=aa (And.intro hi hj);have hjn:j=n:=by have:=kE.out;omega
   subst hmm;rw[List.take_length,List.drop_length] at ho;have HO:=aa ho;have HC:=aa hch;have HT:Hid (wr.there g (i*7) 7):=aa (by have:=ho.GV af i af;rwa [Nat.zero_add] at this);have hki:¬(j:Int)<n:=af;have hin:(i:Int)<n:=af;have hi0:(0:Int)≤i:=af;clear ho hk hch hm hi hj;have hrun:=Pp wr g (i*7) (n-i) (c-i) 0 (by have:=JP.out;omega) HT.out
   have HOW:Hid (∃W,W=wr.setCells g (i*7) It.zero.cells∧bV W base (some ⟨g,0,none⟩) (n-1) c (L++M)∧ax [g] w W):=aa (by
    have h1:=HO.out.putAt (k:=i) af It.zero
    have h2:(L++M++[z]).set i It.zero=(L++M)++[It.zero]:=by
     have h3:(L++M).length=i:=by have:=JP.out;simp;omega
     rw[←h3,List.set_append_right _ _ ay,Nat.sub_self,List.set_cons_zero]
    rw[h2] at h1;exact⟨_,rfl,h1.Zu (by have:=JP.out;have:=kE.out;simp;omega) af,ax.sets _ _ HC.out (Or.inl ag)⟩)
   obtain⟨W,hW,O5⟩:=HOW.out;have Yp:=aa O5;rw[←hW] at hrun;have HI1:Hid (n-1=i):=aa (by have:=JP.out;omega);have hic:(i:Int)≤c:=by have:=HCAP.out;omega
   have aaq:¬c-i=0:=by have:=HCAP.out;omega
   have abj:((c-i) == 0)=false:=by rw[beq_eq_false_iff_ne];exact aaq
   clear hW O5 HOW;go_wp2_with fail
   clear hrun;go_wp2_with fail
   go_ret;exact⟨by rw[HI1.out]<;>rfl,Yp.out.1,by simpa[rowOf] using Yp.out.2⟩
end


section
open Go.RowKit
set_option maxRecDepth 100000
set_option maxHeartbeats 32000000
def iE (l:List It) (a:It):List It:=l.filter fun y=> !(y.i == a.i)
def jY (b:Int) (l:List It) (a:It):Int:=
 if a.right=false then 2 else if (l.any fun y=>y.i == a.i)=false then 14 else if fD (dZ (dE b (iE l a)) (iE l a) a) (iE l a++[a])=false then 8 else 0
def Jk (b:Int) (l:List It) (a:It):Int:=dE (dZ (dE b (iE l a)) (iE l a) a) (iE l a++[a])
def Jz (q mb th:Nat) (b:Int) (t:Tr It) (a:It) (w:World) (e:Ending) (w':World):Prop:=
 e= .returned (.int .i64 (jY b t.list a))∧((jY b t.list a≠0∧Below w w w')∨(jY b t.list a=0∧∃t',t'.list=jX a (iE t.list a)∧bQ w' q mb th (qM (Jk b t.list a) t'.list) t'∧fZ (Jk b t.list a) t'.list∧Tr.Whole t'∧(∀g∈t'.blocks,g∈t.blocks∨w.heap.size≤g)∧ax (foot q mb th t) w w'))
theorem Ed {L M:List It} {x a:It} (hx:x.i=a.i) (h:∀y∈L++M,y.i≠x.i):iE (L++x::M) a=L++M:=by
 unfold iE;rw[List.filter_append,List.filter_cons];have h1:L.filter (fun y=> !(y.i == a.i))=L:=List.filter_eq_self.2 (fun y hy=>by have:=h y (List.mem_append_left _ hy);simp;rw[←hx];exact this);have h2:M.filter (fun y=> !(y.i == a.i))=M:=List.filter_eq_self.2 (fun y hy=>by have:=h y (List.mem_append_right _ hy);simp;rw[←hx];exact this);rw[h1,h2,if_neg (by simp[hx])]
theorem Queue.Sq (q mb th:Nat) (b:Int) (t:Tr It) (a:It) (hq:fZ b t.list) (ma:Tr.Whole t) (ha:a.In) (hr:a.right=false) (w:World) (h:bQ w q mb th (qM b t.list) t):Calls Tryz.prog 92 #[(.pointer (some ⟨q,0,none⟩)),a.val] w (Jz q mb th b t a w):=by
 have HR:=aa hr;have HJ:Hid (jY b t.list a=2):=aa (by unfold jY;rw[if_pos hr]);clear hr;have hal:=aD w (.cells a 57);have aW:Hid ((bQ (w.alloc (.cells a 57)) q mb th (qM b t.list) t∧Cs (w.alloc (.cells a 57)) w.heap.size a.cells)∧Below w w (w.alloc (.cells a 57))):=aa ⟨⟨h.below hal,Cs.cu w 57 a⟩,hal⟩;have HA:=aa ha;have kZ:=aa h.2.2.1;have zG:Hid (∀g∈foot q mb th t,g<w.heap.size):=aa h.gW;have SI:=aa hq;have Ye:=aa ma;have FT:=aa (And.intro h.2.2.2.1 h.2.2.2.2);generalize qM b t.list=m at *;clear hal h ha hq ma;unfold It.val;go_enter Tryz.func92,Tryz.ntmps92;go_upto_region 1 with fail
 have uw:Hid (w.heap.size<(w.alloc (.cells a 57)).heap.size):=aa ag;generalize (w.alloc (.cells a 57))=W0 at aW uw⊢
 obtain⟨q0,q1,q2,q3,q4,q5,q6⟩:=It.at a aW.out.1.2;go_wp2_with fail
 clear q0 q1 q2 q3 q4 q5 q6;refine(Item.right a _).mono ?_;rw[HR.out];rintro e w1 ⟨rfl,hb⟩;have aP:=aa (And.intro (And.intro (aW.out.1.1.below hb) (aW.out.1.2.below hb)) (ai aW.out.2 hb));have FU:Hid (w.heap.size<w1.heap.size):=aa (Nat.lt_of_lt_of_le uw.out hb.size);clear hb aW;obtain⟨q0,q1,q2,q3,q4,q5,q6⟩:=It.at a aP.out.1.2;go_wp2_with fail
 go_ret;exact⟨by rw[HJ.out]<;>rfl,Or.inl ⟨by rw[HJ.out];decide,aP.out.2⟩⟩
theorem Queue.Pq (q mb th:Nat) (b:Int) (t:Tr It) (a:It) (hq:fZ b t.list) (ma:Tr.Whole t) (ha:a.In) (hr:a.right=true) (hn:∀x∈t.list,x.i≠a.i) (w:World) (h:bQ w q mb th (qM b t.list) t):Calls Tryz.prog 92 #[(.pointer (some ⟨q,0,none⟩)),a.val] w (Jz q mb th b t a w):=by
 have HR:=aa hr;have HN:=aa hn;have HJ:Hid (jY b t.list a=14):=aa (by unfold jY;rw[if_neg (by rw[hr];simp),if_pos (by simpa using hn)]);clear hr hn;have hal:=aD w (.cells a 57);have aW:Hid ((bQ (w.alloc (.cells a 57)) q mb th (qM b t.list) t∧Cs (w.alloc (.cells a 57)) w.heap.size a.cells)∧Below w w (w.alloc (.cells a 57))):=aa ⟨⟨h.below hal,Cs.cu w 57 a⟩,hal⟩;have HA:=aa ha;have kZ:=aa h.2.2.1;have zG:Hid (∀g∈foot q mb th t,g<w.heap.size):=aa h.gW;have SI:=aa hq;have Ye:=aa ma;have FT:=aa (And.intro h.2.2.2.1 h.2.2.2.2);generalize qM b t.list=m at *;clear hal h ha hq ma;unfold It.val;go_enter Tryz.func92,Tryz.ntmps92;go_upto_region 1 with fail
 have uw:Hid (w.heap.size<(w.alloc (.cells a 57)).heap.size):=aa ag;generalize (w.alloc (.cells a 57))=W0 at aW uw⊢
 obtain⟨q0,q1,q2,q3,q4,q5,q6⟩:=It.at a aW.out.1.2;go_wp2_with fail
 clear q0 q1 q2 q3 q4 q5 q6;refine(Item.right a _).mono ?_;rw[HR.out];rintro e w1 ⟨rfl,hb⟩;have aP:=aa (And.intro (And.intro (aW.out.1.1.below hb) (aW.out.1.2.below hb)) (ai aW.out.2 hb));have FU:Hid (w.heap.size<w1.heap.size):=aa (Nat.lt_of_lt_of_le uw.out hb.size);clear hb aW;obtain⟨q0,q1,q2,q3,q4,q5,q6⟩:=It.at a aP.out.1.2;go_wp2_with fail
 refine(Queue.wF q mb th m t a.i HA.out.2.2.2.1 HN.out _ aP.out.1.1).mono ?_;rintro e w2 ⟨rfl,hb⟩;have HB:=aa ((ai aP.out.2 hb).alloc (ai aP.out.2 hb).size (.cells aM 57));clear hb q0 q1 q2 q3 q4 q5 q6;unfold It.val;go_wp2_with fail
 go_ret;exact⟨by rw[HJ.out]<;>rfl,Or.inl ⟨by rw[HJ.out];decide,HB.out⟩⟩
theorem c9E {P:Prop} (h:P:=by
 (first|exact⟨_,by go_simp;(try with_reducible rfl),(Below.refl _ _).alloc ay _,MV.new _,hSw.1.size⟩|exact⟨_,by go_simp;(try with_reducible rfl),(Below.refl _ _).alloc ay _,MV.new _,hSw.1.1.size⟩|exact⟨_,by go_simp;(try with_reducible rfl),(Below.refl _ _).alloc ay _,MV.new _,hSw.1.1.1.size⟩)):P:=h
theorem c9F {P:Prop} (h:P:=by
 exact uj.aN (Queue.with k1 iK.out a HA.out A (t.list.length-1) c (LA++LB) wq W2.heap.size hSw.1.size hSw.2 (by have:=FT.out.2;omega)) (by go_simp) (fun e w' h=>by rw[HW.out] at h;exact⟨(),h.1,trivial,h.2⟩)):P:=h
theorem Queue.Sn (q mb th:Nat) (b:Int) (t:Tr It) (a:It) (hq:fZ b t.list) (ma:Tr.Whole t) (ha:a.In) (hr:a.right=true) (x:It) (hx:x∈t.list) (hxa:x.i=a.i) (kS:fD (dZ (dE b (iE t.list a)) (iE t.list a) a) (iE t.list a++[a])=false) (w:World) (h:bQ w q mb th (qM b t.list) t):Calls Tryz.prog 92 #[(.pointer (some ⟨q,0,none⟩)),a.val] w (Jz q mb th b t a w):=by
 have HR:=aa hr;have HX:=aa hx;have ek:Hid x.In:=aa (hq.fw.Fj x hx);have yB:=aa hxa;obtain⟨LA,LB,hl,hi,hs⟩:=hq.parts hx;have om:=aa (fZ.leave (by rw[hl] at hq;exact hq:fZ b (LA++x::LB)));have mF:=aa hl;have HI:=aa hi;have HHS:=aa hs;have hrest:iE t.list a=LA++LB:=by rw[hl];exact Ed hxa hi
 have YC:Hid (jY b t.list a=if fD (dZ (dE b (LA++LB)) (LA++LB) a) ((LA++LB)++[a])=false then 8 else 0):=aa (by unfold jY;rw[if_neg (by rw[hr];simp),if_neg (by simp;exact⟨x,hx,hxa⟩),hrest]);have Ug:=aa hrest;have HHT:=aa (hq.has hx (t:=t) rfl);have Uf:=aa (ma.rem hs hl ay);have Ng:=aa (ma.pre (lt:=It.ahead) (x:=x) (by intro e;rw[e] at hx;simp[Tr.list] at hx));obtain⟨k1,hk1⟩:∃k1,k1=qM (dE b (LA++LB)) (LA++LB):=⟨_,rfl⟩;have iK:Hid k1.In:=aa (by have:=om.out.2.2.2;rw[hk1];exact zL this.base this.fw.qz this.fw.n32)
 have FV:Hid (∀W2:World,bQ W2 q mb th (qM b t.list) t→∀wq,Below W2 W2 wq→Calls Tryz.prog 132 #[(.pointer (some ⟨q,0,none⟩)),x.val] wq (aV k1.val wq)):=aa (fun W2 hQ wq hb=>by
  have h1:=om.out.1;rw[←hl] at h1;have:=Queue.without q mb th (qM b t.list) t x ek.out (qM b (LA++LB)) om.out.2.1 h1 wq (hQ.below hb);rw[om.out.2.2.1,←hk1] at this;exact this)
 rw[hrest] at kS;have HJ:Hid (jY b t.list a=8):=aa (by rw[YC.out,if_pos kS]);obtain⟨k,hk⟩:∃k,k=Mu.no:=⟨_,rfl⟩;have HW:Hid (jS k1 (LA++LB) a=(false,k)):=aa (by rw[hk,hk1];exact fZ.K3 kS);clear hr hx hxa hl hi hs hrest hk1 kS hk;have hal:=aD w (.cells a 57);have aW:Hid ((bQ (w.alloc (.cells a 57)) q mb th (qM b t.list) t∧Cs (w.alloc (.cells a 57)) w.heap.size a.cells)∧Below w w (w.alloc (.cells a 57))):=aa ⟨⟨h.below hal,Cs.cu w 57 a⟩,hal⟩;have HA:=aa ha;have kZ:=aa h.2.2.1;have zG:Hid (∀g∈foot q mb th t,g<w.heap.size):=aa h.gW;have SI:=aa hq;have Ye:=aa ma;have FT:=aa (And.intro h.2.2.2.1 h.2.2.2.2);generalize qM b t.list=m at *;clear hal h ha hq ma;unfold It.val;go_enter Tryz.func92,Tryz.ntmps92;go_upto_region 1 with fail
 have uw:Hid (w.heap.size<(w.alloc (.cells a 57)).heap.size):=aa ag;generalize (w.alloc (.cells a 57))=W0 at aW uw⊢
 obtain⟨q0,q1,q2,q3,q4,q5,q6⟩:=It.at a aW.out.1.2;go_wp2_with fail
 clear q0 q1 q2 q3 q4 q5 q6;refine(Item.right a _).mono ?_;rw[HR.out];rintro e w1 ⟨rfl,hb⟩;have aP:=aa (And.intro (And.intro (aW.out.1.1.below hb) (aW.out.1.2.below hb)) (ai aW.out.2 hb));have FU:Hid (w.heap.size<w1.heap.size):=aa (Nat.lt_of_lt_of_le uw.out hb.size);clear hb aW;obtain⟨q0,q1,q2,q3,q4,q5,q6⟩:=It.at a aP.out.1.2;go_wp2_with fail
 have IC:=Queue.lI q mb th m t x HX.out _ aP.out.1.1;rw[yB.out] at IC;refine IC.mono ?_;clear IC;rintro e w2 ⟨rfl,hb⟩;have hal:=aD w2 (.cells x 57);have cO:Hid (((bQ (w2.alloc (.cells x 57)) q mb th m t∧Cs (w2.alloc (.cells x 57)) w.heap.size a.cells)∧Cs (w2.alloc (.cells x 57)) w2.heap.size x.cells)∧Below w w (w2.alloc (.cells x 57))):=aa ⟨⟨⟨(aP.out.1.1.below hb).below hal,(aP.out.1.2.below hb).below hal⟩,Cs.cu w2 57 x⟩,ai (ai aP.out.2 hb) hal⟩;have oo:Hid (w.heap.size<w2.heap.size):=aa (Nat.lt_of_lt_of_le FU.out hb.size);clear hb hal aP q0 q1 q2 q3 q4 q5 q6;unfold It.val;go_upto_region 8 with fail
 generalize (w2.alloc (.cells x 57))=W2 at cO⊢
 generalize w2.heap.size=gx at cO oo⊢
 have qf:Hid (gx<W2.heap.size):=aa cO.out.1.2.lt;go_wp2_with fail
 refine(Queue.items q mb th m t _ cO.out.1.1.1).mono ?_;rintro e w3 ⟨A,c,rfl,ho,hb⟩;have JL:=aa (cO.out.1.1.2.below hb);have fJ:Hid (bV w3 W2.heap.size A t.list.length c (LA++x::LB)):=aa (by rw[←mF.out];exact ho);have HB3:=aa hb;clear ho hb;go_wp2_with fail
 refine(TW.Li w.heap.size a W2.heap.size A t.list.length c LA LB x yB.out (fun y hy=>by rw[←yB.out];exact HI.out y (List.mem_append_left _ hy)) (fun y hy=>by rw[←yB.out];exact HI.out y (List.mem_append_right _ hy)) _ fJ.out (by have:=FT.out.2;omega) JL.out (by have:=oo.out;have:=qf.out;omega)).mono ?_;rintro e w4 ⟨rfl,Fu,hc4⟩;have FV:=aa (FV.out W2 cO.out.1.1.1);have LC:Hid (Below W2 W2 w4∧bV w4 W2.heap.size A (t.list.length-1) c (LA++LB)):=aa ⟨Below.aG HB3.out hc4 (fun k hk=>(fJ.out.dX k hk).1),Fu⟩;clear Fu hc4 fJ JL HB3;go_wp2_with fail
 have aB:aF (fun wx=>Below W2 W2 wx):=fun _ _ h hb=>ai h hb;have jL:aF (fun wx=>(fun wx=>Below W2 W2 wx) wx∧bV wx W2.heap.size A (t.list.length-1) c (LA++LB)):=aF.dF aB (fun _ _ h hb=>bV.below h hb);refine wp_region_any ae (iW (S0:=fun wx=>Below W2 W2 wx) (n:=12) _ (fun wx=>(fun wx=>Below W2 W2 wx) wx∧bV wx W2.heap.size A (t.list.length-1) c (LA++LB)) _ _ _ (jL _ _ (LC.out) (Below.refl _ _).drew) ?_);refine aQ (jL) (fun _ h=>h.1) fun g=> ?_;refine tk 0 ?_ g ?_ ?_ (tk 1 ?_ g ?_ ?_ ?_);rotate_left;(·rfl);(·exact ah);rotate_left;(·rfl);(·intro wq hSw;obtain⟨q0,q1,q2,q3,q4,q5,q6⟩:=It.at a (cO.out.1.1.2.below hSw);obtain⟨y0,y1,y2,y3,y4,y5,y6⟩:=It.at x (cO.out.1.2.below hSw);go_simp;try with_reducible rfl);try simp only[av]
 clear g;refine iI 2 (Mu.val k1) (jL) (fun _ h=>h.1) (fun wq hSw=> ?_) ?_
 ·refine dU.aN (FV.out wq hSw) (by go_simp) ?_;rintro e wr ⟨rfl,hb⟩;exact⟨rfl,hb⟩
 try simp only[av]
 refine aQ (jL) (fun _ h=>h.1) fun g=> ?_;refine tk 3 ?_ g ?_ ?_ (tk 4 ?_ g ?_ ?_ ?_);rotate_left;(·rfl);(·exact ah);rotate_left;(·rfl);(·intro wq hSw;obtain⟨q0,q1,q2,q3,q4,q5,q6⟩:=It.at a (cO.out.1.1.2.below hSw);obtain⟨y0,y1,y2,y3,y4,y5,y6⟩:=It.at x (cO.out.1.2.below hSw);go_simp;try with_reducible rfl);try simp only[av]
 clear g;refine uB.fst (j:=9) (dst:=some 8) (T:=fun wx g=>MV wx g bE∧W2.heap.size≤g) ?_;refine uA (k:=5) (rowOf A) (fun wx=>Below W2 W2 wx) _ (fun _:Unit=> .tuple #[Mu.val k, .bool false]) (fun(_:Unit) (_:World)=>True) rfl rfl rfl (Or.inl ae) ae ak ak ak ae (by intro cs b h;cases h) au (fun _=>rfl) (jL) (fun _ h=>h.1) (fun _ _ h hb=>ai h hb) (fun _ h=>h) (fun g=>fun _ _ h hb=>⟨h.1.below hb,h.2⟩) (fun yq=>bZ yq) (fun _ _ h hc=>Below.aG h.1 hc (fun q hq=>(h.2.dX q hq).1)) (fun g _ _ h hT hc=>⟨hT.1.aG h.2 hc,hT.2⟩) (fun aq wq hSw=> ?_) (fun wq hSw=> ?_) (fun yq=> ?_)
 ·exact c9E
 ·exact c9F
 obtain⟨⟩:=yq;skip
 try simp only[av]
 refine gq (k:=6) (v:= ?_) _ rfl rfl rfl ak (aF.dF (fun _ _ h hb=>ai h hb) (bZ ())) (fun _ h=>h.1) (fun g=>fun _ _ h hb=>⟨h.1.below hb,h.2⟩) ae ae ae ae ae ae ae ae (by intro cs b h;cases h) (fun _ _ _ h=>h) (bA.bF (Or.inl ⟨by rfl,?_⟩)) ?_;rotate_left
 ·exact ah
 try simp only[av]
 refine gq (k:=7) (v:= ?_) _ rfl rfl rfl ak (aF.dF (fun _ _ h hb=>ai h hb) (bZ ())) (fun _ h=>h.1) (fun g=>fun _ _ h hb=>⟨h.1.below hb,h.2⟩) ae ae ae ae ae ae ae ae (by intro cs b h;cases h) (fun _ _ _ h=>h) (bA.bF (Or.inl ⟨by rfl,?_⟩)) ?_;rotate_left
 ·exact ah
 try simp only[av]
 refine gq (k:=8) (v:= ?_) _ rfl rfl rfl ak (aF.dF (fun _ _ h hb=>ai h hb) (bZ ())) (fun _ h=>h.1) (fun g=>fun _ _ h hb=>⟨h.1.below hb,h.2⟩) ae ae ae ae ae ae ae ae (by intro cs b h;cases h) (fun _ _ _ h=>h) (bA.bF (Or.inl ⟨by rfl,?_⟩)) ?_;rotate_left
 ·exact ah
 try simp only[av]
 refine tC _ rfl rfl ae ak au (aF.dF (fun _ _ h hb=>ai h hb) (bZ ())) (fun _ h=>h.1) (fun g=>fun _ _ h hb=>⟨h.1.below hb,h.2⟩) (fun wq hSw=> ?_) (fun gA=> ?_)
 ·exact c9E
 try simp only[av]
 refine bB (i:=10) (fun wx=>Below W2 W2 wx∧(Cs wx gA k.cells∧W2.heap.size≤gA)) 79 k.cells bE gA fE (.tmp 8) (.tmp 36) rfl rfl ae ak au ?hz1a ?hz1b ?hz1c ?hz1d ?hz1e (fun _ h=>h.2.1.1) (fun _ h=>⟨aU h.2.2 _ _ h.1.1,Cs.bH k.cells 0 h.2.1.1 (by simp[Mu.cells]),h.2.2⟩) (fun _ h=>h.1) ((fun _ _ h hb=>⟨ai h.1 hb,h.2.1.below hb,h.2.2⟩)) ?hz1f
 case hz1a=>rfl
 case hz1b=>rfl
 case hz1c=>rfl
 case hz1d=>rfl
 case hz1e=>rfl
 try simp only[av]
 refine aQ ((fun _ _ h hb=>⟨ai h.1 hb,h.2.1.below hb,h.2.2⟩)) (fun _ h=>h.1) fun g=> ?_;refine tk 11 ?_ g ?_ ?_ ?_;rotate_left;(·rfl);(·exact ah);try simp only[av]
 clear g;refine aZ ae (fun wz hSz=> ?_) _;have YS:=aa (ai cO.out.2 hSz.1);clear hSz cO;go_wp2_with fail
 go_ret;exact⟨by rw[HJ.out]<;>rfl,Or.inl ⟨by rw[HJ.out];decide,YS.out⟩⟩
theorem Queue.Sr (q mb th:Nat) (b:Int) (t:Tr It) (a:It) (hq:fZ b t.list) (ma:Tr.Whole t) (ha:a.In) (hr:a.right=true) (x:It) (hx:x∈t.list) (hxa:x.i=a.i) (kS:fD (dZ (dE b (iE t.list a)) (iE t.list a) a) (iE t.list a++[a])=true) (w:World) (h:bQ w q mb th (qM b t.list) t):Calls Tryz.prog 92 #[(.pointer (some ⟨q,0,none⟩)),a.val] w (Jz q mb th b t a w):=by
 have HR:=aa hr;have HX:=aa hx;have ek:Hid x.In:=aa (hq.fw.Fj x hx);have yB:=aa hxa;obtain⟨LA,LB,hl,hi,hs⟩:=hq.parts hx;have om:=aa (fZ.leave (by rw[hl] at hq;exact hq:fZ b (LA++x::LB)));have mF:=aa hl;have HI:=aa hi;have HHS:=aa hs;have hrest:iE t.list a=LA++LB:=by rw[hl];exact Ed hxa hi
 have YC:Hid (jY b t.list a=if fD (dZ (dE b (LA++LB)) (LA++LB) a) ((LA++LB)++[a])=false then 8 else 0):=aa (by unfold jY;rw[if_neg (by rw[hr];simp),if_neg (by simp;exact⟨x,hx,hxa⟩),hrest]);have Ug:=aa hrest;have HHT:=aa (hq.has hx (t:=t) rfl);have Uf:=aa (ma.rem hs hl ay);have Ng:=aa (ma.pre (lt:=It.ahead) (x:=x) (by intro e;rw[e] at hx;simp[Tr.list] at hx));obtain⟨k1,hk1⟩:∃k1,k1=qM (dE b (LA++LB)) (LA++LB):=⟨_,rfl⟩;have iK:Hid k1.In:=aa (by have:=om.out.2.2.2;rw[hk1];exact zL this.base this.fw.qz this.fw.n32)
 have FV:Hid (∀W2:World,bQ W2 q mb th (qM b t.list) t→∀wq,Below W2 W2 wq→Calls Tryz.prog 132 #[(.pointer (some ⟨q,0,none⟩)),x.val] wq (aV k1.val wq)):=aa (fun W2 hQ wq hb=>by
  have h1:=om.out.1;rw[←hl] at h1;have:=Queue.without q mb th (qM b t.list) t x ek.out (qM b (LA++LB)) om.out.2.1 h1 wq (hQ.below hb);rw[om.out.2.2.1,←hk1] at this;exact this)
 rw[hrest] at kS;have HJ:Hid (jY b t.list a=0):=aa (by rw[YC.out,if_neg (by rw[kS];simp)])
 have hj:gF (dE b (LA++LB)) (LA++LB) a=0:=by
  have hn:∀y∈LA++LB,y.i≠a.i:=fun y hy=>by rw[←hxa];exact hi y hy
  have h32:(LA++LB).length≠32:=by have:=hq.fw.few;rw[hl] at this;simp at this⊢;omega
  unfold gF
  rw[if_neg (by rw[hr];simp),if_neg (fun h=>by
   simp only[List.any_eq_true,decide_eq_true_eq] at h;obtain⟨y,hy,e⟩:=h;exact hn y hy e),if_neg h32,if_neg (by rw[kS];simp)]
 obtain⟨hw,hqk,htr⟩:=om.out.2.2.2.join ha hj;have HQK:=aa hqk;have Lu:=aa htr;rw[←hk1] at hw;obtain⟨k,hk⟩:∃k,k=qM (dE (dZ (dE b (LA++LB)) (LA++LB) a) ((LA++LB)++[a])) (jX a (LA++LB)):=⟨_,rfl⟩;rw[←hk] at hw;have vg:Hid k.In:=aa (by have:=GJ (l:=LA++LB) iK.out ha;rwa [hw] at this);have HW:=aa hw;have Qg:=aa hk;have FW:Hid (Jk b t.list a=dE (dZ (dE b (LA++LB)) (LA++LB) a) ((LA++LB)++[a])):=aa (by unfold Jk;rw[hrest]);clear hr hx hxa hl hi hs hrest hk1 kS hk hj hw hqk htr;have hal:=aD w (.cells a 57);have aW:Hid ((bQ (w.alloc (.cells a 57)) q mb th (qM b t.list) t∧Cs (w.alloc (.cells a 57)) w.heap.size a.cells)∧Below w w (w.alloc (.cells a 57))):=aa ⟨⟨h.below hal,Cs.cu w 57 a⟩,hal⟩;have HA:=aa ha;have kZ:=aa h.2.2.1;have zG:Hid (∀g∈foot q mb th t,g<w.heap.size):=aa h.gW;have SI:=aa hq;have Ye:=aa ma;have FT:=aa (And.intro h.2.2.2.1 h.2.2.2.2);generalize qM b t.list=m at *;clear hal h ha hq ma;unfold It.val;go_enter Tryz.func92,Tryz.ntmps92;go_upto_region 1 with fail
 have uw:Hid (w.heap.size<(w.alloc (.cells a 57)).heap.size):=aa ag;generalize (w.alloc (.cells a 57))=W0 at aW uw⊢
 obtain⟨q0,q1,q2,q3,q4,q5,q6⟩:=It.at a aW.out.1.2;go_wp2_with fail
 clear q0 q1 q2 q3 q4 q5 q6;refine(Item.right a _).mono ?_;rw[HR.out];rintro e w1 ⟨rfl,hb⟩;have aP:=aa (And.intro (And.intro (aW.out.1.1.below hb) (aW.out.1.2.below hb)) (ai aW.out.2 hb));have FU:Hid (w.heap.size<w1.heap.size):=aa (Nat.lt_of_lt_of_le uw.out hb.size);clear hb aW;obtain⟨q0,q1,q2,q3,q4,q5,q6⟩:=It.at a aP.out.1.2;go_wp2_with fail
 have IC:=Queue.lI q mb th m t x HX.out _ aP.out.1.1;rw[yB.out] at IC;refine IC.mono ?_;clear IC;rintro e w2 ⟨rfl,hb⟩;have hal:=aD w2 (.cells x 57);have cO:Hid (((bQ (w2.alloc (.cells x 57)) q mb th m t∧Cs (w2.alloc (.cells x 57)) w.heap.size a.cells)∧Cs (w2.alloc (.cells x 57)) w2.heap.size x.cells)∧Below w w (w2.alloc (.cells x 57))):=aa ⟨⟨⟨(aP.out.1.1.below hb).below hal,(aP.out.1.2.below hb).below hal⟩,Cs.cu w2 57 x⟩,ai (ai aP.out.2 hb) hal⟩;have oo:Hid (w.heap.size<w2.heap.size):=aa (Nat.lt_of_lt_of_le FU.out hb.size);clear hb hal aP q0 q1 q2 q3 q4 q5 q6;unfold It.val;go_upto_region 8 with fail
 generalize (w2.alloc (.cells x 57))=W2 at cO⊢
 generalize w2.heap.size=gx at cO oo⊢
 have qf:Hid (gx<W2.heap.size):=aa cO.out.1.2.lt;go_wp2_with fail
 refine(Queue.items q mb th m t _ cO.out.1.1.1).mono ?_;rintro e w3 ⟨A,c,rfl,ho,hb⟩;have JL:=aa (cO.out.1.1.2.below hb);have fJ:Hid (bV w3 W2.heap.size A t.list.length c (LA++x::LB)):=aa (by rw[←mF.out];exact ho);have HB3:=aa hb;clear ho hb;go_wp2_with fail
 refine(TW.Li w.heap.size a W2.heap.size A t.list.length c LA LB x yB.out (fun y hy=>by rw[←yB.out];exact HI.out y (List.mem_append_left _ hy)) (fun y hy=>by rw[←yB.out];exact HI.out y (List.mem_append_right _ hy)) _ fJ.out (by have:=FT.out.2;omega) JL.out (by have:=oo.out;have:=qf.out;omega)).mono ?_;rintro e w4 ⟨rfl,Fu,hc4⟩;have FV:=aa (FV.out W2 cO.out.1.1.1);have LC:Hid (Below W2 W2 w4∧bV w4 W2.heap.size A (t.list.length-1) c (LA++LB)):=aa ⟨Below.aG HB3.out hc4 (fun k hk=>(fJ.out.dX k hk).1),Fu⟩;clear Fu hc4 fJ JL HB3;go_wp2_with fail
 have aB:aF (fun wx=>Below W2 W2 wx):=fun _ _ h hb=>ai h hb;have jL:aF (fun wx=>(fun wx=>Below W2 W2 wx) wx∧bV wx W2.heap.size A (t.list.length-1) c (LA++LB)):=aF.dF aB (fun _ _ h hb=>bV.below h hb);refine wp_region_any ae (iW (S0:=fun wx=>Below W2 W2 wx) (n:=12) _ (fun wx=>(fun wx=>Below W2 W2 wx) wx∧bV wx W2.heap.size A (t.list.length-1) c (LA++LB)) _ _ _ (jL _ _ (LC.out) (Below.refl _ _).drew) ?_);refine aQ (jL) (fun _ h=>h.1) fun g=> ?_;refine tk 0 ?_ g ?_ ?_ (tk 1 ?_ g ?_ ?_ ?_);rotate_left;(·rfl);(·exact ah);rotate_left;(·rfl);(·intro wq hSw;obtain⟨q0,q1,q2,q3,q4,q5,q6⟩:=It.at a (cO.out.1.1.2.below hSw);obtain⟨y0,y1,y2,y3,y4,y5,y6⟩:=It.at x (cO.out.1.2.below hSw);go_simp;try with_reducible rfl);try simp only[av]
 clear g;refine iI 2 (Mu.val k1) (jL) (fun _ h=>h.1) (fun wq hSw=> ?_) ?_
 ·refine dU.aN (FV.out wq hSw) (by go_simp) ?_;rintro e wr ⟨rfl,hb⟩;exact⟨rfl,hb⟩
 try simp only[av]
 refine aQ (jL) (fun _ h=>h.1) fun g=> ?_;refine tk 3 ?_ g ?_ ?_ (tk 4 ?_ g ?_ ?_ ?_);rotate_left;(·rfl);(·exact ah);rotate_left;(·rfl);(·intro wq hSw;obtain⟨q0,q1,q2,q3,q4,q5,q6⟩:=It.at a (cO.out.1.1.2.below hSw);obtain⟨y0,y1,y2,y3,y4,y5,y6⟩:=It.at x (cO.out.1.2.below hSw);go_simp;try with_reducible rfl);try simp only[av]
 clear g;refine uB.fst (j:=9) (dst:=some 8) (T:=fun wx g=>MV wx g bE∧W2.heap.size≤g) ?_;refine uA (k:=5) (rowOf A) (fun wx=>Below W2 W2 wx) _ (fun _:Unit=> .tuple #[Mu.val k, .bool true]) (fun(_:Unit) (_:World)=>True) rfl rfl rfl (Or.inl ae) ae ak ak ak ae (by intro cs b h;cases h) au (fun _=>rfl) (jL) (fun _ h=>h.1) (fun _ _ h hb=>ai h hb) (fun _ h=>h) (fun g=>fun _ _ h hb=>⟨h.1.below hb,h.2⟩) (fun yq=>bZ yq) (fun _ _ h hc=>Below.aG h.1 hc (fun q hq=>(h.2.dX q hq).1)) (fun g _ _ h hT hc=>⟨hT.1.aG h.2 hc,hT.2⟩) (fun aq wq hSw=> ?_) (fun wq hSw=> ?_) (fun yq=> ?_)
 ·exact c9E
 ·exact c9F
 obtain⟨⟩:=yq;skip
 try simp only[av]
 refine gq (k:=6) (v:= ?_) _ rfl rfl rfl ak (aF.dF (fun _ _ h hb=>ai h hb) (bZ ())) (fun _ h=>h.1) (fun g=>fun _ _ h hb=>⟨h.1.below hb,h.2⟩) ae ae ae ae ae ae ae ae (by intro cs b h;cases h) (fun _ _ _ h=>h) (bA.bF (Or.inl ⟨by rfl,?_⟩)) ?_;rotate_left
 ·exact ah
 try simp only[av]
 refine gq (k:=7) (v:= ?_) _ rfl rfl rfl ak (aF.dF (fun _ _ h hb=>ai h hb) (bZ ())) (fun _ h=>h.1) (fun g=>fun _ _ h hb=>⟨h.1.below hb,h.2⟩) ae ae ae ae ae ae ae ae (by intro cs b h;cases h) (fun _ _ _ h=>h) (bA.bF (Or.inl ⟨by rfl,?_⟩)) ?_;rotate_left
 ·exact ah
 try simp only[av]
 refine gq (k:=8) (v:= ?_) _ rfl rfl rfl ak (aF.dF (fun _ _ h hb=>ai h hb) (bZ ())) (fun _ h=>h.1) (fun g=>fun _ _ h hb=>⟨h.1.below hb,h.2⟩) ae ae ae ae ae ae ae ae (by intro cs b h;cases h) (fun _ _ _ h=>h) (bA.bF (Or.inl ⟨by rfl,?_⟩)) ?_;rotate_left
 ·exact ah
 try simp only[av]
 refine tC _ rfl rfl ae ak au (aF.dF (fun _ _ h hb=>ai h hb) (bZ ())) (fun _ h=>h.1) (fun g=>fun _ _ h hb=>⟨h.1.below hb,h.2⟩) (fun wq hSw=> ?_) (fun gA=> ?_)
 ·exact c9E
 try simp only[av]
 refine bB (i:=10) (fun wx=>Below W2 W2 wx∧(Cs wx gA k.cells∧W2.heap.size≤gA)) 79 k.cells bE gA fE (.tmp 8) (.tmp 36) rfl rfl ae ak au ?hz1a ?hz1b ?hz1c ?hz1d ?hz1e (fun _ h=>h.2.1.1) (fun _ h=>⟨aU h.2.2 _ _ h.1.1,Cs.bH k.cells 0 h.2.1.1 (by simp[Mu.cells]),h.2.2⟩) (fun _ h=>h.1) ((fun _ _ h hb=>⟨ai h.1 hb,h.2.1.below hb,h.2.2⟩)) ?hz1f
 case hz1a=>rfl
 case hz1b=>rfl
 case hz1c=>rfl
 case hz1d=>rfl
 case hz1e=>rfl
 try simp only[av]
 refine aQ ((fun _ _ h hb=>⟨ai h.1 hb,h.2.1.below hb,h.2.2⟩)) (fun _ h=>h.1) fun g=> ?_;refine tk 11 ?_ g ?_ ?_ ?_;rotate_left;(·rfl);(·exact ah);try simp only[av]
 clear g;refine aZ ae (fun wz hSz=> ?_) _;have iA:=aa (And.intro (And.intro (cO.out.1.1.1.below hSz.1) (cO.out.1.1.2.below hSz.1)) (ai cO.out.2 hSz.1));have o8:=aa (cO.out.1.2.below hSz.1);have rJ:=aa hSz.2.1;have HGB:Hid (W2.heap.size≤gA):=aa hSz.2.2;clear hSz cO LC FV;have Dx:Hid (∀j',j'∈foot q mb th t→j'≠w.heap.size∧j'≠gx∧j'≠gA):=aa (fun j' hj'=>by have h1:=zG.out j' hj';have h2:=oo.out;have h3:=qf.out;have h4:=HGB.out;exact⟨by omega,by omega,by omega⟩);obtain⟨q0,q1,q2,q3,q4,q5,q6⟩:=It.at x o8.out;go_wp2_with fail
 clear q0 q1 q2 q3 q4 q5 q6;refine(Queue.drop q mb th m t x ek.out LA LB mF.out HI.out HHT.out Ng.out HHS.out (by have:=Uf.out.2;rwa [Tr.iX] at this) _ iA.out.1.1).mono ?_;rintro e w5 ⟨rfl,OY,uO⟩;have hA5:=iA.out.1.2.aG uO (fun hg=>(Dx.out _ hg).1 rfl);have LD:=aa (rJ.out.aG uO (fun hg=>(Dx.out _ hg).2.2 rfl));have HA5:=aa hA5;have Qb:=aa OY;have DT:Hid (ax (foot q mb th t) w w5):=aa ((ax.below (F:=foot q mb th t) iA.out.2).trans uO (fun g hg=>Or.inl hg));have Yg:Hid (w.heap.size≤w5.heap.size∧gA<w5.heap.size):=aa ⟨DT.out.size,LD.out.lt⟩;clear hA5 OY uO iA o8 rJ;obtain⟨t',ht'⟩:∃t',t'=(Tr.rem It.ahead t.size x t).dz false:=⟨_,rfl⟩;rw[←ht'] at Qb;have Dy:Hid (t'.list=LA++LB∧Tr.Whole t'∧∀g∈t'.blocks,g∈t.blocks):=aa (by rw[ht'];exact⟨Uf.out.2,Uf.out.1,fun g hg=>by rw[Tr.fU] at hg;exact(Tr.Of.rem It.ahead x t.size t).2 g hg⟩);clear ht'
 have YI:Hid (∀g,g∈foot q mb th t'→g∈foot q mb th t):=aa (fun g hg=>by
  simp only[foot,List.mem_cons] at hg⊢
  rcases hg with h1|h1|h1|h1
  ·exact Or.inl h1
  ·exact Or.inr (Or.inl h1)
  ·exact Or.inr (Or.inr (Or.inl h1))
  ·exact Or.inr (Or.inr (Or.inr (Dy.out.2.2 g h1))))
 obtain⟨q0,q1,q2,q3,q4,q5,q6⟩:=It.at a HA5.out;go_wp2_with fail
 clear q0 q1 q2 q3 q4 q5 q6;refine(Queue.put q mb th m t' a HA.out (by rw[Dy.out.1];exact fun y hy=>by rw[←yB.out];exact HI.out y hy) (Lu.out t' Dy.out.1).1 (by rw[Dy.out.1];exact(Lu.out t' Dy.out.1).2) (by rw[Dy.out.1];have:=FT.out.2;rw[mF.out] at this;simp at this⊢;omega) _ Qb.out).mono ?_;rintro e w6 ⟨rfl,kk,hkk,OX,hcc⟩;have Qh:=aa (LD.out.aG hcc (fun hg=>(Dx.out _ (YI.out _ hg)).2.2 rfl));have HQ6:=aa OX;have Qp:Hid (ax (foot q mb th t) w w6):=aa (DT.out.trans hcc (fun g hg=>Or.inl (YI.out g hg)));have HKK:Hid (w.heap.size≤kk):=aa (Nat.le_trans Yg.out.1 hkk);clear hkk OX hcc HA5 Qb LD DT;have Yn:Hid (((Tr.put It.ahead kk a t').dz false).list=jX a (LA++LB)):=aa (by rw[Tr.iX];exact(Lu.out t' Dy.out.1).2 kk);have zw:Hid (Tr.Whole ((Tr.put It.ahead kk a t').dz false)):=aa (Dy.out.2.1.put It.ahead kk a)
 have Uh:Hid (∀g∈((Tr.put It.ahead kk a t').dz false).blocks,g∈t.blocks∨w.heap.size≤g):=aa (fun g hg=>by
  rw[Tr.fU] at hg;rcases List.mem_cons.1 ((Tr.iM It.ahead kk a t').mem_iff.1 hg) with rfl|h1
  ·exact Or.inr HKK.out
  ·exact Or.inl (Dy.out.2.2 g h1))
 generalize (Tr.put It.ahead kk a t').dz false=t2 at *;obtain⟨m0,m1,m2,m3,m4⟩:=Mu.at k Qh.out;have Qn:=aa HQ6.out.1.1;go_wp2_with (first|((with_reducible refine qD 79 k.cells fE rfl (.tmp 49) (.tmp 47) rfl q _ Qn.out ?hz2a ?hz2b ?hz2c ?hz2d ?hz2e ?hz2f);(case hz2a=>rfl);(case hz2b=>exact(show 5≤7 by decide));(case hz2c=>rfl);(case hz2d=>rfl);(case hz2e=>rfl);(intro W3 hW3);(have HQ7:=aa (HQ6.out.mean vg.out hW3));(clear hW3 m0 m1 m2 m3 m4))|fail)
 go_ret;refine⟨by rw[HJ.out]<;>rfl,Or.inr ⟨HJ.out,t2,by rw[Yn.out,Ug.out],?_,?_,zw.out,Uh.out,Qp.out.trans HQ7.out.2 (fun g hg=>Or.inl (by simp at hg;subst hg;simp[foot]))⟩⟩
 ·rw[Yn.out,FW.out,←Qg.out];exact HQ7.out.1
 ·rw[Yn.out,FW.out];exact HQK.out
theorem Queue.change (q mb th:Nat) (b:Int) (t:Tr It) (a:It) (hq:fZ b t.list) (ma:Tr.Whole t) (ha:a.In) (w:World) (h:bQ w q mb th (qM b t.list) t):Calls Tryz.prog 92 #[(.pointer (some ⟨q,0,none⟩)),a.val] w (Jz q mb th b t a w):=by
 cases hr:a.right with
 |false=>exact Queue.Sq q mb th b t a hq ma ha hr w h
 |true=>
  by_cases hn:∃x∈t.list,x.i=a.i
  ·obtain⟨x,hx,hxa⟩:=hn;cases kS:fD (dZ (dE b (iE t.list a)) (iE t.list a) a) (iE t.list a++[a]) with
   |false=>exact Queue.Sn q mb th b t a hq ma ha hr x hx hxa kS w h
   |true=>exact Queue.Sr q mb th b t a hq ma ha hr x hx hxa kS w h
  ·exact Queue.Pq q mb th b t a hq ma ha hr (fun x hx e=>hn ⟨x,hx,e⟩) w h
end


section
open Go.RowKit
set_option maxRecDepth 100000
set_option maxHeartbeats 32000000
section
attribute [local go_sem] Zt
theorem c3c {P:Prop} (h:P:=by
 intro wq hSw;have bz:Below _ _ _:=hSw;have q1:=aS bz Yk.out;obtain⟨p0,p1,p2,p3,p4,p5,p6⟩:=It.at _ (Nh.out.2.1.below bz);obtain⟨m0,m1,m2,m3,m4,m5,m6⟩:=Yl.out.below bz;go_simp;try with_reducible rfl):P:=h
theorem Dt.Zm (th:Nat) (k0:Nat) (t:Tr It) (p:It→Bool) (w:World) (h:cZ w th t)
  (hin:∀(y:It) (w':World),y∈t.list→y.In→Below w w w'→Calls Tryz.prog 155 #[y.val, .pointer (some ⟨k0,0,none⟩)] w' (aV (.bool (p y)) w')):
  Calls Tryz.prog 178 #[th,(.func (.func 155) #[] #[k0])] w (aV (.tuple #[It.val (gN p t (false,It.zero)).2, .bool (gN p t (false,It.zero)).1]) w):=by
 have HT:=aa h;have JO:=aa hin;have Ni:Hid (Fv w It.zero ((w.alloc (.cells aM 57)).alloc (.cells aM 57))):=aa ⟨⟨It.zero,(Cs.cu w 57 It.zero).alloc _⟩,by have:=Cs.cu (w.alloc (.cells aM 57)) 57 It.zero;simp only[World.size_alloc] at this;exact this,(aD w (.cells aM 57)).alloc ag (.cells aM 57)⟩;obtain⟨b1,b2,t0,t1,t2,_⟩:=HT.out.1;have HE:=aa (And.intro t0 (And.intro t1 t2));have e3:=aS Ni.out.2.2 t0.at3;clear t0 t1 t2 h hin;go_enter Tryz.func178,Tryz.ntmps178;go_wp2_with fail
 generalize ((w.alloc (.cells aM 57)).alloc (.cells aM 57))=W0 at e3 Ni⊢
 go_loopg [7,8] t.size (fun s b u wr=>∃(sm:Bool) (acc:It) (v:Tr It),b= .bool sm∧u=ptr v∧s=v.size∧gN p v (sm,acc)=gN p t (false,It.zero)∧acc.In∧bM w v∧(∀y∈v.list,y∈t.list)∧Fv w acc wr)
 case atStart=>exact⟨false,It.zero,t,rfl,rfl,rfl,rfl,It.nz,HT.out.2.1,fun y hy=>hy,Ni.out⟩
 case round=>
  obtain⟨sm,acc,v,rfl,rfl,hs,hf,ha,hi,hm,hv⟩:=hrel;have HS:=aa hs;have HF:=aa hf;have HI:=aa hi;have HM:=aa hm;have zF:=aa hv;have YU:=aa ha;have HC:=aa (And.intro (HE.out.1.below hv.2.2) (And.intro (HE.out.2.1.below hv.2.2) (HE.out.2.2.below hv.2.2)));have e1:=HC.out.1.fH;have e2:=HC.out.1.at2;clear hs hf hi hm hv ha Ni;cases v with
  |nil=>
   simp only[kP];clear e1 e2;have HF':Hid (gN p t (false,It.zero)=(sm,acc)):=aa (by rw[←HF.out];rfl);obtain⟨p0,p1,p2,p3,p4,p5,p6⟩:=It.at _ zF.out.2.1;have hth:=tJ zF.out.1;have wY:=aa (rF ay zF.out.1 zF.out.2.2 acc);go_wp2_with ((with_reducible refine dC 57 dx rfl (.tmp 4) (.tmp 53) rfl w.heap.size 0 acc hth ?a1 ?a2 ?a3);(case a1=>rfl);(case a2=>rfl);(intro W2 hW2);(have HW:=aa (wY.out W2 hW2));(clear hW2 hth p0 p1 p2 p3 p4 p5 p6);(obtain⟨z0,z1,z2,z3,z4,z5,z6⟩:=HW.out.1))
   refine bodyPost_ret (v:= .tuple #[It.val acc, .bool sm]) (by simp[results,Tryz.results178,go_sem,z0,z1,z2,z3,z4,z5,z6]) rfl ⟨by rw[HF'.out],HW.out.2⟩
  |node g cc l x r=>
   have HI2:=aa (HI.out.below zF.out.2.2);obtain⟨⟨v',hv',hc⟩,hl,_⟩:=HI2.out;have ek:=aa hv'.2.2;have JV:=aa (Jp hl hv'.2.2);obtain⟨⟨vw,hvw,hcw⟩,_⟩:=HI.out;have YQ:=aa hcw.fG;obtain⟨p0,p1,p2,p3,p4,p5,p6⟩:=hc.th;have c2:=hc.eO;clear hc hv' hl hvw hcw;simp only[aX];go_wp2_with fail
   refine(JO.out x _ (HM.out x (by simp[Tr.list])) ek.out zF.out.2.2).mono ?_;rintro e w1 ⟨rfl,hb1⟩;have HB1:=aa hb1;have e2:=aS hb1 e2;have c2:=aS hb1 c2;clear hb1 p0 p1 p2 p3 p4 p5 p6 e1;cases hx:p x with
   |false=>
    have HX:=aa hx;clear hx e2;go_wp2_with fail
    go_roundg l.size
    case measure=>have:=HS.out;simp only[Tr.size] at this;omega
    case rel=>exact⟨sm,acc,l,rfl,rfl,rfl,by rw[←HF.out,gN,if_neg (by rw[HX.out];simp)],YU.out,HI.out.2.1,fun y hy=>HM.out y (by simp[Tr.list,hy]),zF.out.below HB1.out⟩
   |true=>
    have HX:=aa hx;clear hx c2;go_wp2_with fail
    refine(Dt.upTo g b1 b2 cc l r x _ (HI2.out.st.below HB1.out) (HC.out.2.1.below HB1.out) (HC.out.2.2.below HB1.out)).mono ?_;rintro e w2' ⟨rfl,hb2⟩;have hb3:=(ai HB1.out hb2).alloc (ai HB1.out hb2).size (.cells (dA l x) 57);have HB3:=aa hb3;have JF:Hid (Cs (w2'.alloc (.cells (dA l x) 57)) w2'.heap.size (dA l x).cells):=aa (Cs.cu _ _ _);have HBP:Hid (w.heap.size+1<w2'.heap.size):=aa (Nat.lt_of_lt_of_le zF.out.2.1.lt7 (ai HB1.out hb2).size);clear hb2 hb3 e2;have Yu:Hid (∀k,k=(if sm then sooner acc (dA l x) else dA l x)→gN p r (true,k)=gN p t (false,It.zero)):=aa (fun k hk=>by rw[←HF.out,gN,if_pos HX.out,hk]);cases sm with
    |false=>
     have hth:=(zF.out.below HB3.out).2.1.vN;have HST:=aa ((zF.out.below HB3.out).store (dA l x));go_wp2_with ((with_reducible refine dC 57 dx rfl (.tmp 6) (.tmp 48) rfl (w.heap.size+1) 0 (dA l x) hth ?b1 ?b2 ?b3);(case b1=>rfl);(case b2=>rfl);(intro W2 hW2);(have HW:=aa (HST.out W2 hW2));(clear hW2 hth);(have q3:=aS HW.out.2.2 YQ.out))
     go_roundg r.size
     case measure=>have:=HS.out;simp only[Tr.size] at this;omega
     case rel=>exact⟨true,dA l x,r,rfl,rfl,rfl,Yu.out _ rfl,JV.out,HI.out.2.2,fun y hy=>HM.out y (by simp[Tr.list,hy]),HW.out⟩
    |true=>
     go_wp2_with fail
     generalize hbp:w2'.heap.size=bp at JF HBP⊢
     generalize (w2'.alloc (.cells (dA l x) 57))=w2 at HB3 JF⊢
     clear hbp;have Yk:=aa (aS HB3.out HC.out.1.fH);have Nh:=aa (zF.out.below HB3.out);have Yl:=aa JF.out.nW;refine eB (S:=Bl w2) 7 ae (Bl.drew w2) ?_;refine tU 0 (v:= ?_) rfl ae (fun _ _ _ h=>h) au ?_ ?_;rotate_left
     ·exact ah
     try simp only[av]
     refine tU 1 (v:= ?_) rfl ae (fun _ _ _ h=>h) au ?_ ?_;rotate_left
     ·exact ah
     try simp only[av]
     refine tU 2 (v:= ?_) rfl ae (fun _ _ _ h=>h) au ?_ ?_;rotate_left
     ·exact ah
     try simp only[av]
     refine tU 3 (v:= ?_) rfl ae (fun _ _ _ h=>h) au ?_ ?_;rotate_left
     ·exact c3c
     try simp only[av]
     refine tU 4 (v:= ?_) rfl ae (fun _ _ _ h=>h) au ?_ ?_;rotate_left
     ·exact c3c
     try simp only[av]
     refine tU 5 (v:= ?_) rfl ae (fun _ _ _ h=>h) au ?_ ?_;rotate_left
     ·exact c3c
     try simp only[av]
     refine lX (i:=6) (v:=It.val (sooner acc (dA l x))) rfl ae ae ae ae (fun _ _ _ h=>h) (Or.inl ⟨by rfl,fun wq hSw=> ?_⟩) ?_
     ·refine jk.aN (oD.join acc (dA l x) YU.out JV.out wq) (by go_simp) ?_;rintro e wr ⟨rfl,hb⟩;exact⟨rfl,hSw.on hb⟩
     try simp only[av]
     refine qQ rfl rfl ae (fun wz hSz=> ?_);have WG:=(JF.out.below hSz).vN;have aaV:Hid (∀W,W=wz.setCells bp 0 (sooner acc (dA l x)).cells→Cs W bp (sooner acc (dA l x)).cells∧Fv w acc W):=aa (fun W e=>by rw[e];exact⟨(JF.out.below hSz).stored _,(Nh.out.below hSz).other HBP.out _⟩);clear hSz;go_wp2_with (first|((with_reducible refine dC 57 dx rfl (.tmp 9) (.tmp 47) rfl bp 0 (sooner acc (dA l x)) WG ?c1 ?c2 ?c3);(case c1=>rfl);(case c2=>rfl);(intro W2 hW2);(have HW:=aa (aaV.out W2 hW2));(clear hW2 WG);(obtain⟨p0,p1,p2,p3,p4,p5,p6⟩:=It.at _ HW.out.1);(have hth:=HW.out.2.2.1.vN);(have HST:=aa (HW.out.2.store (sooner acc (dA l x)))))|(with_reducible refine dC 57 dx rfl (.tmp 6) (.tmp 48) rfl (w.heap.size+1) 0 (sooner acc (dA l x)) hth ?d1 ?d2 ?d3);(case d1=>rfl);(case d2=>rfl);(intro W3 hW3);(have HY:=aa (HST.out W3 hW3));(clear hW3 hth p0 p1 p2 p3 p4 p5 p6);(have q3:=aS HY.out.2.2 YQ.out))
     go_roundg r.size
     case measure=>have:=HS.out;simp only[Tr.size] at this;omega
     case rel=>exact⟨true,sooner acc (dA l x),r,rfl,rfl,rfl,Yu.out _ rfl,uD YU.out JV.out,HI.out.2.2,fun y hy=>HM.out y (by simp[Tr.list,hy]),HY.out⟩
end
theorem oD.QN (th:Nat) (k0:Nat) (t:Tr It) (p:It→Bool) (w:World) (h:cZ w th t)
  (hin:∀(y:It) (w':World),y∈t.list→y.In→Below w w w'→Calls Tryz.prog 155 #[y.val, .pointer (some ⟨k0,0,none⟩)] w' (aV (.bool (p y)) w')):
  Calls Tryz.prog 154 #[.agg #[th],(.func (.func 155) #[] #[k0])] w (aV (.tuple #[It.val (gN p t (false,It.zero)).2, .bool (gN p t (false,It.zero)).1]) w):=by
 have hb0:=(aD w (.cells #[th] 83)).alloc ag (.cells aM 57);have HT:=aa (h.below hb0);have HB0:=aa hb0;have JO:=aa hin;have HZ:Hid (Cs ((w.alloc (.cells #[th] 83)).alloc (.cells aM 57)) (w.heap.size+1) It.zero.cells):=aa (by have:=Cs.cu (w.alloc (.cells #[th] 83)) 57 It.zero;simp only[World.size_alloc] at this;exact this);clear h hin hb0;go_enter Tryz.func154,Tryz.ntmps154;go_wp2_with fail
 refine(Dt.Zm th k0 t p _ HT.out (fun y w' hy hyi hb=>JO.out y w' hy hyi (ai HB0.out hb))).mono ?_;rintro e w1 ⟨rfl,hb⟩;have HZ2:Hid (∃z:It,Cs w1 (w.heap.size+1) z.cells):=aa ⟨It.zero,HZ.out.below hb⟩;obtain⟨sm,acc,hq⟩:∃sm acc,gN p t (false,It.zero)=(sm,acc):=⟨_,_,rfl⟩;have HQ:=aa hq;rw[hq];have wY:=aa (rF (b:=w.heap.size+1) af HZ2.out (ai HB0.out hb) acc);have hth:=tJ HZ2.out;clear hb hq;go_wp2_with ((with_reducible refine dC 57 dx rfl (.tmp 4) (.tmp 10) rfl (w.heap.size+1) 0 acc hth ?s1 ?s2 ?s3);(case s1=>rfl);(case s2=>rfl);(intro W2 hW2);(have HW:=aa (wY.out W2 hW2));(clear hW2 hth);(obtain⟨z0,z1,z2,z3,z4,z5,z6⟩:=HW.out.1))
 refine bodyPost_ret (v:= .tuple #[It.val acc, .bool sm]) (by simp[results,Tryz.results154,go_sem,z0,z1,z2,z3,z4,z5,z6]) rfl ⟨by rw[HQ.out],HW.out.2⟩
theorem Queue.Hy (q mb th:Nat) (m:Mu) (t:Tr It) (x:It) (hx:x∈t.list) (w:World) (h:bQ w q mb th m t):Calls Tryz.prog 52 #[(.pointer (some ⟨q,0,none⟩)), .int .i64 x.i] w (aV (.tuple #[.int .i64 (m.sign x.pp).2, .int .i64 0]) w):=by
 have HX:=aa hx;have ek:=aa (h.2.2.2.1 x hx);have kZ:=aa h.2.2.1;have aW:=aa h;clear h hx;go_enter Tryz.func52,Tryz.ntmps52;go_wp2_with fail
 refine(Queue.lI q mb th m t x HX.out _ aW.out).mono ?_;rintro e w1 ⟨rfl,hb⟩;have ha:=aD w1 (.cells x 57);have aP:Hid ((bQ (w1.alloc (.cells x 57)) q mb th m t∧Cs (w1.alloc (.cells x 57)) w1.heap.size x.cells)∧Below w w (w1.alloc (.cells x 57))):=aa ⟨⟨(aW.out.below hb).below ha,Cs.cu w1 57 x⟩,ai hb ha⟩;clear hb ha aW;unfold It.val;go_wp2_with fail
 generalize w1.alloc (.cells x 57)=W1 at aP⊢
 generalize w1.heap.size=gx at aP⊢
 have aB:aF (fun wx=>(bQ wx q mb th m t∧Cs wx gx x.cells)∧Below w w wx):=fun _ _ h hb=>⟨⟨h.1.1.below hb,h.1.2.below hb⟩,ai h.2 hb⟩;refine aA (S:=fun wx=>(bQ wx q mb th m t∧Cs wx gx x.cells)∧Below w w wx) 12 ae (aB _ _ (aP.out) (Below.refl _ _).drew) ?_;refine aQ (aB) (fun _ h=>h) fun g=> ?_;refine tk 0 ?_ g ?_ ?_ (tk 1 ?_ g ?_ ?_ (tk 2 ?_ g ?_ ?_ (tk 3 ?_ g ?_ ?_ (tk 4 ?_ g ?_ ?_ (tk 5 ?_ g ?_ ?_ ?_)))));iterate 3 (rotate_left;(·rfl);(·exact ah))
 rotate_left;(·rfl);(·intro wq hSw;obtain⟨k0,k1,k2,k3,k4,_,_⟩:=hSw.1.1.at;obtain⟨q0,q1,q2,q3,q4,q5,q6⟩:=It.at x hSw.1.2;go_simp;try with_reducible rfl);rotate_left;(·rfl);(·exact ah);rotate_left;(·rfl);(·intro wq hSw;obtain⟨k0,k1,k2,k3,k4,_,_⟩:=hSw.1.1.at;obtain⟨q0,q1,q2,q3,q4,q5,q6⟩:=It.at x hSw.1.2;go_simp;try with_reducible rfl);try simp only[av]
 clear g;refine iI 6 (.tuple #[.int .i64 (m.sign x.pp).2, .bool (m.sign x.pp).1]) (aB) (fun _ h=>h) (fun wq hSw=> ?_) ?_
 ·refine dU.aN (qc.sign m x.pp kZ.out ⟨ek.out.1,ek.out.2.1,ek.out.2.2.1⟩ wq) (by go_simp) ?_;rintro e wr ⟨rfl,hb⟩;exact⟨rfl,hb⟩
 try simp only[av]
 refine aQ (aB) (fun _ h=>h) fun g=> ?_;refine tk 7 ?_ g ?_ ?_ (tk 8 ?_ g ?_ ?_ (tk 9 ?_ g ?_ ?_ (tk 10 ?_ g ?_ ?_ (tk 11 ?_ g ?_ ?_ ?_))));iterate 5 (rotate_left;(·rfl);(·exact ah))
 try simp only[av]
 clear g;refine aZ ae (fun wz hSz=> ?_) _;have HB:=aa hSz.2;clear hSz aP;go_wp2_with fail
 go_ret2;exact⟨rfl,HB.out⟩
theorem Queue.wm (q mb th:Nat) (m:Mu) (t:Tr It) (x:It) (hx:x∈t.list) (w:World) (h:bQ w q mb th m t):Calls Tryz.prog 14 #[(.pointer (some ⟨q,0,none⟩)), .int .i64 x.i] w (aV (.tuple #[wv (m.lag x.pp).2, .int .i64 0]) w):=by
 have HX:=aa hx;have ek:=aa (h.2.2.2.1 x hx);have kZ:=aa h.2.2.1;have hal:=aD w (.cells #[.int .i64 0, .int .u64 0] 42);have HB0:=aa hal;have aW:=aa (h.below hal);have HZ:Hid (Cs (w.alloc (.cells #[.int .i64 0, .int .u64 0] 42)) w.heap.size [.int .i64 0, .int .u64 0]):=aa (Cs.cK w 42 _ _);clear h hx hal;go_enter Tryz.func14,Tryz.ntmps14;go_upto_region 1 with fail
 generalize (w.alloc (.cells #[.int .i64 0, .int .u64 0] 42))=W0 at aW HB0 HZ⊢
 go_wp2_with fail
 refine(Queue.lI q mb th m t x HX.out _ aW.out).mono ?_;rintro e w1 ⟨rfl,hb⟩;have ha:=aD w1 (.cells x 57);have aP:Hid ((bQ (w1.alloc (.cells x 57)) q mb th m t∧Cs (w1.alloc (.cells x 57)) w1.heap.size x.cells)∧(Cs (w1.alloc (.cells x 57)) w.heap.size [.int .i64 0, .int .u64 0]∧Below w w (w1.alloc (.cells x 57)))):=aa ⟨⟨(aW.out.below hb).below ha,Cs.cu w1 57 x⟩,(HZ.out.below hb).below ha,ai (ai HB0.out hb) ha⟩;clear hb ha aW HB0 HZ;unfold It.val;go_wp2_with fail
 generalize w1.alloc (.cells x 57)=W1 at aP⊢
 generalize w1.heap.size=gx at aP⊢
 have aB:aF (fun wx=>(Below W1 W1 wx)):=fun _ _ h hb=>ai h hb;refine aA (S:=fun wx=>(Below W1 W1 wx)) 13 ae (aB _ _ ((Below.refl W1.heap.size W1)) (Below.refl _ _).drew) ?_;refine aQ (aB) (fun _ h=>h) fun g=> ?_;refine tk 0 ?_ g ?_ ?_ (tk 1 ?_ g ?_ ?_ (tk 2 ?_ g ?_ ?_ (tk 3 ?_ g ?_ ?_ (tk 4 ?_ g ?_ ?_ (tk 5 ?_ g ?_ ?_ ?_)))));iterate 3 (rotate_left;(·rfl);(·exact ah))
 rotate_left;(·rfl);(·intro wq hSw;obtain⟨k0,k1,k2,k3,k4,_,_⟩:=(aP.out.1.1.below hSw).at;obtain⟨q0,q1,q2,q3,q4,q5,q6⟩:=It.at x (aP.out.1.2.below hSw);go_simp;try with_reducible rfl);rotate_left;(·rfl);(·exact ah);rotate_left;(·rfl);(·intro wq hSw;obtain⟨k0,k1,k2,k3,k4,_,_⟩:=(aP.out.1.1.below hSw).at;obtain⟨q0,q1,q2,q3,q4,q5,q6⟩:=It.at x (aP.out.1.2.below hSw);go_simp;try with_reducible rfl);try simp only[av]
 clear g;refine iI 6 (.tuple #[wv (m.lag x.pp).2, .bool (m.lag x.pp).1]) (aB) (fun _ h=>h) (fun wq hSw=> ?_) ?_
 ·refine dU.aN (qc.read m x.pp kZ.out ⟨ek.out.1,ek.out.2.1,ek.out.2.2.1⟩ wq) (by go_simp) ?_;rintro e wr ⟨rfl,hb⟩;exact⟨rfl,hb⟩
 try simp only[av]
 refine aQ (aB) (fun _ h=>h) fun g=> ?_;refine tk 7 ?_ g ?_ ?_ (tk 8 ?_ g ?_ ?_ (tk 9 ?_ g ?_ ?_ ?_));iterate 3 (rotate_left;(·rfl);(·exact ah))
 try simp only[av]
 clear g;refine df (i:=10) (fun wx g=>Cs wx g [.int .i64 0, .int .u64 0]∧W1.heap.size≤g) rfl ae ak au (aB) (fun _ h=>h) (fun g=>fun _ _ h hb=>⟨h.1.below hb,h.2⟩) (fun wq hSw=> ?_) (fun gA=> ?_)
 ·exact⟨_,by go_simp;(try with_reducible rfl),(Below.refl _ _).alloc ay _,Cs.cK _ _ _ _,hSw.size⟩
 try simp only[av]
 refine bB (i:=11) (fun wx=>Below W1 W1 wx∧(Cs wx gA [.int .i64 (aJ (m.lag x.pp).2), .int .u64 (aI (m.lag x.pp).2)]∧W1.heap.size≤gA)) 42 [.int .i64 (aJ (m.lag x.pp).2), .int .u64 (aI (m.lag x.pp).2)] [.int .i64 0, .int .u64 0] gA fT (.tmp 8) (.tmp 28) rfl rfl ae ak au ?hz1a ?hz1b ?hz1c ?hz1d ?hz1e (fun _ h=>h.2.1) (fun _ h=>⟨aU h.2.2 _ _ h.1,Cs.bH _ 0 h.2.1 ag,h.2.2⟩) (fun _ h=>h.1) ((fun _ _ h hb=>⟨ai h.1 hb,h.2.1.below hb,h.2.2⟩)) ?hz1f
 case hz1a=>rfl
 case hz1b=>rfl
 case hz1c=>rfl
 case hz1d=>rfl
 case hz1e=>rfl
 try simp only[av]
 refine aQ ((fun _ _ h hb=>⟨ai h.1 hb,h.2.1.below hb,h.2.2⟩)) (fun _ h=>h.1) fun g=> ?_;refine tk 12 ?_ g ?_ ?_ ?_;rotate_left;(·rfl);(·exact ah);try simp only[av]
 clear g;refine aZ ae (fun wz hSz=> ?_) _;have HZ2:=aa (aP.out.2.1.below hSz.1);have HB2:=aa (ai aP.out.2.2 hSz.1);have HA:=aa hSz.2.1;clear hSz aP;have v0:=HA.out.aL;have v1:=HA.out.fH;go_wp2_with (first|((with_reducible refine bG 42 [.int .i64 (aJ (m.lag x.pp).2), .int .u64 (aI (m.lag x.pp).2)] fT rfl (.tmp 4) (.tmp 30) rfl w.heap.size _ HZ2.out ?_ ?_ ?_ ?_ ?_ ?_);(iterate 5 (·rfl));(intro W2 hW2);(have HY:=aa (show Cs W2 w [.int .i64 (aJ (m.lag x.pp).2), .int .u64 (aI (m.lag x.pp).2)]∧Below w w W2 by subst hW2;exact⟨Cs.bH _ 0 HZ2.out ag,aU ay _ _ HB2.out⟩));(clear hW2 v0 v1);(have z0:=HY.out.1.aL);(have z1:=HY.out.1.fH))|fail)
 refine bodyPost_ret (v:= .tuple #[wv (m.lag x.pp).2, .int .i64 0]) (by simp[results,Tryz.results14,go_sem,z0,z1,wv]) rfl ⟨rfl,HY.out.2⟩
theorem Queue.jM (q mb th:Nat) (m:Mu) (t:Tr It) (k:Nat) (y:It) (hy:y.In) (w:World) (h:bQ w q mb th m t) (hk:Cs w k [(.pointer (some ⟨q,0,none⟩))]):Calls Tryz.prog 155 #[y.val, .pointer (some ⟨k,0,none⟩)] w (aV (.bool (m.jM y.pp)) w):=by
 have hal:=aD w (.cells y 57);have HB0:=aa hal;have aW:=aa (h.below hal);have uu:=aa (hk.below hal);have HY:Hid (Cs (w.alloc (.cells y 57)) w.heap.size y.cells):=aa (Cs.cu w 57 y);have mZ:=aa hy;have kZ:=aa h.2.2.1;clear h hk hal hy;unfold It.val;go_enter Tryz.func155,Tryz.ntmps155;go_upto_region 1 with fail
 generalize (w.alloc (.cells y 57))=W0 at HB0 aW uu HY⊢
 obtain⟨k0,k1,k2,k3,k4,_,_⟩:=aW.out.at;obtain⟨q0,q1,q2,q3,q4,q5,q6⟩:=It.at y HY.out;have hk0:=uu.out.aL;clear k0 k1 k2 k3 k4 q0 q1 q2 q3 q4 q5 q6 hk0;go_wp2_with fail
 have aB:aF (fun wx=>Below W0 W0 wx):=fun _ _ h hb=>ai h hb;refine aA (S:=fun wx=>Below W0 W0 wx) 8 ae (aB _ _ ((Below.refl W0.heap.size W0)) (Below.refl _ _).drew) ?_;refine aQ (aB) (fun _ h=>h) fun g=> ?_;refine tk 0 ?_ g ?_ ?_ (tk 1 ?_ g ?_ ?_ (tk 2 ?_ g ?_ ?_ (tk 3 ?_ g ?_ ?_ (tk 4 ?_ g ?_ ?_ (tk 5 ?_ g ?_ ?_ ?_)))));rotate_left;(·rfl);(·intro wq hSw;obtain⟨k0,k1,k2,k3,k4,_,_⟩:=(aW.out.below hSw).at;obtain⟨q0,q1,q2,q3,q4,q5,q6⟩:=It.at y (HY.out.below hSw);have hk0:=(uu.out.below hSw).aL;go_simp;try with_reducible rfl);iterate 2 (rotate_left;(·rfl);(·exact ah))
 rotate_left;(·rfl);(·intro wq hSw;obtain⟨k0,k1,k2,k3,k4,_,_⟩:=(aW.out.below hSw).at;obtain⟨q0,q1,q2,q3,q4,q5,q6⟩:=It.at y (HY.out.below hSw);have hk0:=(uu.out.below hSw).aL;go_simp;try with_reducible rfl);rotate_left;(·rfl);(·exact ah);rotate_left;(·rfl);(·intro wq hSw;obtain⟨k0,k1,k2,k3,k4,_,_⟩:=(aW.out.below hSw).at;obtain⟨q0,q1,q2,q3,q4,q5,q6⟩:=It.at y (HY.out.below hSw);have hk0:=(uu.out.below hSw).aL;go_simp;try with_reducible rfl);try simp only[av]
 clear g;refine iI 6 (.bool (m.jM y.pp)) (aB) (fun _ h=>h) (fun wq hSw=> ?_) ?_
 ·refine dU.aN (qc.eligible m y.pp kZ.out ⟨mZ.out.1,mZ.out.2.1,mZ.out.2.2.1⟩ wq) (by go_simp) ?_;rintro e wr ⟨rfl,hb⟩;exact⟨rfl,hb⟩
 try simp only[av]
 refine aQ (aB) (fun _ h=>h) fun g=> ?_;refine tk 7 ?_ g ?_ ?_ ?_;rotate_left;(·rfl);(·exact ah);try simp only[av]
 clear g;refine aZ ae (fun wz hSz=> ?_) _;have HB:=aa (ai HB0.out hSz);clear hSz;go_wp2_with fail
 go_ret;exact⟨rfl,HB.out⟩
theorem Queue.D9 (q mb th:Nat) (m:Mu) (t:Tr It) (w:World) (h:bQ w q mb th m t):Calls Tryz.prog 114 #[(.pointer (some ⟨q,0,none⟩))] w (aV (.tuple #[It.val (gN (fun y=>m.jM y.pp) t (false,It.zero)).2, .bool (gN (fun y=>m.jM y.pp) t (false,It.zero)).1]) w):=by
 have hal:=(aD w (.cells #[(.pointer (some ⟨q,0,none⟩))] 48)).alloc ag (.cells aM 57);have HB0:=aa hal;have aW:=aa (h.below hal);have uu:Hid (Cs ((w.alloc (.cells #[(.pointer (some ⟨q,0,none⟩))] 48)).alloc (.cells aM 57)) w.heap.size [(.pointer (some ⟨q,0,none⟩))]):=aa ((Cs.bL w 48 [(.pointer (some ⟨q,0,none⟩))]).alloc _);have HZ:Hid (Cs ((w.alloc (.cells #[(.pointer (some ⟨q,0,none⟩))] 48)).alloc (.cells aM 57)) (w.heap.size+1) It.zero.cells):=aa (by have:=Cs.cu (w.alloc (.cells #[(.pointer (some ⟨q,0,none⟩))] 48)) 57 It.zero;simp only[World.size_alloc] at this;exact this);clear h hal;go_enter Tryz.func114,Tryz.ntmps114;go_upto_region 1 with fail
 generalize ((w.alloc (.cells #[(.pointer (some ⟨q,0,none⟩))] 48)).alloc (.cells aM 57))=W0 at HB0 aW uu HZ⊢
 obtain⟨_,_,_,_,_,_,k6⟩:=aW.out.at;have hk0:=uu.out.aL;go_wp2_with fail
 clear k6 hk0;refine(oD.QN th w.heap.size t (fun y=>m.jM y.pp) _ aW.out.1.2.2 (fun y w' _ hyi hb=>Queue.jM q mb th m t w.heap.size y hyi w' (aW.out.below hb) (uu.out.below hb))).mono ?_;rintro e w1 ⟨rfl,hb⟩;have HZ1:=aa (HZ.out.below hb);have HB1:=aa (ai HB0.out hb);clear hb aW uu HZ HB0;obtain⟨sm,x,hf⟩:∃sm x,gN (fun y=>m.jM y.pp) t (false,It.zero)=(sm,x):=⟨_,_,rfl⟩;have HF:=aa hf;rw[hf];clear hf;dsimp only;go_wp2_with (first|((with_reducible refine bG 57 x.cells dx rfl (.tmp 2) (.tmp 13) rfl (w.heap.size+1) _ HZ1.out ?_ ?_ ?_ ?_ ?_ ?_);(iterate 5 (·rfl));(intro W2 hW2);(have HY:=aa (show Cs W2 (w.heap.size+1) x.cells∧Below w w W2 by subst hW2;exact⟨Cs.bH x.cells 0 HZ1.out (by simp[It.cells]),aU af _ _ HB1.out⟩));(clear hW2);(obtain⟨z0,z1,z2,z3,z4,z5,z6⟩:=It.at x HY.out.1))|fail)
 refine bodyPost_ret (v:= .tuple #[x.val, .bool sm]) (by simp[results,Tryz.results114,go_sem,z0,z1,z2,z3,z4,z5,z6,It.val]) rfl ⟨by rw[HF.out],HY.out.2⟩
end


section
open Go.RowKit
theorem bM.cell0 {w:World}:∀{t:Tr It},bM w t→∀g∈t.blocks,∃u,w.cell? g=some (.int .u64 u):=by
 intro t;induction t with
 |nil=>intro _ g hg;simp[Tr.blocks] at hg
 |node g c l y r ihl ihr=>
  intro h k hk;rcases List.mem_cons.1 (show k∈g::(l.blocks++r.blocks) by simpa[Tr.blocks] using hk) with rfl|hk
  ·obtain⟨A,hc⟩:=h.node;exact⟨_,hc.th.1⟩
  ·rcases List.mem_append.1 hk with hk|hk
   ·exact ihl h.2.1 k hk
   ·exact ihr h.2.2 k hk
theorem bQ.aau {w:World} {q mb th:Nat} {m:Mu} {t:Tr It} (h:bQ w q mb th m t):∀g∈foot q mb th t,∀f a c,w.cell? g=some (.func f a c)→f= .func 121:=by
 intro g hg f a c hc;simp only[foot,List.mem_cons] at hg;rcases hg with rfl|rfl|rfl|hg
 ·rw[h.at.1] at hc;cases hc
 ·rw[h.1.2.1.cell 0] at hc;cases hc
 ·obtain⟨_,_,t0,_⟩:=h.1.2.2.1;rw[t0.aL] at hc;injection hc with hc;injection hc with e _ _;exact e.symm
 ·obtain⟨u,hu⟩:=h.1.2.2.2.1.cell0 g hg;rw[hu] at hc;cases hc
def Stp (q mb th:Nat) (b':Int) (l':List It) (t:Tr It) (w w':World):Prop:=∃t',t'.list=l'∧bQ w' q mb th (qM b' l') t'∧fZ b' l'∧Tr.Whole t'∧(∀g∈t'.blocks,g∈t.blocks∨w.heap.size≤g)∧ax (foot q mb th t) w w'
theorem Stp.same {q mb th:Nat} {b:Int} {t:Tr It} {w w':World} (h:bQ w q mb th (qM b t.list) t) (hq:fZ b t.list) (hw:Tr.Whole t) (hb:Below w w w'):Stp q mb th b t.list t w w':=⟨t,rfl,h.below hb,hq,hw,fun g hg=>Or.inl hg,ax.below hb⟩
def xC (i:Int) (l:List It):Int:=if anyI i l=true then 0 else 14
def xD (i b:Int) (l:List It):Int:=if anyI i l=true then dE b (rU i l) else b
theorem Step.leave (q mb th:Nat) (b:Int) (t:Tr It) (hq:fZ b t.list) (hw:Tr.Whole t) (i:Int) (hi: -9223372036854775808≤i∧i≤9223372036854775807) (w:World) (h:bQ w q mb th (qM b t.list) t):Calls Tryz.prog 124 #[q, .int .i64 i] w (fun e w'=>(∃x:It,e= .returned (.tuple #[x.val, .int .i64 (xC i t.list)]))∧Stp q mb th (xD i b t.list) (rU i t.list) t w w'):=by
 by_cases hx:∃x∈t.list,x.i=i
 ·obtain⟨x,hx,rfl⟩:=hx;have ha:anyI x.i t.list=true:=by unfold anyI;rw[List.any_eq_true];exact⟨x,hx,by simp⟩
  refine(Queue.OO q mb th b t hq hw x hx w h).mono ?_;rintro e w' ⟨rfl,t',A,B,hl,hl',hi',hq',hk,hw',hb,hc⟩;have hle:rU x.i t.list=A++B:=by rw[hl];exact Ed (a:=x) rfl hi'
  refine⟨⟨x,by unfold xC;rw[if_pos ha]⟩,t',by rw[hle,hl'],?_,?_,hw',fun g hg=>Or.inl (hb g hg),hc⟩
  ·unfold xD;rw[if_pos ha,hle];exact hq'
  ·unfold xD;rw[if_pos ha,hle];exact hk
 ·have ha:anyI i t.list=false:=by unfold anyI;rw[List.any_eq_false];intro y hy;simpa using fun e=>hx ⟨y,hy,e⟩
  refine(Queue.Ru q mb th (qM b t.list) t i hi (fun x hm e=>hx ⟨x,hm,e⟩) w h).mono ?_;rintro e w' ⟨rfl,hb⟩;refine⟨⟨It.zero,by unfold xC;rw[if_neg (by rw[ha];simp)]⟩,?_⟩;unfold xD;rw[if_neg (by rw[ha];simp),U0 ha];exact Stp.same h hq hw hb
def Bh (b:Int) (l:List It) (a:It):Int:=if gF b l a=0 then dE (dZ b l a) (l++[a]) else b
def vE (b:Int) (l:List It) (a:It):List It:=if gF b l a=0 then jX a l else l
theorem Step.join (q mb th:Nat) (b:Int) (t:Tr It) (hq:fZ b t.list) (hw:Tr.Whole t) (a:It) (ha:a.In) (w:World) (h:bQ w q mb th (qM b t.list) t):Calls Tryz.prog 74 #[q,a.val] w (fun e w'=>e= .returned (.int .i64 (gF b t.list a))∧Stp q mb th (Bh b t.list a) (vE b t.list a) t w w'):=by
 refine(Queue.join q mb th b t a hq ha w h).mono ?_;rintro e w' ⟨rfl,⟨hj,hb⟩|⟨hj,k,hk,hq',hc⟩⟩
 ·refine⟨rfl,?_⟩;unfold Bh vE;rw[if_neg hj,if_neg hj];exact Stp.same h hq hw hb
 ·obtain⟨_,hok,ht⟩:=hq.join ha hj;have hl:((Tr.put It.ahead k a t).dz false).list=jX a t.list:=by rw[Tr.iX];exact(ht t rfl).2 k
  refine⟨rfl,_,?_,?_,?_,hw.put It.ahead k a,fun g hg=> ?_,hc⟩
  ·unfold vE;rw[if_pos hj];exact hl
  ·unfold Bh vE;rw[if_pos hj,if_pos hj];exact hq'
  ·unfold Bh vE;rw[if_pos hj,if_pos hj];exact hok
  ·rw[Tr.fU] at hg;rcases List.mem_cons.1 ((Tr.iM It.ahead k a t).mem_iff.1 hg) with rfl|h1
   ·exact Or.inr hk
   ·exact Or.inl h1
def Br (b:Int) (l:List It) (a:It):Int:=if jY b l a=0 then Jk b l a else b
def vI (b:Int) (l:List It) (a:It):List It:=if jY b l a=0 then jX a (iE l a) else l
theorem Step.change (q mb th:Nat) (b:Int) (t:Tr It) (hq:fZ b t.list) (hw:Tr.Whole t) (a:It) (ha:a.In) (w:World) (h:bQ w q mb th (qM b t.list) t):Calls Tryz.prog 92 #[q,a.val] w (fun e w'=>e= .returned (.int .i64 (jY b t.list a))∧Stp q mb th (Br b t.list a) (vI b t.list a) t w w'):=by
 refine(Queue.change q mb th b t a hq hw ha w h).mono ?_;rintro e w' ⟨rfl,⟨hj,hb⟩|⟨hj,t',hl,hq',hk,hw',hb,hc⟩⟩
 ·refine⟨rfl,?_⟩;unfold Br vI;rw[if_neg hj,if_neg hj];exact Stp.same h hq hw hb
 ·rw[hl] at hq' hk;refine⟨rfl,t',?_,?_,?_,hw',hb,hc⟩
  ·unfold vI;rw[if_pos hj];exact hl
  ·unfold Br vI;rw[if_pos hj,if_pos hj];exact hq'
  ·unfold Br vI;rw[if_pos hj,if_pos hj];exact hk
theorem xJ {q mb th n:Nat} {t t':Tr It} (hb:∀g∈t'.blocks,g∈t.blocks∨n≤g):∀g∈foot q mb th t',g∈foot q mb th t∨n≤g:=fun g hg=>by
 simp only[foot,List.mem_cons] at hg⊢
 rcases hg with rfl|rfl|rfl|hg
 ·exact Or.inl (Or.inl rfl)
 ·exact Or.inl (Or.inr (Or.inl rfl))
 ·exact Or.inl (Or.inr (Or.inr (Or.inl rfl)))
 ·exact(hb g hg).imp (fun h=>Or.inr (Or.inr (Or.inr h))) id
end

end Go.Proofs.YtnmbfjgcmfjdcaaGreatDoor

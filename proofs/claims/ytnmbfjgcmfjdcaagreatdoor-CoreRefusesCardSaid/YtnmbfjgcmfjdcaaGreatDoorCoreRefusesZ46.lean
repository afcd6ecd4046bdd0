/- Texts of CoreRefuses's proof, together. -/
import Derived.Test.YtnmbfjgcmfjdcaaGreatDoorSeA
import Derived.Test.YtnmbfjgcmfjdcaaGreatDoorCoreRefusesZ44
import Derived.Test.YtnmbfjgcmfjdcaaGreatDoorGr
namespace Go.Proofs.YtnmbfjgcmfjdcaaGreatDoor

section
open Go.RowKit
set_option maxRecDepth 100000
set_option maxHeartbeats 32000000
def lS (w:World) (S q rb:Nat) (l:List Rq):Prop:=Cs w S [.pointer (some ⟨q,0,none⟩), .map (some rb)]∧jl w rb l
theorem lS.below {w w':World} {S q rb:Nat} {l:List Rq} (h:lS w S q rb l) (hb:Below w w w'):lS w' S q rb l:=⟨h.1.below hb,h.2.below hb⟩
theorem lS.at {w:World} {S q rb:Nat} {l:List Rq} (h:lS w S q rb l):w.cell? S=some (.pointer (some ⟨q,0,none⟩))∧w.cell? ⟨S,1,none⟩=some (.map (some rb)):=⟨(h.1 0 _ rfl).1,(h.1 1 _ rfl).1⟩
theorem lS.aG {F:List Nat} {w w':World} {S q rb:Nat} {l:List Rq} (h:lS w S q rb l) (hc:ax F w w') (hS:S∉F) (hb:rb∉F):lS w' S q rb l:=⟨h.1.aG hc hS,h.2.aG hc hb⟩
theorem Rq.gM (w:World) (T:TypeId) (x:Rq):Cs (w.alloc (.cells x T)) w.heap.size x.cells:=Cs.bL w T x.cells
theorem Set.lI (S q rb:Nat) (l:List Rq) (x:Rq) (hx:x∈l) (hi:x.In) (w:World) (h:lS w S q rb l):Calls Tryz.prog 67 #[(.pointer (some ⟨S,0,none⟩)), .int .i64 x.a.i] w (aV (.tuple #[x.val, .int .i64 0]) w):=by
 have ha:=aD w (.cells dw 59);have HB0:=aa ha;have aW:=aa (h.below ha);have HZ:Hid (Cs (w.alloc (.cells dw 59)) w.heap.size Rq.no.cells):=aa (Rq.gM w 59 Rq.no);have hlk:=aW.out.2.yes hx hi.1;clear ha h hx hi;unfold Rq.val at hlk;go_enter Tryz.func67,Tryz.ntmps67;go_upto_region 1 with fail
 generalize (w.alloc (.cells dw 59))=W0 at aW HB0 HZ hlk⊢
 obtain⟨_,k5⟩:=aW.out.at;have HX:Hid (Cs (W0.alloc (.cells x 59)) W0.heap.size x.cells):=aa (Rq.gM W0 59 x);have HZ1:=aa (HZ.out.alloc (.cells x 59));have HB1:=aa (HB0.out.alloc HB0.out.size (.cells x 59));go_upto_region 4 with fail
 clear hlk k5 aW HB0 HZ;generalize (W0.alloc (.cells x 59))=W1 at HX HZ1 HB1⊢
 generalize W0.heap.size=gx at HX⊢
 obtain⟨x0,x1,x2,x3,x4,x5,x6,x7,x8,x9⟩:=Rq.at x HX.out;go_wp2_with (first|((with_reducible refine bG 59 x.cells jr rfl (.tmp 4) (.tmp 23) rfl w.heap.size _ HZ1.out ?_ ?_ ?_ ?_ ?_ ?_);(iterate 5 (·rfl));(intro W2 hW2);(have HY:=aa (show Cs W2 w x.cells∧Below w w W2 by subst hW2;exact⟨Cs.bH x.cells 0 HZ1.out (by simp[Rq.cells]),aU ay _ _ HB1.out⟩));(clear hW2);(clear x0 x1 x2 x3 x4 x5 x6 x7 x8 x9);(obtain⟨z0,z1,z2,z3,z4,z5,z6,z7,z8,z9⟩:=Rq.at x HY.out.1))|fail)
 refine bodyPost_ret (v:= .tuple #[x.val, .int .i64 0]) (by simp[results,Tryz.results67,go_sem,z0,z1,z2,z3,z4,z5,z6,z7,z8,z9,Rq.val]) rfl ⟨rfl,HY.out.2⟩
theorem Set.wF (S q rb:Nat) (l:List Rq) (i:Int) (hi: -9223372036854775808≤i∧i≤9223372036854775807) (hn:∀x∈l,x.a.i≠i) (w:World) (h:lS w S q rb l):Calls Tryz.prog 67 #[(.pointer (some ⟨S,0,none⟩)), .int .i64 i] w (aV (.tuple #[Rq.no.val, .int .i64 14]) w):=by
 have ha:=aD w (.cells dw 59);have HB0:=aa ha;have aW:=aa (h.below ha);have HZ:Hid (Cs (w.alloc (.cells dw 59)) w.heap.size Rq.no.cells):=aa (Rq.gM w 59 Rq.no);have hlk:=aW.out.2.no hi hn;clear ha h hn hi;unfold Rq.val at hlk;go_enter Tryz.func67,Tryz.ntmps67;go_upto_region 1 with fail
 generalize (w.alloc (.cells dw 59))=W0 at aW HB0 HZ hlk⊢
 obtain⟨_,k5⟩:=aW.out.at;have HZ1:=aa (HZ.out.alloc (.cells dw 59));have HB1:=aa (HB0.out.alloc HB0.out.size (.cells dw 59));go_upto_region 4 with fail
 clear hlk k5 aW HB0 HZ;generalize (W0.alloc (.cells dw 59))=W1 at HZ1 HB1⊢
 go_wp2_with (first|((with_reducible refine bG 59 Rq.no.cells jr rfl (.tmp 4) (.tmp 22) rfl w.heap.size _ HZ1.out ?_ ?_ ?_ ?_ ?_ ?_);(iterate 5 (·rfl));(intro W2 hW2);(have HY:=aa (show Cs W2 w Rq.no.cells∧Below w w W2 by subst hW2;exact⟨Cs.bH Rq.no.cells 0 HZ1.out (by simp[Rq.cells]),aU ay _ _ HB1.out⟩));(clear hW2);(clear HZ1);(obtain⟨z0,z1,z2,z3,z4,z5,z6,z7,z8,z9⟩:=Rq.at Rq.no HY.out.1))|fail)
 refine bodyPost_ret (v:= .tuple #[Rq.no.val, .int .i64 14]) (by simp[results,Tryz.results67,go_sem,z0,z1,z2,z3,z4,z5,z6,z7,z8,z9,Rq.val]) rfl ⟨rfl,HY.out.2⟩
end


section
open Go.RowKit
set_option maxRecDepth 100000
set_option maxHeartbeats 32000000
variable {l l':List Rq} {t:Tr It} {b b' i:Int} {S q mb th rb:Nat} {w w' W:World} {L':List It}
def eP (w:World) (S q mb th rb:Nat) (b:Int) (t:Tr It) (l:List Rq):Prop:=
 (bQ w q mb th (qM b t.list) t∧lS w S q rb l)∧((fZ b t.list∧Tr.Whole t)∧((l.map (·.a)).Perm t.list∧∀x∈l,x.In))∧(S∉rb::foot q mb th t∧rb∉foot q mb th t)
theorem eP.below {w w':World} {S q mb th rb:Nat} {b:Int} {t:Tr It} {l:List Rq} (h:eP w S q mb th rb b t l) (hb:Below w w w'):eP w' S q mb th rb b t l:=⟨⟨h.1.1.below hb,h.1.2.below hb⟩,h.2⟩
theorem eP.lt {w:World} {S q mb th rb:Nat} {b:Int} {t:Tr It} {l:List Rq} (h:eP w S q mb th rb b t l):S<w.heap.size∧rb<w.heap.size∧∀g∈foot q mb th t,g<w.heap.size:=⟨h.1.2.1.lt,h.1.2.2.lt,h.1.1.gW⟩
theorem eP.few (h:eP w S q mb th rb b t l):l.length≤32:=by
 have:=h.2.1.2.1.length_eq;simp only[List.length_map] at this;have:=h.1.1.2.2.2.2;omega
theorem eP.ids {w:World} {S q mb th rb:Nat} {b:Int} {t:Tr It} {l:List Rq} (h:eP w S q mb th rb b t l):(l.map (·.a.i)).Nodup:=by
 have h1:=(h.2.1.2.1.map (·.i)).nodup_iff.2 h.2.1.1.1.ids;rwa [List.map_map] at h1
def mo (S q mb th rb:Nat) (b':Int) (L':List It) (l':List Rq) (t:Tr It) (w w':World):Prop:=∃t',t'.list=L'∧eP w' S q mb th rb b' t' l'∧(∀g∈t'.blocks,g∈t.blocks∨w.heap.size≤g)∧ax (rb::foot q mb th t) w w'
theorem mo.same (h:eP w S q mb th rb b t l) (hb:Below w w w'):mo S q mb th rb b t.list l t w w':=⟨t,rfl,h.below hb,fun g hg=>Or.inl hg,ax.below hb⟩
theorem eP.step {w W w1 w2:World} (h:eP w S q mb th rb b t l) (hb:Below w w W) (s:Stp q mb th b' L' t W w1) (hm:jl w2 rb l') (hc:ax [rb] w1 w2) (hp:(l'.map (·.a)).Perm L') (hi:∀x∈l',x.In):mo S q mb th rb b' L' l' t w w2:=by
 obtain⟨t',hl,hq,hk,hw,hbl,hch⟩:=s;have hS:=h.lt.1;have hrb:=h.lt.2.1;have hsz:=hb.size;have nS:S∉foot q mb th t:=fun e=>h.2.2.1 (List.mem_cons_of_mem _ e);have ZV:S≠rb:=fun e=>h.2.2.1 (by simp[e])
 have f1:∀g,g<w.heap.size→g∉foot q mb th t→g∉foot q mb th t':=fun g h1 h2 h3=>by
  rcases xJ hbl g h3 with h4|h4
  ·exact h2 h4
  ·omega
 have hm1:lS w1 S q rb l:=(h.1.2.below hb).aG hch nS h.2.2.2;subst hl;refine⟨t',rfl,⟨⟨hq.away hc (fun g hg f a c e=> ?_) (fun g hg e=> ?_),hm1.1.aG hc (by simpa using ZV),hm⟩,⟨⟨hk,hw⟩,hp,hi⟩,?_,f1 _ hrb h.2.2.2⟩,fun g hg=> ?_,?_⟩
 ·simp only[List.mem_singleton] at hg;subst hg;rw[hm1.2.cell 0] at e;cases e
 ·simp only[List.mem_singleton] at e;subst e;exact f1 _ hrb h.2.2.2 hg
 ·intro e;rcases List.mem_cons.1 e with e|e
  ·exact ZV e
  ·exact f1 _ hS nS e
 ·rcases hbl g hg with h1|h1
  ·exact Or.inl h1
  ·exact Or.inr af
 ·exact((ax.below (F:=rb::foot q mb th t) hb).trans hch (fun g hg=>Or.inl (List.mem_cons_of_mem _ hg))).trans hc (fun g hg=>Or.inl (by simp at hg;simp[hg]))
def iO (i:Int) (l:List Rq):List Rq:=l.filter fun y=> !(y.a.i == i)
theorem Ih (i:Int) (l:List Rq):(iO i l).map (·.a)=rU i (l.map (·.a)):=by
 unfold iO rU;rw[List.filter_map];rfl
theorem jK:∀x∈iO i l,x∈l∧x.a.i≠i:=fun x hx=>by
 have:=List.mem_filter.1 hx;exact⟨this.1,by simpa using this.2⟩
theorem KW (h:∀x∈l,x.a.i≠i):iO i l=l:=List.filter_eq_self.2 (fun y hy=>by simpa using h y hy)
theorem rC (hn:(l.map (·.a.i)).Nodup) {x:Rq} (hx:x∈l):l.Perm (x::iO x.a.i l):=by
 obtain⟨A,B,rfl⟩:=List.append_of_mem hx;rw[List.map_append,List.map_cons] at hn;have h1:∀y∈A,y.a.i≠x.a.i:=fun y hy e=>(List.nodup_append.1 hn).2.2 _ (List.mem_map_of_mem hy) _ ag e;have h2:∀y∈B,y.a.i≠x.a.i:=fun y hy e=>(List.nodup_cons.1 (List.nodup_append.1 hn).2.1).1 (by rw[←e];exact List.mem_map_of_mem (f:=fun c:Rq=>c.a.i) hy)
 have e:iO x.a.i (A++x::B)=A++B:=by
  unfold iO;have e1:=KW h1;have e2:=KW h2;unfold iO at e1 e2;rw[List.filter_append,List.filter_cons_of_neg ag,e1,e2]
 rw[e];exact List.perm_middle
theorem eP.mem (h:eP w S q mb th rb b t l) (i:Int):(∃x∈l,x.a.i=i)↔∃x∈t.list,x.i=i:=by
 constructor
 ·rintro⟨x,hx,e⟩;exact⟨x.a,h.2.1.2.1.mem_iff.1 (List.mem_map_of_mem (f:=fun c:Rq=>c.a) hx),e⟩
 ·rintro⟨y,hy,e⟩;obtain⟨x,hx,rfl⟩:=List.mem_map.1 (h.2.1.2.1.mem_iff.2 hy);exact⟨x,hx,e⟩
def nP (b:Int) (L:List It) (r:Rq):Int:=if r.right=true then gF b L r.a else 2
def Eu (b:Int) (L:List It) (r:Rq):Int:=if nP b L r=0 then Bh b L r.a else b
def Et (b:Int) (L:List It) (r:Rq):List It:=if nP b L r=0 then vE b L r.a else L
def vH (b:Int) (L:List It) (l:List Rq) (r:Rq):List Rq:=if nP b L r=0 then r::l else l
def gP (b:Int) (L:List It) (r:Rq):Int:=if r.right=true then jY b L r.a else 2
def Ef (b:Int) (L:List It) (r:Rq):Int:=if gP b L r=0 then Br b L r.a else b
def bH (b:Int) (L:List It) (r:Rq):List It:=if gP b L r=0 then vI b L r.a else L
def vC (b:Int) (L:List It) (l:List Rq) (r:Rq):List Rq:=if gP b L r=0 then r::iO r.a.i l else l
theorem mo.on (h:mo S q mb th rb b' L' l' t W w') (hb:Below w w W):mo S q mb th rb b' L' l' t w w':=by
 obtain⟨t',h1,h2,h3,h4⟩:=h;exact⟨t',h1,h2,fun g hg=>(h3 g hg).imp id (fun h=>by have:=hb.size;omega),(ax.below (F:=rb::foot q mb th t) hb).trans h4 (fun g hg=>Or.inl hg)⟩
theorem Stp.on {l':List It} (h:Stp q mb th b' l' t W w') (hb:Below w w W):Stp q mb th b' l' t w w':=by
 obtain⟨t',h1,h2,h3,h4,h5,h6⟩:=h;exact⟨t',h1,h2,h3,h4,fun g hg=>(h5 g hg).imp id (fun h=>by have:=hb.size;omega),(ax.below (F:=foot q mb th t) hb).trans h6 (fun g hg=>Or.inl hg)⟩
theorem Stp.off {l':List It} (h:Stp q mb th b' l' t w W) (hb:Below W W w'):Stp q mb th b' l' t w w':=by
 obtain⟨t',h1,h2,h3,h4,h5,h6⟩:=h;exact⟨t',h1,h2.below hb,h3,h4,h5,h6.on hb⟩
theorem CL (x:It) (l:List It):(jX x l).Perm (x::l):=(yY x l).symm.trans (List.perm_append_singleton x l)
theorem XJ {l:List It} {a:It} (h:jY b l a=0):∃x∈l,x.i=a.i:=by
 unfold jY at h;split at h
 ·cases h
 ·split at h
  ·cases h
  ·rename_i h2;by_cases h3:(l.any fun y=>y.i == a.i)=true
   ·obtain⟨x,hx,e⟩:=List.any_eq_true.1 h3;exact⟨x,hx,by simpa using e⟩
   ·exact absurd (by simpa using h3) h2
theorem Set.ND (S q mb th rb:Nat) (b:Int) (t:Tr It) (l:List Rq) (r:Rq) (hr:r.In) (gs gr:Nat) (w:World) (h:eP w S q mb th rb b t l) (hgs:Cs w gs [.pointer (some ⟨S,0,none⟩)]) (hgr:Cs w gr r.cells):Calls Tryz.prog 73 #[gs, .pointer (some ⟨gr,0,none⟩)] w (fun e w'=>e= .returned (.int .i64 (gF b t.list r.a))∧Stp q mb th (Bh b t.list r.a) (vE b t.list r.a) t w w'):=by
 have kC:Hid ((eP w S q mb th rb b t l∧Cs w gs [.pointer (some ⟨S,0,none⟩)]∧Cs w gr r.cells)∧Below w w w):=aa ⟨⟨h,hgs,hgr⟩,Below.refl _ _⟩;have HR:=aa hr;clear h hr hgr hgs;go_enter Tryz.func73,Tryz.ntmps73;go_upto_region 1 with fail
 have aB:aF (fun wx=>(eP wx S q mb th rb b t l∧Cs wx gs [.pointer (some ⟨S,0,none⟩)]∧Cs wx gr r.cells)∧Below w w wx):=fun _ _ h hb=>⟨⟨h.1.1.below hb,h.1.2.1.below hb,h.1.2.2.below hb⟩,ai h.2 hb⟩;refine aA (S:=fun wx=>(eP wx S q mb th rb b t l∧Cs wx gs [.pointer (some ⟨S,0,none⟩)]∧Cs wx gr r.cells)∧Below w w wx) 6 ae (aB _ _ (kC.out) (Below.refl _ _).drew) ?_;refine aQ (aB) (fun _ h=>h) fun g=> ?_;refine tk 0 ?_ g ?_ ?_ (tk 1 ?_ g ?_ ?_ (tk 2 ?_ g ?_ ?_ (tk 3 ?_ g ?_ ?_ (tk 4 ?_ g ?_ ?_ (tk 5 ?_ g ?_ ?_ ?_)))));rotate_left;(·rfl);(·intro wq hSw;have g0:=hSw.1.2.1.aL;obtain⟨s0,s1⟩:=hSw.1.1.1.2.at;obtain⟨r0,r1,r2,r3,r4,r5,r6,r7,r8,r9⟩:=Rq.at r hSw.1.2.2;go_simp;try with_reducible rfl);iterate 2 (rotate_left;(·rfl);(·exact ah))
 rotate_left;(·rfl);(·intro wq hSw;have g0:=hSw.1.2.1.aL;obtain⟨s0,s1⟩:=hSw.1.1.1.2.at;obtain⟨r0,r1,r2,r3,r4,r5,r6,r7,r8,r9⟩:=Rq.at r hSw.1.2.2;go_simp;try with_reducible rfl);rotate_left;(·rfl);(·exact ah);rotate_left;(·rfl);(·intro wq hSw;have g0:=hSw.1.2.1.aL;obtain⟨s0,s1⟩:=hSw.1.1.1.2.at;obtain⟨r0,r1,r2,r3,r4,r5,r6,r7,r8,r9⟩:=Rq.at r hSw.1.2.2;go_simp;try with_reducible rfl);try simp only[av]
 clear g;refine bP (n:=6) rfl rfl ae (fun wz hSz=> ?_);simp only[List.toList_toArray,List.drop_succ_cons,List.drop_zero];have HZ:=aa hSz;clear hSz kC;go_wp2_with fail
 refine(Step.join q mb th b t HZ.out.1.1.2.1.1.1 HZ.out.1.1.2.1.1.2 r.a HR.out.1 _ HZ.out.1.1.1.1).mono ?_;rintro e w1 ⟨rfl,hs⟩;have HS:=aa (hs.on HZ.out.2);clear hs;go_wp2_with fail
 go_ret;exact⟨rfl,HS.out⟩
theorem Set.UD (S q mb th rb:Nat) (b:Int) (t:Tr It) (l:List Rq) (r:Rq) (hr:r.In) (gs gr:Nat) (w:World) (h:eP w S q mb th rb b t l) (hgs:Cs w gs [.pointer (some ⟨S,0,none⟩)]) (hgr:Cs w gr r.cells):Calls Tryz.prog 91 #[gs, .pointer (some ⟨gr,0,none⟩)] w (fun e w'=>e= .returned (.int .i64 (jY b t.list r.a))∧Stp q mb th (Br b t.list r.a) (vI b t.list r.a) t w w'):=by
 have kC:Hid ((eP w S q mb th rb b t l∧Cs w gs [.pointer (some ⟨S,0,none⟩)]∧Cs w gr r.cells)∧Below w w w):=aa ⟨⟨h,hgs,hgr⟩,Below.refl _ _⟩;have HR:=aa hr;clear h hr hgr hgs;go_enter Tryz.func91,Tryz.ntmps91;go_upto_region 1 with fail
 have aB:aF (fun wx=>(eP wx S q mb th rb b t l∧Cs wx gs [.pointer (some ⟨S,0,none⟩)]∧Cs wx gr r.cells)∧Below w w wx):=fun _ _ h hb=>⟨⟨h.1.1.below hb,h.1.2.1.below hb,h.1.2.2.below hb⟩,ai h.2 hb⟩;refine aA (S:=fun wx=>(eP wx S q mb th rb b t l∧Cs wx gs [.pointer (some ⟨S,0,none⟩)]∧Cs wx gr r.cells)∧Below w w wx) 6 ae (aB _ _ (kC.out) (Below.refl _ _).drew) ?_;refine aQ (aB) (fun _ h=>h) fun g=> ?_;refine tk 0 ?_ g ?_ ?_ (tk 1 ?_ g ?_ ?_ (tk 2 ?_ g ?_ ?_ (tk 3 ?_ g ?_ ?_ (tk 4 ?_ g ?_ ?_ (tk 5 ?_ g ?_ ?_ ?_)))));rotate_left;(·rfl);(·intro wq hSw;have g0:=hSw.1.2.1.aL;obtain⟨s0,s1⟩:=hSw.1.1.1.2.at;obtain⟨r0,r1,r2,r3,r4,r5,r6,r7,r8,r9⟩:=Rq.at r hSw.1.2.2;go_simp;try with_reducible rfl);iterate 2 (rotate_left;(·rfl);(·exact ah))
 rotate_left;(·rfl);(·intro wq hSw;have g0:=hSw.1.2.1.aL;obtain⟨s0,s1⟩:=hSw.1.1.1.2.at;obtain⟨r0,r1,r2,r3,r4,r5,r6,r7,r8,r9⟩:=Rq.at r hSw.1.2.2;go_simp;try with_reducible rfl);rotate_left;(·rfl);(·exact ah);rotate_left;(·rfl);(·intro wq hSw;have g0:=hSw.1.2.1.aL;obtain⟨s0,s1⟩:=hSw.1.1.1.2.at;obtain⟨r0,r1,r2,r3,r4,r5,r6,r7,r8,r9⟩:=Rq.at r hSw.1.2.2;go_simp;try with_reducible rfl);try simp only[av]
 clear g;refine bP (n:=6) rfl rfl ae (fun wz hSz=> ?_);simp only[List.toList_toArray,List.drop_succ_cons,List.drop_zero];have HZ:=aa hSz;clear hSz kC;go_wp2_with fail
 refine(Step.change q mb th b t HZ.out.1.1.2.1.1.1 HZ.out.1.1.2.1.1.2 r.a HR.out.1 _ HZ.out.1.1.1.1).mono ?_;rintro e w1 ⟨rfl,hs⟩;have HS:=aa (hs.on HZ.out.2);clear hs;go_wp2_with fail
 go_ret;exact⟨rfl,HS.out⟩
theorem dI8 {P:Prop} (h:P:=by
 rw[if_neg lh.out,if_neg lh.out,if_neg lh.out];exact HH.out.step HB1.out HS2.out ((HH.out.1.2.below HB1.out).aG (F:=foot q mb th t) (by obtain⟨_,_,_,_,_,_,h⟩:=HS2.out;exact h) (fun e=>HH.out.2.2.1 (List.mem_cons_of_mem _ e)) HH.out.2.2.2).2 (ax.refl _ _) HH.out.2.1.2.1 HH.out.2.1.2.2):P:=h
theorem Set.Rw (S q mb th rb:Nat) (b:Int) (t:Tr It) (l:List Rq) (r:Rq) (hr:r.In) (gs gr:Nat) (w:World) (h:eP w S q mb th rb b t l) (hgs:Cs w gs [.pointer (some ⟨S,0,none⟩)]) (hgr:Cs w gr r.cells):Calls Tryz.prog 72 #[S,r.val, .func (.func 73) #[] #[gs, .pointer (some ⟨gr,0,none⟩)]] w (fun e w'=>e= .returned (.int .i64 (nP b t.list r))∧mo S q mb th rb (Eu b t.list r) (Et b t.list r) (vH b t.list l r) t w w'):=by
 have ha:=aD w (.cells r 59);have HB0:=aa ha;have HX:Hid (Cs (w.alloc (.cells r 59)) w.heap.size r.cells):=aa (Rq.gM w 59 r);have HH:=aa h;have YF:=aa hgs;have YG:=aa hgr;have HR:=aa hr;have HF:Hid (w.heap.size∉foot q mb th t):=aa (fun e=>absurd (h.lt.2.2 _ e) af);clear ha h hr hgr hgs;unfold Rq.val;go_enter Tryz.func72,Tryz.ntmps72;go_upto_region 1 with fail
 generalize (w.alloc (.cells r 59))=W0 at HB0 HX⊢
 obtain⟨r0,r1,r2,r3,r4,r5,r6,r7,r8,r9⟩:=Rq.at r HX.out;go_wp2_with fail
 refine(gX.right r HR.out _).mono ?_;rintro e w1 ⟨rfl,hb⟩;have HB1:=aa (ai HB0.out hb);have bX:=aa (HX.out.below hb);clear hb HB0 HX r0 r1 r2 r3 r4 r5 r6 r7 r8 r9;cases CP:r.right with
 |false=>
  have hc:nP b t.list r=2:=by unfold nP;rw[CP];rfl
  have HC:=aa hc;clear hc CP;go_wp2_with fail
  go_ret;refine⟨by rw[HC.out]<;>rfl,?_⟩;unfold Eu Et vH;rw[HC.out];exact mo.same HH.out HB1.out
 |true=>
  have hc:nP b t.list r=gF b t.list r.a:=by unfold nP;rw[CP];rfl
  have HC:=aa hc;clear hc CP;go_wp2_with fail
  refine(Set.ND S q mb th rb b t l r HR.out gs gr _ (HH.out.below HB1.out) (YF.out.below HB1.out) (YG.out.below HB1.out)).mono ?_;rintro e w2 ⟨rfl,hs⟩;have HS:=aa hs;clear hs;by_cases h0:gF b t.list r.a=0
  ·have lh:=aa (HC.out.trans h0);have dK:=aa (bX.out.aG (F:=foot q mb th t) (by obtain⟨_,_,_,_,_,_,h⟩:=HS.out;exact h) HF.out);have zB:=aa ((HH.out.1.2.below HB1.out).aG (F:=foot q mb th t) (by obtain⟨_,_,_,_,_,_,h⟩:=HS.out;exact h) (fun e=>HH.out.2.2.1 (List.mem_cons_of_mem _ e)) HH.out.2.2.2);rw[h0];go_upto_region 8 with fail
   have aB:aF (fun wx=>(lS wx S q rb l∧Cs wx w r.cells)∧Below w2 w2 wx):=fun _ _ h hb=>⟨⟨h.1.1.below hb,h.1.2.below hb⟩,ai h.2 hb⟩;refine aA (S:=fun wx=>(lS wx S q rb l∧Cs wx w r.cells)∧Below w2 w2 wx) 8 ae (aB _ _ (⟨⟨zB.out,dK.out⟩,Below.refl _ _⟩) (Below.refl _ _).drew) ?_;refine aQ (aB) (fun _ h=>h) fun g=> ?_;refine tk 0 ?_ g ?_ ?_ (tk 1 ?_ g ?_ ?_ (tk 2 ?_ g ?_ ?_ (tk 3 ?_ g ?_ ?_ (tk 4 ?_ g ?_ ?_ (tk 5 ?_ g ?_ ?_ ?_)))));iterate 3 (rotate_left;(·rfl);(·exact ah))
   rotate_left;(·rfl);(·intro wq hSw;obtain⟨s0,s1⟩:=hSw.1.1.at;obtain⟨r0,r1,r2,r3,r4,r5,r6,r7,r8,r9⟩:=Rq.at r hSw.1.2;go_simp;try with_reducible rfl);iterate 2 (rotate_left;(·rfl);(·exact ah))
   try simp only[av]
   clear g;refine aQ (aB) (fun _ h=>h) fun g=> ?_;refine tk 6 ?_ g ?_ ?_ (tk 7 ?_ g ?_ ?_ ?_);iterate 2 (rotate_left;(·rfl);(·intro wq hSw;obtain⟨s0,s1⟩:=hSw.1.1.at;obtain⟨r0,r1,r2,r3,r4,r5,r6,r7,r8,r9⟩:=Rq.at r hSw.1.2;go_simp;try with_reducible rfl))
   try simp only[av]
   clear g;refine vo rfl rfl ae (fun wz hSz=> ?_);have HZ:=aa hSz;clear hSz;have O1:=HZ.out.1.1.2;have hjc:=Em h0
   have hx:∀y∈l,y.a.i≠r.a.i:=fun y hy e=>by
    obtain⟨z,hz,e2⟩:=(HH.out.mem r.a.i).1 ⟨y,hy,e⟩;exact hjc.2.1 z hz e2
   obtain⟨w4,hrun,o5,hc4⟩:=O1.put HR.out.1 hx (by have:=HH.out.few;omega)
   have DF:=aa (HH.out.step HB1.out (HS.out.off HZ.out.2) o5 hc4 (by
    rw[show vE b t.list r.a=jX r.a t.list by unfold vE;rw[if_pos h0]];exact((HH.out.2.1.2.1.cons r.a).trans (CL r.a t.list).symm)) (fun x hx=>by
    rcases List.mem_cons.1 hx with rfl|hx
    ·exact HR.out
    ·exact HH.out.2.1.2.2 x hx))
   clear O1 o5 hc4 hjc hx h0;unfold Rq.val at hrun;go_wp2_with fail
   go_ret;refine⟨by rw[lh.out]<;>rfl,?_⟩;unfold Eu Et vH;rw[if_pos lh.out,if_pos lh.out,if_pos lh.out];exact DF.out
  ·have HN:=aa h0;have lh:=aa (show ¬nP b t.list r=0 by rw[HC.out];exact h0);have hS:=HS.out;unfold Bh vE at hS;rw[if_neg h0,if_neg h0] at hS;have HS2:=aa hS;clear hS HS;go_wp2_with fail
   go_ret;refine⟨by rw[HC.out]<;>rfl,?_⟩;unfold Eu Et vH;exact dI8
theorem Set.Wj (S q mb th rb:Nat) (b:Int) (t:Tr It) (l:List Rq) (r:Rq) (hr:r.In) (gs gr:Nat) (w:World) (h:eP w S q mb th rb b t l) (hgs:Cs w gs [.pointer (some ⟨S,0,none⟩)]) (hgr:Cs w gr r.cells):Calls Tryz.prog 72 #[S,r.val, .func (.func 91) #[] #[gs, .pointer (some ⟨gr,0,none⟩)]] w (fun e w'=>e= .returned (.int .i64 (gP b t.list r))∧mo S q mb th rb (Ef b t.list r) (bH b t.list r) (vC b t.list l r) t w w'):=by
 have ha:=aD w (.cells r 59);have HB0:=aa ha;have HX:Hid (Cs (w.alloc (.cells r 59)) w.heap.size r.cells):=aa (Rq.gM w 59 r);have HH:=aa h;have YF:=aa hgs;have YG:=aa hgr;have HR:=aa hr;have HF:Hid (w.heap.size∉foot q mb th t):=aa (fun e=>absurd (h.lt.2.2 _ e) af);clear ha h hr hgr hgs;unfold Rq.val;go_enter Tryz.func72,Tryz.ntmps72;go_upto_region 1 with fail
 generalize (w.alloc (.cells r 59))=W0 at HB0 HX⊢
 obtain⟨r0,r1,r2,r3,r4,r5,r6,r7,r8,r9⟩:=Rq.at r HX.out;go_wp2_with fail
 refine(gX.right r HR.out _).mono ?_;rintro e w1 ⟨rfl,hb⟩;have HB1:=aa (ai HB0.out hb);have bX:=aa (HX.out.below hb);clear hb HB0 HX r0 r1 r2 r3 r4 r5 r6 r7 r8 r9;cases CP:r.right with
 |false=>
  have hc:gP b t.list r=2:=by unfold gP;rw[CP];rfl
  have HC:=aa hc;clear hc CP;go_wp2_with fail
  go_ret;refine⟨by rw[HC.out]<;>rfl,?_⟩;unfold Ef bH vC;rw[HC.out];exact mo.same HH.out HB1.out
 |true=>
  have hc:gP b t.list r=jY b t.list r.a:=by unfold gP;rw[CP];rfl
  have HC:=aa hc;clear hc CP;go_wp2_with fail
  refine(Set.UD S q mb th rb b t l r HR.out gs gr _ (HH.out.below HB1.out) (YF.out.below HB1.out) (YG.out.below HB1.out)).mono ?_;rintro e w2 ⟨rfl,hs⟩;have HS:=aa hs;clear hs;by_cases h0:jY b t.list r.a=0
  ·have lh:=aa (HC.out.trans h0);have dK:=aa (bX.out.aG (F:=foot q mb th t) (by obtain⟨_,_,_,_,_,_,h⟩:=HS.out;exact h) HF.out);have zB:=aa ((HH.out.1.2.below HB1.out).aG (F:=foot q mb th t) (by obtain⟨_,_,_,_,_,_,h⟩:=HS.out;exact h) (fun e=>HH.out.2.2.1 (List.mem_cons_of_mem _ e)) HH.out.2.2.2);rw[h0];go_upto_region 8 with fail
   have aB:aF (fun wx=>(lS wx S q rb l∧Cs wx w r.cells)∧Below w2 w2 wx):=fun _ _ h hb=>⟨⟨h.1.1.below hb,h.1.2.below hb⟩,ai h.2 hb⟩;refine aA (S:=fun wx=>(lS wx S q rb l∧Cs wx w r.cells)∧Below w2 w2 wx) 8 ae (aB _ _ (⟨⟨zB.out,dK.out⟩,Below.refl _ _⟩) (Below.refl _ _).drew) ?_;refine aQ (aB) (fun _ h=>h) fun g=> ?_;refine tk 0 ?_ g ?_ ?_ (tk 1 ?_ g ?_ ?_ (tk 2 ?_ g ?_ ?_ (tk 3 ?_ g ?_ ?_ (tk 4 ?_ g ?_ ?_ (tk 5 ?_ g ?_ ?_ ?_)))));iterate 3 (rotate_left;(·rfl);(·exact ah))
   rotate_left;(·rfl);(·intro wq hSw;obtain⟨s0,s1⟩:=hSw.1.1.at;obtain⟨r0,r1,r2,r3,r4,r5,r6,r7,r8,r9⟩:=Rq.at r hSw.1.2;go_simp;try with_reducible rfl);iterate 2 (rotate_left;(·rfl);(·exact ah))
   try simp only[av]
   clear g;refine aQ (aB) (fun _ h=>h) fun g=> ?_;refine tk 6 ?_ g ?_ ?_ (tk 7 ?_ g ?_ ?_ ?_);iterate 2 (rotate_left;(·rfl);(·intro wq hSw;obtain⟨s0,s1⟩:=hSw.1.1.at;obtain⟨r0,r1,r2,r3,r4,r5,r6,r7,r8,r9⟩:=Rq.at r hSw.1.2;go_simp;try with_reducible rfl))
   try simp only[av]
   clear g;refine vo rfl rfl ae (fun wz hSz=> ?_);have HZ:=aa hSz;clear hSz;have O1:=HZ.out.1.1.2;obtain⟨y,hy,hyi⟩:=(HH.out.mem r.a.i).2 (XJ h0);have Fs:=rC HH.out.ids hy;rw[hyi] at Fs;obtain⟨w4,hrun,o5,hc4⟩:=O1.set HR.out.1 Fs hyi (fun z hz=>(jK z hz).2) (by have:=HH.out.few;omega)
   have DF:=aa (HH.out.step HB1.out (HS.out.off HZ.out.2) o5 hc4 (by
    rw[show vI b t.list r.a=jX r.a (iE t.list r.a) by unfold vI;rw[if_pos h0]];refine List.Perm.trans ?_ (CL r.a _).symm;rw[List.map_cons,Ih];exact(HH.out.2.1.2.1.filter _).cons r.a) (fun x hx=>by
    rcases List.mem_cons.1 hx with rfl|hx
    ·exact HR.out
    ·exact HH.out.2.1.2.2 x (jK x hx).1))
   clear O1 o5 hc4 Fs hyi hy y h0;unfold Rq.val at hrun;go_wp2_with fail
   go_ret;refine⟨by rw[lh.out]<;>rfl,?_⟩;unfold Ef bH vC;rw[if_pos lh.out,if_pos lh.out,if_pos lh.out];exact DF.out
  ·have HN:=aa h0;have lh:=aa (show ¬gP b t.list r=0 by rw[HC.out];exact h0);have hS:=HS.out;unfold Br vI at hS;rw[if_neg h0,if_neg h0] at hS;have HS2:=aa hS;clear hS HS;go_wp2_with fail
   go_ret;refine⟨by rw[HC.out]<;>rfl,?_⟩;unfold Ef bH vC;exact dI8
theorem Set.enter (S q mb th rb:Nat) (b:Int) (t:Tr It) (l:List Rq) (r:Rq) (hr:r.In) (w:World) (h:eP w S q mb th rb b t l):Calls Tryz.prog 40 #[S,r.val] w (fun e w'=>e= .returned (.int .i64 (nP b t.list r))∧mo S q mb th rb (Eu b t.list r) (Et b t.list r) (vH b t.list l r) t w w'):=by
 have hb0:=aD w (.cells #[S] 45);have hb1:=hb0.alloc ag (.cells r 59);have hx:=Rq.gM (w.alloc (.cells #[S] 45)) 59 r;have HV:Hid ((Cs ((w.alloc (.cells #[S] 45)).alloc (.cells r 59)) w.heap.size [.pointer (some ⟨S,0,none⟩)]∧Cs ((w.alloc (.cells #[S] 45)).alloc (.cells r 59)) (w.heap.size+1) r.cells)∧Below w w ((w.alloc (.cells #[S] 45)).alloc (.cells r 59))):=aa ⟨⟨(Cs.bL w 45 [.pointer (some ⟨S,0,none⟩)]).alloc _,by simpa using hx⟩,hb1⟩;have HH:=aa h;have HR:=aa hr;clear hb0 hb1 hx h hr;unfold Rq.val;go_enter Tryz.func40,Tryz.ntmps40;go_upto_region 1 with fail
 generalize ((w.alloc (.cells #[S] 45)).alloc (.cells r 59))=W0 at HV⊢
 have s0:=HV.out.1.1.aL;obtain⟨r0,r1,r2,r3,r4,r5,r6,r7,r8,r9⟩:=Rq.at r HV.out.1.2;go_wp2_with fail
 refine(Set.Rw S q mb th rb b t l r HR.out _ _ _ (HH.out.below HV.out.2) HV.out.1.1 HV.out.1.2).mono ?_;rintro e w1 ⟨rfl,hs⟩;have HS:=aa (hs.on HV.out.2);clear hs s0 r0 r1 r2 r3 r4 r5 r6 r7 r8 r9;go_wp2_with fail
 go_ret;exact⟨rfl,HS.out⟩
theorem Set.put (S q mb th rb:Nat) (b:Int) (t:Tr It) (l:List Rq) (r:Rq) (hr:r.In) (w:World) (h:eP w S q mb th rb b t l):Calls Tryz.prog 58 #[S,r.val] w (fun e w'=>e= .returned (.int .i64 (gP b t.list r))∧mo S q mb th rb (Ef b t.list r) (bH b t.list r) (vC b t.list l r) t w w'):=by
 have hb0:=aD w (.cells #[S] 45);have hb1:=hb0.alloc ag (.cells r 59);have hx:=Rq.gM (w.alloc (.cells #[S] 45)) 59 r;have HV:Hid ((Cs ((w.alloc (.cells #[S] 45)).alloc (.cells r 59)) w.heap.size [.pointer (some ⟨S,0,none⟩)]∧Cs ((w.alloc (.cells #[S] 45)).alloc (.cells r 59)) (w.heap.size+1) r.cells)∧Below w w ((w.alloc (.cells #[S] 45)).alloc (.cells r 59))):=aa ⟨⟨(Cs.bL w 45 [.pointer (some ⟨S,0,none⟩)]).alloc _,by simpa using hx⟩,hb1⟩;have HH:=aa h;have HR:=aa hr;clear hb0 hb1 hx h hr;unfold Rq.val;go_enter Tryz.func58,Tryz.ntmps58;go_upto_region 1 with fail
 generalize ((w.alloc (.cells #[S] 45)).alloc (.cells r 59))=W0 at HV⊢
 have s0:=HV.out.1.1.aL;obtain⟨r0,r1,r2,r3,r4,r5,r6,r7,r8,r9⟩:=Rq.at r HV.out.1.2;go_wp2_with fail
 refine(Set.Wj S q mb th rb b t l r HR.out _ _ _ (HH.out.below HV.out.2) HV.out.1.1 HV.out.1.2).mono ?_;rintro e w1 ⟨rfl,hs⟩;have HS:=aa (hs.on HV.out.2);clear hs s0 r0 r1 r2 r3 r4 r5 r6 r7 r8 r9;go_wp2_with fail
 go_ret;exact⟨rfl,HS.out⟩
end


section
open Go.RowKit
set_option maxRecDepth 100000
set_option maxHeartbeats 32000000
theorem eP.away {F:List Nat} {w w':World} {S q mb th rb:Nat} {b:Int} {t:Tr It} {l:List Rq} (h:eP w S q mb th rb b t l) (hc:ax F w w') (hF:∀g∈F,∀f a c,w.cell? g≠some (.func f a c)) (hd:∀g∈S::rb::foot q mb th t,g∉F):eP w' S q mb th rb b t l:=
 ⟨⟨h.1.1.away hc hF (fun g hg=>hd g (by simp[hg])),h.1.2.aG hc (hd S ag) (hd rb ag)⟩,h.2⟩
theorem mo.away {z:Nat} {w W W4 W5:World} {S q mb th rb:Nat} {b b':Int} {t:Tr It} {l l':List Rq} {L':List It} (h0:eP w S q mb th rb b t l) (h:mo S q mb th rb b' L' l' t W W4) (hb:Below w w W) (hc:ax [z] W4 W5) (hz1:w.heap.size≤z) (hz2:z<W.heap.size) (hcell:∀f a c,W4.cell? z≠some (.func f a c)):mo S q mb th rb b' L' l' t w W5:=by
 obtain⟨t',h1,h2,h3,h4⟩:=h;have hlt:=h0.lt;refine⟨t',h1,h2.away hc (fun g hg=>by simp at hg;subst hg;exact hcell) (fun g hg e=> ?_),fun g hg=>(h3 g hg).imp id (fun h=>by have:=hb.size;omega),((ax.below (F:=rb::foot q mb th t) hb).trans h4 (fun g hg=>Or.inl hg)).trans hc (fun g hg=>by simp at hg;subst hg;exact Or.inr hz1)⟩;simp only[List.mem_singleton] at e;subst e;rcases List.mem_cons.1 hg with rfl|hg
 ·omega
 ·rcases List.mem_cons.1 hg with rfl|hg
  ·omega
  ·rcases xJ h3 g hg with h5|h5
   ·have:=hlt.2.2 _ h5;omega
   ·omega
theorem Set.new (c:Int) (hc:eZ c) (w:World):Calls Tryz.prog 19 #[.int .u64 c] w (fun e w'=>∃S q mb th rb,e= .returned (.pointer (some ⟨S,0,none⟩))∧eP w' S q mb th rb c .nil []∧(∀g∈S::rb::foot q mb th .nil,w.heap.size≤g)∧Below w w w'):=by
 have hmm:= @run_makeMap Tryz.prog;have HC:=aa hc;clear hc;go_enter Tryz.func19,Tryz.ntmps19;go_wp2_with fail
 refine(Queue.new c HC.out _).mono ?_;rintro e w1 ⟨q,mb,th,rfl,hq,hf,hb⟩
 have HF:Hid (eP ((w1.alloc (.map #[] 0)).alloc (.cells #[q, .map (some w1.heap.size)] 51)) (w1.heap.size+1) q mb th w1.heap.size c .nil []∧(∀g∈(w1.heap.size+1)::w1.heap.size::foot q mb th .nil,w.heap.size≤g)∧Below w w ((w1.alloc (.map #[] 0)).alloc (.cells #[q, .map (some w1.heap.size)] 51))):=aa (by
  have h0:=aD w1 (.map #[] 0);have h1:=(Below.refl (w1.alloc (.map #[] 0)).heap.size (w1.alloc (.map #[] 0))).alloc ay (.cells #[q, .map (some w1.heap.size)] 51);have hs:=Cs.bL (w1.alloc (.map #[] 0)) 51 [.pointer (some ⟨q,0,none⟩), .map (some w1.heap.size)];simp only[World.size_alloc] at hs;have e:(⟨c,0,0,0⟩:Mu)=qM c (Tr.nil:Tr It).list:=by simp[qM,Mu.sums,dD,dL,Tr.list]
  rw[e] at hq;have hlt:=hq.gW;have hsz:=hb.size;refine⟨⟨⟨(hq.below h0).below h1,hs,(jl.made w1).below h1⟩,⟨⟨fZ.nil HC.out,Tr.Whole.nil⟩,by simp[Tr.list],by simp⟩,?_,fun h=>absurd (hlt _ h) af⟩,?_,ai (ai hb h0) h1⟩
  ·intro h;rcases List.mem_cons.1 h with h|h
   ·omega
   ·exact absurd (hlt _ h) af
  ·intro g hg;rcases List.mem_cons.1 hg with rfl|hg
   ·omega
   ·rcases List.mem_cons.1 hg with rfl|hg
    ·omega
    ·exact hf g hg)
 clear hq hf hb;go_wp2_with fail
 go_ret;exact⟨_,_,_,_,_,rfl,HF.out⟩
theorem Set.Ja (S q mb th rb:Nat) (b:Int) (t:Tr It) (l:List Rq) (x:Rq) (hx:x∈l) (w:World) (h:eP w S q mb th rb b t l):Calls Tryz.prog 84 #[S, .int .i64 x.a.i] w (fun e w'=>e= .returned (.tuple #[x.val, .int .i64 0])∧mo S q mb th rb (xD x.a.i b t.list) (rU x.a.i t.list) (iO x.a.i l) t w w'):=by
 have HH:=aa h;have HX:=aa hx;have ek:=aa (h.2.1.2.2 x hx);have hal:=aD w (.cells dw 59);have HB0:=aa hal;have HZ:Hid (Cs (w.alloc (.cells dw 59)) w.heap.size Rq.no.cells):=aa (Rq.gM w 59 Rq.no);clear h hal hx;go_enter Tryz.func84,Tryz.ntmps84;go_upto_region 1 with fail
 generalize (w.alloc (.cells dw 59))=W0 at HB0 HZ⊢
 go_wp2_with fail
 refine(Set.lI S q rb l x HX.out ek.out _ (HH.out.1.2.below HB0.out)).mono ?_;rintro e w1 ⟨rfl,hb⟩;have ha:=aD w1 (.cells x 59);have bX:Hid (Cs (w1.alloc (.cells x 59)) w1.heap.size x.cells):=aa (Rq.gM w1 59 x);have HZ1:=aa ((HZ.out.below hb).below ha);have HB1:=aa (ai (ai HB0.out hb) ha);have oo:Hid (w.heap.size<w1.heap.size):=aa (HZ.out.below hb).lt;have gG:Hid (w.heap.size<(w1.alloc (.cells x 59)).heap.size):=aa HZ1.out.lt;clear hb ha HB0 HZ;unfold Rq.val;go_upto_region 2 with fail
 generalize (w1.alloc (.cells x 59))=W1 at bX HZ1 HB1 gG⊢
 generalize w1.heap.size=gx at bX oo⊢
 obtain⟨s0,s1⟩:=(HH.out.1.2.below HB1.out).at;go_wp2_with fail
 refine(Step.leave q mb th b t HH.out.2.1.1.1 HH.out.2.1.1.2 x.a.i ek.out.1.2.2.2.1 _ (HH.out.1.1.below HB1.out)).mono ?_;rintro e w2 ⟨⟨y,rfl⟩,hs⟩;have HS:=aa hs;clear hs s0 s1;have iB:Hid (ax (foot q mb th t) W1 w2):=aa (by obtain⟨_,_,_,_,_,_,h⟩:=HS.out;exact h);have dK:=aa (bX.out.aG iB.out (fun e=>absurd (HH.out.lt.2.2 _ e) (by have:=oo.out;omega)));have HZ2:=aa (HZ1.out.aG iB.out (fun e=>absurd (HH.out.lt.2.2 _ e) af));have zB:=aa ((HH.out.1.2.below HB1.out).aG iB.out (fun e=>HH.out.2.2.1 (List.mem_cons_of_mem _ e)) HH.out.2.2.2);obtain⟨s0,s1⟩:=zB.out.at;obtain⟨w4,hrun,o5,hc4⟩:=zB.out.2.del ek.out.1 (rC HH.out.ids HX.out) (fun z hz=>(jK z hz).2) 0
 have DF:=aa ((HH.out.below HB1.out).step o7 HS.out o5 hc4 (by
  rw[Ih];exact HH.out.2.1.2.1.filter _) (fun z hz=>HH.out.2.1.2.2 z (jK z hz).1))
 have kY:=aa (dK.out.aG hc4 (by have:=HH.out.lt.2.1;have:=oo.out;simp;omega));have uY:=aa (HZ2.out.aG hc4 (by have:=HH.out.lt.2.1;simp;omega));clear o5 hc4;go_upto_region 6 with fail
 clear hrun s0 s1 bX HZ1 dK HZ2 zB HS iB;obtain⟨x0,x1,x2,x3,x4,x5,x6,x7,x8,x9⟩:=Rq.at x kY.out;go_wp2_with (first|((with_reducible refine bG 59 x.cells jr rfl (.tmp 4) (.tmp 29) rfl w.heap.size _ uY.out ?_ ?_ ?_ ?_ ?_ ?_);(iterate 5 (·rfl));(intro W5 hW5);(have HY:=aa (show Cs W5 w x.cells∧ax [w.heap.size] w4 W5 by subst hW5;exact⟨Cs.bH x.cells 0 uY.out (by simp[Rq.cells]),ax.sets _ _ (ax.refl _ _) (Or.inl ag)⟩));(clear hW5 x0 x1 x2 x3 x4 x5 x6 x7 x8 x9);(obtain⟨z0,z1,z2,z3,z4,z5,z6,z7,z8,z9⟩:=Rq.at x HY.out.1))|fail)
 refine bodyPost_ret (v:= .tuple #[x.val, .int .i64 0]) (by simp[results,Tryz.results84,go_sem,z0,z1,z2,z3,z4,z5,z6,z7,z8,z9,Rq.val]) rfl ⟨rfl,mo.away HH.out DF.out HB1.out HY.out.2 ay gG.out (fun f a c e=> ?_)⟩;have:=uY.out.aL;rw[this] at e;cases e
end


section
open Go.RowKit Go.Lib
set_option maxRecDepth 100000
set_option maxHeartbeats 32000000
theorem mem_keys {D:DataW Rq} {i:Int} (h:Maps.has D (iP i)=true):i∈intKeys D:=by
 cases D with
 |map es=>
  rw[Maps.has_eq,List.any_eq_true] at h;obtain⟨p,hp,hk⟩:=h;refine List.mem_map.2 ⟨p,hp,?_⟩;cases hl:p.1 with
  |int q a=>
   rw[hl] at hk;have e:q= .i64∧a=i:=of_decide_eq_true hk;exact e.2
  |_=>rw[hl] at hk;simp[iP,Lit.sameKey] at hk
 |_=>simp[Maps.has] at h
theorem MW {D:DataW Rq} {l ss:List Rq} (hsz:Maps.size D=l.length) (h3:∀x∈l,Maps.has D (iP x.a.i)=true∧∀z,D.atKey (iP x.a.i) z= .held x) (hn:(l.map (·.a.i)).Nodup) (hg:rO qa D ss):l.Perm ss:=by
 refine Kk hn (fun x hx=> ?_) (by have:=hg.le;omega);have hi:=mem_keys (h3 x hx).1;obtain⟨ps,hp,hr,rfl⟩:=hg;obtain⟨p,hpm,hpi⟩:=List.mem_map.1 (hp.mem_iff.2 hi);obtain⟨y,hy,hz⟩:=hr p hpm;rw[tu] at hy;injection hy with hy;subst hy;have h4:=(hz (.held x)).symm;rw[hpi] at h4;have h5:=h4.trans ((h3 x hx).2 (.held x));simp only[DataW.held.injEq] at h5;exact List.mem_map.2 ⟨p,hpm,h5⟩
theorem Set.reqs (S q rb:Nat) (l:List Rq) (hl:l.length≤1000000) (hn:(l.map (·.a.i)).Nodup) (w:World) (h:lS w S q rb l):Calls Tryz.prog 13 #[S] w (fun e w'=>∃A c ts,e= .returned (.slice A ts.length c)∧(ts.Perm l∧ts.Pairwise fun x y=>x.a.i≤y.a.i)∧bO Rq.cells 10 59 w' w.heap.size A ts.length c ts∧Below w w w'):=by
 obtain⟨_,s1⟩:=h.at;obtain⟨D,h1,h2,h3,_⟩:=h.2;refine(mY.all S rb l.length D (R:=qa) (fun v y hv=>by obtain⟨c,e,_⟩:=Jv hv;exact⟨c,e⟩) af w s1 h1).mono ?_;rintro e w' ⟨v,ss,ts,rfl,hg,_,hp,hr,hrow,hb⟩;have hpl:=hp.trans (MW h2 h3 hn hg).symm
 obtain⟨A,c,rfl⟩:∃A c,v= .slice A ts.length c:=by
  obtain⟨_,⟨rfl,e⟩|⟨g,cap,_,rfl,_⟩⟩:=hrow
  ·exact⟨none,0,by rw[e]⟩
  ·exact⟨_,cap,rfl⟩
 exact⟨A,c,ts,rfl,⟨hpl,hr⟩,hrow,hb⟩
def rT (l:List Rq):Nat:=(l.filter fun x=> !x.z).length
theorem Oe {l k:List Rq} (h:l.Perm k):rT l=rT k:=(h.filter _).length_eq
theorem Od {l:List Rq} {k:Nat} (hk:k<l.length):rT (l.take (k+1))=rT (l.take k)+if (l.getD k Rq.no).z=true then 0 else 1:=by
 have e:l.getD k Rq.no=l[k]:=by simp[List.getD,hk]
 unfold rT;rw[List.take_add_one,List.filter_append,List.length_append,List.getElem?_eq_getElem hk,e];cases hz:l[k].z<;>simp[hz]
theorem UL (l:List Rq) (k:Nat):rT (l.take k)≤k:=by
 unfold rT;have h1:=List.length_filter_le (fun x:Rq=> !x.z) (l.take k);have h2:=List.length_take_le k l;omega
theorem Rq.of {w:World} {g o:Nat} (x:Rq) (h:w.rangeAt g o x.cells):w.cell? ⟨g,o,none⟩=some (.int .u64 x.a.t)∧w.cell? ⟨g,o+1,none⟩=some (.int .u32 x.a.r)∧w.cell? ⟨g,o+2,none⟩=some (.int .u32 x.a.v)∧w.cell? ⟨g,o+3,none⟩=some (.int .i64 x.a.i)∧w.cell? ⟨g,o+4,none⟩=some (.int .u64 x.a.u)∧w.cell? ⟨g,o+5,none⟩=some (.int .u32 x.a.s)∧w.cell? ⟨g,o+6,none⟩=some (.int .u32 x.a.y)∧w.cell? ⟨g,o+7,none⟩=some (.int .u64 x.l)∧w.cell? ⟨g,o+8,none⟩=some (.int .u64 x.s)∧w.cell? ⟨g,o+9,none⟩=some (.bool x.z):=
 ⟨h 0 _ rfl,h 1 _ rfl,h 2 _ rfl,h 3 _ rfl,h 4 _ rfl,h 5 _ rfl,h 6 _ rfl,h 7 _ rfl,h 8 _ rfl,h 9 _ rfl⟩
theorem Rq.Sl (x:Rq):x.cells.length=10:=rfl
theorem Set.runnable (S q rb:Nat) (l:List Rq) (hl:l.length≤32) (hn:(l.map (·.a.i)).Nodup) (w:World) (h:lS w S q rb l):Calls Tryz.prog 157 #[S] w (aV (.int .i64 (rT l)) w):=by
 have HH:=aa h;have HN:=aa hn;have HL:=aa hl;clear h hn hl;go_enter Tryz.func157,Tryz.ntmps157;go_wp2_with fail
 refine(Set.reqs S q rb l (by have:=HL.out;omega) HN.out _ HH.out).mono ?_;rintro e w1 ⟨A,c,ts,rfl,⟨hp,_⟩,ho,hb⟩;have HR:=aa (ho.rd Rq.Sl af Rq.no);have HB:=aa hb;have HE:=aa (Oe hp);have hni:(ts.length:Int)≤32:=by have:=hp.length_eq;have:=HL.out;omega
 obtain⟨n,hnn⟩:∃n,n=ts.length:=⟨_,rfl⟩;have jV:=aa hnn;rw[←hnn] at hni HR⊢
 clear hp ho hb hnn;go_wp2_with fail
 go_loopg [3,9] n (fun s c i wr=>∃k:Nat,i= .int .i64 k∧c= .int .i64 (rT (ts.take k))∧k≤n∧s=n-k∧Below w1 w1 wr)
 case atStart=>exact⟨0,rfl,rfl,Nat.zero_le _,by omega,Below.refl _ _⟩
 case round=>
  obtain⟨k,rfl,rfl,hk,hs,hbr⟩:=hrel;have HS:=aa hs;have qC:=aa hbr;clear hs hbr;by_cases hkn:k<n
  ·obtain⟨bb,off,hA,_,hc⟩:=(HR.out.below qC.out).2 af;obtain⟨p0,p1,p2,p3,p4,p5,p6,p7,p8,p9⟩:=Rq.of _ (hc k hkn);have Aq:=aa (Od (l:=ts) (k:=k) (by rw[←jV.out];exact hkn));have hrl:=UL ts k;generalize rT (ts.take k)=u at *;generalize ts.getD k Rq.no=y at *;subst hA;have hki:(k:Int)<n:=af;have hk0:(0:Int)≤k:=af;clear hc;have HY:Hid (Cs (wr.alloc (.cells y 59)) wr.heap.size y.cells∧Below w1 w1 (wr.alloc (.cells y 59))):=aa ⟨Rq.gM wr 59 y,ai qC.out ((Below.refl _ _).alloc ay _)⟩;go_upto_region 5 with fail
   generalize (wr.alloc (.cells y 59))=Wy at HY⊢
   clear p0 p1 p2 p3 p4 p5 p6 p7 p8 p9;generalize wr.heap.size=gy at HY⊢
   obtain⟨x0,x1,x2,x3,x4,x5,x6,x7,x8,x9⟩:=Rq.at y HY.out.1;cases hz:y.z with
   |true=>
    rw[hz] at x9;have HZ:=aa hz;clear hz;go_wp2_with fail
    go_roundg (n-(k+1))
    case measure=>have:=HS.out;omega
    case rel=>exact⟨k+1,by go_num,by rw[Aq.out,if_pos HZ.out];rfl,by omega,rfl,HY.out.2⟩
   |false=>
    rw[hz] at x9;have HZ:=aa hz;clear hz;go_wp2_with fail
    go_roundg (n-(k+1))
    case measure=>have:=HS.out;omega
    case rel=>exact⟨k+1,by go_num,by rw[Aq.out,if_neg (by rw[HZ.out];simp)];go_num,by omega,rfl,HY.out.2⟩
  ·obtain rfl:k=n:=af;have hki:¬(k:Int)<k:=af;have HT:=aa (show rT (ts.take k)=rT l by rw[jV.out,List.take_length];exact HE.out);go_wp2_with fail
   go_ret;exact⟨by rw[HT.out]<;>rfl,ai HB.out qC.out⟩
theorem Set.Q6 (S q mb th rb:Nat) (b:Int) (t:Tr It) (l:List Rq) (i:Int) (z:Bool) (hi: -9223372036854775808≤i∧i≤9223372036854775807) (hn:∀x∈l,x.a.i≠i) (w:World) (h:eP w S q mb th rb b t l):Calls Tryz.prog 53 #[S, .int .i64 i, .bool z] w (aV (.int .i64 14) w):=by
 have HH:=aa h;have HI:=aa hi;have HN:=aa hn;clear h hi hn;go_enter Tryz.func53,Tryz.ntmps53;go_wp2_with fail
 refine(Set.wF S q rb l i HI.out HN.out _ HH.out.1.2).mono ?_;rintro e w1 ⟨rfl,hb⟩;have HB1:=aa (ai hb (aD w1 (.cells dw 59)));clear hb;unfold Rq.val;go_wp2_with fail
 go_ret;exact⟨rfl,HB1.out⟩
theorem Set.Og (S q mb th rb:Nat) (b:Int) (t:Tr It) (l:List Rq) (x:Rq) (z:Bool) (hx:x∈l) (w:World) (h:eP w S q mb th rb b t l):Calls Tryz.prog 53 #[S, .int .i64 x.a.i, .bool z] w (fun e w'=>e= .returned (.int .i64 0)∧mo S q mb th rb b t.list (Rq.mk x.a x.l x.s z::iO x.a.i l) t w w'):=by
 have HH:=aa h;have HX:=aa hx;have ek:=aa (h.2.1.2.2 x hx);clear h hx;go_enter Tryz.func53,Tryz.ntmps53;go_wp2_with fail
 refine(Set.lI S q rb l x HX.out ek.out _ HH.out.1.2).mono ?_;rintro e w1 ⟨rfl,hb⟩;have ha:=aD w1 (.cells x 59);have bX:Hid (Cs (w1.alloc (.cells x 59)) w1.heap.size x.cells):=aa (Rq.gM w1 59 x);have HB1:=aa (ai hb ha);have oo:Hid (w.heap.size≤w1.heap.size):=aa hb.size;clear hb ha;unfold Rq.val;go_upto_region 2 with fail
 generalize (w1.alloc (.cells x 59))=W1 at bX HB1⊢
 generalize w1.heap.size=gx at bX oo⊢
 obtain⟨x0,x1,x2,x3,x4,x5,x6,x7,x8,x9⟩:=Rq.at x bX.out;have f9:=(bX.out 9 _ rfl).2;go_upto_region 5 with fail
 obtain⟨W2,hW2⟩:∃W2,W2=W1.setCell ⟨gx,9,none⟩ (.bool z):=⟨_,rfl⟩;have dK:Hid (Cs W2 gx (Rq.mk x.a x.l x.s z).cells):=aa (by rw[hW2];exact bX.out.set 9 (by simp[Rq.cells]) (.bool z));have HB2:Hid (Below w w W2):=aa (by rw[hW2];exact aU oo.out [.bool z] 9 HB1.out);rw[←hW2];clear hW2 f9 x0 x1 x2 x3 x4 x5 x6 x7 x8 x9 bX HB1;have aB:aF (fun wx=>(lS wx S q rb l∧Cs wx gx (Rq.mk x.a x.l x.s z).cells)∧Below W2 W2 wx):=fun _ _ h hb=>⟨⟨h.1.1.below hb,h.1.2.below hb⟩,ai h.2 hb⟩;refine aA (S:=fun wx=>(lS wx S q rb l∧Cs wx gx (Rq.mk x.a x.l x.s z).cells)∧Below W2 W2 wx) 6 ae (aB _ _ (⟨⟨HH.out.1.2.below HB2.out,dK.out⟩,Below.refl _ _⟩) (Below.refl _ _).drew) ?_;refine aQ (aB) (fun _ h=>h) fun g=> ?_;refine tk 0 ?_ g ?_ ?_ (tk 1 ?_ g ?_ ?_ (tk 2 ?_ g ?_ ?_ (tk 3 ?_ g ?_ ?_ (tk 4 ?_ g ?_ ?_ (tk 5 ?_ g ?_ ?_ ?_)))));iterate 3 (rotate_left;(·rfl);(·exact ah))
 rotate_left;(·rfl);(·intro wq hSw;obtain⟨s0,s1⟩:=hSw.1.1.at;obtain⟨x0,x1,x2,x3,x4,x5,x6,x7,x8,x9⟩:=Rq.at (Rq.mk x.a x.l x.s z) hSw.1.2;go_simp;try with_reducible rfl);rotate_left;(·rfl);(·exact ah);rotate_left;(·rfl);(·intro wq hSw;obtain⟨s0,s1⟩:=hSw.1.1.at;obtain⟨x0,x1,x2,x3,x4,x5,x6,x7,x8,x9⟩:=Rq.at (Rq.mk x.a x.l x.s z) hSw.1.2;go_simp;try with_reducible rfl);try simp only[av]
 clear g;refine vo rfl rfl ae (fun wz hSz=> ?_);have HZ:=aa hSz;clear hSz;obtain⟨w4,hrun,o5,hc4⟩:=HZ.out.1.1.2.set (x:=Rq.mk x.a x.l x.s z) ek.out.1 (rC HH.out.ids HX.out) rfl (fun y hy=>(jK y hy).2) (by have:=HH.out.few;omega)
 have DF:=aa (HH.out.step (ai HB2.out HZ.out.2) (Stp.same ((HH.out.1.1.below HB2.out).below HZ.out.2) HH.out.2.1.1.1 HH.out.2.1.1.2 o7) o5 hc4 (by
  refine List.Perm.trans ?_ HH.out.2.1.2.1
  exact((rC HH.out.ids HX.out).map (·.a)).symm) (fun y hy=>by
   rcases List.mem_cons.1 hy with rfl|hy
   ·exact ek.out
   ·exact HH.out.2.1.2.2 y (jK y hy).1))
 clear o5 hc4;unfold Rq.val at hrun;go_wp2_with fail
 go_ret;exact⟨rfl,DF.out⟩
def Ho (i:Int) (z:Bool) (l:List Rq):List Rq:=match l.find? (fun x=>x.a.i == i) with
 |some x=>Rq.mk x.a x.l x.s z::iO i l
 |none=>l
theorem Set.Mk (S q mb th rb:Nat) (b:Int) (t:Tr It) (l:List Rq) (i:Int) (z:Bool) (hi: -9223372036854775808≤i∧i≤9223372036854775807) (w:World) (h:eP w S q mb th rb b t l):Calls Tryz.prog 53 #[S, .int .i64 i, .bool z] w (fun e w'=>e= .returned (.int .i64 (xC i t.list))∧mo S q mb th rb b t.list (Ho i z l) t w w'):=by
 unfold Ho;cases hf:l.find? (fun x=>x.a.i == i) with
 |some x=>
  have hx:=List.mem_of_find?_eq_some hf;have hxi:x.a.i=i:=by simpa using List.find?_some hf
  subst hxi;have hxt:=(h.mem x.a.i).1 ⟨x,hx,rfl⟩;have ha:anyI x.a.i t.list=true:=by unfold anyI;rw[List.any_eq_true];obtain⟨y,hy,e⟩:=hxt;exact⟨y,hy,by simpa using e⟩
  refine(Set.Og S q mb th rb b t l x z hx w h).mono ?_;rintro e w' ⟨rfl,hs⟩;exact⟨by unfold xC;rw[if_pos ha],hs⟩
 |none=>
  have hn:∀x∈l,x.a.i≠i:=fun x hm e=>by have:=List.find?_eq_none.1 hf x hm;simp[e] at this
  have hnt:∀y∈t.list,y.i≠i:=fun y hy e=>by obtain⟨x,hx,e2⟩:=(h.mem i).2 ⟨y,hy,e⟩;exact hn x hx e2
  have ha:anyI i t.list=false:=by unfold anyI;rw[List.any_eq_false];intro y hy;simpa using hnt y hy
  refine(Set.Q6 S q mb th rb b t l i z hi hn w h).mono ?_;rintro e w' ⟨rfl,hb⟩;exact⟨by unfold xC;rw[if_neg (by rw[ha];simp)],mo.same h hb⟩
end


section
open Go.RowKit
def fO (S q mb th rb:Nat) (t:Tr It):List Nat:=S::rb::foot q mb th t
theorem eP.gW {w:World} {S q mb th rb:Nat} {b:Int} {t:Tr It} {l:List Rq} (h:eP w S q mb th rb b t l):∀g∈fO S q mb th rb t,g<w.heap.size:=fun g hg=>by
 rcases List.mem_cons.1 hg with rfl|hg
 ·exact h.lt.1
 ·rcases List.mem_cons.1 hg with rfl|hg
  ·exact h.lt.2.1
  ·exact h.lt.2.2 g hg
theorem oQ {S q mb th rb n:Nat} {t t':Tr It} (hb:∀g∈t'.blocks,g∈t.blocks∨n≤g):∀g∈fO S q mb th rb t',g∈fO S q mb th rb t∨n≤g:=fun g hg=>by
 rcases List.mem_cons.1 hg with rfl|hg
 ·exact Or.inl (by simp[fO])
 ·rcases List.mem_cons.1 hg with rfl|hg
  ·exact Or.inl (by simp[fO])
  ·exact(xJ hb g hg).imp (fun h=>by simp[fO,h]) id
-- shifted
end


section
open Go.RowKit
def xz (m:Mu) (x:Rq):Bool:=x.z&&decide (0≤(m.sign x.a.pp).2)
def za (m:Mu) (ts:List Rq):Option Rq:=ts.find? (xz m)
def Xj (o:Option Rq):Int:=match o with
 |some x=>x.a.i
 |none=>0
theorem Lc {p:Rq→Bool}:∀(ts:List Rq) (k:Nat),k<ts.length→(∀j,j<k→p (ts.getD j Rq.no)=false)→p (ts.getD k Rq.no)=true→ts.find? p=some (ts.getD k Rq.no)
 |[],k,h,_,_=>by simp at h
 |x::ts,0,_,_,h=>by
  have h':p x=true:=h;rw[List.find?_cons_of_pos h'];rfl
 |x::ts,k+1,hk,hj,h=>by
  have h0:p x=false:=hj 0 af;rw[List.find?_cons_of_neg (by simp[h0])];exact Lc ts k (by simpa using hk) (fun j h1=>hj (j+1) af) h
theorem Xo {p:Rq→Bool} {ts:List Rq} (h:∀j,j<ts.length→p (ts.getD j Rq.no)=false):ts.find? p=none:=by
 rw[List.find?_eq_none];intro x hx;obtain⟨j,hj,rfl⟩:=List.getElem_of_mem hx;have:=h j hj;simp only[List.getD,List.getElem?_eq_getElem hj,Option.getD_some] at this;simp[this]
set_option maxRecDepth 100000 in
set_option maxHeartbeats 8000000 in
theorem Set.Zf (S q mb th rb:Nat) (b:Int) (t:Tr It) (l:List Rq) (w:World) (h:eP w S q mb th rb b t l):Calls Tryz.prog 153 #[S] w (fun e w'=>∃ts,(ts.Perm l∧ts.Pairwise fun x y=>x.a.i≤y.a.i)∧e= .returned (.tuple #[.int .i64 (Xj (za (qM b t.list) ts)), .bool (za (qM b t.list) ts).isSome])∧Below w w w'):=by
 have HH:=aa h;clear h;go_enter Tryz.func153,Tryz.ntmps153;go_wp2_with fail
 refine(Set.reqs S q rb l (by have:=HH.out.few;omega) HH.out.ids _ HH.out.1.2).mono ?_;rintro e w1 ⟨A,c,ts,rfl,Fs,ho,hb⟩;have HPP:=aa Fs;have HR:=aa (ho.rd Rq.Sl af Rq.no);have HB:=aa hb;have HA1:=aa (HH.out.below hb);have hni:(ts.length:Int)≤32:=by have:=Fs.1.length_eq;have:=HH.out.few;omega
 have zA:Hid (∀j,j<ts.length→(ts.getD j Rq.no)∈l):=aa (fun j hj=>by
  have e:ts.getD j Rq.no=ts[j]:=by simp[List.getD,hj]
  rw[e];exact Fs.1.mem_iff.1 (List.getElem_mem hj))
 obtain⟨n,hnn⟩:∃n,n=ts.length:=⟨_,rfl⟩;have jV:=aa hnn;rw[←hnn] at hni HR zA⊢
 clear Fs ho hb hnn;go_wp2_with fail
 go_loopg [11] n (fun s i wr=>∃k:Nat,i= .int .i64 k∧k≤n∧s=n-k∧(∀j,j<k→xz (qM b t.list) (ts.getD j Rq.no)=false)∧Below w1 w1 wr)
 case atStart=>exact⟨0,rfl,Nat.zero_le _,by omega,fun j hj=>absurd hj af,Below.refl _ _⟩
 case round=>
  obtain⟨k,rfl,hk,hs,hno,hbr⟩:=hrel;have HS:=aa hs;have Yt:=aa hno;have qC:=aa hbr;clear hs hbr hno;by_cases hkn:k<n
  ·obtain⟨bb,off,hA,_,hc⟩:=(HR.out.below qC.out).2 af;obtain⟨p0,p1,p2,p3,p4,p5,p6,p7,p8,p9⟩:=Rq.of _ (hc k hkn);have HFA:Hid (xz (qM b t.list) (ts.getD k Rq.no)=true→za (qM b t.list) ts=some (ts.getD k Rq.no)):=aa (Lc ts k (by rw[←jV.out];exact hkn) Yt.out)
   have YJ:Hid (xz (qM b t.list) (ts.getD k Rq.no)=false→∀j,j<k+1→xz (qM b t.list) (ts.getD j Rq.no)=false):=aa (fun h j hj=>by
    rcases Nat.lt_or_ge j k with h1|h1
    ·exact Yt.out j h1
    ·have e:j=k:=af;rw[e];exact h)
   have um:=aa (zA.out k hkn);generalize ts.getD k Rq.no=y at p0 p1 p2 p3 p4 p5 p6 p7 p8 p9 HFA YJ um;subst hA;have hki:(k:Int)<n:=af;have hk0:(0:Int)≤k:=af;clear hc;have HY:Hid (Cs (wr.alloc (.cells y 59)) wr.heap.size y.cells∧Below w1 w1 (wr.alloc (.cells y 59))):=aa ⟨Rq.gM wr 59 y,ai qC.out ((Below.refl _ _).alloc ay _)⟩;go_upto_region 4 with fail
   generalize (wr.alloc (.cells y 59))=Wy at HY⊢
   clear p0 p1 p2 p3 p4 p5 p6 p7 p8 p9;generalize wr.heap.size=gy at HY⊢
   obtain⟨x0,x1,x2,x3,x4,x5,x6,x7,x8,x9⟩:=Rq.at y HY.out.1;have HA:=HA1;cases hz:y.z with
   |false=>
    have HP:=aa (YJ.out (by unfold xz;rw[hz];rfl));rw[hz] at x9;clear hz;go_wp2_with fail
    go_roundg (n-(k+1))
    case measure=>have:=HS.out;omega
    case rel=>exact⟨k+1,by go_num,by omega,rfl,HP.out,HY.out.2⟩
   |true=>
    rw[hz] at x9;have HZT:=aa hz;clear hz;go_upto_region 5 with fail
    clear x0 x1 x2 x3 x4 x5 x6 x7 x8 x9;have aB:aF (fun wx=>(eP wx S q mb th rb b t l∧Cs wx gy y.cells)∧Below w1 w1 wx):=fun _ _ h hb=>⟨⟨h.1.1.below hb,h.1.2.below hb⟩,ai h.2 hb⟩;have HYT:=aa (HH.out.2.1.2.1.mem_iff.1 (List.mem_map_of_mem (f:=fun c:Rq=>c.a) um.out));refine aA (S:=fun wx=>(eP wx S q mb th rb b t l∧Cs wx gy y.cells)∧Below w1 w1 wx) 13 ae (aB _ _ (⟨⟨HA.out.below HY.out.2,HY.out.1⟩,HY.out.2⟩) (Below.refl _ _).drew) ?_;refine aQ (aB) (fun _ h=>h) fun g=> ?_;refine tk 0 ?_ g ?_ ?_ (tk 1 ?_ g ?_ ?_ (tk 2 ?_ g ?_ ?_ (tk 3 ?_ g ?_ ?_ (tk 4 ?_ g ?_ ?_ (tk 5 ?_ g ?_ ?_ ?_)))));iterate 3 (rotate_left;(·rfl);(·exact ah))
    rotate_left;(·rfl);(·intro wq hSw;obtain⟨s0,s1⟩:=hSw.1.1.1.2.at;obtain⟨x0,x1,x2,x3,x4,x5,x6,x7,x8,x9⟩:=Rq.at y hSw.1.2;go_simp;try with_reducible rfl);iterate 2 (rotate_left;(·rfl);(·exact ah))
    try simp only[av]
    clear g;refine aQ (aB) (fun _ h=>h) fun g=> ?_;refine tk 6 ?_ g ?_ ?_ ?_;rotate_left;(·rfl);(·intro wq hSw;obtain⟨s0,s1⟩:=hSw.1.1.1.2.at;obtain⟨x0,x1,x2,x3,x4,x5,x6,x7,x8,x9⟩:=Rq.at y hSw.1.2;go_simp;try with_reducible rfl);try simp only[av]
    clear g;refine iI 7 (.tuple #[.int .i64 ((qM b t.list).sign y.a.pp).2, .int .i64 0]) (aB) (fun _ h=>h) (fun wq hSw=> ?_) ?_
    ·refine dU.aN (Queue.Hy q mb th (qM b t.list) t y.a HYT.out wq hSw.1.1.1.1) (by go_simp) ?_;rintro e wr ⟨rfl,hb⟩;exact⟨rfl,hb⟩
    try simp only[av]
    refine aQ (aB) (fun _ h=>h) fun g=> ?_;refine tk 8 ?_ g ?_ ?_ (tk 9 ?_ g ?_ ?_ (tk 10 ?_ g ?_ ?_ (tk 11 ?_ g ?_ ?_ (tk 12 ?_ g ?_ ?_ ?_))));iterate 5 (rotate_left;(·rfl);(·exact ah))
    try simp only[av]
    clear g;refine aZ ae (fun wz hSz=> ?_) _;have HB5:=aa hSz.2;have HY5:=aa hSz.1.2;clear hSz;obtain⟨x0,x1,x2,x3,x4,x5,x6,x7,x8,x9⟩:=Rq.at y HY5.out;by_cases hsg:(0:Int)≤((qM b t.list).sign y.a.pp).2
    ·have HP:=aa (HFA.out (by unfold xz;rw[HZT.out,decide_eq_true hsg];rfl));go_wp2_with fail
     go_ret2;exact⟨ts,HPP.out,by rw[HP.out];rfl,ai HB.out HB5.out⟩
    ·have HP:=aa (YJ.out (by unfold xz;rw[HZT.out,decide_eq_false hsg];rfl));go_wp2_with fail
     go_roundg (n-(k+1))
     case measure=>have:=HS.out;omega
     case rel=>exact⟨k+1,by go_num,by omega,rfl,HP.out,HB5.out⟩
  ·obtain rfl:k=n:=af;have hki:¬(k:Int)<k:=af;have HP:Hid (za (qM b t.list) ts=none):=aa (show ts.find? (xz (qM b t.list))=none from Xo (ts:=ts) (fun j hj=>Yt.out j (by rw[jV.out];exact hj)));go_wp2_with fail
   go_ret2;exact⟨ts,HPP.out,by rw[HP.out];rfl,ai HB.out qC.out⟩
end


section
open Go.RowKit
variable {x:Rq} {c:Nat} {A:Option Addr} {w:World} {l ts:List Rq} {t:Tr It} {b:Int}
structure Gn where
 i:Int
 g:Int
 r:Rq
def Gn.cells (x:Gn):List Value:=[.int .i64 x.i, .int .i64 (aJ x.g), .int .u64 (aI x.g), .int .u64 x.r.a.t, .int .u32 x.r.a.r, .int .u32 x.r.a.v, .int .i64 x.r.a.i, .int .u64 x.r.a.u, .int .u32 x.r.a.s, .int .u32 x.r.a.y, .int .u64 x.r.l, .int .u64 x.r.s, .bool x.r.z]
theorem Gn.len (x:Gn):x.cells.length=13:=rfl
theorem Gn.one (x:Gn):∀v∈x.cells,v.oneCell'=true:=by simp[Gn.cells,Value.oneCell']
theorem Gn.info:(Tryz.prog.info? 140).map (fun i=>(i.zero.map (·.cells.size),i.size,i.bytes))=some (some 13,13,88):=by kernel_rfl
inductive uy (b:Int) (L:List It) (l:List Rq):List Gn→Int→List It→List Rq→Prop
 |nil:uy b L l [] b L l
 |snoc {gs:List Gn} {b1:Int} {L1:List It} {l1 ts:List Rq} {x:Rq}:uy b L l gs b1 L1 l1→ts.Perm l1→(ts.Pairwise fun x y=>x.a.i≤y.a.i)→za (qM b1 L1) ts=some x→uy b L l (gs++[⟨x.a.i,((qM b1 L1).lag x.a.pp).2,x⟩]) (xD x.a.i b1 L1) (rU x.a.i L1) (iO x.a.i l1)
def qO (S q mb th rb:Nat) (b:Int) (t:Tr It) (l:List Rq) (w:World) (A:Option Addr) (c:Nat) (gs:List Gn) (b1:Int) (t1:Tr It) (l1:List Rq) (wr:World):Prop:=
 (uy b t.list l gs b1 t1.list l1∧(A=none∨0<gs.length)∧gs.length+l1.length≤32)∧(eP wr S q mb th rb b1 t1 l1∧bO Gn.cells 13 140 wr w.heap.size A gs.length c gs∧∀j∈rowOf A,j∉fO S q mb th rb t1)∧(∀g∈t1.blocks,g∈t.blocks∨w.heap.size≤g)∧ax (rb::foot q mb th t) w wr
theorem qO.below {S q mb th rb:Nat} {b:Int} {t:Tr It} {l:List Rq} {w:World} {A:Option Addr} {c:Nat} {gs:List Gn} {b1:Int} {t1:Tr It} {l1:List Rq} {wr w':World} (h:qO S q mb th rb b t l w A c gs b1 t1 l1 wr) (hb:Below wr wr w'):qO S q mb th rb b t l w A c gs b1 t1 l1 w':=⟨h.1,⟨h.2.1.1.below hb,h.2.1.2.1.below hb,h.2.1.2.2⟩,h.2.2.1,h.2.2.2.on hb⟩
theorem qO.step {S q mb th rb:Nat} {gs:List Gn} {b1:Int} {t1:Tr It} {l1 ts:List Rq} {W W2 W3:World} (h:qO S q mb th rb b t l w A c gs b1 t1 l1 W) (hx:x∈l1) (hp:ts.Perm l1) (hr:ts.Pairwise fun x y=>x.a.i≤y.a.i) (hg:za (qM b1 t1.list) ts=some x)
  (hs:mo S q mb th rb (xD x.a.i b1 t1.list) (rU x.a.i t1.list) (iO x.a.i l1) t1 W W2) (hb:Below W2 W2 W3):
  ∃t2,t2.list=rU x.a.i t1.list∧eP W3 S q mb th rb (xD x.a.i b1 t1.list) t2 (iO x.a.i l1)∧(∀g∈t2.blocks,g∈t.blocks∨w.heap.size≤g)∧ax (rb::foot q mb th t) w W3∧bO Gn.cells 13 140 W3 w.heap.size A gs.length c gs∧(∀j∈rowOf A,j∉fO S q mb th rb t2)∧(iO x.a.i l1).length+1=l1.length:=by
 obtain⟨t2,hl,h2,hbl,hc⟩:=hs;have hsz:=h.2.2.2.size;have hge:=h.2.1.2.1.dX;refine⟨t2,hl,h2.below hb,fun g hg=> ?_,?_,((h.2.1.2.1.aG hc (fun j hj hm=>h.2.1.2.2 j hj (List.mem_cons_of_mem _ hm)))).below hb,fun j hj hm=> ?_,?_⟩
 ·rcases hbl g hg with h1|h1
  ·exact h.2.2.1 g h1
  ·exact Or.inr af
 ·refine(h.2.2.2.trans hc (fun g hg=> ?_)).on hb;rcases List.mem_cons.1 hg with rfl|hg
  ·exact Or.inl ag
  ·rcases xJ h.2.2.1 g hg with h1|h1
   ·exact Or.inl (List.mem_cons_of_mem _ h1)
   ·exact Or.inr h1
 ·rcases oQ (S:=S) (q:=q) (mb:=mb) (th:=th) (rb:=rb) hbl j hm with h1|h1
  ·exact h.2.1.2.2 j hj h1
  ·have:=(hge j hj).2;omega
 ·have:=(rC h.2.1.1.ids hx).length_eq;simpa using this.symm
theorem qO.more {S q mb th rb:Nat} {A A':Option Addr} {c c':Nat} {gs:List Gn} {d:Gn} {b2:Int} {t2:Tr It} {l2:List Rq} {W W5:World} (hA:A=none∨0<gs.length) (hf:uy b t.list l (gs++[d]) b2 t2.list l2) (hn:gs.length+l2.length+1≤32) (h2:eP W S q mb th rb b2 t2 l2) (h3:∀g∈t2.blocks,g∈t.blocks∨w.heap.size≤g) (h4:ax (rb::foot q mb th t) w W) (h5:bO Gn.cells 13 140 W w.heap.size A gs.length c gs) (h6:∀j∈rowOf A,j∉fO S q mb th rb t2)
  (ho:bO Gn.cells 13 140 W5 w.heap.size A' (gs.length+1) c' (gs++[d])) (hc:ax (rowOf A) W W5) (hr:∀j∈rowOf A',j∈rowOf A∨W.heap.size≤j):qO S q mb th rb b t l w A' c' (gs++[d]) b2 t2 l2 W5:=by
 refine⟨⟨hf,Or.inr ag,by simp;omega⟩,⟨h2.away hc (fun g hg f a cc e=> ?_) (fun g hg hm=>h6 g hm hg),by simpa using ho,fun j hj hm=> ?_⟩,h3,h4.trans hc (fun g hg=>Or.inr (h5.dX g hg).1)⟩
 ·rcases hA with rfl|hA
  ·simp[rowOf] at hg
  ·obtain⟨g',rfl,_,_⟩:=h5.head hA;have hg':g=g':=by simpa[rowOf] using hg
   subst hg';have h7:=(h5.range Gn.len ak (⟨0,0,Rq.no⟩:Gn) hA) 0 _ rfl;rw[Nat.zero_mul,Nat.zero_add] at h7;rw[h7] at e;cases e
 ·rcases hr j hj with h8|h8
  ·exact h6 j h8 hm
  ·have:=h2.gW j hm;omega
theorem Qu {m:Mu} (h:za m ts=some x):x∈ts:=List.mem_of_find?_eq_some h
set_option maxRecDepth 100000 in
set_option maxHeartbeats 8000000 in
theorem Set.flush (S q mb th rb:Nat) (b:Int) (t:Tr It) (l:List Rq) (w:World) (h:eP w S q mb th rb b t l):Calls Tryz.prog 113 #[S] w (fun e w'=>∃A c gs b1 t1 l1 ts,e= .returned (.slice A gs.length c)∧qO S q mb th rb b t l w A c gs b1 t1 l1 w'∧ts.Perm l1∧(ts.Pairwise fun x y=>x.a.i≤y.a.i)∧za (qM b1 t1.list) ts=none):=by
 have nK:Hid (qO S q mb th rb b t l w none 0 [] b t l w):=aa ⟨⟨.nil,Or.inl rfl,by have:=h.few;simpa using this⟩,⟨h,bO.nil _ _,by simp[rowOf]⟩,fun g hg=>Or.inl hg,ax.refl _ _⟩;clear h;go_enter Tryz.func113,Tryz.ntmps113;go_wp2_with fail
 go_loopg [3] l.length (fun s v wr=>∃A c gs b1 t1 l1,v= .slice A gs.length c∧s=l1.length∧qO S q mb th rb b t l w A c gs b1 t1 l1 wr)
 case atStart=>exact⟨none,0,[],b,t,l,rfl,rfl,nK.out⟩
 case round=>
  obtain⟨A,c,gs,b1,t1,l1,rfl,hs,hi⟩:=hrel;have HS:=aa hs;have HI:=aa hi;clear hs hi;go_wp2_with fail
  refine(Set.Zf S q mb th rb b1 t1 l1 _ HI.out.2.1.1).mono ?_;rintro e w2 ⟨ts,⟨hp,hr⟩,rfl,hb⟩;have HI2:=aa (HI.out.below hb);have HP:=aa hp;have HR:=aa hr;clear hb hp hr;cases hg:za (qM b1 t1.list) ts with
  |none=>
   have HG:=aa hg;clear hg;unfold Xj;dsimp only[Option.isSome];go_wp2_with fail
   go_ret;exact⟨A,c,gs,b1,t1,l1,ts,rfl,HI2.out,HP.out,HR.out,HG.out⟩
  |some x=>
   have HG:=aa hg;have HX:=aa (HP.out.mem_iff.1 (Qu hg));clear hg;unfold Xj;dsimp only[Option.isSome];obtain⟨s0,s1⟩:=HI2.out.2.1.1.1.2.at;go_wp2_with fail
   refine(Queue.wm q mb th (qM b1 t1.list) t1 x.a (HI2.out.2.1.1.2.1.2.1.mem_iff.1 (List.mem_map_of_mem (f:=fun c:Rq=>c.a) HX.out)) _ HI2.out.2.1.1.1.1).mono ?_;rintro e w3 ⟨rfl,hb⟩;obtain⟨L,hL⟩:∃L,L=((qM b1 t1.list).lag x.a.pp).2:=⟨_,rfl⟩;have HL:=aa hL;rw[←hL];clear hL;unfold wv;have HI3:=aa ((HI2.out.below hb).below (aD w3 (.cells #[.int .i64 (aJ L), .int .u64 (aI L)] 42)));have JE:Hid (Cs (w3.alloc (.cells #[.int .i64 (aJ L), .int .u64 (aI L)] 42)) w3.heap.size [.int .i64 (aJ L), .int .u64 (aI L)]):=aa (Cs.bL w3 42 [.int .i64 (aJ L), .int .u64 (aI L)]);have aaP:=aa ((HI2.out.2.2.2.on hb).size);have BB:Hid (∀g∈rb::foot q mb th t1,g<w3.heap.size):=aa (fun g hg=>(HI2.out.below hb).2.1.1.gW g (List.mem_cons_of_mem _ hg));clear hb s0 s1;go_upto_region 6 with fail
   generalize (w3.alloc (.cells #[.int .i64 (aJ L), .int .u64 (aI L)] 42))=W3 at HI3 JE⊢
   generalize w3.heap.size=gl at JE aaP BB⊢
   go_wp2_with fail
   refine(Set.Ja S q mb th rb b1 t1 l1 x HX.out _ HI3.out.2.1.1).mono ?_;rintro e w4 ⟨rfl,hs⟩;have hb4:=aD w4 (.cells x 59);have Lt:=aa (((JE.out.aG (F:=rb::foot q mb th t1) (by obtain⟨_,_,_,_,h⟩:=hs;exact h) (fun hm=>absurd (BB.out _ hm) af)).below hb4));have kY:Hid (Cs (w4.alloc (.cells x 59)) w4.heap.size x.cells):=aa (Rq.gM w4 59 x);obtain⟨t2,k1,k2,k3,k4,k5,k6,k7⟩:=HI3.out.step HX.out HP.out HR.out HG.out hs hb4;have iK:=aa k1;have jo:=aa k2;have rJ:=aa k3;have JN:=aa k4;have LD:=aa k5;have Qh:=aa k6;have JM:=aa k7;clear hs hb4 k1 k2 k3 k4 k5 k6 k7;unfold Rq.val;go_upto_region 7 with fail
   generalize (w4.alloc (.cells x 59))=W4 at Lt kY jo JN LD⊢
   generalize w4.heap.size=gr at kY⊢
   have v0:=Lt.out.aL;have v1:=Lt.out.fH;obtain⟨x0,x1,x2,x3,x4,x5,x6,x7,x8,x9⟩:=Rq.at x kY.out;have OZ:=LD.out.alloc (.cells #[.int .i64 x.a.i, .int .i64 (aJ L), .int .u64 (aI L), .int .u64 x.a.t, .int .u32 x.a.r, .int .u32 x.a.v, .int .i64 x.a.i, .int .u64 x.a.u, .int .u32 x.a.s, .int .u32 x.a.y, .int .u64 x.l, .int .u64 x.s, .bool x.z] 140)
   have uO:(W4.alloc (.cells #[.int .i64 x.a.i, .int .i64 (aJ L), .int .u64 (aI L), .int .u64 x.a.t, .int .u32 x.a.r, .int .u32 x.a.v, .int .i64 x.a.i, .int .u64 x.a.u, .int .u32 x.a.s, .int .u32 x.a.y, .int .u64 x.l, .int .u64 x.s, .bool x.z] 140)).rangeAt W4.heap.size 0 (Gn.cells ⟨x.a.i,L,x⟩):=by
    have h9:=Cs.bL W4 140 (Gn.cells ⟨x.a.i,L,x⟩);intro i v hv;have h8:=(h9 i v hv).1;rw[Nat.zero_add];exact h8
   have hn5:gs.length≤1000000:=by have:=HI.out.1.2.2;omega
   have hs5:w.heap.size≤(W4.alloc (.cells #[.int .i64 x.a.i, .int .i64 (aJ L), .int .u64 (aI L), .int .u64 x.a.t, .int .u32 x.a.r, .int .u32 x.a.v, .int .i64 x.a.i, .int .u64 x.a.u, .int .u32 x.a.s, .int .u32 x.a.y, .int .u64 x.l, .int .u64 x.s, .bool x.z] 140)).heap.size:=by have:=JN.out.size;simp;omega
   go_wp2_with (first|(refine BL _ rfl (.tmp 33) (.tmp 38) 33 rfl Gn.len ak Gn.one 88 Tryz.underlying33 Gn.info ak w.heap.size A _ c gs ?qj1 OZ _ (⟨x.a.i,L,x⟩:Gn) ?qj2 uO hn5 hs5 ?_;(case qj1=>rfl);(case qj2=>rfl);intro A' c' w5 Tv hch hrow)|fail)
   go_roundg (iO x.a.i l1).length
   case measure=>have:=JM.out;have:=HS.out;omega
   case rel=>
    have hal:=aD W4 (.cells #[.int .i64 x.a.i, .int .i64 (aJ L), .int .u64 (aI L), .int .u64 x.a.t, .int .u32 x.a.r, .int .u32 x.a.v, .int .i64 x.a.i, .int .u64 x.a.u, .int .u32 x.a.s, .int .u32 x.a.y, .int .u64 x.l, .int .u64 x.s, .bool x.z] 140);refine⟨A',c',gs++[⟨x.a.i,L,x⟩],_,t2,iO x.a.i l1,by simp,rfl,qO.more HI.out.1.2.1 ?_ (by have:=HI.out.1.2.2;have:=JM.out;omega) (jo.out.below hal) rJ.out (JN.out.on hal) OZ Qh.out Tv hch hrow⟩;rw[HL.out,iK.out];exact .snoc HI.out.1.1 HP.out HR.out HG.out
end


section
open Go.RowKit
def xL (b:Int) (t:Tr It):Int:=(gN (fun y=>(qM b t.list).jM y.pp) t (false,It.zero)).2.i
set_option maxRecDepth 100000 in
set_option maxHeartbeats 8000000 in
theorem Set.settle (S q mb th rb:Nat) (b:Int) (t:Tr It) (l:List Rq) (w:World) (h:eP w S q mb th rb b t l):Calls Tryz.prog 77 #[S] w (fun e w'=>∃A c gs b1 t1 l1 ts,e= .returned (.tuple #[.slice A gs.length c, .int .i64 (xL b1 t1)])∧qO S q mb th rb b t l w A c gs b1 t1 l1 w'∧ts.Perm l1∧(ts.Pairwise fun x y=>x.a.i≤y.a.i)∧za (qM b1 t1.list) ts=none):=by
 have HH:=aa h;clear h;go_enter Tryz.func77,Tryz.ntmps77;go_wp2_with fail
 refine(Set.flush S q mb th rb b t l _ HH.out).mono ?_;rintro e w1 ⟨A,c,gs,b1,t1,l1,ts,rfl,hi,hp,hr,hg⟩;have HI:=aa hi;have HP:=aa hp;have HR:=aa hr;have HG:=aa hg;clear hi hp hr hg;obtain⟨s0,s1⟩:=HI.out.2.1.1.1.2.at;go_wp2_with fail
 refine(Queue.D9 q mb th (qM b1 t1.list) t1 _ HI.out.2.1.1.1.1).mono ?_;rintro e w2 ⟨rfl,hb⟩;obtain⟨y,hy⟩:∃y,y=gN (fun y=>(qM b1 t1.list).jM y.pp) t1 (false,It.zero):=⟨_,rfl⟩;have HY:Hid (xL b1 t1=y.2.i):=aa (by rw[hy];rfl);rw[←hy];clear hy;obtain⟨y1,y2⟩:=y;dsimp only at HY⊢
 have hal:=aD w2 (.cells y2 57);have HI2:=aa ((HI.out.below hb).below hal);have HX:Hid (Cs (w2.alloc (.cells y2 57)) w2.heap.size y2.cells):=aa (Cs.cu w2 57 y2);clear hal hb s0 s1;unfold It.val;go_upto_region 5 with fail
 generalize (w2.alloc (.cells y2 57))=W3 at HI2 HX⊢
 generalize w2.heap.size=gx at HX⊢
 have aB:aF (fun wx=>Cs wx gx y2.cells∧Below W3 W3 wx):=fun _ _ h hb=>⟨h.1.below hb,ai h.2 hb⟩;refine aA (S:=fun wx=>Cs wx gx y2.cells∧Below W3 W3 wx) 5 ae (aB _ _ (⟨HX.out,Below.refl _ _⟩) (Below.refl _ _).drew) ?_;refine aQ (aB) (fun _ h=>h) fun g=> ?_;refine tk 0 ?_ g ?_ ?_ (tk 1 ?_ g ?_ ?_ (tk 2 ?_ g ?_ ?_ (tk 3 ?_ g ?_ ?_ (tk 4 ?_ g ?_ ?_ ?_))));iterate 2 (rotate_left;(·rfl);(·exact ah))
 rotate_left;(·rfl);(·intro wq hSw;obtain⟨x0,x1,x2,x3,x4,x5,x6⟩:=It.at y2 hSw.1;go_simp;try with_reducible rfl);iterate 2 (rotate_left;(·rfl);(·exact ah))
 try simp only[av]
 clear g;refine aZ ae (fun wz hSz=> ?_) _;have HI3:=aa (HI2.out.below hSz.2);clear hSz;go_wp2_with fail
 go_ret2;exact⟨A,c,gs,b1,t1,l1,ts,by rw[HY.out]<;>rfl,HI3.out,HP.out,HR.out,HG.out⟩
end


section
open Go.RowKit
def jI (l:List Rq):List Rq:=l.mergeSort fun x y=>decide (x.a.i≤y.a.i)
theorem uC (l:List Rq):(jI l).Perm l:=List.mergeSort_perm _ _
theorem QJ (l:List Rq):(jI l).Pairwise fun x y=>x.a.i≤y.a.i:=by
 have h:=List.pairwise_mergeSort (le:=fun x y:Rq=>decide (x.a.i≤y.a.i)) (fun a b c h1 h2=>by simp only[decide_eq_true_eq] at *;omega) (fun a b=>by simp only[Bool.or_eq_true,decide_eq_true_eq];omega) l;exact h.imp (fun h=>by simpa using h)
theorem NJ {l ts:List Rq} (hn:(l.map (·.a.i)).Nodup) (hp:ts.Perm l) (hs:ts.Pairwise fun x y=>x.a.i≤y.a.i):ts.Pairwise fun x y=>x.a.i<y.a.i:=by
 have hn1:(ts.map (·.a.i)).Nodup:=(hp.map (·.a.i)).nodup_iff.2 hn;have hne:ts.Pairwise fun x y=>x.a.i≠y.a.i:=List.pairwise_map.1 hn1;exact List.Pairwise.imp₂ (fun _ _ h1 h2=>by omega) hs hne
theorem UG {l:List Rq} (hn:(l.map (·.a.i)).Nodup):(jI l).Pairwise fun x y=>x.a.i<y.a.i:=NJ hn (uC l) (QJ l)
theorem QK {l ts:List Rq} (hn:(l.map (·.a.i)).Nodup) (hp:ts.Perm l) (hs:ts.Pairwise fun x y=>x.a.i≤y.a.i):ts=jI l:=
 List.Perm.eq_of_pairwise (le:=fun x y:Rq=>x.a.i<y.a.i) (fun a b _ _ h1 h2=>by omega) (NJ hn hp hs) (UG hn) (hp.trans (uC l).symm)
theorem QM (l:List Rq):(jI l).length=l.length:=(uC l).length_eq
theorem QL {l:List Rq} {x:Rq}:x∈jI l↔x∈l:=(uC l).mem_iff
theorem Set.Y9 (S q rb:Nat) (l:List Rq) (hl:l.length≤1000000) (hn:(l.map (·.a.i)).Nodup) (w:World) (h:lS w S q rb l):Calls Tryz.prog 13 #[S] w (fun e w'=>∃A c,e= .returned (.slice A (jI l).length c)∧bO Rq.cells 10 59 w' w.heap.size A (jI l).length c (jI l)∧Below w w w'):=by
 refine(Set.reqs S q rb l hl hn w h).mono ?_;rintro e w' ⟨A,c,ts,rfl,⟨hp,hs⟩,ho,hb⟩;obtain rfl:=QK hn hp hs;exact⟨A,c,rfl,ho,hb⟩
def wP (l:List Rq) (y:Option Addr×Nat) (w:World):Prop:=yz Rq.cells 10 Rq.no w y.1 (jI l).length (jI l)
theorem wP.st (l:List Rq) (y:Option Addr×Nat):aF (wP l y):=fun _ _ h hb=>yz.below h hb
theorem Set.Ml (S q rb:Nat) (l:List Rq) (hl:l.length≤1000000) (hn:(l.map (·.a.i)).Nodup) (w:World) (h:lS w S q rb l):Calls Tryz.prog 13 #[S] w (fun e w'=>∃y:Option Addr×Nat,e= .returned (.slice y.1 (jI l).length y.2)∧wP l y w'∧Below w w w'):=by
 refine(Set.Y9 S q rb l hl hn w h).mono ?_;rintro e w' ⟨A,c,rfl,ho,hb⟩;exact⟨(A,c),rfl,ho.rd Rq.Sl af Rq.no,hb⟩
theorem Cf {w w':World} {b o:Nat} {l:List Value} (h:w.rangeAt b o l) (hb:Below w w w'):w'.rangeAt b o l:=fun i v hv=>aS hb (h i v hv)
theorem Rq.Sa (a:Rq):Rq.Pg a a=true:=Rq.Vd.2 rfl
section
attribute [local go_sem] gX.Ph Rq.Sa
set_option maxRecDepth 100000 in
set_option maxHeartbeats 8000000 in
theorem Slq.equal (A B:Option Addr) (n c d:Nat) (ts:List Rq) (hn:n≤1000000) (w:World) (hx:yz Rq.cells 10 Rq.no w A n ts) (hy:yz Rq.cells 10 Rq.no w B n ts):Calls Tryz.prog 12 #[.slice A n c, .slice B n d] w (aV (.bool true) w):=by
 have HX:=aa hx;have HY:=aa hy;have hni:(n:Int)≤1000000:=af;clear hx hy hn;go_enter Tryz.func12,Tryz.ntmps12;go_wp2_with fail
 go_loopg [13] n (fun s i wr=>∃k:Nat,i= .int .i64 k∧k≤n∧s=n-k∧Below w w wr)
 case atStart=>exact⟨0,rfl,Nat.zero_le _,by omega,Below.refl _ _⟩
 case round=>
  obtain⟨k,rfl,hk,hs,hbr⟩:=hrel;have HS:=aa hs;have qC:=aa hbr;clear hs hbr;by_cases hkn:k<n
  ·obtain⟨bb,off,hA,_,hc⟩:=(HX.out.below qC.out).2 af;have LK:=aa (hc k hkn);obtain⟨b2,of2,hB,_,hd⟩:=(HY.out.below qC.out).2 af;have jD:=aa (hd k hkn);clear hc hd;generalize ts.getD k Rq.no=y at *;subst hA hB;have hki:(k:Int)<n:=af;have hk0:(0:Int)≤k:=af;go_upto_region 6 with fail
   have aB:aF (fun wx=>Below wr wr wx):=fun _ _ h hb=>ai h hb;refine aA (S:=fun wx=>Below wr wr wx) 9 ae (aB _ _ ((Below.refl wr.heap.size wr)) (Below.refl _ _).drew) ?_;refine aQ (aB) (fun _ h=>h) fun g=> ?_;refine tk 0 ?_ g ?_ ?_ (tk 1 ?_ g ?_ ?_ (tk 2 ?_ g ?_ ?_ (tk 3 ?_ g ?_ ?_ (tk 4 ?_ g ?_ ?_ (tk 5 ?_ g ?_ ?_ ?_)))));iterate 3 (rotate_left;(·rfl);(·exact ah))
   rotate_left;(·rfl);(·intro wq hSw;obtain⟨p0,p1,p2,p3,p4,p5,p6,p7,p8,p9⟩:=Rq.of y (Cf LK.out hSw);obtain⟨r0,r1,r2,r3,r4,r5,r6,r7,r8,r9⟩:=Rq.of y (Cf jD.out hSw);go_simp;try with_reducible rfl);iterate 2 (rotate_left;(·rfl);(·exact ah))
   try simp only[av]
   clear g;refine aQ (aB) (fun _ h=>h) fun g=> ?_;refine tk 6 ?_ g ?_ ?_ (tk 7 ?_ g ?_ ?_ (tk 8 ?_ g ?_ ?_ ?_));rotate_left;(·rfl);(·exact ah);rotate_left;(·rfl);(·intro wq hSw;obtain⟨p0,p1,p2,p3,p4,p5,p6,p7,p8,p9⟩:=Rq.of y (Cf LK.out hSw);obtain⟨r0,r1,r2,r3,r4,r5,r6,r7,r8,r9⟩:=Rq.of y (Cf jD.out hSw);go_simp;try with_reducible rfl);rotate_left;(·rfl);(·exact ah);try simp only[av]
   clear g;refine aZ ae (fun wz hSz=> ?_) _;have wW:=aa (ai qC.out hSz);clear hSz;go_wp2_with fail
   go_roundg (n-(k+1))
   case measure=>have:=HS.out;omega
   case rel=>exact⟨k+1,by go_num,by omega,rfl,wW.out⟩
  ·obtain rfl:k=n:=af;have hki:¬(k:Int)<k:=af;go_wp2_with fail
   go_ret;exact⟨rfl,qC.out⟩
end
end


section
open Go.RowKit
set_option maxRecDepth 100000
set_option maxHeartbeats 32000000
theorem Set.KM (S q rb:Nat) (l:List Rq) (x:Rq) (hx:x∈l) (hi:x.In) (w:World) (h:lS w S q rb l):Calls Tryz.prog 36 #[S, .int .i64 x.a.i] w (aV (.tuple #[x.val, .bool true]) w):=by
 have HH:=aa h;have H1:=aa hx;have H2:=aa hi;have hal:=aD w (.cells dw 59);have HB0:=aa hal;have HZ:Hid (Cs (w.alloc (.cells dw 59)) w.heap.size Rq.no.cells):=aa (Rq.gM w 59 Rq.no);clear h hal hx hi;go_enter Tryz.func36,Tryz.ntmps36;go_upto_region 1 with fail
 generalize (w.alloc (.cells dw 59))=W0 at HB0 HZ⊢
 go_wp2_with fail
 refine(Set.lI S q rb l x H1.out H2.out _ (HH.out.below HB0.out)).mono ?_;rintro e w1 ⟨rfl,hb⟩;have ha:=aD w1 (.cells x 59);have bX:Hid (Cs (w1.alloc (.cells x 59)) w1.heap.size x.cells):=aa (Rq.gM w1 59 x);have HZ1:=aa ((HZ.out.below hb).below ha);have HB1:=aa (ai (ai HB0.out hb) ha);clear hb ha HB0 HZ;unfold Rq.val;go_upto_region 2 with fail
 generalize (w1.alloc (.cells x 59))=W1 at bX HZ1 HB1⊢
 generalize w1.heap.size=gx at bX⊢
 obtain⟨x0,x1,x2,x3,x4,x5,x6,x7,x8,x9⟩:=Rq.at x bX.out;go_wp2_with (first|((with_reducible refine bG 59 x.cells jr rfl (.tmp 4) (.tmp 14) rfl w.heap.size _ HZ1.out ?_ ?_ ?_ ?_ ?_ ?_);(iterate 5 (·rfl));(intro W2 hW2);(have HY:=aa (show Cs W2 w x.cells∧Below w w W2 by subst hW2;exact⟨Cs.bH x.cells 0 HZ1.out (by simp[Rq.cells]),aU ay _ _ HB1.out⟩));(clear hW2 x0 x1 x2 x3 x4 x5 x6 x7 x8 x9);(obtain⟨z0,z1,z2,z3,z4,z5,z6,z7,z8,z9⟩:=Rq.at x HY.out.1))|fail)
 refine bodyPost_ret (v:= .tuple #[x.val, .bool true]) (by simp[results,Tryz.results36,go_sem,z0,z1,z2,z3,z4,z5,z6,z7,z8,z9,Rq.val]) rfl ⟨rfl,HY.out.2⟩
theorem Set.VP (S q rb:Nat) (l:List Rq) (i:Int) (hi: -9223372036854775808≤i∧i≤9223372036854775807) (hn:∀x∈l,x.a.i≠i) (w:World) (h:lS w S q rb l):Calls Tryz.prog 36 #[S, .int .i64 i] w (aV (.tuple #[Rq.no.val, .bool false]) w):=by
 have HH:=aa h;have H1:=aa hi;have H2:=aa hn;have hal:=aD w (.cells dw 59);have HB0:=aa hal;have HZ:Hid (Cs (w.alloc (.cells dw 59)) w.heap.size Rq.no.cells):=aa (Rq.gM w 59 Rq.no);clear h hal hi hn;go_enter Tryz.func36,Tryz.ntmps36;go_upto_region 1 with fail
 generalize (w.alloc (.cells dw 59))=W0 at HB0 HZ⊢
 go_wp2_with fail
 refine(Set.wF S q rb l i H1.out H2.out _ (HH.out.below HB0.out)).mono ?_;rintro e w1 ⟨rfl,hb⟩;have ha:=aD w1 (.cells dw 59);have bX:Hid (Cs (w1.alloc (.cells dw 59)) w1.heap.size Rq.no.cells):=aa (Rq.gM w1 59 Rq.no);have HZ1:=aa ((HZ.out.below hb).below ha);have HB1:=aa (ai (ai HB0.out hb) ha);clear hb ha HB0 HZ;unfold Rq.val;go_upto_region 2 with fail
 generalize (w1.alloc (.cells dw 59))=W1 at bX HZ1 HB1⊢
 generalize w1.heap.size=gx at bX⊢
 obtain⟨x0,x1,x2,x3,x4,x5,x6,x7,x8,x9⟩:=Rq.at Rq.no bX.out;go_wp2_with (first|((with_reducible refine bG 59 Rq.no.cells jr rfl (.tmp 4) (.tmp 14) rfl w.heap.size _ HZ1.out ?_ ?_ ?_ ?_ ?_ ?_);(iterate 5 (·rfl));(intro W2 hW2);(have HY:=aa (show Cs W2 w Rq.no.cells∧Below w w W2 by subst hW2;exact⟨Cs.bH Rq.no.cells 0 HZ1.out (by simp[Rq.cells]),aU ay _ _ HB1.out⟩));(clear hW2 x0 x1 x2 x3 x4 x5 x6 x7 x8 x9);(obtain⟨z0,z1,z2,z3,z4,z5,z6,z7,z8,z9⟩:=Rq.at Rq.no HY.out.1))|fail)
 refine bodyPost_ret (v:= .tuple #[Rq.no.val, .bool false]) (by simp[results,Tryz.results36,go_sem,z0,z1,z2,z3,z4,z5,z6,z7,z8,z9,Rq.val]) rfl ⟨rfl,HY.out.2⟩
end

end Go.Proofs.YtnmbfjgcmfjdcaaGreatDoor

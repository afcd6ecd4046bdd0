/- Texts of CoreRefuses's proof, together. -/
import Derived.Test.YtnmbfjgcmfjdcaaGreatDoorCoreRefusesZ46
import Derived.Test.YtnmbfjgcmfjdcaaGreatDoorCoreRefusesZ48
namespace Go.Proofs.YtnmbfjgcmfjdcaaGreatDoor

section
open Go.RowKit
set_option maxRecDepth 100000
set_option maxHeartbeats 32000000
theorem oD.clone (th:Nat) (t:Tr It) (hn:t.list.length≤900000) (w:World) (h:cZ w th t):Calls Tryz.prog 82 #[.agg #[.pointer (some ⟨th,0,none⟩)]] w (fun e w'=>∃yf t',e= .returned (.agg #[.pointer (some ⟨yf,0,none⟩)])∧Tr.jU t t'∧cZ w' yf t'∧(∀g∈yf::t'.blocks,w.heap.size≤g)∧Below w.heap.size w w'):=by
 have hb0:=(Below.refl w.heap.size w).alloc (Nat.le_refl _) (.cells #[.pointer (some ⟨th,0,none⟩)] 83);have hb1:=hb0.alloc (by simp) (.cells #[.pointer none] 83);have c1:=Cs.bL (w.alloc (.cells #[.pointer (some ⟨th,0,none⟩)] 83)) 83 [.pointer none];have HV:Hid ((Cs ((w.alloc (.cells #[.pointer (some ⟨th,0,none⟩)] 83)).alloc (.cells #[.pointer none] 83)) w.heap.size [.pointer (some ⟨th,0,none⟩)]∧Cs ((w.alloc (.cells #[.pointer (some ⟨th,0,none⟩)] 83)).alloc (.cells #[.pointer none] 83)) (w.heap.size+1) [.pointer none])∧Below w.heap.size w ((w.alloc (.cells #[.pointer (some ⟨th,0,none⟩)] 83)).alloc (.cells #[.pointer none] 83))):=hid ⟨⟨(Cs.bL w 83 [.pointer (some ⟨th,0,none⟩)]).alloc _,by simpa using c1⟩,hb1⟩;have HH:=hid h;clear hb0 hb1 c1 h;go_enter Tryz.func82,Tryz.ntmps82;go_upto_region 1 with fail
 generalize ((w.alloc (.cells #[.pointer (some ⟨th,0,none⟩)] 83)).alloc (.cells #[.pointer none] 83))=W0 at HV⊢
 have e0:=HV.out.1.1.aL;go_wp2_with fail
 refine(Dt.clone th t hn _ (HH.out.below HV.out.2)).mono ?_;rintro e w1 ⟨yf,t',rfl,hs,ht,hg,hb⟩;have HS:=hid hs;have HT:=hid ht;have HG:=hid hg;have HB:=hid hb;have c1:=HV.out.1.2.below hb;have HC:=hid c1;have e1:=c1.aL;have e2:=(c1 0 _ rfl).2;clear hs ht hg hb c1 e0;go_upto_region 2 with fail
 obtain⟨W3,hW3⟩:∃W3,W3=w1.setCell ⟨w.heap.size+1,0,none⟩ (.pointer (some ⟨yf,0,none⟩)):=⟨_,rfl⟩;have nL:Hid (ax [w.heap.size+1] w1 W3):=hid (by rw[hW3];exact(ax.refl [w.heap.size+1] w1).set (Or.inl (by simp)) 0 _);have e3:W3.cell? ⟨w.heap.size+1,0,none⟩=some (.pointer (some ⟨yf,0,none⟩)):=by rw[hW3];exact(HC.out.set 0 (by simp) (.pointer (some ⟨yf,0,none⟩))).aL
 rw[←hW3];clear hW3 e1 e2;go_wp2_with fail
 refine bodyPost_ret (v:= .agg #[.pointer (some ⟨yf,0,none⟩)]) (by simp[results,Tryz.results82,go_sem,e3]) rfl ⟨yf,t',rfl,HS.out,HT.out.far nL.out (fun g hg f a c e=> ?_) (fun g hg e=> ?_),fun g hg=>Nat.le_trans HV.out.2.size (HG.out g hg),(ai HV.out.2 HB.out).trans (nL.out.toBelow (ai HV.out.2 HB.out).size (fun k hk=>by simp at hk;omega))⟩
 ·simp only[List.mem_singleton] at hg;subst hg;rw[HC.out.aL] at e;cases e
 ·simp only[List.mem_singleton] at e;subst e;have h1:=HG.out _ (List.mem_cons_of_mem _ hg);have h2:=HV.out.1.2.lt;omega
theorem dNY {P:Prop} (h:P:=by
 obtain⟨D,⟨es,ck,hh,r⟩,hr⟩:=h;exact⟨es,ck,hh,D,⟨es,ck,by unfold World.alloc;exact Array.getElem?_push_size,r⟩,hr⟩):P:=h
theorem jA.clone {w:World} {b:Nat} {l:List It} (h:jA w b l):∃es ck,w.heap[b]?=some (.map es ck)∧jA (w.alloc (.map es ck)) w.heap.size l:=by
 exact dNY
theorem jl.clone {w:World} {b:Nat} {l:List Rq} (h:jl w b l):∃es ck,w.heap[b]?=some (.map es ck)∧jl (w.alloc (.map es ck)) w.heap.size l:=by
 exact dNY
def PS (B:Nat) (l:List It) (k:Nat) (w:World):Prop:=jA w k l∧B≤k
theorem PS.st (B:Nat) (l:List It) (k:Nat):aF (PS B l k):=fun _ _ h hb=>⟨h.1.below hb,h.2⟩
def TT (B k:Nat) (t:Tr It) (p:Nat×Tr It) (w:World):Prop:=Tr.jU t p.2∧cZ w p.1 p.2∧∀g∈p.1::p.2.blocks,B≤g∧g≠k
theorem TT.st (B k:Nat) (t:Tr It) (p:Nat×Tr It):aF (TT B k t p):=fun _ _ h hb=>⟨h.1,h.2.1.below hb,h.2.2⟩
def Jy (B:Nat) (m:Mu) (t:Tr It) (p:Nat×Nat×Nat×Tr It) (w:World):Prop:=Tr.jU t p.2.2.2∧bQ w p.1 p.2.1 p.2.2.1 m p.2.2.2∧∀g∈foot p.1 p.2.1 p.2.2.1 p.2.2.2,B≤g
theorem Jy.st (B:Nat) (m:Mu) (t:Tr It) (p:Nat×Nat×Nat×Tr It):aF (Jy B m t p):=fun _ _ h hb=>⟨h.1,h.2.1.below hb,h.2.2⟩
def T9 (B:Nat) (l:List Rq) (F:List Nat) (k:Nat) (w:World):Prop:=jl w k l∧B≤k∧k∉F
theorem T9.st (B:Nat) (l:List Rq) (F:List Nat) (k:Nat):aF (T9 B l F k):=fun _ _ h hb=>⟨h.1.below hb,h.2⟩
theorem Queue.clone (q mb th:Nat) (m:Mu) (t:Tr It) (w:World) (h:bQ w q mb th m t):Calls Tryz.prog 47 #[.pointer (some ⟨q,0,none⟩)] w (fun e w'=>∃p:Nat×Nat×Nat×Tr It,e= .returned (.pointer (some ⟨p.1,0,none⟩))∧Jy w.heap.size m t p w'∧Below w.heap.size w w'):=by
 have HH:=hid h;have kE:Hid (t.list.length≤900000):=hid (by have:=h.2.2.2.2;omega);clear h;go_enter Tryz.func47,Tryz.ntmps47;go_upto_region 3 with fail
 have aB:aF (fun wx=>bQ wx q mb th m t∧Below w.heap.size w wx):=fun _ _ h hb=>⟨h.1.below hb,ai h.2 hb⟩;refine aA (S:=fun wx=>bQ wx q mb th m t∧Below w.heap.size w wx) 14 (by kernel_rfl) (aB _ _ (⟨HH.out,Below.refl _ _⟩) (Below.refl _ _).drew) ?_;refine aQ (aB) (fun _ h=>h) fun g=> ?_;refine tk 0 ?_ g ?_ ?_ (tk 1 ?_ g ?_ ?_ (tk 2 ?_ g ?_ ?_ (tk 3 ?_ g ?_ ?_ (tk 4 ?_ g ?_ ?_ (tk 5 ?_ g ?_ ?_ ?_)))));iterate 3 (rotate_left;(·rfl);(·intro wq hSw;go_simp;try with_reducible rfl))
 rotate_left;(·rfl);(·intro wq hSw;obtain⟨k0,Z4,Z0,ZZ,ZY,k5,k6⟩:=hSw.1.at;go_simp;try with_reducible rfl);iterate 2 (rotate_left;(·rfl);(·intro wq hSw;go_simp;try with_reducible rfl))
 try simp only[av]
 clear g;refine aQ (aB) (fun _ h=>h) fun g=> ?_;refine tk 6 ?_ g ?_ ?_ (tk 7 ?_ g ?_ ?_ (tk 9 ?_ g ?_ ?_ (tk 10 ?_ g ?_ ?_ (tk 11 ?_ g ?_ ?_ (tk 12 ?_ g ?_ ?_ ?_)))));rotate_left;(·rfl);(·intro wq hSw;go_simp;try with_reducible rfl);rotate_left;(·rfl);(·intro wq hSw;obtain⟨k0,Z4,Z0,ZZ,ZY,k5,k6⟩:=hSw.1.at;go_simp;try with_reducible rfl);iterate 3 (rotate_left;(·rfl);(·intro wq hSw;go_simp;try with_reducible rfl))
 rotate_left;(·rfl);(·intro wq hSw;obtain⟨k0,Z4,Z0,ZZ,ZY,k5,k6⟩:=hSw.1.at;go_simp;try with_reducible rfl);try simp only[av]
 clear g;refine fC (i:=8) (fun y:Nat=> .map (some y)) (fun y wx=>PS w.heap.size t.list y wx) rfl (by kernel_rfl) (by decide) (by rfl) (aB) (fun _ h=>h) (fun yq=>PS.st w.heap.size t.list yq) (fun wq hSw=> ?_) (fun yq=> ?_)
 ·obtain⟨es,ck,hh,hcl⟩:=hSw.1.1.2.1.clone
  exact jw.aN (Ck.Cz mb es ck wq hh) (by go_simp) (fun e w' h=>by
   obtain⟨he,hw⟩:=h;subst hw;exact⟨wq.heap.size,he,⟨hcl,hSw.2.size⟩,(Below.refl _ _).alloc (Nat.le_refl _) _⟩)
 obtain yq:=yq;revert yq;intro k1;try dsimp only
 try simp only[av]
 refine fC (i:=13) (fun y:Nat×Tr It=> .agg #[.pointer (some ⟨y.1,0,none⟩)]) (fun y wx=>TT w.heap.size k1 t y wx) rfl (by kernel_rfl) (by decide) (by rfl) (aF.dF (aB) (PS.st w.heap.size t.list k1)) (fun _ h=>h.1) (fun yq=>TT.st w.heap.size k1 t yq) (fun wq hSw=> ?_) (fun yq=> ?_)
 ·exact jw.aN (oD.clone th t kE.out wq hSw.1.1.1.2.2) (by go_simp) (fun e w' h=>by
   obtain⟨yf,t',he,hs,ht,hg,hb⟩:=h;exact⟨(yf,t'),he,⟨hs,ht,fun g hgm=>⟨Nat.le_trans hSw.1.2.size (hg g hgm),fun e=>by have:=hg g hgm;have:=hSw.2.1.lt;omega⟩⟩,hb⟩)
 obtain⟨dm,t1⟩:=yq;try dsimp only
 try simp only[av]
 refine bP (n:=14) rfl rfl (by kernel_rfl) (fun wz hSz=> ?_);simp only[List.toList_toArray,List.drop_succ_cons,List.drop_zero];have HZ:=hid hSz;clear hSz
 have HF:Hid (Jy w.heap.size m t (wz.heap.size,k1,dm,t1) (wz.alloc (.cells #[.int .u64 m.b, .int .i64 (aJ m.a), .int .u64 (aI m.a), .int .u64 m.w, .int .i64 m.n, .map (some k1), .pointer (some ⟨dm,0,none⟩)] 85))∧Below w.heap.size w (wz.alloc (.cells #[.int .u64 m.b, .int .i64 (aJ m.a), .int .u64 (aI m.a), .int .u64 m.w, .int .i64 m.n, .map (some k1), .pointer (some ⟨dm,0,none⟩)] 85))):=hid (by
  have hal:=(Below.refl wz.heap.size wz).alloc (Nat.le_refl _) (.cells #[.int .u64 m.b, .int .i64 (aJ m.a), .int .u64 (aI m.a), .int .u64 m.w, .int .i64 m.n, .map (some k1), .pointer (some ⟨dm,0,none⟩)] 85);have hcs:=Cs.bL wz 85 [.int .u64 m.b, .int .i64 (aJ m.a), .int .u64 (aI m.a), .int .u64 m.w, .int .i64 m.n, .map (some k1), .pointer (some ⟨dm,0,none⟩)];obtain⟨⟨⟨hq,hbw⟩,hm⟩,hs,ht,hg⟩:=HZ.out;have hll:=hs.list;dsimp only at hs ht hg hll;have hml:=hm.1.lt;refine⟨⟨hs,⟨⟨hcs,by rw[hll];exact hm.1.below hal,ht.below hal⟩,⟨by show wz.heap.size≠k1;omega,fun e=> ?_,fun e=>(hg _ (List.mem_cons_of_mem _ e)).2 rfl⟩,hq.2.2.1,by rw[hll];exact hq.2.2.2.1,by rw[hll];exact hq.2.2.2.2⟩,fun g hgm=> ?_⟩,ai hbw hal⟩
  ·have:=(ht.2.1.nl _ e).lt;omega
  ·simp only[foot,List.mem_cons] at hgm;rcases hgm with rfl|rfl|hgm
   ·exact hbw.size
   ·exact hm.2
   ·exact(hg g (List.mem_cons.2 hgm)).1)
 go_wp2_with fail
 go_ret;exact⟨_,rfl,HF.out⟩
theorem Set.clone (S q mb th rb:Nat) (b:Int) (t:Tr It) (l:List Rq) (w:World) (h:eP w S q mb th rb b t l):Calls Tryz.prog 20 #[.pointer (some ⟨S,0,none⟩)] w (fun e w'=>∃S1 q1 kg dm nG t1,e= .returned (.pointer (some ⟨S1,0,none⟩))∧t1.list=t.list∧eP w' S1 q1 kg dm nG b t1 l∧(∀g∈S1::nG::foot q1 kg dm t1,w.heap.size≤g)∧Below w.heap.size w w'):=by
 have HH:=hid h;clear h;go_enter Tryz.func20,Tryz.ntmps20;go_upto_region 3 with fail
 have aB:aF (fun wx=>eP wx S q mb th rb b t l∧Below w.heap.size w wx):=fun _ _ h hb=>⟨h.1.below hb,ai h.2 hb⟩;refine aA (S:=fun wx=>eP wx S q mb th rb b t l∧Below w.heap.size w wx) 10 (by kernel_rfl) (aB _ _ (⟨HH.out,Below.refl _ _⟩) (Below.refl _ _).drew) ?_;refine aQ (aB) (fun _ h=>h) fun g=> ?_;refine tk 0 ?_ g ?_ ?_ (tk 1 ?_ g ?_ ?_ (tk 2 ?_ g ?_ ?_ (tk 3 ?_ g ?_ ?_ (tk 5 ?_ g ?_ ?_ (tk 6 ?_ g ?_ ?_ ?_)))));iterate 3 (rotate_left;(·rfl);(·intro wq hSw;go_simp;try with_reducible rfl))
 rotate_left;(·rfl);(·intro wq hSw;obtain⟨s0,s1⟩:=hSw.1.1.2.at;go_simp;try with_reducible rfl);iterate 2 (rotate_left;(·rfl);(·intro wq hSw;go_simp;try with_reducible rfl))
 try simp only[av]
 clear g;refine aQ (aB) (fun _ h=>h) fun g=> ?_;refine tk 7 ?_ g ?_ ?_ (tk 8 ?_ g ?_ ?_ ?_);rotate_left;(·rfl);(·intro wq hSw;go_simp;try with_reducible rfl);rotate_left;(·rfl);(·intro wq hSw;obtain⟨s0,s1⟩:=hSw.1.1.2.at;go_simp;try with_reducible rfl);try simp only[av]
 clear g;refine fC (i:=4) (fun y:Nat×Nat×Nat×Tr It=> .pointer (some ⟨y.1,0,none⟩)) (fun y wx=>Jy w.heap.size (qM b t.list) t y wx) rfl (by kernel_rfl) (by decide) (by rfl) (aB) (fun _ h=>h) (fun yq=>Jy.st w.heap.size (qM b t.list) t yq) (fun wq hSw=> ?_) (fun yq=> ?_)
 ·exact jw.aN (Queue.clone q mb th (qM b t.list) t wq hSw.1.1.1) (by go_simp) (fun e w' h=>by
   obtain⟨p,he,⟨h1,h2,h3⟩,hb⟩:=h;exact⟨p,he,⟨h1,h2,fun g hg=>Nat.le_trans hSw.2.size (h3 g hg)⟩,hb⟩)
 obtain⟨q1,kg,dm,t1⟩:=yq;try dsimp only
 try simp only[av]
 refine fC (i:=9) (fun y:Nat=> .map (some y)) (fun y wx=>T9 w.heap.size l (foot q1 kg dm t1) y wx) rfl (by kernel_rfl) (by decide) (by rfl) (aF.dF (aB) (Jy.st w.heap.size (qM b t.list) t (q1,kg,dm,t1))) (fun _ h=>h.1) (fun yq=>T9.st w.heap.size l (foot q1 kg dm t1) yq) (fun wq hSw=> ?_) (fun yq=> ?_)
 ·obtain⟨es,ck,hh,hcl⟩:=hSw.1.1.1.2.2.clone
  exact jw.aN (Ck.Cy rb es ck wq hh) (by go_simp) (fun e w' h=>by
   obtain⟨he,hw⟩:=h;subst hw;exact⟨wq.heap.size,he,⟨hcl,hSw.1.2.size,fun hm=>absurd (hSw.2.2.1.gW _ hm) (by omega)⟩,(Below.refl _ _).alloc (Nat.le_refl _) _⟩)
 obtain yq:=yq;revert yq;intro k1;try dsimp only
 try simp only[av]
 refine bP (n:=10) rfl rfl (by kernel_rfl) (fun wz hSz=> ?_);simp only[List.toList_toArray,List.drop_succ_cons,List.drop_zero];have HZ:=hid hSz;clear hSz
 have HF:Hid (t1.list=t.list∧eP (wz.alloc (.cells #[.pointer (some ⟨q1,0,none⟩), .map (some k1)] 51)) wz.heap.size q1 kg dm k1 b t1 l∧(∀g∈wz.heap.size::k1::foot q1 kg dm t1,w.heap.size≤g)∧Below w.heap.size w (wz.alloc (.cells #[.pointer (some ⟨q1,0,none⟩), .map (some k1)] 51))):=hid (by
  have hal:=(Below.refl wz.heap.size wz).alloc (Nat.le_refl _) (.cells #[.pointer (some ⟨q1,0,none⟩), .map (some k1)] 51);have hcs:=Cs.bL wz 51 [.pointer (some ⟨q1,0,none⟩), .map (some k1)];obtain⟨⟨⟨hs,hbw⟩,h1,h2,h3⟩,h4,h5,h6⟩:=HZ.out;have hll:=h1.list;dsimp only at h1 h2 h3 hll;have hml:=h4.lt;have hfl:=h2.gW;refine⟨hll,⟨⟨?_,hcs,h4.below hal⟩,⟨⟨by rw[hll];exact hs.2.1.1.1,h1.whole hs.2.1.1.2⟩,by rw[hll];exact hs.2.1.2.1,hs.2.1.2.2⟩,fun e=> ?_,h6⟩,fun g hg=> ?_,ai hbw hal⟩
  ·rw[hll];exact h2.below hal
  ·rcases List.mem_cons.1 e with e|e
   ·omega
   ·exact absurd (hfl _ e) (by omega)
  ·rcases List.mem_cons.1 hg with rfl|hg
   ·exact hbw.size
   ·rcases List.mem_cons.1 hg with rfl|hg
    ·exact h5
    ·exact h3 g hg)
 go_wp2_with fail
 go_ret;exact⟨_,_,_,_,_,_,rfl,HF.out⟩
end


section
open Go.RowKit
set_option maxRecDepth 100000
set_option maxHeartbeats 32000000
def lV (w:World) (C S q mb th rb:Nat) (run k:Int) (b:Int) (t:Tr It) (l:List Rq):Prop:=Cs w C [.pointer (some ⟨S,0,none⟩), .int .i64 run, .int .i64 (aJ k), .int .u64 (aI k)]∧eP w S q mb th rb b t l∧C∉fO S q mb th rb t
theorem lV.below {w w':World} {C S q mb th rb:Nat} {run k b:Int} {t:Tr It} {l:List Rq} (h:lV w C S q mb th rb run k b t l) (hb:Below w w w'):lV w' C S q mb th rb run k b t l:=⟨h.1.below hb,h.2.1.below hb,h.2.2⟩
theorem lV.at {w:World} {C S q mb th rb:Nat} {run k b:Int} {t:Tr It} {l:List Rq} (h:lV w C S q mb th rb run k b t l):w.cell? C=some (.pointer (some ⟨S,0,none⟩))∧w.cell? ⟨C,1,none⟩=some (.int .i64 run)∧w.cell? ⟨C,2,none⟩=some (.int .i64 (aJ k))∧w.cell? ⟨C,3,none⟩=some (.int .u64 (aI k)):=⟨(h.1 0 _ rfl).1,(h.1 1 _ rfl).1,(h.1 2 _ rfl).1,(h.1 3 _ rfl).1⟩
def TY (B:Nat) (b:Int) (t:Tr It) (l:List Rq) (p:Nat×Nat×Nat×Nat×Nat×Tr It) (w:World):Prop:=p.2.2.2.2.2.list=t.list∧eP w p.1 p.2.1 p.2.2.1 p.2.2.2.1 p.2.2.2.2.1 b p.2.2.2.2.2 l∧∀g∈fO p.1 p.2.1 p.2.2.1 p.2.2.2.1 p.2.2.2.2.1 p.2.2.2.2.2,B≤g
theorem TY.st (B:Nat) (b:Int) (t:Tr It) (l:List Rq) (p:Nat×Nat×Nat×Nat×Nat×Tr It):aF (TY B b t l p):=fun _ _ h hb=>⟨h.1,h.2.1.below hb,h.2.2⟩
theorem Core.new (c:Int) (hc:eZ c) (w:World):Calls Tryz.prog 6 #[.int .u64 c] w (fun e w'=>∃C S q mb th rb,e= .returned (.pointer (some ⟨C,0,none⟩))∧lV w' C S q mb th rb 0 0 c .nil []∧(∀g∈C::fO S q mb th rb .nil,w.heap.size≤g)∧Below w w w'):=by
 go_enter Tryz.func6,Tryz.ntmps6;go_wp2_with fail
 refine(Set.new c hc _).mono ?_;rintro e w1 ⟨S,q,mb,th,rb,rfl,hs,hf,hb⟩
 have HF:Hid (lV (w1.alloc (.cells #[S, .int .i64 0, .int .i64 0, .int .u64 0] 47)) w1.heap.size S q mb th rb 0 0 c .nil []∧(∀g∈w1.heap.size::fO S q mb th rb .nil,w.heap.size≤g)∧Below w w (w1.alloc (.cells #[S, .int .i64 0, .int .i64 0, .int .u64 0] 47))):=aa (by
  have hal:=aD w1 (.cells #[S, .int .i64 0, .int .i64 0, .int .u64 0] 47);have hcs:=Cs.bL w1 47 [.pointer (some ⟨S,0,none⟩), .int .i64 0, .int .i64 0, .int .u64 0];refine⟨⟨?_,hs.below hal,fun hm=>absurd (hs.gW _ hm) af⟩,fun g hg=> ?_,ai hb hal⟩
  ·rw[show aJ 0=0 by decide,show aI 0=0 by decide];exact hcs
  ·rcases List.mem_cons.1 hg with rfl|hg
   ·exact hb.size
   ·exact hf g hg)
 clear hs hf hb;go_wp2_with fail
 go_ret;exact⟨_,_,_,_,_,_,rfl,HF.out⟩
theorem Core.run (C S q mb th rb:Nat) (run k b:Int) (t:Tr It) (l:List Rq) (w:World) (h:lV w C S q mb th rb run k b t l):Calls Tryz.prog 9 #[C] w (aV (.int .i64 run) w):=by
 obtain⟨c0,c1,c2,c3⟩:=h.at;clear h;go_enter Tryz.func9,Tryz.ntmps9;go_wp2_with fail
 go_ret;exact⟨rfl,Below.refl _ _⟩
theorem Core.clone (C S q mb th rb:Nat) (run k b:Int) (t:Tr It) (l:List Rq) (w:World) (h:lV w C S q mb th rb run k b t l):Calls Tryz.prog 7 #[C] w (fun e w'=>∃C1 S1 q1 kg dm nG t1,e= .returned (.pointer (some ⟨C1,0,none⟩))∧t1.list=t.list∧lV w' C1 S1 q1 kg dm nG run k b t1 l∧(∀g∈C1::fO S1 q1 kg dm nG t1,w.heap.size≤g)∧Below w w w'):=by
 have HH:=aa h;clear h;go_enter Tryz.func7,Tryz.ntmps7;go_upto_region 3 with fail
 have aB:aF (fun wx=>lV wx C S q mb th rb run k b t l∧Below w w wx):=fun _ _ h hb=>⟨h.1.below hb,ai h.2 hb⟩;refine aA (S:=fun wx=>lV wx C S q mb th rb run k b t l∧Below w w wx) 13 ae (aB _ _ (⟨HH.out,Below.refl _ _⟩) (Below.refl _ _).drew) ?_;refine aQ (aB) (fun _ h=>h) fun g=> ?_;refine tk 0 ?_ g ?_ ?_ (tk 1 ?_ g ?_ ?_ (tk 2 ?_ g ?_ ?_ (tk 3 ?_ g ?_ ?_ (tk 5 ?_ g ?_ ?_ (tk 6 ?_ g ?_ ?_ ?_)))));iterate 3 (rotate_left;(·rfl);(·exact ah))
 rotate_left;(·rfl);(·intro wq hSw;obtain⟨c0,c1,c2,c3⟩:=hSw.1.at;go_simp;try with_reducible rfl);iterate 2 (rotate_left;(·rfl);(·exact ah))
 try simp only[av]
 clear g;refine aQ (aB) (fun _ h=>h) fun g=> ?_;refine tk 7 ?_ g ?_ ?_ (tk 8 ?_ g ?_ ?_ (tk 9 ?_ g ?_ ?_ (tk 10 ?_ g ?_ ?_ (tk 11 ?_ g ?_ ?_ (tk 12 ?_ g ?_ ?_ ?_)))));rotate_left;(·rfl);(·exact ah);rotate_left;(·rfl);(·intro wq hSw;obtain⟨c0,c1,c2,c3⟩:=hSw.1.at;go_simp;try with_reducible rfl);iterate 3 (rotate_left;(·rfl);(·exact ah))
 rotate_left;(·rfl);(·intro wq hSw;obtain⟨c0,c1,c2,c3⟩:=hSw.1.at;go_simp;try with_reducible rfl);try simp only[av]
 clear g;refine fC (i:=4) (fun y:Nat×Nat×Nat×Nat×Nat×Tr It=> .pointer (some ⟨y.1,0,none⟩)) (fun y wx=>TY w.heap.size b t l y wx) rfl ae ak au (aB) (fun _ h=>h) (fun yq=>TY.st w.heap.size b t l yq) (fun wq hSw=> ?_) (fun yq=> ?_)
 ·exact jw.aN (Set.clone S q mb th rb b t l wq hSw.1.2.1) (by go_simp) (fun e w' h=>by
   obtain⟨S1,q1,kg,dm,nG,t1,he,h1,h2,h3,hb⟩:=h;exact⟨(S1,q1,kg,dm,nG,t1),he,⟨h1,h2,fun g hg=>Nat.le_trans hSw.2.size (h3 g hg)⟩,hb⟩)
 obtain⟨S1,q1,kg,dm,nG,t1⟩:=yq;try dsimp only
 try simp only[av]
 refine bP (n:=13) rfl rfl ae (fun wz hSz=> ?_);simp only[List.toList_toArray,List.drop_succ_cons,List.drop_zero];have HZ:=aa hSz;clear hSz
 have HF:Hid (t1.list=t.list∧lV (wz.alloc (.cells #[S1, .int .i64 run, .int .i64 (aJ k), .int .u64 (aI k)] 47)) wz.heap.size S1 q1 kg dm nG run k b t1 l∧(∀g∈wz.heap.size::fO S1 q1 kg dm nG t1,w.heap.size≤g)∧Below w w (wz.alloc (.cells #[S1, .int .i64 run, .int .i64 (aJ k), .int .u64 (aI k)] 47))):=aa (by
  have hal:=aD wz (.cells #[S1, .int .i64 run, .int .i64 (aJ k), .int .u64 (aI k)] 47);obtain⟨⟨_,hbw⟩,h1,h2,h3⟩:=HZ.out;refine⟨h1,⟨Cs.bL wz 47 [.pointer (some ⟨S1,0,none⟩), .int .i64 run, .int .i64 (aJ k), .int .u64 (aI k)],h2.below hal,fun hm=>absurd (h2.gW _ hm) af⟩,fun g hg=> ?_,ai hbw hal⟩;rcases List.mem_cons.1 hg with rfl|hg
  ·exact hbw.size
  ·exact h3 g hg)
 go_wp2_with fail
 go_ret;exact⟨_,_,_,_,_,_,_,rfl,HF.out⟩
end


section
open Go.RowKit
structure di (B:Nat) (F:List Nat) (w w':World):Prop where
 os:w'.os=w.os
 tape:w'.tape=w.tape
 output:w'.output=w.output
 size:w.heap.size≤w'.heap.size
 block:∀k,k<w.heap.size→(k<B∨k∈F)→w'.heap[k]?=w.heap[k]?
theorem di.refl (B:Nat) (F:List Nat) (w:World):di B F w w:=⟨rfl,rfl,rfl,Nat.le_refl _,fun _ _ _=>rfl⟩
section
variable {B:Nat} {F:List Nat} {a b c w w':World}
theorem di.trans (h:di B F a b) (k:di B F b c):di B F a c:=
 ⟨k.os.trans h.os,k.tape.trans h.tape,k.output.trans h.output,Nat.le_trans h.size k.size,fun i hi hF=>(k.block i (Nat.lt_of_lt_of_le hi h.size) hF).trans (h.block i hi hF)⟩
theorem di.below (h:Below w w w'):di B F w w':=⟨h.os,h.tape,h.output,h.size,fun k hk _=>h.block k hk⟩
theorem di.on (h:di B F a b) (k:Below b.heap.size b c):di B F a c:=h.trans (.below k)
theorem di.aG {G:List Nat} (h:ax G w w') (hG:∀g∈G,(B≤g∧g∉F)∨w.heap.size≤g):di B F w w':=
 ⟨h.os,h.tape,h.output,h.size,fun k hk hF=>h.block k hk (fun hm=>by
   rcases hG k hm with⟨h1,h2⟩|h1
   ·rcases hF with h3|h3
    ·omega
    ·exact h2 h3
   ·omega)⟩
theorem di.mono {B':Nat} {F':List Nat} (h:di B F w w') (hB:B'≤B) (hF:∀g∈F',g∈F):di B' F' w w':=
 ⟨h.os,h.tape,h.output,h.size,fun k hk hk'=>h.block k hk (hk'.imp (fun h=>by omega) (hF k))⟩
theorem di.less {F':List Nat} (h:di B F w w') (hF:∀g∈F',g∈F):di B F' w w':=h.mono ay hF
theorem Cs.uP {g:Nat} {vs:List Value} (h:Cs w g vs) (hf:di B F w w') (hg:g<B∨g∈F):Cs w' g vs:=fun i v hv=>by
 have hl:=World.block_lt_of_cell? w _ (h i v hv).1;exact⟨(World.cell?_of_block (w:=w) (hf.block g hl hg)).trans (h i v hv).1,(World.frozen?_of_block (w:=w) (hf.block g hl hg)).trans (h i v hv).2⟩
theorem bO.uP {α:Type} {enc:α→List Value} {k:Nat} {T:TypeId} {base:Nat} {A:Option Addr} {n cp:Nat} {l:List α} (h:bO enc k T w base A n cp l) (hf:di B F w w') (hF:∀j∈rowOf A,j<B∨j∈F):bO enc k T w' base A n cp l:=by
 obtain⟨h1,h2⟩:=h;refine⟨h1,?_⟩;rcases h2 with h2|⟨g,cap,cur,hv,hg,hh,r⟩
 ·exact .inl h2
 ·refine .inr ⟨g,cap,cur,hv,hg,?_,r⟩;have hlt:g<w.heap.size:=(Array.getElem?_eq_some_iff.1 hh).1;injection hv with e1;subst e1;rw[hf.block g hlt (hF g (by simp[rowOf]))];exact hh
end
structure KS where
 run:Int
 k:Int
 b:Int
 L:List It
 l:List Rq
def KB (B:Nat) (F:List Nat) (D:Nat) (s:KS) (w:World):Prop:=
 ∃S q mb th rb t,(t.list=s.L∧lV w D S q mb th rb s.run s.k s.b t s.l)∧(∀g∈D::fO S q mb th rb t,B≤g∧g∉F)∧(∀j∈F,j<w.heap.size)∧WR s.k∧-9223372036854775808≤s.run∧s.run≤9223372036854775807
section
variable {B D:Nat} {F G:List Nat} {s:KS} {w w':World}
theorem lV.lt {C S q mb th rb:Nat} {run k b:Int} {t:Tr It} {l:List Rq} (h:lV w C S q mb th rb run k b t l):∀g∈C::fO S q mb th rb t,g<w.heap.size:=fun g hg=>by
 rcases List.mem_cons.1 hg with rfl|hg
 ·exact h.1.lt
 ·exact h.2.1.gW g hg
theorem KB.below (h:KB B F D s w) (hb:Below w w w'):KB B F D s w':=by
 obtain⟨S,q,mb,th,rb,t,⟨h1,h2⟩,h3,h4,h5⟩:=h;exact⟨S,q,mb,th,rb,t,⟨h1,h2.below hb⟩,h3,fun j hj=>Nat.lt_of_lt_of_le (h4 j hj) hb.size,h5⟩
theorem KB.fresh (h:KB B F D s w) (hb:Below w w w') (hG:∀j∈G,w.heap.size≤j∧j<w'.heap.size):KB B (G++F) D s w':=by
 obtain⟨S,q,mb,th,rb,t,⟨h1,h2⟩,h3,h4,h5⟩:=h;refine⟨S,q,mb,th,rb,t,⟨h1,h2.below hb⟩,fun g hg=>⟨(h3 g hg).1,fun hm=> ?_⟩,fun j hj=> ?_,h5⟩
 ·rcases List.mem_append.1 hm with hm|hm
  ·have:=h2.lt g hg;have:=hG g hm;omega
  ·exact(h3 g hg).2 hm
 ·rcases List.mem_append.1 hj with hj|hj
  ·exact(hG j hj).2
  ·exact Nat.lt_of_lt_of_le (h4 j hj) hb.size
theorem KB.less {F':List Nat} (h:KB B F D s w) (hF:∀j∈F',j∈F):KB B F' D s w:=by
 obtain⟨S,q,mb,th,rb,t,h1,h3,h4,h5⟩:=h;exact⟨S,q,mb,th,rb,t,h1,fun g hg=>⟨(h3 g hg).1,fun hm=>(h3 g hg).2 (hF g hm)⟩,fun j hj=>h4 j (hF j hj),h5⟩
theorem KB.away (h:KB B F D s w) (hc:ax G w w') (hG:∀g∈G,g<B∨g∈F) (hF:∀g∈G,∀f a c,w.cell? g≠some (.func f a c)):KB B F D s w':=by
 obtain⟨S,q,mb,th,rb,t,⟨h1,h2⟩,h3,h4,h5⟩:=h
 have hd:∀g∈D::fO S q mb th rb t,g∉G:=fun g hg hm=>by
  have:=h3 g hg;rcases hG g hm with h6|h6
  ·omega
  ·exact this.2 h6
 exact⟨S,q,mb,th,rb,t,⟨h1,h2.1.aG hc (hd D ag),h2.2.1.away hc hF (fun g hg=>hd g (List.mem_cons_of_mem _ hg)),h2.2.2⟩,h3,fun j hj=>Nat.lt_of_lt_of_le (h4 j hj) hc.size,h5⟩
variable {S q mb th rb:Nat} {t:Tr It}
theorem KB.step (h1:t.list=s.L) (h2:lV w D S q mb th rb s.run s.k s.b t s.l) (h3:∀g∈D::fO S q mb th rb t,B≤g∧g∉F) (h4:∀j∈F,j<w.heap.size) (h5:WR s.k∧-9223372036854775808≤s.run∧s.run≤9223372036854775807)
  {b':Int} {L':List It} {l':List Rq} (hs:mo S q mb th rb b' L' l' t w w'):KB B F D ⟨s.run,s.k,b',L',l'⟩ w'∧di B F w w':=by
 obtain⟨t',e,hs',hbl,hch⟩:=hs;have hlt:=h2.lt;have hn:∀g∈rb::foot q mb th t,g∈fO S q mb th rb t:=fun g hg=>List.mem_cons_of_mem _ hg;refine⟨⟨S,q,mb,th,rb,t',⟨e,h2.1.aG hch (fun hm=>h2.2.2 (hn D hm)),hs',fun hm=> ?_⟩,fun g hg=> ?_,fun j hj=>Nat.lt_of_lt_of_le (h4 j hj) hch.size,h5⟩,di.aG hch (fun g hg=>Or.inl (h3 g (List.mem_cons_of_mem _ (hn g hg))))⟩
 ·rcases oQ hbl D hm with h6|h6
  ·exact h2.2.2 h6
  ·have:=hlt D ag;omega
 ·rcases List.mem_cons.1 hg with rfl|hg
  ·exact h3 _ ag
  ·rcases oQ hbl g hg with h6|h6
   ·exact h3 g (List.mem_cons_of_mem _ h6)
   ·refine⟨?_,fun hm=> ?_⟩
    ·have:=h3 D ag;have:=hlt D ag;omega
    ·have:=h4 g hm;omega
theorem KB.put (h1:t.list=s.L) (h2:lV w D S q mb th rb s.run s.k s.b t s.l) (h3:∀g∈D::fO S q mb th rb t,B≤g∧g∉F) (h4:∀j∈F,j<w.heap.size) {run' k':Int} (h5:WR k'∧-9223372036854775808≤run'∧run'≤9223372036854775807)
  (hc:Cs w' D [.pointer (some ⟨S,0,none⟩), .int .i64 run', .int .i64 (aJ k'), .int .u64 (aI k')]) (hch:ax [D] w w'):KB B F D ⟨run',k',s.b,s.L,s.l⟩ w'∧di B F w w':=
 ⟨⟨S,q,mb,th,rb,t,⟨h1,hc,h2.2.1.away hch (fun g hg f a c e=>by
   simp only[List.mem_singleton] at hg;subst hg;rw[h2.1.aL] at e;cases e) (fun g hg hm=>by
   simp only[List.mem_singleton] at hm;subst hm;exact h2.2.2 hg),h2.2.2⟩,h3,fun j hj=>Nat.lt_of_lt_of_le (h4 j hj) hch.size,h5⟩,di.aG hch (fun g hg=>by
   simp only[List.mem_singleton] at hg;subst hg;exact Or.inl (h3 _ ag))⟩
end
def KO (B:Nat) (F:List Nat) (D:Nat) (s:KS) (w:World) (S q mb th rb:Nat) (t:Tr It):Prop:=
 (t.list=s.L∧lV w D S q mb th rb s.run s.k s.b t s.l)∧(∀g∈D::fO S q mb th rb t,B≤g∧g∉F)∧(∀j∈F,j<w.heap.size)∧WR s.k∧-9223372036854775808≤s.run∧s.run≤9223372036854775807
section
variable {B D:Nat} {F G:List Nat} {s:KS} {w w':World} {S q mb th rb:Nat} {t:Tr It}
theorem KB.open_ (h:KB B F D s w):∃S q mb th rb t,KO B F D s w S q mb th rb t:=h
theorem KO.kb (h:KO B F D s w S q mb th rb t):KB B F D s w:=⟨S,q,mb,th,rb,t,h⟩
theorem KO.below (h:KO B F D s w S q mb th rb t) (hb:Below w w w'):KO B F D s w' S q mb th rb t:=⟨⟨h.1.1,h.1.2.below hb⟩,h.2.1,fun j hj=>Nat.lt_of_lt_of_le (h.2.2.1 j hj) hb.size,h.2.2.2⟩
theorem KO.at (h:KO B F D s w S q mb th rb t):(w.cell? D=some (.pointer (some ⟨S,0,none⟩))∧w.cell? ⟨D,1,none⟩=some (.int .i64 s.run)∧w.cell? ⟨D,2,none⟩=some (.int .i64 (aJ s.k))∧w.cell? ⟨D,3,none⟩=some (.int .u64 (aI s.k)))∧w.cell? S=some (.pointer (some ⟨q,0,none⟩)):=⟨h.1.2.at,h.1.2.2.1.1.2.at.1⟩
theorem KO.sat (h:KO B F D s w S q mb th rb t):eP w S q mb th rb s.b t s.l:=h.1.2.2.1
theorem KO.EX (h:KO B F D s w S q mb th rb t):bQ w q mb th (qM s.b s.L) t:=by rw[←h.1.1];exact h.sat.1.1
theorem KO.mem (h:KO B F D s w S q mb th rb t) {y:Rq} (hy:y∈s.l):y.a∈t.list∧y.In:=⟨(h.sat.2.1.2.1).mem_iff.1 (List.mem_map_of_mem (f:=fun c:Rq=>c.a) hy),h.sat.2.1.2.2 y hy⟩
theorem KO.step (h:KO B F D s w S q mb th rb t) {b':Int} {L':List It} {l':List Rq} (hs:mo S q mb th rb b' L' l' t w w'):KB B F D ⟨s.run,s.k,b',L',l'⟩ w'∧di B F w w':=KB.step h.1.1 h.1.2 h.2.1 h.2.2.1 h.2.2.2 hs
end
theorem bg {ops:Array Oper} {rest:List Oper} {op:Oper} {a:Act} {w:World} {Q:Exit→Act→World→Prop} (T:TypeId) (vs:List Value) {n:Nat} (hT:(Tryz.prog.info? T).map (·.size)=some n) (hgd:op.guard=none) (x y:Operand) (ho:op.op= .store T x y)
  (b o:Nat) (us:List Value) (hc:Cs w b us) (hn:vs.length=n) (hl:o+n≤us.length) (h1:vs.all (·.oneCell')=true) (hx:a.eval x= .pointer (some ⟨b,o,none⟩)) (hy:a.eval y= .agg vs.toArray)
  (h:∀W,W=w.setCells b o vs→wpList Tryz.prog ops Q rest (a.put op.dst undef) W):wpList Tryz.prog ops Q (op::rest) a w:=
 wpList_store_mid hgd T x y ho b o vs.toArray hx hy (by
   intro j hj;have hj':o+j<us.length:=by simp at hj;omega
   exact⟨by rw[(hc _ _ (List.getElem?_eq_getElem hj')).1];rfl,(hc _ _ (List.getElem?_eq_getElem hj')).2⟩) (by rw[hT,←hn];simp) (by simpa using h1) (h _ rfl)
def uh (k x:Int):Int:=if okW (k+oH [x])=true then k+oH [x] else mP
theorem Vp {x:Int} (hx:WR x):WR (oH [x]):=by
 have:=zW (l:=[x]) (fun y hy=>by simp at hy;subst hy;exact hx);unfold oH mP WR;omega
theorem Vn {k x:Int}:WR (uh k x):=by
 unfold uh;split
 ·rename_i h;exact dG.1 h
 ·unfold mP WR;omega
theorem OP (m:Mu) (p:P3):WR (m.lag p).2:=by
 unfold Mu.lag;split
 ·rename_i h;unfold Mu.pO at h;simp only[Bool.and_eq_true,decide_eq_true_eq] at h;have:=KJ h.1.1.1.1 h.1.1.1.2;exact Df (dG.1 h.2) af
 ·unfold WR;omega
def KV (B:Nat) (F:List Nat) (D:Nat) (s:KS) (w0:World) (L:List (Nat×List Value)) (w:World):Prop:=
 KB B (L.map (·.1)++F) D s w∧((∀(k g:Nat) (vs:List Value),L[k]?=some (g,vs)→Cs w g vs∧w0.heap.size≤g)∧(L.map (·.1)).Nodup)∧(B≤w0.heap.size∧∀j∈F,j<w0.heap.size)∧di B F w0 w
section
variable {B D:Nat} {F:List Nat} {s s':KS} {w0 w w':World} {L:List (Nat×List Value)}
theorem KB.ge (h:KB B F D s w):B≤D∧D<w.heap.size:=by
 obtain⟨S,q,mb,th,rb,t,⟨_,h2⟩,h3,_⟩:=h;exact⟨(h3 D ag).1,h2.lt D ag⟩
theorem KV.of (h:KB B F D s w):KV B F D s w [] w:=by
 have:=h.ge;obtain⟨S,q,mb,th,rb,t,h1,h3,h4,h5⟩:=id h;exact⟨h,⟨fun k g vs e=>by simp at e,List.nodup_nil⟩,⟨by omega,h4⟩,di.refl _ _ _⟩
theorem KV.below (h:KV B F D s w0 L w) (hb:Below w w w'):KV B F D s w0 L w':=
 ⟨h.1.below hb,⟨fun k g vs e=>⟨(h.2.1.1 k g vs e).1.below hb,(h.2.1.1 k g vs e).2⟩,h.2.1.2⟩,h.2.2.1,h.2.2.2.on hb⟩
theorem KV.cs (h:KV B F D s w0 L w) (k:Nat) {g:Nat} {vs:List Value} (e:L[k]?=some (g,vs)):Cs w g vs:=(h.2.1.1 k g vs e).1
theorem KV.Z8 (h:KV B F D s w0 L w):∀j∈L.map (·.1)++F,j<w.heap.size:=by
 obtain⟨S,q,mb,th,rb,t,h1,h3,h4,h5⟩:=h.1;exact h4
theorem KV.add (h:KV B F D s w0 L w) (hb:Below w w w') {g:Nat} {v:Value} {vs:List Value} (hc:Cs w' g (v::vs)) (hg:w.heap.size≤g):KV B F D s w0 (L++[(g,v::vs)]) w':=by
 have h2:=h.below hb;have hF:=h.Z8;refine⟨(h.1.fresh (G:=[g]) hb (fun j hj=>by simp at hj;subst hj;exact⟨hg,hc.lt⟩)).less (fun j hj=> ?_),⟨fun k b us e=> ?_,?_⟩,h2.2.2⟩
 ·simp only[List.map_append,List.map_cons,List.map_nil,List.append_assoc,List.mem_append,List.mem_singleton] at hj⊢
  rcases hj with h|h|h
  ·exact Or.inr (Or.inl h)
  ·exact Or.inl h
  ·exact Or.inr (Or.inr h)
 ·rw[List.getElem?_append] at e;split at e
  ·exact h2.2.1.1 k b us e
  ·rcases hk:k-L.length with _|j
   ·rw[hk] at e;simp at e;obtain⟨rfl,rfl⟩:=e;exact⟨hc,Nat.le_trans h.2.2.2.size hg⟩
   ·rw[hk] at e;simp at e
 ·rw[List.map_append,List.nodup_append];refine⟨h.2.1.2,by simp,fun a ha b hb e=> ?_⟩;simp at hb;have:=hF a (List.mem_append_left _ ha);omega
theorem KV.new (h:KV B F D s w0 L w) (T:TypeId) (v:Value) (vs:List Value):KV B F D s w0 (L++[(w.heap.size,v::vs)]) (w.alloc (.cells (v::vs).toArray T)):=
 h.add (aD w _) (Cs.bL w T _) ay
theorem KV.op (h:KV B F D s w0 L w) (hk:KB B (L.map (·.1)++F) D s' w') (hf:di B (L.map (·.1)++F) w w'):KV B F D s' w0 L w':=
 ⟨hk,⟨fun k g vs e=>⟨(h.2.1.1 k g vs e).1.uP hf (Or.inr (List.mem_append_left _ (List.mem_map.2 ⟨(g,vs),List.mem_of_getElem? e,rfl⟩))),(h.2.1.1 k g vs e).2⟩,h.2.1.2⟩,h.2.2.1,h.2.2.2.trans (hf.less (fun g hg=>List.mem_append_right _ hg))⟩
theorem KV.put (h:KV B F D s w0 L w) (k:Nat) {g:Nat} {v:Value} {us:List Value} (e:L[k]?=some (g,v::us)) (o:Nat) (vs:List Value) (hl:o+vs.length≤(v::us).length) (hv:∀f a c,v≠ .func f a c) {W:World} (hW:W=w.setCells g o vs):KV B F D s w0 (L.set k (g,xg (v::us) o vs)) W:=by
 subst hW;have hg:=h.2.1.1 k g _ e;have hgl:=hg.1.lt;have hm:g∈L.map (·.1):=List.mem_map.2 ⟨(g,v::us),List.mem_of_getElem? e,rfl⟩;have hch:ax [g] w (w.setCells g o vs):=ax.zN vs o (ax.refl _ _) (Or.inl ag)
 have hks:=h.1.away hch (fun j hj=>by simp at hj;subst hj;exact Or.inr (List.mem_append_left _ hm)) (fun j hj f a c ec=>by
  simp at hj;subst hj;rw[hg.1.aL] at ec;exact hv f a c (Option.some.inj ec))
 have hV:VS {w with heap:= #[]} L w:=⟨fun k g vs e=>⟨(h.2.1.1 k g vs e).1,Nat.zero_le _,h.Z8 g (List.mem_append_left _ (List.mem_map.2 ⟨(g,vs),List.mem_of_getElem? e,rfl⟩))⟩,h.2.1.2,⟨rfl,rfl,rfl,Nat.zero_le _,fun k hk=>absurd hk ag⟩⟩;have hP:=hV.puts k e o vs hl;have hkl:k<L.length:=(List.getElem?_eq_some_iff.1 e).1
 have hmap:(L.set k (g,xg (v::us) o vs)).map (·.1)=L.map (·.1):=by
  rw[List.map_set];apply List.ext_getElem?
  intro i;by_cases c:k=i
  ·subst c;rw[List.getElem?_set_self (by simpa using hkl)];simp[e]
  ·rw[List.getElem?_set_ne c]
 refine⟨by rw[hmap];exact hks,⟨fun j b ts ej=>⟨(hP.1 j b ts ej).1,?_⟩,hP.2.1⟩,h.2.2.1,h.2.2.2.trans (di.aG hch (fun j hj=> ?_))⟩
 ·by_cases c:k=j
  ·subst c;rw[List.getElem?_set_self hkl] at ej;injection ej with ej;injection ej with e1 _;rw[←e1];exact hg.2
  ·rw[List.getElem?_set_ne c] at ej;exact(h.2.1.1 j b ts ej).2
 ·simp at hj;subst hj;exact Or.inl ⟨Nat.le_trans h.2.2.1.1 hg.2,fun hm=>by have:=h.2.2.1.2 _ hm;have:=hg.2;omega⟩
theorem KV.fin (h:KV B F D s w0 L w):KB B F D s w∧di B F w0 w:=⟨h.1.less (fun j hj=>List.mem_append_right _ hj),h.2.2.2⟩
end
end


section
open Go.RowKit
set_option maxRecDepth 100000
set_option maxHeartbeats 32000000
theorem jw.made {P:Program} {ι:Type} {V:ι→Value} {R:ι→World→Prop} {w w':World} {r:Result Next} {v:Value} (hr:r= .ok (.value v) w') (h:∃x,v=V x∧R x w'∧Below w w w'):jw P w V R r:=by
 rw[hr];exact h
theorem Cs.stays (vs:List Value) (g:Nat):aF (fun w=>Cs w g vs):=fun _ _ h hb=>h.below hb
theorem yx.aad {w:World} {g:Nat} {x:Int} (h:Cs w g [.int .i64 (aJ x), .int .u64 (aI x)]):yx w (some ⟨g,0,none⟩) 1 (qx [x]):=
 ⟨rfl,fun i hi=>by
  exact⟨g,0,rfl,h.lt,fun j hj=>by
   obtain rfl:j=0:=af;exact⟨h.aL,h.fH⟩⟩⟩
theorem bIW {P:Prop} (h:P:=by
 (first|exact⟨_,by go_simp;(try with_reducible rfl),(Below.refl _ _).alloc ay _,by rw[show aJ 0=0 by decide,show aI 0=0 by decide];exact Cs.cK _ _ _ _,hSw.size⟩|exact⟨_,by go_simp;(try with_reducible rfl),(Below.refl _ _).alloc ay _,by rw[show aJ 0=0 by decide,show aI 0=0 by decide];exact Cs.cK _ _ _ _,hSw.1.size⟩|exact⟨_,by go_simp;(try with_reducible rfl),(Below.refl _ _).alloc ay _,by rw[show aJ 0=0 by decide,show aI 0=0 by decide];exact Cs.cK _ _ _ _,hSw.1.1.size⟩|exact⟨_,by go_simp;(try with_reducible rfl),(Below.refl _ _).alloc ay _,by rw[show aJ 0=0 by decide,show aI 0=0 by decide];exact Cs.cK _ _ _ _,hSw.1.1.1.size⟩)):P:=h
theorem Core.carry (B:Nat) (F:List Nat) (D:Nat) (s:KS) (x:Int) (hx:WR x) (w:World) (h:KB B F D s w):Calls Tryz.prog 75 #[(.pointer (some ⟨D,0,none⟩)),wv x] w (fun e w'=>e= .returned (.tuple #[])∧KB B F D ⟨s.run,uh s.k x,s.b,s.L,s.l⟩ w'∧di B F w w'):=by
 have h0:=KV.of h;obtain⟨S,q,mb,th,rb,t,⟨hl,hc⟩,hf,hF,hk⟩:=h;obtain⟨run,k,b,L,l⟩:=s;dsimp only at hl hc hk⊢
 have HK:=aa hk;have HX:=aa hx;have bX:Hid (∀y∈[x],WR y):=aa (fun y hy=>by simp at hy;subst hy;exact hx);obtain⟨cv,hcv⟩:∃cv,cv=eQ (k+oH [x]):=⟨_,rfl⟩;obtain⟨ok,hok⟩:∃ok,ok=okW (k+oH [x]):=⟨_,rfl⟩;have aaW:Hid (∀w,Calls Tryz.prog 89 #[wv k,wv (oH [x])] w (aV (.tuple #[wv cv, .bool ok]) w)):=aa (fun w=>by rw[hcv,hok];exact bK.SB hk.1 (Vp hx) w);have YO:Hid (ok=true→uh k x=cv):=aa (fun e=>by unfold uh;rw[hok] at e;rw[if_pos e,hcv];unfold eQ;rw[if_pos e]);have aaT:Hid (ok=false→uh k x=mP):=aa (fun e=>by unfold uh;rw[hok] at e;rw[if_neg (by rw[e];simp)]);clear hcv hok;have hal:=aD w (.cells #[.int .i64 (aJ x), .int .u64 (aI x)] 42);have HC:=aa (hc.below hal);have aY:Hid (Cs (w.alloc (.cells #[.int .i64 (aJ x), .int .u64 (aI x)] 42)) w.heap.size [.int .i64 (aJ x), .int .u64 (aI x)]):=aa (Cs.cK w 42 _ _);have HN:=aa (h0.new 42 (.int .i64 (aJ x)) [.int .u64 (aI x)]);have mF:=aa hl;have nK:=aa hf;clear hal h0 hc hl hf hF hk hx;go_enter Tryz.func75,Tryz.ntmps75;go_upto_region 1 with fail
 generalize (w.alloc (.cells #[.int .i64 (aJ x), .int .u64 (aI x)] 42))=W0 at HC aY HN⊢
 have aB:aF (fun wx=>Below W0 W0 wx):=fun _ _ h hb=>ai h hb;refine aA (S:=fun wx=>Below W0 W0 wx) 14 ae (aB _ _ ((Below.refl W0.heap.size W0)) (Below.refl _ _).drew) ?_;refine aQ (aB) (fun _ h=>h) fun g=> ?_;refine tk 0 ?_ g ?_ ?_ (tk 1 ?_ g ?_ ?_ (tk 2 ?_ g ?_ ?_ (tk 3 ?_ g ?_ ?_ (tk 4 ?_ g ?_ ?_ ?_))));iterate 3 (rotate_left;(·rfl);(·exact ah))
 iterate 2 (rotate_left;(·rfl);(·intro wq hSw;obtain⟨c0,c1,c2,c3⟩:=(HC.out.below hSw).at;obtain⟨x0,x1⟩:=(Cs.below aY.out hSw).two;go_simp;try with_reducible rfl))
 try simp only[av]
 clear g;refine uB.fst (j:=11) (dst:=some 4) (T:=fun wx g=>Cs wx g [.int .i64 (aJ 0), .int .u64 (aI 0)]∧W0.heap.size≤g) ?_;refine wZ (k:=5) _ (fun y:Nat=> .slice (some ⟨y,0,none⟩) 1 1) (fun(y:Nat) (wx:World)=>Cs wx y [.int .i64 (aJ x), .int .u64 (aI x)]) rfl rfl rfl (Or.inl ae) ae ak ak ak ae (by intro cs b h;cases h) au (fun _=>rfl) (aB) (fun _ h=>h) (fun g=>fun _ _ h hb=>⟨h.1.below hb,h.2⟩) (fun yq=>Cs.stays [.int .i64 (aJ x), .int .u64 (aI x)] yq) (fun aq wq hSw=> ?_) (fun wq hSw=> ?_) (fun yq=> ?_)
 ·exact bIW
 ·exact jw.made (by go_simp;(try with_reducible rfl)) ⟨wq.heap.size,rfl,Cs.cK _ _ _ _,(Below.refl _ _).alloc ay _⟩
 obtain yq:=yq;revert yq;intro gz;try dsimp only
 try simp only[av]
 refine wZ (k:=6) _ (fun _:Unit=>wv (oH [x])) (fun(_:Unit) (_:World)=>True) rfl rfl rfl (Or.inl ae) ae ak ak ak ae (by intro cs b h;cases h) au (fun _=>rfl) (aF.dF (aB) (Cs.stays [.int .i64 (aJ x), .int .u64 (aI x)] gz)) (fun _ h=>h.1) (fun g=>fun _ _ h hb=>⟨h.1.below hb,h.2⟩) (fun yq=>bZ yq) (fun aq wq hSw=> ?_) (fun wq hSw=> ?_) (fun yq=> ?_)
 ·exact bIW
 ·exact jw.aN (qw.carried (some ⟨gz,0,none⟩) 1 1 [x] wq (yx.aad hSw.2) bX.out af) (by go_simp) (fun e w' h=>⟨(),h.1,trivial,h.2⟩)
 obtain⟨⟩:=yq;skip
 try simp only[av]
 refine gq (k:=7) (v:= .tuple #[wv cv, .bool ok]) _ rfl rfl rfl ak (aF.dF (aF.dF (aB) (Cs.stays [.int .i64 (aJ x), .int .u64 (aI x)] gz)) (bZ ())) (fun _ h=>h.1.1) (fun g=>fun _ _ h hb=>⟨h.1.below hb,h.2⟩) ae ae ae ae ae ae ae ae (by intro cs b h;cases h) (fun _ _ _ h=>h) (Or.inl ⟨by rfl,fun wq hSw=> ?_⟩) ?_
 ·refine dU.aN (aaW.out wq) (by go_simp) ?_;rintro e wr ⟨rfl,hb⟩;exact⟨rfl,hb⟩
 try simp only[av]
 refine gq (k:=8) (v:= ?_) _ rfl rfl rfl ak (aF.dF (aF.dF (aB) (Cs.stays [.int .i64 (aJ x), .int .u64 (aI x)] gz)) (bZ ())) (fun _ h=>h.1.1) (fun g=>fun _ _ h hb=>⟨h.1.below hb,h.2⟩) ae ae ae ae ae ae ae ae (by intro cs b h;cases h) (fun _ _ _ h=>h) (bA.bF (Or.inl ⟨by rfl,?_⟩)) ?_;rotate_left
 ·exact ah
 try simp only[av]
 refine gq (k:=9) (v:= ?_) _ rfl rfl rfl ak (aF.dF (aF.dF (aB) (Cs.stays [.int .i64 (aJ x), .int .u64 (aI x)] gz)) (bZ ())) (fun _ h=>h.1.1) (fun g=>fun _ _ h hb=>⟨h.1.below hb,h.2⟩) ae ae ae ae ae ae ae ae (by intro cs b h;cases h) (fun _ _ _ h=>h) (bA.bF (Or.inl ⟨by rfl,?_⟩)) ?_;rotate_left
 ·exact ah
 try simp only[av]
 refine gq (k:=10) (v:= ?_) _ rfl rfl rfl ak (aF.dF (aF.dF (aB) (Cs.stays [.int .i64 (aJ x), .int .u64 (aI x)] gz)) (bZ ())) (fun _ h=>h.1.1) (fun g=>fun _ _ h hb=>⟨h.1.below hb,h.2⟩) ae ae ae ae ae ae ae ae (by intro cs b h;cases h) (fun _ _ _ h=>h) (bA.bF (Or.inl ⟨by rfl,?_⟩)) ?_;rotate_left
 ·exact ah
 try simp only[av]
 refine tC _ rfl rfl ae ak au (aF.dF (aF.dF (aB) (Cs.stays [.int .i64 (aJ x), .int .u64 (aI x)] gz)) (bZ ())) (fun _ h=>h.1.1) (fun g=>fun _ _ h hb=>⟨h.1.below hb,h.2⟩) (fun wq hSw=> ?_) (fun gA=> ?_)
 ·exact bIW
 try simp only[av]
 refine bB (i:=12) (fun wx=>Below W0 W0 wx∧(Cs wx gA [.int .i64 (aJ cv), .int .u64 (aI cv)]∧W0.heap.size≤gA)) 42 [.int .i64 (aJ cv), .int .u64 (aI cv)] [.int .i64 (aJ 0), .int .u64 (aI 0)] gA fT (.tmp 4) (.tmp 15) rfl rfl ae ak au ?hz1a ?hz1b ?hz1c ?hz1d ?hz1e (fun _ h=>h.2.1) (fun _ h=>⟨aU h.2.2 _ _ h.1.1.1,Cs.bH _ 0 h.2.1 ag,h.2.2⟩) (fun _ h=>h.1) ((fun _ _ h hb=>⟨ai h.1 hb,h.2.1.below hb,h.2.2⟩)) ?hz1f
 case hz1a=>rfl
 case hz1b=>rfl
 case hz1c=>rfl
 case hz1d=>rfl
 case hz1e=>rfl
 try simp only[av]
 refine aQ ((fun _ _ h hb=>⟨ai h.1 hb,h.2.1.below hb,h.2.2⟩)) (fun _ h=>h.1) fun g=> ?_;refine tk 13 ?_ g ?_ ?_ ?_;rotate_left;(·rfl);(·exact ah);try simp only[av]
 clear g;refine aZ ae (fun wz hSz=> ?_) _;have gG:=aa HC.out.lt;have HGE:=aa hSz.2.2;have JU:=aa (HC.out.below hSz.1);have HG:=aa hSz.2.1;have Uj:=aa (HN.out.add hSz.1 hSz.2.1 hSz.2.2);clear hSz HC HN aY
 have qN:Hid (∀(W' W:World) (k':Int),KV B F D ⟨run,k,b,L,l⟩ w [(w,[.int .i64 (aJ x), .int .u64 (aI x)]),(gA,[.int .i64 (aJ k'), .int .u64 (aI k')])] W'→lV W' D S q mb th rb run k b t l→WR k'→W=W'.setCells D 2 [.int .i64 (aJ k'), .int .u64 (aI k')]→KB B F D ⟨run,k',b,L,l⟩ W∧di B F w W):=aa (fun W' W k' hn hcc hwr hW=>by
  have hch:ax [D] W' W:=by rw[hW];exact ax.zN _ _ (ax.refl _ _) (Or.inl ag)
  have hcs:Cs W D [.pointer (some ⟨S,0,none⟩), .int .i64 run, .int .i64 (aJ k'), .int .u64 (aI k')]:=by rw[hW];exact Cs.bH _ 2 hcc.1 ag
  have hfin:=hn.fin;obtain⟨h1,h2⟩:=KB.put (F:=F) (s:=⟨run,k,b,L,l⟩) mF.out hcc nK.out (fun j hj=>Nat.lt_of_lt_of_le (hn.2.2.1.2 j hj) hfin.2.size) ⟨hwr,HK.out.2⟩ hcs hch;exact⟨h1,hfin.2.trans h2⟩)
 have Ue:Hid (ok=true→WR cv):=aa (fun e=>by rw[←YO.out e];exact Vn)
 have Qt:Hid (∀W,W=wz.setCells gA 0 [.int .i64 9223372036854775807, .int .u64 18446744073709551615]→lV W D S q mb th rb run k b t l):=aa (fun W hW=>by
  have hch:ax [gA] wz W:=by rw[hW];exact ax.zN _ _ (ax.refl _ _) (Or.inl ag)
  have hlt:=JU.out.lt
  have hd:∀g∈D::fO S q mb th rb t,g∉[gA]:=fun g hg hm=>by
   simp only[List.mem_singleton] at hm;subst hm;exact absurd (gG.out _ hg) (by have:=HGE.out;omega)
  exact⟨JU.out.1.aG hch (hd D ag),JU.out.2.1.away hch (fun g hg f a c e=>by
   simp only[List.mem_singleton] at hg;subst hg;rw[HG.out.aL] at e;cases e) (fun g hg=>hd g (List.mem_cons_of_mem _ hg)),JU.out.2.2⟩)
 clear mF nK;cases hok:ok with
 |true=>
  have FQ:=aa hok;clear hok;obtain⟨z0,z1⟩:=HG.out.two;obtain⟨c0,c1,c2,c3⟩:=JU.out.at;have YP:=aa JU.out.1;go_wp2_with (first|((with_reducible refine bg 42 [.int .i64 (aJ cv), .int .u64 (aI cv)] fT rfl (.tmp 23) (.tmp 21) rfl D 2 _ YP.out ?_ ?_ ?_ ?_ ?_ ?_);(iterate 5 (·first|rfl|simp|decide));(intro W2 hW2);(have HW:=aa hW2);(clear hW2))|fail)
  refine bodyPost_end (v:= .tuple #[]) (by simp[results,Tryz.results75,go_sem]) rfl ?_;rw[YO.out FQ.out];exact⟨rfl,qN.out _ _ _ Uj.out JU.out (Ue.out FQ.out) HW.out⟩
 |false=>
  have FQ:=aa hok;clear hok;obtain⟨z0,z1⟩:=HG.out.two;have HGC:=aa HG.out;go_wp2_with (first|((with_reducible refine bg 42 [.int .i64 9223372036854775807, .int .u64 18446744073709551615] fT rfl (.tmp 4) (.tmp 19) rfl gA 0 _ HGC.out ?_ ?_ ?_ ?_ ?_ ?_);(iterate 5 (·first|rfl|simp|decide));(intro W2 hW2);(have HM:=aa (Uj.out.put 1 rfl 0 [.int .i64 9223372036854775807, .int .u64 18446744073709551615] ag (by intro _ _ _ h;cases h) hW2));(have HCM:Hid (lV W2 D S q mb th rb run k b t l):=aa (Qt.out _ hW2));(have HGM:Hid (Cs W2 gA [.int .i64 9223372036854775807, .int .u64 18446744073709551615]):=aa (HM.out.cs 1 rfl));(clear hW2 z0 z1);(obtain⟨z0,z1⟩:=HGM.out.two);(obtain⟨c0,c1,c2,c3⟩:=HCM.out.at);(have YP:=aa HCM.out.1))|((with_reducible refine bg 42 [.int .i64 9223372036854775807, .int .u64 18446744073709551615] fT rfl (.tmp 23) (.tmp 21) rfl D 2 _ YP.out ?_ ?_ ?_ ?_ ?_ ?_);(iterate 5 (·first|rfl|simp|decide));(intro W3 hW3);(have HW:=aa hW3);(clear hW3))|fail)
  refine bodyPost_end (v:= .tuple #[]) (by simp[results,Tryz.results75,go_sem]) rfl ?_;rw[aaT.out FQ.out];exact⟨rfl,qN.out _ _ mP HM.out HCM.out (by unfold mP WR;omega) HW.out⟩
def oG (s:KS) (y:Rq):Int:=((qM s.b s.L).lag y.a.pp).2
def KS.Dk (s:KS) (x:Int):KS:=⟨s.run,uh s.k x,s.b,s.L,s.l⟩
def KS.Ii (s:KS) (y:Rq):KS:=⟨s.run,s.k,xD y.a.i s.b s.L,rU y.a.i s.L,iO y.a.i s.l⟩
theorem Core.Ey (B:Nat) (F:List Nat) (D:Nat) (s:KS) (y:Rq) (hy:y∈s.l) (w:World) (h:KB B F D s w):Calls Tryz.prog 41 #[(.pointer (some ⟨D,0,none⟩)), .int .i64 y.a.i] w (fun e w'=>e= .returned (wv (oG s y))∧KB B F D (s.Dk (oG s y)) w'∧di B F w w'):=by
 have HN:=aa ((KV.of h).new 42 (.int .i64 0) [.int .u64 0]);clear h;go_enter Tryz.func41,Tryz.ntmps41;go_upto_region 1 with fail
 generalize (w.alloc (.cells #[.int .i64 0, .int .u64 0] 42))=W0 at HN⊢
 generalize w.heap.size=g0 at HN⊢
 obtain⟨S,q,mb,th,rb,t,⟨hl,hc⟩,hf,hF,hk⟩:=HN.out.1;obtain⟨c0,c1,c2,c3⟩:=hc.at;obtain⟨s0,s1⟩:=hc.2.1.1.2.at;have hya:y.a∈t.list:=(hc.2.1.2.1.2.1).mem_iff.1 (List.mem_map_of_mem (f:=fun c:Rq=>c.a) hy);have HYA:=aa hya;have HC:=aa hc;obtain⟨lg,iJ⟩:∃lg,lg=oG s y:=⟨_,rfl⟩;have wU:Hid (((qM s.b t.list).lag y.a.pp).2=lg):=aa (by rw[iJ,hl];rfl);have ve:=aa iJ;have HWL:Hid (WR lg):=aa (by rw[←wU.out];exact OP _ _);clear hl hf hF hk hc hya iJ;go_wp2_with fail
 refine(Queue.wm q mb th (qM s.b t.list) t y.a HYA.out _ HC.out.2.1.1.1).mono ?_;rintro e w1 ⟨rfl,hb⟩;rw[wU.out];have iU:=aa ((HN.out.below hb).new 42 (.int .i64 (aJ lg)) [.int .u64 (aI lg)]);clear hb HC HYA c0 c1 c2 c3 s0 s1 HN;unfold wv;go_upto_region 2 with fail
 generalize (w1.alloc (.cells #[.int .i64 (aJ lg), .int .u64 (aI lg)] 42))=W1 at iU⊢
 generalize w1.heap.size=g1 at iU⊢
 obtain⟨y0,y1⟩:=(iU.out.cs 1 rfl).two;go_wp2_with fail
 refine(Core.carry B _ D s lg HWL.out _ iU.out.1).mono ?_;rintro e w2 ⟨rfl,hk2,hf2⟩;have sJ:=aa (iU.out.op hk2 hf2);clear hk2 hf2 y0 y1 iU;obtain⟨y0,y1⟩:=(sJ.out.cs 1 rfl).two;have HZ:=aa (sJ.out.cs 0 rfl);go_wp2_with (first|((with_reducible refine bg 42 [.int .i64 (aJ lg), .int .u64 (aI lg)] fT rfl (.tmp 4) (.tmp 22) rfl (g0) 0 _ HZ.out ?_ ?_ ?_ ?_ ?_ ?_);(iterate 5 (·first|rfl|simp|decide));(intro W2 hW2);(have gm:=aa (sJ.out.put 0 rfl 0 [.int .i64 (aJ lg), .int .u64 (aI lg)] ag (by intro _ _ _ h;cases h) hW2));(clear hW2))|fail)
 obtain⟨z0,z1⟩:=(gm.out.cs 0 rfl).two;have gZ:=aa gm.out.fin;go_wp2_with fail
 refine bodyPost_ret (v:=wv lg) (by simp[results,Tryz.results41,go_sem,z0,z1]) rfl ⟨by rw[ve.out],by rw[←ve.out];exact gZ.out⟩
theorem Core.drop (B:Nat) (F:List Nat) (D:Nat) (s:KS) (y:Rq) (hy:y∈s.l) (w:World) (h:KB B F D s w):Calls Tryz.prog 50 #[(.pointer (some ⟨D,0,none⟩)), .int .i64 y.a.i] w (fun e w'=>e= .returned (wv (oG s y))∧KB B F D ((s.Dk (oG s y)).Ii y) w'∧di B F w w'):=by
 have HY:=aa hy;have HN:=aa ((KV.of h).new 42 (.int .i64 0) [.int .u64 0]);clear h hy;go_enter Tryz.func50,Tryz.ntmps50;go_upto_region 1 with fail
 generalize (w.alloc (.cells #[.int .i64 0, .int .u64 0] 42))=W0 at HN⊢
 generalize w.heap.size=g0 at HN⊢
 go_wp2_with fail
 refine(Core.Ey B _ D s y HY.out _ HN.out.1).mono ?_;rintro e w1 ⟨rfl,hk1,hf1⟩;obtain⟨lg,iJ⟩:∃lg,lg=oG s y:=⟨_,rfl⟩;have ve:=aa iJ;rw[←iJ] at hk1⊢
 clear iJ;have iU:=aa ((HN.out.op hk1 hf1).new 42 (.int .i64 (aJ lg)) [.int .u64 (aI lg)]);clear hk1 hf1 HN;unfold wv;go_upto_region 2 with fail
 generalize (w1.alloc (.cells #[.int .i64 (aJ lg), .int .u64 (aI lg)] 42))=W1 at iU⊢
 generalize w1.heap.size=g1 at iU⊢
 obtain⟨S,q,mb,th,rb,t,⟨hl,hc⟩,hf,hF,hk⟩:=iU.out.1;have HO:=aa (And.intro hl (And.intro hc (And.intro hf (And.intro hF hk))));obtain⟨c0,c1,c2,c3⟩:=hc.at;clear hl hc hf hF hk;go_wp2_with fail
 refine(Set.Ja S q mb th rb _ t _ y HY.out _ HO.out.2.1.2.1).mono ?_;rintro e w2 ⟨rfl,hs⟩;have hks:=KB.step HO.out.1 HO.out.2.1 HO.out.2.2.1 HO.out.2.2.2.1 HO.out.2.2.2.2 hs;rw[HO.out.1] at hks;have sJ:=aa (iU.out.op hks.1 hks.2);clear hs hks iU HO c0 c1 c2 c3;obtain⟨y0,y1⟩:=(sJ.out.cs 1 rfl).two;have HZ:=aa (sJ.out.cs 0 rfl);go_wp2_with (first|((with_reducible refine bg 42 [.int .i64 (aJ lg), .int .u64 (aI lg)] fT rfl (.tmp 4) (.tmp 15) rfl (g0) 0 _ HZ.out ?_ ?_ ?_ ?_ ?_ ?_);(iterate 5 (·first|rfl|simp|decide));(intro W2 hW2);(have gm:=aa (sJ.out.put 0 rfl 0 [.int .i64 (aJ lg), .int .u64 (aI lg)] ag (by intro _ _ _ h;cases h) hW2));(clear hW2))|fail)
 obtain⟨z0,z1⟩:=(gm.out.cs 0 rfl).two;have gZ:=aa gm.out.fin;go_wp2_with fail
 refine bodyPost_ret (v:=wv lg) (by simp[results,Tryz.results50,go_sem,z0,z1]) rfl ⟨by rw[ve.out],by rw[←ve.out];exact gZ.out⟩
end


section
open Go.RowKit
structure Pt where
 i:Int
 n:Int
 d:Bool
def Pt.cells (x:Pt):List Value:=[.int .i64 x.i, .int .u64 x.n, .bool x.d]
theorem Pt.len (x:Pt):x.cells.length=3:=rfl
theorem Pt.one (x:Pt):∀v∈x.cells,v.oneCell'=true:=by simp[Pt.cells,Value.oneCell']
theorem Pt.info:(Tryz.prog.info? 68).map (fun i=>(i.zero.map (·.cells.size),i.size,i.bytes))=some (some 3,3,24):=by kernel_rfl
section
variable {α:Type} {enc:α→List Value} {k:Nat} {T:TypeId} {z:α}
theorem Ay {P:Program} {ops:Array Oper} {o:Oper} {a:Act} {rest:List Oper} {Q:Exit→Act→World→Prop} (w:World) (hgd:o.guard=none) (s x:Operand) (TS:TypeId)
  (ho:o.op= .call {callee:= .builtin .append,args:= #[s,x],argTypes:= #[TS,TS]}) (hk:∀x,(enc x).length=k) (h0:0<k) (h1:∀x,∀v∈enc x,v.oneCell'=true)
  (bytes:Nat) (Fx:P.underlying TS=some (.slice T)) (hi:(P.info? T).map (fun i=>(i.zero.map (·.cells.size),i.size,i.bytes))=some (some k,k,bytes)) (hby:bytes≤100)
  (base:Nat) (A:Option Addr) (n c:Nat) (l:List α) (hs:a.eval s= .slice A n c) (hown:bO enc k T w base A n c l) (B:Option Addr) (m d:Nat) (l2:List α) (hx:a.eval x= .slice B m d)
  (hr:yz enc k z w B m l2) (hn:n≤1000000) (hm:m≤1000000) (hbase:base≤w.heap.size)
  (h:∀A' c' w',bO enc k T w' base A' (n+m) c' (l++l2)→ax (rowOf A) w w'→(∀j∈rowOf A',j∈rowOf A∨w.heap.size≤j)→(m=0→A'=A)→wpList P ops Q rest (a.put o.dst (.slice A' (n+m) c')) w'):wpList P ops Q (o::rest) a w:=by
 obtain⟨i0,z0,hi0,hz0,hz1,hz2,hz3⟩:∃i0 z0,P.info? T=some i0∧i0.zero=some z0∧z0.cells.size=k∧i0.size=k∧i0.bytes=bytes:=by
  cases hi':P.info? T with
  |none=>rw[hi'] at hi;cases hi
  |some i=>
   rw[hi'] at hi;simp only[Option.map_some,Option.some.injEq,Prod.mk.injEq] at hi;obtain⟨e1,e2,e3⟩:=hi;cases hz:i.zero with
   |none=>rw[hz] at e1;cases e1
   |some z=>
    rw[hz] at e1;simp only[Option.map_some,Option.some.injEq] at e1;exact⟨i,z,rfl,hz,e1,e2,e3⟩
 have hlen:=hr.1;rcases Nat.eq_zero_or_pos m with h00|hm0
 ·subst h00;obtain rfl:l2=[]:=List.eq_nil_of_length_eq_zero hlen;refine wpList_plain hgd fun K hK=> ?_
  have hrun:(Builtin.append_ #[TS,TS] o.type #[.slice A n c, .slice B 0 d]).run P w= .ok (.slice A n c) w:=by
   have hnc:n≤c:=hown.cap.1;cases B<;>cases A<;>simp[Builtin.append_,run_underlying Fx,sizeOf,typeInfo,hi0,Builtin.lenOf,Builtin.firstCells,storeCells,loadCells,loadCellsFrom,hnc]
  unfold Oper.wp;simp[execOp,ho,resolve,invoke,builtin,hs,hx,hrun,Result.andThen];exact hK _ _ (h A c w (by simpa using hown) (ax.refl _ _) (fun j hj=>Or.inl hj) (fun _=>rfl))
 ·obtain⟨b,off,rfl,_,hc⟩:=hr.2 hm0
  refine wpList_append_lies w hgd s x TS ho base T i0 z0 k bytes Fx hi0 hz0 hz2 hz3 hz1 h0 (.slice A n c) n (l.flatMap enc) hs hown
   ⟨b,off,none⟩ m d (l2.flatMap enc) hx (by rw[tY hk,hlen]) ?_ (O9 h1 l2) hm0 (by unfold maxLen;omega) ?_ hbase _ rfl ?_
  ·intro j u hj;rw[Addr.add_mid]
   have hjl:j<l2.length*k:=by
    rcases Nat.lt_or_ge j (l2.flatMap enc).length with h1|h1
    ·rwa [tY hk] at h1
    ·rw[List.getElem?_eq_none h1] at hj;cases hj
   have hq:j/k<l2.length:=(Nat.div_lt_iff_lt_mul h0).2 hjl;have e:j=j/k*k+j%k:=by rw[Nat.mul_comm];exact(Nat.div_add_mod j k).symm
   rw[e,ze hk z l2 (j/k) (j%k) hq (Nat.mod_lt _ h0)] at hj;rw[e,←Nat.add_assoc];exact hc (j/k) af (j%k) u hj
  ·have:=Nat.mul_le_mul (show n+m≤2000000 by omega) hby;omega
  ·intro g cap w' h2 h3 h4 _;refine h _ _ w' (by unfold bO;simpa using h2) (ax.grown h3) (fun j hj=> ?_) (fun e=>by omega);simp[rowOf] at hj;subst hj;rcases h4 with h4|h4
   ·exact Or.inl (sV h4)
   ·right;omega
end
def DW (B D T:Nat) (s:KS) (gs:List Gn) (ps:List Pt) (A:Option Addr) (c:Nat) (E:Option Addr) (e:Nat) (w:World):Prop:=
 (Cs w T [.slice A gs.length c, .slice E ps.length e]∧bO Gn.cells 13 140 w B A gs.length c gs∧bO Pt.cells 3 68 w B E ps.length e ps)∧KB B (T::(rowOf A++rowOf E)) D s w∧(B≤T∧T∉rowOf A++rowOf E∧∀j∈rowOf A,j∉rowOf E)∧(A=none∨0<gs.length)∧(E=none∨0<ps.length)
section
variable {B D T:Nat} {s s':KS} {gs:List Gn} {ps:List Pt} {A:Option Addr} {c:Nat} {E:Option Addr} {e:Nat} {w w':World}
theorem DW.below (h:DW B D T s gs ps A c E e w) (hb:Below w w w'):DW B D T s gs ps A c E e w':=⟨⟨h.1.1.below hb,h.1.2.1.below hb,h.1.2.2.below hb⟩,h.2.1.below hb,h.2.2⟩
theorem DW.op (h:DW B D T s gs ps A c E e w) (hk:KB B (T::(rowOf A++rowOf E)) D s' w') (hf:di B (T::(rowOf A++rowOf E)) w w'):DW B D T s' gs ps A c E e w':=
 ⟨⟨h.1.1.uP hf (Or.inr ag),h.1.2.1.uP hf (fun j hj=>Or.inr (by simp[hj])),h.1.2.2.uP hf (fun j hj=>Or.inr (by simp[hj]))⟩,hk,h.2.2⟩
theorem bO.Ri {α:Type} {enc:α→List Value} {k:Nat} {T:TypeId} {base:Nat} {n cp:Nat} {l:List α} (hk:∀x,(enc x).length=k) (h0:0<k) (z:α) (hz:∀(x:α) f a c,(enc x)[0]?≠some (Value.func f a c)) (h:bO enc k T w base A n cp l) (hA:A=none∨0<n):∀g∈rowOf A,∀f a c,w.cell? g≠some (.func f a c):=by
 intro g hg f a c e;rcases hA with rfl|hA
 ·simp[rowOf] at hg
 ·obtain⟨g',rfl,_,_⟩:=h.head hA;obtain rfl:g=g':=by simpa[rowOf] using hg
  have h7:=h.range hk h0 z hA;rw[Nat.zero_mul] at h7;have hl:0<(enc (l.getD 0 z)).length:=by rw[hk];exact h0
  have h8:=h7 0 _ (List.getElem?_eq_getElem hl);rw[h8] at e;have:=Option.some.inj e;exact hz (l.getD 0 z) f a c (by rw[List.getElem?_eq_getElem hl,this])
theorem Gn.Tj (x:Gn) (f:Fn) (a c:Array Value):x.cells[0]?≠some (Value.func f a c):=by simp[Gn.cells]
theorem Pt.Tj (x:Pt) (f:Fn) (a c:Array Value):x.cells[0]?≠some (Value.func f a c):=by simp[Pt.cells]
theorem KB.row {F0:List Nat} {A A':Option Addr} {w1 w2:World} (h:KB B (T::(rowOf A++F0)) D s w) (hT:B≤T) (hTl:∀f a c,w1.cell? T≠some (.func f a c)) (h1:ax (rowOf A) w w1) (hn:∀g∈rowOf A,∀f a c,w.cell? g≠some (.func f a c)) (hr:∀j∈rowOf A',(j∈rowOf A∨w.heap.size≤j)∧j<w1.heap.size) (h2:ax [T] w1 w2):KB B (T::(rowOf A'++F0)) D s w2:=by
 have k1:=h.away h1 (fun g hg=>Or.inr (by simp[hg])) hn
 have k2:KB B (T::(rowOf A'++F0)) D s w1:=by
  obtain⟨S,q,mb,th,rb,t,⟨e1,e2⟩,e3,e4,e5⟩:=h;obtain⟨S',q',mb',yf,rb',t',⟨d1,d2⟩,d3,d4,d5⟩:=k1;have hlt:=e2.lt;have hd:∀g∈D::fO S q mb th rb t,g∉rowOf A:=fun g hg hm=>(e3 g hg).2 (by simp[hm]);refine⟨S,q,mb,th,rb,t,⟨e1,e2.1.aG h1 (hd D ag),e2.2.1.away h1 hn (fun g hg=>hd g (List.mem_cons_of_mem _ hg)),e2.2.2⟩,fun g hg=>⟨(e3 g hg).1,fun hm=> ?_⟩,fun j hj=> ?_,e5⟩
  ·have h6:=(e3 g hg).2;have h7:=hlt g hg;simp only[List.mem_cons,List.mem_append] at hm h6;rcases hm with hm|hm|hm
   ·exact h6 (Or.inl hm)
   ·rcases(hr g hm).1 with h8|h8
    ·exact h6 (Or.inr (Or.inl h8))
    ·omega
   ·exact h6 (Or.inr (Or.inr hm))
  ·simp only[List.mem_cons,List.mem_append] at hj;rcases hj with hj|hj|hj
   ·exact d4 j (by simp[hj])
   ·exact(hr j hj).2
   ·exact d4 j (by simp[hj])
 exact k2.away h2 (fun g hg=>Or.inr (by simp at hg;simp[hg])) (fun g hg=>by simp at hg;subst hg;exact hTl)
theorem bKy {P:Prop} (h:P:=by
 rw[hlen];exact ho.aG hch (fun j hj hm=>by simp at hm;subst hm;exact IU hj)):P:=h
theorem DW.gone {g2:List Gn} {A':Option Addr} {c':Nat} {w1 w2:World} (h:DW B D T s gs ps A c E e w) (ho:bO Gn.cells 13 140 w1 B A' (gs.length+g2.length) c' (gs++g2)) (h1:ax (rowOf A) w w1) (hr:∀j∈rowOf A',j∈rowOf A∨w.heap.size≤j) (h0:g2.length=0→A'=A)
  (hW:w2=w1.setCell ⟨T,0,none⟩ (.slice A' (gs.length+g2.length) c')):DW B D T s (gs++g2) ps A' c' E e w2∧di B [] w w2:=by
 have hlen:(gs++g2).length=gs.length+g2.length:=List.length_append;have hge:=ho.dX;have hgA:=h.1.2.1.dX;have Al:=h.1.2.2.dX;have O4:T∉rowOf A:=fun hm=>h.2.2.1.2.1 (by simp[hm]);have aat:=h.1.1.lt;have hT1:=h.1.1.aG h1 O4
 have IU:T∉rowOf A':=fun hm=>by
  rcases hr T hm with h8|h8
  ·exact O4 h8
  ·omega
 have hch:ax [T] w1 w2:=by rw[hW];exact ax.set (ax.refl _ _) (Or.inl ag) _ _
 have hE:∀j∈rowOf E,j∉rowOf A:=fun j hj hm=>h.2.2.1.2.2 j hm hj
 have hE':∀j∈rowOf A',j∉rowOf E:=fun j hj hm=>by
  rcases hr j hj with h8|h8
  ·exact h.2.2.1.2.2 j h8 hm
  ·have:=(Al j hm).2;omega
 refine⟨⟨⟨?_,?_,?_⟩,?_,⟨h.2.2.1.1,?_,hE'⟩,?_,h.2.2.2.2⟩,?_⟩
 ·rw[hW,hlen];exact Cs.bH [.slice A' (gs.length+g2.length) c'] 0 hT1 ag
 ·exact bKy
 ·exact(h.1.2.2.aG h1 hE).aG hch (fun j hj hm=>by simp at hm;subst hm;exact h.2.2.1.2.1 (by simp[hj]))
 ·exact h.2.1.row h.2.2.1.1 (fun f a cc ec=>by rw[hT1.aL] at ec;cases ec) h1 (h.1.2.1.Ri Gn.len ak ⟨0,0,Rq.no⟩ Gn.Tj h.2.2.2.1) (fun j hj=>⟨hr j hj,(hge j hj).2⟩) hch
 ·intro hm;rcases List.mem_append.1 hm with hm|hm
  ·exact IU hm
  ·exact h.2.2.1.2.1 (by simp[hm])
 ·rcases Nat.eq_zero_or_pos g2.length with h9|h9
  ·rw[h0 h9,hlen,h9];exact h.2.2.2.1
  ·right;omega
 ·refine(di.aG h1 (fun g hg=>Or.inl ⟨(hgA g hg).1,by simp⟩)).trans (di.aG hch (fun g hg=>Or.inl ⟨?_,by simp⟩));simp at hg;subst hg;exact h.2.2.1.1
theorem DW.part {p:Pt} {E':Option Addr} {e':Nat} {w1 w2:World} (h:DW B D T s gs ps A c E e w) (ho:bO Pt.cells 3 68 w1 B E' (ps.length+1) e' (ps++[p])) (h1:ax (rowOf E) w w1) (hr:∀j∈rowOf E',j∈rowOf E∨w.heap.size≤j)
  (hW:w2=w1.setCell ⟨T,1,none⟩ (.slice E' (ps.length+1) e')):DW B D T s gs (ps++[p]) A c E' e' w2∧di B [] w w2:=by
 have hlen:(ps++[p]).length=ps.length+1:=by simp
 have hge:=ho.dX;have hgA:=h.1.2.1.dX;have Al:=h.1.2.2.dX;have O4:T∉rowOf E:=fun hm=>h.2.2.1.2.1 (by simp[hm]);have aat:=h.1.1.lt;have hT1:=h.1.1.aG h1 O4
 have IU:T∉rowOf E':=fun hm=>by
  rcases hr T hm with h8|h8
  ·exact O4 h8
  ·omega
 have hch:ax [T] w1 w2:=by rw[hW];exact ax.set (ax.refl _ _) (Or.inl ag) _ _
 have hE':∀j∈rowOf A,j∉rowOf E':=fun j hj hm=>by
  rcases hr j hm with h8|h8
  ·exact h.2.2.1.2.2 j hj h8
  ·have:=(hgA j hj).2;omega
 refine⟨⟨⟨?_,?_,?_⟩,?_,⟨h.2.2.1.1,?_,hE'⟩,h.2.2.2.1,Or.inr ag⟩,?_⟩
 ·rw[hW,hlen];exact Cs.bH [.slice E' (ps.length+1) e'] 1 hT1 ag
 ·exact(h.1.2.1.aG h1 h.2.2.1.2.2).aG hch (fun j hj hm=>by simp at hm;subst hm;exact h.2.2.1.2.1 (by simp[hj]))
 ·exact bKy
 ·have hk:KB B (T::(rowOf E++rowOf A)) D s w:=h.2.1.less (fun j hj=>by simp only[List.mem_cons,List.mem_append] at hj⊢;rcases hj with h|h|h<;>simp[h]);refine(hk.row h.2.2.1.1 (fun f a cc ec=>by rw[hT1.aL] at ec;cases ec) h1 (h.1.2.2.Ri Pt.len ak ⟨0,0,false⟩ Pt.Tj h.2.2.2.2) (fun j hj=>⟨hr j hj,(hge j hj).2⟩) hch).less (fun j hj=> ?_);simp only[List.mem_cons,List.mem_append] at hj⊢;rcases hj with h|h|h<;>simp[h]
 ·intro hm;rcases List.mem_append.1 hm with hm|hm
  ·exact h.2.2.1.2.1 (by simp[hm])
  ·exact IU hm
 ·refine(di.aG h1 (fun g hg=>Or.inl ⟨(Al g hg).1,by simp⟩)).trans (di.aG hch (fun g hg=>Or.inl ⟨?_,by simp⟩));simp at hg;subst hg;exact h.2.2.1.1
end
end


section
open Go.RowKit
theorem Gn.ofC {w:World} {g o:Nat} (x:Gn) (h:w.rangeAt g o x.cells):w.cell? ⟨g,o,none⟩=some (.int .i64 x.i)∧w.cell? ⟨g,o+1,none⟩=some (.int .i64 (aJ x.g))∧w.cell? ⟨g,o+2,none⟩=some (.int .u64 (aI x.g))∧w.cell? ⟨g,o+3,none⟩=some (.int .u64 x.r.a.t)∧w.cell? ⟨g,o+4,none⟩=some (.int .u32 x.r.a.r)∧w.cell? ⟨g,o+5,none⟩=some (.int .u32 x.r.a.v)∧w.cell? ⟨g,o+6,none⟩=some (.int .i64 x.r.a.i)∧w.cell? ⟨g,o+7,none⟩=some (.int .u64 x.r.a.u)∧w.cell? ⟨g,o+8,none⟩=some (.int .u32 x.r.a.s)∧w.cell? ⟨g,o+9,none⟩=some (.int .u32 x.r.a.y)∧w.cell? ⟨g,o+10,none⟩=some (.int .u64 x.r.l)∧w.cell? ⟨g,o+11,none⟩=some (.int .u64 x.r.s)∧w.cell? ⟨g,o+12,none⟩=some (.bool x.r.z):=
 ⟨h 0 _ rfl,h 1 _ rfl,h 2 _ rfl,h 3 _ rfl,h 4 _ rfl,h 5 _ rfl,h 6 _ rfl,h 7 _ rfl,h 8 _ rfl,h 9 _ rfl,h 10 _ rfl,h 11 _ rfl,h 12 _ rfl⟩
theorem takeD {α:Type} (l:List α) (z:α) {j:Nat} (h:j<l.length):l.take (j+1)=l.take j++[l.getD j z]∧l.getD j z∈l:=by
 have e:l.getD j z=l[j]:=by simp[List.getD,h]
 rw[e];exact⟨List.take_succ_eq_append_getElem h,List.getElem_mem h⟩
theorem w64 {n:Int} (h0:0≤n) (h1:n<9223372036854775808):wrap64 n=n:=by unfold wrap64;omega
def ug (k:Int) (gs:List Gn):Int:=gs.foldl (fun k g=>uh k g.g) k
def nT (s:KS) (gs:List Gn) (s':KS):Prop:=
 ∃(t1:Tr It) (ts:List Rq),t1.list=s'.L∧uy s.b s.L s.l gs s'.b s'.L s'.l∧(ts.Perm s'.l∧(ts.Pairwise fun x y=>x.a.i≤y.a.i)∧za (qM s'.b s'.L) ts=none)∧s'.run=xL s'.b t1∧s'.k=ug s.k gs
theorem uy.wr {b b1:Int} {L L1:List It} {l l1:List Rq} {gs:List Gn} (h:uy b L l gs b1 L1 l1):∀x∈gs,WR x.g:=by
 induction h with
 |nil=>simp
 |snoc _ _ _ _ ih=>
  intro x hx;rcases List.mem_append.1 hx with hx|hx
  ·exact ih x hx
  ·simp only[List.mem_singleton] at hx;rw[hx];exact OP _ _
theorem PG (k:Int) (gs:List Gn) (x:Gn):ug k (gs++[x])=uh (ug k gs) x.g:=by unfold ug;rw[List.foldl_append];rfl
theorem XB {b:Int} {t:Tr It} (hq:fZ b t.list): -9223372036854775808≤xL b t∧xL b t≤9223372036854775807:=by
 obtain⟨x,hx,hx0,hx1⟩:=C8 hq.fw hq.EM;unfold xL;rw[hx];show-9223372036854775808≤x.i∧x.i≤9223372036854775807
 by_cases h0:0<t.list.length
 ·have:=hq.fw.Fj x (List.mem_filter.1 (hx1 h0).1).1;exact this.2.2.2.1
 ·rw[hx0 af];decide
def X0 (B D T:Nat) (Z:List Nat) (s:KS) (gs:List Gn) (ps:List Pt) (E:Option Addr) (e:Nat) (w w':World):Prop:=∃g2 s' A' c',nT s g2 s'∧DW B D T s' (gs++g2) ps A' c' E e w'∧di B Z w w'
theorem KB.flu {B D:Nat} {F:List Nat} {s:KS} {w w':World} {S q mb th rb:Nat} {t:Tr It} (h1:t.list=s.L) (h2:lV w D S q mb th rb s.run s.k s.b t s.l) (h3:∀g∈D::fO S q mb th rb t,B≤g∧g∉F) (h4:∀j∈F,j<w.heap.size) (h5:WR s.k∧-9223372036854775808≤s.run∧s.run≤9223372036854775807)
  {G:Option Addr} {cg:Nat} {g2:List Gn} {b1:Int} {t1:Tr It} {l1:List Rq} (hi:qO S q mb th rb s.b t s.l w G cg g2 b1 t1 l1 w'):KB B (rowOf G++F) D ⟨s.run,s.k,b1,t1.list,l1⟩ w'∧di B F w w':=by
 have hs:mo S q mb th rb b1 t1.list l1 t w w':=⟨t1,rfl,hi.2.1.1,hi.2.2.1,hi.2.2.2⟩;have hlt:=h2.lt;have hge:=hi.2.1.2.1.dX;have hD:=h3 D ag;refine⟨⟨S,q,mb,th,rb,t1,⟨rfl,h2.1.aG hi.2.2.2 (fun hm=>h2.2.2 (List.mem_cons_of_mem _ hm)),hi.2.1.1,fun hm=> ?_⟩,fun g hg=> ?_,fun j hj=> ?_,h5⟩,(KB.step h1 h2 h3 h4 h5 hs).2⟩
 ·rcases oQ hi.2.2.1 D hm with h6|h6
  ·exact h2.2.2 h6
  ·have:=hlt D ag;omega
 ·have h7:B≤g∧g∉F∧g∉rowOf G:=by
   rcases List.mem_cons.1 hg with rfl|hg
   ·exact⟨hD.1,hD.2,fun hm=>by have:=(hge _ hm).1;have:=hlt g ag;omega⟩
   ·refine⟨?_,?_,fun hm=>hi.2.1.2.2 g hm hg⟩
    ·rcases oQ hi.2.2.1 g hg with h6|h6
     ·exact(h3 g (List.mem_cons_of_mem _ h6)).1
     ·have:=hlt D ag;omega
    ·rcases oQ hi.2.2.1 g hg with h6|h6
     ·exact(h3 g (List.mem_cons_of_mem _ h6)).2
     ·intro hm;have:=h4 g hm;omega
  exact⟨h7.1,fun hm=>by rcases List.mem_append.1 hm with h|h;exact h7.2.2 h;exact h7.2.1 h⟩
 ·rcases List.mem_append.1 hj with hj|hj
  ·exact(hge j hj).2
  ·exact Nat.lt_of_lt_of_le (h4 j hj) hi.2.2.2.size
set_option maxRecDepth 100000 in
set_option maxHeartbeats 8000000 in
theorem Core.KH (B D T:Nat) (Z:List Nat) (s:KS) (gs:List Gn) (ps:List Pt) (A:Option Addr) (c:Nat) (E:Option Addr) (e:Nat) (hn:gs.length≤1000) (w:World) (h:DW B D T s gs ps A c E e w) (hzk:KB B (T::(rowOf A++(rowOf E++Z))) D s w) (hz:∀z∈Z,z≠T∧z∉rowOf A):Calls Tryz.prog 44 #[(.pointer (some ⟨D,0,none⟩)),(.pointer (some ⟨T,0,none⟩))] w (fun e' w'=>e'= .returned (.tuple #[])∧X0 B D T Z s gs ps E e w w'):=by
 have HD:=aa h;have YH:=aa hn;have HZZ:=aa hz;obtain⟨S,q,mb,th,rb,t,⟨hl,hc⟩,hf,hF,hk⟩:=hzk;have HDZ:Hid (B≤D∧D∉Z):=aa ⟨(hf D ag).1,fun hm=>(hf D ag).2 (by simp[hm])⟩;clear h hn hz;have Qf:=aa hl;obtain⟨c0,c1,c2,c3⟩:=hc.at;have HC:=aa hc;have HF:=aa hf;have HFF:=aa hF;have HK:=aa hk;clear hl hc hf hF hk;go_enter Tryz.func44,Tryz.ntmps44;go_wp2_with fail
 refine(Set.settle S q mb th rb s.b t s.l _ HC.out.2.1).mono ?_;rintro e1 w1 ⟨G,cg,g2,b1,t1,l1,ts,rfl,hi,hp,hr,hg⟩;have WN:=KB.flu Qf.out HC.out HF.out HFF.out HK.out hi;have HKG:=aa WN.1;have JS:=aa WN.2;have HOW:=aa hi.2.1.2.1;have Ue:=aa (uy.wr hi.1.1);have kE:Hid (g2.length≤32):=aa (by have:=hi.1.2.2;omega);have kJ:=aa hi.2.2.2.size;have LH:=aa (XB hi.2.1.1.2.1.1.1);have Ar:Hid (nT s g2 ⟨xL b1 t1,ug s.k g2,b1,t1.list,l1⟩):=aa ⟨t1,ts,rfl,by rw[←Qf.out];exact hi.1.1,⟨hp,hr,hg⟩,rfl,rfl⟩;clear WN hi hp hr hg c0 c1 c2 c3 HC HF HFF;generalize xL b1 t1=who at Ar LH⊢
 go_wp2_with fail
 go_loopg [18] g2.length (fun m i wr=>∃j:Nat,i= .int .i64 j∧j≤g2.length∧m=g2.length-j∧(KB B (rowOf G++(T::(rowOf A++(rowOf E++Z)))) D ⟨s.run,ug s.k (g2.take j),b1,t1.list,l1⟩ wr∧di B (rowOf G++(T::(rowOf A++(rowOf E++Z)))) w1 wr))
 case atStart=>exact⟨0,rfl,Nat.zero_le _,by omega,HKG.out,di.refl _ _ _⟩
 case round=>
  obtain⟨j,rfl,hj,hm,hkb,hfr⟩:=hrel;have HM:=aa hm;have JK:=aa hkb;have Qk:=aa hfr;clear hm hkb hfr;by_cases hjn:j<g2.length
  ·have hji:(j:Int)<g2.length:=af;have HJ:=aa hjn;have how:=HOW.out.uP Qk.out (fun i hi=>Or.inr (List.mem_append_left _ hi));obtain⟨gb,rfl,_,_⟩:=how.head af;have hrg:=how.range Gn.len ak (⟨0,0,Rq.no⟩:Gn) hjn;have hxw:WR (g2.getD j ⟨0,0,Rq.no⟩).g:=Ue.out _ (takeD g2 _ hjn).2;have zt:Hid (ug s.k (g2.take (j+1))=uh (ug s.k (g2.take j)) (g2.getD j ⟨0,0,Rq.no⟩).g):=aa (by rw[(takeD g2 ⟨0,0,Rq.no⟩ hjn).1,PG]);generalize (g2.getD j ⟨0,0,Rq.no⟩)=x at *;have zn:=aa hxw;obtain⟨p0,p1,p2,p3,p4,p5,p6,p7,p8,p9,p10,p11,p12⟩:=Gn.ofC x hrg;clear hrg how hxw hjn;have hj0:(0:Int)≤j:=af;have hal:=aD wr (.cells #[.int .i64 x.i, .int .i64 (aJ x.g), .int .u64 (aI x.g), .int .u64 x.r.a.t, .int .u32 x.r.a.r, .int .u32 x.r.a.v, .int .i64 x.r.a.i, .int .u64 x.r.a.u, .int .u32 x.r.a.s, .int .u32 x.r.a.y, .int .u64 x.r.l, .int .u64 x.r.s, .bool x.r.z] 140);have HX:Hid (Cs (wr.alloc (.cells #[.int .i64 x.i, .int .i64 (aJ x.g), .int .u64 (aI x.g), .int .u64 x.r.a.t, .int .u32 x.r.a.r, .int .u32 x.r.a.v, .int .i64 x.r.a.i, .int .u64 x.r.a.u, .int .u32 x.r.a.s, .int .u32 x.r.a.y, .int .u64 x.r.l, .int .u64 x.r.s, .bool x.r.z] 140)) wr.heap.size x.cells):=aa (Cs.bL wr 140 x.cells);have jo:=aa (JK.out.below hal);have mG:=aa (Qk.out.on hal);clear hal;go_upto_region 4 with fail
   generalize (wr.alloc (.cells #[.int .i64 x.i, .int .i64 (aJ x.g), .int .u64 (aI x.g), .int .u64 x.r.a.t, .int .u32 x.r.a.r, .int .u32 x.r.a.v, .int .i64 x.r.a.i, .int .u64 x.r.a.u, .int .u32 x.r.a.s, .int .u32 x.r.a.y, .int .u64 x.r.l, .int .u64 x.r.s, .bool x.r.z] 140))=W2 at HX jo mG⊢
   generalize wr.heap.size=gx at HX⊢
   clear p0 p1 p2 p3 p4 p5 p6 p7 p8 p9 p10 p11 p12;have x1:=(HX.out 1 _ rfl).1;have x2:=(HX.out 2 _ rfl).1;go_wp2_with fail
   refine(Core.carry B _ D _ x.g zn.out _ jo.out).mono ?_;rintro e2 w3 ⟨rfl,hk3,hf3⟩;have rJ:=aa hk3;have jW:=aa (mG.out.trans hf3);clear hk3 hf3 x1 x2;go_wp2_with fail
   go_roundg (g2.length-(j+1))
   case measure=>have:=HM.out;have:=HJ.out;omega
   case rel=>
    refine⟨j+1,by rw[w64 af (by have:=kE.out;have:=HJ.out;omega)];simp,HJ.out,rfl,?_,jW.out⟩;have:=rJ.out;rw[←zt.out] at this;exact this
  ·have hji:¬(j:Int)<g2.length:=af;obtain rfl:j=g2.length:=af;rw[List.take_length] at JK;have Yx:Hid (∀j∈T::(rowOf A++rowOf E),j∈T::(rowOf A++(rowOf E++Z))):=aa (fun j hj=>by simp only[List.mem_cons,List.mem_append] at hj⊢;rcases hj with h|h|h<;>simp[h]);have ve:Hid (∀j∈T::(rowOf A++rowOf E),j∈rowOf G++(T::(rowOf A++(rowOf E++Z)))):=aa (fun j hj=>List.mem_append_right _ (Yx.out j hj));have qo:=aa (HD.out.op (s':=⟨s.run,ug s.k g2,b1,t1.list,l1⟩) (JK.out.less ve.out) ((JS.out.less Yx.out).trans (Qk.out.less ve.out)));have HFX:=aa ((JS.out.less (F':=Z) (fun j hj=>by simp[hj])).trans (Qk.out.less (F':=Z) (fun j hj=>by simp[hj])));have Dz:=aa ((HOW.out.uP Qk.out (fun i hi=>Or.inr (List.mem_append_left _ hi))).rd Gn.len ak (⟨0,0,Rq.no⟩:Gn));have HBS:Hid (B≤wr.heap.size):=aa (by have:=qo.out.2.1.ge;omega);clear JK HKG HOW Ue HD;have t0:=qo.out.1.1.aL;have abm:=kE.out;have abn:=YH.out;have HTA:Hid (T∉rowOf A):=aa (fun hm=>qo.out.2.2.1.2.1 (by simp[hm]));go_upto_region 7 with(first|(refine Ay _ rfl (.tmp 31) (.tmp 32) 33 rfl Gn.len ak Gn.one 88 Tryz.underlying33 Gn.info ak B A _ c gs ?qa1 qo.out.1.2.1 G _ cg g2 ?qa2 Dz.out af af HBS.out ?_;(case qa1=>rfl);(case qa2=>rfl);intro A' c' w5 ho hch hrow h0;(have jQ:=aa ho);(have DT:=aa hch);(have FO:=aa hrow);(have iT:=aa h0);(have wT:=aa (qo.out.1.1.aG hch HTA.out));(clear ho hch hrow h0 t0);(have t0:=wT.out.aL);(have f0:=wT.out.lM))|fail)
   generalize Xe:(w5.setCell ⟨T,0,none⟩ (.slice A' (gs.length+g2.length) c'))=W6;have HG6:=aa (qo.out.gone jQ.out DT.out FO.out iT.out Xe.symm);have zG:Hid (di B Z wr W6):=aa ((di.aG DT.out (fun g hg=>Or.inl ⟨(qo.out.1.2.1.dX g hg).1,fun hm=>(HZZ.out g hm).2 hg⟩)).trans (di.aG (G:=[T]) (by rw[←Xe];exact ax.set (ax.refl _ _) (Or.inl ag) _ _) (fun g hg=>by simp at hg;subst hg;exact Or.inl ⟨qo.out.2.2.1.1,fun hm=>(HZZ.out _ hm).1 rfl⟩)));clear t0 f0 Xe qo jQ DT FO wT iT;obtain⟨S6,q6,mb6,th6,rb6,t6,⟨hl6,hc6⟩,hf6,hF6,Ak⟩:=HG6.out.1.2.1;have Av:=aa (And.intro hl6 (And.intro hc6 (And.intro hf6 (And.intro hF6 Ak))));obtain⟨c0,c1,c2,c3⟩:=hc6.at;have f1:=hc6.1.mW;clear hl6 hc6 hf6 hF6 Ak;go_wp2_with fail
   refine bodyPost_end (v:= .tuple #[]) (by simp[results,Tryz.results44,go_sem]) rfl ?_;have hch:ax [D] W6 (W6.setCell ⟨D,1,none⟩ (.int .i64 who)):=ax.set (ax.refl _ _) (Or.inl ag) _ _;have hcs:=Cs.bH [.int .i64 who] 1 Av.out.2.1.1 ag;obtain⟨k1,k2⟩:=KB.put (s:=⟨s.run,ug s.k g2,b1,t1.list,l1⟩) Av.out.1 Av.out.2.1 Av.out.2.2.1 Av.out.2.2.2.1 (run':=who) (k':=ug s.k g2) ⟨Av.out.2.2.2.2.1,LH.out⟩ hcs hch;exact⟨rfl,g2,_,A',c',Ar.out,HG6.out.1.op k1 k2,(HFX.out.trans zG.out).trans (di.aG hch (fun g hg=>by simp at hg;subst hg;exact Or.inl HDZ.out))⟩
theorem Core.settle (B D T:Nat) (s:KS) (gs:List Gn) (ps:List Pt) (A:Option Addr) (c:Nat) (E:Option Addr) (e:Nat) (hn:gs.length≤1000) (w:World) (h:DW B D T s gs ps A c E e w):Calls Tryz.prog 44 #[(.pointer (some ⟨D,0,none⟩)),(.pointer (some ⟨T,0,none⟩))] w (fun e' w'=>e'= .returned (.tuple #[])∧X0 B D T [] s gs ps E e w w'):=
 Core.KH B D T [] s gs ps A c E e hn w h (h.2.1.less (fun j hj=>by simpa using hj)) ag
end


section
open Go.RowKit
structure eT (n:Nat) (X:List Nat) (w w':World):Prop where
 os:w'.os=w.os
 tape:w'.tape=w.tape
 output:w'.output=w.output
 size:w.heap.size≤w'.heap.size
 block:∀k,k<n→k∉X→w'.heap[k]?=w.heap[k]?
section
variable {n B:Nat} {X F:List Nat} {w w1 w2 w':World}
theorem eT.of (h:di n [] w w') (hn:n≤w.heap.size):eT n X w w':=⟨h.os,h.tape,h.output,h.size,fun k hk _=>h.block k (by omega) (Or.inl hk)⟩
theorem eT.trans (h:eT n X w w1) (k:eT n X w1 w2):eT n X w w2:=⟨k.os.trans h.os,k.tape.trans h.tape,k.output.trans h.output,Nat.le_trans h.size k.size,fun i hi hX=>(k.block i hi hX).trans (h.block i hi hX)⟩
theorem eT.aG {G:List Nat} (h:ax G w w') (hG:∀g∈G,g∈X∨n≤g) (hn:n≤w.heap.size):eT n X w w':=⟨h.os,h.tape,h.output,h.size,fun k hk hX=>h.block k (by omega) (fun hm=>(hG k hm).elim hX (fun h=>by omega))⟩
theorem eT.Y6 (h:Below w.heap.size w w1) (k:eT n X w1 w2) (hn:w.heap.size≤n):ax X w w2:=⟨k.os.trans h.os,k.tape.trans h.tape,k.output.trans h.output,Nat.le_trans h.size k.size,fun i hi hX=>(k.block i (by omega) hX).trans (h.block i hi)⟩
theorem Cs.ZU {g:Nat} {vs:List Value} (h:Cs w g vs) (k:eT n X w w') (hg:g<n) (hX:g∉X):Cs w' g vs:=fun i v hv=>by
 have hl:=World.block_lt_of_cell? w _ (h i v hv).1
 exact⟨(World.cell?_of_block (w:=w) (k.block g hg hX)).trans (h i v hv).1,(World.frozen?_of_block (w:=w) (k.block g hg hX)).trans (h i v hv).2⟩
end
theorem Ao {X:List Nat} {w w1 w2:World} (h:Below w.heap.size w w1) (k:eT w.heap.size X w1 w2):ax X w w2:=eT.Y6 h k (Nat.le_refl _)
theorem ax.eqs {w W:World} {g o:Nat} {vs:List Value} (h:W=w.setCells g o vs):ax [g] w W:=by rw[h];exact ax.zN _ _ (ax.refl _ _) (Or.inl (by simp))
theorem GD {P:Program} {w:World} {ops:Array Oper} {rest:List Oper} {o:Oper} {a:Act} {Q:Exit→Act→World→Prop} (hg:o.guard=none) (fo x y:Operand) (t u:TypeId) (ho:o.op= .call {callee:= .value fo,args:= #[x,y],argTypes:= #[t,u]})
  (N:FuncId) (xN:Array Value) (hf:a.eval fo= .func (.func N) #[] xN) (vx vy:Value) (hx:a.eval x=vx) (hy:a.eval y=vy) (hcf:∀args w,(callFunc N args).run P w= .ok (.enter N args) w)
  (h:Calls P N (#[vx,vy]++xN) w (fun e w'=>∃v,e= .returned v∧wpList P ops Q rest (a.put o.dst v) w')):wpList P ops Q (o::rest) a w:=by
 refine wpList_plain hg fun K hK=> ?_
 have hrun:(execOp a.eval o).run P w= .ok (.enter N (#[vx,vy]++xN)) w:=by
  simp[execOp,ho,resolve,hf,hx,hy,invoke,Deferred.ofValue,hcf,Result.andThen]
 unfold Oper.wp
 rw[hrun]
 refine Calls.mono h fun e w'' he=> ?_
 obtain⟨v,rfl,hk⟩:=he
 exact hK _ _ hk
theorem RG:(Tryz.prog.info? 47).map (·.size)=some 4:=by kernel_rfl
theorem dn:(Tryz.prog.info? 36).map (·.size)=some 2:=by kernel_rfl
def Qw (B:Nat) (F:List Nat) (C:Nat) (s:KS) (X:List Nat) (Y:Int→World→Prop) (R:KS→List Gn→List Pt→Prop) (w:World) (e:Ending) (w':World):Prop:=
 ∃code,Y code w'∧ax (C::X) w w'∧((code≠0∧e= .returned (.tuple #[.agg #[.slice none 0 0, .slice none 0 0], .int .i64 code])∧KB B F C s w')∨
  (code=0∧∃s1 g1 ps g2 s2 A c E e',R s1 g1 ps∧nT s1 g2 s2∧e= .returned (.tuple #[.agg #[.slice A (g1++g2).length c, .slice E ps.length e'], .int .i64 0])∧bO Gn.cells 13 140 w' w.heap.size A (g1++g2).length c (g1++g2)∧bO Pt.cells 3 68 w' w.heap.size E ps.length e' ps∧KB B (rowOf A++(rowOf E++F)) C s2 w'))
theorem Qw.fin {n B C D T g0:Nat} {F:List Nat} {s2:KS} {gs:List Gn} {ps:List Pt} {A:Option Addr} {c:Nat} {E:Option Addr} {e:Nat} {w w3 W4 W5:World} (hd:DW n D T s2 gs ps A c E e w3) {S q mb th rb:Nat} {t:Tr It} (ho:KO n (T::(rowOf A++rowOf E)) D s2 w3 S q mb th rb t)
  (hC:Cs W4 C [.pointer (some ⟨S,0,none⟩), .int .i64 s2.run, .int .i64 (aJ s2.k), .int .u64 (aI s2.k)]) (h4:ax [C] w3 W4) (h5:ax [g0] W4 W5) (hCf:∀f a c,w3.cell? ⟨C,0,none⟩≠some (.func f a c)) (hgf:∀f a c,W4.cell? ⟨g0,0,none⟩≠some (.func f a c))
  (hn:w.heap.size≤n) (hC1:C<w.heap.size) (hBC:B≤C) (hCF:C∉F) (hF:∀j∈F,j<w.heap.size) (hg0:g0<n) (hgC:g0≠C):KB B (rowOf A++(rowOf E++F)) C s2 W5∧bO Gn.cells 13 140 W5 w.heap.size A gs.length c gs∧bO Pt.cells 3 68 W5 w.heap.size E ps.length e ps:=by
 have hgA:=hd.1.2.1.dX
 have Al:=hd.1.2.2.dX
 have abe:=h4.size
 have hsz5:=h5.size
 have hw3:n≤w3.heap.size:=by have:=hd.2.1.ge;omega
 have hfo:∀g∈fO S q mb th rb t,n≤g∧g∉T::(rowOf A++rowOf E):=fun g hg=>ho.2.1 g (List.mem_cons_of_mem _ hg)
 have s4:=ho.sat.away h4 (fun g hg f a c e=>by simp at hg;subst hg;exact hCf f a c e) (fun g hg hm=>by simp at hm;subst hm;have:=(hfo _ hg).1;omega)
 have s5:=s4.away h5 (fun g hg f a c e=>by simp at hg;subst hg;exact hgf f a c e) (fun g hg hm=>by simp at hm;subst hm;have:=(hfo _ hg).1;omega)
 refine⟨⟨S,q,mb,th,rb,t,⟨ho.1.1,hC.aG h5 (by simpa using Ne.symm hgC),s5,fun hm=>by have:=(hfo _ hm).1;omega⟩,fun g hg=> ?_,fun j hj=> ?_,ho.2.2.2⟩,?_,?_⟩
 ·rcases List.mem_cons.1 hg with rfl|hg
  ·refine⟨hBC,fun hm=> ?_⟩
   rcases List.mem_append.1 hm with hm|hm
   ·have:=(hgA _ hm).1;omega
   ·rcases List.mem_append.1 hm with hm|hm
    ·have:=(Al _ hm).1;omega
    ·exact hCF hm
  ·have h6:=hfo g hg
   refine⟨by omega,fun hm=> ?_⟩
   rcases List.mem_append.1 hm with hm|hm
   ·exact h6.2 (by simp[hm])
   ·rcases List.mem_append.1 hm with hm|hm
    ·exact h6.2 (by simp[hm])
    ·have:=hF g hm;omega
 ·rcases List.mem_append.1 hj with hj|hj
  ·have:=(hgA _ hj).2;omega
  ·rcases List.mem_append.1 hj with hj|hj
   ·have:=(Al _ hj).2;omega
   ·have:=hF j hj;omega
 ·exact((hd.1.2.1.aG h4 (fun j hj hm=>by simp at hm;subst hm;have:=(hgA _ hj).1;omega)).aG h5 (fun j hj hm=>by simp at hm;subst hm;have:=(hgA _ hj).1;omega)).mono hn
 ·exact((hd.1.2.2.aG h4 (fun j hj hm=>by simp at hm;subst hm;have:=(Al _ hj).1;omega)).aG h5 (fun j hj hm=>by simp at hm;subst hm;have:=(Al _ hj).1;omega)).mono hn
def aaY (n D T:Nat) (X:List Nat) (Y:Int→World→Prop) (R:KS→List Gn→List Pt→Prop) (w1:World) (e:Ending) (w2:World):Prop:=∃code,e= .returned (.int .i64 code)∧Y code w2∧eT n X w1 w2∧(code=0→∃s1 gs ps A c E e',R s1 gs ps∧gs.length≤1000∧DW n D T s1 gs ps A c E e' w2)
def FY (N:FuncId) (xN:Array Value) (s:KS) (X:List Nat) (Y:Int→World→Prop) (R:KS→List Gn→List Pt→Prop) (w:World):Prop:=
 ∀(n D T:Nat) (w1:World),w.heap.size≤n→n≤w1.heap.size→Below w.heap.size w w1→DW n D T s [] [] none 0 none 0 w1→
  Calls Tryz.prog N (#[.pointer (some ⟨D,0,none⟩), .pointer (some ⟨T,0,none⟩)]++xN) w1 (aaY n D T X Y R w1)
set_option maxRecDepth 100000 in
set_option maxHeartbeats 8000000 in
theorem Core.do (N:FuncId) (xN:Array Value) (hcf:∀args w,(callFunc N args).run Tryz.prog w= .ok (.enter N args) w) (B:Nat) (F:List Nat) (C:Nat) (s:KS) (X:List Nat) (Y:Int→World→Prop) (hY:∀c w w',(∀x∈X,w'.heap[x]?=w.heap[x]?)→Y c w→Y c w') (R:KS→List Gn→List Pt→Prop) (w:World) (h:KB B F C s w) (hX:∀x∈X,x∈F∧∀f a c,w.cell? ⟨x,0,none⟩≠some (.func f a c)) (Ep:FY N xN s X Y R w):Calls Tryz.prog 32 #[(.pointer (some ⟨C,0,none⟩)), .func (.func N) #[] xN] w (Qw B F C s X Y R w):=by
 have hal:=(Below.refl w.heap.size w).alloc (Nat.le_refl _) (.cells #[.slice none 0 0, .slice none 0 0] 36)
 have Yh:Hid (Cs (w.alloc (.cells #[.slice none 0 0, .slice none 0 0] 36)) w.heap.size [.slice none 0 0, .slice none 0 0]):=hid (Cs.bL w 36 [.slice none 0 0, .slice none 0 0])
 have HB0:Hid (Below w.heap.size w (w.alloc (.cells #[.slice none 0 0, .slice none 0 0] 36))):=hid hal
 have uu:=hid (h.fresh (G:=[w.heap.size]) hal (fun j hj=>by simp at hj;subst hj;simp))
 have iV:Hid (B≤C∧C<w.heap.size∧C∉F∧∀j∈F,j<w.heap.size):=hid (by obtain⟨_,_,_,_,_,_,h1⟩:=h.open_;exact⟨(h1.2.1 C (by simp)).1,h1.1.2.lt C (by simp),(h1.2.1 C (by simp)).2,h1.2.2.1⟩)
 have kC:Hid ((w.alloc (.cells #[.slice none 0 0, .slice none 0 0] 36)).heap.size=w.heap.size+1):=hid (by simp)
 have HKW:=hid h
 have JB:=hid hX
 have HCL:=hid Ep
 have X5:=hid hY
 have Qo:=hid hcf
 clear hal h hX Ep hY hcf
 go_enter Tryz.func32,Tryz.ntmps32
 go_upto_region 1 with fail
 generalize (w.alloc (.cells #[.slice none 0 0, .slice none 0 0] 36))=W0 at Yh HB0 uu kC⊢
 obtain⟨S0,q0,mb0,th0,rb0,t0,ho0⟩:=uu.out.open_
 have yE:=hid ho0
 clear ho0
 go_wp2_with fail
 refine(Core.clone C S0 q0 mb0 th0 rb0 s.run s.k s.b t0 s.l _ yE.out.1.2).mono ?_
 rintro e w1 ⟨D,S1,q1,kg,dm,nG,t1,rfl,htl,hc1,WT,hb1⟩
 have iK:Hid (KB W0.heap.size [] D s w1):=hid ⟨S1,q1,kg,dm,nG,t1,⟨by rw[htl];exact yE.out.1.1,hc1⟩,fun g hg=>⟨WT g hg,by simp⟩,by simp,yE.out.2.2.2⟩
 have HB1:=hid hb1
 clear htl hc1 WT hb1 yE
 have HT1:Hid (Cs (w1.alloc (.cells #[.slice none 0 0, .slice none 0 0] 36)) w1.heap.size [.slice none 0 0, .slice none 0 0]):=hid (Cs.bL w1 36 [.slice none 0 0, .slice none 0 0])
 have IP:Below w1.heap.size w1 (w1.alloc (.cells #[.slice none 0 0, .slice none 0 0] 36)):=(Below.refl w1.heap.size w1).alloc (Nat.le_refl _) _
 have HD1:Hid (DW W0.heap.size D w1.heap.size s [] [] none 0 none 0 (w1.alloc (.cells #[.slice none 0 0, .slice none 0 0] 36))):=hid ⟨⟨HT1.out,bO.nil _ _,bO.nil _ _⟩,(iK.out.fresh (G:=[w1.heap.size]) IP (fun j hj=>by simp at hj;subst hj;simp)).less (by simp[rowOf]),⟨HB1.out.size,by simp[rowOf],by simp[rowOf]⟩,Or.inl rfl,Or.inl rfl⟩
 have HB2:=hid (ai (ai HB0.out HB1.out) IP)
 have nM:=hid (ai HB1.out IP)
 have HR2:=hid ((Yh.out.below HB1.out).below IP)
 have qf:Hid (W0.heap.size≤(w1.alloc (.cells #[.slice none 0 0, .slice none 0 0] 36)).heap.size):=hid (by have:=HB1.out.size;simp;omega)
 clear IP HB1 iK Yh
 go_upto_region 5 with fail
 generalize (w1.alloc (.cells #[.slice none 0 0, .slice none 0 0] 36))=W1 at HT1 HD1 HB2 HR2 qf nM⊢
 generalize w1.heap.size=T at HT1 HD1⊢
 have zI:=hid (HCL.out W0.heap.size D T W1 (by have:=kC.out;omega) qf.out HB2.out HD1.out)
 clear HCL
 go_wp2_with (first|(refine GD rfl (.tmp 14) (.tmp 15) (.tmp 7) _ _ rfl N xN ?wc1 _ _ ?wc2 ?wc3 Qo.out (zI.out.mono ?_);(case wc1=>rfl);(case wc2=>rfl);(case wc3=>rfl))|fail)
 rintro e w2 ⟨code,rfl,Z9,hnb,hok⟩
 have X7:=hid Z9
 have u7:=hid hnb
 have FQ:=hid hok
 clear Z9 hnb hok zI
 have zn:Hid (∀x∈X,x<w.heap.size):=hid (fun x hx=>iV.out.2.2.2 x (JB.out x hx).1)
 have ng:Hid (∀x∈X,∀f a c,W0.cell? ⟨x,0,none⟩≠some (.func f a c)):=hid (fun x hx f a c e=>by rw[HB0.out.cell (p:=⟨x,0,none⟩) (zn.out x hx)] at e;exact(JB.out x hx).2 f a c e)
 have oo:Hid (w.heap.size∉X):=hid (fun hm=>by have:=zn.out _ hm;omega)
 by_cases hc0:code=0
 ·subst hc0
  obtain⟨s1,gs,ps,A,c,E,e',hR,hgl,hdw⟩:=FQ.out rfl
  have HRR:=hid hR
  have qo:=hid hdw
  have HGL:=hid hgl
  clear hR hdw hgl FQ
  refine⟨_,rfl,?_⟩
  go_wp2_with fail
  refine(Core.settle W0.heap.size D T s1 gs ps A c E e' HGL.out _ qo.out).mono ?_
  rintro e w3 ⟨rfl,g2,s2,A',c',uN,hd3,hf3⟩
  obtain⟨gg,hgg⟩:∃gg,gg=gs++g2:=⟨_,rfl⟩
  rw[←hgg] at hd3
  have Qi:=hid hgg
  clear hgg
  have Ar:=hid uN
  have HD3:=hid hd3
  have gm:=hid (u7.out.trans (eT.of (X:=X) hf3 (by have:=u7.out.size;have:=qf.out;omega)))
  have lh:=hid (Ao nM.out gm.out)
  have rJ:=hid (uu.out.away lh.out (fun x hx=>Or.inr (List.mem_append_right _ (JB.out x hx).1)) ng.out)
  have HZ3:=hid (HR2.out.ZU gm.out (by have:=kC.out;omega) oo.out)
  have HY3:=hid (X5.out 0 _ _ (fun x hx=>hf3.block x (by have:=zn.out x hx;have:=u7.out.size;have:=qf.out;have:=kC.out;omega) (Or.inl (by have:=zn.out x hx;have:=kC.out;omega))) X7.out)
  clear uN hd3 hf3 qo u7 X7 HR2 HD1 HT1
  obtain⟨S,q,mb,th,rb,t,ho⟩:=HD3.out.2.1.open_
  have HO:=hid ho
  clear ho
  obtain⟨⟨c0,c1,c2,c3⟩,_⟩:=HO.out.at
  have zI:Hid (∃u us,Cs w3 C [u,us, .int .i64 (aJ s.k), .int .u64 (aI s.k)]∧∀f a c,u≠ .func f a c):=hid (by obtain⟨_,_,_,_,_,_,h1⟩:=rJ.out.open_;exact⟨_,_,h1.1.2.1,by intro _ _ _ h;cases h⟩)
  obtain⟨u0,u1,hcu,hu0⟩:=zI.out
  have YN:=hid hcu
  have HU0:=hid hu0
  clear hcu hu0 zI
  have HTC:Hid (T≠C∧W0.heap.size≤T):=hid (by have:=HD3.out.2.2.1.1;have:=iV.out.2.1;have:=kC.out;omega)
  go_wp2_with (first|((with_reducible refine bg 47 [.pointer (some ⟨S,0,none⟩), .int .i64 s2.run, .int .i64 (aJ s2.k), .int .u64 (aI s2.k)] RG rfl (.tmp 27) (.tmp 26) rfl (C) 0 _ YN.out ?_ ?_ ?_ ?_ ?_ ?_);(iterate 5 (·first|rfl|simp|decide));(intro W2 hW2);(have Uq:Hid (Cs W2 C [.pointer (some ⟨S,0,none⟩), .int .i64 s2.run, .int .i64 (aJ s2.k), .int .u64 (aI s2.k)]):=hid (by rw[hW2];exact Cs.bH _ 0 YN.out (by simp)));(have yF:Hid (ax [C] w3 W2):=hid (by rw[hW2];exact ax.zN _ _ (ax.refl _ _) (Or.inl (by simp))));(have uZ:=hid (HD3.out.1.1.aG yF.out (by simpa using HTC.out.1)));(have uY:=hid (HZ3.out.aG yF.out (by have:=iV.out.2.1;simp;omega)));(clear c0 c1 c2 c3);(have t0:=uZ.out.aL);(have t1:=uZ.out.fH);(clear hW2))|((with_reducible refine bg 36 [.slice A' gg.length c', .slice E ps.length e'] dn rfl (.tmp 4) (.tmp 28) rfl (w.heap.size) 0 _ uY.out ?_ ?_ ?_ ?_ ?_ ?_);(iterate 5 (·first|rfl|simp|decide));(intro W2 hW2);(have iT:Hid (Cs W2 w.heap.size [.slice A' gg.length c', .slice E ps.length e']):=hid (by rw[hW2];exact Cs.bH _ 0 uY.out (by simp)));(have gH:=hid (ax.eqs hW2));(clear hW2))|fail)
  obtain⟨z0,z1⟩:=iT.out.two
  have hfin:=Qw.fin (w:=w) HD3.out HO.out Uq.out yF.out gH.out (fun f a c e=>by rw[YN.out.aL] at e;exact HU0.out f a c (Option.some.inj e)) (fun f a c e=>by rw[uY.out.aL] at e;cases e) (by have:=kC.out;omega) iV.out.2.1 iV.out.1 iV.out.2.2.1 iV.out.2.2.2 (by have:=kC.out;omega) (by have:=iV.out.2.1;omega)
  have gZ:=hid hfin
  have X6:=hid (X5.out 0 _ _ (fun x hx=>(gH.out.block x (by have:=zn.out x hx;have:=yF.out.size;have:=gm.out.size;have:=qf.out;have:=kC.out;omega) (by have:=zn.out x hx;simp;omega)).trans (yF.out.block x (by have:=zn.out x hx;have:=gm.out.size;have:=qf.out;have:=kC.out;omega) (fun hm=>by simp at hm;subst hm;exact iV.out.2.2.1 (JB.out _ hx).1))) HY3.out)
  have Qo:=hid (((((ax.below (F:=C::X) HB0.out).trans lh.out (fun g hg=>Or.inl (List.mem_cons_of_mem _ hg))).trans yF.out (fun g hg=>Or.inl (by simp at hg;simp[hg]))).trans gH.out (fun g hg=>Or.inr (by simp at hg;omega))))
  clear hfin
  go_wp2_with fail
  refine bodyPost_ret (v:= .tuple #[.agg #[.slice A' gg.length c', .slice E ps.length e'], .int .i64 0]) (by simp[results,Tryz.results32,go_sem,z0,z1]) rfl ?_
  have hgg:=Qi.out
  subst hgg
  exact⟨0,X6.out,Qo.out,Or.inr ⟨rfl,s1,gs,ps,g2,s2,A',c',E,e',HRR.out,Ar.out,rfl,gZ.out.2.1,gZ.out.2.2,gZ.out.1⟩⟩
 ·have hne:(code == 0)=false:=by simpa using hc0
  have aaU:=hid hc0
  refine⟨_,rfl,?_⟩
  have lh:=hid (Ao nM.out u7.out)
  have rJ:=hid (uu.out.away lh.out (fun x hx=>Or.inr (List.mem_append_right _ (JB.out x hx).1)) ng.out)
  have HZ3:=hid (HR2.out.ZU u7.out (by have:=kC.out;omega) oo.out)
  have gm:=hid u7.out.size
  clear hc0 u7 HR2 HD1 HT1 FQ
  go_wp2_with (first|((with_reducible refine bg 36 [.slice none 0 0, .slice none 0 0] dn rfl (.tmp 4) (.tmp 19) rfl (w.heap.size) 0 _ HZ3.out ?_ ?_ ?_ ?_ ?_ ?_);(iterate 5 (·first|rfl|simp|decide));(intro W2 hW2);(have iT:Hid (Cs W2 w.heap.size [.slice none 0 0, .slice none 0 0]):=hid (by rw[hW2];exact Cs.bH _ 0 HZ3.out (by simp)));(have gH:=hid (ax.eqs hW2));(clear hW2))|fail)
  obtain⟨z0,z1⟩:=iT.out.two
  have X6:=hid (X5.out code _ _ (fun x hx=>gH.out.block x (by have:=zn.out x hx;have:=gm.out;have:=qf.out;have:=kC.out;omega) (by have:=zn.out x hx;simp;omega)) X7.out)
  have Qo:=hid ((((ax.below (F:=C::X) HB0.out).trans lh.out (fun g hg=>Or.inl (List.mem_cons_of_mem _ hg))).trans gH.out (fun g hg=>Or.inr (by simp at hg;omega))))
  have YA:=hid ((rJ.out.away gH.out (fun g hg=>Or.inr (by simp at hg;simp[hg])) (fun g hg f a c e=>by simp at hg;subst hg;rw[HZ3.out.aL] at e;cases e)).less (F':=F) (fun j hj=>List.mem_append_right _ hj))
  go_wp2_with fail
  refine bodyPost_ret (v:= .tuple #[.agg #[.slice none 0 0, .slice none 0 0], .int .i64 code]) (by simp[results,Tryz.results32,go_sem,z0,z1]) rfl ⟨code,X6.out,Qo.out,Or.inl ⟨aaU.out,rfl,YA.out⟩⟩
end


section
open Go.RowKit
theorem Iq:(Tryz.prog.info? 68).map (·.size)=some 3:=by kernel_rfl
def KS.put (s:KS) (r:Rq):KS:=⟨s.run,s.k,Ef s.b s.L r,bH s.b s.L r,vC s.b s.L s.l r⟩
def nN (y:Rq) (left:Int):Int:=min y.l left
def ik (y:Rq) (left:Int):Rq:=(y.serve (nN y left)).1
def qG (y:Rq) (left:Int):Pt:=⟨y.a.i,nN y left,(y.serve (nN y left)).2.1⟩
set_option maxRecDepth 100000 in
set_option maxHeartbeats 8000000 in
theorem Core.serve (B:Nat) (F:List Nat) (D:Nat) (s:KS) (y:Rq) (hy:y∈s.l) (hrun:s.run=y.a.i) (left:Int) (hleft:eZ left) (w:World) (h:KB B F D s w):Calls Tryz.prog 43 #[(.pointer (some ⟨D,0,none⟩)), .int .u64 left] w (fun e w'=>(gP s.b s.L (ik y left)=0→e= .returned (.tuple #[.agg (qG y left).cells.toArray, .int .i64 0]))∧(gP s.b s.L (ik y left)≠0→e= .returned (.tuple #[.agg #[.int .i64 0, .int .u64 0, .bool false], .int .i64 (gP s.b s.L (ik y left))]))∧KB B F D (s.put (ik y left)) w'∧di B F w w'):=by
 have HN:=aa ((KV.of h).new 68 (.int .i64 0) [.int .u64 0, .bool false]);have HY:=aa hy;have gG:=aa hleft;clear h hy hleft;go_enter Tryz.func43,Tryz.ntmps43;go_upto_region 1 with fail
 generalize (w.alloc (.cells #[.int .i64 0, .int .u64 0, .bool false] 68))=W0 at HN⊢
 generalize w.heap.size=g0 at HN⊢
 obtain⟨S,q,mb,th,rb,t,ho⟩:=HN.out.1.open_;have mZ:=aa (ho.mem HY.out).2;have uo:=aa hrun;have HC:=aa ho;clear ho hrun;have aB:aF (fun wx=>Below W0 W0 wx):=fun _ _ h hb=>ai h hb;refine aA (S:=fun wx=>Below W0 W0 wx) 15 ae (aB _ _ ((Below.refl W0.heap.size W0)) (Below.refl _ _).drew) ?_;refine aQ (aB) (fun _ h=>h) fun g=> ?_;refine tk 0 ?_ g ?_ ?_ (tk 1 ?_ g ?_ ?_ (tk 2 ?_ g ?_ ?_ (tk 3 ?_ g ?_ ?_ (tk 4 ?_ g ?_ ?_ (tk 5 ?_ g ?_ ?_ ?_)))));iterate 3 (rotate_left;(·rfl);(·exact ah))
 rotate_left;(·rfl);(·intro wq hSw;obtain⟨⟨c0,c1,c2,c3⟩,s0⟩:=(HC.out.below hSw).at;rw[uo.out] at c1;go_simp;try with_reducible rfl);iterate 2 (rotate_left;(·rfl);(·exact ah))
 try simp only[av]
 clear g;refine aQ (aB) (fun _ h=>h) fun g=> ?_;refine tk 6 ?_ g ?_ ?_ (tk 7 ?_ g ?_ ?_ ?_);rotate_left;(·rfl);(·exact ah);rotate_left;(·rfl);(·intro wq hSw;obtain⟨⟨c0,c1,c2,c3⟩,s0⟩:=(HC.out.below hSw).at;rw[uo.out] at c1;go_simp;try with_reducible rfl);try simp only[av]
 clear g;refine iI 8 ((.tuple #[y.val, .bool true])) (aB) (fun _ h=>h) (fun wq hSw=> ?_) ?_
 ·refine dU.aN (Set.KM S q rb s.l y HY.out mZ.out wq (HC.out.below hSw).sat.1.2) (by go_simp) ?_;rintro e wr ⟨rfl,hb⟩;exact⟨rfl,hb⟩
 try simp only[av]
 refine aQ (aB) (fun _ h=>h) fun g=> ?_;refine tk 9 ?_ g ?_ ?_ (tk 10 ?_ g ?_ ?_ (tk 11 ?_ g ?_ ?_ ?_));iterate 3 (rotate_left;(·rfl);(·exact ah))
 try simp only[av]
 clear g;refine df (i:=12) (fun wx g=>Cs wx g Rq.no.cells∧W0.heap.size≤g) rfl ae ak au (aB) (fun _ h=>h) (fun g=>fun _ _ h hb=>⟨h.1.below hb,h.2⟩) (fun wq hSw=> ?_) (fun gA=> ?_)
 ·exact⟨_,by go_simp;(try with_reducible rfl),(Below.refl _ _).alloc ay _,Rq.gM _ _ Rq.no,hSw.size⟩
 try simp only[av]
 refine bB (i:=13) (fun wx=>Below W0 W0 wx∧(Cs wx gA y.cells∧W0.heap.size≤gA)) 59 y.cells Rq.no.cells gA jr (.tmp 6) (.tmp 23) rfl rfl ae ak au ?hz1a ?hz1b ?hz1c ?hz1d ?hz1e (fun _ h=>h.2.1) (fun _ h=>⟨aU h.2.2 _ _ h.1,Cs.bH _ 0 h.2.1 (by simp[Rq.cells]),h.2.2⟩) (fun _ h=>h.1) ((fun _ _ h hb=>⟨ai h.1 hb,h.2.1.below hb,h.2.2⟩)) ?hz1f
 case hz1a=>rfl
 case hz1b=>rfl
 case hz1c=>rfl
 case hz1d=>rfl
 case hz1e=>rfl
 try simp only[av]
 refine aQ ((fun _ _ h hb=>⟨ai h.1 hb,h.2.1.below hb,h.2.2⟩)) (fun _ h=>h.1) fun g=> ?_;refine tk 14 ?_ g ?_ ?_ ?_;rotate_left;(·rfl);(·exact ah);try simp only[av]
 clear g;refine aZ ae (fun wz hSz=> ?_) _;have iU:=aa (HN.out.add hSz.1 hSz.2.1 hSz.2.2);clear hSz HN HC;obtain⟨y0,y1,y2,y3,y4,y5,y6,y7,y8,y9⟩:=Rq.at y (iU.out.cs 1 rfl);have Um:Hid (eZ (min y.l left)):=aa (by have:=mZ.out.2.1;have:=gG.out;unfold eZ at *;omega);go_wp2_with fail
 obtain⟨r,d,ok,hr⟩:∃r d ok,y.serve (min y.l left)=(r,d,ok):=⟨_,_,_,rfl⟩;have zu:Hid r.In:=aa (by have:=Q3 mZ.out (min y.l left) Um.out.1;rwa [hr] at this);have Ar:Hid (ik y left=r):=aa (by unfold ik nN;rw[hr]);have Lx:Hid (qG y left=⟨y.a.i,min y.l left,d⟩):=aa (by unfold qG nN;rw[hr]);refine(gX.serve y mZ.out (min y.l left) Um.out _).mono ?_;rw[hr];clear hr;rintro e w1 ⟨rfl,hb⟩;have sJ:=aa ((iU.out.below hb).new 59 (.int .u64 r.a.t) [.int .u32 r.a.r, .int .u32 r.a.v, .int .i64 r.a.i, .int .u64 r.a.u, .int .u32 r.a.s, .int .u32 r.a.y, .int .u64 r.l, .int .u64 r.s, .bool r.z]);clear hb iU y0 y1 y2 y3 y4 y5 y6 y7 y8 y9;dsimp only;unfold Rq.val;go_upto_region 4 with fail
 generalize (w1.alloc (.cells r 59))=W2 at sJ⊢
 generalize w1.heap.size=g2 at sJ⊢
 obtain⟨S2,q2,vY,vO,vU,t2,ho⟩:=sJ.out.1.open_;have jD:=aa ho;clear ho;refine aA (S:=fun wx=>Below W2 W2 wx) 5 ae ((Below.refl W2.heap.size W2).drew) ?_;refine aQ ((fun _ _ h hb=>ai h hb)) (fun _ h=>h) fun g=> ?_;refine tk 0 ?_ g ?_ ?_ (tk 1 ?_ g ?_ ?_ (tk 2 ?_ g ?_ ?_ (tk 3 ?_ g ?_ ?_ (tk 4 ?_ g ?_ ?_ ?_))));iterate 3 (rotate_left;(·rfl);(·exact ah))
 iterate 2 (rotate_left;(·rfl);(·intro wq hSw;obtain⟨⟨c0,c1,c2,c3⟩,s0⟩:=(jD.out.below hSw).at;obtain⟨r0,r1,r2,r3,r4,r5,r6,r7,r8,r9⟩:=Rq.at r (Cs.below (sJ.out.cs 2 rfl) hSw);go_simp;try with_reducible rfl))
 try simp only[av]
 clear g;refine bP (n:=5) rfl rfl ae (fun wz hSz=> ?_);simp only[List.toList_toArray,List.drop_succ_cons,List.drop_zero];have gm:=aa (sJ.out.below hSz);have nL:=aa (jD.out.below hSz);clear hSz sJ jD;obtain⟨⟨c0,c1,c2,c3⟩,s0⟩:=nL.out.at;go_wp2_with fail
 refine(Set.put S2 q2 vY vO vU s.b t2 s.l r zu.out _ nL.out.sat).mono ?_;rintro e w3 ⟨rfl,hs⟩;have hks:=nL.out.step hs;rw[nL.out.1.1] at hks⊢
 have kD:=aa (gm.out.op hks.1 hks.2);clear hs hks gm nL;have HZ:=aa (kD.out.cs 0 rfl);obtain⟨y0,y1,y2,y3,y4,y5,y6,y7,y8,y9⟩:=Rq.at y (kD.out.cs 1 rfl);by_cases hpc:gP s.b s.L r=0
 ·rw[hpc];have JG:=aa hpc;clear hpc;go_wp2_with (first|((with_reducible refine bg 68 [.int .i64 y.a.i, .int .u64 (min y.l left), .bool d] Iq rfl (.tmp 4) (.tmp 51) rfl (g0) 0 _ HZ.out ?_ ?_ ?_ ?_ ?_ ?_);(iterate 5 (·first|rfl|simp|decide));(intro W2 hW2);(have pq:=aa (kD.out.put 0 rfl 0 [.int .i64 y.a.i, .int .u64 (min y.l left), .bool d] ag (by intro _ _ _ h;cases h) hW2));(clear hW2))|fail)
  obtain⟨z0,z1,z2⟩:=(pq.out.cs 0 rfl).three;have gZ:=aa pq.out.fin;go_wp2_with fail
  refine bodyPost_ret (v:= .tuple #[.agg #[.int .i64 y.a.i, .int .u64 (min y.l left), .bool d], .int .i64 0]) (by simp[results,Tryz.results43,go_sem,z0,z1,z2]) rfl ?_;rw[Ar.out];exact⟨fun _=>by rw[Lx.out];rfl,fun hn=>absurd JG.out hn,gZ.out⟩
 ·have JG:=aa hpc;have hbq:(gP s.b s.L r == 0)=false:=by simpa using hpc
  have Ym:Hid (gP s.b s.L r≠0):=aa hpc;obtain⟨pc,hpe⟩:∃pc,pc=gP s.b s.L r:=⟨_,rfl⟩;have HPE:=aa hpe;rw[←hpe] at hbq⊢
  clear hpc hpe;go_wp2_with (first|((with_reducible refine bg 68 [.int .i64 0, .int .u64 0, .bool false] Iq rfl (.tmp 4) (.tmp 44) rfl (g0) 0 _ HZ.out ?_ ?_ ?_ ?_ ?_ ?_);(iterate 5 (·first|rfl|simp|decide));(intro W2 hW2);(have pq:=aa (kD.out.put 0 rfl 0 [.int .i64 0, .int .u64 0, .bool false] ag (by intro _ _ _ h;cases h) hW2));(clear hW2))|fail)
  obtain⟨z0,z1,z2⟩:=(pq.out.cs 0 rfl).three;have gZ:=aa pq.out.fin;go_wp2_with fail
  refine bodyPost_ret (v:= .tuple #[.agg #[.int .i64 0, .int .u64 0, .bool false], .int .i64 pc]) (by simp[results,Tryz.results43,go_sem,z0,z1,z2]) rfl ?_;rw[Ar.out];exact⟨fun hn=>absurd hn Ym.out,fun _=>by rw[HPE.out],gZ.out⟩
end


section
open Go.RowKit
set_option maxRecDepth 100000
set_option maxHeartbeats 32000000
def dQ (l:List Rq) (i:Int):Rq×Bool:=match l.find? (fun x=>x.a.i == i) with
 |some x=>(x,true)
 |none=>(Rq.no,false)
theorem lH {l:List Rq} {i:Int} (h:(dQ l i).2=true):(dQ l i).1∈l∧(dQ l i).1.a.i=i:=by
 unfold dQ at h⊢
 cases hf:l.find? (fun x=>x.a.i == i) with
 |none=>rw[hf] at h;cases h
 |some x=>exact⟨List.mem_of_find?_eq_some hf,by simpa using List.find?_some hf⟩
theorem U9 {l:List Rq} {i:Int} (h:(dQ l i).2=false):(dQ l i).1=Rq.no∧∀x∈l,x.a.i≠i:=by
 unfold dQ at h⊢
 cases hf:l.find? (fun x=>x.a.i == i) with
 |none=>exact⟨rfl,fun x hx=>by have:=List.find?_eq_none.1 hf x hx;simpa using this⟩
 |some x=>rw[hf] at h;cases h
theorem Set.KP (S q rb:Nat) (l:List Rq) (i:Int) (hi: -9223372036854775808≤i∧i≤9223372036854775807) (hl:∀x∈l,x.In) (w:World) (h:lS w S q rb l):Calls Tryz.prog 36 #[.pointer (some ⟨S,0,none⟩), .int .i64 i] w (aV (.tuple #[(dQ l i).1.val, .bool (dQ l i).2]) w):=by
 cases hf:(dQ l i).2 with
 |true=>
  obtain⟨h1,h2⟩:=lH hf
  have:=Set.KM S q rb l _ h1 (hl _ h1) w h
  rwa [h2] at this
 |false=>
  obtain⟨h1,h2⟩:=U9 hf
  rw[h1]
  exact Set.VP S q rb l i hi h2 w h
theorem Core.Cc (n:Int) (w:World):Calls Tryz.prog 35 #[.int .u64 n] w (aV (.bool (mK n)) w):=by
 go_enter Tryz.func35,Tryz.ntmps35
 by_cases h1:(1:Int)≤n
 ·by_cases h2:n≤1099511627776
  ·have e:mK n=true:=vQ.2 ⟨h1,h2⟩
   rw[e]
   go_wp2_with fail
   go_ret
   exact⟨rfl,Below.refl _ _⟩
  ·have e:mK n=false:=by cases hs:mK n with|false=>rfl|true=>exact absurd (vQ.1 hs).2 h2
   rw[e]
   go_wp2_with fail
   go_ret
   exact⟨rfl,Below.refl _ _⟩
 ·have e:mK n=false:=by cases hs:mK n with|false=>rfl|true=>exact absurd (vQ.1 hs).1 h1
  rw[e]
  go_wp2_with fail
  go_ret
  exact⟨rfl,Below.refl _ _⟩
def yJ (v:Int):Bool:=decide (1≤v∧v≤1048576)
theorem Core.Ag (n:Int) (w:World):Calls Tryz.prog 34 #[.int .u32 n] w (aV (.bool (yJ n)) w):=by
 go_enter Tryz.func34,Tryz.ntmps34
 by_cases h1:(1:Int)≤n
 ·by_cases h2:n≤1048576
  ·have e:yJ n=true:=by unfold yJ;simp;omega
   rw[e]
   go_wp2_with fail
   go_ret
   exact⟨rfl,Below.refl _ _⟩
  ·have e:yJ n=false:=by unfold yJ;simp;omega
   rw[e]
   go_wp2_with fail
   go_ret
   exact⟨rfl,Below.refl _ _⟩
 ·have e:yJ n=false:=by unfold yJ;simp;omega
  rw[e]
  go_wp2_with fail
  go_ret
  exact⟨rfl,Below.refl _ _⟩
def AP (s:KS) (id ns:Int):Int:=if mK ns=true then(if (dQ s.l id).2=true then gP s.b s.L ((dQ s.l id).1.sliced ns).1 else 14) else 2
def Me (s:KS) (id ns:Int) (s1:KS) (gs:List Gn) (ps:List Pt):Prop:=gs=[]∧ps=[]∧(dQ s.l id).2=true∧s1=s.put ((dQ s.l id).1.sliced ns).1
theorem NP {r:Rq} (h:r.In) {n:Int} (hn:eZ n):(r.sliced n).1.In:=by
 unfold Rq.sliced
 split
 ·exact Rq.BO ⟨h.1,h.2.1,hn⟩
 ·exact Rq.uG
theorem Core.QQ (s:KS) (id ns:Int) (eU: -9223372036854775808≤id∧id≤9223372036854775807) (hns:eZ ns) (x1 x2:Nat) (w:World) (h1:Cs w x1 [.int .u64 ns]) (h2:Cs w x2 [.int .i64 id]):FY 59 #[(.pointer (some ⟨x1,0,none⟩)),(.pointer (some ⟨x2,0,none⟩))] s [] (fun c _=>c=AP s id ns) (Me s id ns) w:=by
 obtain⟨y,th,hy⟩:∃y th,dQ s.l id=(y,th):=⟨_,_,rfl⟩
 have eH:=hid hy
 have FR:=hid hns
 intro n D T w1 hn1 hn2 hb hd
 show Calls Tryz.prog 59 #[(.pointer (some ⟨D,0,none⟩)),(.pointer (some ⟨T,0,none⟩)),(.pointer (some ⟨x1,0,none⟩)),(.pointer (some ⟨x2,0,none⟩))] w1 _
 have HD:=hid hd
 have eG:=hid hn2
 have bX:=hid (h1.below hb)
 have dK:=hid (h2.below hb)
 have HN:=hid (KV.of hd.2.1)
 obtain⟨S,q,mb,dm,rb,t,ho⟩:=hd.2.1.open_
 have HO:=hid (show KO n (T::(rowOf none++rowOf none)) D s w1 S q mb dm rb t from ho)
 clear ho hd hb hn1 hn2
 have l8:Hid (∀wx,KO n (T::(rowOf none++rowOf none)) D s wx S q mb dm rb t→Calls Tryz.prog 36 #[.pointer (some ⟨S,0,none⟩), .int .i64 id] wx (aV (.tuple #[y.val, .bool th]) wx)):=hid (fun wx h=>by have:=Set.KP S q rb s.l id eU h.sat.2.1.2.2 wx h.sat.1.2;rwa [hy] at this)
 clear h1 h2 hy hns eU
 go_enter Tryz.func59,Tryz.ntmps59
 have a0:=bX.out.aL
 go_wp2_with fail
 refine(Core.Cc ns _).mono ?_
 rintro e w2 ⟨rfl,hb⟩
 have HB2:=hid hb
 clear hb a0
 cases hsl:mK ns with
 |false=>
  have qB:=hid hsl
  clear hsl
  go_wp2_with fail
  go_ret
  exact⟨2,rfl,by unfold AP;rw[qB.out];rfl,eT.of (di.below HB2.out) eG.out,fun h=>by cases h⟩
 |true=>
  have qB:=hid hsl
  replace HO:=hid (HO.out.below HB2.out)
  replace HN:=hid (HN.out.below HB2.out)
  replace bX:=hid (bX.out.below HB2.out)
  replace dK:=hid (dK.out.below HB2.out)
  clear hsl
  go_upto_region 3 with fail
  have aB:aF (fun wx=>Below w2.heap.size w2 wx):=fun _ _ h hb=>ai h hb
  refine aA (S:=fun wx=>Below w2.heap.size w2 wx) 12 (by kernel_rfl) (aB _ _ ((Below.refl w2.heap.size w2)) (Below.refl _ _).drew) ?_
  refine aQ (aB) (fun _ h=>h) fun g=> ?_
  refine tk 0 ?_ g ?_ ?_ (tk 1 ?_ g ?_ ?_ (tk 2 ?_ g ?_ ?_ (tk 3 ?_ g ?_ ?_ (tk 4 ?_ g ?_ ?_ ?_))))
  iterate 3 (rotate_left;(·rfl);(·intro wq hSw;go_simp;try with_reducible rfl))
  iterate 2 (rotate_left;(·rfl);(·intro wq hSw;obtain⟨⟨c0,c1,c2,c3⟩,s0⟩:=(HO.out.below hSw).at;have b0:=(Cs.below dK.out hSw).aL;go_simp;try with_reducible rfl))
  try simp only[av]
  clear g
  refine iI 5 ((.tuple #[y.val, .bool th])) (aB) (fun _ h=>h) (fun wq hSw=> ?_) ?_
  ·refine dU.aN (l8.out _ (HO.out.below hSw)) (by go_simp) ?_
   rintro e wr ⟨rfl,hb⟩
   exact⟨rfl,hb⟩
  try simp only[av]
  refine aQ (aB) (fun _ h=>h) fun g=> ?_
  refine tk 6 ?_ g ?_ ?_ (tk 7 ?_ g ?_ ?_ (tk 8 ?_ g ?_ ?_ ?_))
  iterate 3 (rotate_left;(·rfl);(·intro wq hSw;go_simp;try with_reducible rfl))
  try simp only[av]
  clear g
  refine df (i:=9) (fun wx g=>Cs wx g Rq.no.cells∧w2.heap.size≤g) rfl (by kernel_rfl) (by decide) (by rfl) (aB) (fun _ h=>h) (fun g=>fun _ _ h hb=>⟨h.1.below hb,h.2⟩) (fun wq hSw=> ?_) (fun gA=> ?_)
  ·exact⟨_,by go_simp;(try with_reducible rfl),(Below.refl _ _).alloc (Nat.le_refl _) _,Rq.gM _ _ Rq.no,hSw.size⟩
  try simp only[av]
  refine bB (i:=10) (fun wx=>Below w2.heap.size w2 wx∧(Cs wx gA y.cells∧w2.heap.size≤gA)) 59 y.cells Rq.no.cells gA jr (.tmp 7) (.tmp 21) rfl rfl (by kernel_rfl) (by decide) (by rfl) ?hz1a ?hz1b ?hz1c ?hz1d ?hz1e (fun _ h=>h.2.1) (fun _ h=>⟨aU h.2.2 _ _ h.1,Cs.bH _ 0 h.2.1 (by simp[Rq.cells]),h.2.2⟩) (fun _ h=>h.1) ((fun _ _ h hb=>⟨ai h.1 hb,h.2.1.below hb,h.2.2⟩)) ?hz1f
  case hz1a=>rfl
  case hz1b=>rfl
  case hz1c=>rfl
  case hz1d=>rfl
  case hz1e=>rfl
  try simp only[av]
  refine aQ ((fun _ _ h hb=>⟨ai h.1 hb,h.2.1.below hb,h.2.2⟩)) (fun _ h=>h.1) fun g=> ?_
  refine tk 11 ?_ g ?_ ?_ ?_
  rotate_left;(·rfl);(·intro wq hSw;go_simp;try with_reducible rfl)
  try simp only[av]
  clear g
  refine aZ (by kernel_rfl) (fun wz hSz=> ?_) _
  have gm:=hid (HN.out.add hSz.1 hSz.2.1 hSz.2.2)
  have oM:=hid (bX.out.below hSz.1)
  have jW:=hid (ai HB2.out hSz.1)
  clear hSz
  cases th with
  |false=>
   go_wp2_with fail
   go_ret
   exact⟨14,rfl,by unfold AP;rw[qB.out,eH.out];rfl,eT.of (di.below jW.out) eG.out,fun h=>by cases h⟩
  |true=>
   have um:Hid (y∈s.l):=hid (by have:=(lH (l:=s.l) (i:=id) (by rw[eH.out])).1;rwa [eH.out] at this)
   have HYL:=hid (And.intro um.out (HO.out.mem um.out).2)
   obtain⟨y0,y1,y2,y3,y4,y5,y6,y7,y8,y9⟩:=Rq.at y (gm.out.cs 0 rfl)
   have a0:=oM.out.aL
   go_wp2_with fail
   refine(gX.sliced y HYL.out.2 ns FR.out _).mono ?_
   obtain⟨r,ok,hr⟩:∃r ok,y.sliced ns=(r,ok):=⟨_,_,rfl⟩
   have zu:Hid r.In:=hid (by have:=NP HYL.out.2 FR.out;rwa [hr] at this)
   rw[hr]
   have HR:=hid hr
   clear hr
   rintro e w4 ⟨rfl,hb⟩
   have kD:=hid ((gm.out.below hb).new 59 (.int .u64 r.a.t) [.int .u32 r.a.r, .int .u32 r.a.v, .int .i64 r.a.i, .int .u64 r.a.u, .int .u32 r.a.s, .int .u32 r.a.y, .int .u64 r.l, .int .u64 r.s, .bool r.z])
   clear hb a0 y0 y1 y2 y3 y4 y5 y6 y7 y8 y9
   dsimp only
   unfold Rq.val
   go_upto_region 7 with fail
   generalize (w4.alloc (.cells #[.int .u64 r.a.t, .int .u32 r.a.r, .int .u32 r.a.v, .int .i64 r.a.i, .int .u64 r.a.u, .int .u32 r.a.s, .int .u32 r.a.y, .int .u64 r.l, .int .u64 r.s, .bool r.z] 59))=W4 at kD⊢
   generalize w4.heap.size=g4 at kD⊢
   clear l8
   obtain⟨S2,q2,vY,vO,vU,t2,ho2⟩:=kD.out.1.open_
   have qj:=hid ho2
   clear ho2
   refine aA (S:=fun wx=>Below W4.heap.size W4 wx) 5 (by kernel_rfl) ((Below.refl W4.heap.size W4).drew) ?_
   refine aQ ((fun _ _ h hb=>ai h hb)) (fun _ h=>h) fun g=> ?_
   refine tk 0 ?_ g ?_ ?_ (tk 1 ?_ g ?_ ?_ (tk 2 ?_ g ?_ ?_ (tk 3 ?_ g ?_ ?_ (tk 4 ?_ g ?_ ?_ ?_))))
   iterate 3 (rotate_left;(·rfl);(·intro wq hSw;go_simp;try with_reducible rfl))
   iterate 2 (rotate_left;(·rfl);(·intro wq hSw;obtain⟨⟨c0,c1,c2,c3⟩,s0⟩:=(qj.out.below hSw).at;obtain⟨r0,r1,r2,r3,r4,r5,r6,r7,r8,r9⟩:=Rq.at r (Cs.below (kD.out.cs 1 rfl) hSw);go_simp;try with_reducible rfl))
   try simp only[av]
   clear g
   refine bP (n:=5) rfl rfl (by kernel_rfl) (fun wz hSz=> ?_)
   simp only[List.toList_toArray,List.drop_succ_cons,List.drop_zero]
   have pq:=hid (kD.out.below hSz)
   have jQ:=hid (qj.out.below hSz)
   clear hSz
   go_wp2_with fail
   refine(Set.put S2 q2 vY vO vU s.b t2 s.l r zu.out _ jQ.out.sat).mono ?_
   rintro e w6 ⟨rfl,hs⟩
   have hks:=jQ.out.step hs
   rw[jQ.out.1.1] at hks⊢
   have hfi:=(pq.out.op hks.1 hks.2).fin
   have gZ:=hid hfi
   clear hs hks hfi
   go_wp2_with fail
   go_ret
   exact⟨_,rfl,by unfold AP;rw[qB.out,eH.out];simp[HR.out],eT.of (gZ.out.2.less (by simp)) eG.out,fun _=>⟨_,[],[],none,0,none,0,⟨rfl,rfl,by rw[eH.out],by rw[eH.out,HR.out];rfl⟩,by simp,HD.out.op gZ.out.1 gZ.out.2⟩⟩
end


section
open Go.RowKit
set_option maxRecDepth 100000
set_option maxHeartbeats 32000000
theorem DW.M7 {n D T:Nat} {s:KS} {gs:List Gn} {ps:List Pt} {A:Option Addr} {c:Nat} {E:Option Addr} {e:Nat} {w w':World} {G:List Nat} (h:DW n D T s gs ps A c E e w) (hc:ax G w w') (hG:∀g∈G,g<n) (hF:∀g∈G,∀f a c,w.cell? ⟨g,0,none⟩≠some (.func f a c)):DW n D T s gs ps A c E e w':=by
 have hgA:=h.1.2.1.dX
 have Al:=h.1.2.2.dX
 refine⟨⟨h.1.1.aG hc (fun hm=> ?_),h.1.2.1.aG hc (fun j hj hm=> ?_),h.1.2.2.aG hc (fun j hj hm=> ?_)⟩,h.2.1.away hc (fun g hg=>Or.inl (hG g hg)) hF,h.2.2⟩
 ·have:=hG T hm;have:=h.2.2.1.1;omega
 ·have:=hG j hm;have:=(hgA j hj).1;omega
 ·have:=hG j hm;have:=(Al j hj).1;omega
theorem eT.more {n:Nat} {X X':List Nat} {w w':World} (h:eT n X w w') (hX:∀x∈X,x∈X'):eT n X' w w':=⟨h.os,h.tape,h.output,h.size,fun k hk hn=>h.block k hk (fun hm=>hn (hX k hm))⟩
theorem KO.away {B D:Nat} {F G:List Nat} {s:KS} {w w':World} {S q mb th rb:Nat} {t:Tr It} (h:KO B F D s w S q mb th rb t) (hc:ax G w w') (hG:∀g∈G,g<B∨g∈F) (hF:∀g∈G,∀f a c,w.cell? ⟨g,0,none⟩≠some (.func f a c)):KO B F D s w' S q mb th rb t:=by
 have hd:∀g∈D::fO S q mb th rb t,g∉G:=fun g hg hm=>by
  have:=h.2.1 g hg
  rcases hG g hm with h6|h6
  ·omega
  ·exact this.2 h6
 exact⟨⟨h.1.1,h.1.2.1.aG hc (hd D (by simp)),h.1.2.2.1.away hc hF (fun g hg=>hd g (List.mem_cons_of_mem _ hg)),h.1.2.2.2⟩,h.2.1,fun j hj=>Nat.lt_of_lt_of_le (h.2.2.1 j hj) hc.size,h.2.2.2⟩
def yw (n D T:Nat) (s:KS) (S q mb th rb:Nat) (t:Tr It) (x1 x2 x3:Nat) (id:Int) (wy wx:World):Prop:=
 (KO n (T::(rowOf none++rowOf none)) D s wx S q mb th rb t∧DW n D T s [] [] none 0 none 0 wx)∧(Cs wx x1 [.int .i64 id]∧Cs wx x2 [.bool false])∧eT n [x3] wy wx
theorem yw.below {n D T:Nat} {s:KS} {S q mb th rb:Nat} {t:Tr It} {x1 x2 x3:Nat} {id:Int} {wy w w':World} (h:yw n D T s S q mb th rb t x1 x2 x3 id wy w) (hb:Below w.heap.size w w'):yw n D T s S q mb th rb t x1 x2 x3 id wy w':=by
 have hn:n≤w.heap.size:=by have:=h.1.2.2.1.ge;have:=h.1.2.2.2.1.1;have:=h.1.2.1.1.lt;omega
 exact⟨⟨h.1.1.below hb,h.1.2.below hb⟩,⟨h.2.1.1.below hb,h.2.1.2.below hb⟩,h.2.2.trans (eT.of (di.below hb) hn)⟩
theorem yw.put {n D T:Nat} {s:KS} {S q mb th rb:Nat} {t:Tr It} {x1 x2 x3:Nat} {id lg:Int} {wy w:World} (h:yw n D T s S q mb th rb t x1 x2 x3 id wy w) (hc:Cs w x3 [.int .i64 0, .int .u64 0]) (hx:x1≠x3∧x2≠x3) (h3:x3<n∧n≤wy.heap.size):yw n D T s S q mb th rb t x1 x2 x3 id wy (w.setCells x3 0 [.int .i64 (aJ lg), .int .u64 (aI lg)])∧Cs (w.setCells x3 0 [.int .i64 (aJ lg), .int .u64 (aI lg)]) x3 [.int .i64 (aJ lg), .int .u64 (aI lg)]:=by
 have hch:ax [x3] w (w.setCells x3 0 [.int .i64 (aJ lg), .int .u64 (aI lg)]):=ax.eqs rfl
 have hnf:∀g∈[x3],∀f a c,w.cell? ⟨g,0,none⟩≠some (.func f a c):=fun g hg f a c e=>by simp at hg;subst hg;rw[hc.aL] at e;cases e
 have hlt:∀g∈[x3],g<n:=fun g hg=>by simp at hg;omega
 exact⟨⟨⟨h.1.1.away hch (fun g hg=>Or.inl (hlt g hg)) hnf,h.1.2.M7 hch hlt hnf⟩,⟨h.2.1.1.aG hch (by simpa using hx.1),h.2.1.2.aG hch (by simpa using hx.2)⟩,h.2.2.trans (eT.aG hch (fun g hg=>Or.inl hg) (by have:=h.2.2.size;omega))⟩,Cs.bH _ 0 hc (by simp)⟩
def KS.KI (s:KS) (id:Int) (z:Bool):KS:=⟨s.run,s.k,s.b,s.L,Ho id z s.l⟩
def Az (s:KS) (id:Int):Int:=if ((dQ s.l id).2&& !(dQ s.l id).1.z)=true then 6 else xC id s.L
def LV (s:KS) (id:Int) (s1:KS) (gs:List Gn) (ps:List Pt):Prop:=gs=[]∧ps=[]∧s1=s.KI id false
theorem KV.fr {B D:Nat} {F:List Nat} {s:KS} {w0 w:World} {L:List (Nat×List Value)} (h:KV B F D s w0 L w):di B F w0 w:=h.2.2.2
theorem Core.UB (s:KS) (id:Int) (eU: -9223372036854775808≤id∧id≤9223372036854775807) (x1:Nat) (w:World) (h1:Cs w x1 [.int .i64 id]):FY 54 #[(.pointer (some ⟨x1,0,none⟩))] s [] (fun c _=>c=Az s id) (LV s id) w:=by
 obtain⟨y,th,hy⟩:∃y th,dQ s.l id=(y,th):=⟨_,_,rfl⟩
 have eH:=hid hy
 have DL:=hid eU
 intro n D T w1 hn1 hn2 hb hd
 show Calls Tryz.prog 54 #[(.pointer (some ⟨D,0,none⟩)),(.pointer (some ⟨T,0,none⟩)),(.pointer (some ⟨x1,0,none⟩))] w1 _
 have HD:=hid hd
 have eG:=hid hn2
 have jV:=hid hn1
 have bX:=hid (h1.below hb)
 have HN:=hid (KV.of hd.2.1)
 obtain⟨S,q,mb,dm,rb,t,ho⟩:=hd.2.1.open_
 have HO:=hid (show KO n (T::(rowOf none++rowOf none)) D s w1 S q mb dm rb t from ho)
 clear ho hd hb hn1 hn2
 have l8:Hid (∀wx,KO n (T::(rowOf none++rowOf none)) D s wx S q mb dm rb t→Calls Tryz.prog 36 #[.pointer (some ⟨S,0,none⟩), .int .i64 id] wx (aV (.tuple #[y.val, .bool th]) wx)):=hid (fun wx h=>by have:=Set.KP S q rb s.l id eU h.sat.2.1.2.2 wx h.sat.1.2;rwa [hy] at this)
 clear h1 hy eU
 go_enter Tryz.func54,Tryz.ntmps54
 go_upto_region 1 with fail
 have aB:aF (fun wx=>Below w1.heap.size w1 wx):=fun _ _ h hb=>ai h hb
 refine aA (S:=fun wx=>Below w1.heap.size w1 wx) 12 (by kernel_rfl) (aB _ _ ((Below.refl w1.heap.size w1)) (Below.refl _ _).drew) ?_
 refine aQ (aB) (fun _ h=>h) fun g=> ?_
 refine tk 0 ?_ g ?_ ?_ (tk 1 ?_ g ?_ ?_ (tk 2 ?_ g ?_ ?_ (tk 3 ?_ g ?_ ?_ (tk 4 ?_ g ?_ ?_ ?_))))
 iterate 3 (rotate_left;(·rfl);(·intro wq hSw;go_simp;try with_reducible rfl))
 iterate 2 (rotate_left;(·rfl);(·intro wq hSw;obtain⟨⟨c0,c1,c2,c3⟩,s0⟩:=(HO.out.below hSw).at;have b0:=(Cs.below bX.out hSw).aL;go_simp;try with_reducible rfl))
 try simp only[av]
 clear g
 refine iI 5 ((.tuple #[y.val, .bool th])) (aB) (fun _ h=>h) (fun wq hSw=> ?_) ?_
 ·refine dU.aN (l8.out _ (HO.out.below hSw)) (by go_simp) ?_
  rintro e wr ⟨rfl,hb⟩
  exact⟨rfl,hb⟩
 try simp only[av]
 refine aQ (aB) (fun _ h=>h) fun g=> ?_
 refine tk 6 ?_ g ?_ ?_ (tk 7 ?_ g ?_ ?_ (tk 8 ?_ g ?_ ?_ ?_))
 iterate 3 (rotate_left;(·rfl);(·intro wq hSw;go_simp;try with_reducible rfl))
 try simp only[av]
 clear g
 refine df (i:=9) (fun wx g=>Cs wx g Rq.no.cells∧w1.heap.size≤g) rfl (by kernel_rfl) (by decide) (by rfl) (aB) (fun _ h=>h) (fun g=>fun _ _ h hb=>⟨h.1.below hb,h.2⟩) (fun wq hSw=> ?_) (fun gA=> ?_)
 ·exact⟨_,by go_simp;(try with_reducible rfl),(Below.refl _ _).alloc (Nat.le_refl _) _,Rq.gM _ _ Rq.no,hSw.size⟩
 try simp only[av]
 refine bB (i:=10) (fun wx=>Below w1.heap.size w1 wx∧(Cs wx gA y.cells∧w1.heap.size≤gA)) 59 y.cells Rq.no.cells gA jr (.tmp 6) (.tmp 15) rfl rfl (by kernel_rfl) (by decide) (by rfl) ?hz1a ?hz1b ?hz1c ?hz1d ?hz1e (fun _ h=>h.2.1) (fun _ h=>⟨aU h.2.2 _ _ h.1,Cs.bH _ 0 h.2.1 (by simp[Rq.cells]),h.2.2⟩) (fun _ h=>h.1) ((fun _ _ h hb=>⟨ai h.1 hb,h.2.1.below hb,h.2.2⟩)) ?hz1f
 case hz1a=>rfl
 case hz1b=>rfl
 case hz1c=>rfl
 case hz1d=>rfl
 case hz1e=>rfl
 try simp only[av]
 refine aQ ((fun _ _ h hb=>⟨ai h.1 hb,h.2.1.below hb,h.2.2⟩)) (fun _ h=>h.1) fun g=> ?_
 refine tk 11 ?_ g ?_ ?_ ?_
 rotate_left;(·rfl);(·intro wq hSw;go_simp;try with_reducible rfl)
 try simp only[av]
 clear g
 refine aZ (by kernel_rfl) (fun wz hSz=> ?_) _
 have gm:=hid (HN.out.add hSz.1 hSz.2.1 hSz.2.2)
 have oM:=hid (bX.out.below hSz.1)
 have jW:=hid hSz.1
 clear hSz
 cases th with
 |false=>
  clear HN HO l8
  go_upto_region 4 with fail
  obtain⟨S2,q2,vY,vO,vU,t2,ho2⟩:=gm.out.1.open_
  have qj:=hid ho2
  clear ho2
  refine aA (S:=fun wx=>Below wz.heap.size wz wx) 5 (by kernel_rfl) ((Below.refl wz.heap.size wz).drew) ?_
  refine aQ ((fun _ _ h hb=>ai h hb)) (fun _ h=>h) fun g=> ?_
  refine tk 0 ?_ g ?_ ?_ (tk 1 ?_ g ?_ ?_ (tk 2 ?_ g ?_ ?_ (tk 3 ?_ g ?_ ?_ (tk 4 ?_ g ?_ ?_ ?_))))
  iterate 3 (rotate_left;(·rfl);(·intro wq hSw;go_simp;try with_reducible rfl))
  iterate 2 (rotate_left;(·rfl);(·intro wq hSw;obtain⟨⟨c0,c1,c2,c3⟩,s0⟩:=(qj.out.below hSw).at;have b1:=(Cs.below oM.out hSw).aL;go_simp;try with_reducible rfl))
  try simp only[av]
  clear g
  refine bP (n:=5) rfl rfl (by kernel_rfl) (fun wz hSz=> ?_)
  simp only[List.toList_toArray,List.drop_succ_cons,List.drop_zero]
  have pq:=hid (gm.out.below hSz)
  have jQ:=hid (qj.out.below hSz)
  clear hSz
  go_wp2_with fail
  refine(Set.Mk S2 q2 vY vO vU s.b t2 s.l id false DL.out _ jQ.out.sat).mono ?_
  rintro e w6 ⟨rfl,hs⟩
  have hks:=jQ.out.step hs
  rw[jQ.out.1.1] at hks⊢
  have hfi:=(pq.out.op hks.1 hks.2).fin
  have gZ:=hid hfi
  clear hs hks hfi
  go_wp2_with fail
  go_ret
  exact⟨_,rfl,by unfold Az;rw[eH.out];simp,eT.of (gZ.out.2.less (by simp)) eG.out,fun _=>⟨_,[],[],none,0,none,0,⟨rfl,rfl,rfl⟩,by simp,HD.out.op gZ.out.1 gZ.out.2⟩⟩
 |true=>
  clear HN HO l8
  obtain⟨y0,y1,y2,y3,y4,y5,y6,y7,y8,y9⟩:=Rq.at y (gm.out.cs 0 rfl)
  cases hz:y.z with
  |false=>
   have uX:=hid hz
   rw[hz] at y9
   clear hz
   go_wp2_with fail
   go_ret
   exact⟨6,rfl,by unfold Az;rw[eH.out];simp[uX.out],eT.of (di.below jW.out) eG.out,fun h=>by cases h⟩
  |true=>
   have uX:=hid hz
   rw[hz] at y9
   clear hz
   go_upto_region 4 with fail
   clear y0 y1 y2 y3 y4 y5 y6 y7 y8 y9
   obtain⟨S2,q2,vY,vO,vU,t2,ho2⟩:=gm.out.1.open_
   have qj:=hid ho2
   clear ho2
   refine aA (S:=fun wx=>Below wz.heap.size wz wx) 5 (by kernel_rfl) ((Below.refl wz.heap.size wz).drew) ?_
   refine aQ ((fun _ _ h hb=>ai h hb)) (fun _ h=>h) fun g=> ?_
   refine tk 0 ?_ g ?_ ?_ (tk 1 ?_ g ?_ ?_ (tk 2 ?_ g ?_ ?_ (tk 3 ?_ g ?_ ?_ (tk 4 ?_ g ?_ ?_ ?_))))
   iterate 3 (rotate_left;(·rfl);(·intro wq hSw;go_simp;try with_reducible rfl))
   iterate 2 (rotate_left;(·rfl);(·intro wq hSw;obtain⟨⟨c0,c1,c2,c3⟩,s0⟩:=(qj.out.below hSw).at;have b1:=(Cs.below oM.out hSw).aL;go_simp;try with_reducible rfl))
   try simp only[av]
   clear g
   refine bP (n:=5) rfl rfl (by kernel_rfl) (fun wz hSz=> ?_)
   simp only[List.toList_toArray,List.drop_succ_cons,List.drop_zero]
   have pq:=hid (gm.out.below hSz)
   have jQ:=hid (qj.out.below hSz)
   clear hSz
   go_wp2_with fail
   refine(Set.Mk S2 q2 vY vO vU s.b t2 s.l id false DL.out _ jQ.out.sat).mono ?_
   rintro e w6 ⟨rfl,hs⟩
   have hks:=jQ.out.step hs
   rw[jQ.out.1.1] at hks⊢
   have hfi:=(pq.out.op hks.1 hks.2).fin
   have gZ:=hid hfi
   clear hs hks hfi
   go_wp2_with fail
   go_ret
   exact⟨_,rfl,by unfold Az;rw[eH.out];simp[uX.out],eT.of (gZ.out.2.less (by simp)) eG.out,fun _=>⟨_,[],[],none,0,none,0,⟨rfl,rfl,rfl⟩,by simp,HD.out.op gZ.out.1 gZ.out.2⟩⟩
def OD (s:KS) (id:Int):Int:=if (dQ s.l id).2=true then 0 else 14
def Fe (s:KS) (id:Int):Int:=if (dQ s.l id).2=true then oG s (dQ s.l id).1 else 0
def ZW (s:KS) (id:Int) (x:Nat) (c:Int) (w:World):Prop:=c=OD s id∧Cs w x [.int .i64 (aJ (Fe s id)), .int .u64 (aI (Fe s id))]
def Tn (s:KS) (id:Int) (s1:KS) (gs:List Gn) (ps:List Pt):Prop:=gs=[]∧ps=[]∧(dQ s.l id).2=true∧s1=(s.Dk (oG s (dQ s.l id).1)).Ii (dQ s.l id).1
theorem Core.Rv (s:KS) (id:Int) (eU: -9223372036854775808≤id∧id≤9223372036854775807) (x1 x2:Nat) (w:World) (h1:Cs w x1 [.int .i64 id]) (h2:Cs w x2 [.int .i64 0, .int .u64 0]):FY 49 #[(.pointer (some ⟨x1,0,none⟩)),(.pointer (some ⟨x2,0,none⟩))] s [x2] (ZW s id x2) (Tn s id) w:=by
 have gG:=hid h2.lt
 obtain⟨y,th,hy⟩:∃y th,dQ s.l id=(y,th):=⟨_,_,rfl⟩
 have eH:=hid hy
 have DL:=hid eU
 intro n D T w1 hn1 hn2 hb hd
 show Calls Tryz.prog 49 #[(.pointer (some ⟨D,0,none⟩)),(.pointer (some ⟨T,0,none⟩)),(.pointer (some ⟨x1,0,none⟩)),(.pointer (some ⟨x2,0,none⟩))] w1 _
 have HD:=hid hd
 have eG:=hid hn2
 have jV:=hid hn1
 have bX:=hid (h1.below hb)
 have dK:=hid (h2.below hb)
 have HN:=hid (KV.of hd.2.1)
 obtain⟨S,q,mb,dm,rb,t,ho⟩:=hd.2.1.open_
 have HO:=hid (show KO n (T::(rowOf none++rowOf none)) D s w1 S q mb dm rb t from ho)
 clear ho hd hb hn1 hn2
 have l8:Hid (∀wx,KO n (T::(rowOf none++rowOf none)) D s wx S q mb dm rb t→Calls Tryz.prog 36 #[.pointer (some ⟨S,0,none⟩), .int .i64 id] wx (aV (.tuple #[y.val, .bool th]) wx)):=hid (fun wx h=>by have:=Set.KP S q rb s.l id eU h.sat.2.1.2.2 wx h.sat.1.2;rwa [hy] at this)
 clear h1 h2 hy eU
 go_enter Tryz.func49,Tryz.ntmps49
 go_upto_region 1 with fail
 have aB:aF (fun wx=>Below w1.heap.size w1 wx):=fun _ _ h hb=>ai h hb
 refine aA (S:=fun wx=>Below w1.heap.size w1 wx) 12 (by kernel_rfl) (aB _ _ ((Below.refl w1.heap.size w1)) (Below.refl _ _).drew) ?_
 refine aQ (aB) (fun _ h=>h) fun g=> ?_
 refine tk 0 ?_ g ?_ ?_ (tk 1 ?_ g ?_ ?_ (tk 2 ?_ g ?_ ?_ (tk 3 ?_ g ?_ ?_ (tk 4 ?_ g ?_ ?_ ?_))))
 iterate 3 (rotate_left;(·rfl);(·intro wq hSw;go_simp;try with_reducible rfl))
 iterate 2 (rotate_left;(·rfl);(·intro wq hSw;obtain⟨⟨c0,c1,c2,c3⟩,s0⟩:=(HO.out.below hSw).at;have b0:=(Cs.below bX.out hSw).aL;go_simp;try with_reducible rfl))
 try simp only[av]
 clear g
 refine iI 5 ((.tuple #[y.val, .bool th])) (aB) (fun _ h=>h) (fun wq hSw=> ?_) ?_
 ·refine dU.aN (l8.out _ (HO.out.below hSw)) (by go_simp) ?_
  rintro e wr ⟨rfl,hb⟩
  exact⟨rfl,hb⟩
 try simp only[av]
 refine aQ (aB) (fun _ h=>h) fun g=> ?_
 refine tk 6 ?_ g ?_ ?_ (tk 7 ?_ g ?_ ?_ (tk 8 ?_ g ?_ ?_ ?_))
 iterate 3 (rotate_left;(·rfl);(·intro wq hSw;go_simp;try with_reducible rfl))
 try simp only[av]
 clear g
 refine df (i:=9) (fun wx g=>Cs wx g Rq.no.cells∧w1.heap.size≤g) rfl (by kernel_rfl) (by decide) (by rfl) (aB) (fun _ h=>h) (fun g=>fun _ _ h hb=>⟨h.1.below hb,h.2⟩) (fun wq hSw=> ?_) (fun gA=> ?_)
 ·exact⟨_,by go_simp;(try with_reducible rfl),(Below.refl _ _).alloc (Nat.le_refl _) _,Rq.gM _ _ Rq.no,hSw.size⟩
 try simp only[av]
 refine bB (i:=10) (fun wx=>Below w1.heap.size w1 wx∧(Cs wx gA y.cells∧w1.heap.size≤gA)) 59 y.cells Rq.no.cells gA jr (.tmp 7) (.tmp 16) rfl rfl (by kernel_rfl) (by decide) (by rfl) ?hz1a ?hz1b ?hz1c ?hz1d ?hz1e (fun _ h=>h.2.1) (fun _ h=>⟨aU h.2.2 _ _ h.1,Cs.bH _ 0 h.2.1 (by simp[Rq.cells]),h.2.2⟩) (fun _ h=>h.1) ((fun _ _ h hb=>⟨ai h.1 hb,h.2.1.below hb,h.2.2⟩)) ?hz1f
 case hz1a=>rfl
 case hz1b=>rfl
 case hz1c=>rfl
 case hz1d=>rfl
 case hz1e=>rfl
 try simp only[av]
 refine aQ ((fun _ _ h hb=>⟨ai h.1 hb,h.2.1.below hb,h.2.2⟩)) (fun _ h=>h.1) fun g=> ?_
 refine tk 11 ?_ g ?_ ?_ ?_
 rotate_left;(·rfl);(·intro wq hSw;go_simp;try with_reducible rfl)
 try simp only[av]
 clear g
 refine aZ (by kernel_rfl) (fun wz hSz=> ?_) _
 have gm:=hid (HN.out.add hSz.1 hSz.2.1 hSz.2.2)
 have oM:=hid (bX.out.below hSz.1)
 have zo:=hid (dK.out.below hSz.1)
 have jW:=hid hSz.1
 clear hSz HN l8
 cases th with
 |false=>
  go_wp2_with fail
  go_ret
  exact⟨14,rfl,⟨by unfold OD;rw[eH.out];rfl,by unfold Fe;rw[eH.out,if_neg (by simp),show aJ 0=0 by decide,show aI 0=0 by decide];exact zo.out⟩,eT.of (di.below jW.out) eG.out,fun h=>by cases h⟩
 |true=>
  have um:Hid (y∈s.l):=hid (by have:=(lH (l:=s.l) (i:=id) (by rw[eH.out])).1;rwa [eH.out] at this)
  have yA:Hid (y.a.i=id):=hid (by have:=(lH (l:=s.l) (i:=id) (by rw[eH.out])).2;rwa [eH.out] at this)
  have b1:=oM.out.aL
  rw[←yA.out] at b1
  go_wp2_with fail
  refine(Core.drop n _ D s y um.out _ gm.out.1).mono ?_
  rintro e w4 ⟨rfl,hk4,K6⟩
  have kD:=hid (gm.out.op hk4 K6)
  obtain⟨lg,iJ⟩:∃lg,lg=oG s y:=⟨_,rfl⟩
  have ve:=hid iJ
  rw[←iJ]
  have xV:=hid (zo.out.uP K6 (Or.inl (by have:=gG.out;have:=jV.out;omega)))
  clear hk4 K6 b1 iJ
  unfold wv
  go_wp2_with (first|((with_reducible refine bg 42 [.int .i64 (aJ lg), .int .u64 (aI lg)] fT rfl (.tmp 3) (.tmp 22) rfl (x2) 0 _ xV.out ?_ ?_ ?_ ?_ ?_ ?_);(iterate 5 (·first|rfl|simp|decide));(intro W2 hW2);(have EE:Hid (Cs W2 x2 [.int .i64 (aJ lg), .int .u64 (aI lg)]):=hid (by rw[hW2];exact Cs.bH _ 0 xV.out (by simp)));(have gH:=hid (ax.eqs hW2));(clear hW2))|fail)
  have hfi:=kD.out.fin
  have hk5:=hfi.1.away gH.out (fun g hg=>Or.inl (by simp at hg;subst hg;have:=gG.out;have:=jV.out;omega)) (fun g hg f a c e=>by simp at hg;subst hg;rw[xV.out.aL] at e;cases e)
  have gZ:=hid (HD.out.op hfi.1 hfi.2)
  have YK:=hid (gZ.out.M7 gH.out (fun g hg=>by simp at hg;subst hg;have:=gG.out;have:=jV.out;omega) (fun g hg f a c e=>by simp at hg;subst hg;rw[xV.out.aL] at e;cases e))
  have u7:=hid ((eT.of (X:=[x2]) (hfi.2.less (F':=[]) (by simp)) eG.out).trans (eT.aG gH.out (fun g hg=>Or.inl hg) (by have:=hfi.2.size;have:=eG.out;omega)))
  clear hfi hk5
  go_ret
  exact⟨0,rfl,⟨by unfold OD;rw[eH.out];rfl,by unfold Fe;rw[eH.out,if_pos rfl,←ve.out];exact EE.out⟩,u7.out,fun _=>⟨_,[],[],none,0,none,0,⟨rfl,rfl,by rw[eH.out],by rw[eH.out]⟩,by simp,YK.out⟩⟩
def AO (s:KS) (id:Int):Int:=if (dQ s.l id).2=true then(if (dQ s.l id).1.z=true then 6 else 0) else 14
def VN (s:KS) (y:Rq):Int:=((qM s.b s.L).sign y.a.pp).2
def tK (s:KS) (id:Int):Bool:=(dQ s.l id).2&& !(dQ s.l id).1.z&&decide (0≤VN s (dQ s.l id).1)
def vz (s:KS) (id:Int):Int:=if ((dQ s.l id).2&& !(dQ s.l id).1.z)=true then oG s (dQ s.l id).1 else 0
def VL (s:KS) (id:Int) (x2 x3:Nat) (c:Int) (w:World):Prop:=c=AO s id∧Cs w x2 [.bool (tK s id)]∧Cs w x3 [.int .i64 (aJ (vz s id)), .int .u64 (aI (vz s id))]
def Md (s:KS) (id:Int) (s1:KS) (gs:List Gn) (ps:List Pt):Prop:=gs=[]∧ps=[]∧(dQ s.l id).2=true∧s1=if tK s id=true then(s.Dk (oG s (dQ s.l id).1)).Ii (dQ s.l id).1 else s.KI id true
theorem Core.QR (s:KS) (id:Int) (eU: -9223372036854775808≤id∧id≤9223372036854775807) (x1 x2 x3:Nat) (hx:x2≠x3∧x1≠x3) (w:World) (h1:Cs w x1 [.int .i64 id]) (h2:Cs w x2 [.bool false]) (h3:Cs w x3 [.int .i64 0, .int .u64 0]):FY 51 #[(.pointer (some ⟨x1,0,none⟩)),(.pointer (some ⟨x2,0,none⟩)),(.pointer (some ⟨x3,0,none⟩))] s [x2,x3] (VL s id x2 x3) (Md s id) w:=by
 have SL:=hid h2.lt
 have BB:=hid h3.lt
 have Ub:=hid hx
 obtain⟨y,th,hy⟩:∃y th,dQ s.l id=(y,th):=⟨_,_,rfl⟩
 have eH:=hid hy
 have DL:=hid eU
 intro n D T w1 hn1 hn2 hb hd
 show Calls Tryz.prog 51 #[(.pointer (some ⟨D,0,none⟩)),(.pointer (some ⟨T,0,none⟩)),(.pointer (some ⟨x1,0,none⟩)),(.pointer (some ⟨x2,0,none⟩)),(.pointer (some ⟨x3,0,none⟩))] w1 _
 have HD:=hid hd
 have eG:=hid hn2
 have jV:=hid hn1
 have bX:=hid (h1.below hb)
 have dK:=hid (h2.below hb)
 have o8:=hid (h3.below hb)
 have HN:=hid (KV.of hd.2.1)
 obtain⟨S,q,mb,dm,rb,t,ho⟩:=hd.2.1.open_
 have HO:=hid (show KO n (T::(rowOf none++rowOf none)) D s w1 S q mb dm rb t from ho)
 clear ho hd hb hn1 hn2
 have l8:Hid (∀wx,KO n (T::(rowOf none++rowOf none)) D s wx S q mb dm rb t→Calls Tryz.prog 36 #[.pointer (some ⟨S,0,none⟩), .int .i64 id] wx (aV (.tuple #[y.val, .bool th]) wx)):=hid (fun wx h=>by have:=Set.KP S q rb s.l id eU h.sat.2.1.2.2 wx h.sat.1.2;rwa [hy] at this)
 clear h1 h2 h3 hy eU
 go_enter Tryz.func51,Tryz.ntmps51
 clear hx
 go_upto_region 1 with fail
 have aB:aF (fun wx=>Below w1.heap.size w1 wx):=fun _ _ h hb=>ai h hb
 refine aA (S:=fun wx=>Below w1.heap.size w1 wx) 12 (by kernel_rfl) (aB _ _ ((Below.refl w1.heap.size w1)) (Below.refl _ _).drew) ?_
 refine aQ (aB) (fun _ h=>h) fun g=> ?_
 refine tk 0 ?_ g ?_ ?_ (tk 1 ?_ g ?_ ?_ (tk 2 ?_ g ?_ ?_ (tk 3 ?_ g ?_ ?_ (tk 4 ?_ g ?_ ?_ ?_))))
 iterate 3 (rotate_left;(·rfl);(·intro wq hSw;go_simp;try with_reducible rfl))
 iterate 2 (rotate_left;(·rfl);(·intro wq hSw;obtain⟨⟨c0,c1,c2,c3⟩,s0⟩:=(HO.out.below hSw).at;have b0:=(Cs.below bX.out hSw).aL;go_simp;try with_reducible rfl))
 try simp only[av]
 clear g
 refine iI 5 ((.tuple #[y.val, .bool th])) (aB) (fun _ h=>h) (fun wq hSw=> ?_) ?_
 ·refine dU.aN (l8.out _ (HO.out.below hSw)) (by go_simp) ?_
  rintro e wr ⟨rfl,hb⟩
  exact⟨rfl,hb⟩
 try simp only[av]
 refine aQ (aB) (fun _ h=>h) fun g=> ?_
 refine tk 6 ?_ g ?_ ?_ (tk 7 ?_ g ?_ ?_ (tk 8 ?_ g ?_ ?_ ?_))
 iterate 3 (rotate_left;(·rfl);(·intro wq hSw;go_simp;try with_reducible rfl))
 try simp only[av]
 clear g
 refine df (i:=9) (fun wx g=>Cs wx g Rq.no.cells∧w1.heap.size≤g) rfl (by kernel_rfl) (by decide) (by rfl) (aB) (fun _ h=>h) (fun g=>fun _ _ h hb=>⟨h.1.below hb,h.2⟩) (fun wq hSw=> ?_) (fun gA=> ?_)
 ·exact⟨_,by go_simp;(try with_reducible rfl),(Below.refl _ _).alloc (Nat.le_refl _) _,Rq.gM _ _ Rq.no,hSw.size⟩
 try simp only[av]
 refine bB (i:=10) (fun wx=>Below w1.heap.size w1 wx∧(Cs wx gA y.cells∧w1.heap.size≤gA)) 59 y.cells Rq.no.cells gA jr (.tmp 8) (.tmp 19) rfl rfl (by kernel_rfl) (by decide) (by rfl) ?hz1a ?hz1b ?hz1c ?hz1d ?hz1e (fun _ h=>h.2.1) (fun _ h=>⟨aU h.2.2 _ _ h.1,Cs.bH _ 0 h.2.1 (by simp[Rq.cells]),h.2.2⟩) (fun _ h=>h.1) ((fun _ _ h hb=>⟨ai h.1 hb,h.2.1.below hb,h.2.2⟩)) ?hz1f
 case hz1a=>rfl
 case hz1b=>rfl
 case hz1c=>rfl
 case hz1d=>rfl
 case hz1e=>rfl
 try simp only[av]
 refine aQ ((fun _ _ h hb=>⟨ai h.1 hb,h.2.1.below hb,h.2.2⟩)) (fun _ h=>h.1) fun g=> ?_
 refine tk 11 ?_ g ?_ ?_ ?_
 rotate_left;(·rfl);(·intro wq hSw;go_simp;try with_reducible rfl)
 try simp only[av]
 clear g
 refine aZ (by kernel_rfl) (fun wz hSz=> ?_) _
 have gm:=hid (HN.out.add hSz.1 hSz.2.1 hSz.2.2)
 have oM:=hid (bX.out.below hSz.1)
 have zo:=hid (dK.out.below hSz.1)
 have SC:=hid (o8.out.below hSz.1)
 have fJ:=hid (HO.out.below hSz.1)
 have jW:=hid hSz.1
 clear hSz HN l8 HO
 have e00:aJ 0=0∧aI 0=0:=⟨by decide,by decide⟩
 have Uo:=hid e00
 clear e00
 cases th with
 |false=>
  go_wp2_with fail
  go_ret
  exact⟨14,rfl,⟨by unfold AO;rw[eH.out];rfl,by unfold tK;rw[eH.out];exact zo.out,by unfold vz;rw[eH.out,if_neg (by simp),Uo.out.1,Uo.out.2];exact SC.out⟩,eT.of (di.below jW.out) eG.out,fun h=>by cases h⟩
 |true=>
  have um:Hid (y∈s.l):=hid (by have:=(lH (l:=s.l) (i:=id) (by rw[eH.out])).1;rwa [eH.out] at this)
  have yA:Hid (y.a.i=id):=hid (by have:=(lH (l:=s.l) (i:=id) (by rw[eH.out])).2;rwa [eH.out] at this)
  obtain⟨y0,y1,y2,y3,y4,y5,y6,y7,y8,y9⟩:=Rq.at y (gm.out.cs 0 rfl)
  cases hz:y.z with
  |true=>
   have uX:=hid hz
   rw[hz] at y9
   clear hz
   go_wp2_with fail
   go_ret
   exact⟨6,rfl,⟨by unfold AO;rw[eH.out];simp[uX.out],by unfold tK;rw[eH.out];simp[uX.out];exact zo.out,by unfold vz;rw[eH.out,if_neg (by simp[uX.out]),Uo.out.1,Uo.out.2];exact SC.out⟩,eT.of (di.below jW.out) eG.out,fun h=>by cases h⟩
  |false=>
   have uX:=hid hz
   rw[hz] at y9
   clear hz
   obtain⟨sg,hsg⟩:∃sg,sg=VN s y:=⟨_,rfl⟩
   have HSG:=hid hsg
   have HOW:Hid (∀wx,KO n (T::(rowOf none++rowOf none)) D s wx S q mb dm rb t→Calls Tryz.prog 52 #[.pointer (some ⟨q,0,none⟩), .int .i64 id] wx (aV (.tuple #[.int .i64 sg, .int .i64 0]) wx)):=hid (fun wx h=>by have:=Queue.Hy q mb dm (qM s.b s.L) t y.a (h.mem um.out).1 wx h.EX;rw[yA.out] at this;rw[hsg];exact this)
   clear hsg
   go_upto_region 6 with fail
   clear y0 y1 y2 y3 y4 y5 y6 y7 y8 y9
   refine aA (S:=fun wx=>Below wz.heap.size wz wx) 14 (by kernel_rfl) ((Below.refl wz.heap.size wz).drew) ?_
   refine aQ ((fun _ _ h hb=>ai h hb)) (fun _ h=>h) fun g=> ?_
   refine tk 0 ?_ g ?_ ?_ (tk 1 ?_ g ?_ ?_ (tk 2 ?_ g ?_ ?_ (tk 3 ?_ g ?_ ?_ (tk 4 ?_ g ?_ ?_ (tk 5 ?_ g ?_ ?_ ?_)))))
   iterate 3 (rotate_left;(·rfl);(·intro wq hSw;go_simp;try with_reducible rfl))
   rotate_left;(·rfl);(·intro wq hSw;obtain⟨⟨c0,c1,c2,c3⟩,s0⟩:=(fJ.out.below hSw).at;have b1:=(Cs.below oM.out hSw).aL;go_simp;try with_reducible rfl)
   iterate 2 (rotate_left;(·rfl);(·intro wq hSw;go_simp;try with_reducible rfl))
   try simp only[av]
   clear g
   refine aQ ((fun _ _ h hb=>ai h hb)) (fun _ h=>h) fun g=> ?_
   refine tk 6 ?_ g ?_ ?_ (tk 7 ?_ g ?_ ?_ ?_)
   iterate 2 (rotate_left;(·rfl);(·intro wq hSw;obtain⟨⟨c0,c1,c2,c3⟩,s0⟩:=(fJ.out.below hSw).at;have b1:=(Cs.below oM.out hSw).aL;go_simp;try with_reducible rfl))
   try simp only[av]
   clear g
   refine iI 8 (.tuple #[.int .i64 sg, .int .i64 0]) ((fun _ _ h hb=>ai h hb)) (fun _ h=>h) (fun wq hSw=> ?_) ?_
   ·refine dU.aN (HOW.out _ (fJ.out.below hSw)) (by go_simp) ?_
    rintro e wr ⟨rfl,hb⟩
    exact⟨rfl,hb⟩
   try simp only[av]
   refine aQ ((fun _ _ h hb=>ai h hb)) (fun _ h=>h) fun g=> ?_
   refine tk 9 ?_ g ?_ ?_ (tk 10 ?_ g ?_ ?_ (tk 11 ?_ g ?_ ?_ (tk 12 ?_ g ?_ ?_ (tk 13 ?_ g ?_ ?_ ?_))))
   iterate 5 (rotate_left;(·rfl);(·intro wq hSw;go_simp;try with_reducible rfl))
   try simp only[av]
   clear g
   refine aZ (by kernel_rfl) (fun wy nZ=> ?_) _
   have kD:=hid (gm.out.below nZ)
   have Yd:=hid (oM.out.below nZ)
   have xV:=hid (zo.out.below nZ)
   have Yc:=hid (SC.out.below nZ)
   have Yq:=hid (fJ.out.below nZ)
   clear nZ gm fJ HOW
   by_cases hsg:0≤sg
   ·have Lx:=hid hsg
    have hsb:tK s id=true:=by unfold tK;rw[eH.out];simp[uX.out,←HSG.out];exact hsg
    have P7:=hid hsb
    clear hsb
    have b1:=Yd.out.aL
    rw[←yA.out] at b1
    go_wp2_with fail
    refine(Core.drop n _ D s y um.out _ kD.out.1).mono ?_
    rintro e w5 ⟨rfl,hk5,IG⟩
    have pq:=hid (kD.out.op hk5 IG)
    obtain⟨lg,iJ⟩:∃lg,lg=oG s y:=⟨_,rfl⟩
    have ve:=hid iJ
    rw[←iJ]
    have EE:=hid (xV.out.uP IG (Or.inl (by have:=SL.out;have:=jV.out;omega)))
    have Yb:=hid (Yc.out.uP IG (Or.inl (by have:=BB.out;have:=jV.out;omega)))
    clear hk5 IG b1 iJ hsg
    unfold wv
    have f2:=EE.out.lM
    have g2:=EE.out.aL
    have DI:Hid (ax [x2] w5 (w5.setCell ⟨x2,0,none⟩ (.bool true))∧Cs (w5.setCell ⟨x2,0,none⟩ (.bool true)) x2 [.bool true]):=hid ⟨ax.set (ax.refl _ _) (Or.inl (by simp)) _ _,Cs.bH [.bool true] 0 EE.out (by simp)⟩
    have Nc:=hid (Yb.out.aG DI.out.1 (by simpa using Ne.symm Ub.out.1))
    go_wp2_with (first|((with_reducible refine bg 42 [.int .i64 (aJ lg), .int .u64 (aI lg)] fT rfl (.tmp 4) (.tmp 41) rfl (x3) 0 _ Nc.out ?_ ?_ ?_ ?_ ?_ ?_);(iterate 5 (·first|rfl|simp|decide));(intro W2 hW2);(have aaL:Hid (Cs W2 x3 [.int .i64 (aJ lg), .int .u64 (aI lg)]):=hid (by rw[hW2];exact Cs.bH _ 0 Nc.out (by simp)));(have gH:=hid (ax.eqs hW2));(clear hW2))|fail)
    have hfi:=pq.out.fin
    have hcc:ax [x2,x3] w5 _:=(DI.out.1.mono (by simp)).trans gH.out (fun g hg=>Or.inl (by simp at hg;simp[hg]))
    have YK:=hid ((HD.out.op hfi.1 hfi.2).M7 hcc (fun g hg=>by simp at hg;have:=SL.out;have:=BB.out;have:=jV.out;omega) (fun g hg f a c e=>by simp at hg;rcases hg with rfl|rfl;rw[EE.out.aL] at e;cases e;rw[Yb.out.aL] at e;cases e))
    have u7:=hid ((eT.of (X:=[x2,x3]) (hfi.2.less (F':=[]) (by simp)) eG.out).trans (eT.aG hcc (fun g hg=>Or.inl hg) (by have:=hfi.2.size;have:=eG.out;omega)))
    have JB:=hid (DI.out.2.aG gH.out (by simpa using Ub.out.1))
    clear hfi hcc
    go_wp2_with fail
    go_ret
    exact⟨0,rfl,⟨by unfold AO;rw[eH.out];simp[uX.out],by rw[P7.out];exact JB.out,by unfold vz;rw[eH.out,if_pos (by simp[uX.out]),←ve.out];exact aaL.out⟩,u7.out,fun _=>⟨_,[],[],none,0,none,0,⟨rfl,rfl,by rw[eH.out],by rw[P7.out,if_pos rfl,eH.out]⟩,by simp,YK.out⟩⟩
   ·have hsb:tK s id=false:=by unfold tK;rw[eH.out];simp[uX.out,←HSG.out];omega
    have P7:=hid hsb
    clear hsb
    obtain⟨lg,iJ⟩:∃lg,lg=oG s y:=⟨_,rfl⟩
    have ve:=hid iJ
    have wU:Hid (∀wx,KO n (T::(rowOf none++rowOf none)) D s wx S q mb dm rb t→Calls Tryz.prog 14 #[.pointer (some ⟨q,0,none⟩), .int .i64 id] wx (aV (.tuple #[wv lg, .int .i64 0]) wx)):=hid (fun wx h=>by have:=Queue.wm q mb dm (qM s.b s.L) t y.a (h.mem um.out).1 wx h.EX;rw[yA.out] at this;rw[iJ];exact this)
    clear iJ
    go_upto_region 10 with fail
    clear hsg
    have yB:=hid (And.intro Ub.out.2 Ub.out.1)
    have HL3:Hid (x3<n∧n≤wy.heap.size):=hid (by have:=BB.out;have:=jV.out;have:=eG.out;have:=kD.out.fr.size;omega)
    have kC:Hid (yw n D T s S q mb dm rb t x1 x2 x3 id wy wy):=hid ⟨⟨Yq.out,HD.out.op kD.out.fin.1 kD.out.fin.2⟩,⟨Yd.out,xV.out⟩,eT.of (di.refl _ _ _) HL3.out.2⟩
    have dN:aF (fun wx=>yw n D T s S q mb dm rb t x1 x2 x3 id wy wx):=fun _ _ h hb=>h.below hb
    have jL:aF (fun wx=>(fun wx=>yw n D T s S q mb dm rb t x1 x2 x3 id wy wx) wx∧Cs wx x3 [.int .i64 0, .int .u64 0]):=aF.dF dN (fun _ _ h hb=>Cs.below h hb)
    refine wp_region_any (by kernel_rfl) (iW (S0:=fun wx=>yw n D T s S q mb dm rb t x1 x2 x3 id wy wx) (n:=13) _ (fun wx=>(fun wx=>yw n D T s S q mb dm rb t x1 x2 x3 id wy wx) wx∧Cs wx x3 [.int .i64 0, .int .u64 0]) _ _ _ (jL _ _ (⟨kC.out,Yc.out⟩) (Below.refl _ _).drew) ?_)
    refine aQ (jL) (fun _ h=>h.1) fun g=> ?_
    refine tk 0 ?_ g ?_ ?_ (tk 1 ?_ g ?_ ?_ (tk 2 ?_ g ?_ ?_ (tk 3 ?_ g ?_ ?_ (tk 4 ?_ g ?_ ?_ (tk 5 ?_ g ?_ ?_ ?_)))))
    iterate 3 (rotate_left;(·rfl);(·intro wq hSw;go_simp;try with_reducible rfl))
    rotate_left;(·rfl);(·intro wq hSw;obtain⟨⟨c0,c1,c2,c3⟩,s0⟩:=hSw.1.1.at;have b1:=hSw.2.1.1.aL;go_simp;try with_reducible rfl)
    iterate 2 (rotate_left;(·rfl);(·intro wq hSw;go_simp;try with_reducible rfl))
    try simp only[av]
    clear g
    refine aQ (jL) (fun _ h=>h.1) fun g=> ?_
    refine tk 6 ?_ g ?_ ?_ (tk 7 ?_ g ?_ ?_ ?_)
    iterate 2 (rotate_left;(·rfl);(·intro wq hSw;obtain⟨⟨c0,c1,c2,c3⟩,s0⟩:=hSw.1.1.at;have b1:=hSw.2.1.1.aL;go_simp;try with_reducible rfl))
    try simp only[av]
    clear g
    refine iI 8 (.tuple #[wv lg, .int .i64 0]) (jL) (fun _ h=>h.1) (fun wq hSw=> ?_) ?_
    ·refine dU.aN (wU.out _ hSw.1.1) (by go_simp) ?_
     rintro e wr ⟨rfl,hb⟩
     exact⟨rfl,hb⟩
    try simp only[av]
    refine aQ (jL) (fun _ h=>h.1) fun g=> ?_
    refine tk 9 ?_ g ?_ ?_ (tk 10 ?_ g ?_ ?_ (tk 11 ?_ g ?_ ?_ ?_))
    iterate 3 (rotate_left;(·rfl);(·intro wq hSw;go_simp;try with_reducible rfl))
    try simp only[av]
    clear g
    refine bB (i:=12) (fun wx=>yw n D T s S q mb dm rb t x1 x2 x3 id wy wx∧Cs wx x3 [.int .i64 (aJ lg), .int .u64 (aI lg)]) 42 [.int .i64 (aJ lg), .int .u64 (aI lg)] [.int .i64 0, .int .u64 0] x3 fT (.tmp 4) (.tmp 52) rfl rfl (by kernel_rfl) (by decide) (by rfl) ?hz2a ?hz2b ?hz2c ?hz2d ?hz2e (fun _ h=>h.2) (fun _ h=>h.1.put h.2 yB.out HL3.out) (fun _ h=>h.1) ((fun _ _ h hb=>⟨h.1.below hb,h.2.below hb⟩)) ?hz2f
    case hz2a=>rfl
    case hz2b=>rfl
    case hz2c=>rfl
    case hz2d=>rfl
    case hz2e=>rfl
    try simp only[av]
    refine aZ (by kernel_rfl) (fun wu Fy=> ?_) _
    have Uk:=hid (KV.of Fy.1.1.2.2.1)
    have HDX:=hid Fy.1.1.2
    have u7:=hid ((eT.of (X:=[x2,x3]) (kD.out.fr.less (F':=[]) (by simp)) eG.out).trans (Fy.1.2.2.more (by simp)))
    have aaO:=hid Fy.1.2.1.1
    have aaM:=hid Fy.1.2.1.2
    have Nc:=hid Fy.2
    have Ap:=hid Fy.1.2.2.size
    have HSV:=hid kD.out.fr.size
    clear Fy kD Yq wU kC
    go_upto_region 11 with fail
    obtain⟨S2,q2,vY,vO,vU,t2,ho2⟩:=Uk.out.1.open_
    have qj:=hid ho2
    clear ho2
    refine aA (S:=fun wx=>Below wu.heap.size wu wx) 5 (by kernel_rfl) ((Below.refl wu.heap.size wu).drew) ?_
    refine aQ ((fun _ _ h hb=>ai h hb)) (fun _ h=>h) fun g=> ?_
    refine tk 0 ?_ g ?_ ?_ (tk 1 ?_ g ?_ ?_ (tk 2 ?_ g ?_ ?_ (tk 3 ?_ g ?_ ?_ (tk 4 ?_ g ?_ ?_ ?_))))
    iterate 3 (rotate_left;(·rfl);(·intro wq hSw;go_simp;try with_reducible rfl))
    iterate 2 (rotate_left;(·rfl);(·intro wq hSw;obtain⟨⟨c0,c1,c2,c3⟩,s0⟩:=(qj.out.below hSw).at;have b1:=(Cs.below aaO.out hSw).aL;go_simp;try with_reducible rfl))
    try simp only[av]
    clear g
    refine bP (n:=5) rfl rfl (by kernel_rfl) (fun wz hSz=> ?_)
    simp only[List.toList_toArray,List.drop_succ_cons,List.drop_zero]
    have pq:=hid (Uk.out.below hSz)
    have jQ:=hid (qj.out.below hSz)
    clear hSz
    go_wp2_with fail
    refine(Set.Mk S2 q2 vY vO vU s.b t2 s.l id true DL.out _ jQ.out.sat).mono ?_
    rintro e w6 ⟨rfl,hs⟩
    have hks:=jQ.out.step hs
    rw[jQ.out.1.1] at hks⊢
    have hfi:=(pq.out.op hks.1 hks.2).fin
    have gZ:=hid hfi
    clear hs hks hfi
    go_wp2_with fail
    go_ret
    have wY:Hid (xC id s.L=0):=hid (by unfold xC;rw[if_pos];unfold anyI;rw[List.any_eq_true];exact⟨y.a,by rw[←jQ.out.1.1];exact(jQ.out.mem um.out).1,by simp[yA.out]⟩)
    exact⟨_,rfl,⟨by rw[wY.out];unfold AO;rw[eH.out];simp[uX.out],by rw[P7.out];exact aaM.out.uP gZ.out.2 (Or.inl (by have:=SL.out;have:=jV.out;omega)),by unfold vz;rw[eH.out,if_pos (by simp[uX.out]),←ve.out];exact Nc.out.uP gZ.out.2 (Or.inl (by have:=BB.out;have:=jV.out;omega))⟩,u7.out.trans (eT.of (gZ.out.2.less (by simp)) (by have:=Ap.out;have:=HSV.out;have:=eG.out;omega)),fun _=>⟨_,[],[],none,0,none,0,⟨rfl,rfl,by rw[eH.out],by rw[P7.out,if_neg (by simp)];rfl⟩,by simp,HDX.out.op gZ.out.1 gZ.out.2⟩⟩
end


section
open Go.RowKit
set_option maxRecDepth 100000
set_option maxHeartbeats 32000000
theorem QB (m:Mu) (p:P3) {v:Int} (v0:0≤v) (v1:v≤4294967295):dJ (m.kK p v).2:=by
 unfold Mu.kK
 split
 ·exact Dm _ _ v0 v1
 ·exact⟨⟨by decide,by decide⟩,⟨by decide,by decide⟩,by decide,by decide⟩
theorem Rb (m:Mu) (c o:Int) {v:Int} (v0:0≤v) (v1:v≤4294967295):dJ (m.place c v o).2:=by
 unfold Mu.place
 have hz:dJ (0,0,0):=⟨⟨by decide,by decide⟩,⟨by decide,by decide⟩,by decide,by decide⟩
 split
 ·split
  ·exact Dm _ _ v0 v1
  ·split
   ·exact Dm _ _ v0 v1
   ·exact hz
 ·exact hz
theorem Rk {r:Rq} (h:r.In) {p:P3} (hp:dJ p):(r.moved p).1.In:=by
 unfold Rq.moved
 split
 ·exact Rq.BO (Rq.Er h hp)
 ·exact Rq.uG
theorem UU {p:P3} (hp:dJ p) {id n:Int} (hi: -9223372036854775808≤id∧id≤9223372036854775807) (hn:eZ n):(Rq.new p id n).1.In:=by
 unfold Rq.new
 exact Rq.BO ⟨⟨hp.1,hp.2.1,hp.2.2,hi,(o6 hp _).1,(o6 hp _).2.1,(o6 hp _).2.2⟩,hn,hn⟩
theorem V8 {p:P3} {id n:Int} (h:(Rq.new p id n).1.right=true):(Rq.new p id n).1.a.i=id:=by
 unfold Rq.new Rq.iR at h⊢
 split
 ·rfl
 ·rename_i hn
  rw[if_neg hn] at h
  exact absurd h (by decide)
def GL (s:KS) (y:Rq) (v:Int):Bool×P3:=(qM s.b s.L).kK (y.a.t,y.a.r,y.a.v) v
def GK (s:KS) (y:Rq) (v:Int):Rq:=(y.moved (GL s y v).2).1
def yK (s:KS) (id v:Int):Int:=if yJ v=true then(if (dQ s.l id).2=true then(if (GL s (dQ s.l id).1 v).1=true then gP s.b s.L (GK s (dQ s.l id).1 v) else 8) else 14) else 2
def LQ (s:KS) (id v:Int) (s1:KS) (gs:List Gn) (ps:List Pt):Prop:=gs=[]∧ps=[]∧(dQ s.l id).2=true∧s1=(s.Dk (oG s (dQ s.l id).1)).put (GK s (dQ s.l id).1 v)
theorem Core.QC (s:KS) (id v:Int) (eU: -9223372036854775808≤id∧id≤9223372036854775807) (hv:0≤v∧v≤4294967295) (x1 x2:Nat) (w:World) (h1:Cs w x1 [.int .u32 v]) (h2:Cs w x2 [.int .i64 id]):FY 55 #[(.pointer (some ⟨x1,0,none⟩)),(.pointer (some ⟨x2,0,none⟩))] s [] (fun c _=>c=yK s id v) (LQ s id v) w:=by
 have Dw:=hid hv
 obtain⟨y,th,hy⟩:∃y th,dQ s.l id=(y,th):=⟨_,_,rfl⟩
 have eH:=hid hy
 have DL:=hid eU
 intro n D T w1 hn1 hn2 hb hd
 show Calls Tryz.prog 55 #[(.pointer (some ⟨D,0,none⟩)),(.pointer (some ⟨T,0,none⟩)),(.pointer (some ⟨x1,0,none⟩)),(.pointer (some ⟨x2,0,none⟩))] w1 _
 have HD:=hid hd
 have eG:=hid hn2
 have jV:=hid hn1
 have bX:=hid (h1.below hb)
 have dK:=hid (h2.below hb)
 have HN:=hid (KV.of hd.2.1)
 obtain⟨S,q,mb,dm,rb,t,ho⟩:=hd.2.1.open_
 have HO:=hid (show KO n (T::(rowOf none++rowOf none)) D s w1 S q mb dm rb t from ho)
 clear ho hd hb hn1 hn2
 have l8:Hid (∀wx,KO n (T::(rowOf none++rowOf none)) D s wx S q mb dm rb t→Calls Tryz.prog 36 #[.pointer (some ⟨S,0,none⟩), .int .i64 id] wx (aV (.tuple #[y.val, .bool th]) wx)):=hid (fun wx h=>by have:=Set.KP S q rb s.l id eU h.sat.2.1.2.2 wx h.sat.1.2;rwa [hy] at this)
 clear h1 h2 hy eU
 go_enter Tryz.func55,Tryz.ntmps55
 clear hv
 have a0:=bX.out.aL
 go_wp2_with fail
 refine(Core.Ag v _).mono ?_
 rintro e w2 ⟨rfl,hb⟩
 have HB2:=hid hb
 clear hb a0
 cases hsl:yJ v with
 |false=>
  have qB:=hid hsl
  clear hsl
  go_wp2_with fail
  go_ret
  exact⟨2,rfl,by unfold yK;rw[qB.out];rfl,eT.of (di.below HB2.out) eG.out,fun h=>by cases h⟩
 |true=>
  have qB:=hid hsl
  replace HO:=hid (HO.out.below HB2.out)
  replace HN:=hid (HN.out.below HB2.out)
  replace bX:=hid (bX.out.below HB2.out)
  replace dK:=hid (dK.out.below HB2.out)
  clear hsl
  go_upto_region 3 with fail
  have aB:aF (fun wx=>Below w2.heap.size w2 wx):=fun _ _ h hb=>ai h hb
  refine aA (S:=fun wx=>Below w2.heap.size w2 wx) 12 (by kernel_rfl) (aB _ _ ((Below.refl w2.heap.size w2)) (Below.refl _ _).drew) ?_
  refine aQ (aB) (fun _ h=>h) fun g=> ?_
  refine tk 0 ?_ g ?_ ?_ (tk 1 ?_ g ?_ ?_ (tk 2 ?_ g ?_ ?_ (tk 3 ?_ g ?_ ?_ (tk 4 ?_ g ?_ ?_ ?_))))
  iterate 3 (rotate_left;(·rfl);(·intro wq hSw;go_simp;try with_reducible rfl))
  iterate 2 (rotate_left;(·rfl);(·intro wq hSw;obtain⟨⟨c0,c1,c2,c3⟩,s0⟩:=(HO.out.below hSw).at;have b0:=(Cs.below dK.out hSw).aL;go_simp;try with_reducible rfl))
  try simp only[av]
  clear g
  refine iI 5 ((.tuple #[y.val, .bool th])) (aB) (fun _ h=>h) (fun wq hSw=> ?_) ?_
  ·refine dU.aN (l8.out _ (HO.out.below hSw)) (by go_simp) ?_
   rintro e wr ⟨rfl,hb⟩
   exact⟨rfl,hb⟩
  try simp only[av]
  refine aQ (aB) (fun _ h=>h) fun g=> ?_
  refine tk 6 ?_ g ?_ ?_ (tk 7 ?_ g ?_ ?_ (tk 8 ?_ g ?_ ?_ ?_))
  iterate 3 (rotate_left;(·rfl);(·intro wq hSw;go_simp;try with_reducible rfl))
  try simp only[av]
  clear g
  refine df (i:=9) (fun wx g=>Cs wx g Rq.no.cells∧w2.heap.size≤g) rfl (by kernel_rfl) (by decide) (by rfl) (aB) (fun _ h=>h) (fun g=>fun _ _ h hb=>⟨h.1.below hb,h.2⟩) (fun wq hSw=> ?_) (fun gA=> ?_)
  ·exact⟨_,by go_simp;(try with_reducible rfl),(Below.refl _ _).alloc (Nat.le_refl _) _,Rq.gM _ _ Rq.no,hSw.size⟩
  try simp only[av]
  refine bB (i:=10) (fun wx=>Below w2.heap.size w2 wx∧(Cs wx gA y.cells∧w2.heap.size≤gA)) 59 y.cells Rq.no.cells gA jr (.tmp 7) (.tmp 23) rfl rfl (by kernel_rfl) (by decide) (by rfl) ?hz1a ?hz1b ?hz1c ?hz1d ?hz1e (fun _ h=>h.2.1) (fun _ h=>⟨aU h.2.2 _ _ h.1,Cs.bH _ 0 h.2.1 (by simp[Rq.cells]),h.2.2⟩) (fun _ h=>h.1) ((fun _ _ h hb=>⟨ai h.1 hb,h.2.1.below hb,h.2.2⟩)) ?hz1f
  case hz1a=>rfl
  case hz1b=>rfl
  case hz1c=>rfl
  case hz1d=>rfl
  case hz1e=>rfl
  try simp only[av]
  refine aQ ((fun _ _ h hb=>⟨ai h.1 hb,h.2.1.below hb,h.2.2⟩)) (fun _ h=>h.1) fun g=> ?_
  refine tk 11 ?_ g ?_ ?_ ?_
  rotate_left;(·rfl);(·intro wq hSw;go_simp;try with_reducible rfl)
  try simp only[av]
  clear g
  refine aZ (by kernel_rfl) (fun wz hSz=> ?_) _
  have gm:=hid (HN.out.add hSz.1 hSz.2.1 hSz.2.2)
  have oM:=hid (bX.out.below hSz.1)
  have zo:=hid (dK.out.below hSz.1)
  have fJ:=hid (HO.out.below hSz.1)
  have jW:=hid (ai HB2.out hSz.1)
  clear hSz l8 HN HO
  cases th with
  |false=>
   go_wp2_with fail
   go_ret
   exact⟨14,rfl,by unfold yK;rw[qB.out,eH.out];rfl,eT.of (di.below jW.out) eG.out,fun h=>by cases h⟩
  |true=>
   have um:Hid (y∈s.l):=hid (by have:=(lH (l:=s.l) (i:=id) (by rw[eH.out])).1;rwa [eH.out] at this)
   have yA:Hid (y.a.i=id):=hid (by have:=(lH (l:=s.l) (i:=id) (by rw[eH.out])).2;rwa [eH.out] at this)
   have mZ:=hid (fJ.out.mem um.out).2
   obtain⟨m,hm⟩:∃m,m=qM s.b s.L:=⟨_,rfl⟩
   have rG:Hid (∀wx,KO n (T::(rowOf none++rowOf none)) D s wx S q mb dm rb t→bQ wx q mb dm m t):=hid (fun wx h=>by rw[hm];exact h.EX)
   obtain⟨ok,p,hp⟩:∃ok p,GL s y v=(ok,p):=⟨_,_,rfl⟩
   have FM:=hid hp
   have Qc:Hid (dJ p):=hid (by have:=QB (qM s.b s.L) (y.a.t,y.a.r,y.a.v) Dw.out.1 Dw.out.2;unfold GL at hp;rwa [hp] at this)
   have PW:Hid (∀wx,KO n (T::(rowOf none++rowOf none)) D s wx S q mb dm rb t→Calls Tryz.prog 56 #[m.val,pv (y.a.t,y.a.r,y.a.v), .int .u32 v] wx (aV (.tuple #[pv p, .bool ok]) wx)):=hid (fun wx h=>by have:=M8.kK m (y.a.t,y.a.r,y.a.v) v (rG.out wx h).2.2.1 (Rq.Cm mZ.out) Dw.out.1 Dw.out.2 wx;unfold GL at hp;rw[←hm] at hp;rwa [hp] at this)
   clear hm hp
   go_wp2_with fail
   have dN:aF (fun wx=>Below wz.heap.size wz wx):=fun _ _ h hb=>ai h hb
   refine aA (S:=fun wx=>Below wz.heap.size wz wx) 21 (by kernel_rfl) (dN _ _ ((Below.refl wz.heap.size wz)) (Below.refl _ _).drew) ?_
   refine aQ (dN) (fun _ h=>h) fun g=> ?_
   refine tk 0 ?_ g ?_ ?_ (tk 1 ?_ g ?_ ?_ (tk 2 ?_ g ?_ ?_ (tk 3 ?_ g ?_ ?_ (tk 4 ?_ g ?_ ?_ (tk 5 ?_ g ?_ ?_ ?_)))))
   iterate 3 (rotate_left;(·rfl);(·intro wq hSw;go_simp;try with_reducible rfl))
   rotate_left;(·rfl);(·intro wq hSw;obtain⟨⟨c0,c1,c2,c3⟩,s0⟩:=(fJ.out.below hSw).at;obtain⟨k0,k1,k2,k3,k4,_,_⟩:=(rG.out _ (fJ.out.below hSw)).at;obtain⟨y0,y1,y2,y3,y4,y5,y6,y7,y8,y9⟩:=Rq.at y (Cs.below (gm.out.cs 0 rfl) hSw);have b1:=(Cs.below oM.out hSw).aL;go_simp;try with_reducible rfl)
   iterate 2 (rotate_left;(·rfl);(·intro wq hSw;go_simp;try with_reducible rfl))
   try simp only[av]
   clear g
   refine aQ (dN) (fun _ h=>h) fun g=> ?_
   refine tk 6 ?_ g ?_ ?_ (tk 7 ?_ g ?_ ?_ (tk 8 ?_ g ?_ ?_ (tk 9 ?_ g ?_ ?_ (tk 10 ?_ g ?_ ?_ (tk 11 ?_ g ?_ ?_ ?_)))))
   rotate_left;(·rfl);(·intro wq hSw;obtain⟨⟨c0,c1,c2,c3⟩,s0⟩:=(fJ.out.below hSw).at;obtain⟨k0,k1,k2,k3,k4,_,_⟩:=(rG.out _ (fJ.out.below hSw)).at;obtain⟨y0,y1,y2,y3,y4,y5,y6,y7,y8,y9⟩:=Rq.at y (Cs.below (gm.out.cs 0 rfl) hSw);have b1:=(Cs.below oM.out hSw).aL;go_simp;try with_reducible rfl)
   iterate 2 (rotate_left;(·rfl);(·intro wq hSw;go_simp;try with_reducible rfl))
   rotate_left;(·rfl);(·intro wq hSw;obtain⟨⟨c0,c1,c2,c3⟩,s0⟩:=(fJ.out.below hSw).at;obtain⟨k0,k1,k2,k3,k4,_,_⟩:=(rG.out _ (fJ.out.below hSw)).at;obtain⟨y0,y1,y2,y3,y4,y5,y6,y7,y8,y9⟩:=Rq.at y (Cs.below (gm.out.cs 0 rfl) hSw);have b1:=(Cs.below oM.out hSw).aL;go_simp;try with_reducible rfl)
   iterate 2 (rotate_left;(·rfl);(·intro wq hSw;go_simp;try with_reducible rfl))
   try simp only[av]
   clear g
   refine aQ (dN) (fun _ h=>h) fun g=> ?_
   refine tk 12 ?_ g ?_ ?_ (tk 13 ?_ g ?_ ?_ ?_)
   iterate 2 (rotate_left;(·rfl);(·intro wq hSw;obtain⟨⟨c0,c1,c2,c3⟩,s0⟩:=(fJ.out.below hSw).at;obtain⟨k0,k1,k2,k3,k4,_,_⟩:=(rG.out _ (fJ.out.below hSw)).at;obtain⟨y0,y1,y2,y3,y4,y5,y6,y7,y8,y9⟩:=Rq.at y (Cs.below (gm.out.cs 0 rfl) hSw);have b1:=(Cs.below oM.out hSw).aL;go_simp;try with_reducible rfl))
   try simp only[av]
   clear g
   refine iI 14 ((.tuple #[pv p, .bool ok])) (dN) (fun _ h=>h) (fun wq hSw=> ?_) ?_
   ·refine dU.aN (PW.out _ (fJ.out.below hSw)) (by go_simp) ?_
    rintro e wr ⟨rfl,hb⟩
    exact⟨rfl,hb⟩
   try simp only[av]
   refine aQ (dN) (fun _ h=>h) fun g=> ?_
   refine tk 15 ?_ g ?_ ?_ (tk 16 ?_ g ?_ ?_ (tk 17 ?_ g ?_ ?_ ?_))
   iterate 3 (rotate_left;(·rfl);(·intro wq hSw;go_simp;try with_reducible rfl))
   try simp only[av]
   clear g
   refine df (i:=18) (fun wx g=>Cs wx g [.int .u64 0, .int .u32 0, .int .u32 0]∧wz.heap.size≤g) rfl (by kernel_rfl) (by decide) (by rfl) (dN) (fun _ h=>h) (fun g=>fun _ _ h hb=>⟨h.1.below hb,h.2⟩) (fun wq hSw=> ?_) (fun gB=> ?_)
   ·exact⟨_,by go_simp;(try with_reducible rfl),(Below.refl _ _).alloc (Nat.le_refl _) _,Cs.tO _ _ _ _ _,hSw.size⟩
   try simp only[av]
   refine bB (i:=19) (fun wx=>Below wz.heap.size wz wx∧(Cs wx gB [.int .u64 p.1, .int .u32 p.2.1, .int .u32 p.2.2]∧wz.heap.size≤gB)) 55 [.int .u64 p.1, .int .u32 p.2.1, .int .u32 p.2.2] [.int .u64 0, .int .u32 0, .int .u32 0] gB zU (.tmp 9) (.tmp 43) rfl rfl (by kernel_rfl) (by decide) (by rfl) ?hz2a ?hz2b ?hz2c ?hz2d ?hz2e (fun _ h=>h.2.1) (fun _ h=>⟨aU h.2.2 _ _ h.1,Cs.bH _ 0 h.2.1 (by simp),h.2.2⟩) (fun _ h=>h.1) ((fun _ _ h hb=>⟨ai h.1 hb,h.2.1.below hb,h.2.2⟩)) ?hz2f
   case hz2a=>rfl
   case hz2b=>rfl
   case hz2c=>rfl
   case hz2d=>rfl
   case hz2e=>rfl
   try simp only[av]
   refine aQ ((fun _ _ h hb=>⟨ai h.1 hb,h.2.1.below hb,h.2.2⟩)) (fun _ h=>h.1) fun g=> ?_
   refine tk 20 ?_ g ?_ ?_ ?_
   rotate_left;(·rfl);(·intro wq hSw;go_simp;try with_reducible rfl)
   try simp only[av]
   clear g
   refine aZ (by kernel_rfl) (fun wy nZ=> ?_) _
   have kD:=hid (gm.out.add nZ.1 nZ.2.1 nZ.2.2)
   have xV:=hid (zo.out.below nZ.1)
   have LF:=hid (ai jW.out nZ.1)
   clear nZ gm fJ rG PW
   cases ok with
   |false=>
    go_wp2_with fail
    go_ret
    exact⟨8,rfl,by unfold yK;rw[qB.out,eH.out];simp[FM.out],eT.of (di.below LF.out) eG.out,fun h=>by cases h⟩
   |true=>
    have b2:=xV.out.aL
    rw[←yA.out] at b2
    go_wp2_with fail
    refine(Core.Ey n _ D s y um.out _ kD.out.1).mono ?_
    rintro e w5 ⟨rfl,hk5,IG⟩
    have pq:=hid (kD.out.op hk5 IG)
    clear hk5 IG b2 kD
    obtain⟨y0,y1,y2,y3,y4,y5,y6,y7,y8,y9⟩:=Rq.at y (pq.out.cs 0 rfl)
    obtain⟨p0,p1,p2⟩:=(pq.out.cs 1 rfl).three
    go_wp2_with fail
    refine(gX.moved y mZ.out p Qc.out _).mono ?_
    obtain⟨r,o2,hr⟩:∃r o2,y.moved p=(r,o2):=⟨_,_,rfl⟩
    have zu:Hid r.In:=hid (by have:=Rk mZ.out Qc.out;rwa [hr] at this)
    rw[hr]
    have HR:Hid (GK s y v=r):=hid (by unfold GK;rw[FM.out,hr])
    clear hr
    rintro e w6 ⟨rfl,hb⟩
    have zz:=hid ((pq.out.below hb).new 59 (.int .u64 r.a.t) [.int .u32 r.a.r, .int .u32 r.a.v, .int .i64 r.a.i, .int .u64 r.a.u, .int .u32 r.a.s, .int .u32 r.a.y, .int .u64 r.l, .int .u64 r.s, .bool r.z])
    clear hb p0 p1 p2 pq y0 y1 y2 y3 y4 y5 y6 y7 y8 y9
    dsimp only
    unfold Rq.val
    go_upto_region 11 with fail
    generalize (w6.alloc (.cells #[.int .u64 r.a.t, .int .u32 r.a.r, .int .u32 r.a.v, .int .i64 r.a.i, .int .u64 r.a.u, .int .u32 r.a.s, .int .u32 r.a.y, .int .u64 r.l, .int .u64 r.s, .bool r.z] 59))=W6 at zz⊢
    generalize w6.heap.size=g6 at zz⊢
    obtain⟨S2,q2,vY,vO,vU,t2,ho2⟩:=zz.out.1.open_
    have qj:=hid ho2
    clear ho2
    refine aA (S:=fun wx=>Below W6.heap.size W6 wx) 5 (by kernel_rfl) ((Below.refl W6.heap.size W6).drew) ?_
    refine aQ ((fun _ _ h hb=>ai h hb)) (fun _ h=>h) fun g=> ?_
    refine tk 0 ?_ g ?_ ?_ (tk 1 ?_ g ?_ ?_ (tk 2 ?_ g ?_ ?_ (tk 3 ?_ g ?_ ?_ (tk 4 ?_ g ?_ ?_ ?_))))
    iterate 3 (rotate_left;(·rfl);(·intro wq hSw;go_simp;try with_reducible rfl))
    iterate 2 (rotate_left;(·rfl);(·intro wq hSw;obtain⟨⟨c0,c1,c2,c3⟩,s0⟩:=(qj.out.below hSw).at;obtain⟨r0,r1,r2,r3,r4,r5,r6,r7,r8,r9⟩:=Rq.at r (Cs.below (zz.out.cs 2 rfl) hSw);go_simp;try with_reducible rfl))
    try simp only[av]
    clear g
    refine bP (n:=5) rfl rfl (by kernel_rfl) (fun wz hSz=> ?_)
    simp only[List.toList_toArray,List.drop_succ_cons,List.drop_zero]
    have Ul:=hid (zz.out.below hSz)
    have jQ:=hid (qj.out.below hSz)
    clear hSz
    go_wp2_with fail
    refine(Set.put S2 q2 vY vO vU s.b t2 s.l r zu.out _ jQ.out.sat).mono ?_
    rintro e w8 ⟨rfl,hs⟩
    have hks:=jQ.out.step hs
    rw[jQ.out.1.1] at hks⊢
    have hfi:=(Ul.out.op hks.1 hks.2).fin
    have gZ:=hid hfi
    clear hs hks hfi
    go_wp2_with fail
    go_ret
    exact⟨_,rfl,by unfold yK;rw[qB.out,eH.out];simp only[if_true,FM.out,HR.out];rfl,eT.of (gZ.out.2.less (by simp)) eG.out,fun _=>⟨_,[],[],none,0,none,0,⟨rfl,rfl,by rw[eH.out],by rw[eH.out,HR.out];rfl⟩,by simp,HD.out.op gZ.out.1 gZ.out.2⟩⟩
def Il (s:KS) (v lag:Int):Bool×P3:=(qM s.b s.L).place s.b v lag
def Bg (s:KS) (id v ns lag:Int):Rq:=(Rq.new (Il s v lag).2 id ns).1
def KS.Jb (s:KS) (r:Rq):KS:=⟨s.run,s.k,Eu s.b s.L r,Et s.b s.L r,vH s.b s.L s.l r⟩
def rV (s:KS) (id v ns lag:Int):Int:=if id<1 then 2 else if yJ v=false then 2 else if mK ns=false then 2 else if (dQ s.l id).2=true then 13 else if s.L.length=32 then 7 else if (Il s v lag).1=false then 8 else nP s.b s.L (Bg s id v ns lag)
def MH (s:KS) (id v ns lag:Int) (s1:KS) (gs:List Gn) (ps:List Pt):Prop:=gs=[]∧ps=[]∧s1=(s.Jb (Bg s id v ns lag)).Dk (oG (s.Jb (Bg s id v ns lag)) (Bg s id v ns lag))
theorem Dc {b:Int} {L:List It} {r:Rq} (h:nP b L r=0):r.right=true:=by
 unfold nP at h
 cases hr:r.right with
 |true=>rfl
 |false=>rw[hr] at h;exact absurd h (by simp)
theorem Core.U6 (s:KS) (id v ns lag:Int) (eU: -9223372036854775808≤id∧id≤9223372036854775807) (hv:0≤v∧v≤4294967295) (hns:eZ ns) (IB: -9223372036854775808≤lag∧lag≤9223372036854775807) (x1 x2 x3 x4:Nat) (w:World) (h1:Cs w x1 [.int .i64 id]) (h2:Cs w x2 [.int .u32 v]) (h3:Cs w x3 [.int .u64 ns]) (h4:Cs w x4 [.int .i64 lag]):FY 33 #[(.pointer (some ⟨x1,0,none⟩)),(.pointer (some ⟨x2,0,none⟩)),(.pointer (some ⟨x3,0,none⟩)),(.pointer (some ⟨x4,0,none⟩))] s [] (fun c _=>c=rV s id v ns lag) (MH s id v ns lag) w:=by
 have Dw:=hid hv
 have FR:=hid hns
 have DJ:=hid IB
 have aaN:=hid h1.lt
 obtain⟨y,th,hy⟩:∃y th,dQ s.l id=(y,th):=⟨_,_,rfl⟩
 have eH:=hid hy
 have DL:=hid eU
 intro n D T w1 hn1 hn2 hb hd
 show Calls Tryz.prog 33 #[(.pointer (some ⟨D,0,none⟩)),(.pointer (some ⟨T,0,none⟩)),(.pointer (some ⟨x1,0,none⟩)),(.pointer (some ⟨x2,0,none⟩)),(.pointer (some ⟨x3,0,none⟩)),(.pointer (some ⟨x4,0,none⟩))] w1 _
 have HD:=hid hd
 have eG:=hid hn2
 have jV:=hid hn1
 have bX:=hid (h1.below hb)
 have dK:=hid (h2.below hb)
 have o8:=hid (h3.below hb)
 have kY:=hid (h4.below hb)
 have HN:=hid (KV.of hd.2.1)
 obtain⟨S,q,mb,dm,rb,t,ho⟩:=hd.2.1.open_
 have HO:=hid (show KO n (T::(rowOf none++rowOf none)) D s w1 S q mb dm rb t from ho)
 clear ho hd hb hn1 hn2
 have l8:Hid (∀wx,KO n (T::(rowOf none++rowOf none)) D s wx S q mb dm rb t→Calls Tryz.prog 36 #[.pointer (some ⟨S,0,none⟩), .int .i64 id] wx (aV (.tuple #[y.val, .bool th]) wx)):=hid (fun wx h=>by have:=Set.KP S q rb s.l id eU h.sat.2.1.2.2 wx h.sat.1.2;rwa [hy] at this)
 clear h1 h2 h3 h4 hy eU
 go_enter Tryz.func33,Tryz.ntmps33
 clear hv hns IB
 have a0:=bX.out.aL
 have a1:=dK.out.aL
 have a2:=o8.out.aL
 by_cases hi1:id<1
 ·have HI1:=hid hi1
  go_wp2_with fail
  go_ret
  exact⟨2,rfl,by unfold rV;rw[if_pos HI1.out],eT.of (di.refl _ _ _) eG.out,fun h=>by cases h⟩
 ·have HI1:=hid hi1
  go_wp2_with fail
  refine(Core.Ag v _).mono ?_
  rintro e w2 ⟨rfl,hb⟩
  have HB2:=hid hb
  replace o8:=hid (o8.out.below hb)
  clear hb a0 a1 a2
  have a2:=o8.out.aL
  cases hsw:yJ v with
  |false=>
   have Ap:=hid hsw
   clear hsw
   go_wp2_with fail
   go_ret
   exact⟨2,rfl,by unfold rV;rw[if_neg (by have:=HI1.out;omega),if_pos Ap.out],eT.of (di.below HB2.out) eG.out,fun h=>by cases h⟩
  |true=>
   have Ap:=hid hsw
   clear hsw
   go_wp2_with fail
   refine(Core.Cc ns _).mono ?_
   rintro e w3 ⟨rfl,hb⟩
   have HB3:=hid (ai HB2.out hb)
   replace o8:=hid (o8.out.below hb)
   clear hb a2 HB2
   cases hsl:mK ns with
   |false=>
    have qB:=hid hsl
    clear hsl
    go_wp2_with fail
    go_ret
    exact⟨2,rfl,by unfold rV;rw[if_neg (by have:=HI1.out;omega),Ap.out,qB.out];rfl,eT.of (di.below HB3.out) eG.out,fun h=>by cases h⟩
   |true=>
    have qB:=hid hsl
    replace HO:=hid (HO.out.below HB3.out)
    replace HN:=hid (HN.out.below HB3.out)
    replace bX:=hid (bX.out.below HB3.out)
    replace dK:=hid (dK.out.below HB3.out)
    replace kY:=hid (kY.out.below HB3.out)
    clear hsl hi1
    go_upto_region 3 with fail
    have aB:aF (fun wx=>Below w3.heap.size w3 wx):=fun _ _ h hb=>ai h hb
    refine aA (S:=fun wx=>Below w3.heap.size w3 wx) 12 (by kernel_rfl) (aB _ _ ((Below.refl w3.heap.size w3)) (Below.refl _ _).drew) ?_
    refine aQ (aB) (fun _ h=>h) fun g=> ?_
    refine tk 0 ?_ g ?_ ?_ (tk 1 ?_ g ?_ ?_ (tk 2 ?_ g ?_ ?_ (tk 3 ?_ g ?_ ?_ (tk 4 ?_ g ?_ ?_ ?_))))
    iterate 3 (rotate_left;(·rfl);(·intro wq hSw;go_simp;try with_reducible rfl))
    iterate 2 (rotate_left;(·rfl);(·intro wq hSw;obtain⟨⟨c0,c1,c2,c3⟩,s0⟩:=(HO.out.below hSw).at;have b0:=(Cs.below bX.out hSw).aL;go_simp;try with_reducible rfl))
    try simp only[av]
    clear g
    refine iI 5 ((.tuple #[y.val, .bool th])) (aB) (fun _ h=>h) (fun wq hSw=> ?_) ?_
    ·refine dU.aN (l8.out _ (HO.out.below hSw)) (by go_simp) ?_
     rintro e wr ⟨rfl,hb⟩
     exact⟨rfl,hb⟩
    try simp only[av]
    refine aQ (aB) (fun _ h=>h) fun g=> ?_
    refine tk 6 ?_ g ?_ ?_ (tk 7 ?_ g ?_ ?_ (tk 8 ?_ g ?_ ?_ ?_))
    iterate 3 (rotate_left;(·rfl);(·intro wq hSw;go_simp;try with_reducible rfl))
    try simp only[av]
    clear g
    refine df (i:=9) (fun wx g=>Cs wx g Rq.no.cells∧w3.heap.size≤g) rfl (by kernel_rfl) (by decide) (by rfl) (aB) (fun _ h=>h) (fun g=>fun _ _ h hb=>⟨h.1.below hb,h.2⟩) (fun wq hSw=> ?_) (fun gA=> ?_)
    ·exact⟨_,by go_simp;(try with_reducible rfl),(Below.refl _ _).alloc (Nat.le_refl _) _,Rq.gM _ _ Rq.no,hSw.size⟩
    try simp only[av]
    refine bB (i:=10) (fun wx=>Below w3.heap.size w3 wx∧(Cs wx gA y.cells∧w3.heap.size≤gA)) 59 y.cells Rq.no.cells gA jr (.tmp 9) (.tmp 35) rfl rfl (by kernel_rfl) (by decide) (by rfl) ?hz1a ?hz1b ?hz1c ?hz1d ?hz1e (fun _ h=>h.2.1) (fun _ h=>⟨aU h.2.2 _ _ h.1,Cs.bH _ 0 h.2.1 (by simp[Rq.cells]),h.2.2⟩) (fun _ h=>h.1) ((fun _ _ h hb=>⟨ai h.1 hb,h.2.1.below hb,h.2.2⟩)) ?hz1f
    case hz1a=>rfl
    case hz1b=>rfl
    case hz1c=>rfl
    case hz1d=>rfl
    case hz1e=>rfl
    try simp only[av]
    refine aQ ((fun _ _ h hb=>⟨ai h.1 hb,h.2.1.below hb,h.2.2⟩)) (fun _ h=>h.1) fun g=> ?_
    refine tk 11 ?_ g ?_ ?_ ?_
    rotate_left;(·rfl);(·intro wq hSw;go_simp;try with_reducible rfl)
    try simp only[av]
    clear g
    refine aZ (by kernel_rfl) (fun wz hSz=> ?_) _
    have gm:=hid (HN.out.add hSz.1 hSz.2.1 hSz.2.2)
    replace bX:=hid (bX.out.below hSz.1)
    replace dK:=hid (dK.out.below hSz.1)
    replace o8:=hid (o8.out.below hSz.1)
    replace kY:=hid (kY.out.below hSz.1)
    have fJ:=hid (HO.out.below hSz.1)
    have jW:=hid (ai HB3.out hSz.1)
    clear hSz l8 HN HO HB3
    cases th with
    |true=>
     go_wp2_with fail
     go_ret
     exact⟨13,rfl,by unfold rV;rw[if_neg (by have:=HI1.out;omega),Ap.out,qB.out,eH.out];rfl,eT.of (di.below jW.out) eG.out,fun h=>by cases h⟩
    |false=>
     obtain⟨m,hm⟩:∃m,m=qM s.b s.L:=⟨_,rfl⟩
     have rG:Hid (∀wx,KO n (T::(rowOf none++rowOf none)) D s wx S q mb dm rb t→bQ wx q mb dm m t):=hid (fun wx h=>by rw[hm];exact h.EX)
     obtain⟨ok,p,hp⟩:∃ok p,Il s v lag=(ok,p):=⟨_,_,rfl⟩
     have FM:=hid hp
     have Qc:Hid (dJ p):=hid (by have:=Rb (qM s.b s.L) s.b lag Dw.out.1 Dw.out.2;unfold Il at hp;rwa [hp] at this)
     have PW:Hid (∀wx,KO n (T::(rowOf none++rowOf none)) D s wx S q mb dm rb t→Calls Tryz.prog 38 #[m.val, .int .u64 m.b, .int .u32 v, .int .i64 lag] wx (aV (.tuple #[pv p, .bool ok]) wx)):=hid (fun wx h=>by have:=Place.place m m.b v lag (rG.out wx h).2.2.1 Dw.out.1 Dw.out.2 DJ.out.1 DJ.out.2 wx;unfold Il at hp;rw[←hm,show s.b=m.b by rw[hm];rfl] at hp;rwa [hp] at this)
     have HNW:Hid (∀wx,KO n (T::(rowOf none++rowOf none)) D s wx S q mb dm rb t→Calls Tryz.prog 11 #[.pointer (some ⟨q,0,none⟩)] wx (aV (.int .u64 m.b) wx)):=hid (fun wx h=>Queue.now q mb dm m t wx (rG.out wx h))
     clear hm hp
     obtain⟨⟨c0,c1,c2,c3⟩,s0⟩:=fJ.out.at
     go_wp2_with fail
     refine(Queue.len q mb dm m t _ (rG.out _ fJ.out)).mono ?_
     rintro e w5 ⟨rfl,hb⟩
     have kE:=hid fJ.out.1.1
     replace bX:=hid (bX.out.below hb)
     replace dK:=hid (dK.out.below hb)
     replace o8:=hid (o8.out.below hb)
     replace kY:=hid (kY.out.below hb)
     replace fJ:=hid (fJ.out.below hb)
     replace gm:=hid (gm.out.below hb)
     replace jW:=hid (ai jW.out hb)
     clear hb c0 c1 c2 c3 s0
     by_cases h32:t.list.length=32
     ·have e32:((t.list.length:Int) == 32)=true:=by rw[h32];rfl
      have zJ:=hid h32
      clear h32
      go_wp2_with fail
      go_ret
      exact⟨7,rfl,by unfold rV;rw[if_neg (by have:=HI1.out;omega),Ap.out,qB.out,eH.out];rw[←kE.out,zJ.out];rfl,eT.of (di.below jW.out) eG.out,fun h=>by cases h⟩
     ·have e32:((t.list.length:Int) == 32)=false:=by rw[beq_eq_false_iff_ne];omega
      have zJ:Hid (s.L.length≠32):=hid (by rw[←kE.out];exact h32)
      clear h32
      go_upto_region 8 with fail
      clear e32
      have dN:aF (fun wx=>Below w5.heap.size w5 wx):=fun _ _ h hb=>ai h hb
      refine aA (S:=fun wx=>Below w5.heap.size w5 wx) 27 (by kernel_rfl) (dN _ _ ((Below.refl w5.heap.size w5)) (Below.refl _ _).drew) ?_
      refine aQ (dN) (fun _ h=>h) fun g=> ?_
      refine tk 0 ?_ g ?_ ?_ (tk 1 ?_ g ?_ ?_ (tk 2 ?_ g ?_ ?_ (tk 3 ?_ g ?_ ?_ (tk 4 ?_ g ?_ ?_ (tk 5 ?_ g ?_ ?_ ?_)))))
      iterate 3 (rotate_left;(·rfl);(·intro wq hSw;go_simp;try with_reducible rfl))
      rotate_left;(·rfl);(·intro wq hSw;obtain⟨⟨c0,c1,c2,c3⟩,s0⟩:=(fJ.out.below hSw).at;obtain⟨k0,k1,k2,k3,k4,_,_⟩:=(rG.out _ (fJ.out.below hSw)).at;have b1:=(Cs.below dK.out hSw).aL;have b2:=(Cs.below kY.out hSw).aL;go_simp;try with_reducible rfl)
      iterate 2 (rotate_left;(·rfl);(·intro wq hSw;go_simp;try with_reducible rfl))
      try simp only[av]
      clear g
      refine aQ (dN) (fun _ h=>h) fun g=> ?_
      refine tk 6 ?_ g ?_ ?_ (tk 7 ?_ g ?_ ?_ (tk 8 ?_ g ?_ ?_ (tk 9 ?_ g ?_ ?_ (tk 10 ?_ g ?_ ?_ (tk 11 ?_ g ?_ ?_ ?_)))))
      rotate_left;(·rfl);(·intro wq hSw;obtain⟨⟨c0,c1,c2,c3⟩,s0⟩:=(fJ.out.below hSw).at;obtain⟨k0,k1,k2,k3,k4,_,_⟩:=(rG.out _ (fJ.out.below hSw)).at;have b1:=(Cs.below dK.out hSw).aL;have b2:=(Cs.below kY.out hSw).aL;go_simp;try with_reducible rfl)
      iterate 2 (rotate_left;(·rfl);(·intro wq hSw;go_simp;try with_reducible rfl))
      rotate_left;(·rfl);(·intro wq hSw;obtain⟨⟨c0,c1,c2,c3⟩,s0⟩:=(fJ.out.below hSw).at;obtain⟨k0,k1,k2,k3,k4,_,_⟩:=(rG.out _ (fJ.out.below hSw)).at;have b1:=(Cs.below dK.out hSw).aL;have b2:=(Cs.below kY.out hSw).aL;go_simp;try with_reducible rfl)
      iterate 2 (rotate_left;(·rfl);(·intro wq hSw;go_simp;try with_reducible rfl))
      try simp only[av]
      clear g
      refine aQ (dN) (fun _ h=>h) fun g=> ?_
      refine tk 12 ?_ g ?_ ?_ (tk 13 ?_ g ?_ ?_ (tk 14 ?_ g ?_ ?_ (tk 15 ?_ g ?_ ?_ (tk 16 ?_ g ?_ ?_ ?_))))
      rotate_left;(·rfl);(·intro wq hSw;go_simp;try with_reducible rfl)
      rotate_left;(·rfl);(·intro wq hSw;obtain⟨⟨c0,c1,c2,c3⟩,s0⟩:=(fJ.out.below hSw).at;obtain⟨k0,k1,k2,k3,k4,_,_⟩:=(rG.out _ (fJ.out.below hSw)).at;have b1:=(Cs.below dK.out hSw).aL;have b2:=(Cs.below kY.out hSw).aL;go_simp;try with_reducible rfl)
      iterate 2 (rotate_left;(·rfl);(·intro wq hSw;go_simp;try with_reducible rfl))
      rotate_left;(·rfl);(·intro wq hSw;obtain⟨⟨c0,c1,c2,c3⟩,s0⟩:=(fJ.out.below hSw).at;obtain⟨k0,k1,k2,k3,k4,_,_⟩:=(rG.out _ (fJ.out.below hSw)).at;have b1:=(Cs.below dK.out hSw).aL;have b2:=(Cs.below kY.out hSw).aL;go_simp;try with_reducible rfl)
      try simp only[av]
      clear g
      refine iI 17 ((.int .u64 m.b)) (dN) (fun _ h=>h) (fun wq hSw=> ?_) ?_
      ·refine dU.aN (HNW.out _ (fJ.out.below hSw)) (by go_simp) ?_
       rintro e wr ⟨rfl,hb⟩
       exact⟨rfl,hb⟩
      try simp only[av]
      refine aQ (dN) (fun _ h=>h) fun g=> ?_
      refine tk 18 ?_ g ?_ ?_ (tk 19 ?_ g ?_ ?_ ?_)
      iterate 2 (rotate_left;(·rfl);(·intro wq hSw;obtain⟨⟨c0,c1,c2,c3⟩,s0⟩:=(fJ.out.below hSw).at;obtain⟨k0,k1,k2,k3,k4,_,_⟩:=(rG.out _ (fJ.out.below hSw)).at;have b1:=(Cs.below dK.out hSw).aL;have b2:=(Cs.below kY.out hSw).aL;go_simp;try with_reducible rfl))
      try simp only[av]
      clear g
      refine iI 20 ((.tuple #[pv p, .bool ok])) (dN) (fun _ h=>h) (fun wq hSw=> ?_) ?_
      ·refine dU.aN (PW.out _ (fJ.out.below hSw)) (by go_simp) ?_
       rintro e wr ⟨rfl,hb⟩
       exact⟨rfl,hb⟩
      try simp only[av]
      refine aQ (dN) (fun _ h=>h) fun g=> ?_
      refine tk 21 ?_ g ?_ ?_ (tk 22 ?_ g ?_ ?_ (tk 23 ?_ g ?_ ?_ ?_))
      iterate 3 (rotate_left;(·rfl);(·intro wq hSw;go_simp;try with_reducible rfl))
      try simp only[av]
      clear g
      refine df (i:=24) (fun wx g=>Cs wx g [.int .u64 0, .int .u32 0, .int .u32 0]∧w5.heap.size≤g) rfl (by kernel_rfl) (by decide) (by rfl) (dN) (fun _ h=>h) (fun g=>fun _ _ h hb=>⟨h.1.below hb,h.2⟩) (fun wq hSw=> ?_) (fun gB=> ?_)
      ·exact⟨_,by go_simp;(try with_reducible rfl),(Below.refl _ _).alloc (Nat.le_refl _) _,Cs.tO _ _ _ _ _,hSw.size⟩
      try simp only[av]
      refine bB (i:=25) (fun wx=>Below w5.heap.size w5 wx∧(Cs wx gB [.int .u64 p.1, .int .u32 p.2.1, .int .u32 p.2.2]∧w5.heap.size≤gB)) 55 [.int .u64 p.1, .int .u32 p.2.1, .int .u32 p.2.2] [.int .u64 0, .int .u32 0, .int .u32 0] gB zU (.tmp 11) (.tmp 69) rfl rfl (by kernel_rfl) (by decide) (by rfl) ?hz2a ?hz2b ?hz2c ?hz2d ?hz2e (fun _ h=>h.2.1) (fun _ h=>⟨aU h.2.2 _ _ h.1,Cs.bH _ 0 h.2.1 (by simp),h.2.2⟩) (fun _ h=>h.1) ((fun _ _ h hb=>⟨ai h.1 hb,h.2.1.below hb,h.2.2⟩)) ?hz2f
      case hz2a=>rfl
      case hz2b=>rfl
      case hz2c=>rfl
      case hz2d=>rfl
      case hz2e=>rfl
      try simp only[av]
      refine aQ ((fun _ _ h hb=>⟨ai h.1 hb,h.2.1.below hb,h.2.2⟩)) (fun _ h=>h.1) fun g=> ?_
      refine tk 26 ?_ g ?_ ?_ ?_
      rotate_left;(·rfl);(·intro wq hSw;go_simp;try with_reducible rfl)
      try simp only[av]
      clear g
      refine aZ (by kernel_rfl) (fun wy nZ=> ?_) _
      have kD:=hid (gm.out.add nZ.1 nZ.2.1 nZ.2.2)
      replace bX:=hid (bX.out.below nZ.1)
      replace o8:=hid (o8.out.below nZ.1)
      have LF:=hid (ai jW.out nZ.1)
      clear nZ gm fJ rG PW HNW dK kY
      cases ok with
      |false=>
       go_wp2_with fail
       go_ret
       exact⟨8,rfl,by unfold rV;rw[if_neg (by have:=HI1.out;omega),Ap.out,qB.out,eH.out];rw[if_neg (by simp),if_neg (by simp),if_neg (by simp),if_neg zJ.out,FM.out];rfl,eT.of (di.below LF.out) eG.out,fun h=>by cases h⟩
      |true=>
       have b1:=bX.out.aL
       have b2:=o8.out.aL
       obtain⟨p0,p1,p2⟩:=(kD.out.cs 1 rfl).three
       go_wp2_with fail
       refine(gX.new p Qc.out id ns DL.out FR.out _).mono ?_
       obtain⟨r,o2,hr⟩:∃r o2,Rq.new p id ns=(r,o2):=⟨_,_,rfl⟩
       have zu:Hid r.In:=hid (by have:=UU Qc.out DL.out FR.out;rwa [hr] at this)
       have Dz:Hid (r.right=true→r.a.i=id):=hid (fun h=>by have:=V8 (p:=p) (id:=id) (n:=ns);rw[hr] at this;exact this h)
       rw[hr]
       have HR:Hid (Bg s id v ns lag=r):=hid (by unfold Bg;rw[FM.out,hr])
       clear hr
       rintro e w6 ⟨rfl,hb⟩
       replace bX:=hid (bX.out.below hb)
       have zz:=hid ((kD.out.below hb).new 59 (.int .u64 r.a.t) [.int .u32 r.a.r, .int .u32 r.a.v, .int .i64 r.a.i, .int .u64 r.a.u, .int .u32 r.a.s, .int .u32 r.a.y, .int .u64 r.l, .int .u64 r.s, .bool r.z])
       replace bX:=hid (bX.out.below ((Below.refl w6.heap.size w6).alloc (Nat.le_refl _) (.cells #[.int .u64 r.a.t, .int .u32 r.a.r, .int .u32 r.a.v, .int .i64 r.a.i, .int .u64 r.a.u, .int .u32 r.a.s, .int .u32 r.a.y, .int .u64 r.l, .int .u64 r.s, .bool r.z] 59)))
       clear hb p0 p1 p2 b1 b2 kD
       dsimp only
       unfold Rq.val
       go_upto_region 12 with fail
       generalize (w6.alloc (.cells #[.int .u64 r.a.t, .int .u32 r.a.r, .int .u32 r.a.v, .int .i64 r.a.i, .int .u64 r.a.u, .int .u32 r.a.s, .int .u32 r.a.y, .int .u64 r.l, .int .u64 r.s, .bool r.z] 59))=W6 at zz bX⊢
       generalize w6.heap.size=g6 at zz⊢
       obtain⟨S2,q2,vY,vO,vU,t2,ho2⟩:=zz.out.1.open_
       have qj:=hid ho2
       clear ho2
       refine aA (S:=fun wx=>Below W6.heap.size W6 wx) 5 (by kernel_rfl) ((Below.refl W6.heap.size W6).drew) ?_
       refine aQ ((fun _ _ h hb=>ai h hb)) (fun _ h=>h) fun g=> ?_
       refine tk 0 ?_ g ?_ ?_ (tk 1 ?_ g ?_ ?_ (tk 2 ?_ g ?_ ?_ (tk 3 ?_ g ?_ ?_ (tk 4 ?_ g ?_ ?_ ?_))))
       iterate 3 (rotate_left;(·rfl);(·intro wq hSw;go_simp;try with_reducible rfl))
       iterate 2 (rotate_left;(·rfl);(·intro wq hSw;obtain⟨⟨c0,c1,c2,c3⟩,s0⟩:=(qj.out.below hSw).at;obtain⟨r0,r1,r2,r3,r4,r5,r6,r7,r8,r9⟩:=Rq.at r (Cs.below (zz.out.cs 2 rfl) hSw);go_simp;try with_reducible rfl))
       try simp only[av]
       clear g
       refine bP (n:=5) rfl rfl (by kernel_rfl) (fun wz hSz=> ?_)
       simp only[List.toList_toArray,List.drop_succ_cons,List.drop_zero]
       have Ul:=hid (zz.out.below hSz)
       have jQ:=hid (qj.out.below hSz)
       replace bX:=hid (bX.out.below hSz)
       have HXL:Hid (x1<n):=hid (by have:=aaN.out;have:=jV.out;omega)
       clear hSz
       go_wp2_with fail
       refine(Set.enter S2 q2 vY vO vU s.b t2 s.l r zu.out _ jQ.out.sat).mono ?_
       rintro e w8 ⟨rfl,hs⟩
       have hks:=jQ.out.step hs
       rw[jQ.out.1.1] at hks⊢
       have Yv:=hid (Ul.out.op hks.1 hks.2)
       replace bX:=hid (bX.out.uP hks.2 (Or.inl HXL.out))
       clear hs hks Ul jQ
       by_cases hen:nP s.b s.L r=0
       ·have DN:=hid hen
        rw[hen]
        have HMR:Hid (r∈(s.Jb r).l):=hid (by show r∈vH s.b s.L s.l r;unfold vH;rw[if_pos hen];simp)
        have HRE:=hid (Dz.out (Dc hen))
        clear hen
        have b1:=bX.out.aL
        rw[←HRE.out] at b1
        go_wp2_with fail
        refine(Core.Ey n _ D (s.Jb r) r HMR.out _ Yv.out.1).mono ?_
        rintro e w9 ⟨rfl,TA,K5⟩
        have hfi:=(Yv.out.op TA K5).fin
        have gZ:=hid hfi
        clear TA K5 hfi b1
        go_wp2_with fail
        go_ret
        exact⟨0,rfl,by unfold rV;rw[if_neg (by have:=HI1.out;omega),Ap.out,qB.out,eH.out];rw[if_neg (by simp),if_neg (by simp),if_neg (by simp),if_neg zJ.out,FM.out];rw[if_neg (by simp),HR.out,DN.out],eT.of (gZ.out.2.less (by simp)) eG.out,fun _=>⟨_,[],[],none,0,none,0,⟨rfl,rfl,by rw[HR.out]⟩,by simp,HD.out.op gZ.out.1 gZ.out.2⟩⟩
       ·have hne:(nP s.b s.L r == 0)=false:=by simpa using hen
        have DN:=hid hen
        have hfi:=Yv.out.fin
        have gZ:=hid hfi
        obtain⟨ec,WW⟩:∃ec,ec=nP s.b s.L r:=⟨_,rfl⟩
        have Un:=hid WW
        rw[←WW] at hne⊢
        clear hen hfi WW
        go_wp2_with fail
        go_ret
        exact⟨ec,rfl,by unfold rV;rw[if_neg (by have:=HI1.out;omega),Ap.out,qB.out,eH.out];rw[if_neg (by simp),if_neg (by simp),if_neg (by simp),if_neg zJ.out,FM.out];rw[if_neg (by simp),HR.out,Un.out],eT.of (gZ.out.2.less (by simp)) eG.out,fun h=>absurd (Un.out.symm.trans h) DN.out⟩
end


section
open Go.RowKit
section
variable {α:Type} {enc:α→List Value} {k:Nat} {T:TypeId}
theorem F5 {P:Program} {ops:Array Oper} {o:Oper} {a:Act} {K:Act→World→Prop} {Q:Exit→Act→World→Prop} {E0:Prop} (w:World) (hgd:o.guard=none) (s x:Operand) (TS:TypeId)
  (ho:o.op= .call {callee:= .builtin .append,args:= #[s,x],argTypes:= #[TS,TS]}) (hk:∀x,(enc x).length=k) (h0:0<k) (h1:∀x,∀v∈enc x,v.oneCell'=true)
  (bytes:Nat) (Fx:P.underlying TS=some (.slice T)) (hi:(P.info? T).map (fun i=>(i.zero.map (·.cells.size),i.size,i.bytes))=some (some k,k,bytes)) (hby:bytes≤100)
  (base:Nat) (A:Option Addr) (n c:Nat) (l:List α) (hs:a.eval s= .slice A n c) (hown:bO enc k T w base A n c l) (b:Nat) (d:α) (hx:a.eval x= .slice (some ⟨b,0,none⟩) 1 1)
  (hcell:w.rangeAt b 0 (enc d)) (hn:n≤1000000) (hbase:base≤w.heap.size)
  (h:∀A' c' w',bO enc k T w' base A' (n+1) c' (l++[d])→ax (rowOf A) w w'→(∀j∈rowOf A',j∈rowOf A∨w.heap.size≤j)→K (a.put o.dst (.slice A' (n+1) c')) w'):
  if Region.wanted o (yielded ops a.tmps)=true then Oper.wp P o a w K Q else E0:=by
 obtain⟨i0,z0,hi0,hz0,hz1,hz2,hz3⟩:∃i0 z0,P.info? T=some i0∧i0.zero=some z0∧z0.cells.size=k∧i0.size=k∧i0.bytes=bytes:=by
  cases hi':P.info? T with
  |none=>rw[hi'] at hi;cases hi
  |some i=>
   rw[hi'] at hi
   simp only[Option.map_some,Option.some.injEq,Prod.mk.injEq] at hi
   obtain⟨e1,e2,e3⟩:=hi
   cases hz:i.zero with
   |none=>rw[hz] at e1;cases e1
   |some z=>
    rw[hz] at e1
    simp only[Option.map_some,Option.some.injEq] at e1
    exact⟨i,z,rfl,hz,e1,e2,e3⟩
 refine step_append_lies w hgd s x TS ho base T i0 z0 k bytes Fx hi0 hz0 hz2 hz3 hz1 h0 (.slice A n c) n (l.flatMap enc) hs hown
  ⟨b,0,none⟩ 1 1 (enc d) hx (by rw[hk,Nat.one_mul]) ?_ (h1 d) (by decide) (by unfold maxLen;omega) ?_ hbase _ rfl ?_
 ·intro j u hj
  rw[Addr.add_mid]
  exact hcell j u hj
 ·have:=Nat.mul_le_mul (show n+1≤1000001 by omega) hby
  omega
 ·intro g cap w' h2 h3 h4 _
  refine h _ _ w' (by unfold bO;simpa using h2) (ax.grown h3) (fun j hj=> ?_)
  simp[rowOf] at hj
  subst hj
  rcases h4 with h4|h4
  ·exact Or.inl (sV h4)
  ·right;omega
variable {P:Program} {ops:Array Oper} {Q:Exit→Act→World→Prop} {md:Region.Mode} {S0:World→Prop} {S:World→Prop}
theorem BN {t i:Nat} {oi:Oper} {fuel:Nat} {listed:Array Bool} {a:Act} (hi:ops[i]?=some oi) (hr:Region.ready md ops listed=[i]) (hin:i<t) (hw:Region.wanted oi (yielded ops a.tmps)=true) (hgd:oi.guard=none) (s x:Operand) (TS:TypeId)
  (ho:oi.op= .call {callee:= .builtin .append,args:= #[s,x],argTypes:= #[TS,TS]}) (hk:∀x,(enc x).length=k) (h0:0<k) (h1:∀x,∀v∈enc x,v.oneCell'=true)
  (bytes:Nat) (Fx:P.underlying TS=some (.slice T)) (hif:(P.info? T).map (fun i=>(i.zero.map (·.cells.size),i.size,i.bytes))=some (some k,k,bytes)) (hby:bytes≤100)
  (base:Nat) (A:Option Addr) (n c:Nat) (l:List α) (b:Nat) (d:α) (hn:n≤1000000) (hown:∀w,S w→bO enc k T w base A n c l∧w.rangeAt b 0 (enc d)∧base≤w.heap.size)
  (S':Option Addr→Nat→World→Prop) (hS:∀w w' A' c',S w→bO enc k T w' base A' (n+1) c' (l++[d])→ax (rowOf A) w w'→(∀j∈rowOf A',j∈rowOf A∨w.heap.size≤j)→S' A' c' w')
  (hsub:∀A' c' w,S' A' c' w→S0 w) (hst:∀A' c',aF (S' A' c')) (hs:a.eval s= .slice A n c) (hx:a.eval x= .slice (some ⟨b,0,none⟩) 1 1)
  (h:∀A' c',bT P md ops Q S0 t fuel (S' A' c') (listed.setIfInBounds i true) (a.put oi.dst (.slice A' (n+1) c'))):bT P md ops Q S0 t (fuel+1) S listed a:=
 lv hi hr hin hw (fun w hSw K hK=>by
  obtain⟨h2,h3,h4⟩:=hown w hSw
  have:=F5 (ops:=ops) (a:=a) (K:=K) (Q:=Q) (E0:=False) w hgd s x TS ho hk h0 h1 bytes Fx hif hby base A n c l hs h2 b d hx h3 hn h4 (fun A' c' w' g1 g2 g3=>hK.out _ _ (S' A' c') (hsub A' c') (hst A' c') (hS w w' A' c' hSw g1 g2 g3) (h A' c'))
  rwa [if_pos hw] at this)
end
def Jw (s:KS):Prop:=s.run=0∨∃y∈s.l,y.a.i=s.run
theorem nT.ZP {s s':KS} {gs:List Gn} {B:Nat} {F:List Nat} {D:Nat} {w:World} (h:nT s gs s') (hk:KB B F D s' w):Jw s':=by
 obtain⟨t1,ts,ht,_,_,hr,_⟩:=h
 obtain⟨S,q,mb,th,rb,t,ho⟩:=hk.open_
 have hq:fZ s'.b t1.list:=by rw[ht,←ho.1.1];exact ho.sat.2.1.1.1
 obtain⟨x,hx,hx0,hx1⟩:=C8 hq.fw hq.EM
 have e:s'.run=x.i:=by rw[hr];unfold xL;rw[hx]
 by_cases h0:0<t1.list.length
 ·right
  have hm:=(List.mem_filter.1 (hx1 h0).1).1
  rw[ht,←ho.1.1] at hm
  obtain⟨y,hy,rfl⟩:=List.mem_map.1 (ho.sat.2.1.2.1.mem_iff.2 hm)
  exact⟨y,hy,e.symm⟩
 ·left
  rw[e,hx0 (by omega)]
inductive qA (s0:KS) (ns:Int):KS→Int→List Gn→List Pt→Prop
 |nil:qA s0 ns s0 ns [] []
 |snoc {s s':KS} {left:Int} {gs g2:List Gn} {ps:List Pt} {y:Rq}:qA s0 ns s left gs ps→0<left→s.run≠0→y∈s.l→y.a.i=s.run→gP s.b s.L (ik y left)=0→nT (s.put (ik y left)) g2 s'→qA s0 ns s' (left-(qG y left).n) (gs++g2) (ps++[qG y left])
def GU (s:KS) (ns code:Int):Prop:=(¬(1≤ns∧ns≤1099511627776)∧code=2)∨((1≤ns∧ns≤1099511627776)∧(code=0∨∃s1 left gs ps y,qA s ns s1 left gs ps∧(0<left∧s1.run≠0∧y∈s1.l∧y.a.i=s1.run)∧code=gP s1.b s1.L (ik y left)∧code≠0))
def LZ (s:KS) (ns:Int) (s1:KS) (gs:List Gn) (ps:List Pt):Prop:=(1≤ns∧ns≤1099511627776)∧∃left,qA s ns s1 left gs ps∧(left=0∨s1.run=0)
theorem UF {b:Int} {L:List It} {y:Rq} {left:Int} (h:gP b L (ik y left)=0):1≤(qG y left).n∧(qG y left).n≤left:=by
 have hr:(ik y left).right=true:=by
  unfold gP at h
  cases hr:(ik y left).right with
  |true=>rfl
  |false=>rw[hr] at h;exact absurd h (by simp)
 unfold ik Rq.serve at hr
 split at hr
 ·rename_i hs
  unfold Rq.sM at hs
  simp only[Bool.and_eq_true,decide_eq_true_eq] at hs
  exact⟨hs.2.1,by unfold qG nN;simp only;omega⟩
 ·exact absurd hr (by decide)
def TkI (n D T:Nat) (s:KS) (ns:Int) (w1:World) (left:Int) (s1:KS) (gs:List Gn) (ps:List Pt) (A:Option Addr) (c:Nat) (E:Option Addr) (e:Nat) (wr:World):Prop:=(0≤left∧left≤1099511627776)∧(qA s ns s1 left gs ps∧Jw s1)∧DW n D T s1 gs ps A c E e wr∧di n [] w1 wr
def TkP (n D T:Nat) (s1:KS) (gs:List Gn) (ps:List Pt) (p:Pt) (A:Option Addr) (c:Nat) (E:Option Addr) (e:Nat) (W3:World) (g7:Nat) (E':Option Addr) (e':Nat) (wx:World):Prop:=∃w6,Below W3.heap.size W3 w6∧DW n D T s1 gs ps A c E e w6∧bO Pt.cells 3 68 wx n E' (ps.length+1) e' (ps++[p])∧ax (rowOf E) w6 wx∧(∀j∈rowOf E',j∈rowOf E∨w6.heap.size≤j)
set_option maxRecDepth 100000 in
set_option maxHeartbeats 8000000 in
theorem Core.UC (s:KS) (ns:Int) (hns:eZ ns) (Fq:Jw s) (hM:(1≤ns∧ns≤1099511627776)→∀s' left gs ps,qA s ns s' left gs ps→gs.length≤900∧ps.length≤900000) (x1:Nat) (w:World) (h1:Cs w x1 [.int .u64 ns]):FY 42 #[(.pointer (some ⟨x1,0,none⟩))] s [] (fun c _=>GU s ns c) (LZ s ns) w:=by
 intro n D T w1 hn1 hn2 hb hd
 show Calls Tryz.prog 42 #[(.pointer (some ⟨D,0,none⟩)),(.pointer (some ⟨T,0,none⟩)),(.pointer (some ⟨x1,0,none⟩))] w1 _
 have HD:=hid hd
 have eG:=hid hn2
 have zA:=hid hM
 have P9:=hid Fq
 have FR:=hid hns
 have a0:=(h1.below hb).aL
 clear hd hn1 hn2 hM Fq hns h1 hb
 go_enter Tryz.func42,Tryz.ntmps42
 by_cases hlo:ns<1
 ·have HLO:=hid hlo
  go_wp2_with fail
  go_ret
  exact⟨2,rfl,Or.inl ⟨fun h=>by have:=HLO.out;omega,rfl⟩,eT.of (di.refl _ _ _) eG.out,fun h=>by cases h⟩
 by_cases hhi:1099511627776<ns
 ·have HHI:=hid hhi
  have hhi2:ns>1099511627776:=hhi
  go_wp2_with fail
  go_ret
  exact⟨2,rfl,Or.inl ⟨fun h=>by have:=HHI.out;omega,rfl⟩,eT.of (di.refl _ _ _) eG.out,fun h=>by cases h⟩
 have jV:Hid (1≤ns∧ns≤1099511627776):=hid (by omega)
 go_wp2_with fail
 clear a0
 go_loopg [6] ns.toNat (fun m v wr=>∃left s1 gs ps A c E e,v= .int .u64 left∧m=left.toNat∧TkI n D T s ns w1 left s1 gs ps A c E e wr)
 case atStart=>exact⟨ns,s,[],[],none,0,none,0,rfl,rfl,by have:=jV.out;omega,⟨.nil,P9.out⟩,HD.out,di.refl _ _ _⟩
 case round=>
  obtain⟨left,s1,gs,ps,A,c,E,e,rfl,hm,hi⟩:=hrel
  have HM:=hid hm
  have HI:=hid hi
  clear hm hi hlo hhi
  obtain⟨S,q,mb,dm,rb,t,ho⟩:=HI.out.2.2.1.2.1.open_
  obtain⟨⟨c0,c1,c2,c3⟩,_⟩:=ho.at
  clear ho
  by_cases hl:0<left
  ·have hl2:left>0:=hl
   by_cases hr:s1.run=0
   ·have Yj:=hid hr
    rw[hr] at c1
    clear hr
    go_wp2_with fail
    go_ret
    exact⟨0,rfl,Or.inr ⟨jV.out,Or.inl rfl⟩,eT.of HI.out.2.2.2 eG.out,fun _=>⟨s1,gs,ps,A,c,E,e,⟨jV.out,left,HI.out.2.1.1,Or.inr Yj.out⟩,by have:=(zA.out jV.out _ _ _ _ HI.out.2.1.1).1;omega,HI.out.2.2.1⟩⟩
   ·have hrb:(s1.run == 0)=false:=by simpa using hr
    have uo:=hid hr
    have HL:=hid hl
    obtain⟨y,hy,hye⟩:=HI.out.2.1.2.resolve_left hr
    have HY:=hid hy
    have yA:=hid hye
    have gG:Hid (eZ left):=hid (by have:=HI.out.1;unfold eZ;omega)
    clear hr hy hye
    go_wp2_with fail
    refine(Core.serve n _ D s1 y HY.out yA.out.symm left gG.out _ HI.out.2.2.1.2.1).mono ?_
    rintro e2 w2 ⟨h0,hne,hkb,hfr⟩
    have JK:=hid hkb
    have JS:=hid hfr
    clear hkb hfr c0 c1 c2 c3 hrb hl hl2
    by_cases hpc:gP s1.b s1.L (ik y left)=0
    ·have JG:=hid hpc
     have Lx:=hid (UF hpc)
     obtain rfl:=h0 hpc
     have qo:=hid (HI.out.2.2.1.op JK.out JS.out)
     have mG:=hid (HI.out.2.2.2.trans (JS.out.less (F':=[]) (by simp)))
     have Uk:Hid (∀g2 s',nT (s1.put (ik y left)) g2 s'→qA s ns s' (left-(qG y left).n) (gs++g2) (ps++[qG y left])):=hid (fun g2 s' hs=> .snoc HI.out.2.1.1 HL.out uo.out HY.out yA.out JG.out hs)
     have Uh:Hid (gs.length≤900∧ps.length≤900000):=hid (zA.out jV.out _ _ _ _ HI.out.2.1.1)
     clear h0 hne hpc JK JS JG
     generalize qG y left=p at *
     generalize s1.put (ik y left)=s2 at *
     unfold Pt.cells
     have hal:=(Below.refl w2.heap.size w2).alloc (Nat.le_refl _) (.cells #[.int .i64 p.i, .int .u64 p.n, .bool p.d] 68)
     have Ui:Hid (Cs (w2.alloc (.cells #[.int .i64 p.i, .int .u64 p.n, .bool p.d] 68)) w2.heap.size p.cells):=hid (Cs.bL w2 68 p.cells)
     have HD3:=hid (qo.out.below hal)
     have JM:=hid ((qo.out.2.1.fresh (G:=[w2.heap.size]) hal (fun j hj=>by simp at hj;subst hj;simp)))
     have jW:=hid (mG.out.on hal)
     have Qj:Hid (w2.heap.size≠T∧w2.heap.size∉rowOf A∧w2.heap.size∉rowOf E):=hid (by have h1:=qo.out.1.1.lt;refine⟨by omega,fun hm=> ?_,fun hm=> ?_⟩;have:=(qo.out.1.2.1.dX _ hm).2;omega;have:=(qo.out.1.2.2.dX _ hm).2;omega)
     clear hal qo mG
     go_upto_region 8 with fail
     generalize (w2.alloc (.cells #[.int .i64 p.i, .int .u64 p.n, .bool p.d] 68))=W3 at Ui HD3 JM jW⊢
     generalize w2.heap.size=g7 at Ui JM Qj⊢
     have nI:aF (fun wx=>(Cs wx T [.slice A gs.length c, .slice E ps.length e]∧Cs wx g7 p.cells)∧(DW n D T s2 gs ps A c E e wx∧Below W3.heap.size W3 wx)):=fun _ _ h hb=>⟨⟨h.1.1.below hb,h.1.2.below hb⟩,h.2.1.below hb,ai h.2.2 hb⟩
     refine wp_region_any (by kernel_rfl) (iW (S0:=(fun wx=>Cs wx T [.slice A gs.length c, .slice E ps.length e]∧Cs wx g7 p.cells)) (n:=10) _ (fun wx=>(Cs wx T [.slice A gs.length c, .slice E ps.length e]∧Cs wx g7 p.cells)∧(DW n D T s2 gs ps A c E e wx∧Below W3.heap.size W3 wx)) _ _ _ (nI _ _ ⟨⟨HD3.out.1.1,Ui.out⟩,HD3.out,Below.refl _ _⟩ (Below.refl _ _).drew) ?_)
     refine cB (i:=0) (v:= ?_) nI (fun _ h=>h.1) rfl (by kernel_rfl) (by kernel_rfl) (by kernel_rfl) (by kernel_rfl) (fun _ _ _ h=>h) (bA.bF (Or.inl ⟨by rfl,?_⟩)) ?_
     rotate_left
     ·exact ah
     try simp only[av]
     refine cB (i:=1) (v:= ?_) nI (fun _ h=>h.1) rfl (by kernel_rfl) (by kernel_rfl) (by kernel_rfl) (by kernel_rfl) (fun _ _ _ h=>h) (bA.bF (Or.inl ⟨by rfl,?_⟩)) ?_
     rotate_left
     ·exact ah
     try simp only[av]
     refine cB (i:=2) (v:= ?_) nI (fun _ h=>h.1) rfl (by kernel_rfl) (by kernel_rfl) (by kernel_rfl) (by kernel_rfl) (fun _ _ _ h=>h) (bA.bF (Or.inl ⟨by rfl,?_⟩)) ?_
     rotate_left
     ·exact ah
     try simp only[av]
     refine cB (i:=3) (v:= ?_) nI (fun _ h=>h.1) rfl (by kernel_rfl) (by kernel_rfl) (by kernel_rfl) (by kernel_rfl) (fun _ _ _ h=>h) (bA.bF (Or.inl ⟨by rfl,?_⟩)) ?_
     rotate_left
     ·exact ah
     try simp only[av]
     refine cB (i:=4) (v:= ?_) nI (fun _ h=>h.1) rfl (by kernel_rfl) (by kernel_rfl) (by kernel_rfl) (by kernel_rfl) (fun _ _ _ h=>h) (bA.bF (Or.inl ⟨by rfl,?_⟩)) ?_
     rotate_left
     ·intro wq hSw
      have t1:=hSw.1.fH
      go_simp;try with_reducible rfl
     try simp only[av]
     refine cB (i:=5) (v:= ?_) nI (fun _ h=>h.1) rfl (by kernel_rfl) (by kernel_rfl) (by kernel_rfl) (by kernel_rfl) (fun _ _ _ h=>h) (bA.bF (Or.inl ⟨by rfl,?_⟩)) ?_
     rotate_left
     ·intro wq hSw
      obtain⟨p0,p1,p2⟩:=Cs.three hSw.2
      go_simp;try with_reducible rfl
     try simp only[av]
     refine rP (i:=6) (fun wx g=>Cs wx g p.cells) rfl (by kernel_rfl) (by decide) (by rfl) nI (fun _ h=>h.1) (fun g=>fun _ _ h hb=>h.below hb) (fun wq hSw=> ?_) (fun gs1=> ?_)
     ·exact⟨_,by go_simp;(try with_reducible rfl),(Below.refl _ _).alloc (Nat.le_refl _) _,Cs.tO _ _ _ _ _⟩
     try simp only[av]
     refine BN (i:=7) rfl (by kernel_rfl) (by decide) (by rfl) rfl (.tmp 38) (.tmp 40) 34 rfl Pt.len (by decide) Pt.one 24 Tryz.underlying34 Pt.info (by decide) n E ps.length e ps gs1 p (by have:=Uh.out.2;omega) (fun wq hSw=>⟨hSw.1.2.1.1.2.2,fun i v hv=>by rw[Nat.zero_add];exact(hSw.2 i v hv).1,by have:=hSw.1.2.1.2.1.ge;omega⟩) (fun E' e' wx=>(Cs wx T [.slice A gs.length c, .slice E ps.length e]∧Cs wx g7 p.cells)∧TkP n D T s2 gs ps p A c E e W3 g7 E' e' wx) (fun wq wq' E' e' hSw g1 g2 g3=>⟨⟨hSw.1.1.1.aG g2 (fun hm=>hSw.1.2.1.2.2.1.2.1 (by simp[hm])),hSw.1.1.2.aG g2 Qj.out.2.2⟩,wq,hSw.1.2.2,hSw.1.2.1,g1,g2,g3⟩) (fun _ _ _ h=>h.1) (fun _ _=>fun _ _ h hb=>⟨⟨h.1.1.below hb,h.1.2.below hb⟩,by obtain⟨w6,k1,k2,k3,k4,k5⟩:=h.2;exact⟨w6,k1,k2,k3.below hb,k4.on hb,k5⟩⟩) rfl rfl (fun E' e'=> ?_)
     try simp only[av]
     refine aQ (fun _ _ h hb=>⟨⟨h.1.1.below hb,h.1.2.below hb⟩,by obtain⟨w6,k1,k2,k3,k4,k5⟩:=h.2;exact⟨w6,k1,k2,k3.below hb,k4.on hb,k5⟩⟩) (fun _ h=>h.1) fun g=> ?_
     refine tk 8 ?_ g ?_ ?_ (tk 9 ?_ g ?_ ?_ ?_)
     iterate 2 (rotate_left;(·rfl);(·intro wq hSw;go_simp;try with_reducible rfl))
     try simp only[av]
     clear g
     refine bP (n:=10) rfl rfl (by kernel_rfl) (fun wz hSz=> ?_)
     simp only[List.toList_toArray,List.drop_succ_cons,List.drop_zero]
     obtain⟨⟨ht,hp7⟩,w6,hb6,hd6,Tv,hc6,OW⟩:=hSz
     have HT:=hid ht
     have HP8:=hid hp7
     have YT:=hid hb6
     have HD6:=hid hd6
     have Av:=hid Tv
     have Qp:=hid hc6
     have Yi:=hid OW
     clear ht hp7 hb6 hd6 Tv hc6 OW Ui
     have t1:=HT.out.fH
     have f1:=HT.out.mW
     go_upto_region 9 with fail
     generalize Xd:(wz.setCell ⟨T,1,none⟩ (.slice E' (ps.length+1) e'))=W8
     have YL:=hid (HD6.out.part Av.out Qp.out Yi.out Xd.symm)
     have WZ:ax [T] wz W8:=by rw[←Xd];exact ax.set (ax.refl _ _) (Or.inl (by simp)) _ _
     have HP9:=hid (HP8.out.aG WZ (by simpa using Qj.out.1))
     have YB:Hid (KB n (T::(rowOf A++(rowOf E'++[g7]))) D s2 W8):=hid (by
      have Ak:=(JM.out.below YT.out).less (F':=T::(rowOf E++(rowOf A++[g7]))) (fun j hj=>by simp only[List.mem_cons,List.mem_append,List.not_mem_nil,or_false] at hj⊢;rcases hj with h|h|h|h<;>simp[h])
      exact(Ak.row HD6.out.2.2.1.1 (fun f a cc ec=>by rw[HT.out.aL] at ec;cases ec) Qp.out (HD6.out.1.2.2.Ri Pt.len (by decide) ⟨0,0,false⟩ Pt.Tj HD6.out.2.2.2.2) (fun j hj=>⟨Yi.out j hj,(Av.out.dX j hj).2⟩) WZ).less (fun j hj=>by simp only[List.mem_cons,List.mem_append,List.not_mem_nil,or_false] at hj⊢;rcases hj with h|h|h|h<;>simp[h]))
     have HF8:=hid ((jW.out.on YT.out).trans YL.out.2)
     clear WZ Xd t1 f1 HT HP8 YT HD6 Av Qp Yi HD3 JM jW
     go_wp2_with fail
     refine(Core.KH n D T [g7] s2 gs (ps++[p]) A c E' e' (by have:=Uh.out.1;omega) _ YL.out.1 YB.out (fun z hz=>by simp at hz;subst hz;exact⟨Qj.out.1,Qj.out.2.1⟩)).mono ?_
     rintro e3 w9 ⟨rfl,g2,s3,A3,c3,uN,hd9,K5⟩
     have Ar:=hid uN
     have HD9:=hid hd9
     have aaQ:=hid (HP9.out.uP K5 (Or.inr (by simp)))
     have HF9:=hid (HF8.out.trans (K5.less (F':=[]) (by simp)))
     clear uN hd9 K5 HP9 YB YL HF8
     obtain⟨p0,p1,p2⟩:=Cs.three aaQ.out
     have hwr:IntKind.u64.wrap (left-p.n)=left-p.n:=by have:=Lx.out;have:=HI.out.1;rw[IntKind.wrap_u64];omega
     go_wp2_with fail
     go_roundg (left-p.n).toNat
     case measure=>have:=HM.out;have:=Lx.out;have:=HI.out.1;have:=HL.out;omega
     case rel=>exact⟨left-p.n,s3,gs++g2,ps++[p],A3,c3,E',e',rfl,rfl,by have:=Lx.out;have:=HI.out.1;omega,⟨Uk.out g2 s3 Ar.out,Ar.out.ZP HD9.out.2.1⟩,HD9.out,HF9.out⟩
    ·have JG:=hid hpc
     obtain rfl:=hne hpc
     have hbq:(gP s1.b s1.L (ik y left) == 0)=false:=by simpa using hpc
     have mG:=hid (HI.out.2.2.2.trans (JS.out.less (F':=[]) (by simp)))
     have Un:Hid (GU s ns (gP s1.b s1.L (ik y left))):=hid (Or.inr ⟨jV.out,Or.inr ⟨s1,left,gs,ps,y,HI.out.2.1.1,⟨HL.out,uo.out,HY.out,yA.out⟩,rfl,JG.out⟩⟩)
     have Uj:Hid (gP s1.b s1.L (ik y left)≠0):=hid hpc
     clear h0 hne hpc
     generalize gP s1.b s1.L (ik y left)=pc at *
     go_wp2_with fail
     go_ret
     exact⟨pc,rfl,Un.out,eT.of (mG.out.on ((Below.refl _ _).alloc (Nat.le_refl _) _)) eG.out,fun h=>absurd h Uj.out⟩
  ·have hl2:¬left>0:=hl
   have HL0:=hid hl
   go_wp2_with fail
   go_ret
   exact⟨0,rfl,Or.inr ⟨jV.out,Or.inl rfl⟩,eT.of HI.out.2.2.2 eG.out,fun _=>⟨s1,gs,ps,A,c,E,e,⟨jV.out,left,HI.out.2.1.1,Or.inl (by have:=HL0.out;have:=HI.out.1;omega)⟩,by have:=(zA.out jV.out _ _ _ _ HI.out.2.1.1).1;omega,HI.out.2.2.1⟩⟩
end


section
open Go.RowKit
set_option maxRecDepth 100000
set_option maxHeartbeats 32000000
theorem Qw.one {B C:Nat} {F X:List Nat} {s:KS} {Y:Int→World→Prop} {R:KS→List Gn→List Pt→Prop} {w w':World} {e:Ending} (h:Qw B F C s X Y R w e w'):∃code A c E e' s2 gs ps,e= .returned (.tuple #[.agg #[.slice A gs.length c, .slice E ps.length e'], .int .i64 code])∧Y code w'∧ax (C::X) w w'∧bO Gn.cells 13 140 w' w.heap.size A gs.length c gs∧bO Pt.cells 3 68 w' w.heap.size E ps.length e' ps∧KB B (rowOf A++(rowOf E++F)) C s2 w'∧((code≠0∧s2=s∧gs=[]∧ps=[])∨(code=0∧∃s1 g1 g2,R s1 g1 ps∧nT s1 g2 s2∧gs=g1++g2)):=by
 obtain⟨code,hy,hch,⟨h0,he,hk⟩|⟨h0,s1,g1,ps,g2,s2,A,c,E,e',hr,hs,he,ho1,ho2,hk⟩⟩:=h
 ·exact⟨code,none,0,none,0,s,[],[],he,hy,hch,bO.nil _ _,bO.nil _ _,hk.less (fun j hj=>by simpa[rowOf] using hj),Or.inl ⟨h0,rfl,rfl,rfl⟩⟩
 ·subst h0
  exact⟨0,A,c,E,e',s2,g1++g2,ps,he,hy,hch,ho1,ho2,hk,Or.inr ⟨rfl,s1,g1,g2,hr,hs,rfl⟩⟩
def iq (mk:Value→Value→Value) (B:Nat) (F:List Nat) (C:Nat) (s:KS) (Y:Int→Prop) (R:KS→List Gn→List Pt→Prop) (w:World) (e:Ending) (w':World):Prop:=
 ∃code A c E e' s2 gs ps,e= .returned (mk (.agg #[.slice A gs.length c, .slice E ps.length e']) (.int .i64 code))∧Y code∧ax [C] w w'∧bO Gn.cells 13 140 w' w.heap.size A gs.length c gs∧bO Pt.cells 3 68 w' w.heap.size E ps.length e' ps∧KB B (rowOf A++(rowOf E++F)) C s2 w'∧((code≠0∧s2=s∧gs=[]∧ps=[])∨(code=0∧∃s1 g1 g2,R s1 g1 ps∧nT s1 g2 s2∧gs=g1++g2))
theorem iq.fin {mk:Value→Value→Value} {B C:Nat} {F X G M:List Nat} {s:KS} {Y:Int→Prop} {R:KS→List Gn→List Pt→Prop} {w W0 w2 W3:World} {code:Int} {A:Option Addr} {c:Nat} {E:Option Addr} {e':Nat} {s2:KS} {gs:List Gn} {ps:List Pt} (hb:Below w.heap.size w W0) (hX:∀x∈X,w.heap.size≤x) (hG:∀g∈G,w.heap.size≤g∧g<W0.heap.size∧g∈M) (hy:Y code) (hch:ax (C::X) W0 w2) (h5:ax G w2 W3) (hgf:∀g∈G,∀f a c,w2.cell? ⟨g,0,none⟩≠some (.func f a c))
  (ho1:bO Gn.cells 13 140 w2 W0.heap.size A gs.length c gs) (ho2:bO Pt.cells 3 68 w2 W0.heap.size E ps.length e' ps) (hk:KB B (rowOf A++(rowOf E++(M++F))) C s2 w2) (hcs:(code≠0∧s2=s∧gs=[]∧ps=[])∨(code=0∧∃s1 g1 g2,R s1 g1 ps∧nT s1 g2 s2∧gs=g1++g2)):
  iq mk B F C s Y R w (.returned (mk (.agg #[.slice A gs.length c, .slice E ps.length e']) (.int .i64 code))) W3:=by
 refine⟨code,A,c,E,e',s2,gs,ps,rfl,hy,?_,?_,?_,?_,hcs⟩
 ·exact((ax.below (F:=[C]) hb).trans hch (fun g hg=>by rcases List.mem_cons.1 hg with rfl|hg;exact Or.inl (by simp);exact Or.inr (hX g hg))).trans h5 (fun g hg=>Or.inr (hG g hg).1)
 ·exact(ho1.aG h5 (fun j hj hm=>by have:=(ho1.dX j hj).1;have:=(hG j hm).2.1;omega)).mono hb.size
 ·exact(ho2.aG h5 (fun j hj hm=>by have:=(ho2.dX j hj).1;have:=(hG j hm).2.1;omega)).mono hb.size
 ·exact(hk.away h5 (fun g hg=>Or.inr (by simp[(hG g hg).2.2])) hgf).less (fun j hj=>by simp only[List.mem_append] at hj⊢;rcases hj with h|h|h<;>simp[h])
theorem Core.join (B:Nat) (F:List Nat) (C:Nat) (s:KS) (id v ns lag:Int) (eU: -9223372036854775808≤id∧id≤9223372036854775807) (hv:0≤v∧v≤4294967295) (hns:eZ ns) (IB: -9223372036854775808≤lag∧lag≤9223372036854775807) (w:World) (h:KB B F C s w):Calls Tryz.prog 15 #[(.pointer (some ⟨C,0,none⟩)), .int .i64 id, .int .u32 v, .int .u64 ns, .int .i64 lag] w (iq (fun r c=> .tuple #[r,c]) B F C s (fun c=>c=rV s id v ns lag) (MH s id v ns lag) w):=by
 have aY:Hid (VS w [(w.heap.size,[.int .i64 id]),(w.heap.size+1,[.int .u32 v]),(w.heap.size+2,[.int .u64 ns]),(w.heap.size+3,[.int .i64 lag]),(w.heap.size+4,[.slice none 0 0, .slice none 0 0])] (((((w.alloc (.cells #[.int .i64 id] 3)).alloc (.cells #[.int .u32 v] 29)).alloc (.cells #[.int .u64 ns] 22)).alloc (.cells #[.int .i64 lag] 2)).alloc (.cells #[.slice none 0 0, .slice none 0 0] 36))):=hid (by have h:=((((((VS.nil w).new 3 [.int .i64 id]).new 29 [.int .u32 v]).new 22 [.int .u64 ns]).new 2 [.int .i64 lag]).new 36 [.slice none 0 0, .slice none 0 0]);(try simp only[World.size_alloc] at h);exact h)
 have HN:=hid (h.fresh (G:=[w.heap.size+4]) aY.out.jv (fun j hj=>by simp only[List.mem_singleton] at hj;subst hj;exact⟨by omega,(aY.out.1 4 _ _ rfl).2.2⟩))
 have iV:=hid h.ge.2
 have iQ:=hid (Core.U6 s id v ns lag eU hv hns IB _ _ _ _ _ (aY.out.cs 0 rfl) (aY.out.cs 1 rfl) (aY.out.cs 2 rfl) (aY.out.cs 3 rfl))
 clear h eU hv hns IB
 go_enter Tryz.func15,Tryz.ntmps15
 go_upto_region 1 with fail
 generalize (((((w.alloc (.cells #[.int .i64 id] 3)).alloc (.cells #[.int .u32 v] 29)).alloc (.cells #[.int .u64 ns] 22)).alloc (.cells #[.int .i64 lag] 2)).alloc (.cells #[.slice none 0 0, .slice none 0 0] 36))=W0 at aY HN iQ⊢
 go_wp2_with fail
 refine(Core.do 33 _ (fun _ _=>by kernel_rfl) B _ C s [] (fun c _=>c=rV s id v ns lag) (fun _ _ _ _ h=>h) (MH s id v ns lag) _ HN.out (by simp) iQ.out).mono ?_
 rintro e w2 hd
 obtain⟨code,A,c,E,e',s2,gs,ps,rfl,hy,hch,ho1,ho2,hk,hcs⟩:=hd.one
 have HY:=hid hy
 have iB:=hid hch
 have jB:=hid ho1
 have ig:=hid ho2
 have HK:=hid hk
 have jC:=hid hcs
 have HR2:=hid ((aY.out.cs 4 rfl).aG hch (by have:=iV.out;simp;omega))
 clear hd hy hch ho1 ho2 hk hcs iQ
 go_wp2_with (first|((with_reducible refine bg 36 [.slice A gs.length c, .slice E ps.length e'] dn rfl (.tmp 10) (.tmp 15) rfl (w.heap.size+4) 0 _ HR2.out ?_ ?_ ?_ ?_ ?_ ?_);(iterate 5 (·first|rfl|simp|decide));(intro W2 hW2);(have iT:Hid (Cs W2 (w.heap.size+4) [.slice A gs.length c, .slice E ps.length e']):=hid (by rw[hW2];exact Cs.bH _ 0 HR2.out (by simp)));(have gH:=hid (ax.eqs hW2));(clear hW2))|fail)
 obtain⟨z0,z1⟩:=iT.out.two
 go_wp2_with fail
 refine bodyPost_ret (v:= .tuple #[.agg #[.slice A gs.length c, .slice E ps.length e'], .int .i64 code]) (by simp[results,Tryz.results15,go_sem,z0,z1]) rfl ?_
 exact iq.fin (mk:=fun r c=> .tuple #[r,c]) (M:=[w.heap.size+4]) aY.out.jv (by simp) (fun g hg=>by simp only[List.mem_singleton] at hg;subst hg;exact⟨by omega,(aY.out.1 4 _ _ rfl).2.2,by simp⟩) HY.out iB.out gH.out (fun g hg f a c e=>by simp only[List.mem_singleton] at hg;subst hg;rw[HR2.out.aL] at e;cases e) jB.out ig.out HK.out jC.out
theorem Core.wake (B:Nat) (F:List Nat) (C:Nat) (s:KS) (id:Int) (eU: -9223372036854775808≤id∧id≤9223372036854775807) (w:World) (h:KB B F C s w):Calls Tryz.prog 23 #[(.pointer (some ⟨C,0,none⟩)), .int .i64 id] w (iq (fun r c=> .tuple #[r,c]) B F C s (fun c=>c=Az s id) (LV s id) w):=by
 have aY:Hid (VS w [(w.heap.size,[.int .i64 id]),(w.heap.size+1,[.slice none 0 0, .slice none 0 0])] ((w.alloc (.cells #[.int .i64 id] 3)).alloc (.cells #[.slice none 0 0, .slice none 0 0] 36))):=hid (by have h:=(((VS.nil w).new 3 [.int .i64 id]).new 36 [.slice none 0 0, .slice none 0 0]);(try simp only[World.size_alloc] at h);exact h)
 have HN:=hid (h.fresh (G:=[w.heap.size+1]) aY.out.jv (fun j hj=>by simp only[List.mem_singleton] at hj;subst hj;exact⟨by omega,(aY.out.1 1 _ _ rfl).2.2⟩))
 have iV:=hid h.ge.2
 have iQ:=hid (Core.UB s id eU _ _ (aY.out.cs 0 rfl))
 clear h eU
 go_enter Tryz.func23,Tryz.ntmps23
 go_upto_region 1 with fail
 generalize ((w.alloc (.cells #[.int .i64 id] 3)).alloc (.cells #[.slice none 0 0, .slice none 0 0] 36))=W0 at aY HN iQ⊢
 go_wp2_with fail
 refine(Core.do 54 _ (fun _ _=>by kernel_rfl) B _ C s [] (fun c _=>c=Az s id) (fun _ _ _ _ h=>h) (LV s id) _ HN.out (by simp) iQ.out).mono ?_
 rintro e w2 hd
 obtain⟨code,A,c,E,e',s2,gs,ps,rfl,hy,hch,ho1,ho2,hk,hcs⟩:=hd.one
 have HY:=hid hy
 have iB:=hid hch
 have jB:=hid ho1
 have ig:=hid ho2
 have HK:=hid hk
 have jC:=hid hcs
 have HR2:=hid ((aY.out.cs 1 rfl).aG hch (by have:=iV.out;simp;omega))
 clear hd hy hch ho1 ho2 hk hcs iQ
 go_wp2_with (first|((with_reducible refine bg 36 [.slice A gs.length c, .slice E ps.length e'] dn rfl (.tmp 4) (.tmp 9) rfl (w.heap.size+1) 0 _ HR2.out ?_ ?_ ?_ ?_ ?_ ?_);(iterate 5 (·first|rfl|simp|decide));(intro W2 hW2);(have iT:Hid (Cs W2 (w.heap.size+1) [.slice A gs.length c, .slice E ps.length e']):=hid (by rw[hW2];exact Cs.bH _ 0 HR2.out (by simp)));(have gH:=hid (ax.eqs hW2));(clear hW2))|fail)
 obtain⟨z0,z1⟩:=iT.out.two
 go_wp2_with fail
 refine bodyPost_ret (v:= .tuple #[.agg #[.slice A gs.length c, .slice E ps.length e'], .int .i64 code]) (by simp[results,Tryz.results23,go_sem,z0,z1]) rfl ?_
 exact iq.fin (mk:=fun r c=> .tuple #[r,c]) (M:=[w.heap.size+1]) aY.out.jv (by simp) (fun g hg=>by simp only[List.mem_singleton] at hg;subst hg;exact⟨by omega,(aY.out.1 1 _ _ rfl).2.2,by simp⟩) HY.out iB.out gH.out (fun g hg f a c e=>by simp only[List.mem_singleton] at hg;subst hg;rw[HR2.out.aL] at e;cases e) jB.out ig.out HK.out jC.out
theorem Core.kK (B:Nat) (F:List Nat) (C:Nat) (s:KS) (id v:Int) (eU: -9223372036854775808≤id∧id≤9223372036854775807) (hv:0≤v∧v≤4294967295) (w:World) (h:KB B F C s w):Calls Tryz.prog 24 #[(.pointer (some ⟨C,0,none⟩)), .int .i64 id, .int .u32 v] w (iq (fun r c=> .tuple #[r,c]) B F C s (fun c=>c=yK s id v) (LQ s id v) w):=by
 have aY:Hid (VS w [(w.heap.size,[.int .i64 id]),(w.heap.size+1,[.int .u32 v]),(w.heap.size+2,[.slice none 0 0, .slice none 0 0])] (((w.alloc (.cells #[.int .i64 id] 3)).alloc (.cells #[.int .u32 v] 29)).alloc (.cells #[.slice none 0 0, .slice none 0 0] 36))):=hid (by have h:=((((VS.nil w).new 3 [.int .i64 id]).new 29 [.int .u32 v]).new 36 [.slice none 0 0, .slice none 0 0]);(try simp only[World.size_alloc] at h);exact h)
 have HN:=hid (h.fresh (G:=[w.heap.size+2]) aY.out.jv (fun j hj=>by simp only[List.mem_singleton] at hj;subst hj;exact⟨by omega,(aY.out.1 2 _ _ rfl).2.2⟩))
 have iV:=hid h.ge.2
 have iQ:=hid (Core.QC s id v eU hv _ _ _ (aY.out.cs 1 rfl) (aY.out.cs 0 rfl))
 clear h eU hv
 go_enter Tryz.func24,Tryz.ntmps24
 go_upto_region 1 with fail
 generalize (((w.alloc (.cells #[.int .i64 id] 3)).alloc (.cells #[.int .u32 v] 29)).alloc (.cells #[.slice none 0 0, .slice none 0 0] 36))=W0 at aY HN iQ⊢
 go_wp2_with fail
 refine(Core.do 55 _ (fun _ _=>by kernel_rfl) B _ C s [] (fun c _=>c=yK s id v) (fun _ _ _ _ h=>h) (LQ s id v) _ HN.out (by simp) iQ.out).mono ?_
 rintro e w2 hd
 obtain⟨code,A,c,E,e',s2,gs,ps,rfl,hy,hch,ho1,ho2,hk,hcs⟩:=hd.one
 have HY:=hid hy
 have iB:=hid hch
 have jB:=hid ho1
 have ig:=hid ho2
 have HK:=hid hk
 have jC:=hid hcs
 have HR2:=hid ((aY.out.cs 2 rfl).aG hch (by have:=iV.out;simp;omega))
 clear hd hy hch ho1 ho2 hk hcs iQ
 go_wp2_with (first|((with_reducible refine bg 36 [.slice A gs.length c, .slice E ps.length e'] dn rfl (.tmp 6) (.tmp 11) rfl (w.heap.size+2) 0 _ HR2.out ?_ ?_ ?_ ?_ ?_ ?_);(iterate 5 (·first|rfl|simp|decide));(intro W2 hW2);(have iT:Hid (Cs W2 (w.heap.size+2) [.slice A gs.length c, .slice E ps.length e']):=hid (by rw[hW2];exact Cs.bH _ 0 HR2.out (by simp)));(have gH:=hid (ax.eqs hW2));(clear hW2))|fail)
 obtain⟨z0,z1⟩:=iT.out.two
 go_wp2_with fail
 refine bodyPost_ret (v:= .tuple #[.agg #[.slice A gs.length c, .slice E ps.length e'], .int .i64 code]) (by simp[results,Tryz.results24,go_sem,z0,z1]) rfl ?_
 exact iq.fin (mk:=fun r c=> .tuple #[r,c]) (M:=[w.heap.size+2]) aY.out.jv (by simp) (fun g hg=>by simp only[List.mem_singleton] at hg;subst hg;exact⟨by omega,(aY.out.1 2 _ _ rfl).2.2,by simp⟩) HY.out iB.out gH.out (fun g hg f a c e=>by simp only[List.mem_singleton] at hg;subst hg;rw[HR2.out.aL] at e;cases e) jB.out ig.out HK.out jC.out
theorem Core.slice (B:Nat) (F:List Nat) (C:Nat) (s:KS) (id ns:Int) (eU: -9223372036854775808≤id∧id≤9223372036854775807) (hns:eZ ns) (w:World) (h:KB B F C s w):Calls Tryz.prog 25 #[(.pointer (some ⟨C,0,none⟩)), .int .i64 id, .int .u64 ns] w (iq (fun r c=> .tuple #[r,c]) B F C s (fun c=>c=AP s id ns) (Me s id ns) w):=by
 have aY:Hid (VS w [(w.heap.size,[.int .i64 id]),(w.heap.size+1,[.int .u64 ns]),(w.heap.size+2,[.slice none 0 0, .slice none 0 0])] (((w.alloc (.cells #[.int .i64 id] 3)).alloc (.cells #[.int .u64 ns] 22)).alloc (.cells #[.slice none 0 0, .slice none 0 0] 36))):=hid (by have h:=((((VS.nil w).new 3 [.int .i64 id]).new 22 [.int .u64 ns]).new 36 [.slice none 0 0, .slice none 0 0]);(try simp only[World.size_alloc] at h);exact h)
 have HN:=hid (h.fresh (G:=[w.heap.size+2]) aY.out.jv (fun j hj=>by simp only[List.mem_singleton] at hj;subst hj;exact⟨by omega,(aY.out.1 2 _ _ rfl).2.2⟩))
 have iV:=hid h.ge.2
 have iQ:=hid (Core.QQ s id ns eU hns _ _ _ (aY.out.cs 1 rfl) (aY.out.cs 0 rfl))
 clear h eU hns
 go_enter Tryz.func25,Tryz.ntmps25
 go_upto_region 1 with fail
 generalize (((w.alloc (.cells #[.int .i64 id] 3)).alloc (.cells #[.int .u64 ns] 22)).alloc (.cells #[.slice none 0 0, .slice none 0 0] 36))=W0 at aY HN iQ⊢
 go_wp2_with fail
 refine(Core.do 59 _ (fun _ _=>by kernel_rfl) B _ C s [] (fun c _=>c=AP s id ns) (fun _ _ _ _ h=>h) (Me s id ns) _ HN.out (by simp) iQ.out).mono ?_
 rintro e w2 hd
 obtain⟨code,A,c,E,e',s2,gs,ps,rfl,hy,hch,ho1,ho2,hk,hcs⟩:=hd.one
 have HY:=hid hy
 have iB:=hid hch
 have jB:=hid ho1
 have ig:=hid ho2
 have HK:=hid hk
 have jC:=hid hcs
 have HR2:=hid ((aY.out.cs 2 rfl).aG hch (by have:=iV.out;simp;omega))
 clear hd hy hch ho1 ho2 hk hcs iQ
 go_wp2_with (first|((with_reducible refine bg 36 [.slice A gs.length c, .slice E ps.length e'] dn rfl (.tmp 6) (.tmp 11) rfl (w.heap.size+2) 0 _ HR2.out ?_ ?_ ?_ ?_ ?_ ?_);(iterate 5 (·first|rfl|simp|decide));(intro W2 hW2);(have iT:Hid (Cs W2 (w.heap.size+2) [.slice A gs.length c, .slice E ps.length e']):=hid (by rw[hW2];exact Cs.bH _ 0 HR2.out (by simp)));(have gH:=hid (ax.eqs hW2));(clear hW2))|fail)
 obtain⟨z0,z1⟩:=iT.out.two
 go_wp2_with fail
 refine bodyPost_ret (v:= .tuple #[.agg #[.slice A gs.length c, .slice E ps.length e'], .int .i64 code]) (by simp[results,Tryz.results25,go_sem,z0,z1]) rfl ?_
 exact iq.fin (mk:=fun r c=> .tuple #[r,c]) (M:=[w.heap.size+2]) aY.out.jv (by simp) (fun g hg=>by simp only[List.mem_singleton] at hg;subst hg;exact⟨by omega,(aY.out.1 2 _ _ rfl).2.2,by simp⟩) HY.out iB.out gH.out (fun g hg f a c e=>by simp only[List.mem_singleton] at hg;subst hg;rw[HR2.out.aL] at e;cases e) jB.out ig.out HK.out jC.out
theorem Core.tick (B:Nat) (F:List Nat) (C:Nat) (s:KS) (ns:Int) (hns:eZ ns) (Fq:Jw s) (hM:(1≤ns∧ns≤1099511627776)→∀s' left gs ps,qA s ns s' left gs ps→gs.length≤900∧ps.length≤900000) (w:World) (h:KB B F C s w):Calls Tryz.prog 16 #[(.pointer (some ⟨C,0,none⟩)), .int .u64 ns] w (iq (fun r c=> .tuple #[r,c]) B F C s (fun c=>GU s ns c) (LZ s ns) w):=by
 have aY:Hid (VS w [(w.heap.size,[.int .u64 ns]),(w.heap.size+1,[.slice none 0 0, .slice none 0 0])] ((w.alloc (.cells #[.int .u64 ns] 22)).alloc (.cells #[.slice none 0 0, .slice none 0 0] 36))):=hid (by have h:=(((VS.nil w).new 22 [.int .u64 ns]).new 36 [.slice none 0 0, .slice none 0 0]);(try simp only[World.size_alloc] at h);exact h)
 have HN:=hid (h.fresh (G:=[w.heap.size+1]) aY.out.jv (fun j hj=>by simp only[List.mem_singleton] at hj;subst hj;exact⟨by omega,(aY.out.1 1 _ _ rfl).2.2⟩))
 have iV:=hid h.ge.2
 have iQ:=hid (Core.UC s ns hns Fq hM _ _ (aY.out.cs 0 rfl))
 clear h hns Fq hM
 go_enter Tryz.func16,Tryz.ntmps16
 go_upto_region 1 with fail
 generalize ((w.alloc (.cells #[.int .u64 ns] 22)).alloc (.cells #[.slice none 0 0, .slice none 0 0] 36))=W0 at aY HN iQ⊢
 go_wp2_with fail
 refine(Core.do 42 _ (fun _ _=>by kernel_rfl) B _ C s [] (fun c _=>GU s ns c) (fun _ _ _ _ h=>h) (LZ s ns) _ HN.out (by simp) iQ.out).mono ?_
 rintro e w2 hd
 obtain⟨code,A,c,E,e',s2,gs,ps,rfl,hy,hch,ho1,ho2,hk,hcs⟩:=hd.one
 have HY:=hid hy
 have iB:=hid hch
 have jB:=hid ho1
 have ig:=hid ho2
 have HK:=hid hk
 have jC:=hid hcs
 have HR2:=hid ((aY.out.cs 1 rfl).aG hch (by have:=iV.out;simp;omega))
 clear hd hy hch ho1 ho2 hk hcs iQ
 go_wp2_with (first|((with_reducible refine bg 36 [.slice A gs.length c, .slice E ps.length e'] dn rfl (.tmp 4) (.tmp 9) rfl (w.heap.size+1) 0 _ HR2.out ?_ ?_ ?_ ?_ ?_ ?_);(iterate 5 (·first|rfl|simp|decide));(intro W2 hW2);(have iT:Hid (Cs W2 (w.heap.size+1) [.slice A gs.length c, .slice E ps.length e']):=hid (by rw[hW2];exact Cs.bH _ 0 HR2.out (by simp)));(have gH:=hid (ax.eqs hW2));(clear hW2))|fail)
 obtain⟨z0,z1⟩:=iT.out.two
 go_wp2_with fail
 refine bodyPost_ret (v:= .tuple #[.agg #[.slice A gs.length c, .slice E ps.length e'], .int .i64 code]) (by simp[results,Tryz.results16,go_sem,z0,z1]) rfl ?_
 exact iq.fin (mk:=fun r c=> .tuple #[r,c]) (M:=[w.heap.size+1]) aY.out.jv (by simp) (fun g hg=>by simp only[List.mem_singleton] at hg;subst hg;exact⟨by omega,(aY.out.1 1 _ _ rfl).2.2,by simp⟩) HY.out iB.out gH.out (fun g hg f a c e=>by simp only[List.mem_singleton] at hg;subst hg;rw[HR2.out.aL] at e;cases e) jB.out ig.out HK.out jC.out
theorem Cs.same {w w':World} {g:Nat} {vs:List Value} (h:Cs w g vs) (e:w'.heap[g]?=w.heap[g]?):Cs w' g vs:=fun i v hv=>⟨(World.cell?_of_block (w:=w) e).trans (h i v hv).1,(World.frozen?_of_block (w:=w) e).trans (h i v hv).2⟩
def mr (RO:List (Nat×List Value)) (g1 g2:Nat) (u v:List Value) (W wx:World):Prop:=(∀x∈RO,Cs wx x.1 x.2)∧((Cs wx g1 u∧Cs wx g2 v)∧ax [g1,g2] W wx)
theorem RO.stays (RO:List (Nat×List Value)):aF (fun wx=>∀x∈RO,Cs wx x.1 x.2):=fun _ _ h hb x hx=>(h x hx).below hb
theorem mr.stays (RO:List (Nat×List Value)) (g1 g2:Nat) (u v:List Value) (W:World):aF (mr RO g1 g2 u v W):=fun _ _ h hb=>⟨fun x hx=>(h.1 x hx).below hb,⟨h.2.1.1.below hb,h.2.1.2.below hb⟩,h.2.2.on hb⟩
theorem mr.Ba {RO:List (Nat×List Value)} {g1 g2:Nat} {u v:List Value} {W wx:World} (h:mr RO g1 g2 u v W wx) (hn:g1≠g2∧∀x∈RO,x.1≠g1∧x.1≠g2) (vs:List Value) (hl:0+vs.length≤u.length):mr RO g1 g2 (xg u 0 vs) v W (wx.setCells g1 0 vs):=by
 have hch:ax [g1] wx (wx.setCells g1 0 vs):=ax.eqs rfl
 exact⟨fun x hx=>(h.1 x hx).aG hch (by simpa using(hn.2 x hx).1),⟨Cs.bH _ 0 h.2.1.1 hl,h.2.1.2.aG hch (by simpa using Ne.symm hn.1)⟩,h.2.2.trans hch (fun g hg=>Or.inl (by simp at hg;simp[hg]))⟩
theorem mr.kN {RO:List (Nat×List Value)} {g1 g2:Nat} {u v:List Value} {W wx:World} (h:mr RO g1 g2 u v W wx) (hn:g1≠g2∧∀x∈RO,x.1≠g1∧x.1≠g2) (vs:List Value) (hl:0+vs.length≤v.length):mr RO g1 g2 u (xg v 0 vs) W (wx.setCells g2 0 vs):=by
 have hch:ax [g2] wx (wx.setCells g2 0 vs):=ax.eqs rfl
 exact⟨fun x hx=>(h.1 x hx).aG hch (by simpa using(hn.2 x hx).2),⟨h.2.1.1.aG hch (by simpa using hn.1),Cs.bH _ 0 h.2.1.2 hl⟩,h.2.2.trans hch (fun g hg=>Or.inl (by simp at hg;simp[hg]))⟩
theorem Core.leave (B:Nat) (F:List Nat) (C:Nat) (s:KS) (id:Int) (eU: -9223372036854775808≤id∧id≤9223372036854775807) (w:World) (h:KB B F C s w):Calls Tryz.prog 21 #[(.pointer (some ⟨C,0,none⟩)), .int .i64 id] w (iq (fun r c=> .tuple #[wv (Fe s id),r,c]) B F C s (fun c=>c=OD s id) (Tn s id) w):=by
 have aY:Hid (VS w [(w.heap.size,[.int .i64 id]),(w.heap.size+1,[.int .i64 0, .int .u64 0]),(w.heap.size+2,[.slice none 0 0, .slice none 0 0]),(w.heap.size+3,[.int .i64 0, .int .u64 0])] ((((w.alloc (.cells #[.int .i64 id] 3)).alloc (.cells #[.int .i64 0, .int .u64 0] 42)).alloc (.cells #[.slice none 0 0, .slice none 0 0] 36)).alloc (.cells #[.int .i64 0, .int .u64 0] 42))):=hid (by have h:=(((((VS.nil w).new 3 [.int .i64 id]).new 42 [.int .i64 0, .int .u64 0]).new 36 [.slice none 0 0, .slice none 0 0]).new 42 [.int .i64 0, .int .u64 0]);(try simp only[World.size_alloc] at h);exact h)
 have zy:Hid (∀j∈[w.heap.size+1,w.heap.size+2,w.heap.size+3],w.heap.size≤j∧j<((((w.alloc (.cells #[.int .i64 id] 3)).alloc (.cells #[.int .i64 0, .int .u64 0] 42)).alloc (.cells #[.slice none 0 0, .slice none 0 0] 36)).alloc (.cells #[.int .i64 0, .int .u64 0] 42)).heap.size):=hid (fun j hj=>by
   simp only[List.mem_cons,List.not_mem_nil,or_false] at hj
   rcases hj with rfl|rfl|rfl
   ·exact⟨by omega,(aY.out.1 1 _ _ rfl).2.2⟩
   ·exact⟨by omega,(aY.out.1 2 _ _ rfl).2.2⟩
   ·exact⟨by omega,(aY.out.1 3 _ _ rfl).2.2⟩)
 have HN:=hid (h.fresh (G:=[w.heap.size+1,w.heap.size+2,w.heap.size+3]) aY.out.jv zy.out)
 have iV:=hid h.ge.2
 have iQ:=hid (Core.Rv s id eU _ _ _ (aY.out.cs 0 rfl) (aY.out.cs 3 rfl))
 clear h eU
 go_enter Tryz.func21,Tryz.ntmps21
 go_upto_region 2 with fail
 generalize ((((w.alloc (.cells #[.int .i64 id] 3)).alloc (.cells #[.int .i64 0, .int .u64 0] 42)).alloc (.cells #[.slice none 0 0, .slice none 0 0] 36)).alloc (.cells #[.int .i64 0, .int .u64 0] 42))=W0 at aY HN iQ zy⊢
 go_wp2_with fail
 refine(Core.do 49 _ (fun _ _=>by kernel_rfl) B _ C s [w.heap.size+3] (ZW s id (w.heap.size+3)) (fun c w w' hx h=>⟨h.1,h.2.same (hx _ (by simp))⟩) (Tn s id) _ HN.out (fun x hx=>⟨by simp at hx;simp[hx],fun f a c e=>by simp at hx;subst hx;rw[(aY.out.cs 3 rfl).aL] at e;cases e⟩) iQ.out).mono ?_
 rintro e w2 hd
 obtain⟨code,A,c,E,e',s2,gs,ps,rfl,hy,hch,ho1,ho2,hk,hcs⟩:=hd.one
 have HY:=hid hy
 have iB:=hid hch
 have jB:=hid ho1
 have ig:=hid ho2
 have HK:=hid hk
 have jC:=hid hcs
 have HR1:=hid ((aY.out.cs 1 rfl).aG hch (by have:=iV.out;simp;omega))
 have HR2:=hid ((aY.out.cs 2 rfl).aG hch (by have:=iV.out;simp;omega))
 obtain⟨lg,iJ⟩:∃lg,lg=Fe s id:=⟨_,rfl⟩
 have wU:=hid iJ
 have aW:Hid (Cs w2 (w.heap.size+3) [.int .i64 (aJ lg), .int .u64 (aI lg)]):=hid (by rw[iJ];exact hy.2)
 clear iJ
 have hal:=(Below.refl w2.heap.size w2).alloc (Nat.le_refl _) (.cells #[.slice A gs.length c, .slice E ps.length e'] 36)
 have nL:Hid (Cs (w2.alloc (.cells #[.slice A gs.length c, .slice E ps.length e'] 36)) w2.heap.size [.slice A gs.length c, .slice E ps.length e']):=hid (Cs.cK _ _ _ _)
 have JR:Hid (w2.heap.size≠w.heap.size+1∧w2.heap.size≠w.heap.size+2):=hid (by have h1:=HR1.out.lt;have h2:=HR2.out.lt;omega)
 have SH:=hid HR1.out
 replace HR1:=hid (HR1.out.below hal)
 have SE:=hid HR2.out
 replace HR2:=hid (HR2.out.below hal)
 have HB3:=hid hal
 have aW:=hid (aW.out.below hal)
 clear hd hy hch ho1 ho2 hk hcs iQ hal
 go_upto_region 3 with fail
 generalize (w2.alloc (.cells #[.slice A gs.length c, .slice E ps.length e'] 36))=W3 at HR1 HR2 HB3 nL aW⊢
 generalize w2.heap.size=g3 at nL JR⊢
 have SQ:Hid (g3≠w.heap.size+1∧g3≠w.heap.size+2):=hid JR.out
 have DC:Hid (w.heap.size+1≠w.heap.size+2∧∀x∈([(w.heap.size+3,[.int .i64 (aJ lg), .int .u64 (aI lg)]),(g3,[.slice A gs.length c, .slice E ps.length e'])]:List (Nat×List Value)),x.1≠w.heap.size+1∧x.1≠w.heap.size+2):=hid ⟨by omega,fun x hx=>by
   simp only[List.mem_cons,List.not_mem_nil,or_false] at hx
   rcases hx with rfl|rfl
   ·exact⟨by simp,by simp⟩
   ·exact SQ.out⟩
 have P8:Hid (mr ([(w.heap.size+3,[.int .i64 (aJ lg), .int .u64 (aI lg)]),(g3,[.slice A gs.length c, .slice E ps.length e'])]:List (Nat×List Value)) (w.heap.size+1) (w.heap.size+2) [.int .i64 0, .int .u64 0] [.slice none 0 0, .slice none 0 0] W3 W3):=hid ⟨fun x hx=>by
   simp only[List.mem_cons,List.not_mem_nil,or_false] at hx
   rcases hx with rfl|rfl
   ·exact aW.out
   ·exact nL.out,⟨HR1.out,HR2.out⟩,ax.refl _ _⟩
 have aB:aF (fun wx=>∀x∈([(w.heap.size+3,[.int .i64 (aJ lg), .int .u64 (aI lg)]),(g3,[.slice A gs.length c, .slice E ps.length e'])]:List (Nat×List Value)),Cs wx x.1 x.2):=RO.stays ([(w.heap.size+3,[.int .i64 (aJ lg), .int .u64 (aI lg)]),(g3,[.slice A gs.length c, .slice E ps.length e'])]:List (Nat×List Value))
 have jL:aF (fun wx=>(fun wx=>∀x∈([(w.heap.size+3,[.int .i64 (aJ lg), .int .u64 (aI lg)]),(g3,[.slice A gs.length c, .slice E ps.length e'])]:List (Nat×List Value)),Cs wx x.1 x.2) wx∧((Cs wx (w.heap.size+1) [.int .i64 0, .int .u64 0]∧Cs wx (w.heap.size+2) [.slice none 0 0, .slice none 0 0])∧ax [w.heap.size+1,w.heap.size+2] W3 wx)):=aF.dF aB (fun _ _ h hb=>⟨⟨h.1.1.below hb,h.1.2.below hb⟩,h.2.on hb⟩)
 refine wp_region_any (by kernel_rfl) (iW (S0:=fun wx=>∀x∈([(w.heap.size+3,[.int .i64 (aJ lg), .int .u64 (aI lg)]),(g3,[.slice A gs.length c, .slice E ps.length e'])]:List (Nat×List Value)),Cs wx x.1 x.2) (n:=6) _ (fun wx=>(fun wx=>∀x∈([(w.heap.size+3,[.int .i64 (aJ lg), .int .u64 (aI lg)]),(g3,[.slice A gs.length c, .slice E ps.length e'])]:List (Nat×List Value)),Cs wx x.1 x.2) wx∧((Cs wx (w.heap.size+1) [.int .i64 0, .int .u64 0]∧Cs wx (w.heap.size+2) [.slice none 0 0, .slice none 0 0])∧ax [w.heap.size+1,w.heap.size+2] W3 wx)) _ _ _ (jL _ _ (P8.out) (Below.refl _ _).drew) ?_)
 refine aQ (jL) (fun _ h=>h.1) fun g=> ?_
 refine tk 0 ?_ g ?_ ?_ (tk 1 ?_ g ?_ ?_ (tk 2 ?_ g ?_ ?_ ?_))
 iterate 2 (rotate_left;(·rfl);(·intro wq hSw;obtain⟨q0,q1⟩:=Cs.two (hSw _ (List.mem_cons_self ..));obtain⟨t0,t1⟩:=Cs.two (hSw _ (List.mem_cons_of_mem _ (List.mem_cons_self ..)));go_simp;try with_reducible rfl))
 rotate_left;(·rfl);(·intro wq hSw;go_simp;try with_reducible rfl)
 try simp only[av]
 clear g
 refine bB (i:=3) (fun wx=>mr ([(w.heap.size+3,[.int .i64 (aJ lg), .int .u64 (aI lg)]),(g3,[.slice A gs.length c, .slice E ps.length e'])]:List (Nat×List Value)) (w.heap.size+1) (w.heap.size+2) [.int .i64 (aJ lg), .int .u64 (aI lg)] [.slice none 0 0, .slice none 0 0] W3 wx) 42 [.int .i64 (aJ lg), .int .u64 (aI lg)] [.int .i64 0, .int .u64 0] (w.heap.size+1) fT (.tmp 4) (.tmp 16) rfl rfl (by kernel_rfl) (by decide) (by rfl) ?hz1a ?hz1b ?hz1c ?hz1d ?hz1e (fun _ h=>h.2.1.1) (fun _ h=>mr.Ba h DC.out [.int .i64 (aJ lg), .int .u64 (aI lg)] (by simp)) (fun _ h=>h.1) ((mr.stays ([(w.heap.size+3,[.int .i64 (aJ lg), .int .u64 (aI lg)]),(g3,[.slice A gs.length c, .slice E ps.length e'])]:List (Nat×List Value)) (w.heap.size+1) (w.heap.size+2) [.int .i64 (aJ lg), .int .u64 (aI lg)] [.slice none 0 0, .slice none 0 0] W3)) ?hz1f
 case hz1a=>rfl
 case hz1b=>rfl
 case hz1c=>rfl
 case hz1d=>rfl
 case hz1e=>rfl
 try simp only[av]
 refine bB (i:=4) (fun wx=>mr ([(w.heap.size+3,[.int .i64 (aJ lg), .int .u64 (aI lg)]),(g3,[.slice A gs.length c, .slice E ps.length e'])]:List (Nat×List Value)) (w.heap.size+1) (w.heap.size+2) [.int .i64 (aJ lg), .int .u64 (aI lg)] [.slice A gs.length c, .slice E ps.length e'] W3 wx) 36 [.slice A gs.length c, .slice E ps.length e'] [.slice none 0 0, .slice none 0 0] (w.heap.size+2) dn (.tmp 5) (.tmp 17) rfl rfl (by kernel_rfl) (by decide) (by rfl) ?hz2a ?hz2b ?hz2c ?hz2d ?hz2e (fun _ h=>h.2.1.2) (fun _ h=>mr.kN h DC.out [.slice A gs.length c, .slice E ps.length e'] (by simp)) (fun _ h=>h.1) ((mr.stays ([(w.heap.size+3,[.int .i64 (aJ lg), .int .u64 (aI lg)]),(g3,[.slice A gs.length c, .slice E ps.length e'])]:List (Nat×List Value)) (w.heap.size+1) (w.heap.size+2) [.int .i64 (aJ lg), .int .u64 (aI lg)] [.slice A gs.length c, .slice E ps.length e'] W3)) ?hz2f
 case hz2a=>rfl
 case hz2b=>rfl
 case hz2c=>rfl
 case hz2d=>rfl
 case hz2e=>rfl
 try simp only[av]
 refine aQ ((mr.stays ([(w.heap.size+3,[.int .i64 (aJ lg), .int .u64 (aI lg)]),(g3,[.slice A gs.length c, .slice E ps.length e'])]:List (Nat×List Value)) (w.heap.size+1) (w.heap.size+2) [.int .i64 (aJ lg), .int .u64 (aI lg)] [.slice A gs.length c, .slice E ps.length e'] W3)) (fun _ h=>h.1) fun g=> ?_
 refine tk 5 ?_ g ?_ ?_ ?_
 rotate_left;(·rfl);(·intro wq hSw;go_simp;try with_reducible rfl)
 try simp only[av]
 clear g
 refine aZ (by kernel_rfl) (fun wz hSz=> ?_) _
 obtain⟨z0,z1⟩:=(hSz.2.1.2).two
 obtain⟨z2,z3⟩:=(hSz.2.1.1).two
 have Qi:Hid (ax [w.heap.size+1,w.heap.size+2] w2 wz):=hid ((ax.below (F:=[w.heap.size+1,w.heap.size+2]) HB3.out).trans hSz.2.2 (fun g hg=>Or.inl hg))
 clear hSz
 go_wp2_with fail
 refine bodyPost_ret (v:=(.tuple #[wv lg, .agg #[.slice A gs.length c, .slice E ps.length e'], .int .i64 code])) (by simp[results,Tryz.results21,go_sem,z0,z1,z2,z3]) rfl ?_
 rw[wU.out]
 exact iq.fin (mk:=fun r c=> .tuple #[wv (Fe s id),r,c]) (X:=[w.heap.size+3]) (G:=[w.heap.size+1,w.heap.size+2]) (M:=[w.heap.size+1,w.heap.size+2,w.heap.size+3]) aY.out.jv (fun x hx=>(zy.out x (by simp at hx;simp[hx])).1) (fun g hg=>⟨(zy.out g (by simp at hg;rcases hg with h|h<;>simp[h])).1,(zy.out g (by simp at hg;rcases hg with h|h<;>simp[h])).2,by simp at hg;rcases hg with h|h<;>simp[h]⟩) HY.out.1 iB.out Qi.out (fun g hg f a c e=>by simp at hg;rcases hg with rfl|rfl;rw[SH.out.aL] at e;cases e;rw[SE.out.aL] at e;cases e) jB.out ig.out HK.out jC.out
theorem Core.sleep (B:Nat) (F:List Nat) (C:Nat) (s:KS) (id:Int) (eU: -9223372036854775808≤id∧id≤9223372036854775807) (w:World) (h:KB B F C s w):Calls Tryz.prog 22 #[(.pointer (some ⟨C,0,none⟩)), .int .i64 id] w (iq (fun r c=> .tuple #[.bool (tK s id),wv (vz s id),r,c]) B F C s (fun c=>c=AO s id) (Md s id) w):=by
 have aY:Hid (VS w [(w.heap.size,[.int .i64 id]),(w.heap.size+1,[.int .i64 0, .int .u64 0]),(w.heap.size+2,[.slice none 0 0, .slice none 0 0]),(w.heap.size+3,[.bool false]),(w.heap.size+4,[.int .i64 0, .int .u64 0])] (((((w.alloc (.cells #[.int .i64 id] 3)).alloc (.cells #[.int .i64 0, .int .u64 0] 42)).alloc (.cells #[.slice none 0 0, .slice none 0 0] 36)).alloc (.cells #[.bool false] 4)).alloc (.cells #[.int .i64 0, .int .u64 0] 42))):=hid (by have h:=((((((VS.nil w).new 3 [.int .i64 id]).new 42 [.int .i64 0, .int .u64 0]).new 36 [.slice none 0 0, .slice none 0 0]).new 4 [.bool false]).new 42 [.int .i64 0, .int .u64 0]);(try simp only[World.size_alloc] at h);exact h)
 have zy:Hid (∀j∈[w.heap.size+1,w.heap.size+2,w.heap.size+3,w.heap.size+4],w.heap.size≤j∧j<(((((w.alloc (.cells #[.int .i64 id] 3)).alloc (.cells #[.int .i64 0, .int .u64 0] 42)).alloc (.cells #[.slice none 0 0, .slice none 0 0] 36)).alloc (.cells #[.bool false] 4)).alloc (.cells #[.int .i64 0, .int .u64 0] 42)).heap.size):=hid (fun j hj=>by
   simp only[List.mem_cons,List.not_mem_nil,or_false] at hj
   rcases hj with rfl|rfl|rfl|rfl
   ·exact⟨by omega,(aY.out.1 1 _ _ rfl).2.2⟩
   ·exact⟨by omega,(aY.out.1 2 _ _ rfl).2.2⟩
   ·exact⟨by omega,(aY.out.1 3 _ _ rfl).2.2⟩
   ·exact⟨by omega,(aY.out.1 4 _ _ rfl).2.2⟩)
 have HN:=hid (h.fresh (G:=[w.heap.size+1,w.heap.size+2,w.heap.size+3,w.heap.size+4]) aY.out.jv zy.out)
 have iV:=hid h.ge.2
 have iQ:=hid (Core.QR s id eU _ _ _ ⟨by omega,by omega⟩ _ (aY.out.cs 0 rfl) (aY.out.cs 3 rfl) (aY.out.cs 4 rfl))
 clear h eU
 go_enter Tryz.func22,Tryz.ntmps22
 go_upto_region 3 with fail
 generalize (((((w.alloc (.cells #[.int .i64 id] 3)).alloc (.cells #[.int .i64 0, .int .u64 0] 42)).alloc (.cells #[.slice none 0 0, .slice none 0 0] 36)).alloc (.cells #[.bool false] 4)).alloc (.cells #[.int .i64 0, .int .u64 0] 42))=W0 at aY HN iQ zy⊢
 go_wp2_with fail
 refine(Core.do 51 _ (fun _ _=>by kernel_rfl) B _ C s [w.heap.size+3,w.heap.size+4] (VL s id (w.heap.size+3) (w.heap.size+4)) (fun c w w' hx h=>⟨h.1,h.2.1.same (hx _ (by simp)),h.2.2.same (hx _ (by simp))⟩) (Md s id) _ HN.out (fun x hx=>⟨by simp at hx;rcases hx with h|h<;>simp[h],fun f a c e=>by simp at hx;rcases hx with rfl|rfl;rw[(aY.out.cs 3 rfl).aL] at e;cases e;rw[(aY.out.cs 4 rfl).aL] at e;cases e⟩) iQ.out).mono ?_
 rintro e w2 hd
 obtain⟨code,A,c,E,e',s2,gs,ps,rfl,hy,hch,ho1,ho2,hk,hcs⟩:=hd.one
 have HY:=hid hy
 have iB:=hid hch
 have jB:=hid ho1
 have ig:=hid ho2
 have HK:=hid hk
 have jC:=hid hcs
 have HR1:=hid ((aY.out.cs 1 rfl).aG hch (by have:=iV.out;simp;omega))
 have HR2:=hid ((aY.out.cs 2 rfl).aG hch (by have:=iV.out;simp;omega))
 obtain⟨lg,iJ⟩:∃lg,lg=vz s id:=⟨_,rfl⟩
 have wU:=hid iJ
 obtain⟨gn,hgn⟩:∃gn,gn=tK s id:=⟨_,rfl⟩
 have YH:=hid hgn
 have aW:Hid (Cs w2 (w.heap.size+3) [.bool gn]):=hid (by rw[hgn];exact hy.2.1)
 have aP:Hid (Cs w2 (w.heap.size+4) [.int .i64 (aJ lg), .int .u64 (aI lg)]):=hid (by rw[iJ];exact hy.2.2)
 clear iJ hgn
 have hal:=(Below.refl w2.heap.size w2).alloc (Nat.le_refl _) (.cells #[.slice A gs.length c, .slice E ps.length e'] 36)
 have nL:Hid (Cs (w2.alloc (.cells #[.slice A gs.length c, .slice E ps.length e'] 36)) w2.heap.size [.slice A gs.length c, .slice E ps.length e']):=hid (Cs.cK _ _ _ _)
 have JR:Hid (w2.heap.size≠w.heap.size+1∧w2.heap.size≠w.heap.size+2):=hid (by have h1:=HR1.out.lt;have h2:=HR2.out.lt;omega)
 have SH:=hid HR1.out
 replace HR1:=hid (HR1.out.below hal)
 have SE:=hid HR2.out
 replace HR2:=hid (HR2.out.below hal)
 have HB3:=hid hal
 have aW:=hid (aW.out.below hal)
 have aP:=hid (aP.out.below hal)
 clear hd hy hch ho1 ho2 hk hcs iQ hal
 go_upto_region 4 with fail
 generalize (w2.alloc (.cells #[.slice A gs.length c, .slice E ps.length e'] 36))=W3 at HR1 HR2 HB3 nL aW aP⊢
 generalize w2.heap.size=g3 at nL JR⊢
 have SQ:Hid (g3≠w.heap.size+1∧g3≠w.heap.size+2):=hid JR.out
 have DC:Hid (w.heap.size+1≠w.heap.size+2∧∀x∈([(w.heap.size+3,[.bool gn]),(w.heap.size+4,[.int .i64 (aJ lg), .int .u64 (aI lg)]),(g3,[.slice A gs.length c, .slice E ps.length e'])]:List (Nat×List Value)),x.1≠w.heap.size+1∧x.1≠w.heap.size+2):=hid ⟨by omega,fun x hx=>by
   simp only[List.mem_cons,List.not_mem_nil,or_false] at hx
   rcases hx with rfl|rfl|rfl
   ·exact⟨by simp,by simp⟩
   ·exact⟨by simp,by simp⟩
   ·exact SQ.out⟩
 have P8:Hid (mr ([(w.heap.size+3,[.bool gn]),(w.heap.size+4,[.int .i64 (aJ lg), .int .u64 (aI lg)]),(g3,[.slice A gs.length c, .slice E ps.length e'])]:List (Nat×List Value)) (w.heap.size+1) (w.heap.size+2) [.int .i64 0, .int .u64 0] [.slice none 0 0, .slice none 0 0] W3 W3):=hid ⟨fun x hx=>by
   simp only[List.mem_cons,List.not_mem_nil,or_false] at hx
   rcases hx with rfl|rfl|rfl
   ·exact aW.out
   ·exact aP.out
   ·exact nL.out,⟨HR1.out,HR2.out⟩,ax.refl _ _⟩
 have aB:aF (fun wx=>∀x∈([(w.heap.size+3,[.bool gn]),(w.heap.size+4,[.int .i64 (aJ lg), .int .u64 (aI lg)]),(g3,[.slice A gs.length c, .slice E ps.length e'])]:List (Nat×List Value)),Cs wx x.1 x.2):=RO.stays ([(w.heap.size+3,[.bool gn]),(w.heap.size+4,[.int .i64 (aJ lg), .int .u64 (aI lg)]),(g3,[.slice A gs.length c, .slice E ps.length e'])]:List (Nat×List Value))
 have jL:aF (fun wx=>(fun wx=>∀x∈([(w.heap.size+3,[.bool gn]),(w.heap.size+4,[.int .i64 (aJ lg), .int .u64 (aI lg)]),(g3,[.slice A gs.length c, .slice E ps.length e'])]:List (Nat×List Value)),Cs wx x.1 x.2) wx∧((Cs wx (w.heap.size+1) [.int .i64 0, .int .u64 0]∧Cs wx (w.heap.size+2) [.slice none 0 0, .slice none 0 0])∧ax [w.heap.size+1,w.heap.size+2] W3 wx)):=aF.dF aB (fun _ _ h hb=>⟨⟨h.1.1.below hb,h.1.2.below hb⟩,h.2.on hb⟩)
 refine wp_region_any (by kernel_rfl) (iW (S0:=fun wx=>∀x∈([(w.heap.size+3,[.bool gn]),(w.heap.size+4,[.int .i64 (aJ lg), .int .u64 (aI lg)]),(g3,[.slice A gs.length c, .slice E ps.length e'])]:List (Nat×List Value)),Cs wx x.1 x.2) (n:=8) _ (fun wx=>(fun wx=>∀x∈([(w.heap.size+3,[.bool gn]),(w.heap.size+4,[.int .i64 (aJ lg), .int .u64 (aI lg)]),(g3,[.slice A gs.length c, .slice E ps.length e'])]:List (Nat×List Value)),Cs wx x.1 x.2) wx∧((Cs wx (w.heap.size+1) [.int .i64 0, .int .u64 0]∧Cs wx (w.heap.size+2) [.slice none 0 0, .slice none 0 0])∧ax [w.heap.size+1,w.heap.size+2] W3 wx)) _ _ _ (jL _ _ (P8.out) (Below.refl _ _).drew) ?_)
 refine aQ (jL) (fun _ h=>h.1) fun g=> ?_
 refine tk 0 ?_ g ?_ ?_ (tk 1 ?_ g ?_ ?_ (tk 2 ?_ g ?_ ?_ (tk 3 ?_ g ?_ ?_ (tk 4 ?_ g ?_ ?_ ?_))))
 iterate 3 (rotate_left;(·rfl);(·intro wq hSw;have q2:=Cs.aL (hSw _ (List.mem_cons_self ..));obtain⟨q0,q1⟩:=Cs.two (hSw _ (List.mem_cons_of_mem _ (List.mem_cons_self ..)));obtain⟨t0,t1⟩:=Cs.two (hSw _ (List.mem_cons_of_mem _ (List.mem_cons_of_mem _ (List.mem_cons_self ..))));go_simp;try with_reducible rfl))
 iterate 2 (rotate_left;(·rfl);(·intro wq hSw;go_simp;try with_reducible rfl))
 try simp only[av]
 clear g
 refine bB (i:=5) (fun wx=>mr ([(w.heap.size+3,[.bool gn]),(w.heap.size+4,[.int .i64 (aJ lg), .int .u64 (aI lg)]),(g3,[.slice A gs.length c, .slice E ps.length e'])]:List (Nat×List Value)) (w.heap.size+1) (w.heap.size+2) [.int .i64 (aJ lg), .int .u64 (aI lg)] [.slice none 0 0, .slice none 0 0] W3 wx) 42 [.int .i64 (aJ lg), .int .u64 (aI lg)] [.int .i64 0, .int .u64 0] (w.heap.size+1) fT (.tmp 5) (.tmp 19) rfl rfl (by kernel_rfl) (by decide) (by rfl) ?hz1a ?hz1b ?hz1c ?hz1d ?hz1e (fun _ h=>h.2.1.1) (fun _ h=>mr.Ba h DC.out [.int .i64 (aJ lg), .int .u64 (aI lg)] (by simp)) (fun _ h=>h.1) ((mr.stays ([(w.heap.size+3,[.bool gn]),(w.heap.size+4,[.int .i64 (aJ lg), .int .u64 (aI lg)]),(g3,[.slice A gs.length c, .slice E ps.length e'])]:List (Nat×List Value)) (w.heap.size+1) (w.heap.size+2) [.int .i64 (aJ lg), .int .u64 (aI lg)] [.slice none 0 0, .slice none 0 0] W3)) ?hz1f
 case hz1a=>rfl
 case hz1b=>rfl
 case hz1c=>rfl
 case hz1d=>rfl
 case hz1e=>rfl
 try simp only[av]
 refine bB (i:=6) (fun wx=>mr ([(w.heap.size+3,[.bool gn]),(w.heap.size+4,[.int .i64 (aJ lg), .int .u64 (aI lg)]),(g3,[.slice A gs.length c, .slice E ps.length e'])]:List (Nat×List Value)) (w.heap.size+1) (w.heap.size+2) [.int .i64 (aJ lg), .int .u64 (aI lg)] [.slice A gs.length c, .slice E ps.length e'] W3 wx) 36 [.slice A gs.length c, .slice E ps.length e'] [.slice none 0 0, .slice none 0 0] (w.heap.size+2) dn (.tmp 6) (.tmp 20) rfl rfl (by kernel_rfl) (by decide) (by rfl) ?hz2a ?hz2b ?hz2c ?hz2d ?hz2e (fun _ h=>h.2.1.2) (fun _ h=>mr.kN h DC.out [.slice A gs.length c, .slice E ps.length e'] (by simp)) (fun _ h=>h.1) ((mr.stays ([(w.heap.size+3,[.bool gn]),(w.heap.size+4,[.int .i64 (aJ lg), .int .u64 (aI lg)]),(g3,[.slice A gs.length c, .slice E ps.length e'])]:List (Nat×List Value)) (w.heap.size+1) (w.heap.size+2) [.int .i64 (aJ lg), .int .u64 (aI lg)] [.slice A gs.length c, .slice E ps.length e'] W3)) ?hz2f
 case hz2a=>rfl
 case hz2b=>rfl
 case hz2c=>rfl
 case hz2d=>rfl
 case hz2e=>rfl
 try simp only[av]
 refine aQ ((mr.stays ([(w.heap.size+3,[.bool gn]),(w.heap.size+4,[.int .i64 (aJ lg), .int .u64 (aI lg)]),(g3,[.slice A gs.length c, .slice E ps.length e'])]:List (Nat×List Value)) (w.heap.size+1) (w.heap.size+2) [.int .i64 (aJ lg), .int .u64 (aI lg)] [.slice A gs.length c, .slice E ps.length e'] W3)) (fun _ h=>h.1) fun g=> ?_
 refine tk 7 ?_ g ?_ ?_ ?_
 rotate_left;(·rfl);(·intro wq hSw;go_simp;try with_reducible rfl)
 try simp only[av]
 clear g
 refine aZ (by kernel_rfl) (fun wz hSz=> ?_) _
 obtain⟨z0,z1⟩:=(hSz.2.1.2).two
 obtain⟨z2,z3⟩:=(hSz.2.1.1).two
 have Qi:Hid (ax [w.heap.size+1,w.heap.size+2] w2 wz):=hid ((ax.below (F:=[w.heap.size+1,w.heap.size+2]) HB3.out).trans hSz.2.2 (fun g hg=>Or.inl hg))
 clear hSz
 go_wp2_with fail
 refine bodyPost_ret (v:=(.tuple #[.bool gn,wv lg, .agg #[.slice A gs.length c, .slice E ps.length e'], .int .i64 code])) (by simp[results,Tryz.results22,go_sem,z0,z1,z2,z3]) rfl ?_
 rw[wU.out,YH.out]
 exact iq.fin (mk:=fun r c=> .tuple #[.bool (tK s id),wv (vz s id),r,c]) (X:=[w.heap.size+3,w.heap.size+4]) (G:=[w.heap.size+1,w.heap.size+2]) (M:=[w.heap.size+1,w.heap.size+2,w.heap.size+3,w.heap.size+4]) aY.out.jv (fun x hx=>(zy.out x (by simp at hx;simp[hx])).1) (fun g hg=>⟨(zy.out g (by simp at hg;rcases hg with h|h<;>simp[h])).1,(zy.out g (by simp at hg;rcases hg with h|h<;>simp[h])).2,by simp at hg;rcases hg with h|h<;>simp[h]⟩) HY.out.1 iB.out Qi.out (fun g hg f a c e=>by simp at hg;rcases hg with rfl|rfl;rw[SH.out.aL] at e;cases e;rw[SE.out.aL] at e;cases e) jB.out ig.out HK.out jC.out
end


section
open Go.RowKit
structure Ax where
 d:Int
 id:Int
 v:Int
 ns:Int
 lag:Int
def Ax.cells (a:Ax):List Value:=[.int .u8 a.d, .int .i64 a.id, .int .u32 a.v, .int .u64 a.ns, .int .i64 a.lag]
def Ax.In (a:Ax):Prop:=(0≤a.d∧a.d≤255)∧(-9223372036854775808≤a.id∧a.id≤9223372036854775807)∧(0≤a.v∧a.v≤4294967295)∧eZ a.ns∧(-9223372036854775808≤a.lag∧a.lag≤9223372036854775807)
def gK (s:KS) (a:Ax) (c:Int):Prop:=(a.d%10<2→c=rV s a.id a.v a.ns a.lag)∧(a.d%10=2→c=OD s a.id)∧(a.d%10=3→c=AO s a.id)∧(a.d%10=4→c=Az s a.id)∧(a.d%10=5→c=yK s a.id a.v)∧(a.d%10=6→c=AP s a.id a.ns)∧(6<a.d%10→GU s a.ns c)
def EB (s:KS) (a:Ax) (s1:KS) (gs:List Gn) (ps:List Pt):Prop:=(a.d%10<2→MH s a.id a.v a.ns a.lag s1 gs ps)∧(a.d%10=2→Tn s a.id s1 gs ps)∧(a.d%10=3→Md s a.id s1 gs ps)∧(a.d%10=4→LV s a.id s1 gs ps)∧(a.d%10=5→LQ s a.id a.v s1 gs ps)∧(a.d%10=6→Me s a.id a.ns s1 gs ps)∧(6<a.d%10→LZ s a.ns s1 gs ps)
theorem iq.weak {mk mk':Value→Value→Value} {B C:Nat} {F:List Nat} {s:KS} {Y Y':Int→Prop} {R R':KS→List Gn→List Pt→Prop} {w w':World} {code:Int} {A:Option Addr} {c:Nat} {E:Option Addr} {e':Nat} {s2:KS} {gs:List Gn} {ps:List Pt}
  (hcs:(code≠0∧s2=s∧gs=[]∧ps=[])∨(code=0∧∃s1 g1 g2,R s1 g1 ps∧nT s1 g2 s2∧gs=g1++g2)) (hR:∀s1 g1,R s1 g1 ps→R' s1 g1 ps):(code≠0∧s2=s∧gs=[]∧ps=[])∨(code=0∧∃s1 g1 g2,R' s1 g1 ps∧nT s1 g2 s2∧gs=g1++g2):=
 hcs.imp id (fun⟨h0,s1,g1,g2,h1,h2⟩=>⟨h0,s1,g1,g2,hR _ _ h1,h2⟩)
set_option maxRecDepth 100000 in
set_option maxHeartbeats 8000000 in
theorem Nb.act (B:Nat) (F:List Nat) (C:Nat) (s:KS) (a:Ax) (ha:a.In) (Fq:Jw s) (hM:6<a.d%10→(1≤a.ns∧a.ns≤1099511627776)→∀s' left gs ps,qA s a.ns s' left gs ps→gs.length≤900∧ps.length≤900000) (w:World) (h:KB B F C s w):Calls Tryz.prog 8 #[(.pointer (some ⟨C,0,none⟩)), .agg #[.int .u8 a.d, .int .i64 a.id, .int .u32 a.v, .int .u64 a.ns, .int .i64 a.lag]] w (iq (fun r c=> .tuple #[r,c]) B F C s (gK s a) (EB s a) w):=by
 have aY:Hid (VS w [(w.heap.size,[.int .u8 a.d, .int .i64 a.id, .int .u32 a.v, .int .u64 a.ns, .int .i64 a.lag]),(w.heap.size+1,[.slice none 0 0, .slice none 0 0])] ((w.alloc (.cells #[.int .u8 a.d, .int .i64 a.id, .int .u32 a.v, .int .u64 a.ns, .int .i64 a.lag] 31)).alloc (.cells #[.slice none 0 0, .slice none 0 0] 36))):=hid (by have h:=(((VS.nil w).new 31 [.int .u8 a.d, .int .i64 a.id, .int .u32 a.v, .int .u64 a.ns, .int .i64 a.lag]).new 36 [.slice none 0 0, .slice none 0 0]);(try simp only[World.size_alloc] at h);exact h)
 have HN:=hid (h.fresh (G:=[w.heap.size+1]) aY.out.jv (fun j hj=>by simp only[List.mem_singleton] at hj;subst hj;exact⟨by omega,(aY.out.1 1 _ _ rfl).2.2⟩))
 have iV:=hid h.ge.2
 have HA:=hid ha
 have P9:=hid Fq
 have zA:=hid hM
 have TA:a.d%10=0∨a.d%10=1∨a.d%10=2∨a.d%10=3∨a.d%10=4∨a.d%10=5∨a.d%10=6∨(a.d%10=7∨a.d%10=8∨a.d%10=9):=by omega
 have sF:a.d.tmod 10=a.d%10:=Int.tmod_eq_emod_of_nonneg ha.1.1
 clear h ha Fq hM
 go_enter Tryz.func8,Tryz.ntmps8
 go_upto_region 1 with fail
 generalize ((w.alloc (.cells #[.int .u8 a.d, .int .i64 a.id, .int .u32 a.v, .int .u64 a.ns, .int .i64 a.lag] 31)).alloc (.cells #[.slice none 0 0, .slice none 0 0] 36))=W0 at aY HN⊢
 obtain⟨a0,a1,a2,a3,a4⟩:W0.cell? ⟨w.heap.size,0,none⟩=some (.int .u8 a.d)∧W0.cell? ⟨w.heap.size,1,none⟩=some (.int .i64 a.id)∧W0.cell? ⟨w.heap.size,2,none⟩=some (.int .u32 a.v)∧W0.cell? ⟨w.heap.size,3,none⟩=some (.int .u64 a.ns)∧W0.cell? ⟨w.heap.size,4,none⟩=some (.int .i64 a.lag):=⟨(aY.out.cs 0 rfl 0 _ rfl).1,(aY.out.cs 0 rfl 1 _ rfl).1,(aY.out.cs 0 rfl 2 _ rfl).1,(aY.out.cs 0 rfl 3 _ rfl).1,(aY.out.cs 0 rfl 4 _ rfl).1⟩
 rcases TA with hk|hk|hk|hk|hk|hk|hk|hk
 ·have HKK:=hid hk
  rw[hk] at sF
  go_wp2_with fail
  refine(Core.join B _ C s a.id a.v a.ns a.lag HA.out.2.1 HA.out.2.2.1 HA.out.2.2.2.1 HA.out.2.2.2.2 _ HN.out).mono ?_
  rintro e w2 ⟨code,A,c,E,e',s2,gs,ps,rfl,hy,hch,ho1,ho2,hkb,hcs⟩
  have HY:=hid hy
  have iB:=hid hch
  have jB:=hid ho1
  have ig:=hid ho2
  have HK:=hid hkb
  have jC:=hid hcs
  have HR2:=hid ((aY.out.cs 1 rfl).aG hch (by have:=iV.out;simp;omega))
  clear hy hch ho1 ho2 hkb hcs a0 a1 a2 a3 a4
  go_wp2_with (first|((with_reducible refine bg 36 [.slice A gs.length c, .slice E ps.length e'] dn rfl (.tmp 4) (.tmp 29) rfl (w.heap.size+1) 0 _ HR2.out ?_ ?_ ?_ ?_ ?_ ?_);(iterate 5 (·first|rfl|simp|decide));(intro W2 hW2);(have iT:Hid (Cs W2 (w.heap.size+1) [.slice A gs.length c, .slice E ps.length e']):=hid (by rw[hW2];exact Cs.bH _ 0 HR2.out (by simp)));(have gH:=hid (ax.eqs hW2));(clear hW2))|fail)
  obtain⟨z0,z1⟩:=iT.out.two
  go_wp2_with fail
  refine bodyPost_ret (v:= .tuple #[.agg #[.slice A gs.length c, .slice E ps.length e'], .int .i64 code]) (by simp[results,Tryz.results8,go_sem,z0,z1]) rfl ?_
  exact iq.fin (X:=[]) (G:=[w.heap.size+1]) (mk:=fun r c=> .tuple #[r,c]) (M:=[w.heap.size+1]) aY.out.jv (by simp) (fun g hg=>by simp only[List.mem_singleton] at hg;subst hg;exact⟨by omega,(aY.out.1 1 _ _ rfl).2.2,by simp⟩) (Y:=gK s a) (by have hq:=HKK.out;exact⟨fun _=>HY.out,fun hh=>by omega,fun hh=>by omega,fun hh=>by omega,fun hh=>by omega,fun hh=>by omega,fun hh=>by omega⟩) iB.out gH.out (fun g hg f a c e=>by simp only[List.mem_singleton] at hg;subst hg;rw[HR2.out.aL] at e;cases e) jB.out ig.out HK.out (iq.weak (mk:=fun r c=> .tuple #[r,c]) (mk':=fun r c=> .tuple #[r,c]) (B:=B) (C:=C) (F:=F) (Y:=gK s a) (Y':=gK s a) (w:=w) (w':=w) (A:=A) (c:=c) (E:=E) (e':=e') jC.out (fun s1 g1 hr=>by have hq:=HKK.out;exact⟨fun _=>hr,fun hh=>by omega,fun hh=>by omega,fun hh=>by omega,fun hh=>by omega,fun hh=>by omega,fun hh=>by omega⟩))
 ·have HKK:=hid hk
  rw[hk] at sF
  go_wp2_with fail
  refine(Core.join B _ C s a.id a.v a.ns a.lag HA.out.2.1 HA.out.2.2.1 HA.out.2.2.2.1 HA.out.2.2.2.2 _ HN.out).mono ?_
  rintro e w2 ⟨code,A,c,E,e',s2,gs,ps,rfl,hy,hch,ho1,ho2,hkb,hcs⟩
  have HY:=hid hy
  have iB:=hid hch
  have jB:=hid ho1
  have ig:=hid ho2
  have HK:=hid hkb
  have jC:=hid hcs
  have HR2:=hid ((aY.out.cs 1 rfl).aG hch (by have:=iV.out;simp;omega))
  clear hy hch ho1 ho2 hkb hcs a0 a1 a2 a3 a4
  go_wp2_with (first|((with_reducible refine bg 36 [.slice A gs.length c, .slice E ps.length e'] dn rfl (.tmp 4) (.tmp 29) rfl (w.heap.size+1) 0 _ HR2.out ?_ ?_ ?_ ?_ ?_ ?_);(iterate 5 (·first|rfl|simp|decide));(intro W2 hW2);(have iT:Hid (Cs W2 (w.heap.size+1) [.slice A gs.length c, .slice E ps.length e']):=hid (by rw[hW2];exact Cs.bH _ 0 HR2.out (by simp)));(have gH:=hid (ax.eqs hW2));(clear hW2))|fail)
  obtain⟨z0,z1⟩:=iT.out.two
  go_wp2_with fail
  refine bodyPost_ret (v:= .tuple #[.agg #[.slice A gs.length c, .slice E ps.length e'], .int .i64 code]) (by simp[results,Tryz.results8,go_sem,z0,z1]) rfl ?_
  exact iq.fin (X:=[]) (G:=[w.heap.size+1]) (mk:=fun r c=> .tuple #[r,c]) (M:=[w.heap.size+1]) aY.out.jv (by simp) (fun g hg=>by simp only[List.mem_singleton] at hg;subst hg;exact⟨by omega,(aY.out.1 1 _ _ rfl).2.2,by simp⟩) (Y:=gK s a) (by have hq:=HKK.out;exact⟨fun _=>HY.out,fun hh=>by omega,fun hh=>by omega,fun hh=>by omega,fun hh=>by omega,fun hh=>by omega,fun hh=>by omega⟩) iB.out gH.out (fun g hg f a c e=>by simp only[List.mem_singleton] at hg;subst hg;rw[HR2.out.aL] at e;cases e) jB.out ig.out HK.out (iq.weak (mk:=fun r c=> .tuple #[r,c]) (mk':=fun r c=> .tuple #[r,c]) (B:=B) (C:=C) (F:=F) (Y:=gK s a) (Y':=gK s a) (w:=w) (w':=w) (A:=A) (c:=c) (E:=E) (e':=e') jC.out (fun s1 g1 hr=>by have hq:=HKK.out;exact⟨fun _=>hr,fun hh=>by omega,fun hh=>by omega,fun hh=>by omega,fun hh=>by omega,fun hh=>by omega,fun hh=>by omega⟩))
 ·have HKK:=hid hk
  rw[hk] at sF
  go_wp2_with fail
  refine(Core.leave B _ C s a.id HA.out.2.1 _ HN.out).mono ?_
  rintro e w2 ⟨code,A,c,E,e',s2,gs,ps,rfl,hy,hch,ho1,ho2,hkb,hcs⟩
  have HY:=hid hy
  have iB:=hid hch
  have jB:=hid ho1
  have ig:=hid ho2
  have HK:=hid hkb
  have jC:=hid hcs
  have HR2:=hid ((aY.out.cs 1 rfl).aG hch (by have:=iV.out;simp;omega))
  obtain⟨lg,iJ⟩:∃lg,lg=Fe s a.id:=⟨_,rfl⟩
  rw[←iJ]
  clear iJ hy hch ho1 ho2 hkb hcs a0 a1 a2 a3 a4
  have hal:Below w2.heap.size w2 ((w2.alloc (.cells #[.int .i64 0, .int .u64 0] 42)).alloc (.cells #[.slice none 0 0, .slice none 0 0] 36)):=((Below.refl w2.heap.size w2).alloc (Nat.le_refl _) _).alloc (by simp) _
  have HB3:=hid hal
  have aP:Hid (Cs ((w2.alloc (.cells #[.int .i64 0, .int .u64 0] 42)).alloc (.cells #[.slice none 0 0, .slice none 0 0] 36)) w2.heap.size [.int .i64 0, .int .u64 0]):=hid ((Cs.cK w2 42 _ _).alloc _)
  have cO:Hid (Cs ((w2.alloc (.cells #[.int .i64 0, .int .u64 0] 42)).alloc (.cells #[.slice none 0 0, .slice none 0 0] 36)) (w2.heap.size+1) [.slice none 0 0, .slice none 0 0]):=hid (by have:=Cs.cK (w2.alloc (.cells #[.int .i64 0, .int .u64 0] 42)) 36 (.slice none 0 0) (.slice none 0 0);simpa using this)
  have HR3:=hid (HR2.out.below hal)
  have Au:Hid (w.heap.size+1<w2.heap.size):=hid HR2.out.lt
  clear hal
  unfold wv
  go_wp2_with (first|((with_reducible refine bg 42 [.int .i64 (aJ lg), .int .u64 (aI lg)] fT rfl (.tmp 6) (.tmp 38) rfl (w2.heap.size) 0 _ aP.out ?_ ?_ ?_ ?_ ?_ ?_);(iterate 5 (·first|rfl|simp|decide));(intro W2 hW2);(have JQ:=hid (ax.eqs hW2));(have iA:=hid (cO.out.aG JQ.out (by simp)));(have HR4:=hid (HR3.out.aG JQ.out (by have:=Au.out;simp;omega)));(clear hW2))|((with_reducible refine bg 36 [.slice A gs.length c, .slice E ps.length e'] dn rfl (.tmp 7) (.tmp 39) rfl (w2.heap.size+1) 0 _ iA.out ?_ ?_ ?_ ?_ ?_ ?_);(iterate 5 (·first|rfl|simp|decide));(intro W2 hW2);(have uY:Hid (Cs W2 (w2.heap.size+1) [.slice A gs.length c, .slice E ps.length e']):=hid (by rw[hW2];exact Cs.bH _ 0 iA.out (by simp)));(have yF:=hid (ax.eqs hW2));(have FO:=hid (HR4.out.aG yF.out (by have:=Au.out;simp;omega)));(obtain⟨t0,t1⟩:=uY.out.two);(clear hW2))|((with_reducible refine bg 36 [.slice A gs.length c, .slice E ps.length e'] dn rfl (.tmp 4) (.tmp 41) rfl (w.heap.size+1) 0 _ FO.out ?_ ?_ ?_ ?_ ?_ ?_);(iterate 5 (·first|rfl|simp|decide));(intro W2 hW2);(have iT:Hid (Cs W2 (w.heap.size+1) [.slice A gs.length c, .slice E ps.length e']):=hid (by rw[hW2];exact Cs.bH _ 0 FO.out (by simp)));(have YE:=hid (ax.eqs hW2));(clear hW2))|fail)
  obtain⟨z0,z1⟩:=iT.out.two
  have gH:Hid (ax [w.heap.size+1] w2 _):=hid ((((ax.below (F:=[w.heap.size+1]) HB3.out).trans JQ.out (fun g hg=>Or.inr (by simp at hg;omega))).trans yF.out (fun g hg=>Or.inr (by simp at hg;omega))).trans YE.out (fun g hg=>Or.inl hg))
  go_wp2_with fail
  refine bodyPost_ret (v:= .tuple #[.agg #[.slice A gs.length c, .slice E ps.length e'], .int .i64 code]) (by simp[results,Tryz.results8,go_sem,z0,z1]) rfl ?_
  exact iq.fin (X:=[]) (G:=[w.heap.size+1]) (mk:=fun r c=> .tuple #[r,c]) (M:=[w.heap.size+1]) aY.out.jv (by simp) (fun g hg=>by simp only[List.mem_singleton] at hg;subst hg;exact⟨by omega,(aY.out.1 1 _ _ rfl).2.2,by simp⟩) (Y:=gK s a) (by have hq:=HKK.out;exact⟨fun hh=>by omega,fun _=>HY.out,fun hh=>by omega,fun hh=>by omega,fun hh=>by omega,fun hh=>by omega,fun hh=>by omega⟩) iB.out gH.out (fun g hg f a c e=>by simp only[List.mem_singleton] at hg;subst hg;rw[HR2.out.aL] at e;cases e) jB.out ig.out HK.out (iq.weak (mk:=fun r c=> .tuple #[r,c]) (mk':=fun r c=> .tuple #[r,c]) (B:=B) (C:=C) (F:=F) (Y:=gK s a) (Y':=gK s a) (w:=w) (w':=w) (A:=A) (c:=c) (E:=E) (e':=e') jC.out (fun s1 g1 hr=>by have hq:=HKK.out;exact⟨fun hh=>by omega,fun _=>hr,fun hh=>by omega,fun hh=>by omega,fun hh=>by omega,fun hh=>by omega,fun hh=>by omega⟩))
 ·have HKK:=hid hk
  rw[hk] at sF
  go_wp2_with fail
  refine(Core.sleep B _ C s a.id HA.out.2.1 _ HN.out).mono ?_
  rintro e w2 ⟨code,A,c,E,e',s2,gs,ps,rfl,hy,hch,ho1,ho2,hkb,hcs⟩
  have HY:=hid hy
  have iB:=hid hch
  have jB:=hid ho1
  have ig:=hid ho2
  have HK:=hid hkb
  have jC:=hid hcs
  have HR2:=hid ((aY.out.cs 1 rfl).aG hch (by have:=iV.out;simp;omega))
  obtain⟨lg,iJ⟩:∃lg,lg=vz s a.id:=⟨_,rfl⟩
  rw[←iJ]
  clear iJ hy hch ho1 ho2 hkb hcs a0 a1 a2 a3 a4
  have hal:Below w2.heap.size w2 ((w2.alloc (.cells #[.int .i64 0, .int .u64 0] 42)).alloc (.cells #[.slice none 0 0, .slice none 0 0] 36)):=((Below.refl w2.heap.size w2).alloc (Nat.le_refl _) _).alloc (by simp) _
  have HB3:=hid hal
  have aP:Hid (Cs ((w2.alloc (.cells #[.int .i64 0, .int .u64 0] 42)).alloc (.cells #[.slice none 0 0, .slice none 0 0] 36)) w2.heap.size [.int .i64 0, .int .u64 0]):=hid ((Cs.cK w2 42 _ _).alloc _)
  have cO:Hid (Cs ((w2.alloc (.cells #[.int .i64 0, .int .u64 0] 42)).alloc (.cells #[.slice none 0 0, .slice none 0 0] 36)) (w2.heap.size+1) [.slice none 0 0, .slice none 0 0]):=hid (by have:=Cs.cK (w2.alloc (.cells #[.int .i64 0, .int .u64 0] 42)) 36 (.slice none 0 0) (.slice none 0 0);simpa using this)
  have HR3:=hid (HR2.out.below hal)
  have Au:Hid (w.heap.size+1<w2.heap.size):=hid HR2.out.lt
  clear hal
  unfold wv
  go_wp2_with (first|((with_reducible refine bg 42 [.int .i64 (aJ lg), .int .u64 (aI lg)] fT rfl (.tmp 10) (.tmp 51) rfl (w2.heap.size) 0 _ aP.out ?_ ?_ ?_ ?_ ?_ ?_);(iterate 5 (·first|rfl|simp|decide));(intro W2 hW2);(have JQ:=hid (ax.eqs hW2));(have iA:=hid (cO.out.aG JQ.out (by simp)));(have HR4:=hid (HR3.out.aG JQ.out (by have:=Au.out;simp;omega)));(clear hW2))|((with_reducible refine bg 36 [.slice A gs.length c, .slice E ps.length e'] dn rfl (.tmp 11) (.tmp 52) rfl (w2.heap.size+1) 0 _ iA.out ?_ ?_ ?_ ?_ ?_ ?_);(iterate 5 (·first|rfl|simp|decide));(intro W2 hW2);(have uY:Hid (Cs W2 (w2.heap.size+1) [.slice A gs.length c, .slice E ps.length e']):=hid (by rw[hW2];exact Cs.bH _ 0 iA.out (by simp)));(have yF:=hid (ax.eqs hW2));(have FO:=hid (HR4.out.aG yF.out (by have:=Au.out;simp;omega)));(obtain⟨t0,t1⟩:=uY.out.two);(clear hW2))|((with_reducible refine bg 36 [.slice A gs.length c, .slice E ps.length e'] dn rfl (.tmp 4) (.tmp 54) rfl (w.heap.size+1) 0 _ FO.out ?_ ?_ ?_ ?_ ?_ ?_);(iterate 5 (·first|rfl|simp|decide));(intro W2 hW2);(have iT:Hid (Cs W2 (w.heap.size+1) [.slice A gs.length c, .slice E ps.length e']):=hid (by rw[hW2];exact Cs.bH _ 0 FO.out (by simp)));(have YE:=hid (ax.eqs hW2));(clear hW2))|fail)
  obtain⟨z0,z1⟩:=iT.out.two
  have gH:Hid (ax [w.heap.size+1] w2 _):=hid ((((ax.below (F:=[w.heap.size+1]) HB3.out).trans JQ.out (fun g hg=>Or.inr (by simp at hg;omega))).trans yF.out (fun g hg=>Or.inr (by simp at hg;omega))).trans YE.out (fun g hg=>Or.inl hg))
  go_wp2_with fail
  refine bodyPost_ret (v:= .tuple #[.agg #[.slice A gs.length c, .slice E ps.length e'], .int .i64 code]) (by simp[results,Tryz.results8,go_sem,z0,z1]) rfl ?_
  exact iq.fin (X:=[]) (G:=[w.heap.size+1]) (mk:=fun r c=> .tuple #[r,c]) (M:=[w.heap.size+1]) aY.out.jv (by simp) (fun g hg=>by simp only[List.mem_singleton] at hg;subst hg;exact⟨by omega,(aY.out.1 1 _ _ rfl).2.2,by simp⟩) (Y:=gK s a) (by have hq:=HKK.out;exact⟨fun hh=>by omega,fun hh=>by omega,fun _=>HY.out,fun hh=>by omega,fun hh=>by omega,fun hh=>by omega,fun hh=>by omega⟩) iB.out gH.out (fun g hg f a c e=>by simp only[List.mem_singleton] at hg;subst hg;rw[HR2.out.aL] at e;cases e) jB.out ig.out HK.out (iq.weak (mk:=fun r c=> .tuple #[r,c]) (mk':=fun r c=> .tuple #[r,c]) (B:=B) (C:=C) (F:=F) (Y:=gK s a) (Y':=gK s a) (w:=w) (w':=w) (A:=A) (c:=c) (E:=E) (e':=e') jC.out (fun s1 g1 hr=>by have hq:=HKK.out;exact⟨fun hh=>by omega,fun hh=>by omega,fun _=>hr,fun hh=>by omega,fun hh=>by omega,fun hh=>by omega,fun hh=>by omega⟩))
 ·have HKK:=hid hk
  rw[hk] at sF
  go_wp2_with fail
  refine(Core.wake B _ C s a.id HA.out.2.1 _ HN.out).mono ?_
  rintro e w2 ⟨code,A,c,E,e',s2,gs,ps,rfl,hy,hch,ho1,ho2,hkb,hcs⟩
  have HY:=hid hy
  have iB:=hid hch
  have jB:=hid ho1
  have ig:=hid ho2
  have HK:=hid hkb
  have jC:=hid hcs
  have HR2:=hid ((aY.out.cs 1 rfl).aG hch (by have:=iV.out;simp;omega))
  clear hy hch ho1 ho2 hkb hcs a0 a1 a2 a3 a4
  go_wp2_with (first|((with_reducible refine bg 36 [.slice A gs.length c, .slice E ps.length e'] dn rfl (.tmp 4) (.tmp 62) rfl (w.heap.size+1) 0 _ HR2.out ?_ ?_ ?_ ?_ ?_ ?_);(iterate 5 (·first|rfl|simp|decide));(intro W2 hW2);(have iT:Hid (Cs W2 (w.heap.size+1) [.slice A gs.length c, .slice E ps.length e']):=hid (by rw[hW2];exact Cs.bH _ 0 HR2.out (by simp)));(have gH:=hid (ax.eqs hW2));(clear hW2))|fail)
  obtain⟨z0,z1⟩:=iT.out.two
  go_wp2_with fail
  refine bodyPost_ret (v:= .tuple #[.agg #[.slice A gs.length c, .slice E ps.length e'], .int .i64 code]) (by simp[results,Tryz.results8,go_sem,z0,z1]) rfl ?_
  exact iq.fin (X:=[]) (G:=[w.heap.size+1]) (mk:=fun r c=> .tuple #[r,c]) (M:=[w.heap.size+1]) aY.out.jv (by simp) (fun g hg=>by simp only[List.mem_singleton] at hg;subst hg;exact⟨by omega,(aY.out.1 1 _ _ rfl).2.2,by simp⟩) (Y:=gK s a) (by have hq:=HKK.out;exact⟨fun hh=>by omega,fun hh=>by omega,fun hh=>by omega,fun _=>HY.out,fun hh=>by omega,fun hh=>by omega,fun hh=>by omega⟩) iB.out gH.out (fun g hg f a c e=>by simp only[List.mem_singleton] at hg;subst hg;rw[HR2.out.aL] at e;cases e) jB.out ig.out HK.out (iq.weak (mk:=fun r c=> .tuple #[r,c]) (mk':=fun r c=> .tuple #[r,c]) (B:=B) (C:=C) (F:=F) (Y:=gK s a) (Y':=gK s a) (w:=w) (w':=w) (A:=A) (c:=c) (E:=E) (e':=e') jC.out (fun s1 g1 hr=>by have hq:=HKK.out;exact⟨fun hh=>by omega,fun hh=>by omega,fun hh=>by omega,fun _=>hr,fun hh=>by omega,fun hh=>by omega,fun hh=>by omega⟩))
 ·have HKK:=hid hk
  rw[hk] at sF
  go_wp2_with fail
  refine(Core.kK B _ C s a.id a.v HA.out.2.1 HA.out.2.2.1 _ HN.out).mono ?_
  rintro e w2 ⟨code,A,c,E,e',s2,gs,ps,rfl,hy,hch,ho1,ho2,hkb,hcs⟩
  have HY:=hid hy
  have iB:=hid hch
  have jB:=hid ho1
  have ig:=hid ho2
  have HK:=hid hkb
  have jC:=hid hcs
  have HR2:=hid ((aY.out.cs 1 rfl).aG hch (by have:=iV.out;simp;omega))
  clear hy hch ho1 ho2 hkb hcs a0 a1 a2 a3 a4
  go_wp2_with (first|((with_reducible refine bg 36 [.slice A gs.length c, .slice E ps.length e'] dn rfl (.tmp 4) (.tmp 72) rfl (w.heap.size+1) 0 _ HR2.out ?_ ?_ ?_ ?_ ?_ ?_);(iterate 5 (·first|rfl|simp|decide));(intro W2 hW2);(have iT:Hid (Cs W2 (w.heap.size+1) [.slice A gs.length c, .slice E ps.length e']):=hid (by rw[hW2];exact Cs.bH _ 0 HR2.out (by simp)));(have gH:=hid (ax.eqs hW2));(clear hW2))|fail)
  obtain⟨z0,z1⟩:=iT.out.two
  go_wp2_with fail
  refine bodyPost_ret (v:= .tuple #[.agg #[.slice A gs.length c, .slice E ps.length e'], .int .i64 code]) (by simp[results,Tryz.results8,go_sem,z0,z1]) rfl ?_
  exact iq.fin (X:=[]) (G:=[w.heap.size+1]) (mk:=fun r c=> .tuple #[r,c]) (M:=[w.heap.size+1]) aY.out.jv (by simp) (fun g hg=>by simp only[List.mem_singleton] at hg;subst hg;exact⟨by omega,(aY.out.1 1 _ _ rfl).2.2,by simp⟩) (Y:=gK s a) (by have hq:=HKK.out;exact⟨fun hh=>by omega,fun hh=>by omega,fun hh=>by omega,fun hh=>by omega,fun _=>HY.out,fun hh=>by omega,fun hh=>by omega⟩) iB.out gH.out (fun g hg f a c e=>by simp only[List.mem_singleton] at hg;subst hg;rw[HR2.out.aL] at e;cases e) jB.out ig.out HK.out (iq.weak (mk:=fun r c=> .tuple #[r,c]) (mk':=fun r c=> .tuple #[r,c]) (B:=B) (C:=C) (F:=F) (Y:=gK s a) (Y':=gK s a) (w:=w) (w':=w) (A:=A) (c:=c) (E:=E) (e':=e') jC.out (fun s1 g1 hr=>by have hq:=HKK.out;exact⟨fun hh=>by omega,fun hh=>by omega,fun hh=>by omega,fun hh=>by omega,fun _=>hr,fun hh=>by omega,fun hh=>by omega⟩))
 ·have HKK:=hid hk
  rw[hk] at sF
  go_wp2_with fail
  refine(Core.slice B _ C s a.id a.ns HA.out.2.1 HA.out.2.2.2.1 _ HN.out).mono ?_
  rintro e w2 ⟨code,A,c,E,e',s2,gs,ps,rfl,hy,hch,ho1,ho2,hkb,hcs⟩
  have HY:=hid hy
  have iB:=hid hch
  have jB:=hid ho1
  have ig:=hid ho2
  have HK:=hid hkb
  have jC:=hid hcs
  have HR2:=hid ((aY.out.cs 1 rfl).aG hch (by have:=iV.out;simp;omega))
  clear hy hch ho1 ho2 hkb hcs a0 a1 a2 a3 a4
  go_wp2_with (first|((with_reducible refine bg 36 [.slice A gs.length c, .slice E ps.length e'] dn rfl (.tmp 4) (.tmp 82) rfl (w.heap.size+1) 0 _ HR2.out ?_ ?_ ?_ ?_ ?_ ?_);(iterate 5 (·first|rfl|simp|decide));(intro W2 hW2);(have iT:Hid (Cs W2 (w.heap.size+1) [.slice A gs.length c, .slice E ps.length e']):=hid (by rw[hW2];exact Cs.bH _ 0 HR2.out (by simp)));(have gH:=hid (ax.eqs hW2));(clear hW2))|fail)
  obtain⟨z0,z1⟩:=iT.out.two
  go_wp2_with fail
  refine bodyPost_ret (v:= .tuple #[.agg #[.slice A gs.length c, .slice E ps.length e'], .int .i64 code]) (by simp[results,Tryz.results8,go_sem,z0,z1]) rfl ?_
  exact iq.fin (X:=[]) (G:=[w.heap.size+1]) (mk:=fun r c=> .tuple #[r,c]) (M:=[w.heap.size+1]) aY.out.jv (by simp) (fun g hg=>by simp only[List.mem_singleton] at hg;subst hg;exact⟨by omega,(aY.out.1 1 _ _ rfl).2.2,by simp⟩) (Y:=gK s a) (by have hq:=HKK.out;exact⟨fun hh=>by omega,fun hh=>by omega,fun hh=>by omega,fun hh=>by omega,fun hh=>by omega,fun _=>HY.out,fun hh=>by omega⟩) iB.out gH.out (fun g hg f a c e=>by simp only[List.mem_singleton] at hg;subst hg;rw[HR2.out.aL] at e;cases e) jB.out ig.out HK.out (iq.weak (mk:=fun r c=> .tuple #[r,c]) (mk':=fun r c=> .tuple #[r,c]) (B:=B) (C:=C) (F:=F) (Y:=gK s a) (Y':=gK s a) (w:=w) (w':=w) (A:=A) (c:=c) (E:=E) (e':=e') jC.out (fun s1 g1 hr=>by have hq:=HKK.out;exact⟨fun hh=>by omega,fun hh=>by omega,fun hh=>by omega,fun hh=>by omega,fun hh=>by omega,fun _=>hr,fun hh=>by omega⟩))
 ·rcases hk with hk|hk|hk
  ·have HKK:=hid hk
   rw[hk] at sF
   go_wp2_with fail
   refine(Core.tick B _ C s a.ns HA.out.2.2.2.1 P9.out (zA.out (by have:=HKK.out;omega)) _ HN.out).mono ?_
   rintro e w2 ⟨code,A,c,E,e',s2,gs,ps,rfl,hy,hch,ho1,ho2,hkb,hcs⟩
   have HY:=hid hy
   have iB:=hid hch
   have jB:=hid ho1
   have ig:=hid ho2
   have HK:=hid hkb
   have jC:=hid hcs
   have HR2:=hid ((aY.out.cs 1 rfl).aG hch (by have:=iV.out;simp;omega))
   clear hy hch ho1 ho2 hkb hcs a0 a1 a2 a3 a4
   go_wp2_with (first|((with_reducible refine bg 36 [.slice A gs.length c, .slice E ps.length e'] dn rfl (.tmp 4) (.tmp 88) rfl (w.heap.size+1) 0 _ HR2.out ?_ ?_ ?_ ?_ ?_ ?_);(iterate 5 (·first|rfl|simp|decide));(intro W2 hW2);(have iT:Hid (Cs W2 (w.heap.size+1) [.slice A gs.length c, .slice E ps.length e']):=hid (by rw[hW2];exact Cs.bH _ 0 HR2.out (by simp)));(have gH:=hid (ax.eqs hW2));(clear hW2))|fail)
   obtain⟨z0,z1⟩:=iT.out.two
   go_wp2_with fail
   refine bodyPost_ret (v:= .tuple #[.agg #[.slice A gs.length c, .slice E ps.length e'], .int .i64 code]) (by simp[results,Tryz.results8,go_sem,z0,z1]) rfl ?_
   exact iq.fin (X:=[]) (G:=[w.heap.size+1]) (mk:=fun r c=> .tuple #[r,c]) (M:=[w.heap.size+1]) aY.out.jv (by simp) (fun g hg=>by simp only[List.mem_singleton] at hg;subst hg;exact⟨by omega,(aY.out.1 1 _ _ rfl).2.2,by simp⟩) (Y:=gK s a) (by have hq:=HKK.out;exact⟨fun hh=>by omega,fun hh=>by omega,fun hh=>by omega,fun hh=>by omega,fun hh=>by omega,fun hh=>by omega,fun _=>HY.out⟩) iB.out gH.out (fun g hg f a c e=>by simp only[List.mem_singleton] at hg;subst hg;rw[HR2.out.aL] at e;cases e) jB.out ig.out HK.out (iq.weak (mk:=fun r c=> .tuple #[r,c]) (mk':=fun r c=> .tuple #[r,c]) (B:=B) (C:=C) (F:=F) (Y:=gK s a) (Y':=gK s a) (w:=w) (w':=w) (A:=A) (c:=c) (E:=E) (e':=e') jC.out (fun s1 g1 hr=>by have hq:=HKK.out;exact⟨fun hh=>by omega,fun hh=>by omega,fun hh=>by omega,fun hh=>by omega,fun hh=>by omega,fun hh=>by omega,fun _=>hr⟩))
  ·have HKK:=hid hk
   rw[hk] at sF
   go_wp2_with fail
   refine(Core.tick B _ C s a.ns HA.out.2.2.2.1 P9.out (zA.out (by have:=HKK.out;omega)) _ HN.out).mono ?_
   rintro e w2 ⟨code,A,c,E,e',s2,gs,ps,rfl,hy,hch,ho1,ho2,hkb,hcs⟩
   have HY:=hid hy
   have iB:=hid hch
   have jB:=hid ho1
   have ig:=hid ho2
   have HK:=hid hkb
   have jC:=hid hcs
   have HR2:=hid ((aY.out.cs 1 rfl).aG hch (by have:=iV.out;simp;omega))
   clear hy hch ho1 ho2 hkb hcs a0 a1 a2 a3 a4
   go_wp2_with (first|((with_reducible refine bg 36 [.slice A gs.length c, .slice E ps.length e'] dn rfl (.tmp 4) (.tmp 88) rfl (w.heap.size+1) 0 _ HR2.out ?_ ?_ ?_ ?_ ?_ ?_);(iterate 5 (·first|rfl|simp|decide));(intro W2 hW2);(have iT:Hid (Cs W2 (w.heap.size+1) [.slice A gs.length c, .slice E ps.length e']):=hid (by rw[hW2];exact Cs.bH _ 0 HR2.out (by simp)));(have gH:=hid (ax.eqs hW2));(clear hW2))|fail)
   obtain⟨z0,z1⟩:=iT.out.two
   go_wp2_with fail
   refine bodyPost_ret (v:= .tuple #[.agg #[.slice A gs.length c, .slice E ps.length e'], .int .i64 code]) (by simp[results,Tryz.results8,go_sem,z0,z1]) rfl ?_
   exact iq.fin (X:=[]) (G:=[w.heap.size+1]) (mk:=fun r c=> .tuple #[r,c]) (M:=[w.heap.size+1]) aY.out.jv (by simp) (fun g hg=>by simp only[List.mem_singleton] at hg;subst hg;exact⟨by omega,(aY.out.1 1 _ _ rfl).2.2,by simp⟩) (Y:=gK s a) (by have hq:=HKK.out;exact⟨fun hh=>by omega,fun hh=>by omega,fun hh=>by omega,fun hh=>by omega,fun hh=>by omega,fun hh=>by omega,fun _=>HY.out⟩) iB.out gH.out (fun g hg f a c e=>by simp only[List.mem_singleton] at hg;subst hg;rw[HR2.out.aL] at e;cases e) jB.out ig.out HK.out (iq.weak (mk:=fun r c=> .tuple #[r,c]) (mk':=fun r c=> .tuple #[r,c]) (B:=B) (C:=C) (F:=F) (Y:=gK s a) (Y':=gK s a) (w:=w) (w':=w) (A:=A) (c:=c) (E:=E) (e':=e') jC.out (fun s1 g1 hr=>by have hq:=HKK.out;exact⟨fun hh=>by omega,fun hh=>by omega,fun hh=>by omega,fun hh=>by omega,fun hh=>by omega,fun hh=>by omega,fun _=>hr⟩))
  ·have HKK:=hid hk
   rw[hk] at sF
   go_wp2_with fail
   refine(Core.tick B _ C s a.ns HA.out.2.2.2.1 P9.out (zA.out (by have:=HKK.out;omega)) _ HN.out).mono ?_
   rintro e w2 ⟨code,A,c,E,e',s2,gs,ps,rfl,hy,hch,ho1,ho2,hkb,hcs⟩
   have HY:=hid hy
   have iB:=hid hch
   have jB:=hid ho1
   have ig:=hid ho2
   have HK:=hid hkb
   have jC:=hid hcs
   have HR2:=hid ((aY.out.cs 1 rfl).aG hch (by have:=iV.out;simp;omega))
   clear hy hch ho1 ho2 hkb hcs a0 a1 a2 a3 a4
   go_wp2_with (first|((with_reducible refine bg 36 [.slice A gs.length c, .slice E ps.length e'] dn rfl (.tmp 4) (.tmp 88) rfl (w.heap.size+1) 0 _ HR2.out ?_ ?_ ?_ ?_ ?_ ?_);(iterate 5 (·first|rfl|simp|decide));(intro W2 hW2);(have iT:Hid (Cs W2 (w.heap.size+1) [.slice A gs.length c, .slice E ps.length e']):=hid (by rw[hW2];exact Cs.bH _ 0 HR2.out (by simp)));(have gH:=hid (ax.eqs hW2));(clear hW2))|fail)
   obtain⟨z0,z1⟩:=iT.out.two
   go_wp2_with fail
   refine bodyPost_ret (v:= .tuple #[.agg #[.slice A gs.length c, .slice E ps.length e'], .int .i64 code]) (by simp[results,Tryz.results8,go_sem,z0,z1]) rfl ?_
   exact iq.fin (X:=[]) (G:=[w.heap.size+1]) (mk:=fun r c=> .tuple #[r,c]) (M:=[w.heap.size+1]) aY.out.jv (by simp) (fun g hg=>by simp only[List.mem_singleton] at hg;subst hg;exact⟨by omega,(aY.out.1 1 _ _ rfl).2.2,by simp⟩) (Y:=gK s a) (by have hq:=HKK.out;exact⟨fun hh=>by omega,fun hh=>by omega,fun hh=>by omega,fun hh=>by omega,fun hh=>by omega,fun hh=>by omega,fun _=>HY.out⟩) iB.out gH.out (fun g hg f a c e=>by simp only[List.mem_singleton] at hg;subst hg;rw[HR2.out.aL] at e;cases e) jB.out ig.out HK.out (iq.weak (mk:=fun r c=> .tuple #[r,c]) (mk':=fun r c=> .tuple #[r,c]) (B:=B) (C:=C) (F:=F) (Y:=gK s a) (Y':=gK s a) (w:=w) (w':=w) (A:=A) (c:=c) (E:=E) (e':=e') jC.out (fun s1 g1 hr=>by have hq:=HKK.out;exact⟨fun hh=>by omega,fun hh=>by omega,fun hh=>by omega,fun hh=>by omega,fun hh=>by omega,fun hh=>by omega,fun _=>hr⟩))
end


section
open Go.RowKit
abbrev Ax.no:Ax:=⟨0,0,0,0,0⟩
def nY (p:Int×Int) (a:Ax):Int×Int:=if 6<a.d%10∧a.ns≤1099511627776 then(p.1,p.2+a.ns) else if (a.d%10<2∨a.d%10=6)∧1≤a.ns then(min p.1 a.ns,p.2) else p
def je (l:List Ax):Int×Int:=l.foldl nY (1099511627776,0)
def CF (l:List Ax):Bool:=decide (l.length≤40)&&decide ((je l).2/(je l).1≤400)
theorem tQ (l:List Ax) (a:Ax):je (l++[a])=nY (je l) a:=by unfold je;rw[List.foldl_append];rfl
theorem Te {α:Type} {P:List α→Prop} (h0:P []) (h1:∀l a,P l→P (l++[a])) (l:List α):P l:=by
 have h:∀k:List α,P k.reverse:=by
  intro k
  induction k with
  |nil=>exact h0
  |cons a k ih=>rw[List.reverse_cons];exact h1 _ _ ih
 have h2:=h l.reverse
 rwa [List.reverse_reverse] at h2
theorem Ig (l:List Ax):(∀a∈l,a.In)→(1≤(je l).1∧(je l).1≤1099511627776)∧0≤(je l).2∧(je l).2≤1099511627776*l.length:=by
 induction l using Te with
 |h0=>intro _;unfold je;simp
 |h1 l a ih=>
  intro h
  have h1:=ih (fun x hx=>h x (by simp[hx]))
  have h2:=(h a (by simp)).2.2.2.1
  rw[tQ,List.length_append]
  unfold nY
  unfold eZ at h2
  simp only[List.length_singleton]
  split
  ·rename_i hc
   simp only
   omega
  ·split
   ·rename_i hc
    simp only
    omega
   ·omega
theorem OI (l k:List Ax):(∀a∈l++k,a.In)→(je (l++k)).1≤(je l).1∧(je l).2≤(je (l++k)).2:=by
 induction k using Te with
 |h0=>intro _;simp
 |h1 k a ih=>
  intro h
  have h1:=ih (fun x hx=>h x (by simp at hx⊢;rcases hx with h|h<;>simp[h]))
  have h2:=(h a (by simp)).2.2.2.1
  unfold eZ at h2
  rw[←List.append_assoc,tQ]
  unfold nY
  split
  ·simp only;omega
  ·split
   ·simp only;omega
   ·exact h1
theorem Rs {l:List Ax} (h:CF l=true) (hi:∀a∈l,a.In):∃m,1≤m∧(∀a∈l,(a.d%10<2∨a.d%10=6)→1≤a.ns→m≤a.ns)∧∀a∈l,6<a.d%10→a.ns≤1099511627776→a.ns≤401*m:=by
 unfold CF at h
 simp only[Bool.and_eq_true,decide_eq_true_eq] at h
 have hb:=Ig l hi
 refine⟨(je l).1,hb.1.1,fun a ha hk hn=> ?_,fun a ha hk hn=> ?_⟩
 ·obtain⟨x,y,rfl⟩:=List.append_of_mem ha
  have h1:=(OI (x++[a]) y (by simpa using hi)).1
  rw[tQ] at h1
  have e:x++[a]++y=x++a::y:=by simp
  rw[e] at h1
  refine Int.le_trans h1 ?_
  unfold nY
  rw[if_neg (by omega),if_pos ⟨hk,hn⟩]
  exact Int.min_le_right _ _
 ·have h2:(je l).2<401*(je l).1:=by
   have:=Int.lt_ediv_add_one_mul_self (je l).2 (show 0<(je l).1 by omega)
   have h3:((je l).2/(je l).1+1)*(je l).1≤401*(je l).1:=Int.mul_le_mul_of_nonneg_right (by omega) (by omega)
   omega
  obtain⟨x,y,rfl⟩:=List.append_of_mem ha
  have h1:=(OI (x++[a]) y (by simpa using hi)).2
  rw[tQ] at h1
  have e:x++[a]++y=x++a::y:=by simp
  rw[e] at h1
  have h4:=(Ig x (fun b hb=>hi b (by simp[hb]))).2.1
  unfold nY at h1
  rw[if_pos ⟨hk,hn⟩] at h1
  simp only at h1
  omega
set_option maxRecDepth 100000 in
set_option maxHeartbeats 8000000 in
theorem Nb.Zg (A:Option Addr) (n c:Nat) (l:List Ax) (w:World) (hr:yz Ax.cells 5 Ax.no w A n l) (hi:∀a∈l,a.In) (hn:n≤9223372036854775807):Calls Tryz.prog 5 #[.slice A n c] w (aV (.bool (CF l)) w):=by
 have hl:=hr.1
 by_cases h40:40<n
 ·have h1:(40:Int)<n:=by omega
  have HB:Hid (CF l=false):=hid (by unfold CF;rw[hl];simp;omega)
  clear hr hi hn
  go_enter Tryz.func5,Tryz.ntmps5
  go_wp2_with fail
  go_ret
  exact⟨by rw[HB.out]<;>rfl,Below.refl _ _⟩
 have h1:¬(40:Int)<n:=by omega
 have aao:(n:Int)≤40:=by omega
 have HR:=hid hr
 have HI:=hid hi
 have HL:=hid hl
 have H40:=hid h40
 clear hr hi hl hn h40
 go_enter Tryz.func5,Tryz.ntmps5
 go_wp2_with fail
 go_loopg [3,4,13] n (fun m u t i wr=>∃k:Nat,u= .int .u64 (je (l.take k)).1∧t= .int .u64 (je (l.take k)).2∧i= .int .i64 k∧k≤n∧m=n-k∧Below w.heap.size w wr)
 case atStart=>exact⟨0,rfl,rfl,rfl,Nat.zero_le _,by omega,Below.refl _ _⟩
 case round=>
  obtain⟨k,rfl,rfl,rfl,hk,hm,hb⟩:=hrel
  have HM:=hid hm
  have HB:=hid hb
  have hbd:=Ig (l.take k) (fun a ha=>HI.out a (List.mem_of_mem_take ha))
  have FX:Hid ((1≤(je (l.take k)).1∧(je (l.take k)).1≤1099511627776)∧0≤(je (l.take k)).2∧(je (l.take k)).2≤43980465111040):=hid (by have h4:(l.take k).length≤40:=(by rw[List.length_take];omega);omega)
  clear hm hb hbd
  by_cases hkn:k<n
  ·obtain⟨bb,off,rfl,_,hc⟩:=(HR.out.below HB.out).2 (by omega)
   obtain⟨p0,p1,p2,p3,p4⟩:wr.cell? ⟨bb,off+k*5,none⟩=some (.int .u8 (l.getD k Ax.no).d)∧wr.cell? ⟨bb,off+k*5+1,none⟩=some (.int .i64 (l.getD k Ax.no).id)∧wr.cell? ⟨bb,off+k*5+2,none⟩=some (.int .u32 (l.getD k Ax.no).v)∧wr.cell? ⟨bb,off+k*5+3,none⟩=some (.int .u64 (l.getD k Ax.no).ns)∧wr.cell? ⟨bb,off+k*5+4,none⟩=some (.int .i64 (l.getD k Ax.no).lag):=⟨hc k hkn 0 _ rfl,hc k hkn 1 _ rfl,hc k hkn 2 _ rfl,hc k hkn 3 _ rfl,hc k hkn 4 _ rfl⟩
   have HS:Hid (je (l.take (k+1))=nY (je (l.take k)) (l.getD k Ax.no)):=hid (by rw[(takeD l Ax.no (by rw[HL.out];exact hkn)).1,tQ])
   have ek:=hid (HI.out _ (takeD l Ax.no (by rw[HL.out];exact hkn)).2)
   generalize l.getD k Ax.no=x at *
   generalize je (l.take k)=p at *
   obtain⟨Aj,E8⟩:=p
   dsimp only at FX⊢
   have hki:(k:Int)<n:=by omega
   have hk0:(0:Int)≤k:=by omega
   have qm:=hid hkn
   clear hc hkn
   have hal:=(Below.refl wr.heap.size wr).alloc (Nat.le_refl _) (.cells #[.int .u8 x.d, .int .i64 x.id, .int .u32 x.v, .int .u64 x.ns, .int .i64 x.lag] 31)
   have HX:Hid (Cs (wr.alloc (.cells #[.int .u8 x.d, .int .i64 x.id, .int .u32 x.v, .int .u64 x.ns, .int .i64 x.lag] 31)) wr.heap.size x.cells):=hid (Cs.bL wr 31 x.cells)
   have HB2:=hid (ai HB.out hal)
   clear hal
   go_upto_region 7 with fail
   generalize (wr.alloc (.cells #[.int .u8 x.d, .int .i64 x.id, .int .u32 x.v, .int .u64 x.ns, .int .i64 x.lag] 31))=W2 at HX HB2⊢
   generalize wr.heap.size=gx at HX⊢
   clear p0 p1 p2 p3 p4
   have x0:=(HX.out 0 _ rfl).1
   have x3:=(HX.out 3 _ rfl).1
   have sF:x.d.tmod 10=x.d%10:=Int.tmod_eq_emod_of_nonneg ek.out.1.1
   obtain⟨kk,hkk⟩:∃kk,kk=x.d%10:=⟨_,rfl⟩
   rw[←hkk] at sF
   have HKK:=hid hkk
   have YB:Hid (0≤kk∧kk≤9):=hid (by omega)
   clear hkk
   by_cases c6:6<kk
   ·have g6:kk>6:=c6
    have n2:¬kk<2:=by omega
    have n6:(kk == 6)=false:=by rw[beq_eq_false_iff_ne];omega
    have H6:=hid c6
    clear c6
    by_cases hns:x.ns≤1099511627776
    ·have eG:=hid hns
     have hwr:IntKind.u64.wrap (E8+x.ns)=E8+x.ns:=by have:=FX.out;have:=ek.out.2.2.2.1;unfold eZ at this;rw[IntKind.wrap_u64];omega
     go_wp2_with fail
     go_roundg (n-(k+1))
     case measure=>have:=HM.out;have:=qm.out;omega
     case rel=>exact⟨k+1,by rw[HS.out];unfold nY;rw[if_pos ⟨by have:=HKK.out;have:=H6.out;omega,eG.out⟩],by rw[HS.out];unfold nY;rw[if_pos ⟨by have:=HKK.out;have:=H6.out;omega,eG.out⟩],by simp,qm.out,rfl,HB2.out⟩
    ·have eG:=hid hns
     go_wp2_with fail
     go_roundg (n-(k+1))
     case measure=>have:=HM.out;have:=qm.out;omega
     case rel=>exact⟨k+1,by rw[HS.out];unfold nY;rw[if_neg (fun h=>by have:=eG.out;omega),if_neg (fun h=>by have:=HKK.out;have:=H6.out;omega)],by rw[HS.out];unfold nY;rw[if_neg (fun h=>by have:=eG.out;omega),if_neg (fun h=>by have:=HKK.out;have:=H6.out;omega)],by simp,qm.out,rfl,HB2.out⟩
   ·have g6:¬kk>6:=c6
    have H6:=hid c6
    clear c6
    by_cases c2:kk<2
    ·have H2:=hid c2
     by_cases hns:1≤x.ns
     ·have eG:=hid hns
      have Xk:x.ns≥1:=hns
      go_wp2_with fail
      go_roundg (n-(k+1))
      case measure=>have:=HM.out;have:=qm.out;omega
      case rel=>exact⟨k+1,by rw[HS.out];unfold nY;rw[if_neg (fun h=>by have:=HKK.out;have:=H2.out;omega),if_pos ⟨Or.inl (by have:=HKK.out;have:=H2.out;omega),eG.out⟩],by rw[HS.out];unfold nY;rw[if_neg (fun h=>by have:=HKK.out;have:=H2.out;omega),if_pos ⟨Or.inl (by have:=HKK.out;have:=H2.out;omega),eG.out⟩],by simp,qm.out,rfl,HB2.out⟩
     ·have eG:=hid hns
      have Xk:¬x.ns≥1:=hns
      go_wp2_with fail
      go_roundg (n-(k+1))
      case measure=>have:=HM.out;have:=qm.out;omega
      case rel=>exact⟨k+1,by rw[HS.out];unfold nY;rw[if_neg (fun h=>by have:=HKK.out;have:=H2.out;omega),if_neg (fun h=>by have:=eG.out;omega)],by rw[HS.out];unfold nY;rw[if_neg (fun h=>by have:=HKK.out;have:=H2.out;omega),if_neg (fun h=>by have:=eG.out;omega)],by simp,qm.out,rfl,HB2.out⟩
    ·by_cases PI:kk=6
     ·have e6:(kk == 6)=true:=by rw[PI];rfl
      have DU:=hid PI
      clear PI
      by_cases hns:1≤x.ns
      ·have eG:=hid hns
       have Xk:x.ns≥1:=hns
       go_wp2_with fail
       go_roundg (n-(k+1))
       case measure=>have:=HM.out;have:=qm.out;omega
       case rel=>exact⟨k+1,by rw[HS.out];unfold nY;rw[if_neg (fun h=>by have:=HKK.out;have:=DU.out;omega),if_pos ⟨Or.inr (by have:=HKK.out;have:=DU.out;omega),eG.out⟩],by rw[HS.out];unfold nY;rw[if_neg (fun h=>by have:=HKK.out;have:=DU.out;omega),if_pos ⟨Or.inr (by have:=HKK.out;have:=DU.out;omega),eG.out⟩],by simp,qm.out,rfl,HB2.out⟩
      ·have eG:=hid hns
       have Xk:¬x.ns≥1:=hns
       go_wp2_with fail
       go_roundg (n-(k+1))
       case measure=>have:=HM.out;have:=qm.out;omega
       case rel=>exact⟨k+1,by rw[HS.out];unfold nY;rw[if_neg (fun h=>by have:=HKK.out;have:=DU.out;omega),if_neg (fun h=>by have:=eG.out;omega)],by rw[HS.out];unfold nY;rw[if_neg (fun h=>by have:=HKK.out;have:=DU.out;omega),if_neg (fun h=>by have:=eG.out;omega)],by simp,qm.out,rfl,HB2.out⟩
     ·have e6:(kk == 6)=false:=by rw[beq_eq_false_iff_ne];exact PI
      have DU:=hid PI
      have H2:=hid c2
      go_wp2_with fail
      go_roundg (n-(k+1))
      case measure=>have:=HM.out;have:=qm.out;omega
      case rel=>exact⟨k+1,by rw[HS.out];unfold nY;rw[if_neg (fun h=>by have:=HKK.out;have:=H6.out;omega),if_neg (fun h=>by have:=HKK.out;have:=DU.out;have:=H2.out;omega)],by rw[HS.out];unfold nY;rw[if_neg (fun h=>by have:=HKK.out;have:=H6.out;omega),if_neg (fun h=>by have:=HKK.out;have:=DU.out;have:=H2.out;omega)],by simp,qm.out,rfl,HB2.out⟩
  ·obtain rfl:k=n:=by omega
   rw[show l.take k=l by rw[←HL.out,List.take_length]] at FX⊢
   have HE:Hid (CF l=decide ((je l).2/(je l).1≤400)):=hid (by unfold CF;rw[HL.out,show decide (k≤40)=true by simp;omega];rfl)
   generalize je l=p at *
   obtain⟨Aj,E8⟩:=p
   dsimp only at FX HE⊢
   have hp0:(Aj == 0)=false:=by rw[beq_eq_false_iff_ne];have:=FX.out;omega
   have hp1:¬Aj=0:=by have:=FX.out;omega
   have htd:E8.tdiv Aj=E8/Aj:=Int.tdiv_eq_ediv_of_nonneg FX.out.2.1
   have hki:¬(k:Int)<k:=by omega
   have hwq:IntKind.u64.wrap (E8/Aj)=E8/Aj:=by have h1:=FX.out;rw[IntKind.wrap_u64];have h2:=Int.ediv_nonneg h1.2.1 (show 0≤Aj by omega);have h3:=Int.ediv_le_self Aj h1.2.1;omega
   by_cases h4:E8/Aj≤400
   ·have H4:=hid h4
    go_wp2_with fail
    go_ret
    exact⟨by rw[HE.out,decide_eq_true H4.out]<;>rfl,HB.out⟩
   ·have H4:=hid h4
    go_wp2_with fail
    go_ret
    exact⟨by rw[HE.out,decide_eq_false (Int.not_le.2 H4.out)]<;>rfl,HB.out⟩
def iC (l:List Rq):Nat:=(l.filter fun y=> !(y.l == y.s)).length
def xu (y:Rq):Nat:=if y.l=y.s then 0 else 1
theorem ru (y:Rq) (l:List Rq):iC (y::l)=xu y+iC l:=by
 unfold iC xu
 by_cases h:y.l=y.s
 ·rw[List.filter_cons_of_neg (by simp[h]),if_pos h];omega
 ·rw[List.filter_cons_of_pos (by simp[h]),if_neg h,List.length_cons];omega
theorem Bc {y:Rq}:∀{l:List Rq},y∈l→iC (iO y.a.i l)+xu y≤iC l∧(iO y.a.i l).length+1≤l.length
 |[],h=>by cases h
 |x::l,h=>by
  have hle:∀k:List Rq,iC (iO y.a.i k)≤iC k∧(iO y.a.i k).length≤k.length:=fun k=>
   ⟨(List.Sublist.filter _ List.filter_sublist).length_le,List.length_filter_le _ _⟩
  unfold iO
  rcases List.mem_cons.1 h with rfl|h
  ·rw[List.filter_cons_of_neg (by simp),ru]
   have:=hle l
   unfold iO at this
   simp only[List.length_cons]
   omega
  ·have ih:=Bc h
   unfold iO at ih
   by_cases hx:x.a.i=y.a.i
   ·rw[List.filter_cons_of_neg (by simp[hx]),ru]
    simp only[List.length_cons]
    omega
   ·rw[List.filter_cons_of_pos (by simp[hx]),ru,ru]
    simp only[List.length_cons]
    omega
theorem uy.few {b b1:Int} {L L1:List It} {l l1:List Rq} {gs:List Gn} (h:uy b L l gs b1 L1 l1):l1.length+gs.length≤l.length∧(∀y∈l1,y∈l)∧iC l1≤iC l:=by
 induction h with
 |nil=>exact⟨by simp,fun y h=>h,Nat.le_refl _⟩
 |snoc hf hp hs hg ih=>
  have hm:=hp.mem_iff.1 (Qu hg)
  have h1:=Bc hm
  refine⟨by simp only[List.length_append,List.length_singleton];omega,fun y hy=>ih.2.1 y (jK y hy).1,by omega⟩
theorem nT.few {s s':KS} {gs:List Gn} (h:nT s gs s'):s'.l.length+gs.length≤s.l.length∧(∀y∈s'.l,y∈s.l)∧iC s'.l≤iC s.l:=by
 obtain⟨_,_,_,hf,_⟩:=h
 exact hf.few
theorem Ci {b:Int} {L:List It} {r:Rq} (h:gP b L r=0):r.right=true:=by
 unfold gP at h
 cases hr:r.right with
 |true=>rfl
 |false=>rw[hr] at h;exact absurd h (by simp)
theorem QI {b:Int} {L:List It} {y:Rq} {left:Int} (h:gP b L (ik y left)=0):(ik y left).a.i=y.a.i∧(ik y left).s=y.s∧(ik y left).l=(if y.l=nN y left then y.s else y.l-nN y left)∧1≤nN y left∧nN y left≤y.l:=by
 have hr:=Ci h
 unfold ik Rq.serve at hr⊢
 split at hr
 ·rename_i hs
  rw[if_pos hs]
  have hs2:=hs
  unfold Rq.sM at hs2
  simp only[Bool.and_eq_true,decide_eq_true_eq] at hs2
  simp only at hr⊢
  unfold Rq.iR at hr⊢
  split at hr
  ·rename_i hw
   rw[if_pos hw]
   exact⟨rfl,rfl,rfl,hs2.2⟩
  ·exact absurd hr (by decide)
 ·exact absurd hr (by decide)
theorem qA.bound {s s':KS} {ns m left:Int} {gs:List Gn} {ps:List Pt} (h:qA s ns s' left gs ps) (hm:1≤m) (hs:∀y∈s.l,m≤y.s):s'.l.length+gs.length≤s.l.length∧(∀y∈s'.l,m≤y.s)∧m*ps.length≤(ns-left)+m*((iC s.l:Int)-iC s'.l)+(if left≤0 then 2*m else 0):=by
 induction h with
 |nil=>
  refine⟨by simp,hs,?_⟩
  simp only[List.length_nil]
  split<;>simp<;>omega
 |snoc h0 hl hr hy hye hc hset ih=>
  rename_i s1 s2 left gs g2 ps y
  obtain⟨i1,i2,i3⟩:=ih
  obtain⟨f1,f2,f3⟩:=hset.few
  obtain⟨k1,k2,k3,k4,k5⟩:=QI hc
  have hput:(s1.put (ik y left)).l=ik y left::iO y.a.i s1.l:=by
   show vC _ _ _ _=_
   unfold vC
   rw[if_pos hc,k1]
  have h5:=Bc hy
  rw[hput] at f1 f2 f3
  rw[ru] at f3
  rw[if_neg (by omega)] at i3
  have hys:=i2 y hy
  have hN:(qG y left).n=nN y left:=rfl
  refine⟨by simp only[List.length_append,List.length_cons] at f1⊢;omega,fun z hz=> ?_,?_⟩
  ·rcases List.mem_cons.1 (f2 z hz) with rfl|hz'
   ·rw[k2];exact hys
   ·exact i2 z (jK z hz').1
  ·rw[hN,List.length_append,List.length_singleton]
   have e:m*((ps.length+1:Nat):Int)=m*ps.length+m:=by rw[Int.natCast_add,Int.mul_add];simp
   rw[e]
   have hmu:∀{a b:Int},a≤b→m*a≤m*b:=fun h=>Int.mul_le_mul_of_nonneg_left h (by omega)
   by_cases hfull:y.l=nN y left
   ·rw[if_pos hfull] at k3
    have hr0:xu (ik y left)=0:=by unfold xu;rw[if_pos (by rw[k3,k2])]
    by_cases hp:y.l=y.s
    ·have h6:=hmu (show((iC s.l:Int)-iC s1.l)≤(iC s.l:Int)-iC s2.l by omega)
     split<;>omega
    ·have hp1:xu y=1:=by unfold xu;rw[if_neg hp]
     have h6:=hmu (show((iC s.l:Int)-iC s1.l)+1≤(iC s.l:Int)-iC s2.l by omega)
     rw[Int.mul_add] at h6
     split<;>omega
   ·have hle:nN y left=left:=by unfold nN at hfull⊢;omega
    have hr1:xu (ik y left)≤1:=by unfold xu;split<;>omega
    have h6:=hmu (show((iC s.l:Int)-iC s1.l)-1≤(iC s.l:Int)-iC s2.l by omega)
    rw[Int.mul_sub] at h6
    rw[if_pos (by omega)]
    omega
theorem qA.U1 {s s':KS} {ns left:Int} {gs:List Gn} {ps:List Pt} (h:qA s ns s' left gs ps) (hns:0≤ns):0≤left:=by
 cases h with
 |nil=>exact hns
 |snoc h0 hl hr hy hye hc hset=>
  rename_i s1 left gs g2 ps y
  have hN:(qG y left).n=nN y left:=rfl
  rw[hN]
  unfold nN
  omega
theorem qA.few {s:KS} {ns m:Int} (hm:1≤m) (hs:∀y∈s.l,m≤y.s) (h32:s.l.length≤32) (abl:ns≤401*m) (hns:0≤ns):∀s' left gs ps,qA s ns s' left gs ps→gs.length≤900∧ps.length≤900000:=fun s' left gs ps h=>by
 obtain⟨h1,_,h3⟩:=h.bound hm hs
 refine⟨by omega,?_⟩
 have hu:iC s.l≤32:=Nat.le_trans (List.length_filter_le _ _) h32
 have hl:=h.U1 hns
 have h4:m*((iC s.l:Int)-iC s'.l)≤m*32:=Int.mul_le_mul_of_nonneg_left (by omega) (by omega)
 have h5:m*(ps.length:Int)≤m*435:=by
  split at h3<;>omega
 have h6:=Int.le_of_mul_le_mul_left h5 (by omega)
 omega
end


section
open Go.RowKit
def nJ (m:Int) (s:KS):Prop:=∀y∈s.l,m≤y.s
theorem LP {r:Rq} (h:(r.iR).1.right=true):(r.iR).1=r:=by
 unfold Rq.iR at h⊢
 split
 ·rfl
 ·rename_i hn
  rw[if_neg hn] at h
  exact absurd h (by decide)
theorem nJ.Jb {m:Int} {s:KS} (h:nJ m s) {r:Rq} (hr:r.right=true→m≤r.s):nJ m (s.Jb r):=fun y hy=>by
 have hy':y∈vH s.b s.L s.l r:=hy
 unfold vH at hy'
 split at hy'
 ·rename_i hc
  rcases List.mem_cons.1 hy' with rfl|hy'
  ·exact hr (Dc hc)
  ·exact h y hy'
 ·exact h y hy'
theorem nJ.put {m:Int} {s:KS} (h:nJ m s) {r:Rq} (hr:r.right=true→m≤r.s):nJ m (s.put r):=fun y hy=>by
 have hy':y∈vC s.b s.L s.l r:=hy
 unfold vC at hy'
 split at hy'
 ·rename_i hc
  rcases List.mem_cons.1 hy' with rfl|hy'
  ·exact hr (Ci hc)
  ·exact h y (jK y hy').1
 ·exact h y hy'
theorem nJ.Ii {m:Int} {s:KS} (h:nJ m s) (y:Rq):nJ m (s.Ii y):=fun z hz=>h z (jK z hz).1
theorem nJ.KI {m:Int} {s:KS} (h:nJ m s) (id:Int) (z:Bool):nJ m (s.KI id z):=fun y hy=>by
 have hy':y∈Ho id z s.l:=hy
 unfold Ho at hy'
 cases hf:s.l.find? (fun x=>x.a.i == id) with
 |none=>rw[hf] at hy';exact h y hy'
 |some x=>
  rw[hf] at hy'
  have hx:=List.mem_of_find?_eq_some hf
  simp only[List.mem_cons] at hy'
  rcases hy' with rfl|hy'
  ·exact h x hx
  ·exact h y (jK y hy').1
theorem nJ.set {m:Int} {s s':KS} {gs:List Gn} (h:nJ m s) (hs:nT s gs s'):nJ m s':=fun y hy=>h y (hs.few.2.1 y hy)
theorem UW {y:Rq} {p:P3} (h:(y.moved p).1.right=true):(y.moved p).1.s=y.s:=by
 unfold Rq.moved at h⊢
 split
 ·rename_i hc
  rw[if_pos hc] at h
  rw[LP h]
  rfl
 ·rename_i hc
  rw[if_neg hc] at h
  exact absurd h (by decide)
theorem QP {y:Rq} {n:Int} (h:(y.sliced n).1.right=true):(y.sliced n).1.s=n∧1≤n:=by
 unfold Rq.sliced at h⊢
 split
 ·rename_i hc
  rw[if_pos hc] at h
  have e:=LP h
  rw[e] at h⊢
  refine⟨rfl,?_⟩
  unfold Rq.right at h
  simp only[Bool.and_eq_true] at h
  exact(vQ.1 h.1.2).1
 ·rename_i hc
  rw[if_neg hc] at h
  exact absurd h (by decide)
theorem Zc {p:P3} {id n:Int} (h:(Rq.new p id n).1.right=true):(Rq.new p id n).1.s=n∧1≤n:=by
 unfold Rq.new at h⊢
 have e:=LP h
 rw[e] at h⊢
 refine⟨rfl,?_⟩
 unfold Rq.right at h
 simp only[Bool.and_eq_true] at h
 exact(vQ.1 h.1.2).1
theorem EB.least {m:Int} {s s1:KS} {a:Ax} {gs:List Gn} {ps:List Pt} (hm:1≤m) (h:nJ m s) (ha:(a.d%10<2∨a.d%10=6)→1≤a.ns→m≤a.ns) (hr:EB s a s1 gs ps):nJ m s1:=by
 have hk:0≤a.d%10∧a.d%10<10:=⟨Int.emod_nonneg _ (by decide),Int.emod_lt_of_pos _ (by decide)⟩
 obtain⟨h0,h2,h3,h4,h5,h6,h7⟩:=hr
 by_cases c0:a.d%10<2
 ·obtain⟨_,_,rfl⟩:=h0 c0
  exact h.Jb (fun hr=>by have:=Zc hr;unfold Bg at *;rw[this.1];exact ha (Or.inl c0) this.2)
 by_cases c2:a.d%10=2
 ·obtain⟨_,_,_,rfl⟩:=h2 c2
  exact nJ.Ii (s:=s.Dk _) h _
 by_cases c3:a.d%10=3
 ·obtain⟨_,_,_,rfl⟩:=h3 c3
  split
  ·exact nJ.Ii (s:=s.Dk _) h _
  ·exact h.KI _ _
 by_cases c4:a.d%10=4
 ·obtain⟨_,_,rfl⟩:=h4 c4
  exact h.KI _ _
 by_cases c5:a.d%10=5
 ·obtain⟨_,_,ht,rfl⟩:=h5 c5
  exact nJ.put (s:=s.Dk _) h (fun hr=>by unfold GK at *;rw[UW hr];exact h _ (lH ht).1)
 by_cases c6:a.d%10=6
 ·obtain⟨_,_,_,rfl⟩:=h6 c6
  exact h.put (fun hr=>by have:=QP hr;rw[this.1];exact ha (Or.inr c6) this.2)
 ·obtain⟨_,left,ht,_⟩:=h7 (by omega)
  exact(ht.bound hm h).2.1
end


section
open Go.RowKit
theorem Ax.at {w:World} {g:Nat} (x:Ax) (h:Cs w g x.cells):w.cell? ⟨g,0,none⟩=some (.int .u8 x.d)∧w.cell? ⟨g,1,none⟩=some (.int .i64 x.id)∧w.cell? ⟨g,2,none⟩=some (.int .u32 x.v)∧w.cell? ⟨g,3,none⟩=some (.int .u64 x.ns)∧w.cell? ⟨g,4,none⟩=some (.int .i64 x.lag):=
 ⟨(h 0 _ rfl).1,(h 1 _ rfl).1,(h 2 _ rfl).1,(h 3 _ rfl).1,(h 4 _ rfl).1⟩
def K2 (w1:World) (F:List Nat) (C C1:Nat) (s s':KS) (w:World):Prop:=KB w1.heap.size F C s w∧KB 0 (C::F) C1 s' w∧Below w1.heap.size w1 w
abbrev Qx:=Int×(Option Addr×Nat)×(Option Addr×Nat)×KS×List Gn×List Pt
def acV (y:Qx):Value:= .tuple #[.agg #[.slice y.2.1.1 y.2.2.2.2.1.length y.2.1.2, .slice y.2.2.1.1 y.2.2.2.2.2.length y.2.2.1.2], .int .i64 y.1]
def aaZ (s:KS) (x:Ax) (y:Qx):Prop:=(y.1≠0∧y.2.2.2.1=s∧y.2.2.2.2.1=[]∧y.2.2.2.2.2=[])∨(y.1=0∧∃s1 g1 g2,EB s x s1 g1 y.2.2.2.2.2∧nT s1 g2 y.2.2.2.1∧y.2.2.2.2.1=g1++g2)
def K2R (w1:World) (F:List Nat) (C C1:Nat) (s s':KS) (x:Ax) (y:Qx) (w:World):Prop:=K2 w1 F C C1 y.2.2.2.1 s' w∧aaZ s x y
section
variable {w1 w w':World} {F G:List Nat} {C C1:Nat} {s s':KS} {x:Ax} {y:Qx}
theorem K2.below (h:K2 w1 F C C1 s s' w) (hb:Below w.heap.size w w'):K2 w1 F C C1 s s' w':=⟨h.1.below hb,h.2.1.below hb,ai h.2.2 hb⟩
theorem K2.ge (h:K2 w1 F C C1 s s' w):w1.heap.size≤C∧C<w.heap.size:=h.1.ge
theorem KB.aL {B:Nat} (h:KB B F C s w):∃S,w.cell? ⟨C,0,none⟩=some (.pointer (some ⟨S,0,none⟩)):=by
 obtain⟨S,q,mb,th,rb,t,ho⟩:=h.open_
 exact⟨S,ho.at.1.1⟩
theorem K2.fresh (h:K2 w1 F C C1 s s' w) {g:Nat} (hb:Below w.heap.size w w') (hg:w.heap.size≤g∧g<w'.heap.size):K2 w1 (g::F) C C1 s s' w':=
 ⟨h.1.fresh (G:=[g]) hb (fun j hj=>by simp only[List.mem_singleton] at hj;subst hj;exact hg),(h.2.1.fresh (G:=[g]) hb (fun j hj=>by simp only[List.mem_singleton] at hj;subst hj;exact hg)).less (fun j hj=>by simp only[List.mem_cons,List.cons_append,List.nil_append] at hj⊢;rcases hj with h|h|h<;>simp[h]),ai h.2.2 hb⟩
theorem K2.ZH (h:K2 w1 F C C1 s s' w) {e:Ending} (hc:iq (fun r c=> .tuple #[r,c]) w1.heap.size F C s (gK s x) (EB s x) w e w'):∃y:Qx,e= .returned (acV y)∧K2R w1 F C C1 s s' x y w'∧ax [C] w w':=by
 obtain⟨code,A,c,E,e',s2,gs,ps,he,_,hch,_,_,hkb,hcs⟩:=hc
 obtain⟨S,h0⟩:=h.1.aL
 have hC:=h.ge.1
 exact⟨(code,(A,c),(E,e'),s2,gs,ps),he,⟨⟨hkb.less (fun j hj=>by simp[hj]),h.2.1.away hch (fun g hg=>by simp only[List.mem_singleton] at hg;subst hg;exact Or.inr (by simp)) (fun g hg f a c e=>by
  simp only[List.mem_singleton] at hg
  subst hg
  rw[h0] at e
  cases e),Below.aG h.2.2 hch (fun g hg=>by simp only[List.mem_singleton] at hg;subst hg;exact hC)⟩,hcs⟩,hch⟩
end
theorem KB.XH {w1 w w':World} {C C1 S1 q1 kg dm nG:Nat} {t1:Tr It} {s:KS} (h:KB w1.heap.size [] C s w) (hw:Below w1.heap.size w1 w) (hl:t1.list=s.L) (hc:lV w' C1 S1 q1 kg dm nG s.run s.k s.b t1 s.l) (hg:∀g∈C1::fO S1 q1 kg dm nG t1,w.heap.size≤g) (hb:Below w.heap.size w w'):K2 w1 [] C C1 s s w':=by
 have hC:=h.ge.2
 obtain⟨S,q,mb,th,rb,t,ho⟩:=h.open_
 exact⟨h.below hb,⟨S1,q1,kg,dm,nG,t1,⟨hl,hc⟩,fun g hm=>⟨Nat.zero_le _,fun hx=>by
  simp only[List.mem_cons,List.not_mem_nil,or_false] at hx
  subst hx
  have:=hg _ hm
  omega⟩,fun j hj=>by
  simp only[List.mem_cons,List.not_mem_nil,or_false] at hj
  subst hj
  have:=hb.size
  omega,ho.2.2.2⟩,ai hw hb⟩
end

end Go.Proofs.YtnmbfjgcmfjdcaaGreatDoor

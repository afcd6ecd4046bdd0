/- Texts of CoreRefuses's proof, together. -/
import Derived.Test.YtnmbfjgcmfjdcaaGreatDoorCoreRefusesZ49
import Derived.Test.YtnmbfjgcmfjdcaaGreatDoorCoreRefusesZ50
namespace Go.Proofs.YtnmbfjgcmfjdcaaGreatDoor

section
open Go.RowKit
theorem WA:(Tryz.prog.info? 42).map (·.size)=some 2:=by kernel_rfl
set_option maxRecDepth 100000 in
set_option maxHeartbeats 2000000 in
theorem Core.carried (C S q mb th rb:Nat) (run k b:Int) (t:Tr It) (l:List Rq) (w:World) (h:lV w C S q mb th rb run k b t l):Calls Tryz.prog 10 #[C] w (aV (wv k) w):=by
 have hal:=aD w (.cells #[.int .i64 0, .int .u64 0] 42);have HZ:Hid (Cs (w.alloc (.cells #[.int .i64 0, .int .u64 0] 42)) w.heap.size [.int .i64 0, .int .u64 0]):=aa (Cs.bL w 42 [.int .i64 0, .int .u64 0]);have HH:=aa (h.below hal);have HB:=aa hal;clear h hal;go_enter Tryz.func10,Tryz.ntmps10;go_upto_region 1 with fail
 generalize (w.alloc (.cells #[.int .i64 0, .int .u64 0] 42))=W0 at HZ HH HB⊢
 obtain⟨c0,c1,c2,c3⟩:=HH.out.at;go_wp2_with (first|((with_reducible refine bG 42 [.int .i64 (aJ k), .int .u64 (aI k)] WA rfl (.tmp 2) (.tmp 9) rfl w.heap.size _ HZ.out ?_ ?_ ?_ ?_ ?_ ?_);(iterate 5 (·rfl));(intro W2 hW2);(have HY:=aa (show Cs W2 w [.int .i64 (aJ k), .int .u64 (aI k)]∧Below w w W2 by subst hW2;exact⟨Cs.bH [.int .i64 (aJ k), .int .u64 (aI k)] 0 HZ.out ag,aU ay _ _ HB.out⟩));(clear hW2 c0 c1 c2 c3);(have z0:=HY.out.1.aL);(have z1:=(HY.out.1 1 _ rfl).1))|fail)
 refine bodyPost_ret (v:=wv k) (by simp[results,Tryz.results10,go_sem,z0,z1,wv]) rfl ⟨rfl,HY.out.2⟩
end


section
open Go.RowKit
section
attribute [local go_sem] bK.neB
set_option maxRecDepth 100000 in
set_option maxHeartbeats 64000000 in
theorem aaI.law (c0:Int) (A:Option Addr) (n c:Nat) (l:List Ax) (w:World) (w0:(Lit.int .u64 c0).wf=true) (h:(yz Ax.cells 5 Ax.no w A n l∧∀a∈l,a.In)∧n≤9223372036854775807) (_:Gw w.heap.size w):Calls Tryz.prog 3 #[.int .u64 c0, .slice A n c] w fun e w'=>e= .returned (.bool true)∧Below w.heap.size w w':=by
 have hT:eZ c0:=bounds_u64 w0
 have JO:=hid h.1.2
 have FR:Hid (n≤9223372036854775807):=hid h.2
 have HR:=hid h.1.1
 clear h w0
 go_enter Tryz.func3,Tryz.ntmps3
 go_wp2_with fail
 refine(Zz _).mono ?_
 rintro e w1 ⟨rfl,hb⟩
 have HR1:=hid (HR.out.below hb)
 have HB1:=hid hb
 clear hb HR
 go_wp2_with fail
 obtain⟨lg,iJ⟩:∃lg,lg=CF l:=⟨_,rfl⟩
 have h7:=Nb.Zg A n c l w1 HR1.out JO.out FR.out
 rw[←iJ] at h7
 have wU:=hid iJ
 clear iJ
 refine h7.mono ?_
 clear h7
 rintro e w2 ⟨rfl,hb⟩
 have HB2:=hid hb
 clear hb
 cases lg
 ·go_wp2_with fail
  go_ret
  exact⟨rfl,ai HB1.out HB2.out⟩
 obtain⟨m,hm1,Iz,o5⟩:=Rs wU.out.symm JO.out
 have Qe:=hid hm1
 have Um:=hid Iz
 have DF:=hid o5
 have HL:=hid HR1.out.1
 have aao:(n:Int)≤40:=by
  have h1:=wU.out.symm
  unfold CF at h1
  rw[Bool.and_eq_true,decide_eq_true_eq] at h1
  have h2:=HR1.out.1
  omega
 clear hm1 Iz o5 wU
 go_wp2_with fail
 refine(Core.new c0 hT _).mono ?_
 rintro e w3 ⟨C,S,q,mb,th,rb,rfl,hc,hg,hb⟩
 have dK:Hid (KB w1.heap.size [] C ⟨0,0,c0,[],[]⟩ w3∧Below w1.heap.size w1 w3):=hid ⟨⟨S,q,mb,th,rb, .nil,⟨rfl,hc⟩,fun g hm=>⟨Nat.le_trans HB2.out.size (hg g hm),by simp⟩,(by intro j hj;cases hj),(by unfold WR;simp),(by simp),(by simp)⟩,ai HB2.out hb⟩
 clear hc hg hb HB2
 go_wp2_with fail
 go_loopg [26] n (fun mm i wr=>∃(k:Nat) (s:KS),i= .int .i64 k∧k≤n∧mm=n-k∧(Jw s∧nJ m s)∧KB w1.heap.size [] C s wr∧Below w1.heap.size w1 wr)
 case atStart=>exact⟨0,_,rfl,Nat.zero_le _,by omega,⟨Or.inl rfl,fun y hy=>by cases hy⟩,dK.out⟩
 case round=>
  obtain⟨k,s,rfl,hk,hs,hrl,hx⟩:=hrel
  have HS:=hid hs
  have Au:=hid hrl
  have HK:=hid hx.1
  have nM:=hid hx.2
  clear hs hrl hx
  by_cases hkn:k<n
  ·obtain⟨bb,off,rfl,_,hc⟩:=(HR1.out.below nM.out).2 (by omega)
   obtain⟨p0,p1,p2,p3,p4⟩:wr.cell? ⟨bb,off+k*5,none⟩=some (.int .u8 (l.getD k Ax.no).d)∧wr.cell? ⟨bb,off+k*5+1,none⟩=some (.int .i64 (l.getD k Ax.no).id)∧wr.cell? ⟨bb,off+k*5+2,none⟩=some (.int .u32 (l.getD k Ax.no).v)∧wr.cell? ⟨bb,off+k*5+3,none⟩=some (.int .u64 (l.getD k Ax.no).ns)∧wr.cell? ⟨bb,off+k*5+4,none⟩=some (.int .i64 (l.getD k Ax.no).lag):=⟨hc k hkn 0 _ rfl,hc k hkn 1 _ rfl,hc k hkn 2 _ rfl,hc k hkn 3 _ rfl,hc k hkn 4 _ rfl⟩
   have Uc:=hid (takeD l Ax.no (by rw[HL.out];exact hkn)).2
   generalize l.getD k Ax.no=x at *
   have ek:=hid (JO.out _ Uc.out)
   have HXS:Hid ((x.d%10<2∨x.d%10=6)→1≤x.ns→m≤x.ns):=hid (Um.out x Uc.out)
   have kY:Hid (6<x.d%10→x.ns≤1099511627776→x.ns≤401*m):=hid (DF.out x Uc.out)
   clear Uc
   have HH0:Hid (∀s' left gs ps,6<x.d%10→(1≤x.ns∧x.ns≤1099511627776)→qA s x.ns s' left gs ps→gs.length≤900∧ps.length≤900000):=hid (fun s' left gs ps h6 hn ht=>by
    obtain⟨S,q,mb,th,rb,t,ho⟩:=HK.out.open_
    exact qA.few Qe.out Au.out.2 ho.sat.few (kY.out h6 hn.2) (by omega) s' left gs ps ht)
   have hki:(k:Int)<n:=by omega
   have hk0:(0:Int)≤k:=by omega
   have qm:=hid hkn
   clear hc hkn
   have hal:=(Below.refl wr.heap.size wr).alloc (Nat.le_refl _) (.cells #[.int .u8 x.d, .int .i64 x.id, .int .u32 x.v, .int .u64 x.ns, .int .i64 x.lag] 31)
   have HX:Hid (Cs (wr.alloc (.cells #[.int .u8 x.d, .int .i64 x.id, .int .u32 x.v, .int .u64 x.ns, .int .i64 x.lag] 31)) wr.heap.size x.cells):=hid (Cs.bL wr 31 x.cells)
   have HB3:=hid (ai nM.out hal)
   have rJ:=hid (HK.out.below hal)
   have HCX:Hid (C≠wr.heap.size):=hid (by have:=HK.out.ge.2;omega)
   clear hal HK
   go_upto_region 9 with fail
   generalize (wr.alloc (.cells #[.int .u8 x.d, .int .i64 x.id, .int .u32 x.v, .int .u64 x.ns, .int .i64 x.lag] 31))=W3 at HX HB3 rJ⊢
   generalize wr.heap.size=ga at HX HCX⊢
   clear p0 p1 p2 p3 p4
   go_wp2_with fail
   obtain⟨S,q,mb,th,rb,t,ho⟩:=rJ.out.open_
   have HTL:=hid ho.1.1
   refine(Core.clone C S q mb th rb s.run s.k s.b t s.l _ ho.1.2).mono ?_
   clear ho
   rintro e w4 ⟨C1,S1,q1,kg,dm,nG,t1,rfl,hl1,hc1,hg1,hb⟩
   have JN:=hid (KB.XH rJ.out HB3.out (hl1.trans HTL.out) hc1 hg1 hb)
   have Ya:=hid (HX.out.below hb)
   clear hl1 hc1 hg1 hb rJ HB3 HX HTL S q mb th rb t S1 q1 kg dm nG t1
   go_upto_region 10 with fail
   obtain⟨a0,a1,a2,a3,a4⟩:=Ax.at x Ya.out
   go_wp2_with fail
   refine(Nb.act w1.heap.size [] C s x ek.out Au.out.1 (fun h6 hn s' left gs ps ht=>HH0.out s' left gs ps h6 hn ht) _ JN.out.1).mono ?_
   rintro e w5 hd
   obtain⟨y,rfl,hy,_⟩:=JN.out.ZH hd
   obtain⟨code,⟨A1,c1⟩,⟨A2,c2⟩,s2,gs,ps⟩:=y
   dsimp only[acV]
   have hal:=(Below.refl w5.heap.size w5).alloc (Nat.le_refl _) (.cells #[.slice A1 gs.length c1, .slice A2 ps.length c2] 36)
   have PZ:Hid (Cs (w5.alloc (.cells #[.slice A1 gs.length c1, .slice A2 ps.length c2] 36)) w5.heap.size [.slice A1 gs.length c1, .slice A2 ps.length c2]):=hid (Cs.cK _ _ _ _)
   have DK:=hid (hy.1.below hal)
   have Uu:=hid hy.2
   clear hd hy hal a0 a1 a2 a3 a4 Ya JN HCX HH0 kY
   go_upto_region 11 with fail
   generalize (w5.alloc (.cells #[.slice A1 gs.length c1, .slice A2 ps.length c2] 36))=wz at PZ DK⊢
   generalize w5.heap.size=gA at PZ⊢
   by_cases h0:code=0
   ·subst h0
    have uo:Hid (Jw s2∧nJ m s2):=hid (by
     rcases Uu.out with⟨h1,_⟩|⟨_,s1,g1,g2,h1,h2,_⟩
     ·exact absurd rfl h1
     ·exact⟨h2.ZP DK.out.1,((EB.least Qe.out Au.out.2 HXS.out h1).set h2)⟩)
    clear Uu PZ
    go_wp2_with fail
    go_roundg (n-(k+1))
    case measure=>have:=HS.out;have:=qm.out;omega
    case rel=>exact⟨k+1,s2,by go_num,qm.out,rfl,uo.out,DK.out.1.less (by intro j hj;cases hj),DK.out.2.2⟩
   ·have hc0:(code == 0)=false:=by rw[beq_eq_false_iff_ne];exact h0
    have HZ:Hid (s2=s∧gs=[]∧ps=[]):=hid (by
     rcases Uu.out with⟨_,h1⟩|⟨h1,_⟩
     ·exact h1
     ·exact absurd h1 h0)
    obtain⟨h1,h2,h3⟩:=HZ.out
    clear HZ Uu h0
    dsimp only at h1 h2 h3 DK
    subst h2 h3
    subst s2
    have xW:Hid (Cs wz gA [.slice A1 0 c1, .slice A2 0 c2]):=hid PZ.out
    clear PZ
    obtain⟨S,q,mb,th,rb,t,ho⟩:=DK.out.1.open_
    have rH:=hid ho
    clear ho
    obtain⟨S1,q1,kg,dm,nG,t1,ho⟩:=DK.out.2.1.open_
    have sK:=hid ho
    clear ho
    have wW:=hid DK.out.2.2
    clear DK
    go_upto_region 12 with fail
    clear hc0
    have kE:Hid ((jI s.l).length≤32):=hid (by rw[QM];exact rH.out.sat.few)
    have aB:aF (fun wx=>Below wz.heap.size wz wx):=fun _ _ h hb=>ai h hb
    refine aA (S:=fun wx=>Below wz.heap.size wz wx) 55 (by kernel_rfl) (aB _ _ ((Below.refl wz.heap.size wz)) (Below.refl _ _).drew) ?_
    refine aQ (aB) (fun _ h=>h) fun g=> ?_
    refine tk 0 ?_ g ?_ ?_ (tk 1 ?_ g ?_ ?_ (tk 2 ?_ g ?_ ?_ (tk 3 ?_ g ?_ ?_ (tk 4 ?_ g ?_ ?_ (tk 5 ?_ g ?_ ?_ ?_)))))
    rotate_left;(·rfl);(·intro wq hSw;go_simp;try with_reducible rfl)
    rotate_left;(·rfl);(·intro wq hSw;obtain⟨r0,r1⟩:=(xW.out.below hSw).two;obtain⟨⟨wO,wN,wM,wL⟩,vT⟩:=(rH.out.below hSw).at;obtain⟨⟨wK,wJ,wI,wH⟩,vM⟩:=(sK.out.below hSw).at;go_simp;try with_reducible rfl)
    iterate 2 (rotate_left;(·rfl);(·intro wq hSw;go_simp;try with_reducible rfl))
    rotate_left;(·rfl);(·intro wq hSw;obtain⟨r0,r1⟩:=(xW.out.below hSw).two;obtain⟨⟨wO,wN,wM,wL⟩,vT⟩:=(rH.out.below hSw).at;obtain⟨⟨wK,wJ,wI,wH⟩,vM⟩:=(sK.out.below hSw).at;go_simp;try with_reducible rfl)
    rotate_left;(·rfl);(·intro wq hSw;go_simp;try with_reducible rfl)
    try simp only[av]
    clear g
    refine aQ (aB) (fun _ h=>h) fun g=> ?_
    refine tk 6 ?_ g ?_ ?_ (tk 7 ?_ g ?_ ?_ (tk 8 ?_ g ?_ ?_ (tk 9 ?_ g ?_ ?_ ?_)))
    iterate 4 (rotate_left;(·rfl);(·intro wq hSw;go_simp;try with_reducible rfl))
    try simp only[av]
    clear g
    refine iI 10 (.int .i64 s.run) (aB) (fun _ h=>h) (fun wq hSw=> ?_) ?_
    ·refine dU.aN (Core.run C S q mb th rb s.run s.k s.b t s.l wq (rH.out.below hSw).1.2) (by go_simp) ?_
     rintro e wr ⟨rfl,hb⟩
     exact⟨rfl,hb⟩
    try simp only[av]
    refine aQ (aB) (fun _ h=>h) fun g=> ?_
    refine tk 11 ?_ g ?_ ?_ ?_
    rotate_left;(·rfl);(·intro wq hSw;go_simp;try with_reducible rfl)
    try simp only[av]
    clear g
    refine iI 12 (.int .i64 s.run) (aB) (fun _ h=>h) (fun wq hSw=> ?_) ?_
    ·refine dU.aN (Core.run C1 S1 q1 kg dm nG s.run s.k s.b t1 s.l wq (sK.out.below hSw).1.2) (by go_simp) ?_
     rintro e wr ⟨rfl,hb⟩
     exact⟨rfl,hb⟩
    try simp only[av]
    refine aQ (aB) (fun _ h=>h) fun g=> ?_
    refine tk 13 ?_ g ?_ ?_ (tk 14 ?_ g ?_ ?_ (tk 15 ?_ g ?_ ?_ (tk 16 ?_ g ?_ ?_ ?_)))
    iterate 4 (rotate_left;(·rfl);(·intro wq hSw;go_simp;try with_reducible rfl))
    try simp only[av]
    clear g
    refine iI 17 ((.agg #[.int .i64 (aJ s.k), .int .u64 (aI s.k)])) (aB) (fun _ h=>h) (fun wq hSw=> ?_) ?_
    ·refine dU.aN (Core.carried C S q mb th rb s.run s.k s.b t s.l wq (rH.out.below hSw).1.2) (by go_simp) ?_
     rintro e wr ⟨rfl,hb⟩
     exact⟨rfl,hb⟩
    try simp only[av]
    refine aQ (aB) (fun _ h=>h) fun g=> ?_
    refine tk 18 ?_ g ?_ ?_ ?_
    rotate_left;(·rfl);(·intro wq hSw;go_simp;try with_reducible rfl)
    try simp only[av]
    clear g
    refine iI 19 ((.agg #[.int .i64 (aJ s.k), .int .u64 (aI s.k)])) (aB) (fun _ h=>h) (fun wq hSw=> ?_) ?_
    ·refine dU.aN (Core.carried C1 S1 q1 kg dm nG s.run s.k s.b t1 s.l wq (sK.out.below hSw).1.2) (by go_simp) ?_
     rintro e wr ⟨rfl,hb⟩
     exact⟨rfl,hb⟩
    try simp only[av]
    refine aQ (aB) (fun _ h=>h) fun g=> ?_
    refine tk 20 ?_ g ?_ ?_ (tk 21 ?_ g ?_ ?_ (tk 22 ?_ g ?_ ?_ (tk 23 ?_ g ?_ ?_ (tk 24 ?_ g ?_ ?_ (tk 25 ?_ g ?_ ?_ ?_)))))
    iterate 6 (rotate_left;(·rfl);(·intro wq hSw;go_simp;try with_reducible rfl))
    try simp only[av]
    clear g
    refine aQ (aB) (fun _ h=>h) fun g=> ?_
    refine tk 26 ?_ g ?_ ?_ (tk 27 ?_ g ?_ ?_ (tk 28 ?_ g ?_ ?_ (tk 29 ?_ g ?_ ?_ ?_)))
    rotate_left;(·rfl);(·intro wq hSw;obtain⟨r0,r1⟩:=(xW.out.below hSw).two;obtain⟨⟨wO,wN,wM,wL⟩,vT⟩:=(rH.out.below hSw).at;obtain⟨⟨wK,wJ,wI,wH⟩,vM⟩:=(sK.out.below hSw).at;go_simp;try with_reducible rfl)
    iterate 2 (rotate_left;(·rfl);(·intro wq hSw;go_simp;try with_reducible rfl))
    rotate_left;(·rfl);(·intro wq hSw;obtain⟨r0,r1⟩:=(xW.out.below hSw).two;obtain⟨⟨wO,wN,wM,wL⟩,vT⟩:=(rH.out.below hSw).at;obtain⟨⟨wK,wJ,wI,wH⟩,vM⟩:=(sK.out.below hSw).at;go_simp;try with_reducible rfl)
    try simp only[av]
    clear g
    refine iI 30 (.int .u64 s.b) (aB) (fun _ h=>h) (fun wq hSw=> ?_) ?_
    ·refine dU.aN (Queue.now q mb th (qM s.b s.L) t wq (rH.out.below hSw).EX) (by go_simp) ?_
     rintro e wr ⟨rfl,hb⟩
     exact⟨rfl,hb⟩
    try simp only[av]
    refine aQ (aB) (fun _ h=>h) fun g=> ?_
    refine tk 31 ?_ g ?_ ?_ (tk 32 ?_ g ?_ ?_ (tk 33 ?_ g ?_ ?_ (tk 34 ?_ g ?_ ?_ (tk 35 ?_ g ?_ ?_ (tk 36 ?_ g ?_ ?_ ?_)))))
    iterate 3 (rotate_left;(·rfl);(·intro wq hSw;go_simp;try with_reducible rfl))
    rotate_left;(·rfl);(·intro wq hSw;obtain⟨r0,r1⟩:=(xW.out.below hSw).two;obtain⟨⟨wO,wN,wM,wL⟩,vT⟩:=(rH.out.below hSw).at;obtain⟨⟨wK,wJ,wI,wH⟩,vM⟩:=(sK.out.below hSw).at;go_simp;try with_reducible rfl)
    iterate 2 (rotate_left;(·rfl);(·intro wq hSw;go_simp;try with_reducible rfl))
    try simp only[av]
    clear g
    refine aQ (aB) (fun _ h=>h) fun g=> ?_
    refine tk 37 ?_ g ?_ ?_ ?_
    rotate_left;(·rfl);(·intro wq hSw;obtain⟨r0,r1⟩:=(xW.out.below hSw).two;obtain⟨⟨wO,wN,wM,wL⟩,vT⟩:=(rH.out.below hSw).at;obtain⟨⟨wK,wJ,wI,wH⟩,vM⟩:=(sK.out.below hSw).at;go_simp;try with_reducible rfl)
    try simp only[av]
    clear g
    refine iI 38 (.int .u64 s.b) (aB) (fun _ h=>h) (fun wq hSw=> ?_) ?_
    ·refine dU.aN (Queue.now q1 kg dm (qM s.b s.L) t1 wq (sK.out.below hSw).EX) (by go_simp) ?_
     rintro e wr ⟨rfl,hb⟩
     exact⟨rfl,hb⟩
    try simp only[av]
    refine aQ (aB) (fun _ h=>h) fun g=> ?_
    refine tk 39 ?_ g ?_ ?_ (tk 40 ?_ g ?_ ?_ (tk 41 ?_ g ?_ ?_ (tk 42 ?_ g ?_ ?_ (tk 43 ?_ g ?_ ?_ (tk 44 ?_ g ?_ ?_ ?_)))))
    iterate 6 (rotate_left;(·rfl);(·intro wq hSw;go_simp;try with_reducible rfl))
    try simp only[av]
    clear g
    refine aQ (aB) (fun _ h=>h) fun g=> ?_
    refine tk 45 ?_ g ?_ ?_ (tk 47 ?_ g ?_ ?_ (tk 48 ?_ g ?_ ?_ (tk 49 ?_ g ?_ ?_ (tk 50 ?_ g ?_ ?_ ?_))))
    rotate_left;(·rfl);(·intro wq hSw;obtain⟨r0,r1⟩:=(xW.out.below hSw).two;obtain⟨⟨wO,wN,wM,wL⟩,vT⟩:=(rH.out.below hSw).at;obtain⟨⟨wK,wJ,wI,wH⟩,vM⟩:=(sK.out.below hSw).at;go_simp;try with_reducible rfl)
    iterate 3 (rotate_left;(·rfl);(·intro wq hSw;go_simp;try with_reducible rfl))
    rotate_left;(·rfl);(·intro wq hSw;obtain⟨r0,r1⟩:=(xW.out.below hSw).two;obtain⟨⟨wO,wN,wM,wL⟩,vT⟩:=(rH.out.below hSw).at;obtain⟨⟨wK,wJ,wI,wH⟩,vM⟩:=(sK.out.below hSw).at;go_simp;try with_reducible rfl)
    try simp only[av]
    clear g
    refine fC (i:=46) (fun y:Option Addr×Nat=> .slice y.1 (jI s.l).length y.2) (wP s.l) rfl (by kernel_rfl) (by decide) (by rfl) (aB) (fun _ h=>h) (fun yq=>wP.st s.l yq) (fun wq hSw=> ?_) (fun yq=> ?_)
    ·exact jw.aN (Set.Ml S q rb s.l (by have:=((rH.out.below hSw).sat).few;omega) ((rH.out.below hSw).sat).ids wq ((rH.out.below hSw).sat).1.2) (by go_simp) (fun e w' h=>h)
    obtain⟨A8,c8⟩:=yq
    try dsimp only
    try simp only[av]
    refine fC (i:=51) (fun y:Option Addr×Nat=> .slice y.1 (jI s.l).length y.2) (wP s.l) rfl (by kernel_rfl) (by decide) (by rfl) (aF.dF (aB) (wP.st s.l (A8,c8))) (fun _ h=>h.1) (fun yq=>wP.st s.l yq) (fun wq hSw=> ?_) (fun yq=> ?_)
    ·exact jw.aN (Set.Ml S1 q1 nG s.l (by have:=((sK.out.below hSw.1).sat).few;omega) ((sK.out.below hSw.1).sat).ids wq ((sK.out.below hSw.1).sat).1.2) (by go_simp) (fun e w' h=>h)
    obtain⟨A9,c9⟩:=yq
    try dsimp only
    try simp only[av]
    refine fC (i:=52) (fun _:Unit=> .bool true) (fun(_:Unit) (_:World)=>True) rfl (by kernel_rfl) (by decide) (by rfl) (aF.dF (aF.dF (aB) (wP.st s.l (A8,c8))) (wP.st s.l (A9,c9))) (fun _ h=>h.1.1) (fun yq=>bZ yq) (fun wq hSw=> ?_) (fun yq=> ?_)
    ·exact jw.aN (Slq.equal A8 A9 (jI s.l).length c8 c9 (jI s.l) (by have:=kE.out;omega) wq hSw.1.2 hSw.2) (by go_simp) (fun e w' h=>⟨(),h.1,trivial,h.2⟩)
    obtain⟨⟩:=yq
    skip
    try simp only[av]
    refine aQ (aF.dF (aF.dF (aF.dF (aB) (wP.st s.l (A8,c8))) (wP.st s.l (A9,c9))) (bZ ())) (fun _ h=>h.1.1.1) fun g=> ?_
    refine tk 53 ?_ g ?_ ?_ (tk 54 ?_ g ?_ ?_ ?_)
    iterate 2 (rotate_left;(·rfl);(·intro wq hSw;go_simp;try with_reducible rfl))
    try simp only[av]
    clear g
    refine aZ (by kernel_rfl) (fun wz hSz=> ?_) _
    have Nj:=hid hSz.1.1.1
    clear hSz xW
    have EG:=hid (rH.out.below Nj.out)
    have Yz:=hid (sK.out.below Nj.out)
    have YR:=hid (ai wW.out Nj.out)
    clear rH sK wW Nj
    obtain⟨⟨k0_,_,_,_⟩,_⟩:=EG.out.at
    go_wp2_with fail
    refine(Set.Ml S q rb s.l (by have:=EG.out.sat.few;omega) EG.out.sat.ids _ EG.out.sat.1.2).mono ?_
    rintro e w9 ⟨⟨A3,c3⟩,rfl,hrd,hb⟩
    have Dz:=hid hrd
    have SN:=hid (EG.out.below hb)
    have Yy:=hid (Yz.out.below hb)
    have HB9:=hid (ai YR.out hb)
    clear hrd hb EG Yz YR k0_
    unfold wP at Dz
    dsimp only at Dz⊢
    obtain⟨n3,WL⟩:∃n3,n3=(jI s.l).length:=⟨_,rfl⟩
    have gm:=hid WL
    have abf:(n3:Int)≤32:=by have:=kE.out;omega
    rw[←WL] at Dz⊢
    clear WL
    go_wp2_with fail
    go_loopg [101] n3 (fun mm i wr=>∃j:Nat,i= .int .i64 j∧j≤n3∧mm=n3-j∧Below w9.heap.size w9 wr)
    case atStart=>exact⟨0,rfl,Nat.zero_le _,by omega,Below.refl _ _⟩
    case round=>
     obtain⟨j,rfl,hj,hsj,hb⟩:=hrel
     have HSJ:=hid hsj
     have Qr:=hid hb
     clear hsj hb
     by_cases hjn:j<n3
     ·obtain⟨bb2,aa8,hA2,_,hc2⟩:=(Dz.out.below Qr.out).2 (by omega)
      obtain⟨p0,p1,p2,p3,p4,p5,p6,p7,p8,p9⟩:=Rq.of _ (hc2 j hjn)
      have HM:Hid ((jI s.l).getD j Rq.no∈s.l):=hid (by
       have hjl:j<(jI s.l).length:=by rw[←gm.out];exact hjn
       have e:(jI s.l).getD j Rq.no=(jI s.l)[j]:=by simp[List.getD,hjl]
       rw[e];exact QL.1 (List.getElem_mem _))
      generalize (jI s.l).getD j Rq.no=y at *
      subst hA2
      have hji:(j:Int)<n3:=by omega
      have hj0:(0:Int)≤j:=by omega
      clear hc2
      have hal:=(Below.refl wr.heap.size wr).alloc (Nat.le_refl _) (.cells #[.int .u64 y.a.t, .int .u32 y.a.r, .int .u32 y.a.v, .int .i64 y.a.i, .int .u64 y.a.u, .int .u32 y.a.s, .int .u32 y.a.y, .int .u64 y.l, .int .u64 y.s, .bool y.z] 59)
      have Dv:Hid (Cs (wr.alloc (.cells #[.int .u64 y.a.t, .int .u32 y.a.r, .int .u32 y.a.v, .int .i64 y.a.i, .int .u64 y.a.u, .int .u32 y.a.s, .int .u32 y.a.y, .int .u64 y.l, .int .u64 y.s, .bool y.z] 59)) wr.heap.size y.cells):=hid (Rq.gM wr 59 y)
      have Ut:=hid (ai Qr.out hal)
      clear hal
      go_upto_region 17 with fail
      generalize (wr.alloc (.cells #[.int .u64 y.a.t, .int .u32 y.a.r, .int .u32 y.a.v, .int .i64 y.a.i, .int .u64 y.a.u, .int .u32 y.a.s, .int .u32 y.a.y, .int .u64 y.l, .int .u64 y.s, .bool y.z] 59))=Wy at Dv Ut⊢
      clear p0 p1 p2 p3 p4 p5 p6 p7 p8 p9
      generalize wr.heap.size=gz at Dv⊢
      have HOW:=hid (SN.out.below Ut.out)
      have zw:=hid (Yy.out.below Ut.out)
      obtain⟨LG,hL⟩:∃LG,LG=((qM s.b s.L).lag y.a.pp).2:=⟨_,rfl⟩
      have om:Hid (∀wq,Below Wy.heap.size Wy wq→(Calls Tryz.prog 14 #[.pointer (some ⟨q,0,none⟩), .int .i64 y.a.i] wq (aV (.tuple #[wv LG, .int .i64 0]) wq)∧Calls Tryz.prog 14 #[.pointer (some ⟨q1,0,none⟩), .int .i64 y.a.i] wq (aV (.tuple #[wv LG, .int .i64 0]) wq))):=hid (fun wq h=>by
       rw[hL]
       exact⟨Queue.wm q mb th (qM s.b s.L) t y.a (HOW.out.mem HM.out).1 wq (HOW.out.below h).EX,Queue.wm q1 kg dm (qM s.b s.L) t1 y.a (zw.out.mem HM.out).1 wq (zw.out.below h).EX⟩)
      unfold wv at om
      clear hL
      have dN:aF (fun wx=>Below Wy.heap.size Wy wx):=fun _ _ h hb=>ai h hb
      refine aA (S:=fun wx=>Below Wy.heap.size Wy wx) 17 (by kernel_rfl) (dN _ _ ((Below.refl Wy.heap.size Wy)) (Below.refl _ _).drew) ?_
      refine aQ (dN) (fun _ h=>h) fun g=> ?_
      refine tk 0 ?_ g ?_ ?_ (tk 1 ?_ g ?_ ?_ (tk 2 ?_ g ?_ ?_ (tk 3 ?_ g ?_ ?_ (tk 4 ?_ g ?_ ?_ (tk 5 ?_ g ?_ ?_ ?_)))))
      iterate 3 (rotate_left;(·rfl);(·intro wq hSw;go_simp;try with_reducible rfl))
      rotate_left;(·rfl);(·intro wq hSw;obtain⟨⟨wO,wN,wM,wL⟩,vT⟩:=(HOW.out.below hSw).at;obtain⟨⟨wK,wJ,wI,wH⟩,vM⟩:=(zw.out.below hSw).at;obtain⟨y0,y1,y2,y3,y4,y5,y6,y7,y8,y9⟩:=Rq.at y (Dv.out.below hSw);go_simp;try with_reducible rfl)
      iterate 2 (rotate_left;(·rfl);(·intro wq hSw;go_simp;try with_reducible rfl))
      try simp only[av]
      clear g
      refine aQ (dN) (fun _ h=>h) fun g=> ?_
      refine tk 6 ?_ g ?_ ?_ (tk 7 ?_ g ?_ ?_ (tk 8 ?_ g ?_ ?_ (tk 9 ?_ g ?_ ?_ ?_)))
      rotate_left;(·rfl);(·intro wq hSw;obtain⟨⟨wO,wN,wM,wL⟩,vT⟩:=(HOW.out.below hSw).at;obtain⟨⟨wK,wJ,wI,wH⟩,vM⟩:=(zw.out.below hSw).at;obtain⟨y0,y1,y2,y3,y4,y5,y6,y7,y8,y9⟩:=Rq.at y (Dv.out.below hSw);go_simp;try with_reducible rfl)
      iterate 2 (rotate_left;(·rfl);(·intro wq hSw;go_simp;try with_reducible rfl))
      rotate_left;(·rfl);(·intro wq hSw;obtain⟨⟨wO,wN,wM,wL⟩,vT⟩:=(HOW.out.below hSw).at;obtain⟨⟨wK,wJ,wI,wH⟩,vM⟩:=(zw.out.below hSw).at;obtain⟨y0,y1,y2,y3,y4,y5,y6,y7,y8,y9⟩:=Rq.at y (Dv.out.below hSw);go_simp;try with_reducible rfl)
      try simp only[av]
      clear g
      refine iI 10 ((.tuple #[.agg #[.int .i64 (aJ LG), .int .u64 (aI LG)], .int .i64 0])) (dN) (fun _ h=>h) (fun wq hSw=> ?_) ?_
      ·refine dU.aN ((om.out wq hSw).1) (by go_simp) ?_
       rintro e wr ⟨rfl,hb⟩
       exact⟨rfl,hb⟩
      try simp only[av]
      refine aQ (dN) (fun _ h=>h) fun g=> ?_
      refine tk 11 ?_ g ?_ ?_ (tk 12 ?_ g ?_ ?_ (tk 13 ?_ g ?_ ?_ ?_))
      iterate 3 (rotate_left;(·rfl);(·intro wq hSw;go_simp;try with_reducible rfl))
      try simp only[av]
      clear g
      refine df (i:=14) (fun wx g=>Cs wx g [.int .i64 0, .int .u64 0]∧Wy.heap.size≤g) rfl (by kernel_rfl) (by decide) (by rfl) (dN) (fun _ h=>h) (fun g=>fun _ _ h hb=>⟨h.1.below hb,h.2⟩) (fun wq hSw=> ?_) (fun CY=> ?_)
      ·exact⟨_,by go_simp;(try with_reducible rfl),(Below.refl _ _).alloc (Nat.le_refl _) _,Cs.cK _ _ _ _,hSw.size⟩
      try simp only[av]
      refine bB (i:=15) (fun wx=>Below Wy.heap.size Wy wx∧(Cs wx CY [.int .i64 (aJ LG), .int .u64 (aI LG)]∧Wy.heap.size≤CY)) 42 [.int .i64 (aJ LG), .int .u64 (aI LG)] [.int .i64 0, .int .u64 0] CY fT (.tmp 13) (.tmp 117) rfl rfl (by kernel_rfl) (by decide) (by rfl) ?hz1a ?hz1b ?hz1c ?hz1d ?hz1e (fun _ h=>h.2.1) (fun _ h=>⟨aU h.2.2 _ _ h.1,Cs.bH _ 0 h.2.1 (by simp),h.2.2⟩) (fun _ h=>h.1) ((fun _ _ h hb=>⟨ai h.1 hb,h.2.1.below hb,h.2.2⟩)) ?hz1f
      case hz1a=>rfl
      case hz1b=>rfl
      case hz1c=>rfl
      case hz1d=>rfl
      case hz1e=>rfl
      try simp only[av]
      refine aQ ((fun _ _ h hb=>⟨ai h.1 hb,h.2.1.below hb,h.2.2⟩)) (fun _ h=>h.1) fun g=> ?_
      refine tk 16 ?_ g ?_ ?_ ?_
      rotate_left;(·rfl);(·intro wq hSw;go_simp;try with_reducible rfl)
      try simp only[av]
      clear g
      refine aZ (by kernel_rfl) (fun ZL hSz=> ?_) _
      have zq:=hid hSz.2.1
      have wX:=hid hSz.1
      clear hSz
      generalize CY=g18 at zq⊢
      generalize ZL=W8 at zq wX⊢
      go_upto_region 18 with fail
      have Eo:aF (fun wx=>Below W8.heap.size W8 wx):=fun _ _ h hb=>ai h hb
      refine aA (S:=fun wx=>Below W8.heap.size W8 wx) 17 (by kernel_rfl) (Eo _ _ ((Below.refl W8.heap.size W8)) (Below.refl _ _).drew) ?_
      refine aQ (Eo) (fun _ h=>h) fun g=> ?_
      refine tk 0 ?_ g ?_ ?_ (tk 1 ?_ g ?_ ?_ (tk 2 ?_ g ?_ ?_ (tk 3 ?_ g ?_ ?_ (tk 4 ?_ g ?_ ?_ (tk 5 ?_ g ?_ ?_ ?_)))))
      iterate 3 (rotate_left;(·rfl);(·intro wq hSw;go_simp;try with_reducible rfl))
      rotate_left;(·rfl);(·intro wq hSw;obtain⟨⟨wO,wN,wM,wL⟩,vT⟩:=(HOW.out.below (ai wX.out hSw)).at;obtain⟨⟨wK,wJ,wI,wH⟩,vM⟩:=(zw.out.below (ai wX.out hSw)).at;obtain⟨y0,y1,y2,y3,y4,y5,y6,y7,y8,y9⟩:=Rq.at y (Dv.out.below (ai wX.out hSw));go_simp;try with_reducible rfl)
      iterate 2 (rotate_left;(·rfl);(·intro wq hSw;go_simp;try with_reducible rfl))
      try simp only[av]
      clear g
      refine aQ (Eo) (fun _ h=>h) fun g=> ?_
      refine tk 6 ?_ g ?_ ?_ (tk 7 ?_ g ?_ ?_ (tk 8 ?_ g ?_ ?_ (tk 9 ?_ g ?_ ?_ ?_)))
      rotate_left;(·rfl);(·intro wq hSw;obtain⟨⟨wO,wN,wM,wL⟩,vT⟩:=(HOW.out.below (ai wX.out hSw)).at;obtain⟨⟨wK,wJ,wI,wH⟩,vM⟩:=(zw.out.below (ai wX.out hSw)).at;obtain⟨y0,y1,y2,y3,y4,y5,y6,y7,y8,y9⟩:=Rq.at y (Dv.out.below (ai wX.out hSw));go_simp;try with_reducible rfl)
      iterate 2 (rotate_left;(·rfl);(·intro wq hSw;go_simp;try with_reducible rfl))
      rotate_left;(·rfl);(·intro wq hSw;obtain⟨⟨wO,wN,wM,wL⟩,vT⟩:=(HOW.out.below (ai wX.out hSw)).at;obtain⟨⟨wK,wJ,wI,wH⟩,vM⟩:=(zw.out.below (ai wX.out hSw)).at;obtain⟨y0,y1,y2,y3,y4,y5,y6,y7,y8,y9⟩:=Rq.at y (Dv.out.below (ai wX.out hSw));go_simp;try with_reducible rfl)
      try simp only[av]
      clear g
      refine iI 10 ((.tuple #[.agg #[.int .i64 (aJ LG), .int .u64 (aI LG)], .int .i64 0])) (Eo) (fun _ h=>h) (fun wq hSw=> ?_) ?_
      ·refine dU.aN ((om.out wq (ai wX.out hSw)).2) (by go_simp) ?_
       rintro e wr ⟨rfl,hb⟩
       exact⟨rfl,hb⟩
      try simp only[av]
      refine aQ (Eo) (fun _ h=>h) fun g=> ?_
      refine tk 11 ?_ g ?_ ?_ (tk 12 ?_ g ?_ ?_ (tk 13 ?_ g ?_ ?_ ?_))
      iterate 3 (rotate_left;(·rfl);(·intro wq hSw;go_simp;try with_reducible rfl))
      try simp only[av]
      clear g
      refine df (i:=14) (fun wx g=>Cs wx g [.int .i64 0, .int .u64 0]∧W8.heap.size≤g) rfl (by kernel_rfl) (by decide) (by rfl) (Eo) (fun _ h=>h) (fun g=>fun _ _ h hb=>⟨h.1.below hb,h.2⟩) (fun wq hSw=> ?_) (fun CY=> ?_)
      ·exact⟨_,by go_simp;(try with_reducible rfl),(Below.refl _ _).alloc (Nat.le_refl _) _,Cs.cK _ _ _ _,hSw.size⟩
      try simp only[av]
      refine bB (i:=15) (fun wx=>Below W8.heap.size W8 wx∧(Cs wx CY [.int .i64 (aJ LG), .int .u64 (aI LG)]∧W8.heap.size≤CY)) 42 [.int .i64 (aJ LG), .int .u64 (aI LG)] [.int .i64 0, .int .u64 0] CY fT (.tmp 15) (.tmp 131) rfl rfl (by kernel_rfl) (by decide) (by rfl) ?hz2a ?hz2b ?hz2c ?hz2d ?hz2e (fun _ h=>h.2.1) (fun _ h=>⟨aU h.2.2 _ _ h.1,Cs.bH _ 0 h.2.1 (by simp),h.2.2⟩) (fun _ h=>h.1) ((fun _ _ h hb=>⟨ai h.1 hb,h.2.1.below hb,h.2.2⟩)) ?hz2f
      case hz2a=>rfl
      case hz2b=>rfl
      case hz2c=>rfl
      case hz2d=>rfl
      case hz2e=>rfl
      try simp only[av]
      refine aQ ((fun _ _ h hb=>⟨ai h.1 hb,h.2.1.below hb,h.2.2⟩)) (fun _ h=>h.1) fun g=> ?_
      refine tk 16 ?_ g ?_ ?_ ?_
      rotate_left;(·rfl);(·intro wq hSw;go_simp;try with_reducible rfl)
      try simp only[av]
      clear g
      refine aZ (by kernel_rfl) (fun ZL hSz=> ?_) _
      have FN:=hid hSz.2.1
      have Yf:=hid (zq.out.below hSz.1)
      have HBE:=hid (ai Ut.out (ai wX.out hSz.1))
      clear hSz zq wX om HOW zw Dv
      generalize CY=g20 at FN⊢
      have v0:=Yf.out.aL
      have v1:=Yf.out.fH
      have v2:=FN.out.aL
      have v3:=FN.out.fH
      go_wp2_with fail
      go_roundg (n3-(j+1))
      case measure=>have:=HSJ.out;omega
      case rel=>exact⟨j+1,by go_num,by omega,rfl,HBE.out⟩
     ·obtain rfl:j=n3:=by omega
      have hji:¬(j:Int)<j:=by omega
      have YS:=hid (ai HB9.out Qr.out)
      have YA:=hid (SN.out.below Qr.out).kb
      clear Dz kE gm SN Yy Qr HB9
      go_wp2_with fail
      go_roundg (n-(k+1))
      case measure=>have:=HS.out;have:=qm.out;omega
      case rel=>exact⟨k+1,s,by go_num,qm.out,rfl,Au.out,YA.out.less (by intro j hj;cases hj),YS.out⟩
  ·obtain rfl:k=n:=by omega
   have hki:¬(k:Int)<k:=by omega
   go_wp2_with fail
   go_ret
   exact⟨rfl,ai HB1.out nM.out⟩
end
end


section
open Go.ChangeShapes Go.WideShapes Go.ChangeAt Go.RowKit Go.Joins Go.Deep
theorem Vl:Tryz.prog.cellsOf 31=5:=by kernel_rfl
theorem Su:Tryz.prog.cellsOf 5=1:=by kernel_rfl
theorem Px:Tryz.prog.cellsOf 3=1:=by kernel_rfl
theorem Pw:Tryz.prog.cellsOf 29=1:=by kernel_rfl
theorem Pv:Tryz.prog.cellsOf 22=1:=by kernel_rfl
theorem Py:Tryz.prog.cellsOf 2=1:=by kernel_rfl
theorem Sy {H:Type} {enc:TypeId×Value→H} {W:World} {base:Nat} {spare:Nat→Bool} {held:Bool} {fuel:Nat} {u0 u1 u2 u3 u4:Value} {x:DataW H×List MemPlace}
  (h:DataW.trod enc Tryz.prog W base spare held fuel 31 [u0,u1,u2,u3,u4]=some x):∃a:Ax,[u0,u1,u2,u3,u4]=a.cells∧a.In:=by
 obtain⟨xs,k,hk,hxy,_,hxl,hf⟩:=DataW.trod_struct Tryz.underlying31 h
 match xs,hxl with
 |[y0,y1,y2,y3,y4],_=>
  have g0:=hf 0 _ rfl
  have g1:=hf 1 _ rfl
  have g2:=hf 2 _ rfl
  have g3:=hf 3 _ rfl
  have g4:=hf 4 _ rfl
  simp[Su,Px,Pw,Pv,Py] at g0 g1 g2 g3 g4
  obtain⟨d0,e0,_,w0⟩:=DataW.trod_int Tryz.underlying5 g0
  obtain⟨d1,e1,_,w1⟩:=DataW.trod_int Tryz.underlying3 g1
  obtain⟨d2,e2,_,w2⟩:=DataW.trod_int Tryz.underlying29 g2
  obtain⟨d3,e3,_,w3⟩:=DataW.trod_int Tryz.underlying22 g3
  obtain⟨d4,e4,_,w4⟩:=DataW.trod_int Tryz.underlying2 g4
  simp at e0 e1 e2 e3 e4
  subst e0 e1 e2 e3 e4
  refine⟨⟨d0,d1,d2,d3,d4⟩,rfl,?_⟩
  simp[Lit.wf,IntKind.min,IntKind.max,IntKind.signed,IntKind.bits] at w0 w1 w2 w3 w4
  unfold Ax.In eZ
  dsimp only
  omega
set_option maxRecDepth 100000 in
theorem Ms {H:Type} {enc:TypeId×Value→H} {W:World} {base b0:Nat} {spare:Nat→Bool} {held:Bool} {r:Reach} {v:Value} {d:DataW H} {p:List MemPlace}
  (hv:Value.okWide Tryz.prog W r b0 23 v) (h:DataW.Trod enc Tryz.prog W base spare held 23 v d p):
  ∃(a:Option Addr) (n c:Nat) (ps:List Ax),v= .slice a n c∧(yz Ax.cells 5 Ax.no W a n ps∧∀x∈ps,x.In)∧n≤9223372036854775807:=by
 obtain⟨a,n,c,rfl⟩:=okWide_slice Tryz.underlying23 hv
 obtain⟨fuel,hf⟩:=h
 rcases open_slice Tryz.underlying23 hf with⟨hcs,_⟩|⟨x,l,cp,m,nn,D,Plc,hcs,_,hl,hm,hmm,_,hx⟩
 ·simp[Value.cells] at hcs
  obtain⟨rfl,rfl,rfl⟩:=hcs
  exact⟨_,_,_,[],rfl,⟨⟨rfl,fun hi=>absurd hi (by omega)⟩,(by intro p hp;cases hp)⟩,by omega⟩
 ·simp[Value.cells] at hcs
  obtain⟨rfl,rfl,rfl⟩:=hcs
  have hlm:n≤m:=by rw[hmm];split<;>omega
  have each:∀i,i<n→∃q:Ax,(∀k v,q.cells[k]?=some v→W.cell? (x.add (i*5+k))=some v)∧q.In:=by
   intro i hi
   obtain⟨cs',h1,h2⟩:=hx i (by omega)
   rw[Vl] at h1
   obtain⟨_,hlen,hcell⟩:=World.cells?_some h1
   match cs',hlen with
   |[u0,u1,u2,u3,u4],_=>
    obtain⟨q,hq,hin⟩:=Sy h2
    refine⟨q,fun k v hk=> ?_,hin⟩
    rw[←hq] at hk
    obtain⟨hk1,hk2⟩:=List.getElem?_eq_some_iff.1 hk
    have abh:k<5:=hk1
    have e:=hcell k (by omega)
    rw[add_add] at e
    rw[e,←hk2]
    exact List.getElem?_eq_getElem hk1
  have hget:∀(f:Nat→Ax) (j:Nat),j<n→((List.range n).map f).getD j Ax.no=f j:=fun f j hj=>by simp[List.getD,hj]
  refine⟨_,_,_,(List.range n).map (fun i=>if hi:i<n then(each i hi).choose else Ax.no),rfl,⟨⟨by simp,fun hi=> ?_⟩,?_⟩,by unfold maxLen at hm;omega⟩
  ·obtain⟨u,h0⟩:∃u,W.cell? (x.add 0)=some u:=by
    obtain⟨q,hq,_⟩:=each 0 hi
    exact⟨_,by simpa using hq 0 _ rfl⟩
   have ex:=NK h0
   refine⟨x.block,x.off,by rw[←ex],World.block_lt_of_cell? W _ (by rw[show x.add 0=x by simp[Addr.add]] at h0;exact h0),fun j hj=> ?_⟩
   rw[hget _ j hj,dif_pos hj]
   have hj':=(each j hj).choose_spec.1
   generalize (each j hj).choose=q at *
   intro k v hk
   have:=hj' k v hk
   rw[ex,XY] at this
   rw[show x.off+j*5+k=x.off+(j*5+k) by omega]
   exact this
  ·intro q hq
   rw[List.mem_map] at hq
   obtain⟨j,hj,rfl⟩:=hq
   have hj':j<n:=List.mem_range.1 hj
   rw[dif_pos hj']
   exact(each j hj').choose_spec.2
end

end Go.Proofs.YtnmbfjgcmfjdcaaGreatDoor

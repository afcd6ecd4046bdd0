/- Texts of CoreRefuses's proof, together. -/
import Derived.Test.YtnmbfjgcmfjdcaaGreatDoorDtB
import Derived.Test.YtnmbfjgcmfjdcaaGreatDoorCoreRefusesZ29
import Derived.Test.YtnmbfjgcmfjdcaaGreatDoorOrdG
namespace Go.Proofs.YtnmbfjgcmfjdcaaGreatDoor

section
open Go.RowKit
variable {g:Nat} {w:World} {x:It} {l r:Tr It} {c:Bool}
theorem bM.far {t:Tr It} (h:bM w t) (hn:jq w g) (hg:g∉t.blocks) (o:Nat) (u:Value):bM (w.setCell ⟨g,o,none⟩ u) t:=
 h.aG (F:=[g]) ((ax.refl [g] w).set (Or.inl ag) o u) (fun k hk=>by simp at hk;subst hk;exact hn) (fun k hk hk'=>by simp at hk';subst hk';exact hg hk)
theorem bM.drew {w:World} {t:Tr It} (h:bM w t):bM w.drew t:=h.below ((Below.refl _ _).drew)
theorem jq.aG {F:List Nat} {w w':World} (h:jq w g) (hc:ax F w w') (hg:g∉F):jq w' g:=by
 obtain⟨u,e⟩:=h;exact⟨u,(hc.cell (p:=⟨g,14,none⟩) (World.block_lt_of_cell? w _ e) hg).trans e⟩
def ny (v:Value) (t':Tr It) (F:List Nat) (w:World) (e:Ending) (w':World):Prop:=e= .returned v∧fB w' t'∧ax F w w'
theorem aR (h:(Tr.node g c l x r).blocks.Nodup):g∉l.blocks∧g∉r.blocks∧l.blocks.Nodup∧r.blocks.Nodup∧(∀a∈l.blocks,a∉r.blocks):=by
 simp only[Tr.blocks,List.nodup_cons,List.nodup_append,List.mem_append,not_or] at h;exact⟨h.1.1,h.1.2,h.2.1,h.2.2.1,fun a ha hb=>h.2.2.2 a ha a hb rfl⟩
theorem bM.dz {c d:Bool} (h:bM w (.node g c l x r)) (hg:g∉l.blocks∧g∉r.blocks):bM (w.setCell ⟨g,16,none⟩ (.bool d)) (.node g d l x r):=by
 have hn:=h.nl g (by simp[Tr.blocks]);obtain⟨⟨v,hv,hc⟩,hl,hr⟩:=h;exact⟨⟨v,hv,hc.Ei d⟩,hl.far hn hg.1 _ _,hr.far hn hg.2 _ _⟩
theorem aWy {P:Prop} (h:P:=by
 exact(z3.trans (ax.below ((Below.refl _ _).drew)) (G:=[]) ag).set (Or.inl (by simp[Tr.blocks])) _ _):P:=h
set_option maxHeartbeats 1000000 in
set_option maxRecDepth 100000 in
theorem Dt.flip (g gl gr:Nat) (c cl cr:Bool) (x xl xr:It) (ll rl lr rr:Tr It) (w:World) (h:fB w (.node g c (.node gl cl ll xl rl) x (.node gr cr lr xr rr)))
  (hd:(Tr.node g c (.node gl cl ll xl rl) x (.node gr cr lr xr rr)).blocks.Nodup):
  Calls Tryz.prog 194 #[g] w (ny (.tuple #[]) (Tr.flip (.node g c (.node gl cl ll xl rl) x (.node gr cr lr xr rr))) (Tr.node g c (.node gl cl ll xl rl) x (.node gr cr lr xr rr)).blocks w):=by
 obtain⟨d1,d2,d3,d4,d5⟩:=aR hd;obtain⟨e1,e2,_⟩:=aR d3;obtain⟨f1,f2,_⟩:=aR d4;have hgl:g≠gl:=fun e=>d1 (by simp[Tr.blocks,e]);have hgr:g≠gr:=fun e=>d2 (by simp[Tr.blocks,e]);have hlr:gl≠gr:=fun e=>d5 gl (by simp[Tr.blocks]) (by simp[Tr.blocks,e]);have hn:=h.nl g (by simp[Tr.blocks]);have HN:=aa (bM.nl h.2.1);have HNr:=aa (bM.nl h.2.2);obtain⟨⟨A,n,k,hc⟩,hl,hr⟩:=id h
 have HF:=aa (show Cs (w.setCell ⟨g,16,none⟩ (.bool !c)) g (nd x A (.pointer (some ⟨gl,0,none⟩)) (.pointer (some ⟨gr,0,none⟩)) (!c))∧bM (w.setCell ⟨g,16,none⟩ (.bool !c)) (.node gl cl ll xl rl)∧bM (w.setCell ⟨g,16,none⟩ (.bool !c)) (.node gr cr lr xr rr)∧ax (Tr.node g c (.node gl cl ll xl rl) x (.node gr cr lr xr rr)).blocks w (w.setCell ⟨g,16,none⟩ (.bool !c)) from
  ⟨hc.Ei _,hl.far hn d1 _ _,hr.far hn d2 _ _,(ax.refl _ _).set (Or.inl (by simp[Tr.blocks])) _ _⟩)
 have c4:=hc.uI;have c5:=hc.xx;clear h hc hn hd hl hr;go_enter Tryz.func194,Tryz.ntmps194;go_wp2_with fail
 generalize w.setCell ⟨g,16,none⟩ (.bool !c)=W1 at HF⊢
 clear c4 c5;have q2:=HF.out.1.eO;obtain⟨v1,_,k1⟩:=HF.out.2.1.1;have q4:=k1.uI;have q5:=k1.xx;clear k1;go_still_tail 14,ae
 change wpList _ _ _ _ _ W1.drew
 have mG:Hid (∃W2,W2=W1.drew.setCell ⟨gl,16,none⟩ (.bool !cl)∧Cs W2 g (nd x A (.pointer (some ⟨gl,0,none⟩)) (.pointer (some ⟨gr,0,none⟩)) (!c))∧bM W2 (.node gl (!cl) ll xl rl)∧bM W2 (.node gr cr lr xr rr)∧ax (Tr.node g c (.node gl cl ll xl rl) x (.node gr cr lr xr rr)).blocks w W2):=aa (by
  obtain⟨z0,z1,z2,z3⟩:=HF.out;have hn:=z1.nl gl (by simp[Tr.blocks]);refine⟨_,rfl,z0.drew.far (Ne.symm hgl) _ _,z1.drew.dz ⟨e1,e2⟩,z2.drew.far hn (d5 gl (by simp[Tr.blocks])) _ _,?_⟩;exact aWy)
 go_wp2_with fail
 obtain⟨W2,hW,mG⟩:=mG;rw[show(W1.setCell ⟨gl,16,none⟩ (.bool !cl)).drew=W2 from hW.symm];clear q2 q4 q5 hW HF;have HF:=aa mG;clear mG;have q2:=HF.out.1.fG;obtain⟨v2,_,k1⟩:=HF.out.2.2.1.1;have q4:=k1.uI;have q5:=k1.xx;clear k1;go_still_tail 14,ae
 change wpList _ _ _ _ _ W2.drew
 have mG:Hid (∃W3,W3=W2.drew.setCell ⟨gr,16,none⟩ (.bool !cr)∧fB W3 (Tr.node g (!c) (.node gl (!cl) ll xl rl) x (.node gr (!cr) lr xr rr))∧ax (Tr.node g c (.node gl cl ll xl rl) x (.node gr cr lr xr rr)).blocks w W3):=aa (by
  obtain⟨z0,z1,z2,z3⟩:=HF.out;have hn:=z2.nl gr (by simp[Tr.blocks]);refine⟨_,rfl,⟨⟨A,n,k,z0.drew.far (Ne.symm hgr) _ _⟩,z1.drew.far hn (fun h=>d5 gr (by simpa[Tr.blocks] using h) (by simp[Tr.blocks])) _ _,z2.drew.dz ⟨f1,f2⟩⟩,?_⟩;exact aWy)
 go_wp2_with fail
 obtain⟨W3,hW,jW⟩:=mG;rw[show(W2.setCell ⟨gr,16,none⟩ (.bool !cr)).drew=W3 from hW.symm];go_ways
 exact bodyPost_ret (v:= .tuple #[]) (by simp[results,Tryz.results194,go_sem]) rfl ⟨rfl,jW.1,jW.2⟩
end


section
open Go.RowKit
set_option maxRecDepth 100000
set_option maxHeartbeats 32000000
variable {b:Nat} {w w1:World} {P:Prop}
theorem oD.itself (x:It) (w:World):Calls Tryz.prog 117 #[x.val] w (aV (It.val x) w):=by
 unfold It.val;go_enter Tryz.func117,Tryz.ntmps117;go_wp2_with fail
 refine bodyPost_ret (v:=It.val x) (by simp[results,Tryz.results117,go_sem]) rfl ⟨rfl,?_⟩;exact((Below.refl _ _).alloc ay _).alloc ag _
theorem uk.aae (w:World) (x:It):uk (w.alloc (.cells x 57)) (some ⟨w,0,none⟩) 1 [x]:=
 ⟨rfl,fun i hi=>⟨w.heap.size,0,rfl,by simp,fun j hj=>by
  obtain rfl:j=0:=af;have h:=(Cs.cu w 57 x).nW;exact h⟩⟩
theorem rF (hb:w.heap.size≤b) (h:∃z:It,Cs w1 b z.cells) (hw:Below w w w1) (k:It):∀W,W=w1.setCells b 0 k.cells→Th W b k∧Below w w W:=fun W e=>by
 obtain⟨z,hc⟩:=h;rw[e];exact⟨(hc.stored k).nW,aU hb _ _ hw⟩
theorem tJ (h:∃z:It,Cs w1 b z.cells):w1.there b 0 7:=by obtain⟨z,hc⟩:=h;exact hc.vN
theorem oD.join (a b:It) (ha:a.In) (hb:b.In) (w:World):Calls Tryz.prog 118 #[a.val,b.val] w (aV (It.val (sooner a b)) w):=by
 have HA:=aa ha;have HB:=aa hb
 have kC:Hid (Cs (((w.alloc (.cells a 57)).alloc (.cells b 57)).alloc (.cells aM 57)) (w.heap.size+2) It.zero.cells∧Below w w (((w.alloc (.cells a 57)).alloc (.cells b 57)).alloc (.cells aM 57))):=aa
  ⟨by have:=Cs.cu ((w.alloc (.cells a 57)).alloc (.cells b 57)) 57 It.zero;simp only[World.size_alloc] at this;exact this,(((Below.refl _ _).alloc ay _).alloc ag _).alloc (by simp;omega) _⟩
 have Yj:Hid (uk ((((w.alloc (.cells a 57)).alloc (.cells b 57)).alloc (.cells aM 57)).alloc (.cells b 57)) (some ⟨w.heap.size+3,0,none⟩) 1 [b]):=aa (by
  have:=uk.aae (((w.alloc (.cells a 57)).alloc (.cells b 57)).alloc (.cells aM 57)) b;simp only[World.size_alloc] at this;exact this)
 have jP:Hid (Cs ((((w.alloc (.cells a 57)).alloc (.cells b 57)).alloc (.cells aM 57)).alloc (.cells b 57)) (w.heap.size+2) It.zero.cells∧Below w w ((((w.alloc (.cells a 57)).alloc (.cells b 57)).alloc (.cells aM 57)).alloc (.cells b 57))):=aa
  ⟨kC.out.1.alloc _,kC.out.2.alloc (by simp;omega) _⟩
 clear ha hb kC;unfold It.val;go_enter Tryz.func118,Tryz.ntmps118;go_wp2_with fail
 refine(Item.D9 a (some ⟨w.heap.size+3,0,none⟩) 1 1 [b] _ HA.out Yj.out (fun x hx=>by simp at hx;subst hx;exact HB.out) ak).mono ?_;rintro e w1 ⟨rfl,hb1⟩;have HZ:Hid (∃z:It,Cs w1 (w.heap.size+2) z.cells):=aa ⟨It.zero,jP.out.1.below hb1⟩;have wY:=aa (rF (b:=w.heap.size+2) af HZ.out (ai jP.out.2 hb1) (sooner a b));have hth:=tJ HZ.out;have hev:[b].foldl sooner a=sooner a b:=rfl;rw[hev];clear hb1 hev;go_wp2_with ((with_reducible refine dC 57 dx rfl (.tmp 4) (.tmp 8) rfl (w.heap.size+2) 0 (sooner a b) hth ?u1 ?u2 ?u3);(case u1=>rfl);(case u2=>rfl);(intro W2 hW2);(have HW:=aa (wY.out W2 hW2));(clear hW2 hth);(obtain⟨z0,z1,z2,z3,z4,z5,z6⟩:=HW.out.1))
 refine bodyPost_ret (v:=It.val (sooner a b)) (by simp[results,Tryz.results118,go_sem,z0,z1,z2,z3,z4,z5,z6]) rfl ⟨rfl,HW.out.2⟩
theorem aYc (h:P:=by
 intro wq hSw;have bz:Below _ _ _:=hSw;obtain⟨p0,p1,p2,p3,p4,p5,p6⟩:=HG.out.below bz;have q1:=aS bz aP.out;go_simp;try with_reducible rfl):P:=h
theorem aYd (h:P:=by
 rintro e wr ⟨rfl,hb⟩;exact⟨rfl,hSw.on hb⟩):P:=h
theorem Dt.Y5 (g b1 b2:Nat) (x:It) (w:World) (hg:Th w g x) (h2:w.cell? ⟨g,14,none⟩=some (.pointer none)) (h1:Cs w b1 [(.func (.func 117) #[] #[])]):
  Calls Tryz.prog 160 #[g, .pointer (some ⟨b1,0,none⟩), .pointer (some ⟨b2,0,none⟩)] w (aV (It.val x) w):=by
 have hb0:=aD w (.cells aM 57);have HG:=aa (hg.below hb0);have aP:=aa (aS hb0 h1.aL);have q2:=aS hb0 h2;have HZ:Hid (Cs (w.alloc (.cells aM 57)) w.heap.size It.zero.cells):=aa (Cs.cu _ _ It.zero);have HB0:=aa hb0;clear hg h2 h1 hb0;unfold It.val;go_enter Tryz.func160,Tryz.ntmps160;go_wp2_with fail
 generalize (w.alloc (.cells aM 57))=W0 at HG aP q2 HZ HB0⊢
 refine eB (S:=Bl W0) 6 ae (Bl.drew W0) ?_;refine tU 0 (v:= ?_) rfl ae (fun _ _ _ h=>h) au ?_ ?_;rotate_left
 ·exact aYc
 try simp only[av]
 refine tU 1 (v:= ?_) rfl ae (fun _ _ _ h=>h) au ?_ ?_;rotate_left
 ·exact ah
 try simp only[av]
 refine tU 2 (v:= ?_) rfl ae (fun _ _ _ h=>h) au ?_ ?_;rotate_left
 ·exact ah
 try simp only[av]
 refine tU 3 (v:= ?_) rfl ae (fun _ _ _ h=>h) au ?_ ?_;rotate_left
 ·exact ah
 try simp only[av]
 refine tU 4 (v:= ?_) rfl ae (fun _ _ _ h=>h) au ?_ ?_;rotate_left
 ·exact aYc
 try simp only[av]
 refine lX (i:=5) (v:=It.val x) rfl ae ae ae ae (fun _ _ _ h=>h) (Or.inl ⟨by rfl,fun wq hSw=> ?_⟩) ?_
 ·refine jk.aN (oD.itself x wq) (by go_simp) ?_;exact aYd
 try simp only[av]
 refine qQ rfl rfl ae (fun wz hSz=> ?_);have HZ2:Hid (∃z:It,Cs wz w z.cells):=aa ⟨It.zero,HZ.out.below hSz⟩;have wY:=aa (rF ay HZ2.out (ai HB0.out hSz) x);have hth:=tJ HZ2.out;clear hSz q2;go_wp2_with ((with_reducible refine dC 57 dx rfl (.tmp 4) (.tmp 15) rfl w.heap.size 0 x hth ?u1 ?u2 ?u3);(case u1=>rfl);(case u2=>rfl);(intro W2 hW2);(have HW:=aa (wY.out W2 hW2));(clear hW2 hth);(obtain⟨z0,z1,z2,z3,z4,z5,z6⟩:=HW.out.1))
 refine bodyPost_ret (v:=It.val x) (by simp[results,Tryz.results160,go_sem,z0,z1,z2,z3,z4,z5,z6]) rfl ⟨rfl,HW.out.2⟩
theorem aYa (h:P:=by
 intro wq hSw;have bz:Below _ _ _:=hSw;obtain⟨p0,p1,p2,p3,p4,p5,p6⟩:=HG.out.below bz;obtain⟨m0,m1,m2,m3,m4,m5,m6⟩:=HM.out.below bz;have q1:=aS bz aP.out;have q2:=aS bz cO.out;have q3:=aS bz iA.out;go_simp;try with_reducible rfl):P:=h
theorem Dt.Y4 (g gl b1 b2:Nat) (x k:It) (hx:x.In) (hk:k.In) (w:World) (hg:Th w g x) (h2:w.cell? ⟨g,14,none⟩=some (.pointer (some ⟨gl,0,none⟩))) (hm:Wh w gl k) (h1:Cs w b1 [(.func (.func 117) #[] #[])]) (h3:Cs w b2 [(.func (.func 118) #[] #[])]):
  Calls Tryz.prog 160 #[g, .pointer (some ⟨b1,0,none⟩), .pointer (some ⟨b2,0,none⟩)] w (aV (It.val (sooner k x)) w):=by
 have hb0:=aD w (.cells aM 57);have HG:=aa (hg.below hb0);have HM:=aa (hm.below hb0);have aP:=aa (aS hb0 h1.aL);have cO:=aa (aS hb0 h3.aL);have iA:=aa (aS hb0 h2);have q3:=iA.out;have ek:=aa hx;have vg:=aa hk;have HZ:Hid (Cs (w.alloc (.cells aM 57)) w.heap.size It.zero.cells):=aa (Cs.cu _ _ It.zero);have HB0:=aa hb0;clear hg h2 h1 h3 hm hb0 hx hk;unfold It.val;go_enter Tryz.func160,Tryz.ntmps160;go_wp2_with fail
 generalize (w.alloc (.cells aM 57))=W0 at HG HM aP cO iA q3 HZ HB0⊢
 refine eB (S:=Bl W0) 15 ae (Bl.drew W0) ?_;refine tU 0 (v:= ?_) rfl ae (fun _ _ _ h=>h) au ?_ ?_;rotate_left
 ·exact aYa
 try simp only[av]
 refine tU 1 (v:= ?_) rfl ae (fun _ _ _ h=>h) au ?_ ?_;rotate_left
 ·exact ah
 try simp only[av]
 refine tU 2 (v:= ?_) rfl ae (fun _ _ _ h=>h) au ?_ ?_;rotate_left
 ·exact ah
 try simp only[av]
 refine tU 3 (v:= ?_) rfl ae (fun _ _ _ h=>h) au ?_ ?_;rotate_left
 ·exact ah
 try simp only[av]
 refine tU 4 (v:= ?_) rfl ae (fun _ _ _ h=>h) au ?_ ?_;rotate_left
 ·exact aYa
 try simp only[av]
 refine tU 5 (v:= ?_) rfl ae (fun _ _ _ h=>h) au ?_ ?_;rotate_left
 ·exact ah
 try simp only[av]
 refine tU 6 (v:= ?_) rfl ae (fun _ _ _ h=>h) au ?_ ?_;rotate_left
 ·exact ah
 try simp only[av]
 refine tU 7 (v:= ?_) rfl ae (fun _ _ _ h=>h) au ?_ ?_;rotate_left
 ·exact aYa
 try simp only[av]
 refine tU 8 (v:= ?_) rfl ae (fun _ _ _ h=>h) au ?_ ?_;rotate_left
 ·exact aYa
 try simp only[av]
 refine tU 9 (v:= ?_) rfl ae (fun _ _ _ h=>h) au ?_ ?_;rotate_left
 ·exact ah
 try simp only[av]
 refine tU 10 (v:= ?_) rfl ae (fun _ _ _ h=>h) au ?_ ?_;rotate_left
 ·exact ah
 try simp only[av]
 refine tU 11 (v:= ?_) rfl ae (fun _ _ _ h=>h) au ?_ ?_;rotate_left
 ·exact ah
 try simp only[av]
 refine tU 12 (v:= ?_) rfl ae (fun _ _ _ h=>h) au ?_ ?_;rotate_left
 ·exact aYa
 try simp only[av]
 refine lX (i:=13) (v:=It.val x) rfl ae ae ae ae (fun _ _ _ h=>h) (Or.inl ⟨by rfl,fun wq hSw=> ?_⟩) ?_
 ·refine jk.aN (oD.itself x wq) (by go_simp) ?_;exact aYd
 try simp only[av]
 refine lX (i:=14) (v:=It.val (sooner k x)) rfl ae ae ae ae (fun _ _ _ h=>h) (Or.inl ⟨by rfl,fun wq hSw=> ?_⟩) ?_
 ·refine jk.aN (oD.join k x vg.out ek.out wq) (by go_simp) ?_;exact aYd
 try simp only[av]
 refine qQ rfl rfl ae (fun wz hSz=> ?_);have HZ2:Hid (∃z:It,Cs wz w z.cells):=aa ⟨It.zero,HZ.out.below hSz⟩;have wY:=aa (rF ay HZ2.out (ai HB0.out hSz) (sooner k x));have hth:=tJ HZ2.out;clear hSz q3;go_wp2_with ((with_reducible refine dC 57 dx rfl (.tmp 4) (.tmp 30) rfl w.heap.size 0 (sooner k x) hth ?u1 ?u2 ?u3);(case u1=>rfl);(case u2=>rfl);(intro W2 hW2);(have HW:=aa (wY.out W2 hW2));(clear hW2 hth);(obtain⟨z0,z1,z2,z3,z4,z5,z6⟩:=HW.out.1))
 refine bodyPost_ret (v:=It.val (sooner k x)) (by simp[results,Tryz.results160,go_sem,z0,z1,z2,z3,z4,z5,z6]) rfl ⟨rfl,HW.out.2⟩
theorem Dt.upTo (g b1 b2:Nat) (c:Bool) (l r:Tr It) (x:It) (w:World) (h:fB w (.node g c l x r)) (h1:Cs w b1 [(.func (.func 117) #[] #[])]) (h2:Cs w b2 [(.func (.func 118) #[] #[])]):
  Calls Tryz.prog 160 #[g, .pointer (some ⟨b1,0,none⟩), .pointer (some ⟨b2,0,none⟩)] w (aV (It.val (dA l x)) w):=by
 obtain⟨⟨A,n,k,hc⟩,hl,hr⟩:=h;cases l with
 |nil=>exact Dt.Y5 g b1 b2 x w hc.th hc.eO h1
 |node gl cl ll xl rl=>
  have hb:=hl.oJ;obtain⟨⟨v,hv,hcl⟩,_⟩:=hl
  have e:dA (.node gl cl ll xl rl) x=sooner v x:=by
   show sooner (Tr.oJ (.node gl cl ll xl rl)) x=_
   rw[show Tr.oJ (.node gl cl ll xl rl)=v from hv.1.symm]
  rw[e];exact Dt.Y4 g gl b1 b2 x v k hv.2.1 w hc.th hc.eO hcl.wh h1 h2
theorem Jp {l:Tr It} {x:It} (hl:bM w l) (hx:x.In):(dA l x).In:=by
 unfold dA;split;exact hx;exact uD hl.oJ hx
theorem aYb (h:P:=by
 intro wq hSw;have bz:Below _ _ _:=hSw;have q1:=aS bz aP.out;obtain⟨p0,p1,p2,p3,p4,p5,p6⟩:=HP.out.below bz;have q2:=aS bz cO.out;obtain⟨m0,m1,m2,m3,m4,m5,m6⟩:=HM.out.below bz;go_simp;try with_reducible rfl):P:=h
theorem Dt.count (th g:Nat) (c:Bool) (l r:Tr It) (x:It) (rt:Value) (n:Int) (w:World) (h:fB w (.node g c l x r)) (hd:(Tr.node g c l x r).blocks.Nodup) (_:(Tr.node g c l x r).list.length≤900000) (he:bC w th rt n):
  Calls Tryz.prog 183 #[th, .pointer (some ⟨g,0,none⟩)] w fun e w'=>e= .returned (.tuple #[])∧bM w' (.node g c l x r)∧ax [g] w w':=by
 obtain⟨d1,d2,d3,d4,d5⟩:=aR hd;have HH:=aa h;have HE:=aa he;have hnl:=h.nl g (by simp[Tr.blocks]);have HN:=aa hnl;obtain⟨b1,b2,t0,t1,t2,_⟩:=id he;obtain⟨⟨A,m,k,hc⟩,hl,hr⟩:=id h;have HT:=aa (And.intro t0 (And.intro t1 t2));have HC:=aa (And.intro hc (And.intro hl hr));have ek:=aa k;have JV:=aa (Jp hl k);have e2:=t0.at2;clear t0 t1 t2 h he hnl hc hl hr hd;go_enter Tryz.func183,Tryz.ntmps183;go_wp2_with fail
 refine(Dt.upTo g b1 b2 c l r x _ HH.out HT.out.2.1 HT.out.2.2).mono ?_;rintro e w1 ⟨rfl,hb⟩
 have HW:Hid (∀W,W=w1.setCells g 7 (dA l x).cells→Cs W g (nd x (dA l x) (ptr l) (ptr r) c)∧bM W l∧bM W r∧bC W th rt n∧ax [g] w W):=aa (by
  intro W e;have hn':jq w1 g:=HN.out.aG (F:=[]) (ax.below hb) ag;have hF:∀j∈[g],jq w1 j:=fun j hj=>by simp at hj;subst hj;exact hn'
  have hch:ax [g] w1 W:=by rw[e];exact ax.sets _ _ (ax.refl _ _) (Or.inl ag)
  refine⟨by rw[e];exact(HC.out.1.below hb).VT _,(HC.out.2.1.below hb).aG hch hF (fun j hj hj'=>by simp at hj';subst hj';exact d1 hj),(HC.out.2.2.below hb).aG hch hF (fun j hj hj'=>by simp at hj';subst hj';exact d2 hj),(HE.out.below hb).aG hch hF,?_⟩;exact(ax.below hb).trans hch (fun j hj=>Or.inl hj))
 have hth:=(HC.out.1.below hb).Nu;clear hb e2;cases r with
 |nil=>
  go_wp2_with ((with_reducible refine dC 57 dx rfl (.tmp 12) (.tmp 10) rfl g 7 (dA l x) hth ?u1 ?u2 ?u3);(case u1=>rfl);(case u2=>rfl);(intro W hW2);(have HF:=aa (HW.out W hW2));(clear hW2 hth);(have z3:=HF.out.1.fG);(simp only[kP] at z3))
  go_end0
  obtain⟨z0,z2,z3,z4,z5⟩:=HF.out;exact⟨rfl,⟨⟨dA l x,⟨rfl,JV.out,ek.out⟩,z0⟩,z2,z3⟩,z5⟩
 |node gr cr lr xr rr=>
  go_wp2_with ((with_reducible refine dC 57 dx rfl (.tmp 12) (.tmp 10) rfl g 7 (dA l x) hth ?v1 ?v2 ?v3);(case v1=>rfl);(case v2=>rfl);(intro W hW2);(have HF:=aa (HW.out W hW2));(clear hW2 hth HW);(have z3:=HF.out.1.fG);(simp only[aX] at z3))
  clear z3;obtain⟨⟨k,hv2,hc2⟩,_⟩:=id HF.out.2.2.1;obtain⟨_,_,t0,_⟩:=id HF.out.2.2.2.1;have vg:=aa hv2.2.1;have Qg:=aa hv2.1;have aP:=aa t0.fH;have HP:=aa HF.out.1.wh;have cO:=aa (show W.cell? ⟨g,15,none⟩=some (.pointer (some ⟨gr,0,none⟩)) from HF.out.1.fG);have HM:=aa hc2.wh;clear hv2 hc2 t0;refine eB (S:=Bl W) 19 ae (Bl.drew W) ?_;refine tU 0 (v:= ?_) rfl ae (fun _ _ _ h=>h) au ?_ ?_;rotate_left
  ·exact ah
  try simp only[av]
  refine tU 1 (v:= ?_) rfl ae (fun _ _ _ h=>h) au ?_ ?_;rotate_left
  ·exact ah
  try simp only[av]
  refine tU 2 (v:= ?_) rfl ae (fun _ _ _ h=>h) au ?_ ?_;rotate_left
  ·exact ah
  try simp only[av]
  refine tU 3 (v:= ?_) rfl ae (fun _ _ _ h=>h) au ?_ ?_;rotate_left
  ·exact ah
  try simp only[av]
  refine tU 4 (v:= ?_) rfl ae (fun _ _ _ h=>h) au ?_ ?_;rotate_left
  ·exact aYb
  try simp only[av]
  refine tU 5 (v:= ?_) rfl ae (fun _ _ _ h=>h) au ?_ ?_;rotate_left
  ·exact ah
  try simp only[av]
  refine tU 6 (v:= ?_) rfl ae (fun _ _ _ h=>h) au ?_ ?_;rotate_left
  ·exact ah
  try simp only[av]
  refine tU 7 (v:= ?_) rfl ae (fun _ _ _ h=>h) au ?_ ?_;rotate_left
  ·exact ah
  try simp only[av]
  refine tU 8 (v:= ?_) rfl ae (fun _ _ _ h=>h) au ?_ ?_;rotate_left
  ·exact aYb
  try simp only[av]
  refine tU 9 (v:= ?_) rfl ae (fun _ _ _ h=>h) au ?_ ?_;rotate_left
  ·exact ah
  try simp only[av]
  refine tU 10 (v:= ?_) rfl ae (fun _ _ _ h=>h) au ?_ ?_;rotate_left
  ·exact ah
  try simp only[av]
  refine tU 11 (v:= ?_) rfl ae (fun _ _ _ h=>h) au ?_ ?_;rotate_left
  ·exact ah
  try simp only[av]
  refine tU 12 (v:= ?_) rfl ae (fun _ _ _ h=>h) au ?_ ?_;rotate_left
  ·exact aYb
  try simp only[av]
  refine tU 13 (v:= ?_) rfl ae (fun _ _ _ h=>h) au ?_ ?_;rotate_left
  ·exact ah
  try simp only[av]
  refine tU 14 (v:= ?_) rfl ae (fun _ _ _ h=>h) au ?_ ?_;rotate_left
  ·exact ah
  try simp only[av]
  refine tU 15 (v:= ?_) rfl ae (fun _ _ _ h=>h) au ?_ ?_;rotate_left
  ·exact aYb
  try simp only[av]
  refine lX (i:=16) (v:=It.val (sooner (dA l x) k)) rfl ae ae ae ae (fun _ _ _ h=>h) (Or.inl ⟨by rfl,fun wq hSw=> ?_⟩) ?_
  ·refine jk.aN (oD.join (dA l x) k JV.out vg.out wq) (by go_simp) ?_;exact aYd
  try simp only[av]
  refine tU 17 (v:= ?_) rfl ae (fun _ _ _ h=>h) au ?_ ?_;rotate_left
  ·exact ah
  try simp only[av]
  refine tU 18 (v:= ?_) rfl ae (fun _ _ _ h=>h) au ?_ ?_;rotate_left
  ·exact ah
  try simp only[av]
  refine qQ rfl rfl ae (fun wz hSz=> ?_);have hth:=(HF.out.1.below hSz).Nu
  have HW3:Hid (∀W',W'=wz.setCells g 7 (sooner (dA l x) k).cells→bM W' (.node g c l x (.node gr cr lr xr rr))∧ax [g] w W'):=aa (by
   intro W' e;have hn':jq wz g:=(HF.out.1.below hSz).yu;have hF:∀j∈[g],jq wz j:=fun j hj=>by simp at hj;subst hj;exact hn'
   have hch:ax [g] wz W':=by rw[e];exact ax.sets _ _ (ax.refl _ _) (Or.inl ag)
   refine⟨⟨⟨sooner (dA l x) k,⟨?_,uD JV.out vg.out,ek.out⟩,by rw[e];exact(HF.out.1.below hSz).VT _⟩,(HF.out.2.1.below hSz).aG hch hF (fun j hj hj'=>by simp at hj';subst hj';exact d1 hj),(HF.out.2.2.1.below hSz).aG hch hF (fun j hj hj'=>by simp at hj';subst hj';exact d2 hj)⟩,?_⟩
   ·show _=sooner (dA l x) (Tr.oJ (.node gr cr lr xr rr))
    rw[show Tr.oJ (.node gr cr lr xr rr)=k from Qg.out.symm]
   ·exact(HF.out.2.2.2.2.trans (ax.below hSz) (G:=[]) ag).trans hch (fun j hj=>Or.inl hj))
  clear hSz;go_wp2_with ((with_reducible refine dC 57 dx rfl (.tmp 36) (.tmp 34) rfl g 7 (sooner (dA l x) k) hth ?w1 ?w2 ?w3);(case w1=>rfl);(case w2=>rfl);(intro W9 hW9);(have HX:=aa (HW3.out W9 hW9));(clear hW9 hth))
  go_end0
  exact⟨rfl,HX.out.1,HX.out.2⟩
end


section
open Go.RowKit
set_option maxRecDepth 100000
set_option maxHeartbeats 32000000
def JY (w:World):Tr It→Prop
 | .nil=>True
 | .node g c l x r=>(∃(A:It) (_:A.In) (_:x.In),Cs w g (nd x A (ptr l) (ptr r) c))∧bM w l∧fB w r
theorem bM.XK {w w':World} {t:Tr It} {g:Nat} (h:bM w t) (hc:ax [g] w w') (hn:jq w g) (hg:g∉t.blocks):bM w' t:=
 h.aG hc (fun j hj=>by simp at hj;subst hj;exact hn) (fun j hj hj'=>by simp at hj';subst hj';exact hg hj)
theorem Dt.eD (th g h:Nat) (c d:Bool) (a b e:Tr It) (x y:It) (rt:Value) (n:Int) (w:World) (hst:JY w (.node g c a x (.node h d b y e))) (hd:(Tr.node g c a x (.node h d b y e)).blocks.Nodup)
  (hn:(Tr.node g c a x (.node h d b y e)).list.length≤900000) (he:bC w th rt n):
  Calls Tryz.prog 192 #[th, .pointer (some ⟨g,0,none⟩)] w
   (ny (.pointer (some ⟨h,0,none⟩)) (.node h c (.node g true a x b) y e) (Tr.node g c a x (.node h d b y e)).blocks w):=by
 obtain⟨d1,d2,d3,d4,d5⟩:=aR hd;obtain⟨f1,f2,f3,f4,f5⟩:=aR d4;simp only[Tr.blocks,List.mem_cons,List.mem_append,not_or] at d2 d5;simp only[Tr.list,List.length_append,List.length_cons] at hn;obtain⟨zg,Jg,XD⟩:=d2;obtain⟨⟨A,m,k,hc⟩,ha,⟨⟨A2,m2,k2,hc2⟩,hb,O3⟩⟩:=hst;have CR:jq w g:=hc.yu;have O0:jq w h:=hc2.yu;obtain⟨u,hu⟩:=iL b;rw[hu] at hc2;have HD:=aa d5
 have HW:Hid (∃W,W=(((w.setCell ⟨g,15,none⟩ (.pointer u)).setCell ⟨h,14,none⟩ (.pointer (some ⟨g,0,none⟩))).setCell ⟨h,16,none⟩ (.bool c)).setCell ⟨g,16,none⟩ (.bool true)∧
   fB W (.node g true a x b)∧Cs W h (nd y A2 (.pointer (some ⟨g,0,none⟩)) (ptr e) c)∧bM W e∧bC W th rt n∧ax (Tr.node g c a x (.node h d b y e)).blocks w W):=aa (by
  have hch:ax [g,h] w ((((w.setCell ⟨g,15,none⟩ (.pointer u)).setCell ⟨h,14,none⟩ (.pointer (some ⟨g,0,none⟩))).setCell ⟨h,16,none⟩ (.bool c)).setCell ⟨g,16,none⟩ (.bool true)):=
   ((((ax.refl _ w).set (Or.inl ag) _ _).set (Or.inl ag) _ _).set (Or.inl ag) _ _).set (Or.inl ag) _ _
  have hnl:∀j∈[g,h],jq w j:=fun j hj=>by simp at hj;rcases hj with rfl|rfl;exact CR;exact O0
  have ap:∀t:Tr It,g∉t.blocks→h∉t.blocks→∀j∈t.blocks,j∉[g,h]:=fun t h1 h2 j hj hj'=>by simp at hj';rcases hj' with rfl|rfl;exact h1 hj;exact h2 hj
  refine⟨_,rfl,⟨⟨A,m,k,?_⟩,ha.aG hch hnl (ap a d1 (fun hj=>(d5 h hj).1 rfl)),hb.aG hch hnl (ap b Jg f1)⟩,?_,O3.aG hch hnl (ap e XD f2),he.aG hch hnl,hch.mono (by simp[Tr.blocks])⟩
  ·rw[hu];exact(((hc.Mw _).far (Ne.symm zg) _ _).far (Ne.symm zg) _ _).Ei _
  ·exact((((hc2.far zg _ _).Rj _).Ei _)).far zg _ _)
 have c2:=hc.eO;have c3:=hc.fG;have c4:=hc.uI;have c5:=hc.yR;have c6:=hc.xx;have h2:=hc2.eO;have h4:=hc2.uI;have h5:=hc2.H8;have h6:=hc2.xx;simp only[aX] at c3;have HN:=aa hn;have HG:=aa XD;have YM:=aa (show g∉(a.blocks++b.blocks)∧(a.blocks++b.blocks).Nodup from⟨by simp[d1,Jg],List.nodup_append.2 ⟨d3,f3,fun p hp q hq e=>(HD.out p hp).2.1 (e▸hq)⟩⟩);clear hd hn he hc ha hc2 hb O3 CR O0 d1 d3 d4 f1 f2 f3 f4 f5 Jg XD d5;have ne1:h≠g:=Ne.symm zg;go_enter Tryz.func192,Tryz.ntmps192;go_wp2_with fail
 obtain⟨W,hW,HF⟩:=HW;rw[←hW];clear hW;have HF:=aa HF;go_ways
 refine(Dt.count th g true a b x rt n W HF.out.1 (List.nodup_cons.2 YM.out) (by have:=HN.out;simp only[Tr.list,List.length_append,List.length_cons];omega) HF.out.2.2.2.1).mono ?_;rintro e1 w2 ⟨rfl,hi,hw⟩;have HI:=aa hi;have HC:=aa hw;clear hi hw;go_wp2_with fail
 go_ret;have CR:jq W g:=HF.out.1.nl g (by simp[Tr.blocks]);refine⟨rfl,⟨⟨A2,m2,k2,HF.out.2.1.aG HC.out (by simp[ne1])⟩,HI.out,HF.out.2.2.1.XK HC.out CR HG.out⟩,HF.out.2.2.2.2.trans HC.out (by simp[Tr.blocks])⟩
theorem Dt.bI (th g h:Nat) (c d:Bool) (a b e:Tr It) (x y:It) (rt:Value) (n:Int) (w:World) (hst:fB w (.node g c (.node h d a y b) x e)) (hd:(Tr.node g c (.node h d a y b) x e).blocks.Nodup)
  (hn:(Tr.node g c (.node h d a y b) x e).list.length≤900000) (he:bC w th rt n):
  Calls Tryz.prog 193 #[th, .pointer (some ⟨g,0,none⟩)] w
   (ny (.pointer (some ⟨h,0,none⟩)) (.node h c a y (.node g true b x e)) (Tr.node g c (.node h d a y b) x e).blocks w):=by
 obtain⟨d1,d2,d3,d4,d5⟩:=aR hd;obtain⟨f1,f2,f3,f4,f5⟩:=aR d3;simp only[Tr.blocks,List.mem_cons,List.mem_append,not_or] at d1 d5;simp only[Tr.list,List.length_append,List.length_cons] at hn;obtain⟨zg,XE,Jg⟩:=d1;obtain⟨⟨A,m,k,hc⟩,hl,O3⟩:=hst;obtain⟨⟨A2,m2,k2,hc2⟩,ha,hb⟩:=hl.st;have CR:jq w g:=hc.yu;have O0:jq w h:=hc2.yu;obtain⟨u,hu⟩:=iL b;rw[hu] at hc2;have dhe:h∉e.blocks:=d5 h (Or.inl rfl);have HD:=aa d5
 have HW:Hid (∃W,W=(((w.setCell ⟨g,14,none⟩ (.pointer u)).setCell ⟨h,15,none⟩ (.pointer (some ⟨g,0,none⟩))).setCell ⟨h,16,none⟩ (.bool c)).setCell ⟨g,16,none⟩ (.bool true)∧
   fB W (.node g true b x e)∧Cs W h (nd y A2 (ptr a) (.pointer (some ⟨g,0,none⟩)) c)∧bM W a∧bC W th rt n∧ax (Tr.node g c (.node h d a y b) x e).blocks w W):=aa (by
  have hch:ax [g,h] w ((((w.setCell ⟨g,14,none⟩ (.pointer u)).setCell ⟨h,15,none⟩ (.pointer (some ⟨g,0,none⟩))).setCell ⟨h,16,none⟩ (.bool c)).setCell ⟨g,16,none⟩ (.bool true)):=
   ((((ax.refl _ w).set (Or.inl ag) _ _).set (Or.inl ag) _ _).set (Or.inl ag) _ _).set (Or.inl ag) _ _
  have hnl:∀j∈[g,h],jq w j:=fun j hj=>by simp at hj;rcases hj with rfl|rfl;exact CR;exact O0
  have ap:∀t:Tr It,g∉t.blocks→h∉t.blocks→∀j∈t.blocks,j∉[g,h]:=fun t h1 h2 j hj hj'=>by simp at hj';rcases hj' with rfl|rfl;exact h1 hj;exact h2 hj
  refine⟨_,rfl,⟨⟨A,m,k,?_⟩,hb.aG hch hnl (ap b Jg f2),O3.aG hch hnl (ap e d2 dhe)⟩,?_,ha.aG hch hnl (ap a XE f1),he.aG hch hnl,hch.mono (by simp[Tr.blocks])⟩
  ·rw[hu];exact(((hc.Rj _).far (Ne.symm zg) _ _).far (Ne.symm zg) _ _).Ei _
  ·exact((((hc2.far zg _ _).Mw _).Ei _)).far zg _ _)
 have c2:=hc.eO;have c4:=hc.uI;have c5:=hc.H8;have c6:=hc.xx;have h2:=hc2.fG;have h4:=hc2.uI;have h5:=hc2.yR;have h6:=hc2.xx;simp only[aX] at c2;have HN:=aa hn;have HG:=aa XE;have YM:=aa (show g∉(b.blocks++e.blocks)∧(b.blocks++e.blocks).Nodup from⟨by simp[d2,Jg],List.nodup_append.2 ⟨f4,d4,fun p hp q hq e=>HD.out p (Or.inr (Or.inr hp)) (e▸hq)⟩⟩);clear hd hn he hc ha hc2 hb O3 hl CR O0 d2 d3 d4 f1 f2 f3 f4 f5 XE Jg d5 dhe;have ne1:h≠g:=Ne.symm zg;go_enter Tryz.func193,Tryz.ntmps193;go_wp2_with fail
 obtain⟨W,hW,HF⟩:=HW;rw[←hW];clear hW;have HF:=aa HF;go_ways
 refine(Dt.count th g true b e x rt n W HF.out.1 (List.nodup_cons.2 YM.out) (by have:=HN.out;simp only[Tr.list,List.length_append,List.length_cons];omega) HF.out.2.2.2.1).mono ?_;rintro e1 w2 ⟨rfl,hi,hw⟩;have HI:=aa hi;have HC:=aa hw;clear hi hw;go_wp2_with fail
 go_ret;have CR:jq W g:=HF.out.1.nl g (by simp[Tr.blocks]);refine⟨rfl,⟨⟨A2,m2,k2,HF.out.2.1.aG HC.out (by simp[ne1])⟩,HF.out.2.2.1.XK HC.out CR HG.out,HI.out⟩,HF.out.2.2.2.2.trans HC.out (by simp[Tr.blocks])⟩
end


section
open Go.RowKit
set_option maxRecDepth 100000
set_option maxHeartbeats 32000000
def jH (t':Tr It) (F:List Nat) (w:World) (e:Ending) (w':World):Prop:=e= .returned (ptr t')∧bM w' t'∧ax F w w'
theorem bC.turned {w w':World} {t:Tr It} {th:Nat} {rt:Value} {n:Int} (he:bC w th rt n) (h:fB w t) (hc:ax t.blocks w w'):bC w' th rt n:=he.aG hc h.nl
theorem Dt.Zw (g:Nat) (c:Bool) (l r:Tr It) (x:It) (th:Nat) (rt:Value) (n:Int) (w:World) (hst:fB w (.node g c l x r)) (hd:(Tr.node g c l x r).blocks.Nodup)
  (hn:(Tr.node g c l x r).list.length≤900000) (he:bC w th rt n) (hlr:l.red=false) (hrr:r.red=false):
  Calls Tryz.prog 182 #[th, .pointer (some ⟨g,0,none⟩)] w (jH (.node g c l x r) (Tr.node g c l x r).blocks w):=by
 have HS:=aa hst;have HE:=aa he;have HD:=aa hd;have HN:=aa hn;obtain⟨⟨A,m,k,hc⟩,hl,hr⟩:=hst;have c2:=hc.eO;have c3:=hc.fG;have HL:=aa hl;have HR:=aa hr;clear hc hl hr hd hn he;try simp only[aX] at c2 c3
 have Aw:=aa hlr;have HRR:=aa hrr;clear hlr hrr;go_enter Tryz.func182,Tryz.ntmps182;go_wp2_with fail
 refine(Dt.isRed (r) _ (HR.out.st)).mono ?_;rintro e0 w0 ⟨rfl,rfl⟩;rw[HRR.out];go_wp2_with fail
 refine(Dt.isRed (l) _ (HL.out.st)).mono ?_;rintro e0 w0 ⟨rfl,rfl⟩;rw[Aw.out];go_wp2_with fail
 refine(Dt.isRed (l) _ (HL.out.st)).mono ?_;rintro e0 w0 ⟨rfl,rfl⟩;rw[Aw.out];go_wp2_with fail
 refine(Dt.count th g c (l) (r) x rt n _ (HS.out) (HD.out) (HN.out) (HE.out)).mono ?_;rintro e9 w9 ⟨rfl,hi9,oZ⟩;have wV:=aa hi9;have wR:=aa oZ;clear hi9 oZ;go_wp2_with fail
 go_ret;exact⟨rfl,wV.out,wR.out.mono (by simp[Tr.blocks])⟩
theorem Dt.XR (g h:Nat) (c:Bool) (l a b:Tr It) (x y:It) (th:Nat) (rt:Value) (n:Int) (w:World) (hst:fB w (.node g c l x (.node h true a y b))) (hd:(Tr.node g c l x (.node h true a y b)).blocks.Nodup)
  (hn:(Tr.node g c l x (.node h true a y b)).list.length≤900000) (he:bC w th rt n) (hlr:l.red=false) (hbr:b.red=false):
  Calls Tryz.prog 182 #[th, .pointer (some ⟨g,0,none⟩)] w (jH (.node h c (.node g true l x a) y b) (Tr.node g c l x (.node h true a y b)).blocks w):=by
 have HS:=aa hst;have HE:=aa he;have HD:=aa hd;have HN:=aa hn;obtain⟨⟨A,m,k,hc⟩,hl,hr⟩:=hst;have c2:=hc.eO;have c3:=hc.fG;have HC:=aa hc;have HL:=aa hl;have HR:=aa hr;clear hc hl hr hd hn he;try simp only[aX] at c2 c3
 have Aw:=aa hlr;have qC:=aa hbr;clear hlr hbr;go_enter Tryz.func182,Tryz.ntmps182;go_wp2_with fail
 refine(Dt.isRed (.node h true a y b) _ (HR.out.st)).mono ?_;rintro e0 w0 ⟨rfl,rfl⟩;simp only[Tr.red];go_wp2_with fail
 refine(Dt.isRed (l) _ (HL.out.st)).mono ?_;rintro e0 w0 ⟨rfl,rfl⟩;rw[Aw.out];go_wp2_with fail
 refine(Dt.eD th g h c true l a b x y rt n _ ⟨⟨A,m,k,HC.out⟩,HL.out,HR.out.st⟩ HD.out HN.out HE.out).mono ?_;rintro e1 w1 ⟨rfl,hs1,hw1⟩;have gI:=aa (HE.out.turned HS.out hw1);have jP:=aa hs1;have HW1:=aa hw1;obtain⟨⟨A1,m1,k1,hc1⟩,hl1,hr1⟩:=hs1;have z2:=hc1.eO;have z3:=hc1.fG;have lT:=aa hl1;have HR1:=aa hr1;obtain⟨⟨v1,hv1,IK⟩,mR,_⟩:=hl1;have z4:=IK.eO;have uq:=aa mR;clear hc1 hr1 hv1 IK mR hw1 c2 c3;try simp only[aX] at z2 z3
 go_wp2_with fail
 refine(Dt.isRed (.node g true l x a) _ (lT.out.st)).mono ?_;rintro e0 w0 ⟨rfl,rfl⟩;simp only[Tr.red];go_wp2_with fail
 refine(Dt.isRed (l) _ (uq.out.st)).mono ?_;rintro e0 w0 ⟨rfl,rfl⟩;rw[Aw.out];go_wp2_with fail
 refine(Dt.isRed (.node g true l x a) _ (lT.out.st)).mono ?_;rintro e0 w0 ⟨rfl,rfl⟩;simp only[Tr.red];go_wp2_with fail
 refine(Dt.isRed (b) _ (HR1.out.st)).mono ?_;rintro e0 w0 ⟨rfl,rfl⟩;rw[qC.out];go_wp2_with fail
 refine(Dt.count th h c (.node g true l x a) (b) y rt n _ (jP.out) ((Tr.gL (Tr.node g c l x (.node h true a y b))).nodup_iff.2 HD.out) (Nat.le_trans (Nat.le_of_eq (congrArg List.length (Tr.ym (Tr.node g c l x (.node h true a y b))))) HN.out) (gI.out)).mono ?_;rintro e9 w9 ⟨rfl,hi9,oZ⟩;have wV:=aa hi9;have wR:=aa oZ;clear hi9 oZ;go_wp2_with fail
 go_ret;exact⟨rfl,wV.out,HW1.out.trans wR.out (fun j hj=>Or.inl ((Tr.gL (Tr.node g c l x (.node h true a y b))).mem_iff.1 (by simp at hj;subst hj;simp[Tr.eD,Tr.blocks])))⟩
theorem Dt.XQ (g h gb:Nat) (c:Bool) (l a lb rb:Tr It) (x y z:It) (th:Nat) (rt:Value) (n:Int) (w:World) (hst:fB w (.node g c l x (.node h true a y (.node gb true lb z rb)))) (hd:(Tr.node g c l x (.node h true a y (.node gb true lb z rb))).blocks.Nodup)
  (hn:(Tr.node g c l x (.node h true a y (.node gb true lb z rb))).list.length≤900000) (he:bC w th rt n) (hlr:l.red=false):
  Calls Tryz.prog 182 #[th, .pointer (some ⟨g,0,none⟩)] w (jH (.node h (!c) (.node g false l x a) y (.node gb false lb z rb)) (Tr.node g c l x (.node h true a y (.node gb true lb z rb))).blocks w):=by
 have HS:=aa hst;have HE:=aa he;have HD:=aa hd;have HN:=aa hn;obtain⟨⟨A,m,k,hc⟩,hl,hr⟩:=hst;have c2:=hc.eO;have c3:=hc.fG;have HC:=aa hc;have HL:=aa hl;have HR:=aa hr;clear hc hl hr hd hn he;try simp only[aX] at c2 c3
 have Aw:=aa hlr;clear hlr;go_enter Tryz.func182,Tryz.ntmps182;go_wp2_with fail
 refine(Dt.isRed (.node h true a y (.node gb true lb z rb)) _ (HR.out.st)).mono ?_;rintro e0 w0 ⟨rfl,rfl⟩;simp only[Tr.red];go_wp2_with fail
 refine(Dt.isRed (l) _ (HL.out.st)).mono ?_;rintro e0 w0 ⟨rfl,rfl⟩;rw[Aw.out];go_wp2_with fail
 refine(Dt.eD th g h c true l a (.node gb true lb z rb) x y rt n _ ⟨⟨A,m,k,HC.out⟩,HL.out,HR.out.st⟩ HD.out HN.out HE.out).mono ?_;rintro e1 w1 ⟨rfl,hs1,hw1⟩;have gI:=aa (HE.out.turned HS.out hw1);have jP:=aa hs1;have HW1:=aa hw1;obtain⟨⟨A1,m1,k1,hc1⟩,hl1,hr1⟩:=hs1;have z2:=hc1.eO;have z3:=hc1.fG;have lT:=aa hl1;have HR1:=aa hr1;obtain⟨⟨v1,hv1,IK⟩,mR,_⟩:=hl1;have z4:=IK.eO;have uq:=aa mR;clear hc1 hr1 hv1 IK mR hw1 c2 c3;try simp only[aX] at z2 z3
 go_wp2_with fail
 refine(Dt.isRed (.node g true l x a) _ (lT.out.st)).mono ?_;rintro e0 w0 ⟨rfl,rfl⟩;simp only[Tr.red];go_wp2_with fail
 refine(Dt.isRed (l) _ (uq.out.st)).mono ?_;rintro e0 w0 ⟨rfl,rfl⟩;rw[Aw.out];go_wp2_with fail
 refine(Dt.isRed (.node g true l x a) _ (lT.out.st)).mono ?_;rintro e0 w0 ⟨rfl,rfl⟩;simp only[Tr.red];go_wp2_with fail
 refine(Dt.isRed (.node gb true lb z rb) _ (HR1.out.st)).mono ?_;rintro e0 w0 ⟨rfl,rfl⟩;simp only[Tr.red];go_wp2_with fail
 refine(Dt.flip h g gb c true true y x z l a lb rb _ jP.out ((Tr.gL (Tr.node g c l x (.node h true a y (.node gb true lb z rb)))).nodup_iff.2 HD.out)).mono ?_;rintro e2 w2 ⟨rfl,hs2,hw2⟩;have HS2:=aa hs2;have HW2:=aa hw2;have HE2:=aa (gI.out.turned jP.out hw2);clear hs2 hw2 z2 z3 z4;go_wp2_with fail
 refine(Dt.count th h (!c) (.node g false l x a) (.node gb false lb z rb) y rt n _ (HS2.out) ((Tr.gL (Tr.node g c l x (.node h true a y (.node gb true lb z rb)))).nodup_iff.2 HD.out) (Nat.le_trans (Nat.le_of_eq (congrArg List.length (Tr.ym (Tr.node g c l x (.node h true a y (.node gb true lb z rb)))))) HN.out) (HE2.out)).mono ?_;rintro e9 w9 ⟨rfl,hi9,oZ⟩;have wV:=aa hi9;have wR:=aa oZ;clear hi9 oZ;go_wp2_with fail
 go_ret;exact⟨rfl,wV.out,(HW1.out.trans HW2.out (fun j hj=>Or.inl ((Tr.gL (Tr.node g c l x (.node h true a y (.node gb true lb z rb)))).mem_iff.1 hj))).trans wR.out (fun j hj=>Or.inl ((Tr.gL (Tr.node g c l x (.node h true a y (.node gb true lb z rb)))).mem_iff.1 (by simp at hj;subst hj;simp[Tr.eD,Tr.blocks])))⟩
theorem Dt.Zx (g h gb:Nat) (c:Bool) (lb rb a r:Tr It) (x y z:It) (th:Nat) (rt:Value) (n:Int) (w:World) (hst:fB w (.node g c (.node h true (.node gb true lb z rb) y a) x r)) (hd:(Tr.node g c (.node h true (.node gb true lb z rb) y a) x r).blocks.Nodup)
  (hn:(Tr.node g c (.node h true (.node gb true lb z rb) y a) x r).list.length≤900000) (he:bC w th rt n) (hrr:r.red=false):
  Calls Tryz.prog 182 #[th, .pointer (some ⟨g,0,none⟩)] w (jH (.node h (!c) (.node gb false lb z rb) y (.node g false a x r)) (Tr.node g c (.node h true (.node gb true lb z rb) y a) x r).blocks w):=by
 have HS:=aa hst;have HE:=aa he;have HD:=aa hd;have HN:=aa hn;obtain⟨⟨A,m,k,hc⟩,hl,hr⟩:=hst;have c2:=hc.eO;have c3:=hc.fG;have HL:=aa hl;obtain⟨⟨v1,_,hcl⟩,hll,_⟩:=hl;have c4:=hcl.eO;have mF:=aa hll;simp only[aX] at c4;clear hcl hll;have HR:=aa hr;clear hc hr hd hn he;try simp only[aX] at c2 c3
 have HRR:=aa hrr;clear hrr;go_enter Tryz.func182,Tryz.ntmps182;go_wp2_with fail
 refine(Dt.isRed (r) _ (HR.out.st)).mono ?_;rintro e0 w0 ⟨rfl,rfl⟩;rw[HRR.out];go_wp2_with fail
 refine(Dt.isRed (.node h true (.node gb true lb z rb) y a) _ (HL.out.st)).mono ?_;rintro e0 w0 ⟨rfl,rfl⟩;simp only[Tr.red];go_wp2_with fail
 refine(Dt.isRed (.node gb true lb z rb) _ (mF.out.st)).mono ?_;rintro e0 w0 ⟨rfl,rfl⟩;simp only[Tr.red];go_wp2_with fail
 refine(Dt.bI th g h c true (.node gb true lb z rb) a r x y rt n _ HS.out HD.out HN.out HE.out).mono ?_;rintro e1 w1 ⟨rfl,hs1,hw1⟩;have gI:=aa (HE.out.turned HS.out hw1);have jP:=aa hs1;have HW1:=aa hw1;obtain⟨⟨A1,m1,k1,hc1⟩,hl1,hr1⟩:=hs1;have z2:=hc1.eO;have z3:=hc1.fG;have lT:=aa hl1;have HR1:=aa hr1;clear hc1 hr1 hl1 hw1 c2 c3 c4;try simp only[aX] at z2 z3
 go_wp2_with fail
 refine(Dt.isRed (.node gb true lb z rb) _ (lT.out.st)).mono ?_;rintro e0 w0 ⟨rfl,rfl⟩;simp only[Tr.red];go_wp2_with fail
 refine(Dt.isRed (.node g true a x r) _ (HR1.out.st)).mono ?_;rintro e0 w0 ⟨rfl,rfl⟩;simp only[Tr.red];go_wp2_with fail
 refine(Dt.flip h gb g c true true y z x lb rb a r _ jP.out ((Tr.dB (Tr.node g c (.node h true (.node gb true lb z rb) y a) x r)).nodup_iff.2 HD.out)).mono ?_;rintro e2 w2 ⟨rfl,hs2,hw2⟩;have HS2:=aa hs2;have HW2:=aa hw2;have HE2:=aa (gI.out.turned jP.out hw2);clear hs2 hw2 z2 z3;go_wp2_with fail
 refine(Dt.count th h (!c) (.node gb false lb z rb) (.node g false a x r) y rt n _ (HS2.out) ((Tr.dB (Tr.node g c (.node h true (.node gb true lb z rb) y a) x r)).nodup_iff.2 HD.out) (Nat.le_trans (Nat.le_of_eq (congrArg List.length (Tr.vZ (Tr.node g c (.node h true (.node gb true lb z rb) y a) x r)))) HN.out) (HE2.out)).mono ?_;rintro e9 w9 ⟨rfl,hi9,oZ⟩;have wV:=aa hi9;have wR:=aa oZ;clear hi9 oZ;go_wp2_with fail
 go_ret;exact⟨rfl,wV.out,(HW1.out.trans HW2.out (fun j hj=>Or.inl ((Tr.dB (Tr.node g c (.node h true (.node gb true lb z rb) y a) x r)).mem_iff.1 hj))).trans wR.out (fun j hj=>Or.inl ((Tr.dB (Tr.node g c (.node h true (.node gb true lb z rb) y a) x r)).mem_iff.1 (by simp at hj;subst hj;simp[Tr.bI,Tr.blocks])))⟩
theorem Dt.XP (g h gb:Nat) (c:Bool) (lb rb a r:Tr It) (x y z:It) (th:Nat) (rt:Value) (n:Int) (w:World) (hst:fB w (.node g c (.node h true (.node gb true lb z rb) y a) x r)) (hd:(Tr.node g c (.node h true (.node gb true lb z rb) y a) x r).blocks.Nodup)
  (hn:(Tr.node g c (.node h true (.node gb true lb z rb) y a) x r).list.length≤900000) (he:bC w th rt n) (hrr:r.red=true):
  Calls Tryz.prog 182 #[th, .pointer (some ⟨g,0,none⟩)] w (jH (.node h (!c) (.node gb false lb z rb) y (.node g false a x r)) (Tr.node g c (.node h true (.node gb true lb z rb) y a) x r).blocks w):=by
 have HS:=aa hst;have HE:=aa he;have HD:=aa hd;have HN:=aa hn;obtain⟨⟨A,m,k,hc⟩,hl,hr⟩:=hst;have c2:=hc.eO;have c3:=hc.fG;have HL:=aa hl;obtain⟨⟨v1,_,hcl⟩,hll,_⟩:=hl;have c4:=hcl.eO;have mF:=aa hll;simp only[aX] at c4;clear hcl hll;have HR:=aa hr;clear hc hr hd hn he;try simp only[aX] at c2 c3
 have HRR:=aa hrr;clear hrr;go_enter Tryz.func182,Tryz.ntmps182;go_wp2_with fail
 refine(Dt.isRed (r) _ (HR.out.st)).mono ?_;rintro e0 w0 ⟨rfl,rfl⟩;rw[HRR.out];go_wp2_with fail
 refine(Dt.isRed (.node h true (.node gb true lb z rb) y a) _ (HL.out.st)).mono ?_;rintro e0 w0 ⟨rfl,rfl⟩;simp only[Tr.red];go_wp2_with fail
 refine(Dt.isRed (.node h true (.node gb true lb z rb) y a) _ (HL.out.st)).mono ?_;rintro e0 w0 ⟨rfl,rfl⟩;simp only[Tr.red];go_wp2_with fail
 refine(Dt.isRed (.node gb true lb z rb) _ (mF.out.st)).mono ?_;rintro e0 w0 ⟨rfl,rfl⟩;simp only[Tr.red];go_wp2_with fail
 refine(Dt.bI th g h c true (.node gb true lb z rb) a r x y rt n _ HS.out HD.out HN.out HE.out).mono ?_;rintro e1 w1 ⟨rfl,hs1,hw1⟩;have gI:=aa (HE.out.turned HS.out hw1);have jP:=aa hs1;have HW1:=aa hw1;obtain⟨⟨A1,m1,k1,hc1⟩,hl1,hr1⟩:=hs1;have z2:=hc1.eO;have z3:=hc1.fG;have lT:=aa hl1;have HR1:=aa hr1;clear hc1 hr1 hl1 hw1 c2 c3 c4;try simp only[aX] at z2 z3
 go_wp2_with fail
 refine(Dt.isRed (.node gb true lb z rb) _ (lT.out.st)).mono ?_;rintro e0 w0 ⟨rfl,rfl⟩;simp only[Tr.red];go_wp2_with fail
 refine(Dt.isRed (.node g true a x r) _ (HR1.out.st)).mono ?_;rintro e0 w0 ⟨rfl,rfl⟩;simp only[Tr.red];go_wp2_with fail
 refine(Dt.flip h gb g c true true y z x lb rb a r _ jP.out ((Tr.dB (Tr.node g c (.node h true (.node gb true lb z rb) y a) x r)).nodup_iff.2 HD.out)).mono ?_;rintro e2 w2 ⟨rfl,hs2,hw2⟩;have HS2:=aa hs2;have HW2:=aa hw2;have HE2:=aa (gI.out.turned jP.out hw2);clear hs2 hw2 z2 z3;go_wp2_with fail
 refine(Dt.count th h (!c) (.node gb false lb z rb) (.node g false a x r) y rt n _ (HS2.out) ((Tr.dB (Tr.node g c (.node h true (.node gb true lb z rb) y a) x r)).nodup_iff.2 HD.out) (Nat.le_trans (Nat.le_of_eq (congrArg List.length (Tr.vZ (Tr.node g c (.node h true (.node gb true lb z rb) y a) x r)))) HN.out) (HE2.out)).mono ?_;rintro e9 w9 ⟨rfl,hi9,oZ⟩;have wV:=aa hi9;have wR:=aa oZ;clear hi9 oZ;go_wp2_with fail
 go_ret;exact⟨rfl,wV.out,(HW1.out.trans HW2.out (fun j hj=>Or.inl ((Tr.dB (Tr.node g c (.node h true (.node gb true lb z rb) y a) x r)).mem_iff.1 hj))).trans wR.out (fun j hj=>Or.inl ((Tr.dB (Tr.node g c (.node h true (.node gb true lb z rb) y a) x r)).mem_iff.1 (by simp at hj;subst hj;simp[Tr.bI,Tr.blocks])))⟩
theorem Dt.XO (g h:Nat) (c:Bool) (a b r:Tr It) (x y:It) (th:Nat) (rt:Value) (n:Int) (w:World) (hst:fB w (.node g c (.node h true b y a) x r)) (hd:(Tr.node g c (.node h true b y a) x r).blocks.Nodup)
  (hn:(Tr.node g c (.node h true b y a) x r).list.length≤900000) (he:bC w th rt n) (hbr:b.red=false) (hrr:r.red=false):
  Calls Tryz.prog 182 #[th, .pointer (some ⟨g,0,none⟩)] w (jH (.node g c (.node h true b y a) x r) (Tr.node g c (.node h true b y a) x r).blocks w):=by
 have HS:=aa hst;have HE:=aa he;have HD:=aa hd;have HN:=aa hn;obtain⟨⟨A,m,k,hc⟩,hl,hr⟩:=hst;have c2:=hc.eO;have c3:=hc.fG;have HL:=aa hl;obtain⟨⟨v1,_,hcl⟩,hll,_⟩:=hl;have c4:=hcl.eO;have mF:=aa hll;clear hcl hll;have HR:=aa hr;clear hc hr hd hn he;try simp only[aX] at c2 c3
 have qC:=aa hbr;have HRR:=aa hrr;clear hbr hrr;go_enter Tryz.func182,Tryz.ntmps182;go_wp2_with fail
 refine(Dt.isRed (r) _ (HR.out.st)).mono ?_;rintro e0 w0 ⟨rfl,rfl⟩;rw[HRR.out];go_wp2_with fail
 refine(Dt.isRed (.node h true b y a) _ (HL.out.st)).mono ?_;rintro e0 w0 ⟨rfl,rfl⟩;simp only[Tr.red];go_wp2_with fail
 refine(Dt.isRed (b) _ (mF.out.st)).mono ?_;rintro e0 w0 ⟨rfl,rfl⟩;rw[qC.out];go_wp2_with fail
 refine(Dt.isRed (.node h true b y a) _ (HL.out.st)).mono ?_;rintro e0 w0 ⟨rfl,rfl⟩;simp only[Tr.red];go_wp2_with fail
 refine(Dt.isRed (r) _ (HR.out.st)).mono ?_;rintro e0 w0 ⟨rfl,rfl⟩;rw[HRR.out];go_wp2_with fail
 refine(Dt.count th g c (.node h true b y a) (r) x rt n _ (HS.out) (HD.out) (HN.out) (HE.out)).mono ?_;rintro e9 w9 ⟨rfl,hi9,oZ⟩;have wV:=aa hi9;have wR:=aa oZ;clear hi9 oZ;go_wp2_with fail
 go_ret;exact⟨rfl,wV.out,wR.out.mono (by simp[Tr.blocks])⟩
theorem Dt.XN (g h gb:Nat) (c:Bool) (lb rb a b:Tr It) (x y z:It) (th:Nat) (rt:Value) (n:Int) (w:World) (hst:fB w (.node g c (.node h true b y a) x (.node gb true lb z rb))) (hd:(Tr.node g c (.node h true b y a) x (.node gb true lb z rb)).blocks.Nodup)
  (hn:(Tr.node g c (.node h true b y a) x (.node gb true lb z rb)).list.length≤900000) (he:bC w th rt n) (hbr:b.red=false):
  Calls Tryz.prog 182 #[th, .pointer (some ⟨g,0,none⟩)] w (jH (.node g (!c) (.node h false b y a) x (.node gb false lb z rb)) (Tr.node g c (.node h true b y a) x (.node gb true lb z rb)).blocks w):=by
 have HS:=aa hst;have HE:=aa he;have HD:=aa hd;have HN:=aa hn;obtain⟨⟨A,m,k,hc⟩,hl,hr⟩:=hst;have c2:=hc.eO;have c3:=hc.fG;have HL:=aa hl;obtain⟨⟨v1,_,hcl⟩,hll,_⟩:=hl;have c4:=hcl.eO;have mF:=aa hll;clear hcl hll;have HR:=aa hr;clear hc hr hd hn he;try simp only[aX] at c2 c3
 have qC:=aa hbr;clear hbr;go_enter Tryz.func182,Tryz.ntmps182;go_wp2_with fail
 refine(Dt.isRed (.node gb true lb z rb) _ (HR.out.st)).mono ?_;rintro e0 w0 ⟨rfl,rfl⟩;simp only[Tr.red];go_wp2_with fail
 refine(Dt.isRed (.node h true b y a) _ (HL.out.st)).mono ?_;rintro e0 w0 ⟨rfl,rfl⟩;simp only[Tr.red];go_wp2_with fail
 refine(Dt.isRed (.node h true b y a) _ (HL.out.st)).mono ?_;rintro e0 w0 ⟨rfl,rfl⟩;simp only[Tr.red];go_wp2_with fail
 refine(Dt.isRed (b) _ (mF.out.st)).mono ?_;rintro e0 w0 ⟨rfl,rfl⟩;rw[qC.out];go_wp2_with fail
 refine(Dt.isRed (.node h true b y a) _ (HL.out.st)).mono ?_;rintro e0 w0 ⟨rfl,rfl⟩;simp only[Tr.red];go_wp2_with fail
 refine(Dt.isRed (.node gb true lb z rb) _ (HR.out.st)).mono ?_;rintro e0 w0 ⟨rfl,rfl⟩;simp only[Tr.red];go_wp2_with fail
 refine(Dt.flip g h gb c true true x y z b a lb rb _ HS.out HD.out).mono ?_;rintro e2 w2 ⟨rfl,hs2,hw2⟩;have HS2:=aa hs2;have HW2:=aa hw2;have HE2:=aa (HE.out.turned HS.out hw2);clear hs2 hw2 c2 c3 c4;go_wp2_with fail
 refine(Dt.count th g (!c) (.node h false b y a) (.node gb false lb z rb) x rt n _ (HS2.out) (HD.out) (HN.out) (HE2.out)).mono ?_;rintro e9 w9 ⟨rfl,hi9,oZ⟩;have wV:=aa hi9;have wR:=aa oZ;clear hi9 oZ;go_wp2_with fail
 go_ret;exact⟨rfl,wV.out,HW2.out.trans wR.out (fun j hj=>Or.inl (by simp at hj;subst hj;simp[Tr.blocks]))⟩
theorem Dt.balance (g:Nat) (c:Bool) (l r:Tr It) (x:It) (th:Nat) (rt:Value) (n:Int) (w:World) (hst:fB w (.node g c l x r)) (hd:(Tr.node g c l x r).blocks.Nodup)
  (hn:(Tr.node g c l x r).list.length≤900000) (he:bC w th rt n):
  Calls Tryz.prog 182 #[th, .pointer (some ⟨g,0,none⟩)] w (jH (Tr.balance (.node g c l x r)) (Tr.node g c l x r).blocks w):=by
 cases hl:l.red with
 |false=>
  cases hr:r.red with
  |false=>
   rw[Tr.lK hl hr];exact Dt.Zw g c l r x th rt n w hst hd hn he hl hr
  |true=>
   cases r with
   |nil=>simp[Tr.red] at hr
   |node h d a y b=>
    simp only[Tr.red] at hr;subst hr;cases hb:b.red with
    |false=>
     have e:Tr.balance (.node g c l x (.node h true a y b))= .node h c (.node g true l x a) y b:=by simp[Tr.balance,Tr.jN,Tr.kI,Tr.lL,Tr.fQ,Tr.dh,Tr.bY,Tr.eD,hl,hb]
     rw[e];exact Dt.XR g h c l a b x y th rt n w hst hd hn he hl hb
    |true=>
     cases b with
     |nil=>simp[Tr.red] at hb
     |node gb d lb z rb=>
      simp only[Tr.red] at hb;subst hb;have e:Tr.balance (.node g c l x (.node h true a y (.node gb true lb z rb)))= .node h (!c) (.node g false l x a) y (.node gb false lb z rb):=by simp[Tr.balance,Tr.jN,Tr.kI,Tr.lL,Tr.fQ,Tr.dh,Tr.bY,Tr.eD,Tr.flip,Tr.neg,hl]
      rw[e];exact Dt.XQ g h gb c l a lb rb x y z th rt n w hst hd hn he hl
 |true=>
  cases l with
  |nil=>simp[Tr.red] at hl
  |node h d b y a=>
   simp only[Tr.red] at hl;subst hl;cases hb:b.red with
   |false=>
    cases hr:r.red with
    |false=>
     have e:Tr.balance (.node g c (.node h true b y a) x r)= .node g c (.node h true b y a) x r:=by simp[Tr.balance,Tr.jN,Tr.kI,Tr.lL,Tr.fQ,Tr.dh,Tr.bY,hb,hr]
     rw[e];exact Dt.XO g h c a b r x y th rt n w hst hd hn he hb hr
    |true=>
     cases r with
     |nil=>simp[Tr.red] at hr
     |node gb d lb z rb=>
      simp only[Tr.red] at hr;subst hr;have e:Tr.balance (.node g c (.node h true b y a) x (.node gb true lb z rb))= .node g (!c) (.node h false b y a) x (.node gb false lb z rb):=by simp[Tr.balance,Tr.jN,Tr.kI,Tr.lL,Tr.fQ,Tr.dh,Tr.bY,Tr.flip,Tr.neg,hb]
      rw[e];exact Dt.XN g h gb c lb rb a b x y z th rt n w hst hd hn he hb
   |true=>
    cases b with
    |nil=>simp[Tr.red] at hb
    |node gb d lb z rb=>
     simp only[Tr.red] at hb;subst hb;have e:Tr.balance (.node g c (.node h true (.node gb true lb z rb) y a) x r)= .node h (!c) (.node gb false lb z rb) y (.node g false a x r):=by simp[Tr.balance,Tr.jN,Tr.kI,Tr.lL,Tr.fQ,Tr.dh,Tr.bY,Tr.bI,Tr.flip,Tr.neg]
     rw[e];cases hr:r.red with
     |false=>exact Dt.Zx g h gb c lb rb a r x y z th rt n w hst hd hn he hr
     |true=>exact Dt.XP g h gb c lb rb a r x y z th rt n w hst hd hn he hr
end


section
open Go.RowKit
variable {P:Prop} {n:Int} {rt:Value} {th g b:Nat} {A y x:It} {l r l' r':Tr It} {c:Bool} {w w1:World}
def ZJ (x:It) (t:Tr It) (w:World) (e:Ending) (w':World):Prop:=∃k,w.heap.size≤k∧e= .returned (ptr (Tr.put It.ahead k x t))∧bM w' (Tr.put It.ahead k x t)∧ax t.blocks w w'
theorem a3d (h:P:=by
 exact he1.aG (F:=[g]) ((ax.refl _ _).set (Or.inl ag) _ _) (fun j hj=>by simp at hj;subst hj;exact hn)):P:=h
theorem uz {g:Nat} (m:A.In) (k:y.In) (hc:Cs w g (nd y A (ptr l) (ptr r) c)) (hl:bM w l) (hr:bM w r) (he:bC w th rt n)
  (hd:(Tr.node g c l y r).blocks.Nodup) (hi:bM w1 l') (hw:ax l.blocks w w1) (hg:g∉l'.blocks):
  Cs w1 g (nd y A (ptr l) (ptr r) c)∧fB (w1.setCell ⟨g,14,none⟩ (ptr l')) (.node g c l' y r)∧bC (w1.setCell ⟨g,14,none⟩ (ptr l')) th rt n∧ax (g::l.blocks) w (w1.setCell ⟨g,14,none⟩ (ptr l')):=by
 obtain⟨d1,d2,d3,d4,d5⟩:=aR hd;have c1:=hc.aG hw d1;have hn:jq w1 g:=c1.yu;have hr1:=hr.aG hw hl.nl (fun j hj hj'=>d5 j hj' hj);have he1:=he.aG hw hl.nl;refine⟨c1,⟨⟨A,m,k,c1.Rj _⟩,hi.far hn hg _ _,hr1.far hn d2 _ _⟩,?_,?_⟩
 ·exact a3d
 ·exact(hw.mono (fun j hj=>by simp[hj])).set (Or.inl ag) _ _
theorem lU {g:Nat} (m:A.In) (k:y.In) (hc:Cs w g (nd y A (ptr l) (ptr r) c)) (hl:bM w l) (hr:bM w r) (he:bC w th rt n)
  (hd:(Tr.node g c l y r).blocks.Nodup) (hi:bM w1 r') (hw:ax r.blocks w w1) (hg:g∉r'.blocks):
  Cs w1 g (nd y A (ptr l) (ptr r) c)∧fB (w1.setCell ⟨g,15,none⟩ (ptr r')) (.node g c l y r')∧bC (w1.setCell ⟨g,15,none⟩ (ptr r')) th rt n∧ax (g::r.blocks) w (w1.setCell ⟨g,15,none⟩ (ptr r')):=by
 obtain⟨d1,d2,d3,d4,d5⟩:=aR hd;have c1:=hc.aG hw d2;have hn:jq w1 g:=c1.yu;have hl1:=hl.aG hw hr.nl (fun j hj hj'=>d5 j hj hj');have he1:=he.aG hw hr.nl;refine⟨c1,⟨⟨A,m,k,c1.Mw _⟩,hl1.far hn d1 _ _,hi.far hn hg _ _⟩,?_,?_⟩
 ·exact a3d
 ·exact(hw.mono (fun j hj=>by simp[hj])).set (Or.inl ag) _ _
theorem vL (h:(Tr.node g c l x r).blocks.Nodup) (hl:l'.blocks.Nodup) (ho:∀j∈l'.blocks,j∈l.blocks∨(j∉(Tr.node g c l x r).blocks)):(Tr.node g c l' x r).blocks.Nodup:=by
 obtain⟨d1,d2,d3,d4,d5⟩:=aR h;simp only[Tr.blocks,List.mem_cons,List.mem_append,not_or] at ho;refine List.nodup_cons.2 ⟨fun hg=> ?_,List.nodup_append.2 ⟨hl,d4,fun a ha b hb e=> ?_⟩⟩
 ·rcases List.mem_append.1 hg with h1|h1
  ·rcases ho g h1 with h2|h2
   ·exact d1 h2
   ·exact h2.1 rfl
  ·exact d2 h1
 ·subst e;rcases ho a ha with h2|h2
  ·exact d5 a h2 hb
  ·exact h2.2.2 hb
theorem nu (h:(Tr.node g c l x r).blocks.Nodup) (hl:r'.blocks.Nodup) (ho:∀j∈r'.blocks,j∈r.blocks∨(j∉(Tr.node g c l x r).blocks)):(Tr.node g c l x r').blocks.Nodup:=by
 obtain⟨d1,d2,d3,d4,d5⟩:=aR h;simp only[Tr.blocks,List.mem_cons,List.mem_append,not_or] at ho;refine List.nodup_cons.2 ⟨fun hg=> ?_,List.nodup_append.2 ⟨d3,hl,fun a ha b hb e=> ?_⟩⟩
 ·rcases List.mem_append.1 hg with h1|h1
  ·exact d1 h1
  ·rcases ho g h1 with h2|h2
   ·exact d2 h2
   ·exact h2.1 rfl
 ·subst e;rcases ho a hb with h2|h2
  ·exact d5 a ha h2
  ·exact h2.2.1 ha
def Pf (th:Nat) (rt:Value) (n:Int) (g:Nat) (c:Bool) (l r:Tr It) (y A:It) (b:Nat) (x:It) (w:World):Prop:=(Cs w g (nd y A (ptr l) (ptr r) c)∧bM w l∧bM w r)∧bC w th rt n∧Th w b x
theorem Pf.below {th:Nat} {rt:Value} {n:Int} {g:Nat} {c:Bool} {l r:Tr It} {y A:It} {b:Nat} {x:It} {w w':World} (h:Pf th rt n g c l r y A b x w) (hb:Below w w w'):Pf th rt n g c l r y A b x w':=
 ⟨⟨h.1.1.below hb,h.1.2.1.below hb,h.1.2.2.below hb⟩,h.2.1.below hb,h.2.2.below hb⟩
theorem Th.aG {F:List Nat} {w w':World} (h:Th w b x) (hc:ax F w w') (hb:b∉F):Th w' b x:=by
 have hl:=World.block_lt_of_cell? w _ h.1;exact⟨(hc.cell (p:=⟨b,0,none⟩) hl hb).trans h.1,(hc.cell (p:=⟨b,1,none⟩) hl hb).trans h.2.1,(hc.cell (p:=⟨b,2,none⟩) hl hb).trans h.2.2.1,(hc.cell (p:=⟨b,3,none⟩) hl hb).trans h.2.2.2.1,(hc.cell (p:=⟨b,4,none⟩) hl hb).trans h.2.2.2.2.1,(hc.cell (p:=⟨b,5,none⟩) hl hb).trans h.2.2.2.2.2.1,(hc.cell (p:=⟨b,6,none⟩) hl hb).trans h.2.2.2.2.2.2⟩
theorem Th.far (h:Th w b x) (hb:g≠b) (o:Nat) (v:Value):Th (w.setCell ⟨g,o,none⟩ v) b x:=
 h.aG (F:=[g]) ((ax.refl [g] w).set (Or.inl ag) o v) (by simp;exact Ne.symm hb)
theorem bC.less (h:bC w th rt n):w.cell? th=some (.func (.func 121) #[] #[]):=by obtain⟨_,_,t0,_⟩:=h;exact t0.aL
theorem a3a (h:P:=by
 intro wq hSw;have mV:=nK.out.below hSw;have q0:=mV.2.1.less;obtain⟨p0,p1,p2,p3,p4,p5,p6⟩:=mV.1.1.th;obtain⟨m0,m1,m2,m3,m4,m5,m6⟩:=mV.2.2;go_simp;try with_reducible rfl):P:=h
theorem a3b (h:P:=by
 first|exact hHeld|exact iK.out|exact jo.out):P:=h
theorem a3c (h:P:=by
 rcases List.mem_cons.1 (hp.mem_iff.1 hj) with rfl|h1
 ·exact Or.inr hout
 ·exact Or.inl h1):P:=h
theorem a3e (h:P:=by
 rcases List.mem_cons.1 hj with rfl|h1
 ·simp[Tr.blocks]
 ·simp[Tr.blocks,h1]):P:=h
set_option maxRecDepth 100000 in
set_option maxHeartbeats 8000000 in
theorem Dt.put (th:Nat) (rt:Value) (n:Int) (x:It) (hx:x.In) (t:Tr It):∀w,bM w t→t.blocks.Nodup→t.list.length<900000→bC w th rt n→
  Calls Tryz.prog 163 #[th,ptr t,x.val] w (ZJ x t w):=by
 have ek:=aa hx;clear hx;unfold It.val;induction t with
 |nil=>
  intro w _ _ _ he
  have lh:Hid (Cs ((w.alloc (.cells x 57)).alloc (.cells #[.int .u64 x.t, .int .u32 x.r, .int .u32 x.v, .int .i64 x.i, .int .u64 x.u, .int .u32 x.s, .int .u32 x.y, .int .u64 0, .int .u32 0, .int .u32 0, .int .i64 0, .int .u64 0, .int .u32 0, .int .u32 0, .pointer none, .pointer none, .bool true] 209)) (w.heap.size+1) (nd x It.zero (.pointer none) (.pointer none) true)):=aa (by
   have:=Cs.bL (w.alloc (.cells x 57)) 209 [.int .u64 x.t, .int .u32 x.r, .int .u32 x.v, .int .i64 x.i, .int .u64 x.u, .int .u32 x.s, .int .u32 x.y, .int .u64 0, .int .u32 0, .int .u32 0, .int .i64 0, .int .u64 0, .int .u32 0, .int .u32 0, .pointer none, .pointer none, .bool true];simp only[World.size_alloc] at this;exact this)
  have HB0:Hid (Below w w ((w.alloc (.cells x 57)).alloc (.cells #[.int .u64 x.t, .int .u32 x.r, .int .u32 x.v, .int .i64 x.i, .int .u64 x.u, .int .u32 x.s, .int .u32 x.y, .int .u64 0, .int .u32 0, .int .u32 0, .int .i64 0, .int .u64 0, .int .u32 0, .int .u32 0, .pointer none, .pointer none, .bool true] 209))):=aa (((Below.refl _ _).alloc ay _).alloc ag _);have HS:Hid (fB ((w.alloc (.cells x 57)).alloc (.cells #[.int .u64 x.t, .int .u32 x.r, .int .u32 x.v, .int .i64 x.i, .int .u64 x.u, .int .u32 x.s, .int .u32 x.y, .int .u64 0, .int .u32 0, .int .u32 0, .int .i64 0, .int .u64 0, .int .u32 0, .int .u32 0, .pointer none, .pointer none, .bool true] 209)) (.node (w.heap.size+1) true .nil x .nil)):=aa ⟨⟨It.zero,It.nz,ek.out,lh.out⟩,trivial,trivial⟩;have HE:=aa (he.below HB0.out);clear he lh;simp only[kP];go_enter Tryz.func163,Tryz.ntmps163;go_wp2_with fail
  refine(Dt.balance (w.heap.size+1) true .nil .nil x th rt n _ HS.out (by simp[Tr.blocks]) (by simp[Tr.list]) HE.out).mono ?_;rintro e w1 ⟨rfl,hi,hw⟩;have HI:=aa hi;have HW:=aa hw;clear hi hw;have e:Tr.balance (.node (w.heap.size+1) true .nil x .nil)=Tr.put It.ahead (w.heap.size+1) x .nil:=rfl;rw[e] at HI⊢
  go_wp2_with fail
  go_ret;exact⟨w.heap.size+1,by omega,rfl,HI.out,((ax.below HB0.out).trans HW.out (by simp[Tr.blocks]))⟩
 |node g c l y r ihl ihr=>
  intro w h hd hn he;have HD:=aa hd;have HN:=aa hn;have IHL:=aa ihl;have IHR:=aa ihr;simp only[Tr.list,List.length_append,List.length_cons] at hn;obtain⟨⟨v,hv,hc⟩,hl,hr⟩:=id h;obtain⟨A,m,k,rfl⟩:=hv.form;have HA:=aa (And.intro m k);have hb0:=aD w (.cells x 57);have nK:Hid (Pf th rt n g c l r y A w.heap.size x (w.alloc (.cells x 57))):=aa ⟨⟨hc.below hb0,hl.below hb0,hr.below hb0⟩,he.below hb0,(Cs.cu w _ x).nW⟩;have HB0:=aa hb0;have gG:∀z∈(Tr.node g c l y r).blocks,z<w.heap.size:=fun z hz=>(h.nl z hz).lt;have gG:=aa gG;clear h hd he hc hl hr hv ihl ihr hb0 m k;simp only[aX];cases hlt:It.ahead x y with
  |true=>
   have JI:=aa hlt;clear hlt;go_enter Tryz.func163,Tryz.ntmps163;go_wp2_with fail
   generalize (w.alloc (.cells x 57))=W0 at nK HB0⊢
   refine eB (S:=Bl W0) 9 ae (Bl.drew W0) ?_;refine tU 0 (v:= ?_) rfl ae (fun _ _ _ h=>h) au ?_ ?_;rotate_left
   ·exact ah
   try simp only[av]
   refine tU 1 (v:= ?_) rfl ae (fun _ _ _ h=>h) au ?_ ?_;rotate_left
   ·exact ah
   try simp only[av]
   refine tU 2 (v:= ?_) rfl ae (fun _ _ _ h=>h) au ?_ ?_;rotate_left
   ·exact ah
   try simp only[av]
   refine tU 3 (v:= ?_) rfl ae (fun _ _ _ h=>h) au ?_ ?_;rotate_left
   ·exact a3a
   try simp only[av]
   refine tU 4 (v:= ?_) rfl ae (fun _ _ _ h=>h) au ?_ ?_;rotate_left
   ·exact a3a
   try simp only[av]
   refine tU 5 (v:= ?_) rfl ae (fun _ _ _ h=>h) au ?_ ?_;rotate_left
   ·exact ah
   try simp only[av]
   refine tU 6 (v:= ?_) rfl ae (fun _ _ _ h=>h) au ?_ ?_;rotate_left
   ·exact ah
   try simp only[av]
   refine tU 7 (v:= ?_) rfl ae (fun _ _ _ h=>h) au ?_ ?_;rotate_left
   ·exact ah
   try simp only[av]
   refine tU 8 (v:= ?_) rfl ae (fun _ _ _ h=>h) au ?_ ?_;rotate_left
   ·exact a3a
   try simp only[av]
   refine lY (n:=9) rfl rfl ae (fun wz hSz=> ?_);simp only[List.toList_toArray,List.drop_succ_cons,List.drop_zero];have sI:=aa hSz;clear hSz;go_wp2_with fail
   refine(Item.ahead x y ek.out HA.out.2 _).mono ?_;rintro e w1 ⟨rfl,hb1⟩;rw[JI.out];have zH:=aa ((nK.out.below sI.out).below hb1);have HB1:=aa (ai HB0.out (ai sI.out hb1));clear hb1 sI nK HB0;go_wp2_with fail
   have q0:=zH.out.1.1.eO;have rM:=aa (zH.out.below (Below.refl _ w1).drew);have Qq:=aa (ai HB1.out (Below.refl _ w1).drew);refine wp_region_held_drew (S:=fun w'=>w'.cell? w=some (.int .u64 x.t)∧w'.cell? ⟨w,1,none⟩=some (.int .u32 x.r)∧w'.cell? ⟨w,2,none⟩=some (.int .u32 x.v)∧w'.cell? ⟨w,3,none⟩=some (.int .i64 x.i)∧w'.cell? ⟨w,4,none⟩=some (.int .u64 x.u)∧w'.cell? ⟨w,5,none⟩=some (.int .u32 x.s)∧w'.cell? ⟨w,6,none⟩=some (.int .u32 x.y)) ae rM.out.2.2 (fun hHeld=> ?_);refine wpAnyH_take (i:=0) (v:= ?_) rfl ae ae ae (fun _ _ _ h=>h) (Or.inl ⟨by rfl,?_⟩) aT ?_;rotate_left
   ·exact aO
   try simp only[av]
   refine wpAnyH_take (i:=1) (v:= ?_) rfl ae ae ae (fun _ _ _ h=>h) (Or.inl ⟨by rfl,?_⟩) aT ?_;rotate_left
   ·exact aO
   try simp only[av]
   refine wpAnyH_take (i:=2) (v:= ?_) rfl ae ae ae (fun _ _ _ h=>h) (Or.inl ⟨by rfl,?_⟩) aT ?_;rotate_left
   ·exact aO
   try simp only[av]
   refine wpAnyH_take (i:=3) (v:= ?_) rfl ae ae ae (fun _ _ _ h=>h) (Or.inl ⟨by rfl,?_⟩) aT ?_;rotate_left
   ·exact aO
   try simp only[av]
   refine wpAnyH_take (i:=4) (v:= ?_) rfl ae ae ae (fun _ _ _ h=>h) (Or.inl ⟨by rfl,?_⟩) aT ?_;rotate_left
   ·exact aO
   try simp only[av]
   refine wpAnyH_take (i:=6) (v:= ?_) rfl ae ae ae (fun _ _ _ h=>h) (Or.inl ⟨by rfl,?_⟩) aT ?_;rotate_left
   ·exact aO
   try simp only[av]
   refine wpAnyH_ready (rs:=[5]) ae ag ?_;refine AllReadyH.cons rfl (fun K hK=> ?_) AllReadyH.nil;go_simp;refine hK.out _ _ ?_ (fun hHeld=> ?_)
   ·exact a3b
   clear hK K;try simp only[av]
   refine wpAnyH_ready (rs:=[7]) ae ag ?_;refine AllReadyH.cons rfl (fun K hK=> ?_) AllReadyH.nil;go_simp;obtain⟨d1,d2,d3,d4,d5⟩:=aR HD.out;have HD3:=aa d3;clear d1 d2 d3 d4 d5;refine(IHL.out _ rM.out.1.2.1 HD3.out af rM.out.2.1).mono ?_;rintro e w2 ⟨k',hk,rfl,hi,hw⟩;have hk':w.heap.size≤k':=Nat.le_trans Qq.out.size hk;have hp:=Tr.iM It.ahead k' x l;have HP:=aa hp
   have hout:k'∉(Tr.node g c l y r).blocks:=fun hm=>by
    have h1:=gG.out _ hm;omega
   have hg:g∉(Tr.put It.ahead k' x l).blocks:=fun hm=>by
    rcases List.mem_cons.1 (hp.mem_iff.1 hm) with rfl|h1
    ·exact hout (by simp[Tr.blocks])
    ·have:=aR HD.out;exact this.1 h1
   have hnd:(Tr.put It.ahead k' x l).blocks.Nodup:=hp.nodup_iff.2 (List.nodup_cons.2 ⟨fun hm=>hout (by simp[Tr.blocks,hm]),HD3.out⟩);have HT:=aa (uz HA.out.1 HA.out.2 rM.out.1.1 rM.out.1.2.1 rM.out.1.2.2 rM.out.2.1 HD.out hi hw hg)
   have mE:=aa (vL (l':=Tr.put It.ahead k' x l) HD.out hnd (fun j hj=>by
    exact a3c))
   have kE:=aa (Tr.iy (Tr.put It.ahead k' x l));have HK:=aa hk';have hxb:w.heap.size∉l.blocks:=fun hm=>Nat.lt_irrefl _ (gG.out w.heap.size (by simp[Tr.blocks,hm]));have hxg:g≠w.heap.size:=fun e=>Nat.lt_irrefl _ (gG.out w.heap.size (by simp[Tr.blocks,e]));have o9:=aa (rM.out.2.2.aG hw hxb);have yC:Hid (∀v,Th (w2.setCell ⟨g,14,none⟩ v) w.heap.size x):=aa (fun v=>o9.out.far hxg _ _);clear hi hw hp hout hg hnd hk hk' hxb hxg q0;have q2:=HT.out.1.eO;have q3:=HT.out.1.H8;have mH:Hid (Tr.put It.ahead k' x (.node g c l y r)=Tr.balance (.node g c (Tr.put It.ahead k' x l) y r)):=aa (by simp[Tr.put,JI.out]);generalize Tr.put It.ahead k' x l=L' at *;obtain⟨u,hu⟩:=iL L';have HU:=aa hu;rw[hu];clear hu;have iK:Hid (Th w2 w.heap.size x):=aa o9.out;have jo:Hid (Th (w2.setCell ⟨g,14,none⟩ (.pointer u)) w.heap.size x):=aa (yC.out _);refine hK.out _ _ ?_ (fun hHeld=> ?_)
   ·exact a3b
   clear hK K;try simp only[av]
   refine wpAnyH_take (i:=8) (v:= ?_) rfl ae ae ae (fun _ _ _ h=>h) (Or.inl ⟨by rfl,?_⟩) aT ?_;rotate_left
   ·exact aO
   try simp only[av]
   refine wpAnyH_take (i:=9) (v:= ?_) rfl ae ae ae (fun _ _ _ h=>h) (Or.inl ⟨by rfl,?_⟩) aT ?_;rotate_left
   ·exact aO
   try simp only[av]
   refine wpAnyH_ready (rs:=[10]) ae ag ?_;refine AllReadyH.cons rfl (fun K hK=> ?_) AllReadyH.nil;go_simp;refine hK.out _ _ ?_ (fun hHeld=> ?_)
   ·exact a3b
   clear hK K;try simp only[av]
   refine wpAnyH_done ae ?_ _;have HW:Hid (∃W,W=w2.setCell ⟨g,14,none⟩ (.pointer u)∧fB W (.node g c L' y r)∧bC W th rt n∧ax (g::l.blocks) w1.drew W):=aa ⟨_,rfl,by rw[←HU.out];exact HT.out.2.1,by rw[←HU.out];exact HT.out.2.2.1,by rw[←HU.out];exact HT.out.2.2.2⟩;obtain⟨W,hW,HF⟩:=HW;rw[←hW];clear hW q2 q3;have HF:=aa HF;clear hHeld;go_wp2_with fail
   refine(Dt.balance g c L' r y th rt n W HF.out.1 mE.out (by
    have h1:=kE.out;rw[HP.out.length_eq,List.length_cons,Tr.iy] at h1;simp only[Tr.list,List.length_append,List.length_cons];omega) HF.out.2.1).mono ?_
   rintro e w3 ⟨rfl,hi,hw⟩;have HI2:=aa hi;have HW2:=aa hw;clear hi hw;go_wp2_with fail
   go_ret;refine⟨k',HK.out,by rw[mH.out];rfl,by rw[mH.out];exact HI2.out,((ax.below Qq.out).trans HF.out.2.2 (fun j hj=>Or.inl ?_)).trans HW2.out (fun j hj=> ?_)⟩
   ·exact a3e
   ·simp only[Tr.blocks,List.mem_cons,List.mem_append] at hj⊢
    rcases hj with h1|h1|h1
    ·exact Or.inl (Or.inl h1)
    ·rcases List.mem_cons.1 (HP.out.mem_iff.1 h1) with rfl|h2
     ·exact Or.inr HK.out
     ·exact Or.inl (Or.inr (Or.inl h2))
    ·exact Or.inl (Or.inr (Or.inr h1))
  |false=>
   have JI:=aa hlt;clear hlt;go_enter Tryz.func163,Tryz.ntmps163;go_wp2_with fail
   generalize (w.alloc (.cells x 57))=W0 at nK HB0⊢
   refine eB (S:=Bl W0) 9 ae (Bl.drew W0) ?_;refine tU 0 (v:= ?_) rfl ae (fun _ _ _ h=>h) au ?_ ?_;rotate_left
   ·exact ah
   try simp only[av]
   refine tU 1 (v:= ?_) rfl ae (fun _ _ _ h=>h) au ?_ ?_;rotate_left
   ·exact ah
   try simp only[av]
   refine tU 2 (v:= ?_) rfl ae (fun _ _ _ h=>h) au ?_ ?_;rotate_left
   ·exact ah
   try simp only[av]
   refine tU 3 (v:= ?_) rfl ae (fun _ _ _ h=>h) au ?_ ?_;rotate_left
   ·exact a3a
   try simp only[av]
   refine tU 4 (v:= ?_) rfl ae (fun _ _ _ h=>h) au ?_ ?_;rotate_left
   ·exact a3a
   try simp only[av]
   refine tU 5 (v:= ?_) rfl ae (fun _ _ _ h=>h) au ?_ ?_;rotate_left
   ·exact ah
   try simp only[av]
   refine tU 6 (v:= ?_) rfl ae (fun _ _ _ h=>h) au ?_ ?_;rotate_left
   ·exact ah
   try simp only[av]
   refine tU 7 (v:= ?_) rfl ae (fun _ _ _ h=>h) au ?_ ?_;rotate_left
   ·exact ah
   try simp only[av]
   refine tU 8 (v:= ?_) rfl ae (fun _ _ _ h=>h) au ?_ ?_;rotate_left
   ·exact a3a
   try simp only[av]
   refine lY (n:=9) rfl rfl ae (fun wz hSz=> ?_);simp only[List.toList_toArray,List.drop_succ_cons,List.drop_zero];have sI:=aa hSz;clear hSz;go_wp2_with fail
   refine(Item.ahead x y ek.out HA.out.2 _).mono ?_;rintro e w1 ⟨rfl,hb1⟩;rw[JI.out];have zH:=aa ((nK.out.below sI.out).below hb1);have HB1:=aa (ai HB0.out (ai sI.out hb1));clear hb1 sI nK HB0;go_wp2_with fail
   have q0:=zH.out.1.1.fG;have rM:=aa (zH.out.below (Below.refl _ w1).drew);have Qq:=aa (ai HB1.out (Below.refl _ w1).drew);refine wp_region_held_drew (S:=fun w'=>w'.cell? w=some (.int .u64 x.t)∧w'.cell? ⟨w,1,none⟩=some (.int .u32 x.r)∧w'.cell? ⟨w,2,none⟩=some (.int .u32 x.v)∧w'.cell? ⟨w,3,none⟩=some (.int .i64 x.i)∧w'.cell? ⟨w,4,none⟩=some (.int .u64 x.u)∧w'.cell? ⟨w,5,none⟩=some (.int .u32 x.s)∧w'.cell? ⟨w,6,none⟩=some (.int .u32 x.y)) ae rM.out.2.2 (fun hHeld=> ?_);refine wpAnyH_take (i:=0) (v:= ?_) rfl ae ae ae (fun _ _ _ h=>h) (Or.inl ⟨by rfl,?_⟩) aT ?_;rotate_left
   ·exact aO
   try simp only[av]
   refine wpAnyH_take (i:=1) (v:= ?_) rfl ae ae ae (fun _ _ _ h=>h) (Or.inl ⟨by rfl,?_⟩) aT ?_;rotate_left
   ·exact aO
   try simp only[av]
   refine wpAnyH_take (i:=2) (v:= ?_) rfl ae ae ae (fun _ _ _ h=>h) (Or.inl ⟨by rfl,?_⟩) aT ?_;rotate_left
   ·exact aO
   try simp only[av]
   refine wpAnyH_take (i:=3) (v:= ?_) rfl ae ae ae (fun _ _ _ h=>h) (Or.inl ⟨by rfl,?_⟩) aT ?_;rotate_left
   ·exact aO
   try simp only[av]
   refine wpAnyH_take (i:=4) (v:= ?_) rfl ae ae ae (fun _ _ _ h=>h) (Or.inl ⟨by rfl,?_⟩) aT ?_;rotate_left
   ·exact aO
   try simp only[av]
   refine wpAnyH_take (i:=6) (v:= ?_) rfl ae ae ae (fun _ _ _ h=>h) (Or.inl ⟨by rfl,?_⟩) aT ?_;rotate_left
   ·exact aO
   try simp only[av]
   refine wpAnyH_ready (rs:=[5]) ae ag ?_;refine AllReadyH.cons rfl (fun K hK=> ?_) AllReadyH.nil;go_simp;refine hK.out _ _ ?_ (fun hHeld=> ?_)
   ·exact a3b
   clear hK K;try simp only[av]
   refine wpAnyH_ready (rs:=[7]) ae ag ?_;refine AllReadyH.cons rfl (fun K hK=> ?_) AllReadyH.nil;go_simp;obtain⟨d1,d2,d3,d4,d5⟩:=aR HD.out;have HD3:=aa d4;clear d1 d2 d3 d4 d5;refine(IHR.out _ rM.out.1.2.2 HD3.out af rM.out.2.1).mono ?_;rintro e w2 ⟨k',hk,rfl,hi,hw⟩;have hk':w.heap.size≤k':=Nat.le_trans Qq.out.size hk;have hp:=Tr.iM It.ahead k' x r;have HP:=aa hp
   have hout:k'∉(Tr.node g c l y r).blocks:=fun hm=>by
    have h1:=gG.out _ hm;omega
   have hg:g∉(Tr.put It.ahead k' x r).blocks:=fun hm=>by
    rcases List.mem_cons.1 (hp.mem_iff.1 hm) with rfl|h1
    ·exact hout (by simp[Tr.blocks])
    ·have:=aR HD.out;exact this.2.1 h1
   have hnd:(Tr.put It.ahead k' x r).blocks.Nodup:=hp.nodup_iff.2 (List.nodup_cons.2 ⟨fun hm=>hout (by simp[Tr.blocks,hm]),HD3.out⟩);have HT:=aa (lU HA.out.1 HA.out.2 rM.out.1.1 rM.out.1.2.1 rM.out.1.2.2 rM.out.2.1 HD.out hi hw hg)
   have mE:=aa (nu (r':=Tr.put It.ahead k' x r) HD.out hnd (fun j hj=>by
    exact a3c))
   have kE:=aa (Tr.iy (Tr.put It.ahead k' x r));have HK:=aa hk';have hxb:w.heap.size∉r.blocks:=fun hm=>Nat.lt_irrefl _ (gG.out w.heap.size (by simp[Tr.blocks,hm]));have hxg:g≠w.heap.size:=fun e=>Nat.lt_irrefl _ (gG.out w.heap.size (by simp[Tr.blocks,e]));have o9:=aa (rM.out.2.2.aG hw hxb);have yC:Hid (∀v,Th (w2.setCell ⟨g,15,none⟩ v) w.heap.size x):=aa (fun v=>o9.out.far hxg _ _);clear hi hw hp hout hg hnd hk hk' hxb hxg q0;have q2:=HT.out.1.fG;have q3:=HT.out.1.yR;have mH:Hid (Tr.put It.ahead k' x (.node g c l y r)=Tr.balance (.node g c l y (Tr.put It.ahead k' x r))):=aa (by simp[Tr.put,JI.out]);generalize Tr.put It.ahead k' x r=L' at *;obtain⟨u,hu⟩:=iL L';have HU:=aa hu;rw[hu];clear hu;have iK:Hid (Th w2 w.heap.size x):=aa o9.out;have jo:Hid (Th (w2.setCell ⟨g,15,none⟩ (.pointer u)) w.heap.size x):=aa (yC.out _);refine hK.out _ _ ?_ (fun hHeld=> ?_)
   ·exact a3b
   clear hK K;try simp only[av]
   refine wpAnyH_take (i:=8) (v:= ?_) rfl ae ae ae (fun _ _ _ h=>h) (Or.inl ⟨by rfl,?_⟩) aT ?_;rotate_left
   ·exact aO
   try simp only[av]
   refine wpAnyH_take (i:=9) (v:= ?_) rfl ae ae ae (fun _ _ _ h=>h) (Or.inl ⟨by rfl,?_⟩) aT ?_;rotate_left
   ·exact aO
   try simp only[av]
   refine wpAnyH_ready (rs:=[10]) ae ag ?_;refine AllReadyH.cons rfl (fun K hK=> ?_) AllReadyH.nil;go_simp;refine hK.out _ _ ?_ (fun hHeld=> ?_)
   ·exact a3b
   clear hK K;try simp only[av]
   refine wpAnyH_done ae ?_ _;have HW:Hid (∃W,W=w2.setCell ⟨g,15,none⟩ (.pointer u)∧fB W (.node g c l y L')∧bC W th rt n∧ax (g::r.blocks) w1.drew W):=aa ⟨_,rfl,by rw[←HU.out];exact HT.out.2.1,by rw[←HU.out];exact HT.out.2.2.1,by rw[←HU.out];exact HT.out.2.2.2⟩;obtain⟨W,hW,HF⟩:=HW;rw[←hW];clear hW q2 q3;have HF:=aa HF;clear hHeld;go_wp2_with fail
   refine(Dt.balance g c l L' y th rt n W HF.out.1 mE.out (by
    have h1:=kE.out;rw[HP.out.length_eq,List.length_cons,Tr.iy] at h1;simp only[Tr.list,List.length_append,List.length_cons];omega) HF.out.2.1).mono ?_
   rintro e w3 ⟨rfl,hi,hw⟩;have HI2:=aa hi;have HW2:=aa hw;clear hi hw;go_wp2_with fail
   go_ret;refine⟨k',HK.out,by rw[mH.out];rfl,by rw[mH.out];exact HI2.out,((ax.below Qq.out).trans HF.out.2.2 (fun j hj=>Or.inl ?_)).trans HW2.out (fun j hj=> ?_)⟩
   ·exact a3e
   ·simp only[Tr.blocks,List.mem_cons,List.mem_append] at hj⊢
    rcases hj with h1|h1|h1
    ·exact Or.inl (Or.inl h1)
    ·exact Or.inl (Or.inr (Or.inl h1))
    ·rcases List.mem_cons.1 (HP.out.mem_iff.1 h1) with rfl|h2
     ·exact Or.inr HK.out
     ·exact Or.inl (Or.inr (Or.inr h2))
end


section
open Go.RowKit
def cZ (w:World) (th:Nat) (t:Tr It):Prop:=bC w th (ptr t) t.list.length∧bM w t∧t.blocks.Nodup
theorem cZ.below {w w':World} {th:Nat} {t:Tr It} (h:cZ w th t) (hb:Below w w w'):cZ w' th t:=⟨h.1.below hb,h.2.1.below hb,h.2.2⟩
theorem a9s {P:Prop} (h:P:=by
 intro wq hSw;have bz:Below _ _ _:=hSw;have q0:=aS bz EH.out;obtain⟨p0,p1,p2,p3,p4,p5,p6⟩:=EF.out.below bz;obtain⟨m0,m1,m2,m3,m4,m5,m6⟩:=ED.out.below bz;go_simp;try with_reducible rfl):P:=h
theorem a9t {P:Prop} (h:P:=by
 intro wq hSw;have bz:Below _ _ _:=hSw;have q0:=aS bz BC.out;obtain⟨p0,p1,p2,p3,p4,p5,p6⟩:=BA.out.below bz;obtain⟨m0,m1,m2,m3,m4,m5,m6⟩:=Bz.out.below bz;go_simp;try with_reducible rfl):P:=h
set_option maxRecDepth 100000 in
set_option maxHeartbeats 4000000 in
theorem Dt.has (th:Nat) (t:Tr It) (x:It) (hx:x.In) (w:World) (h:cZ w th t):
  Calls Tryz.prog 162 #[th,x.val] w (aV (.bool (Tr.has It.ahead x t)) w):=by
 have hb0:=aD w (.cells x 57);have HT:=aa (h.below hb0);have ek:=aa hx;have HX0:Hid (Th (w.alloc (.cells x 57)) w.heap.size x):=aa (Cs.cu w _ x).nW;have HB0:=aa hb0;obtain⟨_,_,t0,_⟩:=HT.out.1;have e3:=t0.at3;have HL:=aa t0.aL;clear t0 h hx hb0;unfold It.val;go_enter Tryz.func162,Tryz.ntmps162;go_wp2_with fail
 generalize (w.alloc (.cells x 57))=W0 at HT HX0 HB0 HL e3⊢
 go_loopg [5] t.size (fun s a wr=>Below W0 W0 wr∧∃u:Tr It,a=ptr u∧s=u.size∧bM W0 u∧Tr.has It.ahead x u=Tr.has It.ahead x t)
 case atStart=>exact⟨Below.refl _ _,t,rfl,rfl,HT.out.2.1,rfl⟩
 case round=>
  obtain⟨hb,u,rfl,hs,hi,he⟩:=hrel;have HB:=aa hb;have HS:=aa hs;have HE:=aa he;have HI:=aa (hi.below hb);have HIw:=aa hi;have BC:=aa (aS hb HL.out);have Bz:=aa (HX0.out.below hb);clear hb hs he hi;cases u with
  |nil=>
   simp only[kP];go_wp2_with fail
   go_ret;exact⟨by rw[←HE.out];rfl,ai HB0.out HB.out⟩
  |node g c l y r=>
   obtain⟨⟨v,hv,hc⟩,hl,hr⟩:=id HI.out;have BA:=aa hc.th;have jD:=aa hc.eO;have nL:=aa hc.fG;have mZ:=aa hv.2.2;clear hc hl hr hv;simp only[aX];have HQ:Hid (Tr.has It.ahead x (.node g c l y r)=if It.ahead x y then Tr.has It.ahead x l else if It.ahead y x then Tr.has It.ahead x r else true):=aa rfl;cases h1:It.ahead x y with
   |true=>
    have H1:=aa h1;clear h1;go_wp2_with fail
    refine eB (S:=Bl wr) 9 ae (Bl.drew wr) ?_;refine tU 0 (v:= ?_) rfl ae (fun _ _ _ h=>h) au ?_ ?_;rotate_left
    ·exact ah
    try simp only[av]
    refine tU 1 (v:= ?_) rfl ae (fun _ _ _ h=>h) au ?_ ?_;rotate_left
    ·exact ah
    try simp only[av]
    refine tU 2 (v:= ?_) rfl ae (fun _ _ _ h=>h) au ?_ ?_;rotate_left
    ·exact ah
    try simp only[av]
    refine tU 3 (v:= ?_) rfl ae (fun _ _ _ h=>h) au ?_ ?_;rotate_left
    ·exact a9t
    try simp only[av]
    refine tU 4 (v:= ?_) rfl ae (fun _ _ _ h=>h) au ?_ ?_;rotate_left
    ·exact a9t
    try simp only[av]
    refine tU 5 (v:= ?_) rfl ae (fun _ _ _ h=>h) au ?_ ?_;rotate_left
    ·exact ah
    try simp only[av]
    refine tU 6 (v:= ?_) rfl ae (fun _ _ _ h=>h) au ?_ ?_;rotate_left
    ·exact ah
    try simp only[av]
    refine tU 7 (v:= ?_) rfl ae (fun _ _ _ h=>h) au ?_ ?_;rotate_left
    ·exact ah
    try simp only[av]
    refine tU 8 (v:= ?_) rfl ae (fun _ _ _ h=>h) au ?_ ?_;rotate_left
    ·exact a9t
    try simp only[av]
    refine lY (n:=9) rfl rfl ae (fun wz hSz=> ?_);simp only[List.toList_toArray,List.drop_succ_cons,List.drop_zero];have sI:=aa hSz;clear hSz;go_wp2_with fail
    refine(Item.ahead x y ek.out mZ.out _).mono ?_;rintro e w1 ⟨rfl,hb1⟩;rw[H1.out];have HB1:=aa (ai sI.out hb1);clear hb1;have q:=aS HB1.out jD.out;go_wp2_with fail
    go_roundg l.size
    case measure=>have:=HS.out;simp only[Tr.size] at this;omega
    case rel=>exact⟨ai HB.out HB1.out,l,rfl,rfl,HIw.out.2.1,by rw[←HE.out,HQ.out,if_pos H1.out]⟩
   |false=>
    have H1:=aa h1;clear h1;go_wp2_with fail
    refine eB (S:=Bl wr) 9 ae (Bl.drew wr) ?_;refine tU 0 (v:= ?_) rfl ae (fun _ _ _ h=>h) au ?_ ?_;rotate_left
    ·exact ah
    try simp only[av]
    refine tU 1 (v:= ?_) rfl ae (fun _ _ _ h=>h) au ?_ ?_;rotate_left
    ·exact ah
    try simp only[av]
    refine tU 2 (v:= ?_) rfl ae (fun _ _ _ h=>h) au ?_ ?_;rotate_left
    ·exact ah
    try simp only[av]
    refine tU 3 (v:= ?_) rfl ae (fun _ _ _ h=>h) au ?_ ?_;rotate_left
    ·exact a9t
    try simp only[av]
    refine tU 4 (v:= ?_) rfl ae (fun _ _ _ h=>h) au ?_ ?_;rotate_left
    ·exact a9t
    try simp only[av]
    refine tU 5 (v:= ?_) rfl ae (fun _ _ _ h=>h) au ?_ ?_;rotate_left
    ·exact ah
    try simp only[av]
    refine tU 6 (v:= ?_) rfl ae (fun _ _ _ h=>h) au ?_ ?_;rotate_left
    ·exact ah
    try simp only[av]
    refine tU 7 (v:= ?_) rfl ae (fun _ _ _ h=>h) au ?_ ?_;rotate_left
    ·exact ah
    try simp only[av]
    refine tU 8 (v:= ?_) rfl ae (fun _ _ _ h=>h) au ?_ ?_;rotate_left
    ·exact a9t
    try simp only[av]
    refine lY (n:=9) rfl rfl ae (fun wz hSz=> ?_);simp only[List.toList_toArray,List.drop_succ_cons,List.drop_zero];have sI:=aa hSz;clear hSz;go_wp2_with fail
    refine(Item.ahead x y ek.out mZ.out _).mono ?_;rintro e w1 ⟨rfl,hb1⟩;rw[H1.out];have HB1:=aa (ai sI.out hb1);have EH:=aa (aS HB1.out BC.out);have ED:=aa (Bz.out.below HB1.out);have EF:=aa (BA.out.below HB1.out);clear hb1 sI;cases h2:It.ahead y x with
    |true=>
     have H2:=aa h2;clear h2;go_wp2_with fail
     refine eB (S:=Bl w1) 9 ae (Bl.drew w1) ?_;refine tU 0 (v:= ?_) rfl ae (fun _ _ _ h=>h) au ?_ ?_;rotate_left
     ·exact ah
     try simp only[av]
     refine tU 1 (v:= ?_) rfl ae (fun _ _ _ h=>h) au ?_ ?_;rotate_left
     ·exact ah
     try simp only[av]
     refine tU 2 (v:= ?_) rfl ae (fun _ _ _ h=>h) au ?_ ?_;rotate_left
     ·exact ah
     try simp only[av]
     refine tU 3 (v:= ?_) rfl ae (fun _ _ _ h=>h) au ?_ ?_;rotate_left
     ·exact a9s
     try simp only[av]
     refine tU 4 (v:= ?_) rfl ae (fun _ _ _ h=>h) au ?_ ?_;rotate_left
     ·exact ah
     try simp only[av]
     refine tU 5 (v:= ?_) rfl ae (fun _ _ _ h=>h) au ?_ ?_;rotate_left
     ·exact ah
     try simp only[av]
     refine tU 6 (v:= ?_) rfl ae (fun _ _ _ h=>h) au ?_ ?_;rotate_left
     ·exact ah
     try simp only[av]
     refine tU 7 (v:= ?_) rfl ae (fun _ _ _ h=>h) au ?_ ?_;rotate_left
     ·exact a9s
     try simp only[av]
     refine tU 8 (v:= ?_) rfl ae (fun _ _ _ h=>h) au ?_ ?_;rotate_left
     ·exact a9s
     try simp only[av]
     refine lY (n:=9) rfl rfl ae (fun wz hSz=> ?_);simp only[List.toList_toArray,List.drop_succ_cons,List.drop_zero];have sI:=aa hSz;clear hSz;go_wp2_with fail
     refine(Item.ahead y x mZ.out ek.out _).mono ?_;rintro e w2 ⟨rfl,hb2⟩;rw[H2.out];have HB2:=aa (ai HB1.out (ai sI.out hb2));clear hb2;have q:=aS HB2.out nL.out;go_wp2_with fail
     go_roundg r.size
     case measure=>have:=HS.out;simp only[Tr.size] at this;omega
     case rel=>exact⟨ai HB.out HB2.out,r,rfl,rfl,HIw.out.2.2,by rw[←HE.out,HQ.out,if_neg (by rw[H1.out];simp),if_pos H2.out]⟩
    |false=>
     have H2:=aa h2;clear h2;go_wp2_with fail
     refine eB (S:=Bl w1) 9 ae (Bl.drew w1) ?_;refine tU 0 (v:= ?_) rfl ae (fun _ _ _ h=>h) au ?_ ?_;rotate_left
     ·exact ah
     try simp only[av]
     refine tU 1 (v:= ?_) rfl ae (fun _ _ _ h=>h) au ?_ ?_;rotate_left
     ·exact ah
     try simp only[av]
     refine tU 2 (v:= ?_) rfl ae (fun _ _ _ h=>h) au ?_ ?_;rotate_left
     ·exact ah
     try simp only[av]
     refine tU 3 (v:= ?_) rfl ae (fun _ _ _ h=>h) au ?_ ?_;rotate_left
     ·exact a9s
     try simp only[av]
     refine tU 4 (v:= ?_) rfl ae (fun _ _ _ h=>h) au ?_ ?_;rotate_left
     ·exact ah
     try simp only[av]
     refine tU 5 (v:= ?_) rfl ae (fun _ _ _ h=>h) au ?_ ?_;rotate_left
     ·exact ah
     try simp only[av]
     refine tU 6 (v:= ?_) rfl ae (fun _ _ _ h=>h) au ?_ ?_;rotate_left
     ·exact ah
     try simp only[av]
     refine tU 7 (v:= ?_) rfl ae (fun _ _ _ h=>h) au ?_ ?_;rotate_left
     ·exact a9s
     try simp only[av]
     refine tU 8 (v:= ?_) rfl ae (fun _ _ _ h=>h) au ?_ ?_;rotate_left
     ·exact a9s
     try simp only[av]
     refine lY (n:=9) rfl rfl ae (fun wz hSz=> ?_);simp only[List.toList_toArray,List.drop_succ_cons,List.drop_zero];have sI:=aa hSz;clear hSz;go_wp2_with fail
     refine(Item.ahead y x mZ.out ek.out _).mono ?_;rintro e w2 ⟨rfl,hb2⟩;rw[H2.out];have HB2:=aa (ai HB1.out (ai sI.out hb2));clear hb2;go_wp2_with fail
     go_ret;exact⟨by rw[←HE.out,HQ.out,if_neg (by rw[H1.out];simp),if_neg (by rw[H2.out];simp)];rfl,ai HB0.out (ai HB.out HB2.out)⟩
end


section
open Go.RowKit
set_option maxRecDepth 100000
set_option maxHeartbeats 32000000
variable {n:Int} {rt:Value} {th:Nat} {w:World} {α:Type} {P:Prop}
def YX (w:World) (th:Nat):Prop:=∃f a c,w.cell? ⟨th,0,none⟩=some (.func f a c)
theorem bC.hd (h:bC w th rt n):YX w th:=by obtain⟨_,_,t,_⟩:=h;exact⟨_,_,_,t.aL⟩
theorem Cs.Zn {g:Nat} {x m:It} {l r:Value} {c:Bool} (h:Cs w g (nd x m l r c)) (ht:YX w th) (o:Nat) (u:Value):Cs (w.setCell ⟨th,o,none⟩ u) g (nd x m l r c):=
 h.far (fun e=>by subst e;obtain⟨f,a,k,hk⟩:=ht;rw[h.th.1] at hk;injection hk with hk;cases hk) _ _
theorem bM.I7 {t:Tr It} (ht:YX w th) (o:Nat) (u:Value):bM w t→bM (w.setCell ⟨th,o,none⟩ u) t:=by
 induction t with
 |nil=>intro _;trivial
 |node g c l x r ihl ihr=>
  intro h;obtain⟨⟨v,hv,hc⟩,hl,hr⟩:=h;exact⟨⟨v,hv,hc.Zn ht _ _⟩,ihl hl,ihr hr⟩
theorem bC.root (h:bC w th rt n) (u:Value):bC (w.setCell ⟨th,3,none⟩ u) th u n:=by
 obtain⟨b1,b2,h0,h1,h2,n0,n1,n2,f1,f2⟩:=h;have ne:∀b:Nat,(⟨th,3,none⟩:Addr)≠⟨b,14,none⟩:=fun b e=>by injection e with e1 e2;cases e2
 refine⟨b1,b2,h0.set 3 ag u,h1.far f1 _ _,h2.far f2 _ _,?_,?_,?_,f1,f2⟩
 ·exact(World.cell?_setCell_other w _ _ u (ne th)).trans n0
 ·exact(World.cell?_setCell_other w _ _ u (ne b1)).trans n1
 ·exact(World.cell?_setCell_other w _ _ u (ne b2)).trans n2
theorem bC.size (h:bC w th rt n) (m:Int):bC (w.setCell ⟨th,4,none⟩ (.int .i64 m)) th rt m:=by
 obtain⟨b1,b2,h0,h1,h2,n0,n1,n2,f1,f2⟩:=h;have ne:∀b:Nat,(⟨th,4,none⟩:Addr)≠⟨b,14,none⟩:=fun b e=>by injection e with e1 e2;cases e2
 refine⟨b1,b2,h0.set 4 ag _,h1.far f1 _ _,h2.far f2 _ _,?_,?_,?_,f1,f2⟩
 ·exact(World.cell?_setCell_other w _ _ _ (ne th)).trans n0
 ·exact(World.cell?_setCell_other w _ _ _ (ne b1)).trans n1
 ·exact(World.cell?_setCell_other w _ _ _ (ne b2)).trans n2
theorem bC.at3 {w:World} {th:Nat} {rt:Value} {n:Int} (h:bC w th rt n):w.cell? ⟨th,3,none⟩=some rt∧w.frozen? ⟨th,3,none⟩=false∧w.cell? ⟨th,4,none⟩=some (.int .i64 n)∧w.frozen? ⟨th,4,none⟩=false:=by obtain⟨_,_,t0,_⟩:=h;exact⟨t0.at3,t0.Xm,t0.at4,t0.Xl⟩
def YW (x:It) (t:Tr It) (th:Nat) (w:World) (e:Ending) (w':World):Prop:=∃k,w.heap.size≤k∧e= .returned (.bool true)∧cZ w' th ((Tr.put It.ahead k x t).dz false)∧ax (th::t.blocks) w w'
theorem ba4 (h:P:=by
 rcases List.mem_cons.1 hg with rfl|h1
 ·obtain⟨_,_,t0,_⟩:=h.1;exact t0.lt
 ·exact(h.2.1.nl g h1).lt):P:=h
theorem Dt.OQ (th:Nat) (t:Tr It) (x:It) (hx:x.In) (w:World) (h:cZ w th t) (hh:Tr.has It.ahead x t=true):
  Calls Tryz.prog 122 #[th,x.val] w (aV (.bool false) w):=by
 have hb0:=aD w (.cells x 57);have HT:=aa (h.below hb0);have HB0:=aa hb0;have HX0:Hid (Th (w.alloc (.cells x 57)) w.heap.size x):=aa (Cs.cu w _ x).nW;have ek:=aa hx
 have Lv:Hid (∀g∈th::t.blocks,g<w.heap.size):=aa (fun g hg=>by
  exact ba4)
 have HH:=aa hh;clear h hh hx hb0;unfold It.val;go_enter Tryz.func122,Tryz.ntmps122;go_wp2_with fail
 refine(Dt.has th t x ek.out _ HT.out).mono ?_;rintro e w1 ⟨rfl,hb⟩;rw[HH.out];have HB:=aa (ai HB0.out hb);clear hb;go_wp2_with fail
 go_ret;exact⟨rfl,HB.out⟩
theorem ba5 (h:P:=by
 first|exact hHeld|exact iK.out|exact jo.out):P:=h
theorem Dt.insert (th:Nat) (t:Tr It) (x:It) (hx:x.In) (w:World) (h:cZ w th t) (hn:t.list.length<900000) (hh:Tr.has It.ahead x t=false):
  Calls Tryz.prog 122 #[th,x.val] w (YW x t th w):=by
 have hb0:=aD w (.cells x 57);have HT:=aa (h.below hb0);have HB0:=aa hb0;have HX0:Hid (Th (w.alloc (.cells x 57)) w.heap.size x):=aa (Cs.cu w _ x).nW;have ek:=aa hx
 have Lv:Hid (∀g∈th::t.blocks,g<w.heap.size):=aa (fun g hg=>by
  exact ba4)
 have HH:=aa hh;have HN:=aa hn;clear h hh hn hx hb0;unfold It.val;go_enter Tryz.func122,Tryz.ntmps122;go_wp2_with fail
 refine(Dt.has th t x ek.out _ HT.out).mono ?_;rintro e w1 ⟨rfl,hb⟩;rw[HH.out];have HT1:=aa (HT.out.below hb);have bX:=aa (HX0.out.below hb);have HB:=aa (ai HB0.out hb);have Ur:=aa (ai HB.out (Below.refl _ w1).drew);have oN:=aa (HT1.out.below (Below.refl _ w1).drew);have PU:=aa (bX.out.below (Below.refl _ w1).drew);obtain⟨e3,XA,_,_⟩:=oN.out.1.at3;obtain⟨u0,hu0⟩:=iL t;rw[hu0] at e3;clear hb;go_wp2_with fail
 refine wp_region_held_drew (S:=fun w'=>w'.cell? w=some (.int .u64 x.t)∧w'.cell? ⟨w,1,none⟩=some (.int .u32 x.r)∧w'.cell? ⟨w,2,none⟩=some (.int .u32 x.v)∧w'.cell? ⟨w,3,none⟩=some (.int .i64 x.i)∧w'.cell? ⟨w,4,none⟩=some (.int .u64 x.u)∧w'.cell? ⟨w,5,none⟩=some (.int .u32 x.s)∧w'.cell? ⟨w,6,none⟩=some (.int .u32 x.y)) ae PU.out (fun hHeld=> ?_);refine wpAnyH_take (i:=0) (v:= ?_) rfl ae ae ae (fun _ _ _ h=>h) (Or.inl ⟨by rfl,?_⟩) aT ?_;rotate_left
 ·exact aO
 try simp only[av]
 refine wpAnyH_take (i:=1) (v:= ?_) rfl ae ae ae (fun _ _ _ h=>h) (Or.inl ⟨by rfl,?_⟩) aT ?_;rotate_left
 ·exact aO
 try simp only[av]
 refine wpAnyH_take (i:=2) (v:= ?_) rfl ae ae ae (fun _ _ _ h=>h) (Or.inl ⟨by rfl,?_⟩) aT ?_;rotate_left
 ·exact aO
 try simp only[av]
 refine wpAnyH_take (i:=3) (v:= ?_) rfl ae ae ae (fun _ _ _ h=>h) (Or.inl ⟨by rfl,?_⟩) aT ?_;rotate_left
 ·exact aO
 try simp only[av]
 refine wpAnyH_take (i:=4) (v:= ?_) rfl ae ae ae (fun _ _ _ h=>h) (Or.inl ⟨by rfl,?_⟩) aT ?_;rotate_left
 ·exact aO
 try simp only[av]
 refine wpAnyH_take (i:=6) (v:= ?_) rfl ae ae ae (fun _ _ _ h=>h) (Or.inl ⟨by rfl,?_⟩) aT ?_;rotate_left
 ·exact aO
 try simp only[av]
 refine wpAnyH_ready (rs:=[5]) ae ag ?_;refine AllReadyH.cons rfl (fun K hK=> ?_) AllReadyH.nil;go_simp;refine hK.out _ _ ?_ (fun hHeld=> ?_)
 ·exact ba5
 clear hK K;try simp only[av]
 refine wpAnyH_ready (rs:=[7]) ae ag ?_;refine AllReadyH.cons rfl (fun K hK=> ?_) AllReadyH.nil;go_simp;have hput:=Dt.put th (ptr t) t.list.length x ek.out t _ oN.out.2.1 oN.out.2.2 HN.out oN.out.1;rw[hu0] at hput;refine hput.mono ?_;clear hput;rintro e w2 ⟨k,hk,rfl,hi,hw⟩;have hk':w.heap.size≤k:=Nat.le_trans HB.out.size hk;have HE2:=aa (oN.out.1.aG hw oN.out.2.1.nl);have hnd:(Tr.put It.ahead k x t).blocks.Nodup:=(Tr.iM It.ahead k x t).nodup_iff.2 (List.nodup_cons.2 ⟨fun hm=>by have:=(oN.out.2.1.nl k hm).lt;omega,oN.out.2.2⟩);have HLEN:=aa (Tr.xB It.ahead k x t);have HP:=aa (Tr.iM It.ahead k x t);have Ym:=aa (Tr.Om It.ahead k x t);have mE:=aa hnd;have HI:=aa hi;have HW:=aa hw;have HK:=aa hk';obtain⟨_,_,t0,_⟩:=HE2.out;have q3:=t0.at3;have q3f:=t0.Xm;have hkw:=aa hk;have hxb:w.heap.size∉t.blocks:=fun hm=>Nat.lt_irrefl _ (Lv.out _ (by simp[hm]));have hxt:th≠w.heap.size:=fun e=>Nat.lt_irrefl _ (Lv.out w.heap.size (by simp[e]));have o9:=aa (PU.out.aG hw hxb);clear hxb;clear hi hw hk hk' hnd t0 e3 XA;have HX:Hid (∀w',cZ w' th ((Tr.put It.ahead k x t).dz false)→ax (th::t.blocks) w w'→YW x t th w (.returned (.bool true)) w'):=aa (fun w' h1 h2=>⟨k,HK.out,rfl,h1,h2⟩);generalize Tr.put It.ahead k x t=T at *
 obtain⟨g,c,l,y,r,rfl⟩:∃g c l y r,T= .node g c l y r:=by
  cases T with
  |nil=>exact absurd rfl Ym.out
  |node g c l y r=>exact⟨g,c,l,y,r,rfl⟩
 simp only[aX]
 have hne:th≠g:=fun e=>by
  obtain⟨f,a,k',hk⟩:=HE2.out.hd;obtain⟨⟨v,_,hc⟩,_⟩:=HI.out;rw[e,hc.th.1] at hk;injection hk with hk;cases hk
 have hne':g≠th:=Ne.symm hne
 have HW3:Hid (∃W,W=((w2.setCell ⟨th,3,none⟩ (.pointer (some ⟨g,0,none⟩))).setCell ⟨g,16,none⟩ (.bool false)).setCell ⟨th,4,none⟩ (.int .i64 (t.list.length+1))∧
   bC W th (.pointer (some ⟨g,0,none⟩)) (t.list.length+1)∧bM W (.node g false l y r)∧ax (th::t.blocks) w W):=aa (by
  have e1:=HE2.out.root (.pointer (some ⟨g,0,none⟩));have i1:=HI.out.I7 HE2.out.hd 3 (.pointer (some ⟨g,0,none⟩));have hd:=aR mE.out;have hn1:jq (w2.setCell ⟨th,3,none⟩ (.pointer (some ⟨g,0,none⟩))) g:=i1.nl g (by simp[Tr.blocks]);have e2:=e1.aG (F:=[g]) ((ax.refl _ _).set (g:=g) (Or.inl ag) 16 (.bool false)) (fun j hj=>by simp at hj;subst hj;exact hn1);have i2:=i1.dz (d:=false) ⟨hd.1,hd.2.1⟩
  have WS:g∈t.blocks∨w1.heap.size≤g:=by
   rcases List.mem_cons.1 (HP.out.mem_iff.1 (show g∈(Tr.node g c l y r).blocks by simp[Tr.blocks])) with h1|h1
   ·subst h1;exact Or.inr hkw.out
   ·exact Or.inl h1
  have c1:ax (th::t.blocks) w1.drew w2:=HW.out.mono (fun j hj=>by simp[hj]);have c2:=((c1.set (g:=th) (Or.inl ag) 3 (.pointer (some ⟨g,0,none⟩))).set (g:=g) (WS.imp (fun h=>by simp[h]) id) 16 (.bool false)).set (g:=th) (Or.inl ag) 4 (.int .i64 (t.list.length+1));exact⟨_,rfl,e2.size _,i2.I7 e2.hd _ _,(ax.below Ur.out).trans c2 (fun j hj=>Or.inl hj)⟩)
 obtain⟨⟨v,_,hc⟩,_⟩:=HI.out;obtain⟨_,_,t0,_⟩:=HE2.out;have c4:=hc.uI;have c4f:=hc.xx;have q4:=t0.at4;have q4f:=t0.Xl;have hbn:=HN.out;clear hc t0;have iK:Hid (Th w2 w.heap.size x):=aa o9.out;have jo:Hid (Th (w2.setCell ⟨th,3,none⟩ (.pointer (some ⟨g,0,none⟩))) w.heap.size x):=aa (o9.out.far hxt _ _);clear hxt;refine hK.out _ _ ?_ (fun hHeld=> ?_)
 ·exact ba5
 clear hK K;try simp only[av]
 refine wpAnyH_take (i:=8) (v:= ?_) rfl ae ae ae (fun _ _ _ h=>h) (Or.inl ⟨by rfl,?_⟩) aT ?_;rotate_left
 ·exact aO
 try simp only[av]
 refine wpAnyH_take (i:=9) (v:= ?_) rfl ae ae ae (fun _ _ _ h=>h) (Or.inl ⟨by rfl,?_⟩) aT ?_;rotate_left
 ·exact aO
 try simp only[av]
 refine wpAnyH_ready (rs:=[10]) ae ag ?_;refine AllReadyH.cons rfl (fun K hK=> ?_) AllReadyH.nil;go_simp;refine hK.out _ _ ?_ (fun hHeld=> ?_)
 ·exact ba5
 clear hK K;try simp only[av]
 refine wpAnyH_done ae ?_ _;clear hHeld;go_wp2_with fail
 obtain⟨W,hW,HF⟩:=HW3;rw[←hW];go_ret;refine HX.out W ⟨?_,HF.2.1,?_⟩ HF.2.2
 ·have:=HF.1;rw[Tr.iX,HLEN.out];exact this
 ·rw[Tr.fU];exact mE.out
end


section
open Go.RowKit
set_option maxRecDepth 100000
set_option maxHeartbeats 32000000
theorem Dt.tq (g:Nat) (c:Bool) (l r:Tr It) (x:It) (w:World) (h:bM w (.node g c l x r)):Calls Tryz.prog 200 #[g] w fun e w'=>e= .returned (.bool (Tr.bS (.node g c l x r)))∧w=w':=by
 obtain⟨⟨v,_,hc⟩,hl,hr⟩:=id h;have h2:=hc.eO;have HI:=aa h.st;have HL:=aa hl.st;clear hc hl hr h;have e:Tr.bS (.node g c l x r)=(c||l.red):=rfl;rw[e];cases c with
 |true=>
  go_enter Tryz.func200,Tryz.ntmps200;go_wp2_with fail
  refine(Dt.isRed (.node g true l x r) _ HI.out).mono ?_;rintro e w1 ⟨rfl,rfl⟩;simp only[Tr.red];go_wp2_with fail
  go_ret;exact⟨rfl,rfl⟩
 |false=>
  go_enter Tryz.func200,Tryz.ntmps200;go_wp2_with fail
  refine(Dt.isRed (.node g false l x r) _ HI.out).mono ?_;rintro e w1 ⟨rfl,rfl⟩;simp only[Tr.red];go_wp2_with fail
  refine(Dt.isRed l _ HL.out).mono ?_;rintro e w1 ⟨rfl,rfl⟩;go_wp2_with fail
  go_ret;exact⟨rfl,rfl⟩
theorem JY.set {w w1:World} {g:Nat} {c:Bool} {l r r':Tr It} {y:It} {th:Nat} {rt:Value} {n:Int} (hst:fB w (.node g c l y r)) (he:bC w th rt n)
  (hd:(Tr.node g c l y r).blocks.Nodup) (hi:fB w1 r') (hw:ax r.blocks w w1) (hp:r'.blocks.Perm r.blocks) (hr':∀W,jq w1 g→g∉r'.blocks→W=w1.setCell ⟨g,15,none⟩ (ptr r')→fB W r'):
  w1.cell? ⟨g,15,none⟩=some (ptr r)∧w1.frozen? ⟨g,15,none⟩=false∧JY (w1.setCell ⟨g,15,none⟩ (ptr r')) (.node g c l y r')∧bC (w1.setCell ⟨g,15,none⟩ (ptr r')) th rt n∧ax (Tr.node g c l y r).blocks w (w1.setCell ⟨g,15,none⟩ (ptr r')):=by
 obtain⟨d1,d2,d3,d4,d5⟩:=aR hd;obtain⟨⟨A,m,k,hc⟩,hl,hr⟩:=hst;have c1:=hc.aG hw d2;have hn:jq w1 g:=c1.yu;have hg:g∉r'.blocks:=fun h=>d2 (hp.mem_iff.1 h);have hl1:=hl.aG hw hr.nl (fun j hj hj'=>d5 j hj hj');have he1:=he.aG hw hr.nl;refine⟨c1.fG,c1.yR,⟨⟨A,m,k,c1.Mw _⟩,hl1.far hn d1 _ _,hr' _ hn hg rfl⟩,?_,?_⟩
 ·exact he1.aG (F:=[g]) ((ax.refl _ _).set (Or.inl ag) _ _) (fun j hj=>by simp at hj;subst hj;exact hn)
 ·exact(hw.mono (fun j hj=>by simp[Tr.blocks,hj])).set (Or.inl (by simp[Tr.blocks])) _ _
theorem fB.far {w:World} {t:Tr It} (h:fB w t) {g:Nat} (hn:jq w g) (hg:g∉t.blocks) (o:Nat) (u:Value):fB (w.setCell ⟨g,o,none⟩ u) t:=by
 cases t with
 |nil=>trivial
 |node g' c l x r=>
  simp only[Tr.blocks,List.mem_cons,List.mem_append,not_or] at hg;obtain⟨⟨A,m,k,hc⟩,hl,hr⟩:=h;exact⟨⟨A,m,k,hc.far hg.1 _ _⟩,hl.far hn hg.2.1 _ _,hr.far hn hg.2.2 _ _⟩
theorem Dt.OL (g gl:Nat) (c cl:Bool) (ll rl r:Tr It) (x xl:It) (th:Nat) (rt:Value) (n:Int) (w:World) (hst:fB w (.node g c (.node gl cl ll xl rl) x r)) (hd:(Tr.node g c (.node gl cl ll xl rl) x r).blocks.Nodup)
  (hn:(Tr.node g c (.node gl cl ll xl rl) x r).list.length≤900000) (he:bC w th rt n) (hld:Tr.bS (.node gl cl ll xl rl)=true):
  Calls Tryz.prog 195 #[th, .pointer (some ⟨g,0,none⟩)] w (ny (ptr (Tr.node g c (.node gl cl ll xl rl) x r)) (.node g c (.node gl cl ll xl rl) x r) (Tr.node g c (.node gl cl ll xl rl) x r).blocks w):=by
 have HS:=aa hst;have HE:=aa he;have HD:=aa hd;have HN:=aa hn;obtain⟨⟨A,m,k,hc⟩,hl,hr⟩:=hst;have c2:=hc.eO;have c3:=hc.fG;have HL:=aa hl;have HR:=aa hr;clear hc hl hr hd hn he;try simp only[aX] at c2 c3⊢
 have zC:=aa hld;clear hld;go_enter Tryz.func195,Tryz.ntmps195;go_wp2_with fail
 refine(Dt.tq gl cl (ll) (rl) xl _ (HL.out)).mono ?_;rintro e0 w0 ⟨rfl,rfl⟩;rw[zC.out];go_wp2_with fail
 go_ret;exact⟨rfl,HS.out,ax.refl _ _⟩
theorem Dt.ME (g gr:Nat) (c cr:Bool) (l lr rr:Tr It) (x xr:It) (th:Nat) (rt:Value) (n:Int) (w:World) (hst:fB w (.node g c l x (.node gr cr lr xr rr))) (hd:(Tr.node g c l x (.node gr cr lr xr rr)).blocks.Nodup)
  (hn:(Tr.node g c l x (.node gr cr lr xr rr)).list.length≤900000) (he:bC w th rt n) (hld:Tr.bS (.node gr cr lr xr rr)=true):
  Calls Tryz.prog 196 #[th, .pointer (some ⟨g,0,none⟩)] w (ny (ptr (Tr.node g c l x (.node gr cr lr xr rr))) (.node g c l x (.node gr cr lr xr rr)) (Tr.node g c l x (.node gr cr lr xr rr)).blocks w):=by
 have HS:=aa hst;have HE:=aa he;have HD:=aa hd;have HN:=aa hn;obtain⟨⟨A,m,k,hc⟩,hl,hr⟩:=hst;have c2:=hc.eO;have c3:=hc.fG;have HL:=aa hl;have HR:=aa hr;clear hc hl hr hd hn he;try simp only[aX] at c2 c3⊢
 have zC:=aa hld;clear hld;go_enter Tryz.func196,Tryz.ntmps196;go_wp2_with fail
 refine(Dt.tq gr cr (lr) (rr) xr _ (HR.out)).mono ?_;rintro e0 w0 ⟨rfl,rfl⟩;rw[zC.out];go_wp2_with fail
 go_ret;exact⟨rfl,HS.out,ax.refl _ _⟩
theorem Dt.jf (g gl gr:Nat) (c cl cr:Bool) (ll rl lr rr:Tr It) (x xl xr:It) (th:Nat) (rt:Value) (n:Int) (w:World) (hst:fB w (.node g c (.node gl cl ll xl rl) x (.node gr cr lr xr rr))) (hd:(Tr.node g c (.node gl cl ll xl rl) x (.node gr cr lr xr rr)).blocks.Nodup)
  (hn:(Tr.node g c (.node gl cl ll xl rl) x (.node gr cr lr xr rr)).list.length≤900000) (he:bC w th rt n) (hld:Tr.bS (.node gl cl ll xl rl)=false) (hb:lr.red=false):
  Calls Tryz.prog 195 #[th, .pointer (some ⟨g,0,none⟩)] w (ny (ptr (Tr.node g (!c) (.node gl (!cl) ll xl rl) x (.node gr (!cr) lr xr rr))) (.node g (!c) (.node gl (!cl) ll xl rl) x (.node gr (!cr) lr xr rr)) (Tr.node g c (.node gl cl ll xl rl) x (.node gr cr lr xr rr)).blocks w):=by
 have HS:=aa hst;have HE:=aa he;have HD:=aa hd;have HN:=aa hn;obtain⟨⟨A,m,k,hc⟩,hl,hr⟩:=hst;have c2:=hc.eO;have c3:=hc.fG;have HL:=aa hl;have HR:=aa hr;clear hc hl hr hd hn he;try simp only[aX] at c2 c3⊢
 have zC:=aa hld;have HB:=aa hb;clear hld hb;go_enter Tryz.func195,Tryz.ntmps195;go_wp2_with fail
 refine(Dt.tq gl cl (ll) (rl) xl _ (HL.out)).mono ?_;rintro e0 w0 ⟨rfl,rfl⟩;rw[zC.out];go_wp2_with fail
 refine(Dt.flip g gl gr c cl cr x xl xr ll rl lr rr _ (HS.out) (HD.out)).mono ?_;rintro e1 w1 ⟨rfl,hs1,hw1⟩;have jP:=aa hs1;have HW1:=aa hw1;have gI:=aa (HE.out.turned (HS.out) hw1);obtain⟨⟨A1,m1,k1,hc1⟩,hl1,hr1⟩:=hs1;have z2:=hc1.eO;have z3:=hc1.fG;have lT:=aa hl1;have HR1:=aa hr1;obtain⟨⟨v1,_,hc2⟩,mR,_⟩:=hr1;have z4:=hc2.eO;have uq:=aa mR;clear hc1 hl1 hc2 mR hw1 c2 c3;try simp only[Tr.neg,aX] at z2
 try simp only[Tr.neg,aX] at z3
 try simp only[Tr.neg,aX] at z4
 go_wp2_with fail
 refine(Dt.isRed (lr) _ (uq.out.st)).mono ?_;rintro e0 w0 ⟨rfl,rfl⟩;rw[HB.out];go_wp2_with fail
 go_ret;exact⟨rfl,jP.out,HW1.out⟩
theorem Dt.iY (g gl gr:Nat) (c cl cr:Bool) (ll rl lr rr:Tr It) (x xl xr:It) (th:Nat) (rt:Value) (n:Int) (w:World) (hst:fB w (.node g c (.node gl cl ll xl rl) x (.node gr cr lr xr rr))) (hd:(Tr.node g c (.node gl cl ll xl rl) x (.node gr cr lr xr rr)).blocks.Nodup)
  (hn:(Tr.node g c (.node gl cl ll xl rl) x (.node gr cr lr xr rr)).list.length≤900000) (he:bC w th rt n) (hld:Tr.bS (.node gr cr lr xr rr)=false) (hb:ll.red=false):
  Calls Tryz.prog 196 #[th, .pointer (some ⟨g,0,none⟩)] w (ny (ptr (Tr.node g (!c) (.node gl (!cl) ll xl rl) x (.node gr (!cr) lr xr rr))) (.node g (!c) (.node gl (!cl) ll xl rl) x (.node gr (!cr) lr xr rr)) (Tr.node g c (.node gl cl ll xl rl) x (.node gr cr lr xr rr)).blocks w):=by
 have HS:=aa hst;have HE:=aa he;have HD:=aa hd;have HN:=aa hn;obtain⟨⟨A,m,k,hc⟩,hl,hr⟩:=hst;have c2:=hc.eO;have c3:=hc.fG;have HL:=aa hl;have HR:=aa hr;clear hc hl hr hd hn he;try simp only[aX] at c2 c3⊢
 have zC:=aa hld;have HB:=aa hb;clear hld hb;go_enter Tryz.func196,Tryz.ntmps196;go_wp2_with fail
 refine(Dt.tq gr cr (lr) (rr) xr _ (HR.out)).mono ?_;rintro e0 w0 ⟨rfl,rfl⟩;rw[zC.out];go_wp2_with fail
 refine(Dt.flip g gl gr c cl cr x xl xr ll rl lr rr _ (HS.out) (HD.out)).mono ?_;rintro e1 w1 ⟨rfl,hs1,hw1⟩;have jP:=aa hs1;have HW1:=aa hw1;have gI:=aa (HE.out.turned (HS.out) hw1);obtain⟨⟨A1,m1,k1,hc1⟩,hl1,hr1⟩:=hs1;have z2:=hc1.eO;have z3:=hc1.fG;have lT:=aa hl1;have HR1:=aa hr1;obtain⟨⟨v1,_,hc2⟩,mR,_⟩:=hl1;have z4:=hc2.eO;have uq:=aa mR;clear hc1 hr1 hc2 mR hw1 c2 c3;try simp only[Tr.neg,aX] at z2
 try simp only[Tr.neg,aX] at z3
 try simp only[Tr.neg,aX] at z4
 go_wp2_with fail
 refine(Dt.isRed (ll) _ (uq.out.st)).mono ?_;rintro e0 w0 ⟨rfl,rfl⟩;rw[HB.out];go_wp2_with fail
 go_ret;exact⟨rfl,jP.out,HW1.out⟩
theorem Dt.MC (g gl gr h:Nat) (c cl cr:Bool) (a b rl lr rr:Tr It) (x xl xr z:It) (th:Nat) (rt:Value) (n:Int) (w:World) (hst:fB w (.node g c (.node gl cl (.node h true a z b) xl rl) x (.node gr cr lr xr rr))) (hd:(Tr.node g c (.node gl cl (.node h true a z b) xl rl) x (.node gr cr lr xr rr)).blocks.Nodup)
  (hn:(Tr.node g c (.node gl cl (.node h true a z b) xl rl) x (.node gr cr lr xr rr)).list.length≤900000) (he:bC w th rt n) (hld:Tr.bS (.node gr cr lr xr rr)=false):
  Calls Tryz.prog 196 #[th, .pointer (some ⟨g,0,none⟩)] w (ny (ptr (Tr.node gl c (.node h false a z b) xl (.node g false rl x (.node gr (!cr) lr xr rr)))) (.node gl c (.node h false a z b) xl (.node g false rl x (.node gr (!cr) lr xr rr))) (Tr.node g c (.node gl cl (.node h true a z b) xl rl) x (.node gr cr lr xr rr)).blocks w):=by
 have HS:=aa hst;have HE:=aa he;have HD:=aa hd;have HN:=aa hn;obtain⟨⟨A,m,k,hc⟩,hl,hr⟩:=hst;have c2:=hc.eO;have c3:=hc.fG;have HL:=aa hl;have HR:=aa hr;clear hc hl hr hd hn he;try simp only[aX] at c2 c3⊢
 have zC:=aa hld;clear hld;go_enter Tryz.func196,Tryz.ntmps196;go_wp2_with fail
 refine(Dt.tq gr cr (lr) (rr) xr _ (HR.out)).mono ?_;rintro e0 w0 ⟨rfl,rfl⟩;rw[zC.out];go_wp2_with fail
 refine(Dt.flip g gl gr c cl cr x xl xr (.node h true a z b) rl lr rr _ (HS.out) (HD.out)).mono ?_;rintro e1 w1 ⟨rfl,hs1,hw1⟩;have jP:=aa hs1;have HW1:=aa hw1;have gI:=aa (HE.out.turned (HS.out) hw1);obtain⟨⟨A1,m1,k1,hc1⟩,hl1,hr1⟩:=hs1;have z2:=hc1.eO;have z3:=hc1.fG;have lT:=aa hl1;have HR1:=aa hr1;obtain⟨⟨v1,_,hc2⟩,mR,_⟩:=hl1;have z4:=hc2.eO;have uq:=aa mR;clear hc1 hr1 hc2 mR hw1 c2 c3;try simp only[Tr.neg,aX] at z2
 try simp only[Tr.neg,aX] at z3
 try simp only[Tr.neg,aX] at z4
 go_wp2_with fail
 refine(Dt.isRed (.node h true a z b) _ (uq.out.st)).mono ?_;rintro e0 w0 ⟨rfl,rfl⟩;simp only[Tr.red];go_wp2_with fail
 refine(Dt.bI th g gl (!c) (!cl) (.node h true a z b) rl (.node gr (!cr) lr xr rr) x xl rt n _ jP.out HD.out HN.out gI.out).mono ?_;rintro e2 w2 ⟨rfl,hs2,hw2⟩;have HS2:=aa hs2;have HW2:=aa hw2;clear hs2 hw2 z2 z3 z4;have hp:(Tr.node gl (!c) (.node h true a z b) xl (.node g true rl x (.node gr (!cr) lr xr rr))).blocks.Perm (Tr.node g (!c) (.node gl (!cl) (.node h true a z b) xl rl) x (.node gr (!cr) lr xr rr)).blocks:=Tr.dB (Tr.node g (!c) (.node gl (!cl) (.node h true a z b) xl rl) x (.node gr (!cr) lr xr rr));have HP:=aa hp;clear hp;go_wp2_with fail
 refine(Dt.flip gl h g (!c) true true xl z x a b rl (.node gr (!cr) lr xr rr) _ HS2.out (HP.out.nodup_iff.2 HD.out)).mono ?_;rintro e3 w3 ⟨rfl,hs3,hw3⟩;have P8:=aa hs3;have HW3:=aa hw3;clear hs3 hw3;go_wp2_with fail
 go_ret;refine⟨rfl,?_,(HW1.out.trans HW2.out (fun j hj=>Or.inl hj)).trans HW3.out (fun j hj=>Or.inl (HP.out.mem_iff.1 hj))⟩;have:=P8.out;simpa[Tr.flip,Tr.neg] using this
theorem Dt.OJ (g gl gr h:Nat) (c cl cr:Bool) (ll rl a b rr:Tr It) (x xl xr z:It) (th:Nat) (rt:Value) (n:Int) (w:World) (hst:fB w (.node g c (.node gl cl ll xl rl) x (.node gr cr (.node h true a z b) xr rr))) (hd:(Tr.node g c (.node gl cl ll xl rl) x (.node gr cr (.node h true a z b) xr rr)).blocks.Nodup)
  (hn:(Tr.node g c (.node gl cl ll xl rl) x (.node gr cr (.node h true a z b) xr rr)).list.length≤900000) (he:bC w th rt n) (hld:Tr.bS (.node gl cl ll xl rl)=false):
  Calls Tryz.prog 195 #[th, .pointer (some ⟨g,0,none⟩)] w (ny (ptr (Tr.node h c (.node g false (.node gl (!cl) ll xl rl) x a) z (.node gr false b xr rr))) (.node h c (.node g false (.node gl (!cl) ll xl rl) x a) z (.node gr false b xr rr)) (Tr.node g c (.node gl cl ll xl rl) x (.node gr cr (.node h true a z b) xr rr)).blocks w):=by
 have HS:=aa hst;have HE:=aa he;have HD:=aa hd;have HN:=aa hn;obtain⟨⟨A,m,k,hc⟩,hl,hr⟩:=hst;have c2:=hc.eO;have c3:=hc.fG;have HL:=aa hl;have HR:=aa hr;clear hc hl hr hd hn he;try simp only[aX] at c2 c3⊢
 have zC:=aa hld;clear hld;go_enter Tryz.func195,Tryz.ntmps195;go_wp2_with fail
 refine(Dt.tq gl cl (ll) (rl) xl _ (HL.out)).mono ?_;rintro e0 w0 ⟨rfl,rfl⟩;rw[zC.out];go_wp2_with fail
 refine(Dt.flip g gl gr c cl cr x xl xr ll rl (.node h true a z b) rr _ (HS.out) (HD.out)).mono ?_;rintro e1 w1 ⟨rfl,hs1,hw1⟩;have jP:=aa hs1;have HW1:=aa hw1;have gI:=aa (HE.out.turned (HS.out) hw1);obtain⟨⟨A1,m1,k1,hc1⟩,hl1,hr1⟩:=hs1;have z2:=hc1.eO;have z3:=hc1.fG;have lT:=aa hl1;have HR1:=aa hr1;obtain⟨⟨v1,_,hc2⟩,mR,_⟩:=hr1;have z4:=hc2.eO;have uq:=aa mR;clear hc1 hl1 hc2 mR hw1 c2 c3;try simp only[Tr.neg,aX] at z2
 try simp only[Tr.neg,aX] at z3
 try simp only[Tr.neg,aX] at z4
 go_wp2_with fail
 refine(Dt.isRed (.node h true a z b) _ (uq.out.st)).mono ?_;rintro e0 w0 ⟨rfl,rfl⟩;simp only[Tr.red];have HD4:=aa (aR HD.out).2.2.2.1;go_wp2_with fail
 refine(Dt.bI th gr h (!cr) true a b rr xr z rt n _ HR1.out.st HD4.out (by have:=HN.out;simp only[Tr.list,List.length_append,List.length_cons] at this⊢;omega) gI.out).mono ?_;rintro e2 w2 ⟨rfl,hs2,hw2⟩;have hp:(Tr.node h (!cr) a z (.node gr true b xr rr)).blocks.Perm (Tr.node gr (!cr) (.node h true a z b) xr rr).blocks:=Tr.dB (Tr.node gr (!cr) (.node h true a z b) xr rr);have HP:=aa hp;have HX:=aa (JY.set jP.out gI.out HD.out hs2 hw2 hp (fun W hn hg e=>by rw[e];exact hs2.far hn hg _ _));clear hs2 hw2 z2 z3 z4 hp;have q2:=HX.out.1;have q3:=HX.out.2.1;try simp only[Tr.neg,aX] at q2
 go_wp2_with fail
 have HW:Hid (∃W,W=w2.setCell ⟨g,15,none⟩ (.pointer (some ⟨h,0,none⟩))∧JY W (.node g (!c) (.node gl (!cl) ll xl rl) x (.node h (!cr) a z (.node gr true b xr rr)))∧bC W th rt n∧ax (Tr.node g (!c) (.node gl (!cl) ll xl rl) x (.node gr (!cr) (.node h true a z b) xr rr)).blocks w1 W):=aa ⟨_,rfl,HX.out.2.2.1,HX.out.2.2.2.1,HX.out.2.2.2.2⟩;obtain⟨W,hW,HF⟩:=HW;rw[←hW];clear hW q2 q3;have HF:=aa HF;have Yo:Hid ((Tr.node g (!c) (.node gl (!cl) ll xl rl) x (.node h (!cr) a z (.node gr true b xr rr))).blocks.Perm (Tr.node g c (.node gl cl ll xl rl) x (.node gr cr (.node h true a z b) xr rr)).blocks):=aa ((HP.out.append_left _).cons g);refine(Dt.eD th g h (!c) (!cr) (.node gl (!cl) ll xl rl) a (.node gr true b xr rr) x z rt n W HF.out.1 (Yo.out.nodup_iff.2 HD.out) (by have:=HN.out;simp only[Tr.list,List.length_append,List.length_cons] at this⊢;omega) HF.out.2.1).mono ?_;rintro e4 w4 ⟨rfl,hs4,hw4⟩;have LC:=aa hs4;have JC:=aa hw4;clear hs4 hw4;have HP3:Hid ((Tr.node h (!c) (.node g true (.node gl (!cl) ll xl rl) x a) z (.node gr true b xr rr)).blocks.Perm (Tr.node g c (.node gl cl ll xl rl) x (.node gr cr (.node h true a z b) xr rr)).blocks):=aa ((Tr.gL (Tr.node g (!c) (.node gl (!cl) ll xl rl) x (.node h (!cr) a z (.node gr true b xr rr)))).trans Yo.out);go_wp2_with fail
 refine(Dt.flip h g gr (!c) true true z x xr (.node gl (!cl) ll xl rl) a b rr _ LC.out (HP3.out.nodup_iff.2 HD.out)).mono ?_;rintro e5 w5 ⟨rfl,hs5,OU⟩;have Yg:=aa hs5;have PY:=aa OU;clear hs5 OU;go_wp2_with fail
 go_ret;refine⟨rfl,?_,((HW1.out.trans HF.out.2.2 (fun j hj=>Or.inl hj)).trans JC.out (fun j hj=>Or.inl (Yo.out.mem_iff.1 hj))).trans PY.out (fun j hj=>Or.inl (HP3.out.mem_iff.1 hj))⟩;have:=Yg.out;simpa[Tr.flip,Tr.neg] using this
theorem Dt.aK (g:Nat) (c:Bool) (l r:Tr It) (x:It) (th:Nat) (rt:Value) (n:Int) (w:World) (hst:fB w (.node g c l x r)) (hd:(Tr.node g c l x r).blocks.Nodup)
  (hn:(Tr.node g c l x r).list.length≤900000) (he:bC w th rt n) (hl:l≠ .nil) (hr:l.bS=false→r≠ .nil):
  Calls Tryz.prog 195 #[th, .pointer (some ⟨g,0,none⟩)] w (ny (ptr (Tr.aK (.node g c l x r))) (Tr.aK (.node g c l x r)) (Tr.node g c l x r).blocks w):=by
 cases l with
 |nil=>exact absurd rfl hl
 |node gl cl ll xl rl=>
  cases hld:Tr.bS (.node gl cl ll xl rl) with
  |true=>
   have e:Tr.aK (.node g c (.node gl cl ll xl rl) x r)= .node g c (.node gl cl ll xl rl) x r:=by simp[Tr.aK,Tr.dh,hld]
   rw[e];exact Dt.OL g gl c cl ll rl r x xl th rt n w hst hd hn he hld
  |false=>
   cases r with
   |nil=>exact absurd rfl (hr hld)
   |node gr cr lr xr rr=>
    cases hb:lr.red with
    |false=>
     have e:Tr.aK (.node g c (.node gl cl ll xl rl) x (.node gr cr lr xr rr))= .node g (!c) (.node gl (!cl) ll xl rl) x (.node gr (!cr) lr xr rr):=by simp[Tr.aK,Tr.jf,Tr.dh,Tr.bY,hld,Tr.flip,Tr.neg,hb]
     rw[e];exact Dt.jf g gl gr c cl cr ll rl lr rr x xl xr th rt n w hst hd hn he hld hb
    |true=>
     cases lr with
     |nil=>simp[Tr.red] at hb
     |node h d a z b=>
      simp only[Tr.red] at hb;subst hb;have e:Tr.aK (.node g c (.node gl cl ll xl rl) x (.node gr cr (.node h true a z b) xr rr))= .node h c (.node g false (.node gl (!cl) ll xl rl) x a) z (.node gr false b xr rr):=by simp[Tr.aK,Tr.jf,Tr.dh,Tr.bY,hld,Tr.flip,Tr.neg,Tr.fQ,Tr.eD,Tr.bI,Tr.bR]
      rw[e];exact Dt.OJ g gl gr h c cl cr ll rl a b rr x xl xr z th rt n w hst hd hn he hld
theorem Dt.az (g:Nat) (c:Bool) (l r:Tr It) (x:It) (th:Nat) (rt:Value) (n:Int) (w:World) (hst:fB w (.node g c l x r)) (hd:(Tr.node g c l x r).blocks.Nodup)
  (hn:(Tr.node g c l x r).list.length≤900000) (he:bC w th rt n) (hr:r≠ .nil) (hl:r.bS=false→l≠ .nil):
  Calls Tryz.prog 196 #[th, .pointer (some ⟨g,0,none⟩)] w (ny (ptr (Tr.az (.node g c l x r))) (Tr.az (.node g c l x r)) (Tr.node g c l x r).blocks w):=by
 cases r with
 |nil=>exact absurd rfl hr
 |node gr cr lr xr rr=>
  cases hld:Tr.bS (.node gr cr lr xr rr) with
  |true=>
   have e:Tr.az (.node g c l x (.node gr cr lr xr rr))= .node g c l x (.node gr cr lr xr rr):=by simp[Tr.az,Tr.bY,hld]
   rw[e];exact Dt.ME g gr c cr l lr rr x xr th rt n w hst hd hn he hld
  |false=>
   cases l with
   |nil=>exact absurd rfl (hl hld)
   |node gl cl ll xl rl=>
    cases hb:ll.red with
    |false=>
     have e:Tr.az (.node g c (.node gl cl ll xl rl) x (.node gr cr lr xr rr))= .node g (!c) (.node gl (!cl) ll xl rl) x (.node gr (!cr) lr xr rr):=by simp[Tr.az,Tr.iY,Tr.dh,Tr.bY,hld,Tr.flip,Tr.neg,hb]
     rw[e];exact Dt.iY g gl gr c cl cr ll rl lr rr x xl xr th rt n w hst hd hn he hld hb
    |true=>
     cases ll with
     |nil=>simp[Tr.red] at hb
     |node h d a z b=>
      simp only[Tr.red] at hb;subst hb;have e:Tr.az (.node g c (.node gl cl (.node h true a z b) xl rl) x (.node gr cr lr xr rr))= .node gl c (.node h false a z b) xl (.node g false rl x (.node gr (!cr) lr xr rr)):=by simp[Tr.az,Tr.iY,Tr.dh,Tr.bY,hld,Tr.flip,Tr.neg,Tr.fQ,Tr.bI]
      rw[e];exact Dt.MC g gl gr h c cl cr a b rl lr rr x xl xr z th rt n w hst hd hn he hld
end


section
open Go.RowKit
set_option maxRecDepth 100000
set_option maxHeartbeats 32000000
variable {h g:Nat} {c:Bool} {α:Type}
theorem Dt.least (t:Tr It) (w:World) (h:bM w t) (hn:t≠ .nil) (d:It):Calls Tryz.prog 197 #[ptr t] w (aV (It.val (t.least d)) w):=by
 have ha:=aD w (.cells aM 57);have HB0:=aa ha;have HI:=aa (h.below ha);have HZ:Hid (Cs (w.alloc (.cells aM 57)) w.heap.size It.zero.cells):=aa (Cs.cu w 57 It.zero);have HN:=aa hn;clear h hn ha;go_enter Tryz.func197,Tryz.ntmps197;go_wp2_with fail
 generalize (w.alloc (.cells aM 57))=W0 at HB0 HI HZ⊢
 go_loopg [0] t.size (fun s a wr=>wr=W0∧∃(g:Nat) (c:Bool) (l r:Tr It) (y:It),a= .pointer (some ⟨g,0,none⟩)∧s=(Tr.node g c l y r).size∧bM W0 (.node g c l y r)∧(Tr.node g c l y r).least d=t.least d)
 case atStart=>
  cases t with
  |nil=>exact absurd rfl HN.out
  |node g c l y r=>exact⟨rfl,g,c,l,r,y,rfl,rfl,HI.out,rfl⟩
 case round=>
  obtain⟨rfl,g,c,l,r,y,rfl,hs,hi,he⟩:=hrel;have HS:=aa hs;have HIn:=aa hi;have HE:=aa he;obtain⟨⟨v,_,hc⟩,hl,_⟩:=hi;have c2:=hc.eO;have HC:=aa hc.th;have HL:=aa hl;clear hs he hc hl;cases l with
  |nil=>
   simp only[kP] at c2;obtain⟨q0,q1,q2,q3,q4,q5,q6⟩:=HC.out;go_wp2_with (first|((with_reducible refine bG 57 y.cells dx rfl (.tmp 2) (.tmp 15) rfl w.heap.size _ HZ.out ?_ ?_ ?_ ?_ ?_ ?_);(iterate 5 (·rfl));(intro W2 hW2);(have HY:=aa (show Cs W2 w y.cells∧Below w w W2 by subst hW2;exact⟨Cs.bH y.cells 0 HZ.out (by simp[It.cells]),aU ay _ _ HB0.out⟩));(clear hW2 c2 q0 q1 q2 q3 q4 q5 q6);(obtain⟨z0,z1,z2,z3,z4,z5,z6⟩:=It.at y HY.out.1))|fail)
   refine bodyPost_ret (v:=y.val) (by simp[results,Tryz.results197,go_sem,z0,z1,z2,z3,z4,z5,z6,It.val]) rfl ⟨by rw[←HE.out];rfl,HY.out.2⟩
  |node gl cl ll yl rl=>
   simp only[aX] at c2;go_wp2_with fail
   go_roundg (Tr.node gl cl ll yl rl).size
   case measure=>have:=HS.out;simp only[Tr.size] at this⊢;omega
   case rel=>exact⟨rfl,gl,cl,ll,rl,yl,rfl,rfl,HL.out,by rw[←HE.out];rfl⟩
theorem Dt.Ai (th:Nat) (rt:Value) (n:Int) (N:Nat):∀(t:Tr It) (w:World) (h:Nat),t.size≤N→bM w t→t.blocks.Nodup→t.list.length≤900000→bC w th rt n→Tr.V t h→t.bS=true→
  Calls Tryz.prog 198 #[th,ptr t] w (jH (Tr.fq N t) t.blocks w):=by
 induction N with
 |zero=>
  intro t w h hs _ _ _ _ _ hl;cases t with
  |nil=>simp[Tr.bS] at hl
  |node g c l x r=>simp only[Tr.size] at hs;omega
 |succ N ih=>
  intro t w h hs hi hd hn he hv hle;cases t with
  |nil=>simp[Tr.bS] at hle
  |node g c l x r=>
   have IH:=aa ih;have HI:=aa hi;have HD:=aa hd;have HN:=aa hn;have HE:=aa he;have HV:=aa hv;have HS:=aa hs;obtain⟨⟨v,hvs,hc⟩,hl,hr⟩:=hi;have c2:=hc.eO;clear ih hd hn he hv hs hvs hc hl hr hle;simp only[aX];cases hln:l.isNil with
   |true=>
    rw[Tr.yX] at hln;subst hln;simp only[kP] at c2;go_enter Tryz.func198,Tryz.ntmps198;go_wp2_with fail
    go_ret;have e:Tr.fq (N+1) (.node g c .nil x r)= .nil:=by simp[Tr.fq,Tr.dh,Tr.isNil]
    rw[e];exact⟨rfl,trivial,ax.refl _ _⟩
   |false=>
    rw[Tr.lG] at hln;have kE:=aa hln
    have mH:Hid (Tr.fq (N+1) (.node g c l x r)=Tr.balance ((Tr.node g c l x r).aK.dV (Tr.fq N (Tr.node g c l x r).aK.left))):=aa (by
     rw[Tr.fq,Tr.dh,(Tr.lG l).2 hln];rfl)
    have Ng:=aa (Tr.Ff HV.out hln)
    have kJ:Hid ((Tr.node g c l x r).aK.left.size≤N):=aa (by
     have:=Tr.pI _ (Tr.iN (Tr.fV (Tr.node g c l x r)) ag);rw[Tr.size_of_list (Tr.fV (Tr.node g c l x r))] at this;have:=HS.out;omega)
    have DC:=aa (Tr.iN (Tr.fV (Tr.node g c l x r)) ag);have kW:=aa (Tr.ow (Tr.node g c l x r));have mF:=aa (Tr.fV (Tr.node g c l x r))
    obtain⟨gl,cl,ll,xl,rl,rfl⟩:∃gl cl ll xl rl,l= .node gl cl ll xl rl:=by cases l with
     |nil=>exact absurd rfl hln
     |node gl cl ll xl rl=>exact⟨_,_,_,_,_,rfl⟩
    simp only[aX] at c2;clear hln;go_enter Tryz.func198,Tryz.ntmps198;go_wp2_with fail
    refine(Dt.aK g c _ r x th rt n _ HI.out.st HD.out HN.out HE.out kE.out (Tr.Hq HV.out kE.out)).mono ?_;rintro e1 w1 ⟨rfl,hs1,hw1⟩;have gI:=aa (HE.out.turned HI.out.st hw1);have HW1:=aa hw1;have jP:=aa hs1;clear hs1 hw1 c2;generalize (Tr.node g c (.node gl cl ll xl rl) x r).aK=T at *;cases T with
    |nil=>exact absurd rfl DC.out
    |node g' c' l' y' r'=>
     obtain⟨⟨A,m,k,hc⟩,hl,hr⟩:=id jP.out;have z2:=hc.eO;have oO:=aa (And.intro m k);have HC:=aa (And.intro hc (And.intro hl hr));have HD1:=aa (kW.out.nodup_iff.2 HD.out)
     have iU:=aa (show l'.list.length+(r'.list.length+1)≤900000 from by
      have:=HN.out;rw[←mF.out] at this;simpa[Tr.list] using this)
     clear hc hl hr;simp only[aX];go_wp2_with fail
     obtain⟨k',p1,p2⟩:=Ng.out;have HP:=aa (And.intro p1 p2);clear p1 p2;refine(IH.out l' _ k' kJ.out HC.out.2.1 (aR HD1.out).2.2.1 (by have:=iU.out;omega) gI.out HP.out.1 HP.out.2).mono ?_;rintro e2 w2 ⟨rfl,hi2,hw2⟩;have hof:=Tr.Of.fq N l';have hg:g'∉(Tr.fq N l').blocks:=fun hm=>(aR HD1.out).1 (hof.2 _ hm);have HT:=aa (uz oO.out.1 oO.out.2 HC.out.1 HC.out.2.1 HC.out.2.2 gI.out HD1.out hi2 hw2 hg);have mE:=aa (vL (l':=Tr.fq N l') HD1.out (hof.1 (aR HD1.out).2.2.1) (fun j hj=>Or.inl (hof.2 j hj)));have u6:=aa hof
     have HLEN:Hid ((Tr.fq N l').list.length≤l'.list.length):=aa (by
      rw[((Tr.uE N l' kJ.out) k' HP.out.1 HP.out.2).2.2];simp)
     clear hi2 hw2 hof hg z2;have q2:=HT.out.1.eO;have q3:=HT.out.1.H8;have nk:Hid (Tr.fq (N+1) (.node g c (.node gl cl ll xl rl) x r)=Tr.balance (.node g' c' (Tr.fq N l') y' r')):=mH;generalize Tr.fq N l'=L' at *;obtain⟨u,hu⟩:=iL L';have HU:=aa hu;rw[hu];clear hu;go_wp2_with fail
     have HW:Hid (∃W,W=w2.setCell ⟨g',14,none⟩ (.pointer u)∧fB W (.node g' c' L' y' r')∧bC W th rt n∧ax (g'::l'.blocks) w1 W):=aa ⟨_,rfl,by rw[←HU.out];exact HT.out.2.1,by rw[←HU.out];exact HT.out.2.2.1,by rw[←HU.out];exact HT.out.2.2.2⟩;obtain⟨W,hW,HF⟩:=HW;rw[←hW];clear hW q2 q3;have HF:=aa HF;refine(Dt.balance g' c' L' r' y' th rt n W HF.out.1 mE.out (by have:=iU.out;have:=HLEN.out;simp only[Tr.list,List.length_append,List.length_cons];omega) HF.out.2.1).mono ?_;rintro e3 w3 ⟨rfl,hi3,hw3⟩;have HI3:=aa hi3;have HW3:=aa hw3;clear hi3 hw3;go_wp2_with fail
     go_ret;refine⟨by rw[nk.out];rfl,by rw[nk.out];exact HI3.out,(HW1.out.trans HF.out.2.2 (fun j hj=>Or.inl (kW.out.mem_iff.1 ?_))).trans HW3.out (fun j hj=>Or.inl (kW.out.mem_iff.1 ?_))⟩
     ·rcases List.mem_cons.1 hj with rfl|h1
      ·simp[Tr.blocks]
      ·simp[Tr.blocks,h1]
     ·simp only[Tr.blocks,List.mem_cons,List.mem_append] at hj⊢
      exact hj.imp id (Or.imp (u6.out.2 j) id)
end


section
open Go.RowKit
set_option maxRecDepth 100000
set_option maxHeartbeats 32000000
variable {c:Bool} {g N:Nat} {α:Type} {w:World} {P:Prop}
theorem ax.E9 {F:List Nat} {a b c:World} (h:ax F a b) (hb:Below b.heap.size b c):ax F a c:=h.trans (ax.below (F:=[]) hb) ag
theorem bM.thing {l r:Tr It} {y:It} (h:bM w (.node g c l y r)):y.In:=by
 obtain⟨⟨v,hv,_⟩,_⟩:=h;exact hv.2.2
theorem bM.least (d:It):∀{t:Tr It},bM w t→t≠ .nil→(t.least d).In:=by
 intro t;induction t with
 |nil=>intro _ h;exact absurd rfl h
 |node g c l y r ihl _=>
  intro h _;cases l with
  |nil=>exact h.thing
  |node gl cl ll yl rl=>exact ihl h.2.1 ag
theorem bM.node {w:World} {g:Nat} {c:Bool} {l r:Tr It} {y:It} (h:bM w (.node g c l y r)):∃A,Cs w g (nd y A (ptr l) (ptr r) c):=by
 obtain⟨⟨v,_,hc⟩,_⟩:=h;exact⟨v,hc⟩
def Gx (th:Nat) (rt:Value) (n:Int) (x:It) (N:Nat):Prop:=∀(t:Tr It) (w:World) (A:List It) (m:It) (B:List It),t.size≤N→bM w t→t.blocks.Nodup→t.list.length≤900000→bC w th rt n→Tr.Pre It.ahead x t→Tr.Has It.ahead x A m B→t.list=A++m::B→
    Calls Tryz.prog 184 #[th,ptr t,x.val] w (jH (Tr.rem It.ahead N x t) t.blocks w)
theorem a7R (h:P:=by
 first|exact hHeld|exact iK.out|exact jo.out):P:=h
theorem a7S (h:P:=by
 rcases List.mem_cons.1 hj with rfl|h1
 ·simp[Tr.blocks]
 ·simp[Tr.blocks,h1]):P:=h
theorem Dt.xn (th:Nat) (rt:Value) (n:Int) (x:It) (hx:x.In) (N:Nat) (ih:Gx th rt n x N) (g:Nat) (c:Bool) (l:Tr It) (y:It) (r:Tr It) (hlt:It.ahead x y=true) (w:World) (As:List It) (ms:It) (Bs:List It) (hs:(Tr.node g c l y r).size≤N+1) (hi:bM w (Tr.node g c l y r)) (hd:(Tr.node g c l y r).blocks.Nodup) (hn:(Tr.node g c l y r).list.length≤900000) (he:bC w th rt n) (hp:Tr.Pre It.ahead x (Tr.node g c l y r)) (hh:Tr.Has It.ahead x As ms Bs) (tT:(Tr.node g c l y r).list=As++ms::Bs):
  Calls Tryz.prog 184 #[th, .pointer (some ⟨g,0,none⟩),x.val] w (jH (Tr.rem It.ahead (N+1) x (Tr.node g c l y r)) (Tr.node g c l y r).blocks w):=by
 have hal:=aD w (.cells x 57);have IH:=aa ih;have HI:=aa (hi.below hal);have HE:=aa (he.below hal);have ng:Hid (Cs (w.alloc (.cells x 57)) w.heap.size x.cells):=aa (Cs.cu w 57 x);have nM:=aa hal;have yG:Hid (w.heap.size∉(Tr.node g c l y r).blocks):=aa (fun hm=>Nat.lt_irrefl _ (hi.nl _ hm).lt);have HX:=aa hx;have mZ:=aa hi.thing;have HD:=aa hd;have HN:=aa hn;have HP:=aa hp;have HH:=aa hh;have DJ:=aa tT;have HS:=aa hs;have gG:=aa hlt;obtain⟨hln,hrn,hpre,Tz,B',hl1,hl2⟩:=Tr.K9 hp hh tT hlt;have HG:=aa (And.intro hln (And.intro hrn (And.intro hpre (And.intro Tz (And.intro hl1 hl2)))));have mH:Hid (Tr.rem It.ahead (N+1) x (Tr.node g c l y r)=Tr.balance ((Tr.node g c l y r).aK.dV (Tr.rem It.ahead N x (Tr.node g c l y r).aK.left))):=aa (Tr.xn hlt)
 have kJ:Hid ((Tr.node g c l y r).aK.left.size≤N):=aa (by
  have:=Tr.pI _ (Tr.iN (Tr.fV (Tr.node g c l y r)) ag);rw[Tr.size_of_list (Tr.fV (Tr.node g c l y r))] at this;omega)
 have DC:=aa (Tr.iN (Tr.fV (Tr.node g c l y r)) ag);have kW:=aa (Tr.ow (Tr.node g c l y r));have mF:=aa (Tr.fV (Tr.node g c l y r));clear hln hrn hpre Tz hl1 hl2 hlt;clear ih hi hd hn he hp hh tT hs hal hx;unfold It.val;go_enter Tryz.func184,Tryz.ntmps184;go_upto_region 1 with fail
 generalize (w.alloc (.cells x 57))=W0 at HI HE ng nM⊢
 have aB:aF (fun wx=>Below W0 W0 wx):=fun _ _ h hb=>ai h hb;refine aA (S:=fun wx=>Below W0 W0 wx) 9 ae (aB _ _ ((Below.refl W0.heap.size W0)) (Below.refl _ _).drew) ?_;refine aQ (aB) (fun _ h=>h) fun g=> ?_;refine tk 0 ?_ g ?_ ?_ (tk 1 ?_ g ?_ ?_ (tk 2 ?_ g ?_ ?_ (tk 3 ?_ g ?_ ?_ (tk 4 ?_ g ?_ ?_ (tk 5 ?_ g ?_ ?_ (tk 6 ?_ g ?_ ?_ (tk 7 ?_ g ?_ ?_ (tk 8 ?_ g ?_ ?_ ?_))))))));iterate 3 (rotate_left;(·rfl);(·exact ah))
 iterate 2 (rotate_left;(·rfl);(·intro wq hSw;obtain⟨v,hc⟩:=(HI.out.below hSw).node;obtain⟨y0,y1,y2,y3,y4,y5,y6⟩:=hc.th;obtain⟨_,_,t0,_⟩:=HE.out.below hSw;have e0:=t0.aL;obtain⟨x0,x1,x2,x3,x4,x5,x6⟩:=It.at x (ng.out.below hSw);go_simp;try with_reducible rfl))
 iterate 3 (rotate_left;(·rfl);(·exact ah))
 rotate_left;(·rfl);(·intro wq hSw;obtain⟨v,hc⟩:=(HI.out.below hSw).node;obtain⟨y0,y1,y2,y3,y4,y5,y6⟩:=hc.th;obtain⟨_,_,t0,_⟩:=HE.out.below hSw;have e0:=t0.aL;obtain⟨x0,x1,x2,x3,x4,x5,x6⟩:=It.at x (ng.out.below hSw);go_simp;try with_reducible rfl);try simp only[av]
 clear g;refine bP (n:=9) rfl rfl ae (fun ZM yZ=> ?_);simp only[List.toList_toArray,List.drop_succ_cons,List.drop_zero];go_wp2_with fail
 refine(Item.ahead x y HX.out mZ.out _).mono ?_;rintro e w1 ⟨rfl,hb⟩;rw[gG.out];have hB1:=ai yZ hb;replace HI:=aa (HI.out.below hB1);replace HE:=aa (HE.out.below hB1);replace ng:=aa (ng.out.below hB1);replace nM:=aa (ai nM.out hB1);clear hb hB1 yZ;go_wp2_with fail
 refine(Dt.aK g c l r y th rt n _ HI.out.st HD.out HN.out HE.out HG.out.1 HG.out.2.1).mono ?_;rintro e1 w2 ⟨rfl,hs1,hw1⟩;have gI:=aa (HE.out.turned HI.out.st hw1);have HW1:=aa hw1;have jP:=aa hs1;have dK:=aa (ng.out.aG hw1 yG.out);clear hs1 hw1;generalize (Tr.node g c l y r).aK=T at *;cases T with
 |nil=>exact absurd rfl DC.out
 |node g' c' l' y' r'=>
  obtain⟨⟨A,m,kk,hc⟩,hl,hr⟩:=id jP.out;have oO:=aa (And.intro m kk);have HC:=aa (And.intro hc (And.intro hl hr));have HD1:=aa (kW.out.nodup_iff.2 HD.out);have iU:=aa (show l'.list.length+(r'.list.length+1)≤900000 from by have:=HN.out;rw[←mF.out] at this;simpa[Tr.list] using this);clear hc hl hr;simp only[aX];obtain⟨k',p1⟩:=HG.out.2.2.1;have HP1:=aa (And.intro p1 HG.out.2.2.2.1);clear p1;obtain⟨q1,q2⟩:=HG.out.2.2.2.2;have zD:Hid (Tr.Has It.ahead x As ms B'):=aa ⟨HH.out.low,fun b hb=>HH.out.high b (by rw[q2];simp[hb]),HH.out.mid⟩;have lT:=aa q1;clear q1 q2;have zx:Hid (Tr.Pre It.ahead x l'):=aa (Or.inl ⟨k',HP1.out.1,HP1.out.2⟩);go_wp2_with fail
  have q0:=HC.out.1.eO;have gJ:=(Below.refl w2.heap.size w2).drew;have PT:=aa ((dK.out.below gJ).nW);refine wp_region_held_drew (S:=fun w'=>w'.cell? w=some (.int .u64 x.t)∧w'.cell? ⟨w,1,none⟩=some (.int .u32 x.r)∧w'.cell? ⟨w,2,none⟩=some (.int .u32 x.v)∧w'.cell? ⟨w,3,none⟩=some (.int .i64 x.i)∧w'.cell? ⟨w,4,none⟩=some (.int .u64 x.u)∧w'.cell? ⟨w,5,none⟩=some (.int .u32 x.s)∧w'.cell? ⟨w,6,none⟩=some (.int .u32 x.y)) ae PT.out (fun hHeld=> ?_);refine wpAnyH_take (i:=0) (v:= ?_) rfl ae ae ae (fun _ _ _ h=>h) (Or.inl ⟨by rfl,?_⟩) aT ?_;rotate_left
  ·exact aO
  try simp only[av]
  refine wpAnyH_take (i:=1) (v:= ?_) rfl ae ae ae (fun _ _ _ h=>h) (Or.inl ⟨by rfl,?_⟩) aT ?_;rotate_left
  ·exact aO
  try simp only[av]
  refine wpAnyH_take (i:=2) (v:= ?_) rfl ae ae ae (fun _ _ _ h=>h) (Or.inl ⟨by rfl,?_⟩) aT ?_;rotate_left
  ·exact aO
  try simp only[av]
  refine wpAnyH_take (i:=3) (v:= ?_) rfl ae ae ae (fun _ _ _ h=>h) (Or.inl ⟨by rfl,?_⟩) aT ?_;rotate_left
  ·exact aO
  try simp only[av]
  refine wpAnyH_take (i:=4) (v:= ?_) rfl ae ae ae (fun _ _ _ h=>h) (Or.inl ⟨by rfl,?_⟩) aT ?_;rotate_left
  ·exact aO
  try simp only[av]
  refine wpAnyH_take (i:=6) (v:= ?_) rfl ae ae ae (fun _ _ _ h=>h) (Or.inl ⟨by rfl,?_⟩) aT ?_;rotate_left
  ·exact aO
  try simp only[av]
  refine wpAnyH_ready (rs:=[5]) ae ag ?_;refine AllReadyH.cons rfl (fun K hK=> ?_) AllReadyH.nil;go_simp;refine hK.out _ _ ?_ (fun hHeld=> ?_)
  ·exact a7R
  clear hK K;try simp only[av]
  refine wpAnyH_ready (rs:=[7]) ae ag ?_;refine AllReadyH.cons rfl (fun K hK=> ?_) AllReadyH.nil;go_simp;refine(IH.out l' _ As ms B' kJ.out (HC.out.2.1.below gJ) (aR HD1.out).2.2.1 (by have:=iU.out;omega) (gI.out.below gJ) zx.out zD.out lT.out).mono ?_;rintro e2 w3 ⟨rfl,hi2,hw2⟩;have hof:=Tr.Of.rem It.ahead x N l';have hg:g'∉(Tr.rem It.ahead N x l').blocks:=fun hm=>(aR HD1.out).1 (hof.2 _ hm);have HT:=aa (uz oO.out.1 oO.out.2 (HC.out.1.below gJ) (HC.out.2.1.below gJ) (HC.out.2.2.below gJ) (gI.out.below gJ) HD1.out hi2 hw2 hg);have mE:=aa (vL (l':=Tr.rem It.ahead N x l') HD1.out (hof.1 (aR HD1.out).2.2.1) (fun j hj=>Or.inl (hof.2 j hj)));have u6:=aa hof;have HLEN:Hid ((Tr.rem It.ahead N x l').list.length≤l'.list.length):=aa (Has.len lT.out (Tr.tN It.ahead x N l' As ms B' kJ.out zx.out zD.out lT.out).1);have o9:=aa ((dK.out.below gJ).aG hw2 (fun hm=>yG.out (kW.out.mem_iff.1 (by simp[Tr.blocks,hm]))));have hxg:g'≠w.heap.size:=fun e=>yG.out (kW.out.mem_iff.1 (by simp[Tr.blocks,e]));have yC:Hid (∀v,Cs (w3.setCell ⟨g',14,none⟩ v) w.heap.size x.cells):=aa (fun v=>o9.out.far hxg _ _);have wW:=aa gJ;clear hi2 hw2 hof hg gJ hxg q0;have q2:=HT.out.1.eO;have q3:=HT.out.1.H8;have nk:Hid (_=Tr.balance (.node g' c' (Tr.rem It.ahead N x l') y' r')):=mH;clear mH;generalize Tr.rem It.ahead N x l'=L' at *;obtain⟨u,hu⟩:=iL L';have HU:=aa hu;rw[hu];clear hu;have iK:Hid (Th w3 w.heap.size x):=aa o9.out.nW;have jo:Hid (Th (w3.setCell ⟨g',14,none⟩ (.pointer u)) w.heap.size x):=aa (yC.out _).nW;refine hK.out _ _ ?_ (fun hHeld=> ?_)
  ·exact a7R
  clear hK K;try simp only[av]
  refine wpAnyH_take (i:=8) (v:= ?_) rfl ae ae ae (fun _ _ _ h=>h) (Or.inl ⟨by rfl,?_⟩) aT ?_;rotate_left
  ·exact aO
  try simp only[av]
  refine wpAnyH_take (i:=9) (v:= ?_) rfl ae ae ae (fun _ _ _ h=>h) (Or.inl ⟨by rfl,?_⟩) aT ?_;rotate_left
  ·exact aO
  try simp only[av]
  refine wpAnyH_ready (rs:=[10]) ae ag ?_;refine AllReadyH.cons rfl (fun K hK=> ?_) AllReadyH.nil;go_simp;refine hK.out _ _ ?_ (fun hHeld=> ?_)
  ·exact a7R
  clear hK K;try simp only[av]
  refine wpAnyH_done ae ?_ _;clear hHeld;have HW:Hid (∃W,W=w3.setCell ⟨g',14,none⟩ (.pointer u)∧fB W (.node g' c' L' y' r')∧bC W th rt n∧ax (g'::l'.blocks) w2.drew W):=aa ⟨_,rfl,by rw[←HU.out];exact HT.out.2.1,by rw[←HU.out];exact HT.out.2.2.1,by rw[←HU.out];exact HT.out.2.2.2⟩;obtain⟨W,hW,HF⟩:=HW;rw[←hW];clear hW q2 q3;have HF:=aa HF;go_wp2_with fail
  refine(Dt.balance g' c' L' r' y' th rt n W HF.out.1 mE.out (by have:=iU.out;have:=HLEN.out;simp only[Tr.list,List.length_append,List.length_cons];omega) HF.out.2.1).mono ?_;rintro e3 w4 ⟨rfl,hi3,hw3⟩;have HI3:=aa hi3;have HW3:=aa hw3;clear hi3 hw3;go_wp2_with fail
  go_ret;refine⟨by rw[nk.out];rfl,by rw[nk.out];exact HI3.out,((((ax.below nM.out).trans HW1.out (fun j hj=>Or.inl hj)).E9 wW.out).trans HF.out.2.2 (fun j hj=>Or.inl (kW.out.mem_iff.1 ?_))).trans HW3.out (fun j hj=>Or.inl (kW.out.mem_iff.1 ?_))⟩
  ·exact a7S
  ·simp only[Tr.blocks,List.mem_cons,List.mem_append] at hj⊢
   exact hj.imp id (Or.imp (u6.out.2 j) id)
theorem a7T (h:P:=by
 simp only[Tr.blocks,List.mem_cons,List.mem_append] at hj⊢
 exact hj.imp id (Or.imp id (u6.out.2 j))):P:=h
theorem a7Q (h:P:=by
 obtain⟨⟨A,m,kk,hc⟩,hl,hr⟩:=id jP.out;have oO:=aa (And.intro m kk);have HC:=aa (And.intro hc (And.intro hl hr));have HD1:=aa (kW.out.nodup_iff.2 HD.out);have iU:=aa (show l'.list.length+(r'.list.length+1)≤900000 from by have:=HN.out;rw[←mF.out] at this;simpa[Tr.list] using this);clear hc hl hr;simp only[aX];simp only[Tr.bY,Tr.dh,Tr.pF] at ni sj su kJ;go_wp2_with fail
 have dN:aF (fun wx=>Below w2 w2 wx):=fun _ _ h hb=>ai h hb;refine aA (S:=fun wx=>Below w2 w2 wx) 9 ae (dN _ _ ((Below.refl w2.heap.size w2)) (Below.refl _ _).drew) ?_;refine aQ (dN) (fun _ h=>h) fun g=> ?_;refine tk 0 ?_ g ?_ ?_ (tk 1 ?_ g ?_ ?_ (tk 2 ?_ g ?_ ?_ (tk 3 ?_ g ?_ ?_ (tk 4 ?_ g ?_ ?_ (tk 5 ?_ g ?_ ?_ (tk 6 ?_ g ?_ ?_ (tk 7 ?_ g ?_ ?_ (tk 8 ?_ g ?_ ?_ ?_))))))));iterate 3 (rotate_left;(·rfl);(·exact ah))
 rotate_left;(·rfl);(·intro wq hSw;obtain⟨y0,y1,y2,y3,y4,y5,y6⟩:=(HC.out.1.below hSw).th;obtain⟨_,_,t0,_⟩:=gI.out.below hSw;have e0:=t0.aL;obtain⟨x0,x1,x2,x3,x4,x5,x6⟩:=It.at x (dK.out.below hSw);go_simp;try with_reducible rfl);iterate 3 (rotate_left;(·rfl);(·exact ah))
 iterate 2 (rotate_left;(·rfl);(·intro wq hSw;obtain⟨y0,y1,y2,y3,y4,y5,y6⟩:=(HC.out.1.below hSw).th;obtain⟨_,_,t0,_⟩:=gI.out.below hSw;have e0:=t0.aL;obtain⟨x0,x1,x2,x3,x4,x5,x6⟩:=It.at x (dK.out.below hSw);go_simp;try with_reducible rfl))
 try simp only[av]
 clear g;refine bP (n:=9) rfl rfl ae (fun wz2 IV=> ?_);simp only[List.toList_toArray,List.drop_succ_cons,List.drop_zero];go_wp2_with fail
 refine(Item.ahead y' x oO.out.2 HX.out _).mono ?_;rintro e w5 ⟨rfl,hb⟩;have tX:=ai IV hb;replace HC:=aa (And.intro (HC.out.1.below tX) (And.intro (HC.out.2.1.below tX) (HC.out.2.2.below tX)));replace gI:=aa (gI.out.below tX);replace dK:=aa (dK.out.below tX);replace HW1:=aa (HW1.out.E9 tX);clear hb IV tX jP;cases hx:It.ahead y' x with
 |true=>
  obtain⟨hpr,A',q1,q2⟩:=ni.out.2.2.2.1 hx;have zD:Hid (Tr.Has It.ahead x A' ms Bs):=aa ⟨fun a ha=>HH.out.low a (by rw[q2];simp[ha]),HH.out.high,HH.out.mid⟩
  have zx:Hid (Tr.Pre It.ahead x r'):=aa (by
   rcases hpr with h1|h1
   ·exact Or.inl h1
   ·exact Or.inr (Or.inl h1))
  have lT:=aa q1;have mH:=aa (sj.out ni.out.1 hx);clear q1 q2 hx hpr;go_wp2_with fail
  have q0:=HC.out.1.fG;have gJ:=(Below.refl w5.heap.size w5).drew;have PT:=aa ((dK.out.below gJ).nW);refine wp_region_held_drew (S:=fun w'=>w'.cell? w=some (.int .u64 x.t)∧w'.cell? ⟨w,1,none⟩=some (.int .u32 x.r)∧w'.cell? ⟨w,2,none⟩=some (.int .u32 x.v)∧w'.cell? ⟨w,3,none⟩=some (.int .i64 x.i)∧w'.cell? ⟨w,4,none⟩=some (.int .u64 x.u)∧w'.cell? ⟨w,5,none⟩=some (.int .u32 x.s)∧w'.cell? ⟨w,6,none⟩=some (.int .u32 x.y)) ae PT.out (fun hHeld=> ?_);refine wpAnyH_take (i:=0) (v:= ?_) rfl ae ae ae (fun _ _ _ h=>h) (Or.inl ⟨by rfl,?_⟩) aT ?_;rotate_left
  ·exact aO
  try simp only[av]
  refine wpAnyH_take (i:=1) (v:= ?_) rfl ae ae ae (fun _ _ _ h=>h) (Or.inl ⟨by rfl,?_⟩) aT ?_;rotate_left
  ·exact aO
  try simp only[av]
  refine wpAnyH_take (i:=2) (v:= ?_) rfl ae ae ae (fun _ _ _ h=>h) (Or.inl ⟨by rfl,?_⟩) aT ?_;rotate_left
  ·exact aO
  try simp only[av]
  refine wpAnyH_take (i:=3) (v:= ?_) rfl ae ae ae (fun _ _ _ h=>h) (Or.inl ⟨by rfl,?_⟩) aT ?_;rotate_left
  ·exact aO
  try simp only[av]
  refine wpAnyH_take (i:=4) (v:= ?_) rfl ae ae ae (fun _ _ _ h=>h) (Or.inl ⟨by rfl,?_⟩) aT ?_;rotate_left
  ·exact aO
  try simp only[av]
  refine wpAnyH_take (i:=6) (v:= ?_) rfl ae ae ae (fun _ _ _ h=>h) (Or.inl ⟨by rfl,?_⟩) aT ?_;rotate_left
  ·exact aO
  try simp only[av]
  refine wpAnyH_ready (rs:=[5]) ae ag ?_;refine AllReadyH.cons rfl (fun K hK=> ?_) AllReadyH.nil;go_simp;refine hK.out _ _ ?_ (fun hHeld=> ?_)
  ·exact a7R
  clear hK K;try simp only[av]
  refine wpAnyH_ready (rs:=[7]) ae ag ?_;refine AllReadyH.cons rfl (fun K hK=> ?_) AllReadyH.nil;go_simp;refine(IH.out r' _ A' ms Bs kJ.out (HC.out.2.2.below gJ) (aR HD1.out).2.2.2.1 (by have:=iU.out;omega) (gI.out.below gJ) zx.out zD.out lT.out).mono ?_;rintro e2 w3 ⟨rfl,hi2,hw2⟩;have hof:=Tr.Of.rem It.ahead x N r';have hg:g'∉(Tr.rem It.ahead N x r').blocks:=fun hm=>(aR HD1.out).2.1 (hof.2 _ hm);have HT:=aa (lU oO.out.1 oO.out.2 (HC.out.1.below gJ) (HC.out.2.1.below gJ) (HC.out.2.2.below gJ) (gI.out.below gJ) HD1.out hi2 hw2 hg);have mE:=aa (nu (r':=Tr.rem It.ahead N x r') HD1.out (hof.1 (aR HD1.out).2.2.2.1) (fun j hj=>Or.inl (hof.2 j hj)));have u6:=aa hof;have HLEN:Hid ((Tr.rem It.ahead N x r').list.length≤r'.list.length):=aa (Has.len lT.out (Tr.tN It.ahead x N r' A' ms Bs kJ.out zx.out zD.out lT.out).1);have o9:=aa ((dK.out.below gJ).aG hw2 (fun hm=>yG.out (kW.out.mem_iff.1 (by simp[Tr.blocks,hm]))));have hxg:g'≠w.heap.size:=fun e=>yG.out (kW.out.mem_iff.1 (by simp[Tr.blocks,e]));have yC:Hid (∀v,Cs (w3.setCell ⟨g',15,none⟩ v) w.heap.size x.cells):=aa (fun v=>o9.out.far hxg _ _);have wW:=aa gJ;clear hi2 hw2 hof hg gJ hxg q0;have q2:=HT.out.1.fG;have q3:=HT.out.1.yR;have nk:Hid (_=Tr.balance (.node g' c' l' y' (Tr.rem It.ahead N x r'))):=mH;clear mH sj su ni;generalize Tr.rem It.ahead N x r'=L' at *;obtain⟨u,hu⟩:=iL L';have HU:=aa hu;rw[hu];clear hu;have iK:Hid (Th w3 w.heap.size x):=aa o9.out.nW;have jo:Hid (Th (w3.setCell ⟨g',15,none⟩ (.pointer u)) w.heap.size x):=aa (yC.out _).nW;refine hK.out _ _ ?_ (fun hHeld=> ?_)
  ·exact a7R
  clear hK K;try simp only[av]
  refine wpAnyH_take (i:=8) (v:= ?_) rfl ae ae ae (fun _ _ _ h=>h) (Or.inl ⟨by rfl,?_⟩) aT ?_;rotate_left
  ·exact aO
  try simp only[av]
  refine wpAnyH_take (i:=9) (v:= ?_) rfl ae ae ae (fun _ _ _ h=>h) (Or.inl ⟨by rfl,?_⟩) aT ?_;rotate_left
  ·exact aO
  try simp only[av]
  refine wpAnyH_ready (rs:=[10]) ae ag ?_;refine AllReadyH.cons rfl (fun K hK=> ?_) AllReadyH.nil;go_simp;refine hK.out _ _ ?_ (fun hHeld=> ?_)
  ·exact a7R
  clear hK K;try simp only[av]
  refine wpAnyH_done ae ?_ _;clear hHeld;have HW:Hid (∃W,W=w3.setCell ⟨g',15,none⟩ (.pointer u)∧fB W (.node g' c' l' y' L')∧bC W th rt n∧ax (g'::r'.blocks) w5.drew W):=aa ⟨_,rfl,by rw[←HU.out];exact HT.out.2.1,by rw[←HU.out];exact HT.out.2.2.1,by rw[←HU.out];exact HT.out.2.2.2⟩;obtain⟨W,hW,HF⟩:=HW;rw[←hW];clear hW q2 q3;have HF:=aa HF;go_wp2_with fail
  refine(Dt.balance g' c' l' L' y' th rt n W HF.out.1 mE.out (by have:=iU.out;have:=HLEN.out;simp only[Tr.list,List.length_append,List.length_cons];omega) HF.out.2.1).mono ?_;rintro e3 w4 ⟨rfl,hi3,hw3⟩;have HI3:=aa hi3;have HW3:=aa hw3;clear hi3 hw3;go_wp2_with fail
  go_ret;refine⟨by rw[nk.out];rfl,by rw[nk.out];exact HI3.out,((HW1.out.E9 wW.out).trans HF.out.2.2 (fun j hj=>Or.inl (kW.out.mem_iff.1 ?_))).trans HW3.out (fun j hj=>Or.inl (kW.out.mem_iff.1 ?_))⟩
  ·exact a7S
  ·exact a7T
 |false=>
  obtain⟨⟨k',k1,k2⟩,q1,q2⟩:=ni.out.2.2.2.2 hx;have HK:=aa (And.intro k1 k2);have mH:=aa (su.out ni.out.1 hx);clear q1 q2 hx k1 k2;have Qd:Hid (r'≠ .nil):=aa (by intro e;have:=HK.out.2;rw[e] at this;simp[Tr.bS] at this);have z5:=HC.out.1.fG;go_wp2_with fail
  refine(Dt.least r' _ HC.out.2.2 Qd.out y').mono ?_;rintro e w6 ⟨rfl,hb⟩;have JJ:=aa (HC.out.2.2.least y' Qd.out);replace HC:=aa (And.intro (HC.out.1.below hb) (And.intro (HC.out.2.1.below hb) (HC.out.2.2.below hb)));replace gI:=aa (gI.out.below hb);replace HW1:=aa (HW1.out.E9 hb);clear hb z5;obtain⟨y9,Ir⟩:∃y9,r'.least y'=y9:=⟨_,rfl⟩;rw[Ir] at JJ⊢
  simp only[Ir] at mH;clear Ir;have hth:=HC.out.1.Nv
  have SK:Hid (∀W,W=w6.setCells g' 0 y9.cells→Cs W g' (nd y9 A (ptr l') (ptr r') c')∧bM W l'∧bM W r'∧bC W th rt n∧ax [g'] w6 W):=aa (fun W hW=>by
   have hnl:jq w6 g':=HC.out.1.yu;have hc6:ax [g'] w6 W:=by rw[hW];exact ax.sets _ _ (ax.refl _ _) (Or.inl ag)
   have hF:∀j∈[g'],jq w6 j:=fun j hj=>by simp at hj;subst hj;exact hnl
   refine⟨by rw[hW];exact HC.out.1.VU y9,HC.out.2.1.aG hc6 hF (fun j hj=>by simp;rintro rfl;exact(aR HD1.out).1 hj),HC.out.2.2.aG hc6 hF (fun j hj=>by simp;rintro rfl;exact(aR HD1.out).2.1 hj),gI.out.aG hc6 hF,hc6⟩)
  go_wp2_with (first|((with_reducible refine dC 57 dx rfl (.tmp 76) (.tmp 74) rfl g' 0 y9 hth ?rj1 ?rj2 ?rj3);(case rj1=>rfl);(case rj2=>rfl);(intro W2 hW2);(have jD:=aa (SK.out W2 hW2));(clear hW2 hth);(have z3:=jD.out.1.fG))|fail)
  refine(Dt.Ai th rt n N r' _ k' kJ.out jD.out.2.2.1 (aR HD1.out).2.2.2.1 (by have:=iU.out;omega) jD.out.2.2.2.1 HK.out.1 HK.out.2).mono ?_;rintro e2 w3 ⟨rfl,hi2,hw2⟩;have hof:=Tr.Of.fq N r';have hg:g'∉(Tr.fq N r').blocks:=fun hm=>(aR HD1.out).2.1 (hof.2 _ hm);have Qm:Hid ((Tr.node g' c' l' y9 r').blocks.Nodup):=aa (by have:=HD1.out;simpa[Tr.blocks] using this);have HT:=aa (lU (y:=y9) oO.out.1 JJ.out jD.out.1 jD.out.2.1 jD.out.2.2.1 jD.out.2.2.2.1 Qm.out hi2 hw2 hg);have mE:=aa (nu (r':=Tr.fq N r') Qm.out (hof.1 (aR HD1.out).2.2.2.1) (fun j hj=>Or.inl (hof.2 j hj)));have u6:=aa hof;have HLEN:Hid ((Tr.fq N r').list.length≤r'.list.length):=aa (by rw[((Tr.uE N r' kJ.out) k' HK.out.1 HK.out.2).2.2];simp);clear hi2 hw2 hof hg z3;have q2:=HT.out.1.fG;have q3:=HT.out.1.yR;have nk:Hid (_=Tr.balance (.node g' c' l' y9 (Tr.fq N r'))):=mH;clear mH sj su ni;generalize Tr.fq N r'=L' at *;obtain⟨u,hu⟩:=iL L';have HU:=aa hu;rw[hu];clear hu;go_wp2_with fail
  have HW:Hid (∃W,W=w3.setCell ⟨g',15,none⟩ (.pointer u)∧fB W (.node g' c' l' y9 L')∧bC W th rt n∧ax (g'::r'.blocks) W2 W):=aa ⟨_,rfl,by rw[←HU.out];exact HT.out.2.1,by rw[←HU.out];exact HT.out.2.2.1,by rw[←HU.out];exact HT.out.2.2.2⟩;obtain⟨W,hW,HF⟩:=HW;rw[←hW];clear hW q2 q3;have HF:=aa HF;refine(Dt.balance g' c' l' L' y9 th rt n W HF.out.1 mE.out (by have:=iU.out;have:=HLEN.out;simp only[Tr.list,List.length_append,List.length_cons];omega) HF.out.2.1).mono ?_;rintro e3 w4 ⟨rfl,hi3,hw3⟩;have HI3:=aa hi3;have HW3:=aa hw3;clear hi3 hw3;go_wp2_with fail
  go_ret;refine⟨by rw[nk.out];rfl,by rw[nk.out];exact HI3.out,((HW1.out.trans jD.out.2.2.2.2 (fun j hj=>Or.inl (kW.out.mem_iff.1 (by simp at hj;subst hj;simp[Tr.blocks])))).trans HF.out.2.2 (fun j hj=>Or.inl (kW.out.mem_iff.1 ?_))).trans HW3.out (fun j hj=>Or.inl (kW.out.mem_iff.1 ?_))⟩
  ·exact a7S
  ·exact a7T):P:=h
theorem a7U (h:P:=by
 cases T with
 |nil=>exact absurd rfl ni.out.2.2.1
 |node g' c' l' y' r'=>
  exact a7Q):P:=h
theorem Dt.Mo (th:Nat) (rt:Value) (n:Int) (x:It) (hx:x.In) (N:Nat) (ih:Gx th rt n x N) (g:Nat) (c:Bool) (l:Tr It) (y:It) (r:Tr It) (hlt:It.ahead x y=false) (hlr:l.red=false) (w:World) (As:List It) (ms:It) (Bs:List It) (hs:(Tr.node g c l y r).size≤N+1) (hi:bM w (Tr.node g c l y r)) (hd:(Tr.node g c l y r).blocks.Nodup) (hn:(Tr.node g c l y r).list.length≤900000) (he:bC w th rt n) (hp:Tr.Pre It.ahead x (Tr.node g c l y r)) (hh:Tr.Has It.ahead x As ms Bs) (tT:(Tr.node g c l y r).list=As++ms::Bs):
  Calls Tryz.prog 184 #[th, .pointer (some ⟨g,0,none⟩),x.val] w (jH (Tr.rem It.ahead (N+1) x (Tr.node g c l y r)) (Tr.node g c l y r).blocks w):=by
 have hal:=aD w (.cells x 57);have IH:=aa ih;have HI:=aa (hi.below hal);have HE:=aa (he.below hal);have ng:Hid (Cs (w.alloc (.cells x 57)) w.heap.size x.cells):=aa (Cs.cu w 57 x);have nM:=aa hal;have yG:Hid (w.heap.size∉(Tr.node g c l y r).blocks):=aa (fun hm=>Nat.lt_irrefl _ (hi.nl _ hm).lt);have HX:=aa hx;have mZ:=aa hi.thing;have HD:=aa hd;have HN:=aa hn;have HP:=aa hp;have HH:=aa hh;have DJ:=aa tT;have HS:=aa hs;have gG:=aa hlt;have HG:=aa (Tr.Bi hp hh tT hlt);have yD:=aa (Tr.Bb (Tr.node g c l y r));have JH:=aa (Tr.xA (Tr.node g c l y r));have BD:Hid ((Tr.node g c l y r).bU.right= .nil→Tr.rem It.ahead (N+1) x (Tr.node g c l y r)= .nil):=aa (Tr.Ee hlt);have sj:=aa (fun h1 h2=>Tr.yO (lt:=It.ahead) (N:=N) (x:=x) (y:=y) (g:=g) (c:=c) (l:=l) (r:=r) hlt h1 h2);have su:=aa (fun h1 h2=>Tr.AZ (lt:=It.ahead) (N:=N) (x:=x) (y:=y) (g:=g) (c:=c) (l:=l) (r:=r) hlt h1 h2);have Aw:=aa hlr;rw[Tr.qE hlr] at HG yD JH BD sj su;clear hlt hlr;clear ih hi hd hn he hp hh tT hs hal hx;unfold It.val;go_enter Tryz.func184,Tryz.ntmps184;go_upto_region 1 with fail
 generalize (w.alloc (.cells x 57))=W0 at HI HE ng nM⊢
 have aB:aF (fun wx=>Below W0 W0 wx):=fun _ _ h hb=>ai h hb;refine aA (S:=fun wx=>Below W0 W0 wx) 9 ae (aB _ _ ((Below.refl W0.heap.size W0)) (Below.refl _ _).drew) ?_;refine aQ (aB) (fun _ h=>h) fun g=> ?_;refine tk 0 ?_ g ?_ ?_ (tk 1 ?_ g ?_ ?_ (tk 2 ?_ g ?_ ?_ (tk 3 ?_ g ?_ ?_ (tk 4 ?_ g ?_ ?_ (tk 5 ?_ g ?_ ?_ (tk 6 ?_ g ?_ ?_ (tk 7 ?_ g ?_ ?_ (tk 8 ?_ g ?_ ?_ ?_))))))));iterate 3 (rotate_left;(·rfl);(·exact ah))
 iterate 2 (rotate_left;(·rfl);(·intro wq hSw;obtain⟨v,hc⟩:=(HI.out.below hSw).node;obtain⟨y0,y1,y2,y3,y4,y5,y6⟩:=hc.th;obtain⟨_,_,t0,_⟩:=HE.out.below hSw;have e0:=t0.aL;obtain⟨x0,x1,x2,x3,x4,x5,x6⟩:=It.at x (ng.out.below hSw);go_simp;try with_reducible rfl))
 iterate 3 (rotate_left;(·rfl);(·exact ah))
 rotate_left;(·rfl);(·intro wq hSw;obtain⟨v,hc⟩:=(HI.out.below hSw).node;obtain⟨y0,y1,y2,y3,y4,y5,y6⟩:=hc.th;obtain⟨_,_,t0,_⟩:=HE.out.below hSw;have e0:=t0.aL;obtain⟨x0,x1,x2,x3,x4,x5,x6⟩:=It.at x (ng.out.below hSw);go_simp;try with_reducible rfl);try simp only[av]
 clear g;refine bP (n:=9) rfl rfl ae (fun ZM yZ=> ?_);simp only[List.toList_toArray,List.drop_succ_cons,List.drop_zero];go_wp2_with fail
 refine(Item.ahead x y HX.out mZ.out _).mono ?_;rintro e w1 ⟨rfl,hb⟩;rw[gG.out];have hB1:=ai yZ hb;replace HI:=aa (HI.out.below hB1);replace HE:=aa (HE.out.below hB1);replace ng:=aa (ng.out.below hB1);replace nM:=aa (ai nM.out hB1);clear hb hB1 yZ;obtain⟨v0,hc0⟩:=HI.out.node;have c2:=hc0.eO;go_wp2_with fail
 refine(Dt.isRed l _ HI.out.2.1.st).mono ?_;rintro e wi ⟨rfl,rfl⟩;rw[Aw.out];clear c2 hc0;have Aq:=aa HI.out.st;have Ql:=HE;have X9:=ng;have Ud:Hid (ax (Tr.node g c l y r).blocks w w1):=aa (ax.below nM.out);obtain⟨⟨A0,V9,Wu,hc⟩,_,_⟩:=id Aq.out;have z3:=hc.fG;clear hc V9 Wu;have LH:=aa (yD.out.nodup_iff.2 HD.out);have Yr:=aa (show(Tr.node g c l y r).list.length≤900000 from by have:=HN.out;rw[←(Eq.refl (Tr.node g c l y r).list)] at this;exact this);rcases HG.out with⟨hrn,_⟩|hgo
 ·simp only[Tr.bY] at hrn;have uo:=aa hrn;subst hrn;simp only[kP] at z3;go_wp2_with fail
  go_ret;rw[BD.out rfl];exact⟨rfl,trivial,Ud.out⟩
 ·have ni:=aa hgo;clear hgo HG BD;have uo:=aa ni.out.1;simp only[Tr.bY] at uo
  have kJ:Hid ((Tr.node g c l y r).az.right.size≤N):=aa (by
   have:=Tr.rR _ ni.out.2.2.1;rw[Tr.size_of_list (Tr.gV (Tr.node g c l y r)),Tr.size_of_list (Eq.refl (Tr.node g c l y r).list)] at this;have:=HS.out;omega)
  have kW:=aa ((Tr.qJ (Tr.node g c l y r)).trans yD.out);have mF:=aa ((Tr.gV (Tr.node g c l y r)).trans (Eq.refl (Tr.node g c l y r).list))
  obtain⟨gr,cr,lr,xr,rr,hre⟩:∃gl cl ll xl rl,r= .node gl cl ll xl rl:=by
   cases hru:r with
   |nil=>exact absurd hru uo.out
   |node gl cl ll xl rl=>exact⟨_,_,_,_,_,rfl⟩
  have z4:=z3;rw[hre] at z4;simp only[aX] at z4;clear hre z3;go_wp2_with fail
  refine(Dt.az g c l r y th rt n _ Aq.out LH.out Yr.out Ql.out uo.out ni.out.2.1).mono ?_;rintro e1 w2 ⟨rfl,hs1,hw1⟩;have gI:=aa (Ql.out.turned Aq.out hw1);have HW1:=aa (Ud.out.trans hw1 (fun j hj=>Or.inl (yD.out.mem_iff.1 hj)));have jP:=aa hs1;have dK:=aa (X9.out.aG hw1 (fun hm=>yG.out (yD.out.mem_iff.1 hm)));clear hs1 hw1 z4;generalize (Tr.node g c l y r).az=T at *;exact a7U
theorem Dt.Mm (th:Nat) (rt:Value) (n:Int) (x:It) (hx:x.In) (N:Nat) (ih:Gx th rt n x N) (g:Nat) (c:Bool) (h:Nat) (a:Tr It) (z:It) (b:Tr It) (y:It) (r:Tr It) (hlt:It.ahead x y=false) (w:World) (As:List It) (ms:It) (Bs:List It) (hs:(Tr.node g c (Tr.node h true a z b) y r).size≤N+1) (hi:bM w (Tr.node g c (Tr.node h true a z b) y r)) (hd:(Tr.node g c (Tr.node h true a z b) y r).blocks.Nodup) (hn:(Tr.node g c (Tr.node h true a z b) y r).list.length≤900000) (he:bC w th rt n) (hp:Tr.Pre It.ahead x (Tr.node g c (Tr.node h true a z b) y r)) (hh:Tr.Has It.ahead x As ms Bs) (tT:(Tr.node g c (Tr.node h true a z b) y r).list=As++ms::Bs):
  Calls Tryz.prog 184 #[th, .pointer (some ⟨g,0,none⟩),x.val] w (jH (Tr.rem It.ahead (N+1) x (Tr.node g c (Tr.node h true a z b) y r)) (Tr.node g c (Tr.node h true a z b) y r).blocks w):=by
 have hal:=aD w (.cells x 57);have IH:=aa ih;have HI:=aa (hi.below hal);have HE:=aa (he.below hal);have ng:Hid (Cs (w.alloc (.cells x 57)) w.heap.size x.cells):=aa (Cs.cu w 57 x);have nM:=aa hal;have yG:Hid (w.heap.size∉(Tr.node g c (Tr.node h true a z b) y r).blocks):=aa (fun hm=>Nat.lt_irrefl _ (hi.nl _ hm).lt);have HX:=aa hx;have mZ:=aa hi.thing;have HD:=aa hd;have HN:=aa hn;have HP:=aa hp;have HH:=aa hh;have DJ:=aa tT;have HS:=aa hs;have gG:=aa hlt;have HG:=aa (Tr.Bi hp hh tT hlt);have yD:=aa (Tr.Bb (Tr.node g c (Tr.node h true a z b) y r));have JH:=aa (Tr.xA (Tr.node g c (Tr.node h true a z b) y r));have BD:Hid ((Tr.node g c (Tr.node h true a z b) y r).bU.right= .nil→Tr.rem It.ahead (N+1) x (Tr.node g c (Tr.node h true a z b) y r)= .nil):=aa (Tr.Ee hlt);have sj:=aa (fun h1 h2=>Tr.yO (lt:=It.ahead) (N:=N) (x:=x) (y:=y) (g:=g) (c:=c) (l:=(Tr.node h true a z b)) (r:=r) hlt h1 h2);have su:=aa (fun h1 h2=>Tr.AZ (lt:=It.ahead) (N:=N) (x:=x) (y:=y) (g:=g) (c:=c) (l:=(Tr.node h true a z b)) (r:=r) hlt h1 h2);rw[Tr.Kz (show(Tr.node h true a z b).red=true from rfl)] at HG yD JH BD sj su;simp only[Tr.bI] at HG yD JH BD sj su;clear hlt;clear ih hi hd hn he hp hh tT hs hal hx;unfold It.val;go_enter Tryz.func184,Tryz.ntmps184;go_upto_region 1 with fail
 generalize (w.alloc (.cells x 57))=W0 at HI HE ng nM⊢
 have aB:aF (fun wx=>Below W0 W0 wx):=fun _ _ h hb=>ai h hb;refine aA (S:=fun wx=>Below W0 W0 wx) 9 ae (aB _ _ ((Below.refl W0.heap.size W0)) (Below.refl _ _).drew) ?_;refine aQ (aB) (fun _ h=>h) fun g=> ?_;refine tk 0 ?_ g ?_ ?_ (tk 1 ?_ g ?_ ?_ (tk 2 ?_ g ?_ ?_ (tk 3 ?_ g ?_ ?_ (tk 4 ?_ g ?_ ?_ (tk 5 ?_ g ?_ ?_ (tk 6 ?_ g ?_ ?_ (tk 7 ?_ g ?_ ?_ (tk 8 ?_ g ?_ ?_ ?_))))))));iterate 3 (rotate_left;(·rfl);(·exact ah))
 iterate 2 (rotate_left;(·rfl);(·intro wq hSw;obtain⟨v,hc⟩:=(HI.out.below hSw).node;obtain⟨y0,y1,y2,y3,y4,y5,y6⟩:=hc.th;obtain⟨_,_,t0,_⟩:=HE.out.below hSw;have e0:=t0.aL;obtain⟨x0,x1,x2,x3,x4,x5,x6⟩:=It.at x (ng.out.below hSw);go_simp;try with_reducible rfl))
 iterate 3 (rotate_left;(·rfl);(·exact ah))
 rotate_left;(·rfl);(·intro wq hSw;obtain⟨v,hc⟩:=(HI.out.below hSw).node;obtain⟨y0,y1,y2,y3,y4,y5,y6⟩:=hc.th;obtain⟨_,_,t0,_⟩:=HE.out.below hSw;have e0:=t0.aL;obtain⟨x0,x1,x2,x3,x4,x5,x6⟩:=It.at x (ng.out.below hSw);go_simp;try with_reducible rfl);try simp only[av]
 clear g;refine bP (n:=9) rfl rfl ae (fun ZM yZ=> ?_);simp only[List.toList_toArray,List.drop_succ_cons,List.drop_zero];go_wp2_with fail
 refine(Item.ahead x y HX.out mZ.out _).mono ?_;rintro e w1 ⟨rfl,hb⟩;rw[gG.out];have hB1:=ai yZ hb;replace HI:=aa (HI.out.below hB1);replace HE:=aa (HE.out.below hB1);replace ng:=aa (ng.out.below hB1);replace nM:=aa (ai nM.out hB1);clear hb hB1 yZ;obtain⟨v0,hc0⟩:=HI.out.node;have c2:=hc0.eO;simp only[aX] at c2;go_wp2_with fail
 refine(Dt.isRed (Tr.node h true a z b) _ HI.out.2.1.st).mono ?_;rintro e wi ⟨rfl,rfl⟩;simp only[Tr.red];clear c2 hc0;go_wp2_with fail
 refine(Dt.bI th g h c true a b r y z rt n _ HI.out.st HD.out HN.out HE.out).mono ?_;rintro e wu ⟨rfl,hsu,Tt⟩;have Aq:=aa hsu;have Ql:=aa (HE.out.turned HI.out.st Tt);have X9:=aa (ng.out.aG Tt yG.out);have Ud:=aa ((ax.below nM.out).trans Tt (fun j hj=>Or.inl hj));clear hsu Tt;obtain⟨⟨A0,V9,Wu,hc⟩,_,_⟩:=id Aq.out;have z3:=hc.fG;clear hc V9 Wu;have LH:=aa (yD.out.nodup_iff.2 HD.out);have Yr:=aa (show(Tr.node h c a z (Tr.node g true b y r)).list.length≤900000 from by have:=HN.out;rw[←JH.out] at this;exact this);rcases HG.out with⟨hrn,_⟩|hgo
 ·simp only[Tr.bY] at hrn;cases hrn
 ·have ni:=aa hgo;clear hgo HG BD;have uo:=aa ni.out.1;simp only[Tr.bY] at uo
  have kJ:Hid ((Tr.node h c a z (Tr.node g true b y r)).az.right.size≤N):=aa (by
   have:=Tr.rR _ ni.out.2.2.1;rw[Tr.size_of_list (Tr.gV (Tr.node h c a z (Tr.node g true b y r))),Tr.size_of_list JH.out] at this;have:=HS.out;omega)
  have kW:=aa ((Tr.qJ (Tr.node h c a z (Tr.node g true b y r))).trans yD.out);have mF:=aa ((Tr.gV (Tr.node h c a z (Tr.node g true b y r))).trans JH.out);have z4:=z3;simp only[aX] at z4;clear z3;go_wp2_with fail
  refine(Dt.az h c a (Tr.node g true b y r) z th rt n _ Aq.out LH.out Yr.out Ql.out uo.out ni.out.2.1).mono ?_;rintro e1 w2 ⟨rfl,hs1,hw1⟩;have gI:=aa (Ql.out.turned Aq.out hw1);have HW1:=aa (Ud.out.trans hw1 (fun j hj=>Or.inl (yD.out.mem_iff.1 hj)));have jP:=aa hs1;have dK:=aa (X9.out.aG hw1 (fun hm=>yG.out (yD.out.mem_iff.1 hm)));clear hs1 hw1 z4;generalize (Tr.node h c a z (Tr.node g true b y r)).az=T at *;exact a7U
theorem Dt.remove (th:Nat) (rt:Value) (n:Int) (x:It) (hx:x.In) (N:Nat):Gx th rt n x N:=by
 induction N with
 |zero=>
  intro t w A m B hs _ _ _ _ hp _ _;have:=Tr.uH hp;cases t with
  |nil=>exact absurd rfl this
  |node g c l y r=>simp only[Tr.size] at hs;omega
 |succ N ih=>
  intro t w As ms Bs hs hi hd hn he hp hh tT;cases t with
  |nil=>exact absurd rfl (Tr.uH hp)
  |node g c l y r=>
   simp only[aX];cases hlt:It.ahead x y with
   |true=>exact Dt.xn th rt n x hx N ih g c l y r hlt w As ms Bs hs hi hd hn he hp hh tT
   |false=>
    cases hlr:l.red with
    |false=>exact Dt.Mo th rt n x hx N ih g c l y r hlt hlr w As ms Bs hs hi hd hn he hp hh tT
    |true=>
     cases l with
     |nil=>simp[Tr.red] at hlr
     |node h d a z b=>
      simp only[Tr.red] at hlr;subst hlr;exact Dt.Mm th rt n x hx N ih g c h a z b y r hlt w As ms Bs hs hi hd hn he hp hh tT
end


section
open Go.RowKit
def YY (x:It) (t:Tr It) (th:Nat) (w:World) (e:Ending) (w':World):Prop:=e= .returned (.bool true)∧cZ w' th ((Tr.rem It.ahead t.size x t).dz false)∧ax (th::t.blocks) w w'
theorem bmm {P:Prop} (h:P:=by
 first|exact hHeld|exact iK.out|exact jo.out):P:=h
set_option maxRecDepth 100000 in
set_option maxHeartbeats 4000000 in
theorem Dt.delete (th:Nat) (t:Tr It) (x:It) (hx:x.In) (w:World) (A:List It) (m:It) (B:List It) (h:cZ w th t) (hn:t.list.length≤900000) (hh:Tr.has It.ahead x t=true) (hp:Tr.Pre It.ahead x t) (hs:Tr.Has It.ahead x A m B) (hl:t.list=A++m::B):
  Calls Tryz.prog 167 #[th,x.val] w (YY x t th w):=by
 have hb0:=aD w (.cells x 57);have HT:=aa (h.below hb0);have HB0:=aa hb0;have HX0:Hid (Th (w.alloc (.cells x 57)) w.heap.size x):=aa (Cs.cu w _ x).nW;have ek:=aa hx
 have Lv:Hid (∀g∈th::t.blocks,g<w.heap.size):=aa (fun g hg=>by
  rcases List.mem_cons.1 hg with rfl|h1
  ·obtain⟨_,_,t0,_⟩:=h.1;exact t0.lt
  ·exact(h.2.1.nl g h1).lt)
 have HH:=aa hh;have HN:=aa hn;have zx:=aa hp;have YD:=aa hs;have DJ:=aa hl;clear h hh hx hb0 hn hp hs hl;unfold It.val;go_enter Tryz.func167,Tryz.ntmps167;go_wp2_with fail
 refine(Dt.has th t x ek.out _ HT.out).mono ?_;rintro e w1 ⟨rfl,hb⟩;rw[HH.out];have HT1:=aa (HT.out.below hb);have bX:=aa (HX0.out.below hb);have HB:=aa (ai HB0.out hb);have Ur:=aa (ai HB.out (Below.refl _ w1).drew);have oN:=aa (HT1.out.below (Below.refl _ w1).drew);have PU:=aa (bX.out.below (Below.refl _ w1).drew);obtain⟨e3,XA,_,_⟩:=oN.out.1.at3;obtain⟨u0,hu0⟩:=iL t;rw[hu0] at e3;clear hb;go_wp2_with fail
 refine wp_region_held_drew (S:=fun w'=>w'.cell? w=some (.int .u64 x.t)∧w'.cell? ⟨w,1,none⟩=some (.int .u32 x.r)∧w'.cell? ⟨w,2,none⟩=some (.int .u32 x.v)∧w'.cell? ⟨w,3,none⟩=some (.int .i64 x.i)∧w'.cell? ⟨w,4,none⟩=some (.int .u64 x.u)∧w'.cell? ⟨w,5,none⟩=some (.int .u32 x.s)∧w'.cell? ⟨w,6,none⟩=some (.int .u32 x.y)) ae PU.out (fun hHeld=> ?_);refine wpAnyH_take (i:=0) (v:= ?_) rfl ae ae ae (fun _ _ _ h=>h) (Or.inl ⟨by rfl,?_⟩) aT ?_;rotate_left
 ·exact aO
 try simp only[av]
 refine wpAnyH_take (i:=1) (v:= ?_) rfl ae ae ae (fun _ _ _ h=>h) (Or.inl ⟨by rfl,?_⟩) aT ?_;rotate_left
 ·exact aO
 try simp only[av]
 refine wpAnyH_take (i:=2) (v:= ?_) rfl ae ae ae (fun _ _ _ h=>h) (Or.inl ⟨by rfl,?_⟩) aT ?_;rotate_left
 ·exact aO
 try simp only[av]
 refine wpAnyH_take (i:=3) (v:= ?_) rfl ae ae ae (fun _ _ _ h=>h) (Or.inl ⟨by rfl,?_⟩) aT ?_;rotate_left
 ·exact aO
 try simp only[av]
 refine wpAnyH_take (i:=4) (v:= ?_) rfl ae ae ae (fun _ _ _ h=>h) (Or.inl ⟨by rfl,?_⟩) aT ?_;rotate_left
 ·exact aO
 try simp only[av]
 refine wpAnyH_take (i:=6) (v:= ?_) rfl ae ae ae (fun _ _ _ h=>h) (Or.inl ⟨by rfl,?_⟩) aT ?_;rotate_left
 ·exact aO
 try simp only[av]
 refine wpAnyH_ready (rs:=[5]) ae ag ?_;refine AllReadyH.cons rfl (fun K hK=> ?_) AllReadyH.nil;go_simp;refine hK.out _ _ ?_ (fun hHeld=> ?_)
 ·exact bmm
 clear hK K;try simp only[av]
 refine wpAnyH_ready (rs:=[7]) ae ag ?_;refine AllReadyH.cons rfl (fun K hK=> ?_) AllReadyH.nil;go_simp;have RJ:=Dt.remove th (ptr t) t.list.length x ek.out t.size t _ A m B ay oN.out.2.1 oN.out.2.2 HN.out oN.out.1 zx.out YD.out DJ.out;rw[hu0] at RJ;refine RJ.mono ?_;clear RJ;rintro e w2 ⟨rfl,hi,hw⟩;have HE2:=aa (oN.out.1.aG hw oN.out.2.1.nl);have u6:=aa (Tr.Of.rem It.ahead x t.size t)
 have HLEN:Hid ((Tr.rem It.ahead t.size x t).list.length+1=t.list.length):=aa (by
  rw[(Tr.tN It.ahead x t.size t A m B ay zx.out YD.out DJ.out).1,DJ.out];simp;omega)
 have HI:=aa hi;have HW:=aa hw;have hxb:w.heap.size∉t.blocks:=fun hm=>Nat.lt_irrefl _ (Lv.out _ (by simp[hm]));have hxt:th≠w.heap.size:=fun e=>Nat.lt_irrefl _ (Lv.out w.heap.size (by simp[e]));have o9:=aa (PU.out.aG hw hxb);have HX:Hid (∀w',cZ w' th ((Tr.rem It.ahead t.size x t).dz false)→ax (th::t.blocks) w w'→YY x t th w (.returned (.bool true)) w'):=aa (fun w' h1 h2=>⟨rfl,h1,h2⟩);clear hxb hi hw e3 XA;have aaR:Hid ((1:Int)≤t.list.length∧(t.list.length:Int)≤900000):=aa (by have:=HLEN.out;have:=HN.out;omega);generalize Tr.rem It.ahead t.size x t=T at *;obtain⟨u,hu⟩:=iL T;have HU:=aa hu;rw[hu];clear hu;obtain⟨_,_,t0,_⟩:=HE2.out;have q3:=t0.at3;have q3f:=t0.Xm;have q4:=t0.at4;have q4f:=t0.Xl;clear t0;have iK:Hid (Th w2 w.heap.size x):=aa o9.out;have jo:Hid (Th (w2.setCell ⟨th,3,none⟩ (.pointer u)) w.heap.size x):=aa (o9.out.far hxt _ _);clear hxt;refine hK.out _ _ ?_ (fun hHeld=> ?_)
 ·exact bmm
 clear hK K;try simp only[av]
 refine wpAnyH_take (i:=8) (v:= ?_) rfl ae ae ae (fun _ _ _ h=>h) (Or.inl ⟨by rfl,?_⟩) aT ?_;rotate_left
 ·exact aO
 try simp only[av]
 refine wpAnyH_take (i:=9) (v:= ?_) rfl ae ae ae (fun _ _ _ h=>h) (Or.inl ⟨by rfl,?_⟩) aT ?_;rotate_left
 ·exact aO
 try simp only[av]
 refine wpAnyH_ready (rs:=[10]) ae ag ?_;refine AllReadyH.cons rfl (fun K hK=> ?_) AllReadyH.nil;go_simp;refine hK.out _ _ ?_ (fun hHeld=> ?_)
 ·exact bmm
 clear hK K;try simp only[av]
 refine wpAnyH_done ae ?_ _;clear hHeld;obtain⟨hlen,hmax⟩:=aaR.out;cases T with
 |nil=>
  have hu:=HU.out;simp only[kP] at hu;injection hu with hu;subst hu
  have HW3:Hid (∃W,W=(w2.setCell ⟨th,3,none⟩ (.pointer none)).setCell ⟨th,4,none⟩ (.int .i64 (t.list.length-1))∧
    bC W th (.pointer none) (t.list.length-1)∧ax (th::t.blocks) w W):=aa (by
   have e1:=HE2.out.root (.pointer none);have c1:ax (th::t.blocks) w1.drew w2:=HW.out.mono (fun j hj=>by simp[hj]);have c2:=(c1.set (g:=th) (Or.inl ag) 3 (.pointer none)).set (g:=th) (Or.inl ag) 4 (.int .i64 (t.list.length-1));exact⟨_,rfl,e1.size _,(ax.below Ur.out).trans c2 (fun j hj=>Or.inl hj)⟩)
  go_wp2_with fail
  obtain⟨W,hW,HF⟩:=HW3;rw[←hW];go_ret;refine HX.out W ⟨?_,trivial,by simp[Tr.dz,Tr.blocks]⟩ HF.2;have h1:=HF.1;have h2:((Tr.dz false (.nil:Tr It)).list.length:Int)=t.list.length-1:=by have:=HLEN.out;simp[Tr.list,Tr.dz] at this⊢;omega
  rw[h2];exact h1
 |node g c l y r=>
  have hu:=HU.out;simp only[aX] at hu;injection hu with hu;subst hu
  have hne:th≠g:=fun e=>by
   obtain⟨f,a,k',hk⟩:=HE2.out.hd;obtain⟨⟨v,_,hc⟩,_⟩:=HI.out;rw[e,hc.th.1] at hk;injection hk with hk;cases hk
  have hne':g≠th:=Ne.symm hne;have mE:=aa (u6.out.1 HT1.out.2.2)
  have HW3:Hid (∃W,W=((w2.setCell ⟨th,3,none⟩ (.pointer (some ⟨g,0,none⟩))).setCell ⟨g,16,none⟩ (.bool false)).setCell ⟨th,4,none⟩ (.int .i64 (t.list.length-1))∧
    bC W th (.pointer (some ⟨g,0,none⟩)) (t.list.length-1)∧bM W (.node g false l y r)∧ax (th::t.blocks) w W):=aa (by
   have e1:=HE2.out.root (.pointer (some ⟨g,0,none⟩));have i1:=HI.out.I7 HE2.out.hd 3 (.pointer (some ⟨g,0,none⟩));have hd:=aR mE.out;have hn1:jq (w2.setCell ⟨th,3,none⟩ (.pointer (some ⟨g,0,none⟩))) g:=i1.nl g (by simp[Tr.blocks]);have e2:=e1.aG (F:=[g]) ((ax.refl _ _).set (g:=g) (Or.inl ag) 16 (.bool false)) (fun j hj=>by simp at hj;subst hj;exact hn1);have i2:=i1.dz (d:=false) ⟨hd.1,hd.2.1⟩;have WS:g∈t.blocks:=u6.out.2 g (by simp[Tr.blocks]);have c1:ax (th::t.blocks) w1.drew w2:=HW.out.mono (fun j hj=>by simp[hj]);have c2:=((c1.set (g:=th) (Or.inl ag) 3 (.pointer (some ⟨g,0,none⟩))).set (g:=g) (Or.inl (by simp[WS])) 16 (.bool false)).set (g:=th) (Or.inl ag) 4 (.int .i64 (t.list.length-1));exact⟨_,rfl,e2.size _,i2.I7 e2.hd _ _,(ax.below Ur.out).trans c2 (fun j hj=>Or.inl hj)⟩)
  obtain⟨⟨v,_,hc⟩,_⟩:=HI.out;have c4:=hc.uI;have c4f:=hc.xx;clear hc;go_wp2_with fail
  obtain⟨W,hW,HF⟩:=HW3;rw[←hW];go_ret;refine HX.out W ⟨?_,HF.2.1,?_⟩ HF.2.2
  ·have h1:=HF.1;have h2:((Tr.dz false (.node g c l y r)).list.length:Int)=t.list.length-1:=by rw[Tr.iX];have:=HLEN.out;omega
   rw[h2];exact h1
  ·rw[Tr.fU];exact mE.out
end

end Go.Proofs.YtnmbfjgcmfjdcaaGreatDoor

import Derived.Test.YtnmbfjgcmfjdcaaGreatDoorMuL
import Derived.Test.YtnmbfjgcmfjdcaaGreatDoorSum
namespace Go.Proofs.YtnmbfjgcmfjdcaaGreatDoor
open Go.RowKit
def qx (l:List Int):List (Int×Int):=l.map fun x=>(aJ x,aI x)
theorem tH {x:Int}:vW (aJ x,aI x)=x:=by unfold vW aJ aI;simp only;omega
theorem LU (l:List Int):(qx l).length=l.length:=by unfold qx;rw[List.length_map]
theorem Uz {l:List Int} {k:Nat} (hk:k<l.length):(qx l).getD k (0,0)=(aJ (l.getD k 0),aI (l.getD k 0)):=by
 unfold qx;simp[List.getD,hk]
theorem UA {l:List Int} (h:∀x∈l,WR x):Nl (qx l):=fun p hp=>by
 obtain⟨x,hx,rfl⟩:=List.mem_map.1 hp;rw[tH];exact kr (h x hx)
theorem yx.tO (w:World) (t:TypeId) (a b c:Int):yx (w.alloc (.cells #[.int .i64 (aJ a), .int .u64 (aI a), .int .i64 (aJ b), .int .u64 (aI b), .int .i64 (aJ c), .int .u64 (aI c)] t)) (some ⟨w,0,none⟩) 3 (qx [a,b,c]):=
 ⟨rfl,fun _ _=>⟨_,0,rfl,by simp,fun j hj=>by
  rcases j with _|_|_|j
  ·simp[qx]
  ·simp[qx]
  ·simp[qx]
  ·omega⟩⟩
theorem bK.aab {a b:Int} (a0:0≤a) (ha:WR a) (b0:0≤b) (hb:WR b) (A:Option Addr) (c:Nat) (w:World) (hr:yx w A 3 (qx [a,b,2])):
  Calls Tryz.prog 150 #[.slice A 3 c] w (aV (.tuple #[wv (eQ (a+b+2)), .bool (okW (a+b+2))]) w):=by
 have hall:∀x∈[a,b,2],WR x:=by
  intro x hx;simp only[List.mem_cons,List.not_mem_nil,or_false] at hx;rcases hx with rfl|rfl|rfl
  ·exact ha
  ·exact hb
  ·unfold WR;omega
 refine(bK.sum A 3 c (qx [a,b,2]) w hr (UA hall) ak).mono ?_;have e0:pG ((qx [a,b,2]).take 0)=0:=rfl;have e1:pG ((qx [a,b,2]).take 1)=a:=by show vW (aJ a,aI a)+0=a;rw[tH];omega
 have e2:pG ((qx [a,b,2]).take 2)=a+b:=by show vW (aJ a,aI a)+(vW (aJ b,aI b)+0)=a+b;rw[tH,tH];omega
 have e3:pG (qx [a,b,2])=a+b+2:=by show vW (aJ a,aI a)+(vW (aJ b,aI b)+(vW (aJ 2,aI 2)+0))=a+b+2;rw[tH,tH,tH];omega
 rintro e w' ⟨h,l,ok,rfl,hs,hb'⟩;rcases hs with⟨rfl,g1,g2⟩|⟨rfl,rfl,rfl,j,hj,hw⟩
 ·rw[e3] at g2;have hk:=dG.2 g2.wr;rw[jg hk,hk];obtain⟨rfl,rfl⟩:=g2.words;exact⟨rfl,hb'⟩
 ·have hk:okW (a+b+2)=false:=by
   cases e:okW (a+b+2)
   ·rfl
   ·have hwr:=dG.1 e;exfalso
    apply hw
    have hj3:j≤3:=hj;unfold WR at *;rcases j with _|_|_|_|j
    ·rw[e0];omega
    ·rw[e1];omega
    ·rw[e2];omega
    ·rw[show pG ((qx [a,b,2]).take 3)=a+b+2 from e3];omega
    ·omega
  rw[Di hk,hk];exact⟨by unfold wv;rw[MQ,MB],hb'⟩
set_option maxRecDepth 100000 in
set_option maxHeartbeats 8000000 in
theorem qw.carried (A:Option Addr) (n c:Nat) (l:List Int) (w:World) (hz:yx w A n (qx l)) (hi:∀x∈l,WR x) (hn:n≤9223372036854775807):
  Calls Tryz.prog 111 #[.slice A n c] w (aV (wv (oH l)) w):=by
 have HZ:=aa hz;have HL:Hid (l.length=n):=aa (by rw[←LU];exact hz.1);have HI:=aa hi;have HN:=aa hn;clear hz hi hn;go_enter Tryz.func111,Tryz.ntmps111;go_wp2_with fail
 go_loopg [9] n (fun g i wr=>∃k:Nat,k≤n∧g=n-k∧i= .int .i64 k∧jh (l.take k)≤mP∧Vs w [(w.heap.size+1,[.int .i64 (aJ (jh (l.take k))), .int .u64 (aI (jh (l.take k)))]),(w,[.int .i64 0, .int .u64 0])] wr)
 case atStart=>
  refine⟨0,Nat.zero_le _,by omega,rfl,(by rw[List.take_zero,xM];decide),Vs.more (Vs.more (Vs.nil (((Below.refl _ _).alloc ay _).alloc ag _)) ((Cs.cK _ _ _ _).alloc _)) ?_⟩;have:=Cs.cK (w.alloc (.cells #[.int .i64 0, .int .u64 0] 42)) 42 (.int .i64 0) (.int .u64 0);rw[List.take_zero,xM,MQ,MB];simpa using this
 case round=>
  obtain⟨k,hk,hg,rfl,hle,hV⟩:=hrel;have hn':=HN.out;have HG:=aa hg;have Qf:=aa hle;have V:=aa hV;clear hg hV hle;by_cases hlt:k<n
  ·obtain⟨b,off,rfl,hbl,hc⟩:=(HZ.out.below V.out.2).2 k hlt;obtain⟨hc0,hc1⟩:=hc k hlt;have hkl:k<l.length:=by have:=HL.out;omega
   have HS:=aa (PE hkl);rw[Uz hkl] at hc0 hc1
   have HX:Hid (WR (l.getD k 0)):=aa (by
    have e:l.getD k 0=l[k]:=by simp[List.getD,hkl]
    rw[e];exact HI.out _ (List.getElem_mem hkl))
   have yH:Hid (0≤jh (l.take k)∧WR (jh (l.take k))):=aa (by
    have h1:=zW (l:=l.take k) (fun x hx=>HI.out x (List.mem_of_mem_take hx));have h2:=Qf.out;unfold mP at h2;exact⟨h1,by unfold WR;omega⟩)
   have HZX:=aa (G5 HX.out);have HZW:=aa (VD HX.out);have hki:(k:Int)<n:=af;clear hkl;generalize jh (l.take k)=a at *;generalize l.getD k 0=x at *;dsimp only at hc0 hc1;clear hc;go_wp2_with fail
   have V1:=aa (Vs.more (V.out.alloc (.cells #[.int .i64 (aJ x), .int .u64 (aI x)] 42)) (Cs.cK wr 42 (.int .i64 (aJ x)) (.int .u64 (aI x))));clear hc0 hc1 V;generalize wr.alloc (.cells #[.int .i64 (aJ x), .int .u64 (aI x)] 42)=W1 at V1⊢
   generalize wr.heap.size=gx at V1⊢
   have s0:=(V1.out.at 1 rfl).aL;have s1:=(V1.out.at 1 rfl).fH;have x0:=(V1.out.at 0 rfl).aL;have x1:=(V1.out.at 0 rfl).fH
   go_region_with (first
    |(go_at_call 151;refine(qw.size x HX.out _).mono ?_;rintro e w2 ⟨rfl,hb2⟩;have V2:=aa (V1.out.drew.below hb2);clear hb2;have s0:=(V2.out.at 1 rfl).aL;have s1:=(V2.out.at 1 rfl).fH)
    |(go_at_call 105;refine(bK.ZT (x:=2) ak ak _).mono ?_;rintro e w3 ⟨rfl,hb2⟩;have V3:=aa (V2.out.below hb2);have V4:=aa (V3.out.alloc (.cells #[.int .i64 (aJ a), .int .u64 (aI a), .int .i64 (aJ (q8 x)), .int .u64 (aI (q8 x)), .int .i64 (aJ 2), .int .u64 (aI 2)] 42));have HR:=aa (yx.tO w3 42 a (q8 x) 2);clear hb2;have s0:=(V3.out.at 1 rfl).aL;have s1:=(V3.out.at 1 rfl).fH)
    |(go_at_call 150;refine(bK.aab yH.out.1 yH.out.2 HZX.out.1 HZW.out _ _ _ HR.out).mono ?_;rintro e w4 ⟨rfl,hb2⟩;have V5:=aa (V4.out.below hb2);clear hb2;have s0:=(V5.out.at 1 rfl).aL;have s1:=(V5.out.at 1 rfl).fH;have s2:=(V5.out.at 1 rfl).lM;have s3:=(V5.out.at 1 rfl).mW;have sz:=(V5.out.at 1 rfl).lt))
   all_goals
    cases hk:okW (a+q8 x+2) with
    |true=>
     rw[jg hk];have HK:=aa (dG.1 hk);clear hk;go_wp2_with fail
     go_roundg (n-(k+1))
     case measure=>have:=HG.out;omega
     case rel=>
      have e:jh (l.take (k+1))=a+q8 x+2:=by have:=HS.out;omega
      refine⟨k+1,by omega,rfl,by go_num,?_,?_⟩
      ·rw[e];have:=HK.out;unfold WR at this;unfold mP;omega
      ·rw[e];exact Vs.more (Vs.more (Vs.nil ((V5.out.2.setCell ag _).setCell ag _)) (((V5.out.at 2 rfl).far af _ _).far af _ _)) ((V5.out.at 1 rfl).kN _ _)
    |false=>
     have HK:Hid (oH l=mP):=aa (PH (k:=k+1) HI.out (by
      have h1:=HS.out;have h2:=Ot hk;have h3:=yH.out.1;have h4:=HZX.out.1;unfold WR at h2;unfold mP;omega))
     rw[Di hk];clear hk;go_wp2_with fail
     refine(qw.greatest _).mono ?_;rintro e w5 ⟨rfl,hb5⟩;have V6:Hid (Vs w [(w,[.int .i64 0, .int .u64 0])] w5):=aa (Vs.below (Vs.more (Vs.nil ((V5.out.2.setCell ag _).setCell ag _)) (((V5.out.at 2 rfl).far af _ _).far af _ _)) hb5);clear hb5;have r0:=(V6.out.at 0 rfl).aL;have r1:=(V6.out.at 0 rfl).fH;have r2:=(V6.out.at 0 rfl).lM;have r3:=(V6.out.at 0 rfl).mW;go_wp2_with fail
     refine bodyPost_ret (v:=wv mP) (by simp[results,Tryz.results111,go_sem,r0,r1]) rfl ⟨by rw[HK.out],?_⟩;exact(V6.out.2.setCell ag _).setCell ag _
  ·have e:l.take k=l:=List.take_of_length_le (by have:=HL.out;omega);have hki:¬(k:Int)<n:=af;have E:Hid (oH l=jh l):=aa (Vo (by have:=Qf.out;rwa [e] at this));rw[e] at V;have r0:=(V.out.at 1 rfl).aL;have r1:=(V.out.at 1 rfl).fH;have t0:=(V.out.at 0 rfl).aL;have t1:=(V.out.at 0 rfl).fH;have r2:=(V.out.at 1 rfl).lM;have r3:=(V.out.at 1 rfl).mW;clear e;go_wp2_with fail
   refine bodyPost_ret (v:=wv (jh l)) (by simp[results,Tryz.results111,go_sem,r0,r1]) rfl ⟨by rw[E.out],?_⟩;exact(V.out.2.setCell ag _).setCell ag _
end Go.Proofs.YtnmbfjgcmfjdcaaGreatDoor

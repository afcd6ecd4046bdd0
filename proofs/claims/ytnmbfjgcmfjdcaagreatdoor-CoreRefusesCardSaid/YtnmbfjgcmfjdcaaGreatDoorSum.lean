import Derived.Test.YtnmbfjgcmfjdcaaGreatDoorCoreRefusesZ18
import Derived.Test.YtnmbfjgcmfjdcaaGreatDoorCoreRefusesZ10
import Derived.Deep.RegionWith
import Derived.Deep.AppendLies
import Derived.OwnWalk
namespace Go.Proofs.YtnmbfjgcmfjdcaaGreatDoor
open Go.RowKit
def aaG (ps:List (Int×Int)) (h l:Int) (ok:Bool):Prop:=
 (ok=true∧(∀j,j≤ps.length→WR (pG (ps.take j)))∧dO h l (pG ps))∨(ok=false∧h=0∧l=0∧∃j,j≤ps.length∧¬WR (pG (ps.take j)))
def XZ (ps:List (Int×Int)) (w:World) (e:Ending) (w':World):Prop:=
 ∃(h l:Int) (ok:Bool),e= .returned (.tuple #[.agg #[.int .i64 h, .int .u64 l], .bool ok])∧aaG ps h l ok∧Below w w w'
set_option maxRecDepth 100000 in
set_option maxHeartbeats 4000000 in
theorem bK.sum (A:Option Addr) (n c:Nat) (ps:List (Int×Int)) (w:World) (hz:yx w A n ps) (hi:Nl ps) (hn:n≤100):
  Calls Tryz.prog 150 #[.slice A n c] w (XZ ps w):=by
 have HZ:=aa hz;have HL:=aa hz.1;have HI:=aa hi;clear hz hi;go_enter Tryz.func150,Tryz.ntmps150;go_wp2_with fail
 go_loopg [10] n (fun g i wr=>∃(k:Nat) (h l:Int),k≤n∧g=n-k∧i= .int .i64 k∧Hid (dO h l (pG (ps.take k))∧∀j,j≤k→WR (pG (ps.take j)))∧Vs w [(w.heap.size+1,[.int .i64 h, .int .u64 l]),(w,[.int .i64 0, .int .u64 0])] wr)
 case atStart=>
  refine⟨0,0,0,Nat.zero_le _,by omega,rfl,aa ⟨by simpa[pG] using Gq,fun j hj=> ?_⟩,Vs.more (Vs.more (Vs.nil (((Below.refl _ _).alloc ay _).alloc ag _)) ((Cs.cK _ _ _ _).alloc _)) (by have:=Cs.cK (w.alloc (.cells #[.int .i64 0, .int .u64 0] 42)) 42 (.int .i64 0) (.int .u64 0);simpa using this)⟩;obtain rfl:j=0:=af;exact Gq.wr
 case round=>
  obtain⟨k,h,l,hk,hg,rfl,hx,hV⟩:=hrel;have HG:=aa hg;have V:=aa hV;have s0:=(hV.at 0 rfl).aL;have s1:=(hV.at 0 rfl).fH;have s2:=(hV.at 0 rfl).lM;have s3:=(hV.at 0 rfl).mW;have sz:=(hV.at 0 rfl).lt;clear hg hV;by_cases hlt:k<n
  ·obtain⟨b,off,rfl,hbl,hc⟩:=(HZ.out.below V.out.2).2 k hlt;obtain⟨hc0,hc1⟩:=hc k hlt;have HS:=aa (NH ps (k:=k) (by have:=HL.out;omega));have HQ:=aa (HI.out.get (k:=k) (by have:=HL.out;omega));generalize ps.getD k (0,0)=z at *;obtain⟨z0,z1⟩:=z;dsimp only at hc0 hc1;clear hc;go_wp2_with fail
   refine(bK.add h l z0 z1 _ _ hx.out.1 HQ.out _).mono ?_;rintro e w2 ⟨h2,l2,rA,rfl,hr2,hb2⟩;rw[←HS.out] at hr2;have V2:=aa (Vs.below (V.out.alloc (.cells #[.int .i64 z0, .int .u64 z1] 42)) hb2);have R2:=aa hr2;clear hb2 hr2 s0 s1 s2 s3 sz V hc0 hc1;have s0:=(V2.out.at 0 rfl).aL;have s1:=(V2.out.at 0 rfl).fH;have s2:=(V2.out.at 0 rfl).lM;have s3:=(V2.out.at 0 rfl).mW;have r0:=(V2.out.at 1 rfl).aL;have r1:=(V2.out.at 1 rfl).fH;have r2:=(V2.out.at 1 rfl).lM;have r3:=(V2.out.at 1 rfl).mW;rcases R2.out with⟨rfl,g1,g2⟩|⟨rfl,g1,rfl,rfl⟩
   ·have G1:=aa g1;have G2:=aa g2;clear g1 g2 R2;go_wp2_with fail
    go_roundg (n-(k+1))
    case measure=>have:=HG.out;omega
    case rel=>
     refine⟨k+1,h2,l2,by omega,rfl,by go_num,aa ⟨G2.out,fun j hj=> ?_⟩,?_⟩
     ·rcases Nat.lt_or_ge k j with hjk|hjk
      ·obtain rfl:j=k+1:=af;exact G1.out
      ·exact hx.out.2 j hjk
     ·exact Vs.more (Vs.more (Vs.nil ((V2.out.2.setCell ag _).setCell ag _)) (((V2.out.at 1 rfl).far af _ _).far af _ _)) ((V2.out.at 0 rfl).kN _ _)
   ·have G1:=aa g1;clear g1 R2;go_wp2_with fail
    refine bodyPost_ret (v:= .tuple #[.agg #[.int .i64 0, .int .u64 0], .bool false]) (by simp[results,Tryz.results150,go_sem,r0,r1]) rfl ⟨_,_,_,rfl, .inr ⟨rfl,rfl,rfl,k+1,by have:=HL.out;omega,G1.out⟩,?_⟩;refine Below.setCell ?_ ag _;refine Below.setCell ?_ ag _;refine Below.setCell ?_ ag _;exact V2.out.2.setCell ag _
  ·have e:ps.take k=ps:=List.take_of_length_le (by have:=HL.out;omega);have r0:=(V.out.at 1 rfl).aL;have r1:=(V.out.at 1 rfl).fH;have r2:=(V.out.at 1 rfl).lM;have r3:=(V.out.at 1 rfl).mW;have hx2:=hx.out;rw[e] at hx2;have HX:=aa hx2;have KN:=aa (show ps.length≤k by have:=HL.out;omega);clear e hx hx2;go_wp2_with fail
   refine bodyPost_ret (v:= .tuple #[.agg #[.int .i64 h, .int .u64 l], .bool true]) (by simp[results,Tryz.results150,go_sem,r0,r1]) rfl ⟨_,_,_,rfl, .inl ⟨rfl,fun j hj=>HX.out.2 j (by have:=KN.out;omega),HX.out.1⟩,?_⟩;exact(V.out.2.setCell ag _).setCell ag _
end Go.Proofs.YtnmbfjgcmfjdcaaGreatDoor

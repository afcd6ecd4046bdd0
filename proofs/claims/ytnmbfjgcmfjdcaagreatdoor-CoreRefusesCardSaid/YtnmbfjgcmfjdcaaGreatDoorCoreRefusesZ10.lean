/- Texts of CoreRefuses's proof, together. -/
import Derived.Test.YtnmbfjgcmfjdcaaGreatDoorCoreRefusesZ9
import Derived.Test.YtnmbfjgcmfjdcaaGreatDoorCs
namespace Go.Proofs.YtnmbfjgcmfjdcaaGreatDoor

section
open Go.RowKit
def Two (w0:World) (N:Nat) (vs:List Value) (M:Nat) (us:List Value) (w:World):Prop:=Cs w N vs∧Cs w M us∧Below w0.heap.size w0 w
theorem Two.below {w0 w w':World} {N M:Nat} {vs us:List Value} (h:Two w0 N vs M us w) (hb:Below w w w'):Two w0 N vs M us w':=⟨h.1.below hb,h.2.1.below hb,ai h.2.2 hb⟩
theorem Two.alloc {w0 w:World} {N M:Nat} {vs us:List Value} (h:Two w0 N vs M us w) (o:Obj):Two w0 N vs M us (w.alloc o):=h.below ((Below.refl _ _).alloc ay o)
theorem Two.drew {w0 w:World} {N M:Nat} {vs us:List Value} (h:Two w0 N vs M us w):Two w0 N vs M us w.drew:=⟨h.1,h.2.1,h.2.2.drew⟩
theorem Two.far {w0 w:World} {N M:Nat} {vs us:List Value} (h:Two w0 N vs M us w) {g:Nat} (hN:g≠N) (hM:g≠M) (hg:w0.heap.size≤g) (o:Nat) (u:Value):Two w0 N vs M us (w.setCell ⟨g,o,none⟩ u):=
 ⟨h.1.far hN _ _,h.2.1.far hM _ _,h.2.2.setCell hg _⟩
theorem Two.see {w0 w:World} {N M:Nat} {a b c:Value} {us:List Value} (h:Two w0 N [a,b,c] M us w):
  (w.cell? N=some a∧w.cell? ⟨N,1,none⟩=some b∧w.cell? ⟨N,2,none⟩=some c)∧Two w0 N [a,b,c] M us w:=⟨⟨h.1.aL,h.1.fH,h.1.at2⟩,h⟩
def mh (w0:World) (N:Nat) (vs:List Value) (M:Nat) (us:List Value) (g:Nat) (xs:List Value) (w:World):Prop:=Two w0 N vs M us w∧Cs w g xs
theorem mh.below {w0 w w':World} {N M g:Nat} {vs us xs:List Value} (h:mh w0 N vs M us g xs w) (hb:Below w w w'):mh w0 N vs M us g xs w':=⟨h.1.below hb,h.2.below hb⟩
theorem mh.alloc {w0 w:World} {N M g:Nat} {vs us xs:List Value} (h:mh w0 N vs M us g xs w) (o:Obj):mh w0 N vs M us g xs (w.alloc o):=h.below ((Below.refl _ _).alloc ay o)
theorem mh.drew {w0 w:World} {N M g:Nat} {vs us xs:List Value} (h:mh w0 N vs M us g xs w):mh w0 N vs M us g xs w.drew:=⟨h.1.drew,h.2⟩
theorem mh.far {w0 w:World} {N M g:Nat} {vs us xs:List Value} (h:mh w0 N vs M us g xs w) {k:Nat} (hN:k≠N) (hM:k≠M) (hG:k≠g) (hg:w0.heap.size≤k) (o:Nat) (u:Value):mh w0 N vs M us g xs (w.setCell ⟨k,o,none⟩ u):=
 ⟨h.1.far hN hM hg _ _,h.2.far hG _ _⟩
theorem mh.see {w0 w:World} {N M g:Nat} {a b c x y:Value} {us:List Value} (h:mh w0 N [a,b,c] M us g [x,y] w):
  (w.cell? ⟨N,1,none⟩=some b∧w.cell? g=some x∧w.cell? ⟨g,1,none⟩=some y)∧mh w0 N [a,b,c] M us g [x,y] w:=⟨⟨h.1.1.fH,h.2.aL,h.2.fH⟩,h⟩
def WV (n:Int) (w:World) (e:Ending) (w':World):Prop:=∃h l:Int,e= .returned (.agg #[.int .i64 h, .int .u64 l])∧dO h l n∧Below w.heap.size w w'
set_option maxRecDepth 100000 in
set_option maxHeartbeats 4000000 in
theorem Pos.distance (t r v base:Int) (r0:0≤r) (r1:r≤4294967295) (v0:0≤v) (v1:v≤4294967295) (w:World):
  Calls Tryz.prog 88 #[.agg #[.int .u64 t, .int .u32 r, .int .u32 v], .int .u64 base] w (WV (aH t base*v+r) w):=by
 obtain⟨d0,d1⟩:=og t base
 have m0: -9223372036854775808*4294967295≤aH t base*v:=by
  have: -9223372036854775808*v≤aH t base*v:=Int.mul_le_mul_of_nonneg_right d0 v0;omega
 have m1:aH t base*v≤9223372036854775807*4294967295:=by
  have:aH t base*v≤9223372036854775807*v:=Int.mul_le_mul_of_nonneg_right d1 v0;omega
 have DI:=aa m0;have Qe:=aa m1;clear m0 m1;have D0:=aa d0;have D1:=aa d1;have e1:wrap64 v=v:=by unfold wrap64;omega
 have e2:IntKind.i64.wrap v=v:=by rw[IntKind.wrap_i64];omega
 clear d0 d1;go_enter Tryz.func88,Tryz.ntmps88;go_wp2_with fail
 obtain⟨W0,hW⟩:∃W0,W0=(w.alloc (Obj.cells #[.int .u64 t, .int .u32 r, .int .u32 v] 55)).alloc (Obj.cells #[.int .i64 0, .int .u64 0] 42):=⟨_,rfl⟩;rw[←hW];have aW:Hid (Two w w.heap.size [.int .u64 t, .int .u32 r, .int .u32 v] (w.heap.size+1) [.int .i64 0, .int .u64 0] W0):=aa (by rw[hW];exact⟨(Cs.tO _ _ _ _ _).alloc _,by have:=Cs.cK (w.alloc (Obj.cells #[.int .u64 t, .int .u32 r, .int .u32 v] 55)) 42 (.int .i64 0) (.int .u64 0);simpa using this,((Below.refl _ _).alloc ay _).alloc ag _⟩);have hz:w.heap.size+1<W0.heap.size:=aW.out.2.1.lt;clear hW;go_cut [5,6] (fun p q wc=>∃(g:Nat) (h l:Int),p= .pointer (some ⟨g,0,none⟩)∧q= .bool true∧w.heap.size+1<g∧dO h l (aH t base*v)∧Cs wc g [.int .i64 h, .int .u64 l]∧Two w w.heap.size [.int .u64 t, .int .u32 r, .int .u32 v] (w.heap.size+1) [.int .i64 0, .int .u64 0] wc)
 case first=>
  go_region_held3 (fun w'=>(w'.cell? w=some (.int .u64 t)∧w'.cell? ⟨w,1,none⟩=some (.int .u32 r)∧w'.cell? ⟨w,2,none⟩=some (.int .u32 v))∧Two w w.heap.size [.int .u64 t, .int .u32 r, .int .u32 v] (w.heap.size+1) [.int .i64 0, .int .u64 0] w')
   (first|with_reducible exact aW.out.drew.see|((try dsimp only);refine Two.see ?_;repeat (first|with_reducible exact aW.out|with_reducible exact IW.out|with_reducible exact IX.out|with_reducible exact IY.out|with_reducible refine Two.drew ?_|with_reducible refine Two.alloc ?_ _|with_reducible refine Two.far ?_ af af af _ _)))
   (first
    |(go_at_call 127;refine(uW.since t base _).mono ?_;rintro e w2 ⟨rfl,hb2⟩;have IY:=aa ((And.right (by assumption:(_∧_∧_)∧Two w w.heap.size [.int .u64 t, .int .u32 r, .int .u32 v] (w.heap.size+1) [.int .i64 0, .int .u64 0] _)).below hb2);(try(have F:=aa (Cs.below (by first|with_reducible exact F.out|with_reducible exact Cs.cK _ _ _ _|with_reducible exact Cs.drew (Cs.cK _ _ _ _)|with_reducible exact Cs.alloc F.out _) hb2);have F0:=F.out.aL;have F1:=F.out.fH;have F2:=F.out.lM;have F3:=F.out.mW;have F4:=F.out.lt));(have G:=IY.out.1.lt);(have G':=IY.out.2.1.lt))
    |(go_at_call 105;refine(bK.Ti (aH t base) D0.out D1.out _).mono ?_;rintro e w3 ⟨h3,l3,rfl,hw3,hb3⟩;have IX:=aa ((And.right (by assumption:(_∧_∧_)∧Two w w.heap.size [.int .u64 t, .int .u32 r, .int .u32 v] (w.heap.size+1) [.int .i64 0, .int .u64 0] _)).below hb3);have HW3:=aa hw3;clear hw3;(try(have F:=aa (Cs.below (by first|with_reducible exact F.out|with_reducible exact Cs.cK _ _ _ _|with_reducible exact Cs.drew (Cs.cK _ _ _ _)|with_reducible exact Cs.alloc F.out _) hb3);have F0:=F.out.aL;have F1:=F.out.fH;have F2:=F.out.lM;have F3:=F.out.mW;have F4:=F.out.lt));(have G:=IX.out.1.lt);(have G':=IX.out.2.1.lt))
    |(go_at_call 87;refine(bK.mul h3 l3 v (aH t base) HW3.out af af _).mono ?_;rintro e w4 ⟨h4,l4,ok4,rfl,hr4,hb4⟩;have IW:=aa ((And.right (by assumption:(_∧_∧_)∧Two w w.heap.size [.int .u64 t, .int .u32 r, .int .u32 v] (w.heap.size+1) [.int .i64 0, .int .u64 0] _)).below hb4);obtain⟨rfl,hw4⟩:=sU hr4 (by unfold WR;exact⟨by have:=DI.out;omega,by have:=Qe.out;omega⟩);have JC:=aa hw4;clear hr4 hw4;(try(have F:=aa (Cs.below (by first|with_reducible exact F.out|with_reducible exact Cs.cK _ _ _ _|with_reducible exact Cs.drew (Cs.cK _ _ _ _)|with_reducible exact Cs.alloc F.out _) hb4);have F0:=F.out.aL;have F1:=F.out.fH;have F2:=F.out.lM;have F3:=F.out.mW;have F4:=F.out.lt));(have G:=IW.out.1.lt);(have G':=IW.out.2.1.lt)))
  all_goals
   go_wp2_with fail
   go_meet
   refine⟨_,h4,l4,rfl,rfl,?_,JC.out,?_,And.right (by assumption:(_∧_∧_)∧Two w w.heap.size [.int .u64 t, .int .u32 r, .int .u32 v] (w.heap.size+1) [.int .i64 0, .int .u64 0] _)⟩
   all_goals first
    |omega
    |with_reducible exact Cs.cK _ _ _ _
    |with_reducible exact Cs.kN F.out _ _
    |with_reducible exact Cs.kN (Cs.cK _ _ _ _) _ _
    |with_reducible exact Cs.kN (Cs.drew (Cs.cK _ _ _ _)) _ _
    |with_reducible exact Cs.kN (Cs.drew F.out) _ _
 case rest=>
  obtain⟨g,h,l,rfl,rfl,hg,hw,hcs,hT⟩:=hcut;have HW:=aa hw;have HT:=aa (show mh w w.heap.size [.int .u64 t, .int .u32 r, .int .u32 v] (w.heap.size+1) [.int .i64 0, .int .u64 0] g [.int .i64 h, .int .u64 l] _ from⟨hT,hcs⟩);have z1:=hT.1.lt;have z2:=hT.2.1.lt;have z3:=hcs.lt;clear hw hT hcs aW hz D0 D1 e1 e2;have e3:IntKind.u64.wrap r=r:=by rw[IntKind.wrap_u64];omega
  go_wp2_with fail
  go_cut [7] (fun p wc=>∃(k:Nat) (h5 l5:Int),p= .pointer (some ⟨k,0,none⟩)∧w.heap.size+1<k∧dO h5 l5 (aH t base*v+r)∧Cs wc k [.int .i64 h5, .int .u64 l5]∧Two w w.heap.size [.int .u64 t, .int .u32 r, .int .u32 v] (w.heap.size+1) [.int .i64 0, .int .u64 0] wc)
  case first=>
   go_region_held3 (fun w'=>(w'.cell? ⟨w,1,none⟩=some (.int .u32 r)∧w'.cell? g=some (.int .i64 h)∧w'.cell? ⟨g,1,none⟩=some (.int .u64 l))∧mh w w.heap.size [.int .u64 t, .int .u32 r, .int .u32 v] (w.heap.size+1) [.int .i64 0, .int .u64 0] g [.int .i64 h, .int .u64 l] w')
    (first|with_reducible exact HT.out.drew.see|((try dsimp only);refine mh.see ?_;repeat (first|with_reducible exact HT.out|with_reducible exact TF.out|with_reducible exact TG.out|with_reducible refine mh.drew ?_|with_reducible refine mh.alloc ?_ _|with_reducible refine mh.far ?_ af af af af _ _)))
    (first
     |(go_at_call 128;refine(bK.VZ r r0 af _).mono ?_;rintro e w5 ⟨rfl,OU,hb5⟩;have TG:=aa ((And.right (by assumption:(_∧_∧_)∧mh w w.heap.size [.int .u64 t, .int .u32 r, .int .u32 v] (w.heap.size+1) [.int .i64 0, .int .u64 0] g [.int .i64 h, .int .u64 l] _)).below hb5);have PY:=aa OU;clear OU;(try(have F:=aa (Cs.below (by first|with_reducible exact F.out|with_reducible exact Cs.cK _ _ _ _|with_reducible exact Cs.drew (Cs.cK _ _ _ _)|with_reducible exact Cs.alloc F.out _) hb5);have F0:=F.out.aL;have F1:=F.out.fH;have F2:=F.out.lM;have F3:=F.out.mW;have F4:=F.out.lt));(have G:=TG.out.1.1.lt);(have G'':=TG.out.2.lt);(have G':=TG.out.1.2.1.lt))
     |(go_at_call 89;refine(bK.add h l 0 r (aH t base*v) r HW.out PY.out _).mono ?_;rintro e w6 ⟨h6,l6,ok6,rfl,OW,hb6⟩;have TF:=aa ((And.right (by assumption:(_∧_∧_)∧mh w w.heap.size [.int .u64 t, .int .u32 r, .int .u32 v] (w.heap.size+1) [.int .i64 0, .int .u64 0] g [.int .i64 h, .int .u64 l] _)).below hb6);obtain⟨rfl,hw6⟩:=sU OW (by unfold WR;exact⟨by have:=DI.out;omega,by have:=Qe.out;omega⟩);have HW6:=aa hw6;clear OW hw6;(try(have F:=aa (Cs.below (by first|with_reducible exact F.out|with_reducible exact Cs.cK _ _ _ _|with_reducible exact Cs.drew (Cs.cK _ _ _ _)|with_reducible exact Cs.alloc F.out _) hb6);have F0:=F.out.aL;have F1:=F.out.fH;have F2:=F.out.lM;have F3:=F.out.mW;have F4:=F.out.lt));(have G:=TF.out.1.1.lt);(have G'':=TF.out.2.lt);(have G':=TF.out.1.2.1.lt)))
   all_goals
    go_wp2_with fail
    go_meet
    refine⟨_,h6,l6,rfl,?_,HW6.out,?_,(And.right (by assumption:(_∧_∧_)∧mh w w.heap.size [.int .u64 t, .int .u32 r, .int .u32 v] (w.heap.size+1) [.int .i64 0, .int .u64 0] g [.int .i64 h, .int .u64 l] _)).1⟩
    all_goals first
     |omega
     |with_reducible exact Cs.cK _ _ _ _
     |with_reducible exact Cs.kN F.out _ _
     |with_reducible exact Cs.kN (Cs.cK _ _ _ _) _ _
     |with_reducible exact Cs.kN (Cs.drew (Cs.cK _ _ _ _)) _ _
     |with_reducible exact Cs.kN (Cs.drew F.out) _ _
  case rest=>
   obtain⟨k,h5,l5,rfl,hk,hw,hcs,hT⟩:=hcut;have HF:=aa hT;have PY:=aa hw;have x0:=hcs.aL;have x1:=hcs.fH;have y0:=hT.2.1.aL;have y1:=hT.2.1.fH;have y2:=hT.2.1.lM;have y3:=hT.2.1.mW;clear hcs hT hw;go_wp2_with fail
   refine bodyPost_ret (v:= .agg #[.int .i64 h5, .int .u64 l5]) (by simp[results,Tryz.results88,go_sem,y0,y1]) rfl ⟨h5,l5,rfl,PY.out,?_⟩;exact(HF.out.2.2.setCell ag _).setCell ag _
end


section
open Go.RowKit
set_option maxRecDepth 100000
set_option maxHeartbeats 32000000
theorem Pos.PN (base h l d v:Int) (hw:dO h l d) (ok:BF d v) (w:World):
  Calls Tryz.prog 69 #[.int .u64 base, .agg #[.int .i64 h, .int .u64 l], .int .u32 v] w fun e w'=>
   e= .returned (.tuple #[.agg #[.int .u64 (il base (d/v)), .int .u32 (d%v), .int .u32 v], .bool true])∧Below w w w':=by
 obtain⟨v0,v1,q0,q1⟩:=ok;have e1:IntKind.u64.wrap v=v:=by rw[IntKind.wrap_u64];omega
 have ew:decide (1≤v∧v≤1048576)=true:=by rw[decide_eq_true_eq];exact⟨v0,v1⟩
 have Q0:=aa q0;have Q1:=aa q1;have HW:=aa hw;have EW:=aa ew;clear q0 q1 hw ew;go_enter Tryz.func69,Tryz.ntmps69;go_wp2_with fail
 refine(Pos.weight v _).mono ?_;rintro e w1 ⟨rfl,hb1⟩;rw[EW.out];have HT1:Hid (Two w w.heap.size [.int .i64 h, .int .u64 l] (w.heap.size+1) [.int .u64 0, .int .u32 0, .int .u32 0] w1):=aa (Two.below ⟨(Cs.cK _ _ _ _).alloc _,by have:=Cs.tO (w.alloc (Obj.cells #[.int .i64 h, .int .u64 l] 42)) 55 (.int .u64 0) (.int .u32 0) (.int .u32 0);simpa using this,((Below.refl _ _).alloc ay _).alloc ag _⟩ hb1);have x0:=HT1.out.1.aL;have x1:=HT1.out.1.fH;clear hb1;go_wp2_with fail
 refine(bK.div h l d v HW.out af af _).mono ?_;rintro e w2 ⟨hq,lq,q,r,rfl,⟨hq1,hq2,r0,r1⟩,hb2⟩;obtain⟨rfl,rfl⟩:=Bq hq2 r0 r1;have HQ:=aa hq1;have HT2:=aa (HT1.out.below hb2);have e2:IntKind.u32.wrap (d%v)=d%v:=by rw[IntKind.wrap_u32];omega
 clear hq1 hq2 hb2 x0 x1;go_wp2_with fail
 refine(bK.small hq lq (d/v) HQ.out Q0.out Q1.out _).mono ?_;rintro e w3 ⟨rfl,hb3⟩;have HT3:=aa (HT2.out.below (((Below.refl _ _).alloc ay (.cells #[.int .i64 hq, .int .u64 lq] 42)).trans (hb3.mono ag)));clear hb3;go_wp2_with fail
 refine(uW.add base (d/v) _).mono ?_;rintro e w4 ⟨rfl,hb4⟩;have uZ:=aa (HT3.out.below hb4);have y0:=uZ.out.2.1.aL;have y1:=uZ.out.2.1.fH;have y2:=uZ.out.2.1.at2;have y3:=uZ.out.2.1.lM;have y4:=uZ.out.2.1.mW;have y5:=uZ.out.2.1.TH;clear hb4;go_wp2_with fail
 refine bodyPost_ret (v:= .tuple #[.agg #[.int .u64 (il base (d/v)), .int .u32 (d%v), .int .u32 v], .bool true]) (by simp[results,Tryz.results69,go_sem,y0,y1,y2]) rfl ⟨rfl,?_⟩;exact((uZ.out.2.2.setCell ag _).setCell ag _).setCell ag _
theorem cRU {P:Prop} (h:P:=by
 go_wp2_with fail
 refine bodyPost_ret (v:= .tuple #[.agg #[.int .u64 0, .int .u32 0, .int .u32 0], .bool false]) (by simp[results,Tryz.results69,go_sem,y0,y1,y2]) rfl ⟨rfl,?_⟩;exact((HT3.out.2.2.setCell ag _).setCell ag _).setCell ag _):P:=h
theorem Pos.TP (base h l d v:Int) (hw:dO h l d) (v0:0≤v) (v1:v≤4294967295) (no:¬BF d v) (w:World):
  Calls Tryz.prog 69 #[.int .u64 base, .agg #[.int .i64 h, .int .u64 l], .int .u32 v] w fun e w'=>
   e= .returned (.tuple #[.agg #[.int .u64 0, .int .u32 0, .int .u32 0], .bool false])∧Below w w w':=by
 by_cases c:1≤v∧v≤1048576
 ·have e1:IntKind.u64.wrap v=v:=by rw[IntKind.wrap_u64];omega
  have ew:decide (1≤v∧v≤1048576)=true:=by rw[decide_eq_true_eq];exact c
  have q0:d/v< -9223372036854775808∨9223372036854775807<d/v:=by unfold BF at no;omega
  have c0:0<v:=c.1;have Q0:=aa q0;have HW:=aa hw;have EW:=aa ew;clear q0 hw ew no c;go_enter Tryz.func69,Tryz.ntmps69;go_wp2_with fail
  refine(Pos.weight v _).mono ?_;rintro e w1 ⟨rfl,hb1⟩;rw[EW.out];have HT1:Hid (Two w w.heap.size [.int .i64 h, .int .u64 l] (w.heap.size+1) [.int .u64 0, .int .u32 0, .int .u32 0] w1):=aa (Two.below ⟨(Cs.cK _ _ _ _).alloc _,by have:=Cs.tO (w.alloc (Obj.cells #[.int .i64 h, .int .u64 l] 42)) 55 (.int .u64 0) (.int .u32 0) (.int .u32 0);simpa using this,((Below.refl _ _).alloc ay _).alloc ag _⟩ hb1);have x0:=HT1.out.1.aL;have x1:=HT1.out.1.fH;clear hb1;go_wp2_with fail
  refine(bK.div h l d v HW.out c0 af _).mono ?_;rintro e w2 ⟨hq,lq,q,r,rfl,⟨hq1,hq2,r0,r1⟩,hb2⟩;obtain⟨rfl,rfl⟩:=Bq hq2 r0 r1;have HQ:=aa hq1;have HT2:=aa (HT1.out.below hb2);clear hq1 hq2 hb2 x0 x1;go_wp2_with fail
  refine(bK.Ha hq lq (d/v) HQ.out Q0.out _).mono ?_;rintro e w3 ⟨rfl,hb3⟩;have HT3:=aa (HT2.out.below (((Below.refl _ _).alloc ay (.cells #[.int .i64 hq, .int .u64 lq] 42)).trans (hb3.mono ag)));have y0:=HT3.out.2.1.aL;have y1:=HT3.out.2.1.fH;have y2:=HT3.out.2.1.at2;have y3:=HT3.out.2.1.lM;have y4:=HT3.out.2.1.mW;have y5:=HT3.out.2.1.TH;clear hb3;exact cRU
 ·have ew:decide (1≤v∧v≤1048576)=false:=by rw[decide_eq_false_iff_not];exact c
  have EW:=aa ew;clear ew no c;go_enter Tryz.func69,Tryz.ntmps69;go_wp2_with fail
  refine(Pos.weight v _).mono ?_;rintro e w1 ⟨rfl,hb1⟩;rw[EW.out];have HT3:Hid (Two w w.heap.size [.int .i64 h, .int .u64 l] (w.heap.size+1) [.int .u64 0, .int .u32 0, .int .u32 0] w1):=aa (Two.below ⟨(Cs.cK _ _ _ _).alloc _,by have:=Cs.tO (w.alloc (Obj.cells #[.int .i64 h, .int .u64 l] 42)) 55 (.int .u64 0) (.int .u32 0) (.int .u32 0);simpa using this,((Below.refl _ _).alloc ay _).alloc ag _⟩ hb1);have y0:=HT3.out.2.1.aL;have y1:=HT3.out.2.1.fH;have y2:=HT3.out.2.1.at2;have y3:=HT3.out.2.1.lM;have y4:=HT3.out.2.1.mW;have y5:=HT3.out.2.1.TH;clear hb1;exact cRU
theorem Pos.KT (t r v a:Int) (r0:0≤r) (r1:r≤4294967295) (a0:0≤a) (a1:a≤18446744073709551615) (T R V:Int) (b:Bool) (w:World)
  (hat:∀h l,dO h l (a+r)→∀w,Calls Tryz.prog 69 #[.int .u64 t, .agg #[.int .i64 h, .int .u64 l], .int .u32 v] w (aV (.tuple #[.agg #[.int .u64 T, .int .u32 R, .int .u32 V], .bool b]) w)):
  Calls Tryz.prog 112 #[.agg #[.int .u64 t, .int .u32 r, .int .u32 v], .int .u64 a] w (aV (.tuple #[.agg #[.int .u64 T, .int .u32 R, .int .u32 V], .bool b]) w):=by
 have e1:IntKind.u64.wrap r=r:=by rw[IntKind.wrap_u64];omega
 have hm:WR (a+r):=by unfold WR;omega
 have HM:=aa hm;have HA:=aa hat;have A0:=aa a0;have A1:=aa a1;have R0:=aa r0;have R1:=aa (show r≤18446744073709551615 by omega);clear hm hat a0 a1 r0 r1;go_enter Tryz.func112,Tryz.ntmps112;go_wp2_with fail
 obtain⟨W0,hW⟩:∃W0,W0=(w.alloc (Obj.cells #[.int .u64 t, .int .u32 r, .int .u32 v] 55)).alloc (Obj.cells #[.int .u64 0, .int .u32 0, .int .u32 0] 55):=⟨_,rfl⟩;rw[←hW];have aW:Hid (Two w w.heap.size [.int .u64 t, .int .u32 r, .int .u32 v] (w.heap.size+1) [.int .u64 0, .int .u32 0, .int .u32 0] W0):=aa (by rw[hW];exact⟨(Cs.tO _ _ _ _ _).alloc _,by have:=Cs.tO (w.alloc (Obj.cells #[.int .u64 t, .int .u32 r, .int .u32 v] 55)) 55 (.int .u64 0) (.int .u32 0) (.int .u32 0);simpa using this,((Below.refl _ _).alloc ay _).alloc ag _⟩);have hz:w.heap.size+1<W0.heap.size:=aW.out.2.1.lt;clear hW;go_cut [6] (fun p wc=>∃(g:Nat) (h l:Int),p= .pointer (some ⟨g,0,none⟩)∧w.heap.size+1<g∧dO h l (a+r)∧Cs wc g [.int .i64 h, .int .u64 l]∧Two w w.heap.size [.int .u64 t, .int .u32 r, .int .u32 v] (w.heap.size+1) [.int .u64 0, .int .u32 0, .int .u32 0] wc)
 case first=>
  go_region_held3 (fun w'=>(w'.cell? w=some (.int .u64 t)∧w'.cell? ⟨w,1,none⟩=some (.int .u32 r)∧w'.cell? ⟨w,2,none⟩=some (.int .u32 v))∧Two w w.heap.size [.int .u64 t, .int .u32 r, .int .u32 v] (w.heap.size+1) [.int .u64 0, .int .u32 0, .int .u32 0] w')
   (first|with_reducible exact aW.out.drew.see|((try dsimp only);refine Two.see ?_;repeat (first|with_reducible exact aW.out|with_reducible exact IW.out|with_reducible exact IX.out|with_reducible exact IY.out|with_reducible refine Two.drew ?_|with_reducible refine Two.alloc ?_ _|with_reducible refine Two.far ?_ af af af _ _)))
   (first
    |(go_at_call_of 128 (Value.int .u64 a);refine(bK.VZ a A0.out A1.out _).mono ?_;rintro e w2 ⟨rfl,hw2,hb2⟩;have IY:=aa ((And.right (by assumption:(_∧_∧_)∧Two w w.heap.size [.int .u64 t, .int .u32 r, .int .u32 v] (w.heap.size+1) [.int .u64 0, .int .u32 0, .int .u32 0] _)).below hb2);have HW2:=aa hw2;clear hw2;(try(have F:=aa (Cs.below (by first|with_reducible exact F.out|with_reducible exact Cs.cK _ _ _ _|with_reducible exact Cs.drew (Cs.cK _ _ _ _)|with_reducible exact Cs.alloc F.out _) hb2);have F0:=F.out.aL;have F1:=F.out.fH;have F2:=F.out.lM;have F3:=F.out.mW;have F4:=F.out.lt));(have G:=IY.out.1.lt);(have G':=IY.out.2.1.lt))
    |(go_at_call_of 128 (Value.int .u64 r);refine(bK.VZ r R0.out R1.out _).mono ?_;rintro e w3 ⟨rfl,hw3,hb3⟩;have IX:=aa ((And.right (by assumption:(_∧_∧_)∧Two w w.heap.size [.int .u64 t, .int .u32 r, .int .u32 v] (w.heap.size+1) [.int .u64 0, .int .u32 0, .int .u32 0] _)).below hb3);have HW3:=aa hw3;clear hw3;(try(have F:=aa (Cs.below (by first|with_reducible exact F.out|with_reducible exact Cs.cK _ _ _ _|with_reducible exact Cs.drew (Cs.cK _ _ _ _)|with_reducible exact Cs.alloc F.out _) hb3);have F0:=F.out.aL;have F1:=F.out.fH;have F2:=F.out.lM;have F3:=F.out.mW;have F4:=F.out.lt));(have G:=IX.out.1.lt);(have G':=IX.out.2.1.lt))
    |(go_at_call 89;refine(bK.add 0 a 0 r a r HW2.out HW3.out _).mono ?_;rintro e w4 ⟨h4,l4,ok4,rfl,hr4,hb4⟩;have IW:=aa ((And.right (by assumption:(_∧_∧_)∧Two w w.heap.size [.int .u64 t, .int .u32 r, .int .u32 v] (w.heap.size+1) [.int .u64 0, .int .u32 0, .int .u32 0] _)).below hb4);obtain⟨rfl,hw4⟩:=sU hr4 HM.out;have JC:=aa hw4;clear hr4 hw4;(try(have F:=aa (Cs.below (by first|with_reducible exact F.out|with_reducible exact Cs.cK _ _ _ _|with_reducible exact Cs.drew (Cs.cK _ _ _ _)|with_reducible exact Cs.alloc F.out _) hb4);have F0:=F.out.aL;have F1:=F.out.fH;have F2:=F.out.lM;have F3:=F.out.mW;have F4:=F.out.lt));(have G:=IW.out.1.lt);(have G':=IW.out.2.1.lt)))
  all_goals
   go_wp2_with fail
   go_meet
   refine⟨_,h4,l4,rfl,?_,JC.out,?_,And.right (by assumption:(_∧_∧_)∧Two w w.heap.size [.int .u64 t, .int .u32 r, .int .u32 v] (w.heap.size+1) [.int .u64 0, .int .u32 0, .int .u32 0] _)⟩
   all_goals first
    |omega
    |with_reducible exact Cs.cK _ _ _ _
    |with_reducible exact Cs.kN F.out _ _
    |with_reducible exact Cs.kN (Cs.cK _ _ _ _) _ _
    |with_reducible exact Cs.kN (Cs.drew (Cs.cK _ _ _ _)) _ _
    |with_reducible exact Cs.kN (Cs.drew F.out) _ _
 case rest=>
  obtain⟨g,h,l,rfl,hg,hw,hcs,hT⟩:=hcut;have HW:=aa hw;have HT:=aa hT;have z1:=hT.1.lt;have z2:=hT.2.1.lt;have z3:=hcs.lt;have x0:=hT.1.aL;have x2:=hT.1.at2;have g0:=hcs.aL;have g1:=hcs.fH;clear hw hT hcs aW hz e1;go_wp2_with fail
  refine(HA.out h l HW.out _).mono ?_;rintro e w5 ⟨rfl,hb5⟩;have wT:=aa (HT.out.below hb5);have y0:=wT.out.2.1.aL;have y1:=wT.out.2.1.fH;have y2:=wT.out.2.1.at2;have y3:=wT.out.2.1.lM;have y4:=wT.out.2.1.mW;have y5:=wT.out.2.1.TH;clear hb5 x0 x2 g0 g1 z1 z2 z3;go_wp2_with fail
  refine bodyPost_ret (v:= .tuple #[.agg #[.int .u64 T, .int .u32 R, .int .u32 V], .bool b]) (by simp[results,Tryz.results112,go_sem,y0,y1,y2]) rfl ⟨rfl,?_⟩;exact((wT.out.2.2.setCell ag _).setCell ag _).setCell ag _
theorem Pos.Rl (t r v a:Int) (r0:0≤r) (r1:r≤4294967295) (a0:0≤a) (a1:a≤18446744073709551615) (ok:BF (a+r) v) (w:World):
  Calls Tryz.prog 112 #[.agg #[.int .u64 t, .int .u32 r, .int .u32 v], .int .u64 a] w (aV (.tuple #[.agg #[.int .u64 (il t ((a+r)/v)), .int .u32 ((a+r)%v), .int .u32 v], .bool true]) w):=
 Pos.KT t r v a r0 r1 a0 a1 _ _ _ _ w fun h l hw w=>Pos.PN t h l (a+r) v hw ok w
theorem Pos.UY (t r v a:Int) (r0:0≤r) (r1:r≤4294967295) (v0:0≤v) (v1:v≤4294967295) (a0:0≤a) (a1:a≤18446744073709551615) (no:¬BF (a+r) v) (w:World):
  Calls Tryz.prog 112 #[.agg #[.int .u64 t, .int .u32 r, .int .u32 v], .int .u64 a] w (aV (.tuple #[.agg #[.int .u64 0, .int .u32 0, .int .u32 0], .bool false]) w):=
 Pos.KT t r v a r0 r1 a0 a1 _ _ _ _ w fun h l hw w=>Pos.TP t h l (a+r) v hw v0 v1 no w
end


section
open Go.RowKit
set_option maxHeartbeats 1000000 in
theorem Pos.shift (t r v by':Int) (w:World):
  Calls Tryz.prog 203 #[.agg #[.int .u64 t, .int .u32 r, .int .u32 v], .int .u64 by'] w (aV (.agg #[.int .u64 (IntKind.u64.wrap (t+by')), .int .u32 r, .int .u32 v]) w):=by
 go_enter Tryz.func203,Tryz.ntmps203;go_wp2_with fail
 refine bodyPost_ret (v:= .agg #[.int .u64 (IntKind.u64.wrap (t+by')), .int .u32 r, .int .u32 v]) (by simp[results,Tryz.results203,go_sem]) rfl ⟨rfl,?_⟩;exact((Below.refl _ _).alloc ay _).alloc ag _
set_option maxHeartbeats 1000000 in
theorem oq.zT (x:Int) (w:World):Calls Tryz.prog 189 #[.int .i64 x] w (aV (.bool false) w):=by
 go_enter Tryz.func189,Tryz.ntmps189;go_wp2
 go_ret;exact⟨by simp,Below.refl _ _⟩
set_option maxHeartbeats 1000000 in
theorem oq.vX (x:Int) (w:World):Calls Tryz.prog 190 #[.int .u64 x] w (aV (.bool false) w):=by
 go_enter Tryz.func190,Tryz.ntmps190;go_wp2
 go_ret;exact⟨by simp,Below.refl _ _⟩
theorem cTw {P:Prop} (h:P:=by
 rintro e w2 ⟨rfl,hb2⟩;go_wp2_with fail
 go_ret;exact⟨by rw[E.out];rfl,ai hb1 hb2⟩):P:=h
set_option maxHeartbeats 1000000 in
theorem oq.i64 (x y:Int) (w:World):Calls Tryz.prog 180 #[.int .i64 x, .int .i64 y] w (aV (.int .i64 (fK x y)) w):=by
 rcases Int.lt_trichotomy x y with h|h|h
 ·have E:=aa (Lj h);go_enter Tryz.func180,Tryz.ntmps180;go_wp2_with fail
  refine(oq.zT x _).mono ?_;rintro e w1 ⟨rfl,hb1⟩;go_wp2_with fail
  refine(oq.zT y _).mono ?_;exact cTw
 ·subst h;have E:=aa (Lm x);go_enter Tryz.func180,Tryz.ntmps180;go_wp2_with fail
  refine(oq.zT x _).mono ?_;rintro e w1 ⟨rfl,hb1⟩;go_wp2_with fail
  refine(oq.zT x _).mono ?_;exact cTw
 ·have E:=aa (Ll h);have h2:¬x<y:=af;go_enter Tryz.func180,Tryz.ntmps180;go_wp2_with fail
  refine(oq.zT x _).mono ?_;rintro e w1 ⟨rfl,hb1⟩;go_wp2_with fail
  refine(oq.zT y _).mono ?_;exact cTw
set_option maxHeartbeats 1000000 in
theorem oq.u64 (x y:Int) (w:World):Calls Tryz.prog 181 #[.int .u64 x, .int .u64 y] w (aV (.int .i64 (fK x y)) w):=by
 rcases Int.lt_trichotomy x y with h|h|h
 ·have E:=aa (Lj h);go_enter Tryz.func181,Tryz.ntmps181;go_wp2_with fail
  refine(oq.vX x _).mono ?_;rintro e w1 ⟨rfl,hb1⟩;go_wp2_with fail
  refine(oq.vX y _).mono ?_;exact cTw
 ·subst h;have E:=aa (Lm x);go_enter Tryz.func181,Tryz.ntmps181;go_wp2_with fail
  refine(oq.vX x _).mono ?_;rintro e w1 ⟨rfl,hb1⟩;go_wp2_with fail
  refine(oq.vX x _).mono ?_;exact cTw
 ·have E:=aa (Ll h);have h2:¬x<y:=af;go_enter Tryz.func181,Tryz.ntmps181;go_wp2_with fail
  refine(oq.vX x _).mono ?_;rintro e w1 ⟨rfl,hb1⟩;go_wp2_with fail
  refine(oq.vX y _).mono ?_;exact cTw
theorem Tm {a b:Int} (a0:0≤a) (a1:a≤4294967295) (b0:0≤b) (b1:b≤4294967295):IntKind.u64.wrap (a*b)=a*b:=by
 have h0:0≤a*b:=Int.mul_nonneg a0 b0;have h1:a*b≤4294967295*4294967295:=Int.mul_le_mul a1 b1 b0 ak;rw[IntKind.wrap_u64];omega
theorem LY {a:Int} (a0:0≤a) (a1:a≤4294967295):IntKind.u64.wrap a=a:=by rw[IntKind.wrap_u64];omega
theorem cTx {P:Prop} (h:P:=by
 rintro e w2 ⟨rfl,hb2⟩;go_wp2_with fail
 go_ret;exact⟨by rw[E.out];rfl,ai HB1.out hb2⟩):P:=h
set_option maxHeartbeats 2000000 in
theorem Pos.cmp (t r v u s y:Int) (r0:0≤r) (r1:r≤4294967295) (v0:0≤v) (v1:v≤4294967295) (s0:0≤s) (s1:s≤4294967295) (y0:0≤y) (y1:y≤4294967295) (w:World):
  Calls Tryz.prog 161 #[.agg #[.int .u64 t, .int .u32 r, .int .u32 v], .agg #[.int .u64 u, .int .u32 s, .int .u32 y]] w (aV (.int .i64 (mO t r v u s y)) w):=by
 have e1:=LY r0 r1;have e2:=LY v0 v1;have e3:=LY s0 s1;have e4:=LY y0 y1;have e5:=Tm r0 r1 y0 y1;have e6:=Tm s0 s1 v0 v1;clear r0 r1 v0 v1 s0 s1 y0 y1;have E:Hid (mO t r v u s y=if aH u t≠0 then fK 0 (aH u t) else fK (r*y) (s*v)):=rfl;by_cases c:aH u t=0
 ·have c1:(aH u t != 0)=false:=by rw[c];rfl
  rw[if_neg af] at E;clear c;go_enter Tryz.func161,Tryz.ntmps161;go_wp2_with fail
  refine(uW.since u t _).mono ?_;rintro e w1 ⟨rfl,hb1⟩;have HB1:=aa ((((Below.refl _ w).alloc ay (.cells #[.int .u64 t, .int .u32 r, .int .u32 v] 55)).alloc ag (.cells #[.int .u64 u, .int .u32 s, .int .u32 y] 55)).trans (hb1.mono (by simp;omega)));have hc:=Zh (w:=(w.alloc (.cells #[.int .u64 t, .int .u32 r, .int .u32 v] 55)).alloc (.cells #[.int .u64 u, .int .u32 s, .int .u32 y] 55)) (b0:=w.heap.size) (o0:=1) (v0:= .int .u32 r) (b1:=w.heap.size) (o1:=2) (v1:= .int .u32 v) (b2:=w.heap.size+1) (o2:=1) (v2:= .int .u32 s) (b3:=w.heap.size+1) (o3:=2) (v3:= .int .u32 y) ⟨by simp[go_sem],by simp[go_sem],by simp[go_sem],by simp[go_sem]⟩ hb1;obtain⟨x1,x2,x3,x4⟩:=hc;clear hb1;go_wp2_with fail
  refine(oq.u64 (r*y) (s*v) _).mono ?_;exact cTx
 ·have c1:(aH u t != 0)=true:=by simpa using c
  rw[if_pos c] at E;clear c e1 e2 e3 e4 e5 e6;go_enter Tryz.func161,Tryz.ntmps161;go_wp2_with fail
  refine(uW.since u t _).mono ?_;rintro e w1 ⟨rfl,hb1⟩;have HB1:=aa ((((Below.refl _ w).alloc ay (.cells #[.int .u64 t, .int .u32 r, .int .u32 v] 55)).alloc ag (.cells #[.int .u64 u, .int .u32 s, .int .u32 y] 55)).trans (hb1.mono (by simp;omega)));clear hb1;go_wp2_with fail
  refine(oq.i64 0 (aH u t) _).mono ?_;exact cTx
def PR (w:World) (A:Option Addr) (n:Nat) (ps:List (Int×Int×Int)):Prop:=
 ps.length=n∧∀i,i<n→∃b off,A=some ⟨b,off,none⟩∧b<w.heap.size∧∀j,j<n→w.cell? ⟨b,off+j*3,none⟩=some (.int .u64 (ps.getD j (0,0,0)).1)∧w.cell? ⟨b,off+j*3+1,none⟩=some (.int .u32 (ps.getD j (0,0,0)).2.1)∧w.cell? ⟨b,off+j*3+2,none⟩=some (.int .u32 (ps.getD j (0,0,0)).2.2)
theorem PR.below {w w':World} {A:Option Addr} {n:Nat} {ps:List (Int×Int×Int)} (h:PR w A n ps) (hb:Below w w w'):PR w' A n ps:=
 ⟨h.1,fun i hi=>by
   obtain⟨b,off,e,hl,hc⟩:=h.2 i hi;exact⟨b,off,e,Nat.lt_of_lt_of_le hl hb.size,fun j hj=>⟨aS hb (hc j hj).1,aS hb (hc j hj).2.1,aS hb (hc j hj).2.2⟩⟩⟩
def oW (base:Int):List (Int×Int×Int)→Int
 |[]=>0
 |p::ps=>ps.foldl (fun m q=>min m (aH q.1 base)) (aH p.1 base)
def kT (base:Int):List (Int×Int×Int)→Int
 |[]=>0
 |p::ps=>ps.foldl (fun m q=>max m (aH q.1 base)) (aH p.1 base)
theorem Ro (base:Int) (ps:List (Int×Int×Int)) {k:Nat} (hk:k<ps.length):oW base (ps.take (k+1))=if k=0 then aH (ps.getD k (0,0,0)).1 base else min (oW base (ps.take k)) (aH (ps.getD k (0,0,0)).1 base):=by
 have e:ps.getD k (0,0,0)=ps[k]:=by simp[List.getD,hk]
 rw[e];cases ps with
 |nil=>simp at hk
 |cons p ps=>
  rcases k with _|k
  ·simp[oW]
  ·rw[if_neg af];have hk':k<ps.length:=by simpa using hk
   simp only[List.take_succ_cons,oW,List.getElem_cons_succ];rw[List.take_succ_eq_append_getElem hk',List.foldl_append];rfl
theorem RV (base:Int) (ps:List (Int×Int×Int)) {k:Nat} (hk:k<ps.length):kT base (ps.take (k+1))=if k=0 then aH (ps.getD k (0,0,0)).1 base else max (kT base (ps.take k)) (aH (ps.getD k (0,0,0)).1 base):=by
 have e:ps.getD k (0,0,0)=ps[k]:=by simp[List.getD,hk]
 rw[e];cases ps with
 |nil=>simp at hk
 |cons p ps=>
  rcases k with _|k
  ·simp[kT]
  ·rw[if_neg af];have hk':k<ps.length:=by simpa using hk
   simp only[List.take_succ_cons,kT,List.getElem_cons_succ];rw[List.take_succ_eq_append_getElem hk',List.foldl_append];rfl
set_option maxHeartbeats 2000000 in
theorem Pos.O8 (base:Int) (A:Option Addr) (n c:Nat) (ps:List (Int×Int×Int)) (w:World) (hz:PR w A n ps) (hn:n≤1152921504606846976):
  Calls Tryz.prog 186 #[.int .u64 base, .slice A n c] w (aV (.tuple #[.int .i64 (oW base ps), .int .i64 (kT base ps)]) w):=by
 have HZ:=aa hz;have HL:=aa hz.1;clear hz;go_enter Tryz.func186,Tryz.ntmps186;go_wp2_with fail
 go_loopg [4,5,11] n (fun g a b i wr=>∃(k:Nat) (x y:Int),k≤n∧g=n-k∧i= .int .i64 k∧a= .int .i64 x∧b= .int .i64 y∧Hid (x=oW base (ps.take k)∧y=kT base (ps.take k))∧Below w w wr)
 case atStart=>exact⟨0,0,0,Nat.zero_le _,by omega,rfl,rfl,rfl,aa ⟨rfl,rfl⟩,Below.refl _ _⟩
 case round=>
  obtain⟨k,x,y,hk,hg,rfl,rfl,rfl,hx,hb⟩:=hrel;have HB:=aa hb;have HG:=aa hg;clear hb hg;by_cases hlt:k<n
  ·obtain⟨b,off,rfl,hbl,hc⟩:=(HZ.out.below HB.out).2 k hlt;obtain⟨hc0,hc1,hc2⟩:=hc k hlt;have HS:=aa (And.intro (Ro base ps (k:=k) (by have:=HL.out;omega)) (RV base ps (k:=k) (by have:=HL.out;omega)));generalize ps.getD k (0,0,0)=z at *;obtain⟨z0,z1,z2⟩:=z;dsimp only at hc0 hc1 hc2;clear hc;go_wp2_with fail
   refine(uW.since z0 base _).mono ?_;rintro e w2 ⟨rfl,hb2⟩;have HB2:=aa (ai (HB.out.alloc HB.out.size (.cells #[.int .u64 z0, .int .u32 z1, .int .u32 z2] 55)) hb2);clear hb2;by_cases c2:k=0
   ·subst c2;go_wp2_with fail
    go_roundg (n-1)
    case measure=>have:=HG.out;omega
    case rel=>exact⟨1,_,_,by omega,rfl,by go_num,rfl,rfl,aa ⟨by rw[HS.out.1,if_pos trivial],by rw[HS.out.2,if_pos trivial]⟩,HB2.out⟩
   ·have c3:((k:Int) == 0)=false:=by rw[beq_eq_false_iff_ne];omega
    go_wp2_with fail
    go_roundg (n-(k+1))
    case measure=>have:=HG.out;omega
    case rel=>exact⟨k+1,_,_,by omega,rfl,by go_num,rfl,rfl,aa ⟨by rw[HS.out.1,if_neg c2,←hx.out.1],by rw[HS.out.2,if_neg c2,←hx.out.2]⟩,HB2.out⟩
  ·go_wp2_with fail
   go_ret2;have e:ps.take k=ps:=List.take_of_length_le (by have:=HL.out;omega);have hx2:=hx.out;rw[e] at hx2;exact⟨by rw[hx2.1,hx2.2];rfl,HB.out⟩
end


section
open Go.RowKit
variable {a b:Int} {p:P3}
theorem bK.SB (ha:WR a) (hb:WR b) (w:World):Calls Tryz.prog 89 #[wv a,wv b] w (aV (.tuple #[wv (eQ (a+b)), .bool (okW (a+b))]) w):=
 (bK.add _ _ _ _ a b (kr ha) (kr hb) w).mono (by rintro e w' ⟨h,l,ok,rfl,hr,hb⟩;obtain⟨rfl,rfl,rfl⟩:=BG hr;exact⟨rfl,hb⟩)
theorem bK.VI (ha:WR a) (hb:WR b) (w:World):Calls Tryz.prog 97 #[wv a,wv b] w (aV (.tuple #[wv (eQ (a-b)), .bool (okW (a-b))]) w):=
 (bK.sub _ _ _ _ a b (kr ha) (kr hb) w).mono (by rintro e w' ⟨h,l,ok,rfl,hr,hb⟩;obtain⟨rfl,rfl,rfl⟩:=BG hr;exact⟨rfl,hb⟩)
theorem bK.aag (ha:WR a) (b0: -9223372036854775808≤b) (b1:b≤9223372036854775807) (w:World):Calls Tryz.prog 87 #[wv a, .int .i64 b] w (aV (.tuple #[wv (eQ (a*b)), .bool (okW (a*b))]) w):=
 (bK.mul _ _ b a (kr ha) b0 b1 w).mono (by rintro e w' ⟨h,l,ok,rfl,hr,hb⟩;obtain⟨rfl,rfl,rfl⟩:=BG hr;exact⟨rfl,hb⟩)
theorem bK.ZT {x:Int} (h0: -9223372036854775808≤x) (h1:x≤9223372036854775807) (w:World):Calls Tryz.prog 105 #[.int .i64 x] w (aV (wv x) w):=
 (bK.Ti x h0 h1 w).mono (by rintro e w' ⟨h,l,rfl,hr,hb⟩;obtain⟨rfl,rfl⟩:=hr.words;exact⟨rfl,hb⟩)
theorem bK.aav (ha:WR a) (b0:0<b) (b1:b≤18446744073709551615) (w:World):Calls Tryz.prog 66 #[wv a, .int .u64 b] w (aV (.tuple #[wv (a/b), .int .u64 (a%b), .bool true]) w):=
 (bK.div _ _ a b (kr ha) b0 b1 w).mono (by
  rintro e w' ⟨h,l,q,r,rfl,⟨hw,he,r0,r1⟩,hb⟩;obtain⟨rfl,rfl⟩:=Bq he r0 r1;obtain⟨rfl,rfl⟩:=hw.words;exact⟨rfl,hb⟩)
theorem bK.VK (ha:WR a) (w:World):Calls Tryz.prog 103 #[wv a] w (aV (.tuple #[.int .i64 (if sD a=true then a else 0), .bool (sD a)]) w):=by
 cases h:sD a with
 |true=>
  have h2:=h;unfold sD at h2;rw[decide_eq_true_eq] at h2;rw[if_pos rfl];exact bK.small _ _ a (kr ha) h2.1 h2.2 w
 |false=>
  have h2:=h;unfold sD at h2;rw[decide_eq_false_iff_not] at h2;rw[if_neg ak];exact bK.Ha _ _ a (kr ha) af w
theorem bK.Y8 (ha:WR a) (w:World):Calls Tryz.prog 79 #[wv a] w (aV (.int .i64 (fK a 0)) w):=
 (bK.sign _ _ a (kr ha) w).mono (by rintro e w' ⟨c,rfl,hc,hb⟩;exact⟨by rw[hc.eq],hb⟩)
theorem Pos.FD (base:Int) (hp:dJ p) (w:World):Calls Tryz.prog 88 #[pv p, .int .u64 base] w (aV (wv (pD base p)) w):=
 (Pos.distance p.1 p.2.1 p.2.2 base hp.2.1.1 hp.2.1.2 hp.2.2.1 hp.2.2.2 w).mono (by rintro e w' ⟨h,l,rfl,hr,hb⟩;obtain⟨rfl,rfl⟩:=hr.words;exact⟨rfl,hb⟩)
theorem Pos.VO (p:P3) (w:World):Calls Tryz.prog 86 #[pv p] w (aV (.bool (pR p)) w):=Pos.right p.1 p.2.1 p.2.2 w
theorem Pos.VM (p:P3) (d:Int) (w:World):Calls Tryz.prog 203 #[pv p, .int .u64 d] w (aV (pv (ZO d p)) w):=Pos.shift p.1 p.2.1 p.2.2 d w
theorem Pos.XF {p q:P3} (hp:dJ p) (hq:dJ q) (w:World):Calls Tryz.prog 161 #[pv p,pv q] w (aV (.int .i64 (Ew p q)) w):=
 Pos.cmp p.1 p.2.1 p.2.2 q.1 q.2.1 q.2.2 hp.2.1.1 hp.2.1.2 hp.2.2.1 hp.2.2.2 hq.2.1.1 hq.2.1.2 hq.2.2.1 hq.2.2.2 w
theorem Pos.atF (base:Int) {d v:Int} (hd:WR d) (v0:0≤v) (v1:v≤4294967295) (w:World):Calls Tryz.prog 69 #[.int .u64 base,wv d, .int .u32 v] w (aV (.tuple #[pv (sG base d v), .bool (atOk d v)]) w):=by
 unfold sG;cases h:atOk d v with
 |true=>rw[if_pos rfl];exact Pos.PN base _ _ d v (kr hd) (ui.1 h) w
 |false=>rw[if_neg ak];exact Pos.TP base _ _ d v (kr hd) v0 v1 (fun h2=>by rw[ui.2 h2] at h;cases h) w
theorem Pos.moveF (hp:dJ p) {g:Int} (g0:0≤g) (g1:g≤18446744073709551615) (w:World):
  Calls Tryz.prog 112 #[pv p, .int .u64 g] w (aV (.tuple #[pv (sG p.1 (g+p.2.1) p.2.2), .bool (atOk (g+p.2.1) p.2.2)]) w):=by
 unfold sG;cases h:atOk (g+p.2.1) p.2.2 with
 |true=>rw[if_pos rfl];exact Pos.Rl p.1 p.2.1 p.2.2 g hp.2.1.1 hp.2.1.2 g0 g1 (ui.1 h) w
 |false=>rw[if_neg ak];exact Pos.UY p.1 p.2.1 p.2.2 g hp.2.1.1 hp.2.1.2 hp.2.2.1 hp.2.2.2 g0 g1 (fun h2=>by rw[ui.2 h2] at h;cases h) w
end


section
open Go.RowKit
variable {w0 w:World} {vs:List Value} {g:Nat} {L:List (Nat×List Value)}
def Vs (w0:World) (L:List (Nat×List Value)) (w:World):Prop:=(∀x∈L,Cs w x.1 x.2)∧Below w0.heap.size w0 w
theorem Vs.below {w0 w w':World} {L:List (Nat×List Value)} (h:Vs w0 L w) (hb:Below w w w'):Vs w0 L w':=⟨fun x hx=>(h.1 x hx).below hb,ai h.2 hb⟩
theorem Vs.alloc {w0 w:World} {L:List (Nat×List Value)} (h:Vs w0 L w) (o:Obj):Vs w0 L (w.alloc o):=h.below ((Below.refl _ _).alloc ay o)
theorem Vs.drew {w0 w:World} {L:List (Nat×List Value)} (h:Vs w0 L w):Vs w0 L w.drew:=⟨fun x hx=>(h.1 x hx).drew,h.2.drew⟩
theorem Vs.nil (h:Below w0 w0 w):Vs w0 [] w:=⟨fun x hx=>absurd hx ag,h⟩
theorem Vs.more (h:Vs w0 L w) (hc:Cs w g vs):Vs w0 ((g,vs)::L) w:=
 ⟨fun x hx=>by
  rcases List.mem_cons.1 hx with rfl|hx
  ·exact hc
  ·exact h.1 x hx,h.2⟩
theorem Vs.at (h:Vs w0 L w) (k:Nat) (hk:L[k]?=some (g,vs)):Cs w g vs:=h.1 _ (List.mem_of_getElem? hk)
end


section
open Go.RowKit
structure It where
 t:Int
 r:Int
 v:Int
 i:Int
 u:Int
 s:Int
 y:Int
def It.cells (a:It):List Value:=[.int .u64 a.t, .int .u32 a.r, .int .u32 a.v, .int .i64 a.i, .int .u64 a.u, .int .u32 a.s, .int .u32 a.y]
instance:Coe It (List Value):=⟨fun x=>[.int .u64 x.t, .int .u32 x.r, .int .u32 x.v, .int .i64 x.i, .int .u64 x.u, .int .u32 x.s, .int .u32 x.y]⟩
instance:Coe It (Array Value):=⟨fun x=> #[.int .u64 x.t, .int .u32 x.r, .int .u32 x.v, .int .i64 x.i, .int .u64 x.u, .int .u32 x.s, .int .u32 x.y]⟩
abbrev It.val (a:It):Value:= .agg #[.int .u64 a.t, .int .u32 a.r, .int .u32 a.v, .int .i64 a.i, .int .u64 a.u, .int .u32 a.s, .int .u32 a.y]
def It.In (a:It):Prop:=(0≤a.t∧a.t≤18446744073709551615)∧(0≤a.r∧a.r≤4294967295)∧(0≤a.v∧a.v≤4294967295)∧(-9223372036854775808≤a.i∧a.i≤9223372036854775807)∧(0≤a.u∧a.u≤18446744073709551615)∧(0≤a.s∧a.s≤4294967295)∧(0≤a.y∧a.y≤4294967295)
def It.ahead (a b:It):Bool:=if mO a.t a.r a.v b.t b.r b.v=0 then decide (a.i<b.i) else decide (mO a.t a.r a.v b.t b.r b.v<0)
def It.due (a b:It):Bool:=if mO a.u a.s a.y b.u b.s b.y=0 then It.ahead a b else decide (mO a.u a.s a.y b.u b.s b.y<0)
theorem Cs.cu (w:World) (t:TypeId) (a:It):Cs (w.alloc (.cells a t)) w.heap.size a.cells:=fun i v hv=>by
 refine⟨?_,by simp[go_sem]⟩;rw[World.cell?_alloc_new];simpa[It.cells] using hv
theorem It.at (a:It) {w:World} {g:Nat} (h:Cs w g a.cells):w.cell? g=some (.int .u64 a.t)∧w.cell? ⟨g,1,none⟩=some (.int .u32 a.r)∧w.cell? ⟨g,2,none⟩=some (.int .u32 a.v)∧w.cell? ⟨g,3,none⟩=some (.int .i64 a.i)∧w.cell? ⟨g,4,none⟩=some (.int .u64 a.u)∧w.cell? ⟨g,5,none⟩=some (.int .u32 a.s)∧w.cell? ⟨g,6,none⟩=some (.int .u32 a.y):=
 ⟨(h 0 _ rfl).1,(h 1 _ rfl).1,(h 2 _ rfl).1,(h 3 _ rfl).1,(h 4 _ rfl).1,(h 5 _ rfl).1,(h 6 _ rfl).1⟩
theorem bpA {P:Prop} (h:P:=by
 have c1:=C1.out;clear hb1;go_wp2_with fail
 go_ret;exact⟨by rw[HE.out];rfl,HT1.out.2.2⟩):P:=h
set_option maxRecDepth 100000 in
set_option maxHeartbeats 1000000 in
theorem Item.ahead (a b:It) (ha:a.In) (hb:b.In) (w:World):
  Calls Tryz.prog 121 #[a.val,b.val] w (aV (.bool (It.ahead a b)) w):=by
 have HA:=aa ha;have HB:=aa hb
 have HT0:Hid (∀w':World,Below ((w.alloc (.cells a 57)).alloc (.cells b 57)).heap.size ((w.alloc (.cells a 57)).alloc (.cells b 57)) w'→
   Cs w' w.heap.size a.cells∧Cs w' (w.heap.size+1) b.cells∧Below w w w'):=
  aa (fun w' hb=>⟨((Cs.cu _ _ _).alloc _).below hb,by have:=Cs.cu (w.alloc (.cells a 57)) 57 b;simp only[World.size_alloc] at this;exact this.below hb,ai (((Below.refl _ _).alloc ay _).alloc ag _) hb⟩)
 clear ha hb;unfold It.val;cases hc:decide (mO a.t a.r a.v b.t b.r b.v=0) with
 |true=>
  have hq:mO a.t a.r a.v b.t b.r b.v=0:=of_decide_eq_true hc;have c1:(mO a.t a.r a.v b.t b.r b.v != 0)=false:=by rw[hq];rfl
  have HE:Hid (It.ahead a b=decide (a.i<b.i)):=aa (by unfold It.ahead;rw[if_pos hq]);have C1:=aa c1;clear hc hq c1;go_enter Tryz.func121,Tryz.ntmps121;go_wp2_with fail
  refine(Pos.cmp a.t a.r a.v b.t b.r b.v HA.out.2.1.1 HA.out.2.1.2 HA.out.2.2.1.1 HA.out.2.2.1.2 HB.out.2.1.1 HB.out.2.1.2 HB.out.2.2.1.1 HB.out.2.2.1.2 _).mono ?_;rintro e w1 ⟨rfl,hb1⟩;have HT1:=aa (HT0.out _ hb1);have q1:=(It.at a HT1.out.1).2.2.2.1;have q2:=(It.at b HT1.out.2.1).2.2.2.1;exact bpA
 |false=>
  have hq:¬mO a.t a.r a.v b.t b.r b.v=0:=of_decide_eq_false hc;have c1:(mO a.t a.r a.v b.t b.r b.v != 0)=true:=by rw[bne_iff_ne];exact hq
  have HE:Hid (It.ahead a b=decide (mO a.t a.r a.v b.t b.r b.v<0)):=aa (by unfold It.ahead;rw[if_neg hq]);have C1:=aa c1;clear hc hq c1;go_enter Tryz.func121,Tryz.ntmps121;go_wp2_with fail
  refine(Pos.cmp a.t a.r a.v b.t b.r b.v HA.out.2.1.1 HA.out.2.1.2 HA.out.2.2.1.1 HA.out.2.2.1.2 HB.out.2.1.1 HB.out.2.1.2 HB.out.2.2.1.1 HB.out.2.2.1.2 _).mono ?_;rintro e w1 ⟨rfl,hb1⟩;have HT1:=aa (HT0.out _ hb1);exact bpA
end


section
open Go.RowKit
def Cn (r v:Int):Bool:=decide (1≤v∧v≤1048576)&&decide (r<v)
def It.right (a:It):Bool:=Cn a.r a.v&&Cn a.s a.y&&decide (a.v=a.y)&&decide (0<a.i)&&decide (0≤aH a.u a.t)&&decide (aH a.u a.t≤1152921504606846976)
end

end Go.Proofs.YtnmbfjgcmfjdcaaGreatDoor

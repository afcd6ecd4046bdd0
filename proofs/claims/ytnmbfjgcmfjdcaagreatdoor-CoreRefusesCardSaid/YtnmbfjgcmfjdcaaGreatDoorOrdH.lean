import Derived.Test.YtnmbfjgcmfjdcaaGreatDoorOrdG
import Derived.Test.YtnmbfjgcmfjdcaaGreatDoorRbB
namespace Go.Proofs.YtnmbfjgcmfjdcaaGreatDoor
open Go Go.RowKit
section
variable {P:Program} {ops:Array Oper} {Q:Exit→Act→World→Prop} {md:Region.Mode} {S S0:World→Prop} {ι:Type}
def uj (P:Program) (F:List Nat) (w:World) (V:ι→Value) (R:ι→World→Prop):Result Next→Prop
 | .ok (.enter f args) w'=>Calls P f args w' fun e w''=>∃x,e= .returned (V x)∧R x w''∧ax F w w''
 |_=>False
theorem uj.wp {F:List Nat} {o:Oper} {a:Act} {w:World} {V:ι→Value} {R:ι→World→Prop} {K:Act→World→Prop} (h:uj P F w V R ((execOp a.eval o).run P w)) (hK:∀x w',R x w'→ax F w w'→K (a.put o.dst (V x)) w'):o.wp P a w K Q:=by
 unfold Oper.wp;generalize (execOp a.eval o).run P w=r at *;cases r with
 |ok n w'=>
  cases n<;>simp only[uj,Oper.upon] at h⊢
  case enter f args=>
   refine Calls.mono h fun e w'' he=> ?_;obtain⟨x,rfl,hR,hb⟩:=he;exact hK _ _ hR hb
 |halt x w'=>exact h.elim
theorem uj.aN {F:List Nat} {V:ι→Value} {R:ι→World→Prop} {f:FuncId} {args:Array Value} {w:World} {r:Result Next} {R':Ending→World→Prop} (hc:Calls P f args w R') (hr:r= .ok (.enter f args) w) (h:∀e w',R' e w'→∃x,e= .returned (V x)∧R x w'∧ax F w w'):uj P F w V R r:=by
 rw[hr];exact Calls.mono hc h
theorem GI {n i:Nat} {oi:Oper} {fuel:Nat} {listed:Array Bool} {a:Act} (F:List Nat) (S':World→Prop) (V:ι→Value) (R:ι→World→Prop) (hi:ops[i]?=some oi) (hr:Region.ready md ops listed=[i]) (hin:i<n) (hw:Region.wanted oi (yielded ops a.tmps)=true)
  (hst':aF S') (ML:∀w,S' w→S0 w) (hR:∀x,aF (R x)) (TE:∀w w',S w→ax F w w'→S' w') (hrun:∀w,S w→uj P F w V R ((execOp a.eval oi).run P w))
  (h:∀x,bT P md ops Q S0 n fuel (fun w=>S' w∧R x w) (listed.setIfInBounds i true) (a.put oi.dst (V x))):bT P md ops Q S0 n (fuel+1) S listed a:=
 lv hi hr hin hw (fun w hS K hK=>(hrun w hS).wp (fun x w' hR' hc=>hK.out _ _ (fun w2=>S' w2∧R x w2) (fun _ h=>ML _ h.1) (fun _ _ h hb=>⟨hst' _ _ h.1 hb,hR x _ _ h.2 hb⟩) ⟨TE _ _ hS hc,hR'⟩ (h x)))
theorem uA {n j k:Nat} {oj ok:Oper} {dst:Option Nat} {fuel:Nat} {listed:Array Bool} {a:Act} (F:List Nat) (S':World→Prop) (T:World→Nat→Prop) (V:ι→Value) (R:ι→World→Prop) (hk:ops[k]?=some ok) (hj:ops[j]?=some oj) (hd:oj.dst=dst)
  (hr:Region.ready md ops listed=[k,j]∨Region.ready md ops listed=[j,k]) (WH:Region.ready md ops (listed.setIfInBounds j true)=[k]) (hkj:k≠j) (hkn:k<n) (hjn:j<n) (hap:ok.apart ops oj=true)
  (hsel:∀cs b,ok.op≠ .select cs b) (hwk:Region.wanted ok (yielded ops a.tmps)=true) (WC:∀a:Act,Region.wanted oj (yielded ops a.tmps)=true)
  (hst:aF S) (hs0:∀w,S w→S0 w) (hst':aF S') (ML:∀w,S' w→S0 w) (hT:∀g,aF (fun w=>T w g)) (hR:∀x,aF (R x)) (TE:∀w w',S w→ax F w w'→S' w') (hTF:∀g w w',S w→T w g→ax F w w'→T w' g)
  (MM:∀(a:Act) w,S w→∃w',(execOp a.eval oj).run P w= .ok (.value (.pointer (some ⟨w,0,none⟩))) w'∧Below w w w'∧T w' w.heap.size)
  (hrun:∀w,S w→uj P F w V R ((execOp a.eval ok).run P w))
  (h:∀x,uB P md ops Q S0 n j dst T fuel (fun w=>S' w∧R x w) (listed.setIfInBounds k true) (a.put ok.dst (V x))):uB P md ops Q S0 n j dst T (fuel+1) S listed a:=by
 subst hd;obtain⟨h1,h2,h3⟩:=Oper.apart_spec hap
 have H2:∀g,bT P md ops Q S0 n (fuel+1) (fun w=>S w∧T w g) (listed.setIfInBounds j true) (a.put oj.dst (.pointer (some ⟨g,0,none⟩))):=fun g=>by
  refine GI F (fun w=>S' w∧T w g) V R hk WH hkn (by rw[wanted_put ok a oj.dst _ h3];exact hwk) (hst'.dF (hT g)) (fun _ h=>ML _ h.1) hR (fun w w' hS hc=>⟨TE _ _ hS.1 hc,hTF _ _ _ hS.1 hS.2 hc⟩) (fun w hS=> ?_) (fun x=> ?_)
  ·rw[execOp_put ok hsel a oj.dst _ h3];exact hrun w hS.1
  ·have h4:=(h x).2 g;rw[Act.put_comm a _ _ h2,Array.setIfInBounds_comm _ _ hkj] at h4;exact yc (fun w hw=>⟨⟨hw.1.1,hw.2⟩,hw.1.2⟩) h4
 refine⟨⟨fun h0=>(by rcases hr with hr|hr<;>(rw[hr] at h0;cases h0)),fun x hx w hS=> ?_⟩,H2⟩
 have hx':x=k∨x=j:=by
  rcases hr with hr|hr
  ·rw[hr] at hx;simpa using hx
  ·rw[hr] at hx;have:x=j∨x=k:=by simpa using hx
   exact this.symm
 rcases hx' with rfl|rfl
 ·unfold wpOp;simp only[hk,hwk,if_true];left;refine(hrun w hS).wp (fun y w' hR' hc=> ?_);rw[if_neg af];exact⟨fun w2=>S' w2∧R y w2,fun _ h=>ML _ h.1,hst'.dF (hR y),⟨TE _ _ hS hc,hR'⟩,(h y).1⟩
 ·unfold wpOp;simp only[hj,WC,if_true];left;obtain⟨w',e,hb,hT'⟩:=MM a w hS;unfold Oper.wp;rw[e];simp only[Oper.upon];rw[if_neg af];exact⟨fun w2=>S w2∧T w2 w.heap.size,fun _ h=>hs0 _ h.1,hst.dF (hT _),⟨hst _ _ hS hb,hT'⟩,H2 _⟩
end
end Go.Proofs.YtnmbfjgcmfjdcaaGreatDoor

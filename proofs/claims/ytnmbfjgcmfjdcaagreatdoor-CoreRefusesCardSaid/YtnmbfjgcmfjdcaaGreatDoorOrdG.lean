import Derived.Test.YtnmbfjgcmfjdcaaGreatDoorCoreRefusesZ3
import Derived.Deep.AppendLies
namespace Go.Proofs.YtnmbfjgcmfjdcaaGreatDoor
open Go Go.RowKit
section
variable {P:Program} {ops:Array Oper} {Q:Exit→Act→World→Prop} {md:Region.Mode} {S S0:World→Prop} {ι:Type}
def jw (P:Program) (w:World) (V:ι→Value) (R:ι→World→Prop):Result Next→Prop
 | .ok (.enter f args) w'=>Calls P f args w' fun e w''=>∃x,e= .returned (V x)∧R x w''∧Below w w w''
 | .ok (.value u) w'=>∃x,u=V x∧R x w'∧Below w w w'
 |_=>False
theorem jw.wp {o:Oper} {a:Act} {w:World} {V:ι→Value} {R:ι→World→Prop} {K:Act→World→Prop} (h:jw P w V R ((execOp a.eval o).run P w)) (hK:∀x w',R x w'→Below w w w'→K (a.put o.dst (V x)) w'):o.wp P a w K Q:=by
 unfold Oper.wp;generalize (execOp a.eval o).run P w=r at *;cases r with
 |ok n w'=>
  cases n<;>simp only[jw,Oper.upon] at h⊢
  case enter f args=>
   refine Calls.mono h fun e w'' he=> ?_;obtain⟨x,rfl,hR,hb⟩:=he;exact hK _ _ hR hb
  case value u=>
   obtain⟨x,rfl,hR,hb⟩:=h;exact hK _ _ hR hb
 |halt x w'=>exact h.elim
theorem jw.aN {V:ι→Value} {R:ι→World→Prop} {f:FuncId} {args:Array Value} {w:World} {r:Result Next} {R':Ending→World→Prop} (hc:Calls P f args w R') (hr:r= .ok (.enter f args) w) (h:∀e w',R' e w'→∃x,e= .returned (V x)∧R x w'∧Below w w w'):jw P w V R r:=by
 rw[hr];exact Calls.mono hc h
theorem fC {n i:Nat} {oi:Oper} {fuel:Nat} {listed:Array Bool} {a:Act} (V:ι→Value) (R:ι→World→Prop) (hi:ops[i]?=some oi) (hr:Region.ready md ops listed=[i]) (hin:i<n) (hw:Region.wanted oi (yielded ops a.tmps)=true)
  (hst:aF S) (hs0:∀w,S w→S0 w) (hR:∀x,aF (R x)) (hrun:∀w,S w→jw P w V R ((execOp a.eval oi).run P w))
  (h:∀x,bT P md ops Q S0 n fuel (fun w=>S w∧R x w) (listed.setIfInBounds i true) (a.put oi.dst (V x))):bT P md ops Q S0 n (fuel+1) S listed a:=
 lv hi hr hin hw (fun w hS K hK=>(hrun w hS).wp (fun x w' hR' hb=>hK.out _ _ (fun w2=>S w2∧R x w2) (fun _ h=>hs0 _ h.1) (fun _ _ h hb=>⟨hst _ _ h.1 hb,hR x _ _ h.2 hb⟩) ⟨hst _ _ hS hb,hR'⟩ (h x)))
def uB (P:Program) (md:Region.Mode) (ops:Array Oper) (Q:Exit→Act→World→Prop) (S0:World→Prop) (n j:Nat) (dst:Option Nat) (T:World→Nat→Prop) (fuel:Nat) (S:World→Prop) (listed:Array Bool) (a:Act):Prop:=
 bT P md ops Q S0 n (fuel+1) S listed a∧∀g,bT P md ops Q S0 n fuel (fun w=>S w∧T w g) (listed.setIfInBounds j true) (a.put dst (.pointer (some ⟨g,0,none⟩)))
theorem uB.fst {n j:Nat} {dst:Option Nat} {T:World→Nat→Prop} {fuel:Nat} {listed:Array Bool} {a:Act} (h:uB P md ops Q S0 n j dst T fuel S listed a):bT P md ops Q S0 n (fuel+1) S listed a:=h.1
theorem gq {n j k:Nat} {oj ok:Oper} {dst:Option Nat} {v:Value} {fuel:Nat} {listed:Array Bool} {a:Act} (T:World→Nat→Prop) (hk:ops[k]?=some ok) (hj:ops[j]?=some oj) (hd:oj.dst=dst) (hkj:k≠j) (hst:aF S) (hs0:∀w,S w→S0 w) (hT:∀g,aF (fun w=>T w g))
  (hs:Region.noSelect ops=true) (hf:Region.free md ops listed k=true) (hr:(Region.ready md ops listed).contains k=true) (hu:BQ md ops n listed k=true)
  (hf':Region.free md ops (listed.setIfInBounds j true) k=true) (hr':(Region.ready md ops (listed.setIfInBounds j true)).contains k=true) (hu':BQ md ops n (listed.setIfInBounds j true) k=true)
  (hap:ok.apart ops oj=true) (hsel:∀cs b,ok.op≠ .select cs b) (hQ:∀c a w,Q (.panic c) (a.put ok.dst v) w→Q (.panic c) a w) (hy:bA P ops S0 ok v a)
  (h:uB P md ops Q S0 n j dst T fuel S (listed.setIfInBounds k true) (a.put ok.dst v)):uB P md ops Q S0 n j dst T (fuel+1) S listed a:=by
 subst hd;obtain⟨h1,h2,h3⟩:=Oper.apart_spec hap;refine⟨cB hst hs0 hk hs hf hr hu hQ hy h.1,fun g=>cB (hst.dF (hT g)) (fun _ h=>hs0 _ h.1) hk hs hf' hr' hu' hQ (hy.of_same (execOp_put ok hsel a oj.dst _ h3) (wanted_put ok a oj.dst _ h3)) ?_⟩;have h4:=h.2 g;rw[Act.put_comm a _ _ h2,Array.setIfInBounds_comm _ _ hkj] at h4;exact h4
theorem tC {n j:Nat} {oj:Oper} {dst:Option Nat} {fuel:Nat} {listed:Array Bool} {a:Act} (T:World→Nat→Prop) (hj:ops[j]?=some oj) (hd:oj.dst=dst) (hr:Region.ready md ops listed=[j]) (hjn:j<n) (hw:Region.wanted oj (yielded ops a.tmps)=true)
  (hst:aF S) (hs0:∀w,S w→S0 w) (hT:∀g,aF (fun w=>T w g)) (hrun:∀w,S w→∃w',(execOp a.eval oj).run P w= .ok (.value (.pointer (some ⟨w,0,none⟩))) w'∧Below w w w'∧T w' w.heap.size)
  (h:∀g,bT P md ops Q S0 n fuel (fun w=>S w∧T w g) (listed.setIfInBounds j true) (a.put dst (.pointer (some ⟨g,0,none⟩)))):uB P md ops Q S0 n j dst T fuel S listed a:=by
 subst hd;exact⟨df T hj hr hjn hw hst hs0 hT hrun h,h⟩
theorem wZ {n j k:Nat} {oj ok:Oper} {dst:Option Nat} {fuel:Nat} {listed:Array Bool} {a:Act} (T:World→Nat→Prop) (V:ι→Value) (R:ι→World→Prop) (hk:ops[k]?=some ok) (hj:ops[j]?=some oj) (hd:oj.dst=dst)
  (hr:Region.ready md ops listed=[k,j]∨Region.ready md ops listed=[j,k]) (WH:Region.ready md ops (listed.setIfInBounds j true)=[k]) (hkj:k≠j) (hkn:k<n) (hjn:j<n) (hap:ok.apart ops oj=true)
  (hsel:∀cs b,ok.op≠ .select cs b) (hwk:Region.wanted ok (yielded ops a.tmps)=true) (WC:∀a:Act,Region.wanted oj (yielded ops a.tmps)=true)
  (hst:aF S) (hs0:∀w,S w→S0 w) (hT:∀g,aF (fun w=>T w g)) (hR:∀x,aF (R x))
  (MM:∀(a:Act) w,S w→∃w',(execOp a.eval oj).run P w= .ok (.value (.pointer (some ⟨w,0,none⟩))) w'∧Below w w w'∧T w' w.heap.size)
  (hrun:∀w,S w→jw P w V R ((execOp a.eval ok).run P w))
  (h:∀x,uB P md ops Q S0 n j dst T fuel (fun w=>S w∧R x w) (listed.setIfInBounds k true) (a.put ok.dst (V x))):uB P md ops Q S0 n j dst T (fuel+1) S listed a:=by
 subst hd;obtain⟨h1,h2,h3⟩:=Oper.apart_spec hap
 have H2:∀g,bT P md ops Q S0 n (fuel+1) (fun w=>S w∧T w g) (listed.setIfInBounds j true) (a.put oj.dst (.pointer (some ⟨g,0,none⟩))):=fun g=>by
  refine fC V R hk WH hkn (by rw[wanted_put ok a oj.dst _ h3];exact hwk) (hst.dF (hT g)) (fun _ h=>hs0 _ h.1) hR (fun w hS=> ?_) (fun x=> ?_)
  ·rw[execOp_put ok hsel a oj.dst _ h3];exact hrun w hS.1
  ·have h4:=(h x).2 g;rw[Act.put_comm a _ _ h2,Array.setIfInBounds_comm _ _ hkj] at h4;exact yc (fun w hw=>⟨⟨hw.1.1,hw.2⟩,hw.1.2⟩) h4
 refine⟨⟨fun h0=>(by rcases hr with hr|hr<;>(rw[hr] at h0;cases h0)),fun x hx w hS=> ?_⟩,H2⟩
 have hx':x=k∨x=j:=by
  rcases hr with hr|hr
  ·rw[hr] at hx;simpa using hx
  ·rw[hr] at hx;have:x=j∨x=k:=by simpa using hx
   exact this.symm
 rcases hx' with rfl|rfl
 ·unfold wpOp;simp only[hk,hwk,if_true];left;refine(hrun w hS).wp (fun y w' hR' hb=> ?_);rw[if_neg af];exact⟨fun w2=>S w2∧R y w2,fun _ h=>hs0 _ h.1,hst.dF (hR y),⟨hst _ _ hS hb,hR'⟩,(h y).1⟩
 ·unfold wpOp;simp only[hj,WC,if_true];left;obtain⟨w',e,hb,hT'⟩:=MM a w hS;unfold Oper.wp;rw[e];simp only[Oper.upon];rw[if_neg af];exact⟨fun w2=>S w2∧T w2 w.heap.size,fun _ h=>hs0 _ h.1,hst.dF (hT _),⟨hst _ _ hS hb,hT'⟩,H2 _⟩
end
end Go.Proofs.YtnmbfjgcmfjdcaaGreatDoor

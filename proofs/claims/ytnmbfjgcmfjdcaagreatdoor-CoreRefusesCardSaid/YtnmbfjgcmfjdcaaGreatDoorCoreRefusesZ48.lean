/- Texts of CoreRefuses's proof, together. -/
import Derived.Test.YtnmbfjgcmfjdcaaGreatDoorCoreRefusesZ25
import Derived.Shelf.SlMaps.Clone
import Derived.Test.YtnmbfjgcmfjdcaaGreatDoorCkW
namespace Go.Proofs.YtnmbfjgcmfjdcaaGreatDoor
/- The checker's hook for maps' clones; both hooks. -/
namespace Ck
open Go Go.RowKit
set_option maxRecDepth 100000 in
set_option maxHeartbeats 2000000 in
theorem Cz (b:Nat) (es:Array MapEntry) (ck:Nat) (w:World) (hb:w.heap[b]?=some (.map es ck)):
  Calls Tryz.prog 81 #[.map (some b)] w fun e w'=>e= .returned (.map (some w.heap.size))∧w'=w.alloc (.map es ck):=by
 have hq:=fun w=>run_eql_map_nil_sl (P:=Tryz.prog) w 80 _ _ (some b) Tryz.underlying80;go_enter Tryz.func81,Tryz.ntmps81;go_wp2
 rw[run_callFunc_extern Tryz.func83 (by kernel_rfl) (by kernel_rfl) (by kernel_rfl) (e:=Extern.MapsClone.clone) (by kernel_rfl),run_maps_clone_sl w 80 hb];simp only[Result.andThen];rw[Oper.upon_value];go_wp2
 rw[run_typeAssert_map_sl _ 80 _ _ _ _ Tryz.underlying80];simp only[Result.andThen];rw[Oper.upon_value];go_wp2
 go_ret;exact⟨rfl,rfl⟩
set_option maxRecDepth 100000 in
set_option maxHeartbeats 2000000 in
theorem Cy (b:Nat) (es:Array MapEntry) (ck:Nat) (w:World) (hb:w.heap[b]?=some (.map es ck)):
  Calls Tryz.prog 48 #[.map (some b)] w fun e w'=>e= .returned (.map (some w.heap.size))∧w'=w.alloc (.map es ck):=by
 have hq:=fun w=>run_eql_map_nil_sl (P:=Tryz.prog) w 49 _ _ (some b) Tryz.underlying49;go_enter Tryz.func48,Tryz.ntmps48;go_wp2
 rw[run_callFunc_extern Tryz.func83 (by kernel_rfl) (by kernel_rfl) (by kernel_rfl) (e:=Extern.MapsClone.clone) (by kernel_rfl),run_maps_clone_sl w 49 hb];simp only[Result.andThen];rw[Oper.upon_value];go_wp2
 rw[run_typeAssert_map_sl _ 49 _ _ _ _ Tryz.underlying49];simp only[Result.andThen];rw[Oper.upon_value];go_wp2
 go_ret;exact⟨rfl,rfl⟩
def uS:fu:=fun f args σ=>
 if f=81∨f=48 then match args.toList with
  |[.map (some b)]=>if b<σ.next then match σ.m b with
   |some (.other (.map es ck))=>some [(.map (some σ.next),(σ.read b).grow (.other (.map es ck)))]
   |_=>none
   else none
  |_=>none
 else none
theorem Ex {f:FuncId} {args:Array Value} {σ:St} {outs:List (Value×St)} (h:uS f args σ=some outs):
  (f=81∨f=48)∧∃b es ck,args.toList=[.map (some b)]∧b<σ.next∧σ.m b=some (.other (.map es ck))∧outs=[(.map (some σ.next),(σ.read b).grow (.other (.map es ck)))]:=by
 unfold uS at h;split at h
 ·rename_i hf;split at h
  ·rename_i b hargs;split at h
   ·rename_i hb;split at h
    ·rename_i es ck hm;cases h;exact⟨hf,b,es,ck,hargs,hb,hm,rfl⟩
    ·cases h
   ·cases h
  ·cases h
 ·cases h
theorem Jj {ks:List Nat} {hk:fu}:ib ⟨Tryz.prog,[],ks,hk⟩ uS:=by
 intro f args σ outs h;obtain⟨hf,b,es,ck,hargs,hb,hm,rfl⟩:=Ex h;have p1:bn σ (σ.read b):=bn.rf σ b;refine⟨⟨by simp,fun x hx=>by simp at hx;subst hx;exact p1.trans (bn.fA _ _)⟩,fun φ args' L w hg hrel hw hp hgood=> ?_⟩;have hpre:=hp _ (List.mem_singleton.2 rfl);have CQ:=hrel.toList;rw[hargs] at CQ;obtain⟨v',m',he',hv,hm'⟩:=CQ.cons_inv;rw[hm'.oU] at he';cases hv with
 |sc h=>simp[dH] at h
 |map RH=>
 rename_i b' eb
 have hargs':args'= #[.map (some b')]:=by
  rw[←Array.toList_inj];exact he'
 subst hargs';have IZ:L b=some (.other (.map es ck)):=(hpre.2 b (.inl (eX.2 (.inr rfl))) hb).trans hm;obtain⟨r,e2,ob,CO,TC,WK⟩:=hgood.obj b _ IZ;rw[RH] at CO;cases CO;obtain⟨rfl,hx⟩:=WK;cases ob<;>first|exact hx.elim|skip
 rename_i es' FI;obtain⟨rfl,hes⟩:=hx
 have hcall:Calls Tryz.prog f #[.map (some b')] w fun e w'=>e= .returned (.map (some w.heap.size))∧w'=w.alloc (.map es' FI):=by
  rcases hf with rfl|rfl
  ·exact Cz b' es' FI w TC
  ·exact Cy b' es' FI w TC
 refine hcall.mono ?_;rintro e w' ⟨rfl,rfl⟩
 refine⟨_,List.mem_singleton.2 rfl,_,_,_,rfl,?_,Step.trans p1 (bn.fA _ _) hpre.1 (Step.same hgood hw (hpre.2.first (bn.fA _ _)) rfl rfl rfl rfl ⟨rfl,rfl,rfl⟩)
  (AU hgood (p1.wf hw) hpre.2 hpre.1 fun ψ hψ=>⟨rfl,rfl,hes.mono hψ⟩)⟩
 exact .map (if_pos rfl)
/-- Both hooks. -/
def Ec:fu:=fun f args σ=>match xm f args σ with
 |some r=>some r
 |none=>uS f args σ
theorem nD {ks:List Nat} {hk:fu}:ib ⟨Tryz.prog,[],ks,hk⟩ Ec:=by
 intro f args σ outs h;unfold Ec at h;split at h
 ·rename_i r hr;cases h;exact Ah (ks:=ks) (hk:=hk) f args σ _ hr
 ·exact Jj (ks:=ks) (hk:=hk) f args σ _ h
#print axioms nD
end Ck

/- The example of the layer of sets, by the checker with its hook for a set's requests. -/
section
open Go Go.RowKit Ck
theorem ZF:True' Tryz.prog 158:=eF (n:=3000) mixed (dS aaz known0) (by kernel_rfl)
theorem ZC:True' Tryz.prog 115:=nE (n:=3000) mixed nD (dS ZF known0) (by kernel_rfl)
theorem ZE:True' Tryz.prog 78:=nE (n:=3000) mixed nD (dS ZC known0) (by kernel_rfl)
end

/- The example of the layer settle, by the checker. -/
section
open Go Go.RowKit Ck
theorem ZA:True' Tryz.prog 45:=nE (n:=3000) mixed nD (dS ZE known0) (by kernel_rfl)
theorem ZB:True' Tryz.prog 17:=nE (n:=3000) mixed nD (dS ZA known0) (by kernel_rfl)
end

end Go.Proofs.YtnmbfjgcmfjdcaaGreatDoor

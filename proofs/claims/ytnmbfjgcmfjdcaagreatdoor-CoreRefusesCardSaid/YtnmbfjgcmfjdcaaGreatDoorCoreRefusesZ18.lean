/- Texts of CoreRefuses's proof, together. -/
import Derived.Test.YtnmbfjgcmfjdcaaGreatDoorCoreRefusesZ1
import Derived.Test.YtnmbfjgcmfjdcaaGreatDoorRows
import Derived.ProofKit
import Derived.OpenShut
import Derived.ChangeOld
import Derived.Carry
import Derived.SizedLaws
import Derived.Lib.SmallJoins
import Derived.Deep.SlicePairs
namespace Go.Proofs.YtnmbfjgcmfjdcaaGreatDoor

section
open Go.ChangeShapes Go.WideShapes Go.ChangeAt Go.RowKit Go.Joins
theorem own:ownKnob Tryz.prog.godebug=none:=by kernel_rfl
set_option maxRecDepth 100000 in
theorem laidOut:laidOutB Tryz.prog=true:=by kernel_rfl
end


section
open Go.ChangeShapes Go.WideShapes Go.ChangeAt Go.RowKit Go.Joins
theorem NK {w:World} {x:Addr} {v:Value} (h0:w.cell? (x.add 0)=some v):x=⟨x.block,x.off,none⟩:=by
 have e:x.add 0=x:=by simp[Addr.add]
 rw[e] at h0;have:=World.cell?_spot h0;cases x;simp_all
theorem XY {b off:Nat} (i:Nat):(⟨b,off,none⟩:Addr).add i=⟨b,off+i,none⟩:=by
 unfold Addr.add;split
 ·simp_all
 ·rfl
end


section
open Go.ChangeShapes Go.WideShapes Go.ChangeAt Go.RowKit Go.Joins Go.Deep
def vW (p:Int×Int):Int:=p.1*18446744073709551616+p.2
def pG (ps:List (Int×Int)):Int:=(ps.map vW).sum
def Nl (ps:List (Int×Int)):Prop:=∀p∈ps,dO p.1 p.2 (vW p)
def yx (w:World) (A:Option Addr) (n:Nat) (ps:List (Int×Int)):Prop:=
 ps.length=n∧∀i,i<n→∃b off,A=some ⟨b,off,none⟩∧b<w.heap.size∧∀j,j<n→w.cell? ⟨b,off+j*2,none⟩=some (.int .i64 (ps.getD j (0,0)).1)∧w.cell? ⟨b,off+j*2+1,none⟩=some (.int .u64 (ps.getD j (0,0)).2)
theorem yx.below {w w':World} {A:Option Addr} {n:Nat} {ps:List (Int×Int)} (h:yx w A n ps) (hb:Below w w w'):yx w' A n ps:=
 ⟨h.1,fun i hi=>by
   obtain⟨b,off,e,hl,hc⟩:=h.2 i hi;exact⟨b,off,e,Nat.lt_of_lt_of_le hl hb.size,fun j hj=>⟨aS hb (hc j hj).1,aS hb (hc j hj).2⟩⟩⟩
theorem Nl.get {ps:List (Int×Int)} (h:Nl ps) {k:Nat} (hk:k<ps.length):dO (ps.getD k (0,0)).1 (ps.getD k (0,0)).2 (vW (ps.getD k (0,0))):=by
 have e:ps.getD k (0,0)=ps[k]:=by simp[List.getD,hk]
 rw[e];exact h _ (List.getElem_mem hk)
theorem NH (ps:List (Int×Int)) {k:Nat} (hk:k<ps.length):pG (ps.take (k+1))=pG (ps.take k)+vW (ps.getD k (0,0)):=by
 have e:ps.getD k (0,0)=ps[k]:=by simp[List.getD,hk]
 rw[List.take_succ_eq_append_getElem hk,e];unfold pG;rw[List.map_append,List.sum_append];simp only[List.map_cons,List.map_nil,List.sum_cons,List.sum_nil];omega
end

end Go.Proofs.YtnmbfjgcmfjdcaaGreatDoor

import Derived.Test.YtnmbfjgcmfjdcaaGreatDoorCoreRefusesZ10
import Derived.Laws.EntriesVeiled
import Derived.OwnWalk
import Derived.Deep.AppendLies
namespace Go.Proofs.YtnmbfjgcmfjdcaaGreatDoor
open Go.RowKit
variable {vs:List Value} {g:Nat} {w w':World} {F:List Nat}
theorem Cs.Xm {a b c d:Value} (h:Cs w g (a::b::c::d::vs)):w.frozen? ⟨g,3,none⟩=false:=(h 3 d rfl).2
theorem Cs.Xl {a b c d e:Value} (h:Cs w g (a::b::c::d::e::vs)):w.frozen? ⟨g,4,none⟩=false:=(h 4 e rfl).2
theorem Cs.set (h:Cs w g vs) (i:Nat) (hi:i<vs.length) (u:Value):Cs (w.setCell ⟨g,i,none⟩ u) g (vs.set i u):=by
 intro j x hx;have hv:=h i vs[i] (List.getElem?_eq_getElem hi);have hl:=World.block_lt_of_cell? w _ hv.1;by_cases e:i=j
 ·subst e;rw[List.getElem?_set_self hi] at hx;injection hx with hx;subst hx;exact⟨by simp[go_sem,hv.1],by simp[go_sem,hv.2]⟩
 ·rw[List.getElem?_set_ne e] at hx;have:=h j x hx;exact⟨(World.cell?_setCell_other w ⟨g,i,none⟩ ⟨g,j,none⟩ u (fun e'=>by injection e' with _ e2;exact e e2)).trans this.1,by simpa[go_sem] using this.2⟩
theorem Cs.bL (w:World) (t:TypeId) (vs:List Value):Cs (w.alloc (.cells vs.toArray t)) w.heap.size vs:=fun i v hv=>by
 refine⟨?_,by simp[go_sem]⟩;rw[World.cell?_alloc_new];simpa using hv
structure ax (F:List Nat) (w w':World):Prop where
 os:w'.os=w.os
 tape:w'.tape=w.tape
 output:w'.output=w.output
 size:w.heap.size≤w'.heap.size
 block:∀k,k<w.heap.size→k∉F→w'.heap[k]?=w.heap[k]?
theorem ax.refl (F:List Nat) (w:World):ax F w w:=⟨rfl,rfl,rfl,Nat.le_refl _,fun _ _ _=>rfl⟩
theorem ax.trans {F G:List Nat} {a b c:World} (h:ax F a b) (k:ax G b c) (hG:∀g∈G,g∈F∨a.heap.size≤g):ax F a c:=
 ⟨k.os.trans h.os,k.tape.trans h.tape,k.output.trans h.output,Nat.le_trans h.size k.size,fun i hi hF=>(k.block i (Nat.lt_of_lt_of_le hi h.size) (fun hg=>by
   rcases hG i hg with h1|h1
   ·exact hF h1
   ·omega)).trans (h.block i hi hF)⟩
theorem ax.mono {F G:List Nat} {a b:World} (h:ax F a b) (hF:∀g∈F,g∈G):ax G a b:=⟨h.os,h.tape,h.output,h.size,fun k hk hG=>h.block k hk (fun h'=>hG (hF k h'))⟩
theorem ax.below (h:Below w w w'):ax F w w':=⟨h.os,h.tape,h.output,h.size,fun k hk _=>h.block k hk⟩
theorem ax.set (h:ax F w w') (hg:g∈F∨w.heap.size≤g) (o:Nat) (u:Value):ax F w (w'.setCell ⟨g,o,none⟩ u):=
 ⟨h.os,h.tape,h.output,by simpa[World.setCell] using h.size,fun k hk hF=>(Below.heap_setCell _ _ _ _ (by rintro rfl;rcases hg with h1|h1;exact hF h1;omega)).trans (h.block k hk hF)⟩
theorem ax.cell {F:List Nat} {w w':World} (h:ax F w w') {p:Addr} (hp:p.block<w.heap.size) (hF:p.block∉F):w'.cell? p=w.cell? p:=World.cell?_of_block (w:=w) (h.block p.block hp hF)
theorem ax.frozen {F:List Nat} {w w':World} (h:ax F w w') {p:Addr} (hp:p.block<w.heap.size) (hF:p.block∉F):w'.frozen? p=w.frozen? p:=World.frozen?_of_block (w:=w) (h.block p.block hp hF)
theorem ax.toBelow (h:ax F w w') {B:Nat} (hB:B≤w.heap.size) (hF:∀g∈F,B≤g):Below B w w':=
 ⟨h.os,h.tape,h.output,h.size,fun k hk=>h.block k (Nat.lt_of_lt_of_le hk hB) (fun hk'=>by have:=hF k hk';omega)⟩
theorem Cs.aG (h:Cs w g vs) (hc:ax F w w') (hg:g∉F):Cs w' g vs:=fun i v hv=>by
 have hl:=World.block_lt_of_cell? w _ (h i v hv).1;exact⟨(hc.cell (p:=⟨g,i,none⟩) hl hg).trans (h i v hv).1,(hc.frozen (p:=⟨g,i,none⟩) hl hg).trans (h i v hv).2⟩
def ptr {α:Type}:Tr α→Value
 | .nil=> .pointer none
 | .node g _ _ _ _=> .pointer (some ⟨g,0,none⟩)
@[simp] theorem kP {α:Type}:ptr (.nil:Tr α)= .pointer none:=rfl
@[simp] theorem aX {α:Type} {g:Nat} {c:Bool} {l r:Tr α} {x:α}:ptr (.node g c l x r)= .pointer (some ⟨g,0,none⟩):=rfl
-- reading
end Go.Proofs.YtnmbfjgcmfjdcaaGreatDoor

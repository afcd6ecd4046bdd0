import Derived.Test.YtnmbfjgcmfjdcaaGreatDoorCoreRefusesZ1
import Derived.Deep.RegionHeld3
import Derived.Laws.OwnMore
namespace Go.Proofs.YtnmbfjgcmfjdcaaGreatDoor
open Go.RowKit
variable {vs:List Value} {g:Nat} {w:World} {a b c:Value}
def Cs (w:World) (g:Nat) (vs:List Value):Prop:=∀i (v:Value),vs[i]?=some v→w.cell? ⟨g,i,none⟩=some v∧w.frozen? ⟨g,i,none⟩=false
theorem Cs.below {w w':World} (h:Cs w g vs) (hb:Below w w w'):Cs w' g vs:=fun i v hv=>by
 have hl:=World.block_lt_of_cell? w _ (h i v hv).1;exact⟨aS hb (h i v hv).1,(hb.frozen (p:=⟨g,i,none⟩) hl).trans (h i v hv).2⟩
theorem Cs.drew (h:Cs w g vs):Cs w.drew g vs:=h
theorem Cs.alloc {w:World} {g:Nat} {vs:List Value} (h:Cs w g vs) (o:Obj):Cs (w.alloc o) g vs:=h.below ((Below.refl _ _).alloc ay o)
theorem Cs.far (h:Cs w g vs) {b:Nat} (hb:b≠g) (o:Nat) (u:Value):Cs (w.setCell ⟨b,o,none⟩ u) g vs:=fun i v hv=>
 ⟨(World.cell?_setCell_other w ⟨b,o,none⟩ ⟨g,i,none⟩ u (fun e=>by injection e with e1;exact hb e1)).trans (h i v hv).1,by simpa[go_sem] using(h i v hv).2⟩
theorem Cs.lt {v:Value} (h:Cs w g (v::vs)):g<w.heap.size:=World.block_lt_of_cell? w _ (h 0 v rfl).1
theorem Cs.aL {v:Value} (h:Cs w g (v::vs)):w.cell? g=some v:=(h 0 v rfl).1
theorem Cs.fH {u v:Value} (h:Cs w g (u::v::vs)):w.cell? ⟨g,1,none⟩=some v:=(h 1 v rfl).1
theorem Cs.at2 {t u v:Value} (h:Cs w g (t::u::v::vs)):w.cell? ⟨g,2,none⟩=some v:=(h 2 v rfl).1
theorem Cs.at3 {a b c v:Value} (h:Cs w g (a::b::c::v::vs)):w.cell? ⟨g,3,none⟩=some v:=(h 3 v rfl).1
theorem Cs.at4 {a b c d v:Value} (h:Cs w g (a::b::c::d::v::vs)):w.cell? ⟨g,4,none⟩=some v:=(h 4 v rfl).1
theorem Cs.lM {v:Value} (h:Cs w g (v::vs)):w.frozen? ⟨g,0,none⟩=false:=(h 0 v rfl).2
theorem Cs.mW {u v:Value} (h:Cs w g (u::v::vs)):w.frozen? ⟨g,1,none⟩=false:=(h 1 v rfl).2
theorem Cs.TH {t u v:Value} (h:Cs w g (t::u::v::vs)):w.frozen? ⟨g,2,none⟩=false:=(h 2 v rfl).2
theorem Cs.cK (w:World) (t:TypeId) (u v:Value):Cs (w.alloc (.cells #[u,v] t)) w.heap.size [u,v]:=fun i x hx=>by
 rcases i with _|_|i
 ·simp at hx;subst hx;simp[go_sem]
 ·simp at hx;subst hx;simp[go_sem]
 ·simp at hx
theorem Cs.tO (w:World) (t:TypeId) (s u v:Value):Cs (w.alloc (.cells #[s,u,v] t)) w.heap.size [s,u,v]:=fun i x hx=>by
 rcases i with _|_|_|i
 ·simp at hx;subst hx;simp[go_sem]
 ·simp at hx;subst hx;simp[go_sem]
 ·simp at hx;subst hx;simp[go_sem]
 ·simp at hx
theorem Cs.kN (h:Cs w g [a,b]) (u v:Value):Cs ((w.setCell ⟨g,0,none⟩ u).setCell ⟨g,1,none⟩ v) g [u,v]:=by
 have h0:=h.aL;have h1:=h.fH;have f0:=h.lM;have f1:=h.mW;intro i x hx;rcases i with _|_|i
 ·simp at hx;subst hx;simp[go_sem,h0,f0]
 ·simp at hx;subst hx;simp[go_sem,h1,f1]
 ·simp at hx
theorem Cs.three (h:Cs w g [a,b,c]):w.cell? g=some a∧w.cell? ⟨g,1,none⟩=some b∧w.cell? ⟨g,2,none⟩=some c:=⟨h.aL,h.fH,h.at2⟩
end Go.Proofs.YtnmbfjgcmfjdcaaGreatDoor

import Derived.Test.YtnmbfjgcmfjdcaaGreatDoorCoreRefusesZ35
import Derived.Laws.AppendOwnNone
namespace Go.Proofs.YtnmbfjgcmfjdcaaGreatDoor
open Go.RowKit
theorem bV.aaw {w w':World} {base:Nat} {A:Option Addr} {n c:Nat} {l:List It} {F:List Nat} (h:bV w base A n c l) (hc:ax F w w') (hF:∀k∈rowOf A,k∉F):bV w' base A n c l:=by
 obtain⟨h1,h2⟩:=h;refine⟨h1,?_⟩;rcases h2 with h2|⟨g,cap,cur,hv,hg,hh,r⟩
 ·exact .inl h2
 ·refine .inr ⟨g,cap,cur,hv,hg,?_,r⟩
  have hlt:g<w.heap.size:=by
   rcases Nat.lt_or_ge g w.heap.size with h1|h1
   ·exact h1
   ·rw[Array.getElem?_eq_none h1] at hh;cases hh
  injection hv with e1;subst e1;rw[hc.block g hlt (hF g (by simp[rowOf]))];exact hh
end Go.Proofs.YtnmbfjgcmfjdcaaGreatDoor

import Derived.Test.YtnmbfjgcmfjdcaaGreatDoorCoreRefusesZ20
namespace Go.Proofs.YtnmbfjgcmfjdcaaGreatDoor
open Go.RowKit
theorem Cs.two {w:World} {g:Nat} {a b:Value} (h:Cs w g [a,b]):w.cell? g=some a∧w.cell? ⟨g,1,none⟩=some b:=⟨h.aL,h.fH⟩
end Go.Proofs.YtnmbfjgcmfjdcaaGreatDoor

/- The examples of all layers, by the checker: each is run by the kernel, those below it being known. -/
import Derived.Test.YtnmbfjgcmfjdcaaGreatDoorCoreRefusesZ13
import Derived.Test.YtnmbfjgcmfjdcaaGreatDoorProg
import Derived.WalkKit
namespace Go.Proofs.YtnmbfjgcmfjdcaaGreatDoor
open Go Go.RowKit Ck
theorem mixed:Tryz.prog.follows .mixedOrders=true:=by kernel_rfl
theorem dS {P:Program} {f:Nat} {l:List Nat} (h:True' P f) (k:∀g∈l,True' P g):∀g∈f::l,True' P g:=fun g hg=>(List.mem_cons.1 hg).elim (fun e=>by rw[e];exact h) (k g)
theorem known0 {P:Program}:∀g∈([]:List Nat),True' P g:=fun g hg=>by cases hg
theorem PM:True' Tryz.prog 279:=eF (n:=3000) mixed known0 (by kernel_rfl)
theorem XV:True' Tryz.prog 266:=eF (n:=3000) mixed (dS PM known0) (by kernel_rfl)
theorem XU:True' Tryz.prog 267:=eF (n:=3000) mixed (dS PM known0) (by kernel_rfl)
theorem XT:True' Tryz.prog 243:=eF (n:=3000) mixed (dS PM (dS XV (dS XU known0))) (by kernel_rfl)
theorem aw5:True' Tryz.prog 224:=eF (n:=3000) mixed (dS PM (dS XV (dS XU (dS XT known0)))) (by kernel_rfl)
theorem aw6:True' Tryz.prog 225:=eF (n:=3000) mixed (dS PM (dS XV (dS XU (dS XT (dS aw5 known0))))) (by kernel_rfl)
theorem aw7:True' Tryz.prog 217:=eF (n:=3000) mixed (dS XT (dS aw5 (dS aw6 known0))) (by kernel_rfl)
theorem aw8:True' Tryz.prog 215:=eF (n:=3000) mixed (dS aw7 known0) (by kernel_rfl)
theorem aw9:True' Tryz.prog 213:=eF (n:=3000) mixed (dS aw8 known0) (by kernel_rfl)
theorem aaD:True' Tryz.prog 211:=eF (n:=3000) mixed (dS aw9 known0) (by kernel_rfl)
theorem aaC:True' Tryz.prog 208:=eF (n:=3000) mixed (dS aaD known0) (by kernel_rfl)
theorem aaB:True' Tryz.prog 204:=eF (n:=3000) mixed (dS aaC known0) (by kernel_rfl)
theorem aaA:True' Tryz.prog 201:=eF (n:=3000) mixed (dS aaB known0) (by kernel_rfl)
theorem aaz:True' Tryz.prog 188:=eF (n:=3000) mixed (dS aaA known0) (by kernel_rfl)
end Go.Proofs.YtnmbfjgcmfjdcaaGreatDoor

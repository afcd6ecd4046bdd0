/- The examples of all layers, by the checker: each is run by the kernel, those below it being known. -/
import Derived.Test.YtjchnkmolhgpmaaGreatDoorCkF
import Derived.Test.YtjchnkmolhgpmaaGreatDoorProg
import Derived.WalkKit
namespace Go.Proofs.YtjchnkmolhgpmaaGreatDoor
open Go Go.RowKit Ck
theorem mixed : Tryz.prog.follows .mixedOrders = true := by kernel_rfl
theorem knownC {P : Program} {f : Nat} {l : List Nat} (h : True' P f) (k : ∀ g ∈ l, True' P g) : ∀ g ∈ f :: l, True' P g := fun g hg => (List.mem_cons.1 hg).elim (fun e => by rw [e]; exact h) (k g)
theorem known0 {P : Program} : ∀ g ∈ ([] : List Nat), True' P g := fun g hg => by cases hg
theorem aw1 : True' Tryz.prog 321 := holds_sound (n := 3000) mixed known0 (by kernel_rfl)
theorem aw2 : True' Tryz.prog 308 := holds_sound (n := 3000) mixed (knownC aw1 known0) (by kernel_rfl)
theorem aw3 : True' Tryz.prog 309 := holds_sound (n := 3000) mixed (knownC aw1 known0) (by kernel_rfl)
theorem aw4 : True' Tryz.prog 285 := holds_sound (n := 3000) mixed (knownC aw1 (knownC aw2 (knownC aw3 known0))) (by kernel_rfl)
theorem aw5 : True' Tryz.prog 266 := holds_sound (n := 3000) mixed (knownC aw1 (knownC aw2 (knownC aw3 (knownC aw4 known0)))) (by kernel_rfl)
theorem aw6 : True' Tryz.prog 267 := holds_sound (n := 3000) mixed (knownC aw1 (knownC aw2 (knownC aw3 (knownC aw4 (knownC aw5 known0))))) (by kernel_rfl)
theorem aw7 : True' Tryz.prog 259 := holds_sound (n := 3000) mixed (knownC aw4 (knownC aw5 (knownC aw6 known0))) (by kernel_rfl)
theorem aw8 : True' Tryz.prog 257 := holds_sound (n := 3000) mixed (knownC aw7 known0) (by kernel_rfl)
theorem aw9 : True' Tryz.prog 254 := holds_sound (n := 3000) mixed (knownC aw8 known0) (by kernel_rfl)
theorem aw10 : True' Tryz.prog 250 := holds_sound (n := 3000) mixed (knownC aw9 known0) (by kernel_rfl)
theorem aw11 : True' Tryz.prog 242 := holds_sound (n := 3000) mixed (knownC aw10 known0) (by kernel_rfl)
theorem aw12 : True' Tryz.prog 238 := holds_sound (n := 3000) mixed (knownC aw11 known0) (by kernel_rfl)
theorem aw13 : True' Tryz.prog 235 := holds_sound (n := 3000) mixed (knownC aw12 known0) (by kernel_rfl)
theorem aw14 : True' Tryz.prog 197 := holds_sound (n := 3000) mixed (knownC aw13 known0) (by kernel_rfl)
end Go.Proofs.YtjchnkmolhgpmaaGreatDoor

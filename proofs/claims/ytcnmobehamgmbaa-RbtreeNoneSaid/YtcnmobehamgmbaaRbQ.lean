/- The tree of numbers: of a nil tree. -/
import Derived.Test.YtcnmobehamgmbaaRbO
namespace Go.Proofs.Ytcnmobehamgmbaa
open Go.RowKit

theorem Nil.min (w : World) : Calls Try.prog 46 #[.pointer none] w (Ans (.tuple #[.int .i64 0, .bool false]) w) := by
  go_enter Try.func46, Try.ntmps46
  go_wp2_with fail
  go_ret2
  exact ⟨rfl, (Below.refl _ _).alloc (Nat.le_refl _) _⟩
theorem Nil.len (w : World) : Calls Try.prog 37 #[.pointer none] w (Ans (.int .i64 0) w) := by
  go_enter Try.func37, Try.ntmps37
  go_wp2_with fail
  go_ret
  exact ⟨rfl, Below.refl _ _⟩
theorem Nil.depth (w : World) : Calls Try.prog 36 #[.pointer none] w (Ans (.int .i64 0) w) := by
  go_enter Try.func36, Try.ntmps36
  go_wp2_with fail
  go_ret
  exact ⟨rfl, Below.refl _ _⟩
theorem Nil.all (w : World) : Calls Try.prog 43 #[.pointer none] w (Ans (.slice none 0 0) w) := by
  go_enter Try.func43, Try.ntmps43
  go_wp2_with fail
  go_ret
  exact ⟨rfl, Below.refl _ _⟩
theorem Nil.clone (w : World) : Calls Try.prog 30 #[.pointer none] w (Ans (.pointer none) w) := by
  go_enter Try.func30, Try.ntmps30
  go_wp2_with fail
  go_ret
  exact ⟨rfl, Below.refl _ _⟩
theorem Nil.has (x : Int) (w : World) : Calls Try.prog 44 #[.pointer none, .int .i64 x] w (Ans (.bool false) w) := by
  go_enter Try.func44, Try.ntmps44
  go_wp2_with fail
  go_ret
  exact ⟨rfl, Below.refl _ _⟩
theorem Nil.insert (x : Int) (w : World) : Calls Try.prog 33 #[.pointer none, .int .i64 x] w (Ans (.bool false) w) := by
  go_enter Try.func33, Try.ntmps33
  go_wp2_with fail
  go_ret
  exact ⟨rfl, Below.refl _ _⟩
theorem Nil.delete (x : Int) (w : World) : Calls Try.prog 31 #[.pointer none, .int .i64 x] w (Ans (.bool false) w) := by
  go_enter Try.func31, Try.ntmps31
  go_wp2_with fail
  refine (Nil.has x _).mono ?_
  rintro e w1 ⟨rfl, hb⟩
  have HB := hid hb
  clear hb
  go_wp2_with fail
  go_ret
  exact ⟨rfl, HB.out⟩
theorem Nil.fold (f : Fn) (a c : Array Value) (w : World) : Calls Try.prog 47 #[.pointer none, .func f a c] w (Ans (.tuple #[.slice none 0 0, .bool false]) w) := by
  go_enter Try.func47, Try.ntmps47
  go_wp2_with fail
  go_ret2
  exact ⟨rfl, Below.refl _ _⟩

set_option maxRecDepth 100000 in
set_option maxHeartbeats 4000000 in
theorem Rnone.law (w : World) : Calls Try.prog 9 #[] w (Ans (.bool true) w) := by
  have HB := hid (Below.refl w.heap.size w)
  go_enter Try.func9, Try.ntmps9
  go_wp2_with (first
    | (go_at_call 46; refine (Nil.min _).mono ?_; rintro e w1 ⟨rfl, hb⟩; have HB := hid (below_on HB.out hb); clear hb)
    | (go_at_call 47; refine (Nil.fold _ _ _ _).mono ?_; rintro e w1 ⟨rfl, hb⟩; have HB := hid (below_on HB.out hb); clear hb)
    | (go_at_call 28; refine (Law6.awake _).mono ?_; rintro e w1 ⟨rfl, hb⟩; have HB := hid (below_on HB.out hb); clear hb)
    | (go_at_call 37; refine (Nil.len _).mono ?_; rintro e w1 ⟨rfl, hb⟩; have HB := hid (below_on HB.out hb); clear hb)
    | (go_at_call 36; refine (Nil.depth _).mono ?_; rintro e w1 ⟨rfl, hb⟩; have HB := hid (below_on HB.out hb); clear hb)
    | (go_at_call 43; refine (Nil.all _).mono ?_; rintro e w1 ⟨rfl, hb⟩; have HB := hid (below_on HB.out hb); clear hb)
    | (go_at_call 33; refine (Nil.insert 1 _).mono ?_; rintro e w1 ⟨rfl, hb⟩; have HB := hid (below_on HB.out hb); clear hb)
    | (go_at_call 31; refine (Nil.delete 1 _).mono ?_; rintro e w1 ⟨rfl, hb⟩; have HB := hid (below_on HB.out hb); clear hb)
    | (go_at_call 44; refine (Nil.has 1 _).mono ?_; rintro e w1 ⟨rfl, hb⟩; have HB := hid (below_on HB.out hb); clear hb)
    | (go_at_call 30; refine (Nil.clone _).mono ?_; rintro e w1 ⟨rfl, hb⟩; have HB := hid (below_on HB.out hb); clear hb))
  go_ret
  exact ⟨rfl, HB.out⟩

end Go.Proofs.Ytcnmobehamgmbaa

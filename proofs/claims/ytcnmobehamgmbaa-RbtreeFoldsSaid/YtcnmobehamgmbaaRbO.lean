/- The tree of numbers: the chapter's example. -/
import Derived.Test.YtcnmobehamgmbaaRbN
namespace Go.Proofs.Ytcnmobehamgmbaa
open Go.RowKit

set_option maxRecDepth 100000 in
set_option maxHeartbeats 2000000 in
theorem Law6.awake (w : World) : Calls Try.prog 28 #[] w (Ans (.bool true) w) := by
  go_enter Try.func28, Try.ntmps28
  go_wp2_with fail
  refine (Law6.new _).mono ?_
  rintro e w1 ⟨th, rfl, hth, ht1, hb1⟩
  have HTH := hid hth
  have HT1 := hid ht1
  have HB1 := hid hb1
  clear hth ht1 hb1
  go_wp2_with fail
  refine (Rb.insert th .nil 3 _ HT1.out (by simp [Tr.list]) rfl).mono ?_
  rintro e w2 ⟨k1, hk1, rfl, ht2, hc2⟩
  have HT2 := hid (show TreeAt w2 th (.node k1 false .nil 3 .nil) from ht2)
  have HC2 := hid hc2
  have HK1 := hid hk1
  clear hk1 ht2 hc2
  go_wp2_with fail
  refine (Rb.insert th _ 1 _ HT2.out (by simp [Tr.list]) rfl).mono ?_
  rintro e w3 ⟨k2, hk2, rfl, ht3, hc3⟩
  have HT3 := hid (show TreeAt w3 th (.node k1 false (.node k2 true .nil 1 .nil) 3 .nil) from ht3)
  have HC3 := hid hc3
  have HK2 := hid hk2
  clear hk2 ht3 hc3
  go_wp2_with fail
  refine (Rb.insert th _ 2 _ HT3.out (by simp [Tr.list]) rfl).mono ?_
  rintro e w4 ⟨k3, hk3, rfl, ht4, hc4⟩
  have HT4 := hid (show TreeAt w4 th (.node k3 false (.node k2 false .nil 1 .nil) 2 (.node k1 false .nil 3 .nil)) from ht4)
  have HC4 := hid hc4
  have HK3 := hid hk3
  clear hk3 ht4 hc4
  have HB4 : Hid (Below w.heap.size w w4) := hid (by
    have s1 := HB1.out.size
    have s2 := HC2.out.size
    have s3 := HC3.out.size
    have k1 := HK1.out
    have k2 := HK2.out
    have h0 := HTH.out
    refine ((HB1.out.trans (HC2.out.toBelow s1 ?_)).trans (HC3.out.toBelow (by omega) ?_)).trans (HC4.out.toBelow (by omega) ?_)
    · intro g hg; simp [Tr.blocks] at hg; omega
    · intro g hg; simp [Tr.blocks] at hg; omega
    · intro g hg; simp [Tr.blocks] at hg; omega)
  go_wp2_with fail
  refine (Rb.all th _ _ HT4.out (by simp [Tr.list])).mono ?_
  rintro e w5 ⟨A, n, c, rfl, ho, hb5, _, _⟩
  have HO := hid ho
  have HB5 := hid hb5
  clear ho hb5
  go_wp2_with fail
  refine (Sls.equal _ _ _ _ _ _ [1, 2, 3] [1, 2, 3] _ (Own.rdi (zs := [1, 2, 3]) (HO.out.alloc _)) (RdU.new3 .i64 w5 3 1 2 3) (by have := HO.out.len; simp [Tr.list] at this; omega) (by omega)).mono ?_
  rintro e w6 ⟨rfl, hb6⟩
  have HB6 := hid hb6
  clear hb6
  go_wp2_with fail
  refine (Rb.depth th _ _ (((HT4.out.below HB5.out).below ((Below.refl _ _).alloc (Nat.le_refl _) _)).below HB6.out) (by simp [Tr.list])).mono ?_
  rintro e w7 ⟨rfl, hb7⟩
  have HB7 := hid hb7
  clear hb7
  go_wp2_with fail
  go_ret
  refine ⟨rfl, ?_⟩
  exact below_on (below_on (below_on (below_on HB4.out HB5.out) ((Below.refl _ _).alloc (Nat.le_refl _) _)) HB6.out) HB7.out

end Go.Proofs.Ytcnmobehamgmbaa

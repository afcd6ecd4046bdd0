import Derived.Test.YtjchnkmolhgpmaaGreatDoorSettleShiftsZ15
import Derived.Test.YtjchnkmolhgpmaaGreatDoorVlD
import Derived.Shelf.SlSortCmp.InsertionK
import Derived.Lib.Small
import Derived.Lib.Walk
namespace Go.Proofs.YtjchnkmolhgpmaaGreatDoor
open Go.Shelf Go.RowKit Go.Lib Go.Sort
instance : Inhabited Rq := ⟨Rq.no⟩
theorem Cmp.isNaN (x : Int) (w : World) : Calls Tryz.prog 86 #[.int .i64 x] w fun e w' => e = .returned (.bool false) ∧ w' = w := by
 go_enter Tryz.func86, Tryz.ntmps86
 go_wp2
 go_ret
 exact ⟨by simp, rfl⟩
set_option maxHeartbeats 1000000 in
theorem Cmp.ints (x y : Int) (w : World) : Calls Tryz.prog 47 #[.int .i64 x, .int .i64 y] w fun e w' => e = .returned (.int .i64 (Lib.compareInt x y)) ∧ w' = w := by
 go_enter Tryz.func47, Tryz.ntmps47;go_wp2_with (go_at_call 86; refine (Cmp.isNaN _ _).mono ?_; rintro e w' ⟨rfl, hw⟩; rw [hw])
 all_goals (go_ret; refine ⟨?_, rfl⟩; unfold Lib.compareInt; (repeat' split) <;> first | rfl | (exfalso; omega))
set_option maxHeartbeats 1000000 in
theorem Reqs.order (x y : Rq) (W : World) : Calls Tryz.prog 46 #[x.val, y.val] W fun e w' => e = .returned (.int .i64 (Lib.compareInt x.a.i y.a.i)) ∧ ∃ q os', w' = grow (W.drewN q) os' := by
 have hcon := fun W' => Cmp.ints x.a.i y.a.i W'
 generalize Lib.compareInt x.a.i y.a.i = r at hcon ⊢;have h1 := cell_of_row ((W.alloc (.cells #[.int .u64 x.a.t, .int .u32 x.a.r, .int .u32 x.a.v, .int .i64 x.a.i, .int .u64 x.a.u, .int .u32 x.a.s, .int .u32 x.a.y, .int .u64 x.l, .int .u64 x.s, .bool x.z] 59)).alloc (.cells #[.int .u64 y.a.t, .int .u32 y.a.r, .int .u32 y.a.v, .int .i64 y.a.i, .int .u64 y.a.u, .int .u32 y.a.s, .int .u32 y.a.y, .int .u64 y.l, .int .u64 y.s, .bool y.z] 59)) W.heap.size 3 #[.int .u64 x.a.t, .int .u32 x.a.r, .int .u32 x.a.v, .int .i64 x.a.i, .int .u64 x.a.u, .int .u32 x.a.s, .int .u32 x.a.y, .int .u64 x.l, .int .u64 x.s, .bool x.z] 59 (0, 0)
  ((Below.heap_alloc _ _ _ (by simp)).trans (World.alloc_heap_new W _))
 go_enter Tryz.func46, Tryz.ntmps46;go_wp2_with (go_at_call 47; refine (hcon _).mono ?_; rintro e w' ⟨rfl, rfl⟩);go_ret
 exact ⟨rfl, 0, _, by rw [alloc_eq_grow, alloc_eq_grow, grow_grow]; rfl⟩
theorem Reqs.lays (blk off size : Nat) (w : World) : CmpLays Tryz.prog 46 #[] Rq.cells 10 (fun x y => Lib.compareInt x.a.i y.a.i) blk off size w :=
 fun _ _ _ _ x y => Reqs.order x y _
theorem Reqs.less (x y : Rq) : ltOf (fun x y : Rq => Lib.compareInt x.a.i y.a.i) x y = decide (x.a.i < y.a.i) := by
 unfold ltOf Lib.compareInt;by_cases h1 : x.a.i < y.a.i
 ·simp [h1]
 ·by_cases h2 : y.a.i < x.a.i <;> simp [h1, h2]
theorem Reqs.swo : SWO (ltOf fun x y : Rq => Lib.compareInt x.a.i y.a.i) where
 irrefl x := by rw [Reqs.less]; simp
 trans x y z h1 h2 := by rw [Reqs.less] at *; simp at *; omega
 ntrans x y z h1 h2 := by rw [Reqs.less] at *; simp at *; omega
#print axioms Reqs.lays
end Go.Proofs.YtjchnkmolhgpmaaGreatDoor

import Derived.Test.YtnmbfjgcmfjdcaaGreatDoorCoreRefusesZ22
import Derived.Test.YtnmbfjgcmfjdcaaGreatDoorVlD
import Derived.Shelf.SlSortCmp.InsertionK
import Derived.Lib.Small
import Derived.Lib.Walk
namespace Go.Proofs.YtnmbfjgcmfjdcaaGreatDoor
open Go.Shelf Go.RowKit Go.Lib Go.Sort
instance:Inhabited Rq:=⟨Rq.no⟩
theorem oq.isNaN (x:Int) (w:World):Calls Tryz.prog 64 #[.int .i64 x] w fun e w'=>e= .returned (.bool false)∧w'=w:=by
 go_enter Tryz.func64,Tryz.ntmps64;go_wp2
 go_ret;exact⟨by simp,rfl⟩
set_option maxHeartbeats 1000000 in
theorem oq.ints (x y:Int) (w:World):Calls Tryz.prog 29 #[.int .i64 x, .int .i64 y] w fun e w'=>e= .returned (.int .i64 (Lib.compareInt x y))∧w'=w:=by
 go_enter Tryz.func29,Tryz.ntmps29;go_wp2_with (go_at_call 64;refine(oq.isNaN _ _).mono ?_;rintro e w' ⟨rfl,hw⟩;rw[hw])
 all_goals (go_ret;refine⟨?_,rfl⟩;unfold Lib.compareInt;(repeat' split)<;>first|rfl|(exfalso;omega))
set_option maxHeartbeats 1000000 in
theorem mY.order (x y:Rq) (W:World):Calls Tryz.prog 28 #[x.val,y.val] W fun e w'=>e= .returned (.int .i64 (Lib.compareInt x.a.i y.a.i))∧∃q os',w'=grow (W.drewN q) os':=by
 have hcon:=fun W'=>oq.ints x.a.i y.a.i W';generalize Lib.compareInt x.a.i y.a.i=r at hcon⊢
 have h1:=cell_of_row ((W.alloc (.cells x 59)).alloc (.cells y 59)) W.heap.size 3 x 59 (0,0)
  ((Below.heap_alloc _ _ _ ag).trans (World.alloc_heap_new W _))
 go_enter Tryz.func28,Tryz.ntmps28;go_wp2_with (go_at_call 29;refine(hcon _).mono ?_;rintro e w' ⟨rfl,rfl⟩)
 go_ret;exact⟨rfl,0,_,by rw[alloc_eq_grow,alloc_eq_grow,grow_grow];rfl⟩
theorem mY.lays (blk off size:Nat) (w:World):CmpLays Tryz.prog 28 #[] Rq.cells 10 (fun x y=>Lib.compareInt x.a.i y.a.i) blk off size w:=
 fun _ _ _ _ x y=>mY.order x y _
theorem mY.less (x y:Rq):ltOf (fun x y:Rq=>Lib.compareInt x.a.i y.a.i) x y=decide (x.a.i<y.a.i):=by
 unfold ltOf Lib.compareInt;by_cases h1:x.a.i<y.a.i
 ·simp[h1]
 ·by_cases h2:y.a.i<x.a.i<;>simp[h1,h2]
theorem mY.swo:SWO (ltOf fun x y:Rq=>Lib.compareInt x.a.i y.a.i) where
 irrefl x:=by rw[mY.less];simp
 trans x y z h1 h2:=by rw[mY.less] at *;simp at *;omega
 ntrans x y z h1 h2:=by rw[mY.less] at *;simp at *;omega
#print axioms mY.lays
end Go.Proofs.YtnmbfjgcmfjdcaaGreatDoor

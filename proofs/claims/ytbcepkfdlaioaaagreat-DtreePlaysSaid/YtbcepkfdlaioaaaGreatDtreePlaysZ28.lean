/- Texts of DtreePlays's proof, together. -/
import Derived.Test.YtbcepkfdlaioaaaGreatRbM
import Derived.Shelf.Lay
import Derived.Shelf.Slices.Empties2
namespace Go.Proofs.YtbcepkfdlaioaaaGreat

section
open Go.RowKit Go.Shelf
section
variable {P : Program} (w : World)
theorem run_equalIn_func_nil (d : Nat) (t : TypeId) (f : Fn) (a c : Array Value) {ps rs : Array TypeId} {vd : Bool} (h : P.underlying t = some (.func ps rs vd)) :
  (Op.equalIn (d + 1) t (.func f a c) .nilFunc).run P w = .ok false w := by
 simp [Op.equalIn, run_underlying h]
theorem run_eql_func_nil (t : TypeId) (f : Fn) (a c : Array Value) {ps rs : Array TypeId} {vd : Bool} (h : P.underlying t = some (.func ps rs vd)) :
  (binOp .eql t (.func f a c) .nilFunc).run P w = .ok (.bool false) w := by
 simp only [binOp]
 simp [show (Op.equal t (.func f a c) .nilFunc).run P w = .ok false w from run_equalIn_func_nil w 9999 t f a c h]
end
theorem eqlFless (f : Fn) (a c : Array Value) (w : World) : (binOp .eql 104 (.func f a c) .nilFunc).run Tryz.prog w = .ok (.bool false) w := run_eql_func_nil w _ f a c Tryz.underlying104
theorem eqlFone (f : Fn) (a c : Array Value) (w : World) : (binOp .eql 105 (.func f a c) .nilFunc).run Tryz.prog w = .ok (.bool false) w := run_eql_func_nil w _ f a c Tryz.underlying105
theorem eqlFboth (f : Fn) (a c : Array Value) (w : World) : (binOp .eql 106 (.func f a c) .nilFunc).run Tryz.prog w = .ok (.bool false) w := run_eql_func_nil w _ f a c Tryz.underlying106
def News (w : World) (e : Ending) (w' : World) : Prop := ∃ th, e = .returned (.pointer (some ⟨th, 0, none⟩)) ∧ w.heap.size ≤ th ∧ TreeAt w' th .nil ∧ Below w.heap.size w w'
section
attribute [local go_sem] eqlFless eqlFone eqlFboth
set_option maxRecDepth 100000 in
set_option maxHeartbeats 1000000 in
theorem Rb.new (w : World) :
  Calls Tryz.prog 80 #[.func (.func 81) #[] #[], .func (.func 82) #[] #[], .func (.func 83) #[] #[]] w (News w) := by
 have HN : Hid (∀ W, W = ((w.alloc (.cells #[.func (.func 82) #[] #[]] 105)).alloc (.cells #[.func (.func 83) #[] #[]] 106)) →
   TreeAt (W.alloc (.cells #[.func (.func 81) #[] #[], .func (.func 83) #[] #[], .func (.func 99) #[] #[.pointer (some ⟨w.heap.size, 0, none⟩), .pointer (some ⟨w.heap.size + 1, 0, none⟩)], .pointer none, .int .i64 0] 111)) (w.heap.size + 2) .nil) := hid (by
  rintro W rfl
  have h1 := Cs.alloc_new w 105 [.func (.func 82) #[] #[]]
  have h2 := Cs.alloc_new (w.alloc (.cells #[.func (.func 82) #[] #[]] 105)) 106 [.func (.func 83) #[] #[]]
  have h3 := Cs.alloc_new ((w.alloc (.cells #[.func (.func 82) #[] #[]] 105)).alloc (.cells #[.func (.func 83) #[] #[]] 106)) 111 [.func (.func 81) #[] #[], .func (.func 83) #[] #[], .func (.func 99) #[] #[.pointer (some ⟨w.heap.size, 0, none⟩), .pointer (some ⟨w.heap.size + 1, 0, none⟩)], .pointer none, .int .i64 0]
  simp only [World.size_alloc] at h2 h3
  refine ⟨⟨w.heap.size, w.heap.size + 1, h3, (h1.alloc _).alloc _, h2.alloc _, ?_, ?_⟩, trivial, List.nodup_nil⟩
  ·simp [go_sem]
  ·simp [go_sem])
 go_enter Tryz.func80, Tryz.ntmps80
 go_wp2_with fail
 go_ret
 exact ⟨w.heap.size + 2, rfl, by omega, HN.out _ rfl, (((Below.refl _ _).alloc (Nat.le_refl _) _).alloc (by simp) _).alloc (by simp; omega) _⟩
end
set_option maxHeartbeats 1000000 in
theorem Law6.new (w : World) : Calls Tryz.prog 61 #[] w (News w) := by
 go_enter Tryz.func61, Tryz.ntmps61
 go_wp2_with fail
 refine (Rb.new _).mono ?_
 rintro e w1 ⟨th, rfl, h⟩
 have H := hid h
 clear h
 go_wp2_with fail
 go_ret
 exact ⟨th, rfl, H.out⟩
def Tryz.lays111_ren : Go.Shelf.Ren := ⟨fun | 111 => 63 | n => n, fun | 28 => 89 | 3 => 3 | 4 => 4 | 0 => 0 | n => n, fun | n => n⟩
theorem Tryz.lays111 : Go.Proofs.Lays.n111 Tryz.prog Tryz.lays111_ren := open Go.Proofs.Tryz in { mixed := by kernel_rfl, f111 := func63.trans (congrArg some (by kernel_rfl)), t0 := underlying0, a0 := isAgg0, z0 := sizeOf0, v0 := zeroValue0, t3 := underlying3, a3 := isAgg3, z3 := sizeOf3, v3 := zeroValue3, t4 := underlying4, a4 := isAgg4, z4 := sizeOf4, v4 := zeroValue4, t28 := underlying89, a28 := isAgg89, z28 := sizeOf89, v28 := zeroValue89 }
theorem Sls.equal (A B : Option Addr) (n c m d : Nat) (xs ys : List Int) (w : World) (hx : RdU .i64 w A n xs) (hy : RdU .i64 w B m ys) (hn : n ≤ 1000000) (hm : m ≤ 1000000) :
  Calls Tryz.prog 63 #[.slice A n c, .slice B m d] w (Ans (.bool (xs == ys)) w) := by
 by_cases hnm : n = m
 ·subst hnm
  by_cases h0 : n = 0
  ·subst h0
   refine (Any.slices_Equal_int_empty Tryz.lays111 A B c 0 d w (by omega)).mono ?_
   rintro e w' ⟨rfl, rfl⟩
   have e1 : xs = [] := List.eq_nil_of_length_eq_zero hx.1
   have e2 : ys = [] := List.eq_nil_of_length_eq_zero hy.1
   subst e1 e2
   exact ⟨rfl, Below.refl _ _⟩
  ·obtain ⟨b1, o1, rfl, _, c1⟩ := hx.2 0 (by omega)
   obtain ⟨b2, o2, rfl, _, c2⟩ := hy.2 0 (by omega)
   have l1 := hx.1
   have l2 := hy.1
   refine (Any.slices_Equal_int Tryz.lays111 b1 o1 n c b2 o2 n d xs ys w (by omega) (by omega) (by omega) (by omega) (fun j hj => c1 j (by omega)) (fun j hj => c2 j (by omega))).mono ?_
   rintro e w' ⟨rfl, q, rfl⟩
   rw [List.take_of_length_le (by omega), List.take_of_length_le (by omega)]
   exact ⟨rfl, rfl, rfl, rfl, Nat.le_refl _, fun _ _ => rfl⟩
 ·refine (Any.slices_Equal_int_lens Tryz.lays111 A B n c m d w hnm).mono ?_
  rintro e w' ⟨rfl, rfl⟩
  have : (xs == ys) = false := by
   rw [beq_eq_false_iff_ne]
   intro e
   have l1 := hx.1
   have l2 := hy.1
   rw [e] at l1
   omega
  rw [this]
  exact ⟨rfl, Below.refl _ _⟩
theorem Own.rdi {w : World} {base : Nat} {A : Option Addr} {n c : Nat} {zs : List Int} (h : Own w base A n c zs) : RdU .i64 w A n zs := by
 refine ⟨h.len, fun i hn => ?_⟩
 obtain ⟨g, cap, hv, _, _⟩ := h.form (by omega)
 have hA : A = some ⟨g, 0, none⟩ := by injection hv
 subst hA
 have hc : ∀ j, j < n → w.cell? ⟨g, 0 + j, none⟩ = some (.int .i64 (zs.getD j 0)) := fun j hj => by
  have hc := h.cells (g := g) rfl j (.int .i64 (zs.getD j 0)) (by rw [List.getElem?_map]; have := h.len; simp [List.getD, show j < zs.length by omega])
  by_cases h0 : j = 0
  ·subst h0; simpa [Addr.add] using hc
  ·simpa [Addr.add, h0] using hc
 exact ⟨g, 0, rfl, World.block_lt_of_cell? w _ (hc i hn), hc⟩
end


section
open Go.RowKit
set_option maxRecDepth 100000 in
set_option maxHeartbeats 2000000 in
theorem Law6.awake (w : World) : Calls Tryz.prog 45 #[] w (Ans (.bool true) w) := by
 go_enter Tryz.func45, Tryz.ntmps45
 go_wp2_with fail
 refine (Law6.new _).mono ?_
 rintro e w1 ⟨th, rfl, hth, ht1, hb1⟩
 have HTH := hid hth
 have HT1 := hid ht1
 have HB1 := hid hb1
 clear hth ht1 hb1
 go_wp2_with fail
 refine (Rb.insert th .nil 3 _ HT1.out (by simp [Tr.list]) rfl).mono ?_
 rintro e w2 ⟨k1, hk1, rfl, ht2, hc2⟩
 have HT2 := hid (show TreeAt w2 th (.node k1 false .nil 3 .nil) from ht2)
 have HC2 := hid hc2
 have HK1 := hid hk1
 clear hk1 ht2 hc2
 go_wp2_with fail
 refine (Rb.insert th _ 1 _ HT2.out (by simp [Tr.list]) rfl).mono ?_
 rintro e w3 ⟨k2, hk2, rfl, ht3, hc3⟩
 have HT3 := hid (show TreeAt w3 th (.node k1 false (.node k2 true .nil 1 .nil) 3 .nil) from ht3)
 have HC3 := hid hc3
 have HK2 := hid hk2
 clear hk2 ht3 hc3
 go_wp2_with fail
 refine (Rb.insert th _ 2 _ HT3.out (by simp [Tr.list]) rfl).mono ?_
 rintro e w4 ⟨k3, hk3, rfl, ht4, hc4⟩
 have HT4 := hid (show TreeAt w4 th (.node k3 false (.node k2 false .nil 1 .nil) 2 (.node k1 false .nil 3 .nil)) from ht4)
 have HC4 := hid hc4
 have HK3 := hid hk3
 clear hk3 ht4 hc4
 have HB4 : Hid (Below w.heap.size w w4) := hid (by
  have s1 := HB1.out.size
  have s2 := HC2.out.size
  have s3 := HC3.out.size
  have k1 := HK1.out
  have k2 := HK2.out
  have h0 := HTH.out
  refine ((HB1.out.trans (HC2.out.toBelow s1 ?_)).trans (HC3.out.toBelow (by omega) ?_)).trans (HC4.out.toBelow (by omega) ?_)
  ·intro g hg; simp [Tr.blocks] at hg; omega
  ·intro g hg; simp [Tr.blocks] at hg; omega
  ·intro g hg; simp [Tr.blocks] at hg; omega)
 go_wp2_with fail
 refine (Rb.all th _ _ HT4.out (by simp [Tr.list])).mono ?_
 rintro e w5 ⟨A, n, c, rfl, ho, hb5, _, _⟩
 have HO := hid ho
 have HB5 := hid hb5
 clear ho hb5
 go_wp2_with fail
 refine (Sls.equal _ _ _ _ _ _ [1, 2, 3] [1, 2, 3] _ (Own.rdi (zs := [1, 2, 3]) (HO.out.alloc _)) (RdU.new3 .i64 w5 3 1 2 3) (by have := HO.out.len; simp [Tr.list] at this; omega) (by omega)).mono ?_
 rintro e w6 ⟨rfl, hb6⟩
 have HB6 := hid hb6
 clear hb6
 go_wp2_with fail
 refine (Rb.depth th _ _ (((HT4.out.below HB5.out).below ((Below.refl _ _).alloc (Nat.le_refl _) _)).below HB6.out) (by simp [Tr.list])).mono ?_
 rintro e w7 ⟨rfl, hb7⟩
 have HB7 := hid hb7
 clear hb7
 go_wp2_with fail
 go_ret
 refine ⟨rfl, ?_⟩
 exact below_on (below_on (below_on (below_on HB4.out HB5.out) ((Below.refl _ _).alloc (Nat.le_refl _) _)) HB6.out) HB7.out
end

end Go.Proofs.YtbcepkfdlaioaaaGreat

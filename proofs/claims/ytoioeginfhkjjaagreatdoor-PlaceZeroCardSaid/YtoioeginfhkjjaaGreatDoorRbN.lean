/- The tree of numbers: New, slices.Equal, and what all acts keep. -/
import Derived.Test.YtoioeginfhkjjaaGreatDoorRbM
import Derived.Shelf.Lay
import Derived.Shelf.Slices.Empties2
namespace Go.Proofs.YtoioeginfhkjjaaGreatDoor
open Go.RowKit Go.Shelf

section
variable {P : Program} (w : World)
theorem run_equalIn_func_nil (d : Nat) (t : TypeId) (f : Fn) (a c : Array Value) {ps rs : Array TypeId} {vd : Bool} (h : P.underlying t = some (.func ps rs vd)) :
    (Op.equalIn (d + 1) t (.func f a c) .nilFunc).run P w = .ok false w := by
  simp [Op.equalIn, run_underlying h]
theorem run_eql_func_nil (t : TypeId) (f : Fn) (a c : Array Value) {ps rs : Array TypeId} {vd : Bool} (h : P.underlying t = some (.func ps rs vd)) :
    (binOp .eql t (.func f a c) .nilFunc).run P w = .ok (.bool false) w := by
  simp only [binOp]
  simp [show (Op.equal t (.func f a c) .nilFunc).run P w = .ok false w from run_equalIn_func_nil w 9999 t f a c h]
end

theorem eqlFless (f : Fn) (a c : Array Value) (w : World) : (binOp .eql 193 (.func f a c) .nilFunc).run Tryz.prog w = .ok (.bool false) w := run_eql_func_nil w _ f a c Tryz.underlying193
theorem eqlFone (f : Fn) (a c : Array Value) (w : World) : (binOp .eql 194 (.func f a c) .nilFunc).run Tryz.prog w = .ok (.bool false) w := run_eql_func_nil w _ f a c Tryz.underlying194
theorem eqlFboth (f : Fn) (a c : Array Value) (w : World) : (binOp .eql 195 (.func f a c) .nilFunc).run Tryz.prog w = .ok (.bool false) w := run_eql_func_nil w _ f a c Tryz.underlying195
theorem eqlFin (f : Fn) (a c : Array Value) (w : World) : (binOp .eql 181 (.func f a c) .nilFunc).run Tryz.prog w = .ok (.bool false) w := run_eql_func_nil w _ f a c Tryz.underlying181

/-- What New answers. -/
def News (w : World) (e : Ending) (w' : World) : Prop := ∃ th, e = .returned (.pointer (some ⟨th, 0, none⟩)) ∧ w.heap.size ≤ th ∧ TreeAt w' th .nil ∧ Below w.heap.size w w'

section
attribute [local go_sem] eqlFless eqlFone eqlFboth
set_option maxRecDepth 100000 in
set_option maxHeartbeats 1000000 in
theorem Rb.new (w : World) :
    Calls Tryz.prog 159 #[.func (.func 160) #[] #[], .func (.func 161) #[] #[], .func (.func 162) #[] #[]] w (News w) := by
  have HN : Hid (∀ W, W = ((w.alloc (.cells #[.func (.func 161) #[] #[]] 194)).alloc (.cells #[.func (.func 162) #[] #[]] 195)) →
      TreeAt (W.alloc (.cells #[.func (.func 160) #[] #[], .func (.func 162) #[] #[], .func (.func 176) #[] #[.pointer (some ⟨w.heap.size, 0, none⟩), .pointer (some ⟨w.heap.size + 1, 0, none⟩)], .pointer none, .int .i64 0] 200)) (w.heap.size + 2) .nil) := hid (by
    rintro W rfl
    have h1 := Cs.alloc_new w 194 [.func (.func 161) #[] #[]]
    have h2 := Cs.alloc_new (w.alloc (.cells #[.func (.func 161) #[] #[]] 194)) 195 [.func (.func 162) #[] #[]]
    have h3 := Cs.alloc_new ((w.alloc (.cells #[.func (.func 161) #[] #[]] 194)).alloc (.cells #[.func (.func 162) #[] #[]] 195)) 200 [.func (.func 160) #[] #[], .func (.func 162) #[] #[], .func (.func 176) #[] #[.pointer (some ⟨w.heap.size, 0, none⟩), .pointer (some ⟨w.heap.size + 1, 0, none⟩)], .pointer none, .int .i64 0]
    simp only [World.size_alloc] at h2 h3
    refine ⟨⟨w.heap.size, w.heap.size + 1, h3, (h1.alloc _).alloc _, h2.alloc _, ?_, ?_⟩, trivial, List.nodup_nil⟩
    · simp [go_sem]
    · simp [go_sem])
  go_enter Tryz.func159, Tryz.ntmps159
  go_wp2_with fail
  go_ret
  exact ⟨w.heap.size + 2, rfl, by omega, HN.out _ rfl, (((Below.refl _ _).alloc (Nat.le_refl _) _).alloc (by simp) _).alloc (by simp; omega) _⟩
end

set_option maxHeartbeats 1000000 in
theorem Law6.new (w : World) : Calls Tryz.prog 147 #[] w (News w) := by
  go_enter Tryz.func147, Tryz.ntmps147
  go_wp2_with fail
  refine (Rb.new _).mono ?_
  rintro e w1 ⟨th, rfl, h⟩
  have H := hid h
  clear h
  go_wp2_with fail
  go_ret
  exact ⟨th, rfl, H.out⟩

def Tryz.lays111_ren : Go.Shelf.Ren := ⟨fun | 111 => 47 | n => n, fun | 28 => 39 | 3 => 3 | 4 => 4 | 0 => 0 | n => n, fun | n => n⟩
open Go.Proofs.Tryz in
theorem Tryz.lays111 : Go.Proofs.Lays.n111 Tryz.prog Tryz.lays111_ren := { mixed := by kernel_rfl, f111 := func47.trans (congrArg some (by kernel_rfl)), t0 := underlying0, a0 := isAgg0, z0 := sizeOf0, v0 := zeroValue0, t3 := underlying3, a3 := isAgg3, z3 := sizeOf3, v3 := zeroValue3, t4 := underlying4, a4 := isAgg4, z4 := sizeOf4, v4 := zeroValue4, t28 := underlying39, a28 := isAgg39, z28 := sizeOf39, v28 := zeroValue39 }

/-- slices.Equal of two slices that read as lists. -/
theorem Sls.equal (A B : Option Addr) (n c m d : Nat) (xs ys : List Int) (w : World) (hx : RdU .i64 w A n xs) (hy : RdU .i64 w B m ys) (hn : n ≤ 1000000) (hm : m ≤ 1000000) :
    Calls Tryz.prog 47 #[.slice A n c, .slice B m d] w (Ans (.bool (xs == ys)) w) := by
  by_cases hnm : n = m
  · subst hnm
    by_cases h0 : n = 0
    · subst h0
      refine (Any.slices_Equal_int_empty Tryz.lays111 A B c 0 d w (by omega)).mono ?_
      rintro e w' ⟨rfl, rfl⟩
      have e1 : xs = [] := List.eq_nil_of_length_eq_zero hx.1
      have e2 : ys = [] := List.eq_nil_of_length_eq_zero hy.1
      subst e1 e2
      exact ⟨rfl, Below.refl _ _⟩
    · obtain ⟨b1, o1, rfl, _, c1⟩ := hx.2 0 (by omega)
      obtain ⟨b2, o2, rfl, _, c2⟩ := hy.2 0 (by omega)
      have l1 := hx.1
      have l2 := hy.1
      refine (Any.slices_Equal_int Tryz.lays111 b1 o1 n c b2 o2 n d xs ys w (by omega) (by omega) (by omega) (by omega) (fun j hj => c1 j (by omega)) (fun j hj => c2 j (by omega))).mono ?_
      rintro e w' ⟨rfl, q, rfl⟩
      rw [List.take_of_length_le (by omega), List.take_of_length_le (by omega)]
      exact ⟨rfl, rfl, rfl, rfl, Nat.le_refl _, fun _ _ => rfl⟩
  · refine (Any.slices_Equal_int_lens Tryz.lays111 A B n c m d w hnm).mono ?_
    rintro e w' ⟨rfl, rfl⟩
    have : (xs == ys) = false := by
      rw [beq_eq_false_iff_ne]
      intro e
      have l1 := hx.1
      have l2 := hy.1
      rw [e] at l1
      omega
    rw [this]
    exact ⟨rfl, Below.refl _ _⟩
theorem Own.rdi {w : World} {base : Nat} {A : Option Addr} {n c : Nat} {zs : List Int} (h : Own w base A n c zs) : RdU .i64 w A n zs := by
  refine ⟨h.len, fun i hn => ?_⟩
  obtain ⟨g, cap, hv, _, _⟩ := h.form (by omega)
  have hA : A = some ⟨g, 0, none⟩ := by injection hv
  subst hA
  have hc : ∀ j, j < n → w.cell? ⟨g, 0 + j, none⟩ = some (.int .i64 (zs.getD j 0)) := fun j hj => by
    have hc := h.cells (g := g) rfl j (.int .i64 (zs.getD j 0)) (by rw [List.getElem?_map]; have := h.len; simp [List.getD, show j < zs.length by omega])
    by_cases h0 : j = 0
    · subst h0; simpa [Addr.add] using hc
    · simpa [Addr.add, h0] using hc
  exact ⟨g, 0, rfl, World.block_lt_of_cell? w _ (hc i hn), hc⟩

/-- A tree that is kept well, of things in order. -/
def Grove (B : Nat) (th : Nat) (t : Tr Int) (w : World) : Prop := TreeAt w th t ∧ t.Whole ∧ Srt t.list ∧ B ≤ th ∧ ∀ g ∈ t.blocks, B ≤ g
theorem Grove.below {B th : Nat} {t : Tr Int} {w w' : World} (h : Grove B th t w) (hb : Below w.heap.size w w') : Grove B th t w' := ⟨h.1.below hb, h.2⟩
theorem News.grove {w' : World} {B th : Nat} (h : TreeAt w' th .nil) (hB : B ≤ th) : Grove B th .nil w' := ⟨h, Tr.Whole.nil, List.Pairwise.nil, hB, fun g hg => by simp [Tr.blocks] at hg⟩

/-- What an act answers, and keeps. -/
def Acts (B th : Nat) (t : Tr Int) (ok : Bool) (L : List Int) (w : World) (e : Ending) (w' : World) : Prop := ∃ t', e = .returned (.bool ok) ∧ t'.list = L ∧ Grove B th t' w' ∧ Chg (th :: t.blocks) w w' ∧ ∀ g ∈ t'.blocks, g ∈ t.blocks ∨ w.heap.size ≤ g

theorem Gr.insert (B th : Nat) (t : Tr Int) (x : Int) (w : World) (h : Grove B th t w) (hB : B ≤ w.heap.size) (hn : t.list.length < 900000) :
    Calls Tryz.prog 148 #[.pointer (some ⟨th, 0, none⟩), .int .i64 x] w (Acts B th t (!decide (x ∈ t.list)) (if x ∈ t.list then t.list else insL x t.list) w) := by
  obtain ⟨h1, h2, h3, h4, h5⟩ := h
  by_cases hx : x ∈ t.list
  · rw [if_pos hx, decide_eq_true hx]
    refine (Rb.insert_no th t x w h1 ((Tr.has_iff x t h3).2 hx)).mono ?_
    rintro e w' ⟨rfl, hb⟩
    exact ⟨t, rfl, rfl, ⟨h1.below hb, h2, h3, h4, h5⟩, Chg.below hb, fun g hg => Or.inl hg⟩
  · rw [if_neg hx, decide_eq_false hx]
    have hh : Tr.has ltI x t = false := by
      cases hc : Tr.has ltI x t with
      | false => rfl
      | true => exact absurd ((Tr.has_iff x t h3).1 hc) hx
    refine (Rb.insert th t x w h1 hn hh).mono ?_
    rintro e w' ⟨k, hk, rfl, ht, hc⟩
    have hl : ((Tr.put ltI k x t).paint false).list = insL x t.list := by rw [Tr.list_paint]; exact Tr.list_put_srt k x t h3 hx
    have hbl : ∀ g ∈ ((Tr.put ltI k x t).paint false).blocks, g ∈ t.blocks ∨ w.heap.size ≤ g := fun g hg => by
      rw [Tr.blocks_paint] at hg
      rcases List.mem_cons.1 ((Tr.perm_put ltI k x t).mem_iff.1 hg) with rfl | h6
      · exact Or.inr hk
      · exact Or.inl h6
    refine ⟨_, rfl, hl, ⟨ht, h2.put ltI k x, by rw [hl]; exact h3.ins hx, h4, fun g hg => ?_⟩, hc, hbl⟩
    rcases hbl g hg with h6 | h6
    · exact h5 g h6
    · omega

end Go.Proofs.YtoioeginfhkjjaaGreatDoor

/- Texts of RbtreePlays's proof, together. -/
import Derived.Test.YtmklbmiddeonkaaRbM
import Derived.Shelf.Lay
import Derived.Shelf.Slices.Empties2
namespace Go.Proofs.Ytmklbmiddeonkaa
/- The tree of numbers: New, slices.Equal, and what all acts keep. -/
section
open Go.RowKit Go.Shelf

section
variable {P : Program} (w : World)
theorem run_equalIn_func_nil (d : Nat) (t : TypeId) (f : Fn) (a c : Array Value) {ps rs : Array TypeId} {vd : Bool} (h : P.underlying t = some (.func ps rs vd)) :
    (Op.equalIn (d + 1) t (.func f a c) .nilFunc).run P w = .ok false w := by
  simp [Op.equalIn, run_underlying h]
theorem run_eql_func_nil (t : TypeId) (f : Fn) (a c : Array Value) {ps rs : Array TypeId} {vd : Bool} (h : P.underlying t = some (.func ps rs vd)) :
    (binOp .eql t (.func f a c) .nilFunc).run P w = .ok (.bool false) w := by
  simp only [binOp]
  simp [show (Op.equal t (.func f a c) .nilFunc).run P w = .ok false w from run_equalIn_func_nil w 9999 t f a c h]
end

theorem eqlFless (f : Fn) (a c : Array Value) (w : World) : (binOp .eql 95 (.func f a c) .nilFunc).run Try.prog w = .ok (.bool false) w := run_eql_func_nil w _ f a c Try.underlying95
theorem eqlFone (f : Fn) (a c : Array Value) (w : World) : (binOp .eql 96 (.func f a c) .nilFunc).run Try.prog w = .ok (.bool false) w := run_eql_func_nil w _ f a c Try.underlying96
theorem eqlFboth (f : Fn) (a c : Array Value) (w : World) : (binOp .eql 97 (.func f a c) .nilFunc).run Try.prog w = .ok (.bool false) w := run_eql_func_nil w _ f a c Try.underlying97
theorem eqlFin (f : Fn) (a c : Array Value) (w : World) : (binOp .eql 58 (.func f a c) .nilFunc).run Try.prog w = .ok (.bool false) w := run_eql_func_nil w _ f a c Try.underlying58

/-- What New answers. -/
def News (w : World) (e : Ending) (w' : World) : Prop := ∃ th, e = .returned (.pointer (some ⟨th, 0, none⟩)) ∧ w.heap.size ≤ th ∧ TreeAt w' th .nil ∧ Below w.heap.size w w'

section
attribute [local go_sem] eqlFless eqlFone eqlFboth
set_option maxRecDepth 100000 in
set_option maxHeartbeats 1000000 in
theorem Rb.new (w : World) :
    Calls Try.prog 66 #[.func (.func 67) #[] #[], .func (.func 68) #[] #[], .func (.func 69) #[] #[]] w (News w) := by
  have HN : Hid (∀ W, W = ((w.alloc (.cells #[.func (.func 68) #[] #[]] 96)).alloc (.cells #[.func (.func 69) #[] #[]] 97)) →
      TreeAt (W.alloc (.cells #[.func (.func 67) #[] #[], .func (.func 69) #[] #[], .func (.func 102) #[] #[.pointer (some ⟨w.heap.size, 0, none⟩), .pointer (some ⟨w.heap.size + 1, 0, none⟩)], .pointer none, .int .i64 0] 101)) (w.heap.size + 2) .nil) := hid (by
    rintro W rfl
    have h1 := Cs.alloc_new w 96 [.func (.func 68) #[] #[]]
    have h2 := Cs.alloc_new (w.alloc (.cells #[.func (.func 68) #[] #[]] 96)) 97 [.func (.func 69) #[] #[]]
    have h3 := Cs.alloc_new ((w.alloc (.cells #[.func (.func 68) #[] #[]] 96)).alloc (.cells #[.func (.func 69) #[] #[]] 97)) 101 [.func (.func 67) #[] #[], .func (.func 69) #[] #[], .func (.func 102) #[] #[.pointer (some ⟨w.heap.size, 0, none⟩), .pointer (some ⟨w.heap.size + 1, 0, none⟩)], .pointer none, .int .i64 0]
    simp only [World.size_alloc] at h2 h3
    refine ⟨⟨w.heap.size, w.heap.size + 1, h3, (h1.alloc _).alloc _, h2.alloc _, ?_, ?_⟩, trivial, List.nodup_nil⟩
    · simp [go_sem]
    · simp [go_sem])
  go_enter Try.func66, Try.ntmps66
  go_wp2_with fail
  go_ret
  exact ⟨w.heap.size + 2, rfl, by omega, HN.out _ rfl, (((Below.refl _ _).alloc (Nat.le_refl _) _).alloc (by simp) _).alloc (by simp; omega) _⟩
end

set_option maxHeartbeats 1000000 in
theorem Law6.new (w : World) : Calls Try.prog 26 #[] w (News w) := by
  go_enter Try.func26, Try.ntmps26
  go_wp2_with fail
  refine (Rb.new _).mono ?_
  rintro e w1 ⟨th, rfl, h⟩
  have H := hid h
  clear h
  go_wp2_with fail
  go_ret
  exact ⟨th, rfl, H.out⟩

def Try.lays111_ren : Go.Shelf.Ren := ⟨fun | 111 => 37 | n => n, fun | 28 => 45 | 3 => 3 | 4 => 4 | 0 => 0 | n => n, fun | n => n⟩
open Go.Proofs.Try in
theorem Try.lays111 : Go.Proofs.Lays.n111 Try.prog Try.lays111_ren := { mixed := by kernel_rfl, f111 := func37.trans (congrArg some (by kernel_rfl)), t0 := underlying0, a0 := isAgg0, z0 := sizeOf0, v0 := zeroValue0, t3 := underlying3, a3 := isAgg3, z3 := sizeOf3, v3 := zeroValue3, t4 := underlying4, a4 := isAgg4, z4 := sizeOf4, v4 := zeroValue4, t28 := underlying45, a28 := isAgg45, z28 := sizeOf45, v28 := zeroValue45 }

/-- slices.Equal of two slices that read as lists. -/
theorem Sls.equal (A B : Option Addr) (n c m d : Nat) (xs ys : List Int) (w : World) (hx : RdU .i64 w A n xs) (hy : RdU .i64 w B m ys) (hn : n ≤ 1000000) (hm : m ≤ 1000000) :
    Calls Try.prog 37 #[.slice A n c, .slice B m d] w (Ans (.bool (xs == ys)) w) := by
  by_cases hnm : n = m
  · subst hnm
    by_cases h0 : n = 0
    · subst h0
      refine (Any.slices_Equal_int_empty Try.lays111 A B c 0 d w (by omega)).mono ?_
      rintro e w' ⟨rfl, rfl⟩
      have e1 : xs = [] := List.eq_nil_of_length_eq_zero hx.1
      have e2 : ys = [] := List.eq_nil_of_length_eq_zero hy.1
      subst e1 e2
      exact ⟨rfl, Below.refl _ _⟩
    · obtain ⟨b1, o1, rfl, _, c1⟩ := hx.2 0 (by omega)
      obtain ⟨b2, o2, rfl, _, c2⟩ := hy.2 0 (by omega)
      have l1 := hx.1
      have l2 := hy.1
      refine (Any.slices_Equal_int Try.lays111 b1 o1 n c b2 o2 n d xs ys w (by omega) (by omega) (by omega) (by omega) (fun j hj => c1 j (by omega)) (fun j hj => c2 j (by omega))).mono ?_
      rintro e w' ⟨rfl, q, rfl⟩
      rw [List.take_of_length_le (by omega), List.take_of_length_le (by omega)]
      exact ⟨rfl, rfl, rfl, rfl, Nat.le_refl _, fun _ _ => rfl⟩
  · refine (Any.slices_Equal_int_lens Try.lays111 A B n c m d w hnm).mono ?_
    rintro e w' ⟨rfl, rfl⟩
    have : (xs == ys) = false := by
      rw [beq_eq_false_iff_ne]
      intro e
      have l1 := hx.1
      have l2 := hy.1
      rw [e] at l1
      omega
    rw [this]
    exact ⟨rfl, Below.refl _ _⟩
theorem Own.rdi {w : World} {base : Nat} {A : Option Addr} {n c : Nat} {zs : List Int} (h : Own w base A n c zs) : RdU .i64 w A n zs := by
  refine ⟨h.len, fun i hn => ?_⟩
  obtain ⟨g, cap, hv, _, _⟩ := h.form (by omega)
  have hA : A = some ⟨g, 0, none⟩ := by injection hv
  subst hA
  have hc : ∀ j, j < n → w.cell? ⟨g, 0 + j, none⟩ = some (.int .i64 (zs.getD j 0)) := fun j hj => by
    have hc := h.cells (g := g) rfl j (.int .i64 (zs.getD j 0)) (by rw [List.getElem?_map]; have := h.len; simp [List.getD, show j < zs.length by omega])
    by_cases h0 : j = 0
    · subst h0; simpa [Addr.add] using hc
    · simpa [Addr.add, h0] using hc
  exact ⟨g, 0, rfl, World.block_lt_of_cell? w _ (hc i hn), hc⟩

/-- A tree that is kept well, of things in order. -/
def Grove (B : Nat) (th : Nat) (t : Tr Int) (w : World) : Prop := TreeAt w th t ∧ t.Whole ∧ Srt t.list ∧ B ≤ th ∧ ∀ g ∈ t.blocks, B ≤ g
theorem Grove.below {B th : Nat} {t : Tr Int} {w w' : World} (h : Grove B th t w) (hb : Below w.heap.size w w') : Grove B th t w' := ⟨h.1.below hb, h.2⟩
theorem News.grove {w' : World} {B th : Nat} (h : TreeAt w' th .nil) (hB : B ≤ th) : Grove B th .nil w' := ⟨h, Tr.Whole.nil, List.Pairwise.nil, hB, fun g hg => by simp [Tr.blocks] at hg⟩

/-- What an act answers, and keeps. -/
def Acts (B th : Nat) (t : Tr Int) (ok : Bool) (L : List Int) (w : World) (e : Ending) (w' : World) : Prop := ∃ t', e = .returned (.bool ok) ∧ t'.list = L ∧ Grove B th t' w' ∧ Chg (th :: t.blocks) w w' ∧ ∀ g ∈ t'.blocks, g ∈ t.blocks ∨ w.heap.size ≤ g

theorem Gr.insert (B th : Nat) (t : Tr Int) (x : Int) (w : World) (h : Grove B th t w) (hB : B ≤ w.heap.size) (hn : t.list.length < 900000) :
    Calls Try.prog 30 #[.pointer (some ⟨th, 0, none⟩), .int .i64 x] w (Acts B th t (!decide (x ∈ t.list)) (if x ∈ t.list then t.list else insL x t.list) w) := by
  obtain ⟨h1, h2, h3, h4, h5⟩ := h
  by_cases hx : x ∈ t.list
  · rw [if_pos hx, decide_eq_true hx]
    refine (Rb.insert_no th t x w h1 ((Tr.has_iff x t h3).2 hx)).mono ?_
    rintro e w' ⟨rfl, hb⟩
    exact ⟨t, rfl, rfl, ⟨h1.below hb, h2, h3, h4, h5⟩, Chg.below hb, fun g hg => Or.inl hg⟩
  · rw [if_neg hx, decide_eq_false hx]
    have hh : Tr.has ltI x t = false := by
      cases hc : Tr.has ltI x t with
      | false => rfl
      | true => exact absurd ((Tr.has_iff x t h3).1 hc) hx
    refine (Rb.insert th t x w h1 hn hh).mono ?_
    rintro e w' ⟨k, hk, rfl, ht, hc⟩
    have hl : ((Tr.put ltI k x t).paint false).list = insL x t.list := by rw [Tr.list_paint]; exact Tr.list_put_srt k x t h3 hx
    have hbl : ∀ g ∈ ((Tr.put ltI k x t).paint false).blocks, g ∈ t.blocks ∨ w.heap.size ≤ g := fun g hg => by
      rw [Tr.blocks_paint] at hg
      rcases List.mem_cons.1 ((Tr.perm_put ltI k x t).mem_iff.1 hg) with rfl | h6
      · exact Or.inr hk
      · exact Or.inl h6
    refine ⟨_, rfl, hl, ⟨ht, h2.put ltI k x, by rw [hl]; exact h3.ins hx, h4, fun g hg => ?_⟩, hc, hbl⟩
    rcases hbl g hg with h6 | h6
    · exact h5 g h6
    · omega

theorem Gr.delete (B th : Nat) (t : Tr Int) (x : Int) (w : World) (h : Grove B th t w) (hB : B ≤ w.heap.size) (hn : t.list.length ≤ 900000) :
    Calls Try.prog 28 #[.pointer (some ⟨th, 0, none⟩), .int .i64 x] w (Acts B th t (decide (x ∈ t.list)) (delL x t.list) w) := by
  obtain ⟨h1, h2, h3, h4, h5⟩ := h
  by_cases hx : x ∈ t.list
  · rw [decide_eq_true hx]
    obtain ⟨A, C, e, ha, hc⟩ := h3.split hx
    have hne : t ≠ .nil := by intro e'; rw [e'] at hx; simp [Tr.list] at hx
    refine (Rb.delete th t x w A x C h1 hn ((Tr.has_iff x t h3).2 hx) (h2.pre hne) (Srt.has ha hc) e).mono ?_
    rintro e' w' ⟨rfl, ht, hch⟩
    obtain ⟨q1, q2⟩ := h2.rem (Srt.has ha hc) e (Nat.le_refl _)
    have hl : ((Tr.rem ltI t.size x t).paint false).list = delL x t.list := by rw [q2, e, delL_split ha hc]
    have hbl : ∀ g ∈ ((Tr.rem ltI t.size x t).paint false).blocks, g ∈ t.blocks := fun g hg => by
      rw [Tr.blocks_paint] at hg
      exact (Tr.Of.rem ltI x t.size t).2 g hg
    exact ⟨_, rfl, hl, ⟨ht, q1, by rw [hl]; exact h3.del, h4, fun g hg => h5 g (hbl g hg)⟩, hch, fun g hg => Or.inl (hbl g hg)⟩
  · rw [decide_eq_false hx]
    have hh : Tr.has ltI x t = false := by
      cases hc : Tr.has ltI x t with
      | false => rfl
      | true => exact absurd ((Tr.has_iff x t h3).1 hc) hx
    refine (Rb.delete_no th t x w h1 hh).mono ?_
    rintro e w' ⟨rfl, hb⟩
    exact ⟨t, rfl, (delL_none hx).symm, ⟨h1.below hb, h2, h3, h4, h5⟩, Chg.below hb, fun g hg => Or.inl hg⟩
end

/- The document's answer of layer 6: a list in order. -/
section
open Go.RowKit

theorem mem_take_succ {L : List Int} {k : Nat} (hk : k < L.length) (x : Int) : x ∈ L.take (k + 1) ↔ x ∈ L.take k ∨ x = L.getD k 0 := by
  have e : L.getD k 0 = L[k] := by simp [List.getD, hk]
  rw [e, List.take_succ_eq_append_getElem hk, List.mem_append, List.mem_singleton]
theorem filter_take1 (p : Int → Bool) {L : List Int} {k : Nat} (hk : k < L.length) : (L.take (k + 1)).filter p = (L.take k).filter p ++ (if p (L.getD k 0) then [L.getD k 0] else []) := by
  have e : L.getD k 0 = L[k] := by simp [List.getD, hk]
  rw [List.take_succ_eq_append_getElem hk, List.filter_append, e, List.filter_cons]
  split <;> simp
/-- A slice of the call's own, of a list. -/
def Owns (L : List Int) (w : World) (e : Ending) (w' : World) : Prop := ∃ A n c, e = .returned (.slice A n c) ∧ Own w' w.heap.size A n c L ∧ Below w.heap.size w w'

set_option maxRecDepth 100000 in
set_option maxHeartbeats 1000000 in
theorem Ref6.has (A : Option Addr) (n c : Nat) (L : List Int) (x : Int) (w : World) (h : RdU .i64 w A n L) (hn : n ≤ 1000000) :
    Calls Try.prog 72 #[.slice A n c, .int .i64 x] w fun e w' => e = .returned (.bool (decide (x ∈ L))) ∧ w = w' := by
  have HR := hid h
  have hni : (n : Int) ≤ 1000000 := by omega
  clear h
  go_enter Try.func72, Try.ntmps72
  go_wp2_with fail
  go_loopg [9] n (fun s a wr => wr = w ∧ ∃ k : Nat, a = .int .i64 k ∧ k ≤ n ∧ s = n - k ∧ x ∉ L.take k)
  case atStart => exact ⟨rfl, 0, rfl, Nat.zero_le _, by omega, by simp⟩
  case round =>
    obtain ⟨rfl, k, rfl, hk, hs, hx⟩ := hrel
    have HS := hid hs
    have HX := hid hx
    clear hs hx
    by_cases hkn : k < n
    · obtain ⟨b, off, hA, _, hc⟩ := HR.out.2 0 (by omega)
      have c0 := hc k hkn
      have HM := hid (mem_take_succ (L := L) (k := k) (by have := HR.out.1; omega) x)
      have HG : Hid (L.getD k 0 ∈ L) := hid (by have hl : k < L.length := by have := HR.out.1; omega
                                                have e : L.getD k 0 = L[k] := by simp [List.getD, hl]
                                                rw [e]; exact List.getElem_mem hl)
      generalize L.getD k 0 = z at c0 HM HG
      subst hA
      have hki : (k : Int) < n := by omega
      clear hc
      by_cases hz : z = x
      · subst hz
        have HD : Hid (decide (z ∈ L) = true) := hid (decide_eq_true HG.out)
        go_wp2_with fail
        go_ret
        exact ⟨by rw [HD.out]; rfl, rfl⟩
      · have hzb : (z == x) = false := by rw [beq_eq_false_iff_ne]; exact hz
        have HZ := hid hz
        clear hz
        go_wp2_with fail
        go_roundg (n - (k + 1))
        case measure => have := HS.out; omega
        case rel => exact ⟨rfl, k + 1, by go_num, by omega, rfl, by rw [HM.out]; rintro (h | h); exact HX.out h; exact HZ.out h.symm⟩
    · obtain rfl : k = n := by omega
      have hki : ¬ (k : Int) < k := by omega
      have HD : Hid (decide (x ∈ L) = false) := hid (decide_eq_false (by have := HX.out; rwa [List.take_of_length_le (by have := HR.out.1; omega)] at this))
      go_wp2_with fail
      go_ret
      exact ⟨by rw [HD.out]; rfl, rfl⟩

set_option maxRecDepth 100000 in
set_option maxHeartbeats 2000000 in
theorem Ref6.below (A : Option Addr) (n c : Nat) (L : List Int) (x : Int) (w : World) (h : RdU .i64 w A n L) (hn : n ≤ 1000000) :
    Calls Try.prog 77 #[.slice A n c, .int .i64 x] w (Owns (L.filter (fun y => decide (y < x))) w) := by
  have HR := hid h
  have hni : (n : Int) ≤ 1000000 := by omega
  clear h
  go_enter Try.func77, Try.ntmps77
  go_wp2_with fail
  go_loopg [5, 10] n (fun s a b wr => ∃ (k : Nat) (A' : Option Addr) (n' c' : Nat), b = .int .i64 k ∧ a = .slice A' n' c' ∧ k ≤ n ∧ s = n - k ∧ Own wr w.heap.size A' n' c' ((L.take k).filter (fun y => decide (y < x))) ∧ n' ≤ k ∧ Below w.heap.size w wr)
  case atStart => exact ⟨0, none, 0, 0, rfl, rfl, Nat.zero_le _, by omega, by simpa using Own.nil w w.heap.size, Nat.le_refl _, Below.refl _ _⟩
  case round =>
    obtain ⟨k, A', n', c', rfl, rfl, hk, hs, ho, hnk, hb⟩ := hrel
    have HS := hid hs
    have HO := hid ho
    have HB := hid hb
    clear hs ho hb
    by_cases hkn : k < n
    · obtain ⟨b, off, hA, _, hc⟩ := HR.out.2 0 (by omega)
      have c0 := keep1 HB.out (hc k hkn)
      have HF := hid (filter_take1 (fun y => decide (y < x)) (L := L) (k := k) (by have := HR.out.1; omega))
      generalize L.getD k 0 = z at c0 HF
      subst hA
      have hki : (k : Int) < n := by omega
      clear hc
      by_cases hz : z < x
      · skip
        have HP : Hid ((L.take (k + 1)).filter (fun y => decide (y < x)) = (L.take k).filter (fun y => decide (y < x)) ++ [z]) := hid (by rw [HF.out, if_pos (by simpa using hz)])
        go_wp2_with (first | (at_builtin; refine wpList_append_int _ rfl (.tmp 17) (.tmp 19) rfl w.heap.size A' n' c' _ rfl (HO.out.alloc _) wr.heap.size z rfl (by simp) (by omega) (by simp; have := HB.out.size; omega) ?_; intro A2 c2 w1 hown hgrow; have HO2 := hid hown; have HB2 := hid ((HB.out.alloc HB.out.size _).grown hgrow (by simp; have := HB.out.size; omega) (fun k hk => HO.out.rowGe k hk)); clear hown hgrow))
        go_roundg (n - (k + 1))
        case measure => have := HS.out; omega
        case rel => exact ⟨k + 1, A2, n' + 1, c2, by go_num, rfl, by omega, rfl, by rw [HP.out]; exact HO2.out, by omega, HB2.out⟩
      · have hz' := hz
        have HP : Hid ((L.take (k + 1)).filter (fun y => decide (y < x)) = (L.take k).filter (fun y => decide (y < x))) := hid (by rw [HF.out, if_neg (by simpa using hz)]; simp)
        go_wp2_with fail
        go_roundg (n - (k + 1))
        case measure => have := HS.out; omega
        case rel => exact ⟨k + 1, A', n', c', by go_num, rfl, by omega, rfl, by rw [HP.out]; exact HO.out, by omega, HB.out⟩
    · obtain rfl : k = n := by omega
      have hki : ¬ (k : Int) < k := by omega
      have HE : Hid ((L.take k).filter (fun y => decide (y < x)) = L.filter (fun y => decide (y < x))) := hid (by rw [List.take_of_length_le (by have := HR.out.1; omega)])
      go_wp2_with fail
      go_ret
      exact ⟨A', n', c', rfl, by rw [← HE.out]; exact HO.out, HB.out⟩

/-- What the document's Delete, Insert answer. -/
def Owns2 (L : List Int) (ok : Bool) (w : World) (e : Ending) (w' : World) : Prop := ∃ A n c, e = .returned (.tuple #[.slice A n c, .bool ok]) ∧ Own w' w.heap.size A n c L ∧ Below w.heap.size w w'

set_option maxRecDepth 100000 in
set_option maxHeartbeats 2000000 in
theorem Ref6.delete (A : Option Addr) (n c : Nat) (L : List Int) (x : Int) (w : World) (h : RdU .i64 w A n L) (hn : n ≤ 1000000) :
    Calls Try.prog 29 #[.slice A n c, .int .i64 x] w (Owns2 (delL x L) (decide (x ∈ L)) w) := by
  have HR := hid h
  have hni : (n : Int) ≤ 1000000 := by omega
  clear h
  go_enter Try.func29, Try.ntmps29
  go_wp2_with fail
  go_loopg [6, 11] n (fun s a b wr => ∃ (k : Nat) (A' : Option Addr) (n' c' : Nat), b = .int .i64 k ∧ a = .slice A' n' c' ∧ k ≤ n ∧ s = n - k ∧ Own wr w.heap.size A' n' c' ((L.take k).filter (fun y => y != x)) ∧ n' ≤ k ∧ Below w.heap.size w wr)
  case atStart => exact ⟨0, none, 0, 0, rfl, rfl, Nat.zero_le _, by omega, by simpa using Own.nil w w.heap.size, Nat.le_refl _, Below.refl _ _⟩
  case round =>
    obtain ⟨k, A', n', c', rfl, rfl, hk, hs, ho, hnk, hb⟩ := hrel
    have HS := hid hs
    have HO := hid ho
    have HB := hid hb
    clear hs ho hb
    by_cases hkn : k < n
    · obtain ⟨b, off, hA, _, hc⟩ := HR.out.2 0 (by omega)
      have c0 := keep1 HB.out (hc k hkn)
      have HF := hid (filter_take1 (fun y => y != x) (L := L) (k := k) (by have := HR.out.1; omega))
      generalize L.getD k 0 = z at c0 HF
      subst hA
      have hki : (k : Int) < n := by omega
      clear hc
      by_cases hz : z ≠ x
      · have hzb : (z != x) = true := by rw [bne_iff_ne]; exact hz
        have HP : Hid ((L.take (k + 1)).filter (fun y => y != x) = (L.take k).filter (fun y => y != x) ++ [z]) := hid (by rw [HF.out, if_pos (by simpa using hz)])
        go_wp2_with (first | (at_builtin; refine wpList_append_int _ rfl (.tmp 18) (.tmp 20) rfl w.heap.size A' n' c' _ rfl (HO.out.alloc _) wr.heap.size z rfl (by simp) (by omega) (by simp; have := HB.out.size; omega) ?_; intro A2 c2 w1 hown hgrow; have HO2 := hid hown; have HB2 := hid ((HB.out.alloc HB.out.size _).grown hgrow (by simp; have := HB.out.size; omega) (fun k hk => HO.out.rowGe k hk)); clear hown hgrow))
        go_roundg (n - (k + 1))
        case measure => have := HS.out; omega
        case rel => exact ⟨k + 1, A2, n' + 1, c2, by go_num, rfl, by omega, rfl, by rw [HP.out]; exact HO2.out, by omega, HB2.out⟩
      · have hzb : (z != x) = false := by simpa using hz
        have HP : Hid ((L.take (k + 1)).filter (fun y => y != x) = (L.take k).filter (fun y => y != x)) := hid (by rw [HF.out, if_neg (by simpa using hz)]; simp)
        go_wp2_with fail
        go_roundg (n - (k + 1))
        case measure => have := HS.out; omega
        case rel => exact ⟨k + 1, A', n', c', by go_num, rfl, by omega, rfl, by rw [HP.out]; exact HO.out, by omega, HB.out⟩
    · obtain rfl : k = n := by omega
      have hki : ¬ (k : Int) < k := by omega
      have HE : Hid ((L.take k).filter (fun y => y != x) = L.filter (fun y => y != x)) := hid (by rw [List.take_of_length_le (by have := HR.out.1; omega)])
      have HRk := hid (HR.out.below HB.out)
      go_wp2_with fail
      refine (Ref6.has A k c L x _ HRk.out hn).mono ?_
      rintro e w1 ⟨rfl, rfl⟩
      go_wp2_with fail
      go_ret2
      exact ⟨A', n', c', rfl, by show Own wr w.heap.size A' n' c' (L.filter (fun y => y != x)); rw [← HE.out]; exact HO.out, HB.out⟩
end

/- The document's answer of layer 6: what comes. -/
section
open Go.RowKit

def insS (x : Int) (s : Bool × List Int) (y : Int) : Bool × List Int := if s.1 = false ∧ x < y then (true, s.2 ++ [x] ++ [y]) else (s.1, s.2 ++ [y])
def insF (x : Int) (L : List Int) : Bool × List Int := L.foldl (insS x) (false, [])
theorem insS_done (x : Int) (L : List Int) : ∀ o, L.foldl (insS x) (true, o) = (true, o ++ L) := by
  induction L with
  | nil => intro o; simp
  | cons y ys ih => intro o; rw [List.foldl_cons]; simp only [insS, Bool.true_eq_false, false_and, if_false]; rw [ih]; simp
theorem insS_all (x : Int) (L : List Int) : ∀ o, (L.foldl (insS x) (false, o)).2 ++ (if (L.foldl (insS x) (false, o)).1 then [] else [x]) = o ++ insL x L := by
  induction L with
  | nil => intro o; simp [insL]
  | cons y ys ih =>
    intro o
    rw [List.foldl_cons]
    by_cases h : x < y
    · have e : insS x (false, o) y = (true, o ++ [x] ++ [y]) := by simp [insS, h]
      rw [e, insS_done]
      have e2 : ltI x y = true := (ltI_iff _ _).2 h
      simp [insL, e2]
    · have e : insS x (false, o) y = (false, o ++ [y]) := by simp [insS, h]
      have e2 : ltI x y = false := (ltI_no _ _).2 (by omega)
      rw [e, ih]
      simp [insL, e2]
theorem insF_all (x : Int) (L : List Int) : (insF x L).2 ++ (if (insF x L).1 then [] else [x]) = insL x L := by
  have := insS_all x L []
  rw [List.nil_append] at this
  exact this
theorem insF_take (x : Int) {L : List Int} {k : Nat} (hk : k < L.length) : insF x (L.take (k + 1)) = insS x (insF x (L.take k)) (L.getD k 0) := by
  have e : L.getD k 0 = L[k] := by simp [List.getD, hk]
  unfold insF
  rw [List.take_succ_eq_append_getElem hk, List.foldl_append, e]; rfl

/-- What Insert answers: the list itself, or one of its own. -/
def InsAns (A : Option Addr) (n c : Nat) (L : List Int) (x : Int) (w : World) (e : Ending) (w' : World) : Prop := if x ∈ L then e = .returned (.tuple #[.slice A n c, .bool false]) ∧ w' = w else Owns2 (insL x L) true w e w'

set_option maxRecDepth 100000 in
set_option maxHeartbeats 2000000 in
theorem Ref6.insert (A : Option Addr) (n c : Nat) (L : List Int) (x : Int) (w : World) (h : RdU .i64 w A n L) (hn : n ≤ 1000000) :
    Calls Try.prog 31 #[.slice A n c, .int .i64 x] w (InsAns A n c L x w) := by
  have HR := hid h
  have hni : (n : Int) ≤ 1000000 := by omega
  clear h
  go_enter Try.func31, Try.ntmps31
  go_wp2_with fail
  refine (Ref6.has A n c L x _ HR.out hn).mono ?_
  rintro e w1 ⟨rfl, rfl⟩
  by_cases hx : x ∈ L
  · have HD : Hid (decide (x ∈ L) = true) := hid (decide_eq_true hx)
    have HX := hid hx
    clear hx
    rw [HD.out]
    go_wp2_with fail
    go_ret2
    unfold InsAns
    rw [if_pos HX.out]
    exact ⟨rfl, rfl⟩
  have HD : Hid (decide (x ∈ L) = false) := hid (decide_eq_false hx)
  have HX := hid hx
  clear hx
  rw [HD.out]
  go_wp2_with fail
  go_loopg [6, 7, 16] n (fun s a d b wr => ∃ (k : Nat) (A' : Option Addr) (n' c' : Nat) (D : Bool), b = .int .i64 k ∧ a = .slice A' n' c' ∧ d = .bool D ∧ k ≤ n ∧ s = n - k ∧ (insF x (L.take k)).1 = D ∧ Own wr w.heap.size A' n' c' (insF x (L.take k)).2 ∧ n' ≤ k + (if D then 1 else 0) ∧ Below w.heap.size w wr)
  case atStart => exact ⟨0, none, 0, 0, false, rfl, rfl, rfl, Nat.zero_le _, by omega, by simp [insF], by simpa [insF] using Own.nil w w.heap.size, Nat.le_refl _, Below.refl _ _⟩
  case round =>
    obtain ⟨k, A', n', c', D, rfl, rfl, rfl, hk, hs, hD, ho, hnk, hb⟩ := hrel
    have HS := hid hs
    have HO := hid ho
    have HB := hid hb
    have HDD := hid hD
    clear hs ho hb hD
    by_cases hkn : k < n
    · obtain ⟨b, off, hA, _, hc⟩ := HR.out.2 0 (by omega)
      have c0 := keep1 HB.out (hc k hkn)
      have HF := hid (insF_take x (L := L) (k := k) (by have := HR.out.1; omega))
      generalize L.getD k 0 = z at c0 HF
      subst hA
      have hki : (k : Int) < n := by omega
      clear hc
      cases D with
      | true =>
        have HP : Hid (insF x (L.take (k + 1)) = (true, (insF x (L.take k)).2 ++ [z])) := hid (by rw [HF.out]; simp [insS, HDD.out])
        simp only [if_true] at hnk
        go_wp2_with (first | (at_builtin; refine wpList_append_int _ rfl (.tmp 31) (.tmp 33) rfl w.heap.size A' n' c' _ rfl (HO.out.alloc _) wr.heap.size z rfl (by simp) (by omega) (by simp; have := HB.out.size; omega) ?_; intro A3 c3 wb hown hgrow; have HO3 := hid hown; have HB3 := hid ((HB.out.alloc HB.out.size _).grown hgrow (by simp; have := HB.out.size; omega) (fun k hk => HO.out.rowGe k hk)); clear hown hgrow))
        go_roundg (n - (k + 1))
        case measure => have := HS.out; omega
        case rel => exact ⟨k + 1, A3, n' + 1, c3, true, by go_num, rfl, rfl, by omega, rfl, by rw [HP.out], by rw [HP.out]; exact HO3.out, by simp only [if_true]; omega, HB3.out⟩
      | false =>
        have hnk : n' ≤ k := by simpa using hnk
        by_cases hz : x < z
        · have HP : Hid (insF x (L.take (k + 1)) = (true, (insF x (L.take k)).2 ++ [x] ++ [z])) := hid (by rw [HF.out]; simp [insS, HDD.out, hz])
          go_wp2_with (first | (at_builtin; refine wpList_append_int _ rfl (.tmp 27) (.tmp 29) rfl w.heap.size A' n' c' _ rfl (HO.out.alloc _) wr.heap.size x rfl (by simp) (by omega) (by simp; have := HB.out.size; omega) ?_; intro A2 c2 wa hown hgrow; have HO2 := hid hown; have HB2 := hid ((HB.out.alloc HB.out.size _).grown hgrow (by simp; have := HB.out.size; omega) (fun k hk => HO.out.rowGe k hk)); clear hown hgrow) | (at_builtin; refine wpList_append_int _ rfl (.tmp 31) (.tmp 33) rfl w.heap.size A2 (n' + 1) c2 _ rfl (HO2.out.alloc _) wa.heap.size z rfl (by simp) (by omega) (by simp; have := HB2.out.size; omega) ?_; intro A3 c3 wb hown hgrow; have HO3 := hid hown; have HB3 := hid ((HB2.out.alloc HB2.out.size _).grown hgrow (by simp; have := HB2.out.size; omega) (fun k hk => HO2.out.rowGe k hk)); clear hown hgrow))
          go_roundg (n - (k + 1))
          case measure => have := HS.out; omega
          case rel => exact ⟨k + 1, A3, n' + 1 + 1, c3, true, by go_num, rfl, rfl, by omega, rfl, by rw [HP.out], by rw [HP.out]; exact HO3.out, by simp only [if_true]; omega, HB3.out⟩
        · have HP : Hid (insF x (L.take (k + 1)) = (false, (insF x (L.take k)).2 ++ [z])) := hid (by rw [HF.out]; simp [insS, HDD.out, hz])
          go_wp2_with (first | (at_builtin; refine wpList_append_int _ rfl (.tmp 31) (.tmp 33) rfl w.heap.size A' n' c' _ rfl (HO.out.alloc _) wr.heap.size z rfl (by simp) (by omega) (by simp; have := HB.out.size; omega) ?_; intro A3 c3 wb hown hgrow; have HO3 := hid hown; have HB3 := hid ((HB.out.alloc HB.out.size _).grown hgrow (by simp; have := HB.out.size; omega) (fun k hk => HO.out.rowGe k hk)); clear hown hgrow))
          go_roundg (n - (k + 1))
          case measure => have := HS.out; omega
          case rel => exact ⟨k + 1, A3, n' + 1, c3, false, by go_num, rfl, rfl, by omega, rfl, by rw [HP.out], by rw [HP.out]; exact HO3.out, by simp; omega, HB3.out⟩
    · obtain rfl : k = n := by omega
      have hki : ¬ (k : Int) < k := by omega
      have HE : Hid (L.take k = L) := hid (List.take_of_length_le (by have := HR.out.1; omega))
      have HA := hid (insF_all x L)
      rw [HE.out] at HDD HO
      cases D with
      | true =>
        go_wp2_with fail
        go_ret2
        unfold InsAns
        rw [if_neg HX.out]
        exact ⟨A', n', c', rfl, by have h := HA.out; rw [HDD.out, if_pos rfl, List.append_nil] at h; rw [← h]; exact HO.out, HB.out⟩
      | false =>
        have hnk : n' ≤ k := by simpa using hnk
        go_wp2_with (first | (at_builtin; refine wpList_append_int _ rfl (.tmp 38) (.tmp 40) rfl w.heap.size A' n' c' _ rfl (HO.out.alloc _) wr.heap.size x rfl (by simp) (by omega) (by simp; have := HB.out.size; omega) ?_; intro A2 c2 wa hown hgrow; have HO2 := hid hown; have HB2 := hid ((HB.out.alloc HB.out.size _).grown hgrow (by simp; have := HB.out.size; omega) (fun k hk => HO.out.rowGe k hk)); clear hown hgrow))
        go_ret2
        unfold InsAns
        rw [if_neg HX.out]
        exact ⟨A2, n' + 1, c2, rfl, by have h := HA.out; rw [HDD.out, if_neg (by simp)] at h; rw [← h]; exact HO2.out, HB2.out⟩
end

/- The tree of numbers: a clone. -/
section
open Go.RowKit

/-- The same tree in other blocks. -/
inductive Tr.Same : Tr Int → Tr Int → Prop
  | nil : Tr.Same .nil .nil
  | node {g h : Nat} {c : Bool} {l r l' r' : Tr Int} {x : Int} : Tr.Same l l' → Tr.Same r r' → Tr.Same (.node g c l x r) (.node h c l' x r')
theorem Tr.Same.list {t t' : Tr Int} (h : Tr.Same t t') : t'.list = t.list := by
  induction h with
  | nil => rfl
  | node _ _ ihl ihr => simp only [Tr.list, ihl, ihr]
theorem Tr.Same.red {t t' : Tr Int} (h : Tr.Same t t') : t'.red = t.red := by cases h <;> rfl
theorem Tr.Same.v {t t' : Tr Int} (h : Tr.Same t t') : ∀ k, Tr.V t k → Tr.V t' k := by
  induction h with
  | nil => intro k hk; exact hk
  | @node g h c l r l' r' x hl hr ihl ihr =>
    intro k hk
    cases c with
    | true => exact ⟨ihl _ hk.1, ihr _ hk.2.1, by rw [hl.red]; exact hk.2.2.1, by rw [hr.red]; exact hk.2.2.2⟩
    | false =>
      obtain ⟨j, rfl, v1, v2, v3⟩ := hk
      exact ⟨j, rfl, ihl _ v1, ihr _ v2, by rw [hr.red]; exact v3⟩
theorem Tr.Same.whole {t t' : Tr Int} (h : Tr.Same t t') (hw : t.Whole) : t'.Whole := ⟨by rw [h.red]; exact hw.1, by obtain ⟨k, hk⟩ := hw.2; exact ⟨k, h.v k hk⟩⟩

/-- What copied's calls keep. -/
abbrev Cw (w : World) (th : Nat) (rt : Value) (n : Int) (g : Nat) (c : Bool) (l r : Tr Int) (x : Int) (w' : World) : Prop := (w'.cell? ⟨g, 0, none⟩ = some (.int .i64 x) ∧ w'.cell? ⟨g, 2, none⟩ = some (ptr l) ∧ w'.cell? ⟨g, 3, none⟩ = some (ptr r) ∧ w'.cell? ⟨g, 4, none⟩ = some (.bool c)) ∧ In w' (.node g c l x r) ∧ Env w' th rt n ∧ Below w.heap.size w w'
/-- What copied answers. -/
def Copied (t : Tr Int) (w : World) (e : Ending) (w' : World) : Prop := ∃ t', e = .returned (ptr t') ∧ Tr.Same t t' ∧ In w' t' ∧ Below w.heap.size w w' ∧ t'.blocks.Nodup ∧ ∀ g ∈ t'.blocks, w.heap.size ≤ g

set_option maxRecDepth 100000 in
set_option maxHeartbeats 1000000 in
theorem Rb.copied (th : Nat) (rt : Value) (n : Int) (t : Tr Int) : ∀ w, In w t → t.list.length ≤ 900000 → Env w th rt n →
    Calls Try.prog 70 #[.pointer (some ⟨th, 0, none⟩), ptr t] w (Copied t w) := by
  induction t with
  | nil =>
    intro w _ _ _
    simp only [ptr_nil]
    go_enter Try.func70, Try.ntmps70
    go_wp2_with fail
    go_ret
    exact ⟨.nil, rfl, .nil, trivial, Below.refl _ _, List.nodup_nil, fun g hg => by simp [Tr.blocks] at hg⟩
  | node g c l x r ihl ihr =>
    intro w h hn he
    have HI := hid h
    have HE := hid he
    have IL := hid ihl
    have IR := hid ihr
    obtain ⟨⟨v, hv, hc⟩, hl, hr⟩ := h
    have c0 := hc.at0
    have c2 := hc.at2
    have c3 := hc.at3
    have c4 := hc.at4
    have h := HI.out
    simp only [Tr.list, List.length_append, List.length_cons] at hn
    have n1 : l.list.length ≤ 900000 := by omega
    have n2 : r.list.length ≤ 900000 := by omega
    have HN := hid hn
    have HQ : Hid (∀ w', Below w.heap.size w w' → Cw w th rt n g c l r x w') := hid (fun w' hb => ⟨⟨keep1 hb c0, keep1 hb c2, keep1 hb c3, keep1 hb c4⟩, HI.out.below hb, HE.out.below hb, hb⟩)
    clear hc hl hr hv he ihl ihr hn c0 c2 c3 c4 h
    simp only [ptr_node]
    go_enter Try.func70, Try.ntmps70
    go_wp2_with fail
    go_region_held3 (fun w' => (w'.cell? ⟨g, 0, none⟩ = some (.int .i64 x) ∧ w'.cell? ⟨g, 2, none⟩ = some (ptr l) ∧ w'.cell? ⟨g, 3, none⟩ = some (ptr r) ∧ w'.cell? ⟨g, 4, none⟩ = some (.bool c)) ∧ In w' (.node g c l x r) ∧ Env w' th rt n ∧ Below w.heap.size w w')
      (first | with_reducible exact HQ.out _ (Below.refl _ _).drew | with_reducible exact HQ.out _ hb2 | with_reducible exact HQ.out _ (hb2.alloc hb2.size _))
      (first
        | (go_at_call_of 70 (ptr l); refine (IL.out _ (by assumption : (_ ∧ _ ∧ _ ∧ _) ∧ In _ (.node g c l x r) ∧ _ ∧ _).2.1.2.1 n1 (by assumption : (_ ∧ _ ∧ _ ∧ _) ∧ In _ (.node g c l x r) ∧ _ ∧ _).2.2.1).mono ?_; rintro e w2 ⟨l', rfl, hs2, hi2, hb1, hd2, hg2⟩; obtain ⟨u2, hu2⟩ := ptr_form l'; rw [hu2]; have HU2 := hid hu2; have HS2 := hid hs2; have HI2 := hid hi2; have HD2 := hid hd2; have HG2 := hid hg2; have hb2 := below_on (by assumption : (_ ∧ _ ∧ _ ∧ _) ∧ In _ (.node g c l x r) ∧ _ ∧ _).2.2.2 hb1; have HBA := hid hb2; clear hu2 hs2 hi2 hd2 hg2 hb1)
        | (go_at_call_of 70 (ptr r); refine (IR.out _ (by assumption : (_ ∧ _ ∧ _ ∧ _) ∧ In _ (.node g c l x r) ∧ _ ∧ _).2.1.2.2 n2 (by assumption : (_ ∧ _ ∧ _ ∧ _) ∧ In _ (.node g c l x r) ∧ _ ∧ _).2.2.1).mono ?_; rintro e w3 ⟨r', rfl, hs3, hi3, hb1, hd3, hg3⟩; obtain ⟨u3, hu3⟩ := ptr_form r'; rw [hu3]; have HU3 := hid hu3; have HS3 := hid hs3; have HI3 := hid hi3; have HD3 := hid hd3; have HG3 := hid hg3; have HL3 := hid (HI2.out.below hb1); have hb2 := below_on (by assumption : (_ ∧ _ ∧ _ ∧ _) ∧ In _ (.node g c l x r) ∧ _ ∧ _).2.2.2 hb1; clear hu3 hs3 hi3 hd3 hg3 hb1)
        | fail)
    all_goals
      have HH := hid (by assumption : (_ ∧ _ ∧ _ ∧ _) ∧ In (w3.alloc (.cells #[.int .i64 x, .slice none 0 0, .pointer u2, .pointer u3, .bool c] 105)) (.node g c l x r) ∧ Env _ th rt n ∧ Below w.heap.size w _).2
      have HB3 := hid hb2
      have HST : Hid (St (w3.alloc (.cells #[.int .i64 x, .slice none 0 0, .pointer u2, .pointer u3, .bool c] 105)) (.node w3.heap.size c l' x r')) := hid ⟨⟨none, 0, 0, by rw [HU2.out, HU3.out]; exact Cs.alloc_new w3 _ [.int .i64 x, .slice none 0 0, .pointer u2, .pointer u3, .bool c]⟩, HL3.out.below ((Below.refl _ _).alloc (Nat.le_refl _) _), HI3.out.below ((Below.refl _ _).alloc (Nat.le_refl _) _)⟩
      have HG4 : Hid (∀ k ∈ (Tr.node w3.heap.size c l' x r').blocks, w.heap.size ≤ k) := hid (by
        intro k hk
        have hs3 := HB3.out.size
        rcases List.mem_cons.1 hk with rfl | hk
        · exact hs3
        · rcases List.mem_append.1 hk with hk | hk
          · exact HG2.out k hk
          · have := HG3.out k hk
            have hs2 := HBA.out.size
            omega)
      have HND : Hid ((Tr.node w3.heap.size c l' x r').blocks.Nodup) := hid (by
        refine List.nodup_cons.2 ⟨fun hm => ?_, List.nodup_append.2 ⟨HD2.out, HD3.out, fun a ha b hb e => ?_⟩⟩
        · rcases List.mem_append.1 hm with hm | hm
          · exact Nat.lt_irrefl _ (HL3.out.nl _ hm).lt
          · exact Nat.lt_irrefl _ (HI3.out.nl _ hm).lt
        · subst e
          have h1 := (HI2.out.nl _ ha).lt
          have h2 := HG3.out _ hb
          omega)
      have HLN : Hid ((Tr.node w3.heap.size c l' x r').list.length ≤ 900000) := hid (by
        have := HN.out
        simp only [Tr.list, List.length_append, List.length_cons, HS2.out.list, HS3.out.list]
        omega)
      clear hb2
      go_wp2_with fail
      refine (Rb.count th w3.heap.size c l' r' x rt n _ HST.out HND.out HLN.out HH.out.2.1).mono ?_
      rintro e w4 ⟨rfl, hi, hw⟩
      have HI4 := hid hi
      have HW4 := hid hw
      clear hi hw
      go_wp2_with fail
      go_ret
      exact ⟨.node w3.heap.size c l' x r', rfl, .node HS2.out HS3.out, HI4.out, HH.out.2.2.trans (HW4.out.toBelow HH.out.2.2.size (fun k hk => by simp at hk; subst hk; exact HB3.out.size)), HND.out, HG4.out⟩
end

/- The tree of numbers: a clone. -/
section
open Go.RowKit

/-- What Clone answers. -/
def Clones (t : Tr Int) (w : World) (e : Ending) (w' : World) : Prop := ∃ th t', e = .returned (.pointer (some ⟨th, 0, none⟩)) ∧ t'.list = t.list ∧ Grove w.heap.size th t' w' ∧ Below w.heap.size w w'

set_option maxRecDepth 100000 in
set_option maxHeartbeats 1000000 in
theorem Gr.clone (B th : Nat) (t : Tr Int) (w : World) (h : Grove B th t w) (hn : t.list.length ≤ 900000) :
    Calls Try.prog 27 #[.pointer (some ⟨th, 0, none⟩)] w (Clones t w) := by
  have HG := hid h
  obtain ⟨⟨⟨b1, b2, t0, t1, t2, t3, t4⟩, hi, hd⟩, hw, hs, _, _⟩ := h
  have e0 := t0.at0
  have e1 := t0.at1
  have e2 := t0.at2
  have e3 := t0.at3
  have e4 := t0.at4
  obtain ⟨u, hu⟩ := ptr_form t
  have HU := hid hu
  rw [hu] at e3
  clear hi hd hw hs hu
  have hb := (Below.refl w.heap.size w).alloc (Nat.le_refl _) (.cells #[.func (.func 67) #[] #[], .func (.func 69) #[] #[], .func (.func 102) #[] #[.pointer (some ⟨b1, 0, none⟩), .pointer (some ⟨b2, 0, none⟩)], .pointer u, .int .i64 t.list.length] 101)
  have e5 := keep1 hb e3
  have HB := hid hb
  have HG2 := hid (HG.out.below hb)
  have HEN : Hid (Env (w.alloc (.cells #[.func (.func 67) #[] #[], .func (.func 69) #[] #[], .func (.func 102) #[] #[.pointer (some ⟨b1, 0, none⟩), .pointer (some ⟨b2, 0, none⟩)], .pointer u, .int .i64 t.list.length] 101)) w.heap.size (.pointer u) t.list.length) := hid ⟨b1, b2, Cs.alloc_new w _ [.func (.func 67) #[] #[], .func (.func 69) #[] #[], .func (.func 102) #[] #[.pointer (some ⟨b1, 0, none⟩), .pointer (some ⟨b2, 0, none⟩)], .pointer u, .int .i64 t.list.length], t1.below hb, t2.below hb, (hb.cell (p := ⟨b1, 1, none⟩) t1.lt).trans t3, (hb.cell (p := ⟨b2, 1, none⟩) t2.lt).trans t4⟩
  clear hb t0 t1 t2 t3 t4
  go_enter Try.func27, Try.ntmps27
  go_wp2_with fail
  have hcp := Rb.copied th (ptr t) t.list.length t _ HG2.out.1.2.1 hn HG2.out.1.1
  rw [HU.out] at hcp
  refine hcp.mono ?_
  clear hcp
  rintro e w1 ⟨t', rfl, hs, hi, hb, hd, hg⟩
  have HE1 := hid (HEN.out.below hb)
  obtain ⟨c1, c2, q0, _⟩ := id HE1.out
  have q3 := q0.at3
  have q4 := q0.fr3
  have HS := hid hs
  have HI := hid hi
  have HD := hid hd
  have HG3 := hid hg
  have HB1 := hid (below_on HB.out hb)
  clear hs hi hd hg q0 hb e5
  obtain ⟨v, hv⟩ := ptr_form t'
  have HV := hid hv
  rw [hv]
  clear hv
  go_wp2_with fail
  go_ret
  have hh : Hd w1 w.heap.size := HE1.out.hd
  rw [← HV.out]
  refine ⟨w.heap.size, t', rfl, HS.out.list, ⟨⟨?_, HI.out.farT hh _ _, HD.out⟩, HS.out.whole HG.out.2.1, by rw [HS.out.list]; exact HG.out.2.2.1, Nat.le_refl _, fun k hk => ?_⟩, ?_⟩
  · rw [HS.out.list]; exact HE1.out.root _
  · have := HG3.out k hk; simp at this; omega
  · exact HB1.out.trans (Chg.toBelow ((Chg.refl [w.heap.size] w1).set (Or.inl (by simp)) 3 (ptr t')) HB1.out.size (fun k hk => by simp at hk; omega))
end

/- The tree of numbers: the least. -/
section
open Go.RowKit

theorem Tr.list_ne {t : Tr Int} (hn : t ≠ .nil) : t.list.isEmpty = false := by
  cases t with
  | nil => exact absurd rfl hn
  | node g c l x r => simp [Tr.list]

set_option maxRecDepth 100000 in
set_option maxHeartbeats 1000000 in
theorem Gr.min (B th : Nat) (t : Tr Int) (w : World) (h : Grove B th t w) :
    Calls Try.prog 74 #[.pointer (some ⟨th, 0, none⟩)] w (Ans (.tuple #[.int .i64 (t.least 0), .bool (!t.list.isEmpty)]) w) := by
  obtain ⟨⟨⟨b1, b2, t0, _⟩, hi, _⟩, _⟩ := h
  have HI := hid hi
  have e3 := t0.at3
  clear t0 hi
  cases t with
  | nil =>
    simp only [ptr_nil] at e3
    go_enter Try.func74, Try.ntmps74
    go_wp2_with fail
    go_ret2
    exact ⟨rfl, (Below.refl _ _).alloc (Nat.le_refl _) _⟩
  | node g c l x r =>
    have HE := hid (Tr.list_ne (t := .node g c l x r) (by simp))
    simp only [ptr_node] at e3
    go_enter Try.func74, Try.ntmps74
    go_wp2_with fail
    refine (Rb.least (.node g c l x r) w HI.out (by simp) 0).mono ?_
    rintro e w1 ⟨rfl, rfl⟩
    go_wp2_with fail
    go_ret2
    exact ⟨by rw [HE.out]; rfl, Below.refl _ _⟩
end

end Go.Proofs.Ytmklbmiddeonkaa

/- Texts of ReqMakes's proof, together. -/
import Derived.Test.YtjndmmcjobbcbaaGreatDoorReqMakesZ15
import Derived.Test.YtjndmmcjobbcbaaGreatDoorReqMakesZ21
import Derived.Test.YtjndmmcjobbcbaaGreatDoorReqMakesZ19
import Derived.Test.YtjndmmcjobbcbaaGreatDoorReqMakesZ20
import Derived.Test.YtjndmmcjobbcbaaGreatDoorReqMakesZ10
namespace Go.Proofs.YtjndmmcjobbcbaaGreatDoor

section
open Go.RowKit
set_option maxRecDepth 100000
set_option maxHeartbeats 32000000
theorem Item.shift (a : It) (by' : Int) (w : World) :
  Calls Tryz.prog 44 #[a.val, .int .u64 by'] w (Ans (It.val (It.mk (IntKind.u64.wrap (a.t + by')) a.r a.v a.i (IntKind.u64.wrap (a.u + by')) a.s a.y)) w) := by
 have HI0 : Hid (I1 w a ((w.alloc (.cells #[.int .u64 a.t, .int .u32 a.r, .int .u32 a.v, .int .i64 a.i, .int .u64 a.u, .int .u32 a.s, .int .u32 a.y] 29)).alloc (.cells #[.int .u64 0, .int .u32 0, .int .u32 0, .int .i64 0, .int .u64 0, .int .u32 0, .int .u32 0] 29))) := hid
  ⟨(Cs.new7 _ _ _).alloc _, ⟨It.mk 0 0 0 0 0 0 0, by have := Cs.new7 (w.alloc (.cells #[.int .u64 a.t, .int .u32 a.r, .int .u32 a.v, .int .i64 a.i, .int .u64 a.u, .int .u32 a.s, .int .u32 a.y] 29)) 29 (It.mk 0 0 0 0 0 0 0); simp only [World.size_alloc] at this; exact this⟩, ((Below.refl _ _).alloc (Nat.le_refl _) _).alloc (by simp) _⟩
 unfold It.val
 go_enter Tryz.func44, Tryz.ntmps44
 go_wp2_with fail
 generalize ((w.alloc (.cells #[.int .u64 a.t, .int .u32 a.r, .int .u32 a.v, .int .i64 a.i, .int .u64 a.u, .int .u32 a.s, .int .u32 a.y] 29)).alloc (.cells #[.int .u64 0, .int .u32 0, .int .u32 0, .int .i64 0, .int .u64 0, .int .u32 0, .int .u32 0] 29)) = W0 at HI0 ⊢
 refine wp_region_steady (S := I1 w a) 11 (by kernel_rfl) (HI0.out.drew) ?_
 refine tV 0 ?_
 try simp only [tdy]
 refine tU 1 (v := ?_) rfl (by kernel_rfl) (fun _ _ _ h => h) (by rfl) ?_ ?_
 rotate_left
 ·intro wq hSw
  obtain ⟨p0, p1, p2, p3, p4, p5, p6⟩ := It.at a hSw.1
  go_simp; try with_reducible rfl
 try simp only [tdy]
 refine tV 2 ?_
 try simp only [tdy]
 refine tV 4 ?_
 try simp only [tdy]
 refine tU 5 (v := ?_) rfl (by kernel_rfl) (fun _ _ _ h => h) (by rfl) ?_ ?_
 rotate_left
 ·intro wq hSw
  obtain ⟨p0, p1, p2, p3, p4, p5, p6⟩ := It.at a hSw.1
  go_simp; try with_reducible rfl
 try simp only [tdy]
 refine tV 6 ?_
 try simp only [tdy]
 refine tU 7 (v := ?_) rfl (by kernel_rfl) (fun _ _ _ h => h) (by rfl) ?_ ?_
 rotate_left
 ·intro wq hSw
  obtain ⟨p0, p1, p2, p3, p4, p5, p6⟩ := It.at a hSw.1
  go_simp; try with_reducible rfl
 try simp only [tdy]
 refine tV 8 ?_
 try simp only [tdy]
 refine wpAnyU_take (i := 3) (v := .agg #[.int .u64 (IntKind.u64.wrap (a.t + by')), .int .u32 a.r, .int .u32 a.v]) rfl (by kernel_rfl) (by kernel_rfl) (by kernel_rfl) (by kernel_rfl) (fun _ _ _ h => h) (Or.inl ⟨by rfl, fun wq hSw => ?_⟩) ?_
 ·refine SteadyRun.of_calls (Pos.shift a.t a.r a.v by' wq) (by go_simp) ?_
  rintro e wr ⟨rfl, hb⟩
  exact ⟨rfl, hSw.below hb⟩
 try simp only [tdy]
 refine wpAnyU_take (i := 9) (v := .agg #[.int .u64 (IntKind.u64.wrap (a.u + by')), .int .u32 a.s, .int .u32 a.y]) rfl (by kernel_rfl) (by kernel_rfl) (by kernel_rfl) (by kernel_rfl) (fun _ _ _ h => h) (Or.inl ⟨by rfl, fun wq hSw => ?_⟩) ?_
 ·refine SteadyRun.of_calls (Pos.shift a.u a.s a.y by' wq) (by go_simp) ?_
  rintro e wr ⟨rfl, hb⟩
  exact ⟨rfl, hSw.below hb⟩
 try simp only [tdy]
 refine tV 10 ?_
 try simp only [tdy]
 refine wpAnyU_last rfl rfl (by kernel_rfl) (fun wz hSz => ?_)
 refine wpList_store_it 29 infoItem rfl (.tmp 4) (.tmp 15) rfl (w.heap.size + 1) 0 (It.mk (IntKind.u64.wrap (a.t + by')) a.r a.v a.i (IntKind.u64.wrap (a.u + by')) a.s a.y) (by rfl) (by rfl) hSz.there ?_
 have HW := hid (hSz.store (It.mk (IntKind.u64.wrap (a.t + by')) a.r a.v a.i (IntKind.u64.wrap (a.u + by')) a.s a.y))
 clear hSz
 generalize wz.setCells (w.heap.size + 1) 0 (It.cells (It.mk (IntKind.u64.wrap (a.t + by')) a.r a.v a.i (IntKind.u64.wrap (a.u + by')) a.s a.y)) = W at HW ⊢
 obtain ⟨z0, z1, z2, z3, z4, z5, z6⟩ := HW.out.1
 go_wp2_with fail
 refine bodyPost_ret (v := It.val (It.mk (IntKind.u64.wrap (a.t + by')) a.r a.v a.i (IntKind.u64.wrap (a.u + by')) a.s a.y)) (by simp [results, Tryz.results44, go_sem, z0, z1, z2, z3, z4, z5, z6]) rfl ⟨rfl, HW.out.2⟩
theorem Law5.of (a : It) (w : World) :
  Calls Tryz.prog 80 #[a.val] w (Ans (It.val a) w) := by
 have HI0 : Hid (I1 w a ((w.alloc (.cells #[.int .u64 a.t, .int .u32 a.r, .int .u32 a.v, .int .i64 a.i, .int .u64 a.u, .int .u32 a.s, .int .u32 a.y] 29)).alloc (.cells #[.int .u64 0, .int .u32 0, .int .u32 0, .int .i64 0, .int .u64 0, .int .u32 0, .int .u32 0] 59))) := hid
  ⟨(Cs.new7 _ _ _).alloc _, ⟨It.mk 0 0 0 0 0 0 0, by have := Cs.new7 (w.alloc (.cells #[.int .u64 a.t, .int .u32 a.r, .int .u32 a.v, .int .i64 a.i, .int .u64 a.u, .int .u32 a.s, .int .u32 a.y] 29)) 59 (It.mk 0 0 0 0 0 0 0); simp only [World.size_alloc] at this; exact this⟩, ((Below.refl _ _).alloc (Nat.le_refl _) _).alloc (by simp) _⟩
 unfold It.val
 go_enter Tryz.func80, Tryz.ntmps80
 go_wp2_with fail
 generalize ((w.alloc (.cells #[.int .u64 a.t, .int .u32 a.r, .int .u32 a.v, .int .i64 a.i, .int .u64 a.u, .int .u32 a.s, .int .u32 a.y] 29)).alloc (.cells #[.int .u64 0, .int .u32 0, .int .u32 0, .int .i64 0, .int .u64 0, .int .u32 0, .int .u32 0] 59)) = W0 at HI0 ⊢
 refine wp_region_steady (S := I1 w a) 9 (by kernel_rfl) (HI0.out.drew) ?_
 refine tV 0 ?_
 try simp only [tdy]
 refine tU 1 (v := ?_) rfl (by kernel_rfl) (fun _ _ _ h => h) (by rfl) ?_ ?_
 rotate_left
 ·intro wq hSw
  obtain ⟨p0, p1, p2, p3, p4, p5, p6⟩ := It.at a hSw.1
  go_simp; try with_reducible rfl
 try simp only [tdy]
 refine tV 3 ?_
 try simp only [tdy]
 refine tU 4 (v := ?_) rfl (by kernel_rfl) (fun _ _ _ h => h) (by rfl) ?_ ?_
 rotate_left
 ·intro wq hSw
  obtain ⟨p0, p1, p2, p3, p4, p5, p6⟩ := It.at a hSw.1
  go_simp; try with_reducible rfl
 try simp only [tdy]
 refine tV 5 ?_
 try simp only [tdy]
 refine tU 6 (v := ?_) rfl (by kernel_rfl) (fun _ _ _ h => h) (by rfl) ?_ ?_
 rotate_left
 ·intro wq hSw
  obtain ⟨p0, p1, p2, p3, p4, p5, p6⟩ := It.at a hSw.1
  go_simp; try with_reducible rfl
 try simp only [tdy]
 refine wpAnyU_take (i := 2) (v := .agg #[.int .u64 a.t, .int .u32 a.r, .int .u32 a.v]) rfl (by kernel_rfl) (by kernel_rfl) (by kernel_rfl) (by kernel_rfl) (fun _ _ _ h => h) (Or.inl ⟨by rfl, fun wq hSw => ?_⟩) ?_
 ·refine SteadyRun.of_calls (Law4.of a.t a.r a.v wq) (by go_simp) ?_
  rintro e wr ⟨rfl, hb⟩
  exact ⟨rfl, hSw.below hb⟩
 try simp only [tdy]
 refine wpAnyU_take (i := 7) (v := .agg #[.int .u64 a.u, .int .u32 a.s, .int .u32 a.y]) rfl (by kernel_rfl) (by kernel_rfl) (by kernel_rfl) (by kernel_rfl) (fun _ _ _ h => h) (Or.inl ⟨by rfl, fun wq hSw => ?_⟩) ?_
 ·refine SteadyRun.of_calls (Law4.of a.u a.s a.y wq) (by go_simp) ?_
  rintro e wr ⟨rfl, hb⟩
  exact ⟨rfl, hSw.below hb⟩
 try simp only [tdy]
 refine tV 8 ?_
 try simp only [tdy]
 refine wpAnyU_last rfl rfl (by kernel_rfl) (fun wz hSz => ?_)
 refine wpList_store_it 59 infoRefItem rfl (.tmp 2) (.tmp 11) rfl (w.heap.size + 1) 0 a (by rfl) (by rfl) hSz.there ?_
 have HW := hid (hSz.store a)
 clear hSz
 generalize wz.setCells (w.heap.size + 1) 0 (It.cells a) = W at HW ⊢
 obtain ⟨z0, z1, z2, z3, z4, z5, z6⟩ := HW.out.1
 go_wp2_with fail
 refine bodyPost_ret (v := It.val a) (by simp [results, Tryz.results80, go_sem, z0, z1, z2, z3, z4, z5, z6]) rfl ⟨rfl, HW.out.2⟩
end


section
open Go.RowKit
def Bl (W w : World) : Prop := Below W.heap.size W w
theorem Bl.drew (W : World) : Bl W W.drew := (Below.refl _ _).drew
theorem Bl.on {W w w' : World} (h : Bl W w) (hb : Below w.heap.size w w') : Bl W w' := below_on h hb
def Tho (w : World) (b o : Nat) (x : It) : Prop := w.cell? ⟨b, o, none⟩ = some (.int .u64 x.t) ∧ w.cell? ⟨b, o + 1, none⟩ = some (.int .u32 x.r) ∧ w.cell? ⟨b, o + 2, none⟩ = some (.int .u32 x.v) ∧ w.cell? ⟨b, o + 3, none⟩ = some (.int .i64 x.i) ∧ w.cell? ⟨b, o + 4, none⟩ = some (.int .u64 x.u) ∧ w.cell? ⟨b, o + 5, none⟩ = some (.int .u32 x.s) ∧ w.cell? ⟨b, o + 6, none⟩ = some (.int .u32 x.y)
theorem Tho.below {w w' : World} {b o : Nat} {x : It} (h : Tho w b o x) (hb : Below w.heap.size w w') : Tho w' b o x := ⟨keep1 hb h.1, keep1 hb h.2.1, keep1 hb h.2.2.1, keep1 hb h.2.2.2.1, keep1 hb h.2.2.2.2.1, keep1 hb h.2.2.2.2.2.1, keep1 hb h.2.2.2.2.2.2⟩
abbrev It.zero : It := It.mk 0 0 0 0 0 0 0
theorem It.zero_in : It.zero.In := by unfold It.In; refine ⟨?_, ?_, ?_, ?_, ?_, ?_, ?_⟩ <;> exact ⟨by decide, by decide⟩
def RdI (w : World) (A : Option Addr) (n : Nat) (l : List It) : Prop :=
 l.length = n ∧ ∀ i, i < n → ∃ b off, A = some ⟨b, off, none⟩ ∧ b < w.heap.size ∧ ∀ j, j < n → Tho w b (off + j * 7) (l.getD j It.zero)
theorem RdI.below {w w' : World} {A : Option Addr} {n : Nat} {l : List It} (h : RdI w A n l) (hb : Below w.heap.size w w') : RdI w' A n l :=
 ⟨h.1, fun i hi => by
  obtain ⟨b, off, e, hl, hc⟩ := h.2 i hi
  exact ⟨b, off, e, Nat.lt_of_lt_of_le hl hb.size, fun j hj => (hc j hj).below hb⟩⟩
def InI (l : List It) : Prop := ∀ x ∈ l, x.In
theorem InI.get {l : List It} (h : InI l) {k : Nat} (hk : k < l.length) : (l.getD k It.zero).In := by
 have e : l.getD k It.zero = l[k] := by simp [List.getD, hk]
 rw [e]; exact h _ (List.getElem_mem hk)
def sooner (a b : It) : It := if It.due b a then b else a
theorem sooner_in {a b : It} (ha : a.In) (hb : b.In) : (sooner a b).In := by unfold sooner; split; exact hb; exact ha
theorem fold_in (l : List It) (hl : InI l) : ∀ a : It, a.In → (l.foldl sooner a).In := by
 induction l with
 | nil => intro a ha; exact ha
 | cons b l ih => intro a ha; exact ih (fun x hx => hl x (by simp [hx])) _ (sooner_in ha (hl b (by simp)))
theorem fold_take {l : List It} {k : Nat} (hk : k < l.length) (a : It) : (l.take (k + 1)).foldl sooner a = sooner ((l.take k).foldl sooner a) (l.getD k It.zero) := by
 have e : l.getD k It.zero = l[k] := by simp [List.getD, hk]
 rw [e, List.take_succ_eq_append_getElem hk, List.foldl_append]; rfl
def Sv (w : World) (a : It) (w' : World) : Prop := Cs w' w.heap.size a.cells ∧ (∃ b : It, Cs w' (w.heap.size + 1) b.cells) ∧ Below w.heap.size w w'
theorem Sv.below {w w1 w2 : World} {a : It} (h : Sv w a w1) (hb : Below w1.heap.size w1 w2) : Sv w a w2 := ⟨h.1.below hb, by obtain ⟨b, hc⟩ := h.2.1; exact ⟨b, hc.below hb⟩, below_on h.2.2 hb⟩
theorem Sv.store {w w1 : World} {a : It} (h : Sv w a w1) (k : It) : Sv w k (w1.setCells w.heap.size 0 k.cells) := by
 obtain ⟨h1, ⟨b, h2⟩, h3⟩ := h
 exact ⟨h1.stored k, ⟨b, h2.fars (by omega) _ _⟩, below_sets (Nat.le_refl _) _ _ h3⟩
theorem Sv.answer {w w1 : World} {a : It} (h : Sv w a w1) (k : It) : Th (w1.setCells (w.heap.size + 1) 0 k.cells) (w.heap.size + 1) k ∧ Below w.heap.size w (w1.setCells (w.heap.size + 1) 0 k.cells) := by
 obtain ⟨b, hc⟩ := h.2.1
 exact ⟨(hc.stored k).th7, below_sets (by omega) _ _ h.2.2⟩
theorem Sv.there1 {w w1 : World} {a : It} (h : Sv w a w1) : w1.there (w.heap.size + 1) 0 7 := by obtain ⟨b, hc⟩ := h.2.1; exact hc.there7
set_option maxRecDepth 100000 in
set_option maxHeartbeats 4000000 in
theorem Item.soonest (a : It) (A : Option Addr) (n c : Nat) (l : List It) (w : World) (ha : a.In) (hr : RdI w A n l) (hl : InI l) (hn : n ≤ 1000000) :
  Calls Tryz.prog 113 #[a.val, .slice A n c] w (Ans (It.val (l.foldl sooner a)) w) := by
 have HA := hid ha
 have HR := hid hr
 have HL := hid hl
 have hni : (n : Int) ≤ 1000000 := by omega
 have HS0 : Hid (Sv w a ((w.alloc (.cells #[.int .u64 a.t, .int .u32 a.r, .int .u32 a.v, .int .i64 a.i, .int .u64 a.u, .int .u32 a.s, .int .u32 a.y] 29)).alloc (.cells #[.int .u64 0, .int .u32 0, .int .u32 0, .int .i64 0, .int .u64 0, .int .u32 0, .int .u32 0] 29))) := hid
  ⟨(Cs.new7 _ _ _).alloc _, ⟨It.zero, by have := Cs.new7 (w.alloc (.cells #[.int .u64 a.t, .int .u32 a.r, .int .u32 a.v, .int .i64 a.i, .int .u64 a.u, .int .u32 a.s, .int .u32 a.y] 29)) 29 It.zero; simp only [World.size_alloc] at this; exact this⟩, ((Below.refl _ _).alloc (Nat.le_refl _) _).alloc (by simp) _⟩
 clear ha hr hl
 unfold It.val
 go_enter Tryz.func113, Tryz.ntmps113
 go_wp2_with fail
 generalize ((w.alloc (.cells #[.int .u64 a.t, .int .u32 a.r, .int .u32 a.v, .int .i64 a.i, .int .u64 a.u, .int .u32 a.s, .int .u32 a.y] 29)).alloc (.cells #[.int .u64 0, .int .u32 0, .int .u32 0, .int .i64 0, .int .u64 0, .int .u32 0, .int .u32 0] 29)) = W0 at HS0 ⊢
 go_loopg [9] n (fun s i wr => ∃ k : Nat, i = .int .i64 k ∧ k ≤ n ∧ s = n - k ∧ Sv w ((l.take k).foldl sooner a) wr)
 case atStart => exact ⟨0, rfl, Nat.zero_le _, by omega, HS0.out⟩
 case round =>
  obtain ⟨k, rfl, hk, hs, hv⟩ := hrel
  have HS := hid hs
  have HV := hid hv
  clear hs hv HS0
  by_cases hkn : k < n
  ·obtain ⟨b, off, hA, _, hc⟩ := (HR.out.below HV.out.2.2).2 0 (by omega)
   obtain ⟨p0, p1, p2, p3, p4, p5, p6⟩ := hc k hkn
   have HX := hid (HL.out.get (show k < l.length by have := HR.out.1; omega))
   have HF := hid (fold_take (show k < l.length by have := HR.out.1; omega) a)
   have HC := hid (fold_in (l.take k) (fun x hx => HL.out x (List.mem_of_mem_take hx)) a HA.out)
   generalize l.getD k It.zero = x at *
   generalize (l.take k).foldl sooner a = y at *
   subst hA
   have hki : (k : Int) < n := by omega
   clear hc
   have HB1 := hid ((Below.refl wr.heap.size wr).alloc (Nat.le_refl _) (.cells #[.int .u64 x.t, .int .u32 x.r, .int .u32 x.v, .int .i64 x.i, .int .u64 x.u, .int .u32 x.s, .int .u32 x.y] 29))
   obtain ⟨q0, q1, q2, q3, q4, q5, q6⟩ := It.at y (HV.out.below HB1.out).1
   have HX1 : Hid (Cs (wr.alloc (.cells #[.int .u64 x.t, .int .u32 x.r, .int .u32 x.v, .int .i64 x.i, .int .u64 x.u, .int .u32 x.s, .int .u32 x.y] 29)) wr.heap.size x.cells) := hid (Cs.new7 _ _ _)
   go_wp2_with fail
   refine (Item.due x y HX.out HC.out _).mono ?_
   rintro e w1 ⟨rfl, hb⟩
   have HV1 := hid ((HV.out.below HB1.out).below hb)
   have HX2 := hid (HX1.out.below hb)
   clear p0 p1 p2 p3 p4 p5 p6 q0 q1 q2 q3 q4 q5 q6 hb HB1 HX1
   cases hd : It.due x y with
   | true =>
    have HD : Hid ((l.take (k + 1)).foldl sooner a = x) := hid (by rw [HF.out, sooner, if_pos hd])
    clear hd
    obtain ⟨p0, p1, p2, p3, p4, p5, p6⟩ := It.at x HX2.out
    have hth := HV1.out.1.there7
    go_wp2_with (((with_reducible refine wpList_put_it 29 infoItem rfl (.tmp 2) (.tmp 16) rfl w.heap.size 0 x hth ?h1 ?h2 ?h3); (case h1 => rfl); (case h2 => rfl); (intro W2 hW2); (have HV2 := hid (hW2 ▸ HV1.out.store x : Sv w x W2)); (clear hW2 p0 p1 p2 p3 p4 p5 p6)))
    go_roundg (n - (k + 1))
    case measure => have := HS.out; omega
    case rel => exact ⟨k + 1, by go_num, by omega, rfl, by rw [HD.out]; exact HV2.out⟩
   | false =>
    have HD : Hid ((l.take (k + 1)).foldl sooner a = y) := hid (by rw [HF.out, sooner, if_neg (by rw [hd]; simp)])
    clear hd
    go_wp2_with fail
    go_roundg (n - (k + 1))
    case measure => have := HS.out; omega
    case rel => exact ⟨k + 1, by go_num, by omega, rfl, by rw [HD.out]; exact HV1.out⟩
  ·obtain rfl : k = n := by omega
   have hki : ¬ (k : Int) < k := by omega
   have hq := HV.out
   rw [List.take_of_length_le (by have := HR.out.1; omega)] at hq
   have HQ := hid hq
   clear hq
   generalize l.foldl sooner a = y at *
   obtain ⟨q0, q1, q2, q3, q4, q5, q6⟩ := It.at y HQ.out.1
   have hth := HQ.out.there1
   have HAN : Hid (∀ W, W = wr.setCells (w.heap.size + 1) 0 y.cells → Th W (w.heap.size + 1) y ∧ Below w.heap.size w W) := hid (fun W e => by rw [e]; exact HQ.out.answer y)
   go_wp2_with ((with_reducible refine wpList_put_it 29 infoItem rfl (.tmp 4) (.tmp 18) rfl (w.heap.size + 1) 0 y hth ?k1 ?k2 ?k3); (case k1 => rfl); (case k2 => rfl); (intro W2 hW2); (have HW := hid (HAN.out W2 hW2)); (clear hW2 q0 q1 q2 q3 q4 q5 q6); (obtain ⟨z0, z1, z2, z3, z4, z5, z6⟩ := HW.out.1))
   refine bodyPost_ret (v := It.val y) (by simp [results, Tryz.results113, go_sem, z0, z1, z2, z3, z4, z5, z6]) rfl ⟨rfl, HW.out.2⟩
end


section
open Go.RowKit
def VS (w : World) (L : List (Nat × List Value)) (W : World) : Prop :=
 (∀ (k g : Nat) (vs : List Value), L[k]? = some (g, vs) → Cs W g vs ∧ w.heap.size ≤ g ∧ g < W.heap.size) ∧ (L.map (·.1)).Nodup ∧ Below w.heap.size w W
theorem VS.nil (w : World) : VS w [] w := ⟨fun k g vs h => by simp at h, List.nodup_nil, Below.refl _ _⟩
theorem VS.cs {w W : World} {L : List (Nat × List Value)} (h : VS w L W) (k : Nat) {g : Nat} {vs : List Value} (e : L[k]? = some (g, vs)) : Cs W g vs := (h.1 k g vs e).1
theorem VS.bel {w W : World} {L : List (Nat × List Value)} (h : VS w L W) : Below w.heap.size w W := h.2.2
theorem VS.below {w W W2 : World} {L : List (Nat × List Value)} (h : VS w L W) (hb : Below W.heap.size W W2) : VS w L W2 :=
 ⟨fun k g vs e => ⟨(h.1 k g vs e).1.below hb, (h.1 k g vs e).2.1, Nat.lt_of_lt_of_le (h.1 k g vs e).2.2 hb.size⟩, h.2.1, below_on h.2.2 hb⟩
theorem VS.new {w W : World} {L : List (Nat × List Value)} (h : VS w L W) (T : TypeId) (vs : List Value) : VS w (L ++ [(W.heap.size, vs)]) (W.alloc (.cells vs.toArray T)) := by
 have hb := (Below.refl W.heap.size W).alloc (Nat.le_refl _) (.cells vs.toArray T)
 have h2 := h.below hb
 refine ⟨fun k g us e => ?_, ?_, h2.2.2⟩
 ·rw [List.getElem?_append] at e
  split at e
  ·exact h2.1 k g us e
  ·rcases hk : k - L.length with _ | j
   ·rw [hk] at e
    simp at e
    obtain ⟨rfl, rfl⟩ := e
    exact ⟨Cs.alloc_new6 W T vs, h.2.2.size, by simp⟩
   ·rw [hk] at e; simp at e
 ·rw [List.map_append, List.nodup_append]
  refine ⟨h.2.1, by simp, fun a ha b hb e => ?_⟩
  simp at hb
  obtain ⟨x, hx, e2⟩ := List.mem_map.1 ha
  obtain ⟨k, hk⟩ := List.getElem?_of_mem hx
  have := (h.1 k x.1 x.2 hk).2.2
  omega
theorem VS.puts {w W : World} {L : List (Nat × List Value)} (h : VS w L W) (k : Nat) {g : Nat} {us : List Value} (e : L[k]? = some (g, us)) (o : Nat) (vs : List Value) (hl : o + vs.length ≤ us.length) : VS w (L.set k (g, setL us o vs)) (W.setCells g o vs) := by
 have hg := h.1 k g us e
 have hsz : ∀ (vs : List Value) (o : Nat) (W : World), (W.setCells g o vs).heap.size = W.heap.size := by
  intro vs
  induction vs with
  | nil => intro o W; rfl
  | cons v r ih => intro o W; exact (ih (o + 1) _).trans (by simp)
 have hkl : k < L.length := by
  rcases Nat.lt_or_ge k L.length with c | c
  ·exact c
  ·rw [List.getElem?_eq_none c] at e; cases e
 refine ⟨fun j b ts ej => ?_, ?_, below_sets hg.2.1 _ _ h.2.2⟩
 ·rw [hsz]
  by_cases c : k = j
  ·subst c
   rw [List.getElem?_set_self hkl] at ej
   injection ej with ej
   injection ej with e1 e2
   subst e1 e2
   exact ⟨Cs.putL vs o hg.1 hl, hg.2⟩
  ·rw [List.getElem?_set_ne c] at ej
   have hj := h.1 j b ts ej
   refine ⟨hj.1.fars ?_ _ _, hj.2⟩
   intro e'
   subst e'
   have n := List.pairwise_iff_getElem.1 h.2.1
   have hjl : j < L.length := by
    rcases Nat.lt_or_ge j L.length with d | d
    ·exact d
    ·rw [List.getElem?_eq_none d] at ej; cases ej
   rw [List.getElem?_eq_getElem hkl] at e
   rw [List.getElem?_eq_getElem hjl] at ej
   injection e with e
   injection ej with ej
   rcases Nat.lt_or_gt_of_ne c with d | d
   ·have := n k j (by simpa using hkl) (by simpa using hjl) d
    simp [e, ej] at this
   ·have := n j k (by simpa using hjl) (by simpa using hkl) d
    simp [e, ej] at this
 ·have : (L.set k (g, setL us o vs)).map (·.1) = L.map (·.1) := by
   rw [List.map_set]
   apply List.ext_getElem?
   intro i
   by_cases c : k = i
   ·subst c
    rw [List.getElem?_set_self (by simpa using hkl)]
    simp [e]
   ·rw [List.getElem?_set_ne c]
  rw [this]; exact h.2.1
theorem VS.put {w W : World} {L : List (Nat × List Value)} (h : VS w L W) (k : Nat) {g : Nat} {us : List Value} (e : L[k]? = some (g, us)) (o : Nat) (vs : List Value) (hl : o + vs.length ≤ us.length) {W2 : World} (hW : W2 = W.setCells g o vs) : VS w (L.set k (g, setL us o vs)) W2 := by
 rw [hW]; exact h.puts k e o vs hl
theorem VS.put1 {w W : World} {L : List (Nat × List Value)} (h : VS w L W) (k : Nat) {g : Nat} {us : List Value} (e : L[k]? = some (g, us)) (o : Nat) (v : Value) (hl : o < us.length) : VS w (L.set k (g, us.set o v)) (W.setCell ⟨g, o, none⟩ v) := h.puts k e o [v] (by simp; omega)
theorem VS.less {w W : World} {L : List (Nat × List Value)} (M : List (Nat × List Value)) (h : VS w (L ++ M) W) : VS w L W :=
 ⟨fun k g vs e => h.1 k g vs (by rw [List.getElem?_append_left]; exact e; exact (List.getElem?_eq_some_iff.1 e).1), (List.nodup_append.1 (by have := h.2.1; rwa [List.map_append] at this)).1, h.2.2⟩
theorem VS.stays (w : World) (L : List (Nat × List Value)) : Stays (VS w L) := fun _ _ h hb => h.below hb
theorem wpList_put_vs {ops : Array Oper} {rest : List Oper} {op : Oper} {a : Act} {w W : World} {Q : Exit → Act → World → Prop} {L : List (Nat × List Value)} (h : VS w L W) (k : Nat) (T : TypeId) (vs : List Value) {n : Nat} (hT : (Tryz.prog.info? T).map (·.size) = some n) (hgd : op.guard = none) (x y : Operand) (ho : op.op = .store T x y)
  (g : Nat) (us : List Value) (hk : L[k]? = some (g, us)) (o : Nat) (hn : vs.length = n) (hl : o + n ≤ us.length) (h1 : vs.all (·.oneCell') = true) (hx : a.eval x = .pointer (some ⟨g, o, none⟩)) (hy : a.eval y = .agg vs.toArray)
  (hK : ∀ W2, VS w (L.set k (g, setL us o vs)) W2 → wpList Tryz.prog ops Q rest (a.put op.dst undef) W2) : wpList Tryz.prog ops Q (op :: rest) a W :=
 wpList_store_mid hgd T x y ho g o vs.toArray hx hy (by
   intro j hj
   have hc := h.cs k hk
   have hj' : o + j < us.length := by simp at hj; omega
   exact ⟨by rw [(hc _ _ (List.getElem?_eq_getElem hj')).1]; rfl, (hc _ _ (List.getElem?_eq_getElem hj')).2⟩) (by rw [hT, ← hn]; simp) (by simpa using h1) (hK _ (by simpa using h.puts k hk o vs (by omega)))
theorem pvs {ops : Array Oper} {rest : List Oper} {op : Oper} {a : Act} {w W : World} {Q : Exit → Act → World → Prop} {L : List (Nat × List Value)} (h : VS w L W) (k : Nat) (T : TypeId) (vs : List Value) {n : Nat} (hT : (Tryz.prog.info? T).map (·.size) = some n) (x y : Nat) (g : Nat) (us : List Value) (o : Nat)
  (hK : ∀ W2, VS w (L.set k (g, setL us o vs)) W2 → wpList Tryz.prog ops Q rest (a.put op.dst undef) W2) (hk : L[k]? = some (g, us) := by kernel_rfl) (hgd : op.guard = none := by rfl) (ho : op.op = .store T (.tmp x) (.tmp y) := by rfl)
  (hn : vs.length = n := by kernel_rfl) (hl : decide (o + n ≤ us.length) = true := by kernel_rfl) (h1 : vs.all (·.oneCell') = true := by kernel_rfl) (hx : a.eval (.tmp x) = .pointer (some ⟨g, o, none⟩) := by kernel_rfl) (hy : a.eval (.tmp y) = .agg vs.toArray := by kernel_rfl) : wpList Tryz.prog ops Q (op :: rest) a W :=
 wpList_put_vs h k T vs hT hgd (.tmp x) (.tmp y) ho g us hk o hn (of_decide_eq_true hl) h1 hx hy hK
structure Rq where
 a : It
 l : Int
 s : Int
 z : Bool
def Rq.cells (r : Rq) : List Value := [.int .u64 r.a.t, .int .u32 r.a.r, .int .u32 r.a.v, .int .i64 r.a.i, .int .u64 r.a.u, .int .u32 r.a.s, .int .u32 r.a.y, .int .u64 r.l, .int .u64 r.s, .bool r.z]
abbrev Rq.val (r : Rq) : Value := .agg #[.int .u64 r.a.t, .int .u32 r.a.r, .int .u32 r.a.v, .int .i64 r.a.i, .int .u64 r.a.u, .int .u32 r.a.s, .int .u32 r.a.y, .int .u64 r.l, .int .u64 r.s, .bool r.z]
def Rq.In (r : Rq) : Prop := r.a.In ∧ IsT r.l ∧ IsT r.s
abbrev Rq.no : Rq := ⟨It.zero, 0, 0, false⟩
theorem Rq.no_in : Rq.no.In := ⟨It.zero_in, ⟨by decide, by decide⟩, ⟨by decide, by decide⟩⟩
theorem Rq.at {w : World} {g : Nat} (r : Rq) (h : Cs w g r.cells) : w.cell? ⟨g, 0, none⟩ = some (.int .u64 r.a.t) ∧ w.cell? ⟨g, 1, none⟩ = some (.int .u32 r.a.r) ∧ w.cell? ⟨g, 2, none⟩ = some (.int .u32 r.a.v) ∧ w.cell? ⟨g, 3, none⟩ = some (.int .i64 r.a.i) ∧ w.cell? ⟨g, 4, none⟩ = some (.int .u64 r.a.u) ∧ w.cell? ⟨g, 5, none⟩ = some (.int .u32 r.a.s) ∧ w.cell? ⟨g, 6, none⟩ = some (.int .u32 r.a.y) ∧ w.cell? ⟨g, 7, none⟩ = some (.int .u64 r.l) ∧ w.cell? ⟨g, 8, none⟩ = some (.int .u64 r.s) ∧ w.cell? ⟨g, 9, none⟩ = some (.bool r.z) :=
 ⟨(h 0 _ rfl).1, (h 1 _ rfl).1, (h 2 _ rfl).1, (h 3 _ rfl).1, (h 4 _ rfl).1, (h 5 _ rfl).1, (h 6 _ rfl).1, (h 7 _ rfl).1, (h 8 _ rfl).1, (h 9 _ rfl).1⟩
def slI (n : Int) : Bool := decide (1 ≤ n ∧ n ≤ 1099511627776)
def gw (n : Int) : Int := IntKind.u64.wrap (1048576 * n)
theorem gw_T (n : Int) : IsT (gw n) := by unfold gw IsT; rw [IntKind.wrap_u64]; omega
theorem gw_eq {n : Int} (h0 : 0 ≤ n) (h1 : n ≤ 1099511627776) : gw n = 1048576 * n := by unfold gw; rw [IntKind.wrap_u64]; omega
def dueP (p : P3) (n : Int) : P3 := atP p.1 (gw n + p.2.1) p.2.2
def Rq.pp (r : Rq) : P3 := (r.a.t, r.a.r, r.a.v)
def Rq.dp (r : Rq) : P3 := (r.a.u, r.a.s, r.a.y)
def Rq.due (r : Rq) : P3 := dueP r.pp r.l
def Rq.right (r : Rq) : Bool := r.a.right && slI r.l && slI r.s && (r.a.u == r.due.1 && r.a.s == r.due.2.1 && r.a.y == r.due.2.2)
def Rq.whr (r : Rq) : Rq × Bool := if r.right = true then (r, true) else (Rq.no, false)
def Rq.from_ (r : Rq) (p : P3) : Rq := ⟨⟨p.1, p.2.1, p.2.2, r.a.i, (dueP p r.l).1, (dueP p r.l).2.1, (dueP p r.l).2.2⟩, r.l, r.s, r.z⟩
def Rq.new (p : P3) (id n : Int) : Rq × Bool := (Rq.from_ ⟨⟨0, 0, 0, id, 0, 0, 0⟩, n, n, false⟩ p).whr
def Rq.moved (r : Rq) (p : P3) : Rq × Bool := if r.right = true then (r.from_ p).whr else (Rq.no, false)
def Rq.sliced (r : Rq) (n : Int) : Rq × Bool := if r.right = true then (Rq.mk r.a r.l n r.z).whr else (Rq.no, false)
def Rq.left (r : Rq) (n : Int) : Int := if r.l = n then r.s else r.l - n
def Rq.went (r : Rq) (n : Int) : Rq := Rq.from_ ⟨r.a, r.left n, r.s, r.z⟩ (dueP r.pp n)
def Rq.srvOk (r : Rq) (n : Int) : Bool := r.right && decide (1 ≤ n ∧ n ≤ r.l)
def Rq.serve (r : Rq) (n : Int) : Rq × Bool × Bool := if r.srvOk n = true then ((r.went n).whr.1, decide (r.l = n) && (r.went n).whr.2, (r.went n).whr.2) else (Rq.no, false, false)
theorem atP_in (base d : Int) {v : Int} (h0 : 0 ≤ v) (h1 : v ≤ 4294967295) : PIn (atP base d v) := by
 unfold atP
 split
 ·rename_i h
  obtain ⟨a, b, _, _⟩ := atOk_iff.1 h
  have c := Int.emod_nonneg d (show v ≠ 0 by omega)
  have e := Int.emod_lt_of_pos d (show 0 < v by omega)
  exact ⟨adv_T _ _, ⟨c, by show d % v ≤ 4294967295; omega⟩, h0, h1⟩
 ·exact ⟨⟨by decide, by decide⟩, ⟨by decide, by decide⟩, by decide, by decide⟩
theorem dueP_in {p : P3} (hp : PIn p) (n : Int) : PIn (dueP p n) := atP_in _ _ hp.2.2.1 hp.2.2.2
theorem Rq.pp_in {r : Rq} (h : r.In) : PIn r.pp := ⟨h.1.1, h.1.2.1, h.1.2.2.1⟩
theorem Rq.from_in {r : Rq} (h : r.In) {p : P3} (hp : PIn p) : (r.from_ p).In :=
 ⟨⟨hp.1, hp.2.1, hp.2.2, h.1.2.2.2.1, (dueP_in hp _).1, (dueP_in hp _).2.1, (dueP_in hp _).2.2⟩, h.2⟩
theorem Rq.whr_in {r : Rq} (h : r.In) : r.whr.1.In := by
 unfold Rq.whr; split
 ·exact h
 ·exact Rq.no_in
theorem slI_iff {n : Int} : slI n = true ↔ (1 ≤ n ∧ n ≤ 1099511627776) := by unfold slI; rw [decide_eq_true_eq]
theorem posOk_iff {r v : Int} (hr : 0 ≤ r) : posOk r v = true ↔ IsP r v := by
 unfold posOk IsP; simp only [Bool.and_eq_true, decide_eq_true_eq]; omega
theorem right_parts {r : Rq} (h : r.In) (hr : r.right = true) : IsP r.a.r r.a.v ∧ 0 < r.a.i ∧ slI r.l = true ∧ slI r.s = true ∧ r.dp = r.due ∧ r.a.right = true := by
 unfold Rq.right at hr
 simp only [Bool.and_eq_true, beq_iff_eq] at hr
 obtain ⟨⟨⟨h1, h2⟩, h3⟩, ⟨h4, h5⟩, h6⟩ := hr
 have h0 := h1
 unfold It.right at h0
 simp only [Bool.and_eq_true, decide_eq_true_eq] at h0
 exact ⟨(posOk_iff h.1.2.1.1).1 h0.1.1.1.1.1, h0.1.1.2, h2, h3, Prod.ext h4 (Prod.ext h5 h6), h1⟩
theorem right_eq {r : Rq} (h : r.In) (hr : r.right = true) : r.from_ r.pp = r := by
 obtain ⟨_, _, _, _, h5, _⟩ := right_parts h hr
 obtain ⟨⟨t, rr, v, i, u, s, y⟩, l, sl, z⟩ := r
 unfold Rq.from_ Rq.pp
 unfold Rq.dp Rq.due Rq.pp at h5
 simp only at h5 ⊢
 rw [← h5]
def srvStep (s : Rq × Int × Bool) (n : Int) : Rq × Int × Bool :=
 if s.2.2 = true then (if (s.1.serve (min n s.1.l)).2.2 = true then ((s.1.serve (min n s.1.l)).1, s.2.1 + (if (s.1.serve (min n s.1.l)).2.1 = true then 1 else 0), true) else (Rq.no, 0, false)) else (Rq.no, 0, false)
def Rq.served (r : Rq) (l : List Int) : Rq × Int × Bool := l.foldl srvStep (r, 0, true)
theorem srv_stuck (l : List Int) : l.foldl srvStep (Rq.no, 0, false) = (Rq.no, 0, false) := by
 induction l with
 | nil => rfl
 | cons a l ih => rw [List.foldl_cons]; exact ih
theorem served_take {r : Rq} {zs : List Int} {k : Nat} (hk : k < zs.length) : r.served (zs.take (k + 1)) = srvStep (r.served (zs.take k)) (zs.getD k 0) := by
 have e : zs.getD k 0 = zs[k] := by simp [List.getD, hk]
 unfold Rq.served
 rw [e, List.take_succ_eq_append_getElem hk, List.foldl_append]
 rfl
theorem served_stop {r : Rq} {zs : List Int} {k : Nat} (h : r.served (zs.take k) = (Rq.no, 0, false)) : r.served zs = (Rq.no, 0, false) := by
 have e : zs = zs.take k ++ zs.drop k := (List.take_append_drop k zs).symm
 unfold Rq.served at *
 rw [e, List.foldl_append, h]
 exact srv_stuck _
theorem serve_in {r : Rq} (h : r.In) (n : Int) (h0 : 0 ≤ n) : (r.serve n).1.In := by
 unfold Rq.serve
 split
 ·rename_i c
  unfold Rq.srvOk at c
  simp only [Bool.and_eq_true, decide_eq_true_eq] at c
  have l2 := h.2.1
  have s2 := h.2.2
  unfold IsT at l2
  have hl : IsT (r.left n) := by
   unfold Rq.left; split
   ·exact s2
   ·unfold IsT; omega
  exact Rq.whr_in (Rq.from_in (r := ⟨r.a, r.left n, r.s, r.z⟩) ⟨h.1, hl, s2⟩ (dueP_in (Rq.pp_in h) n))
 ·exact Rq.no_in
end


section
open Go.RowKit
set_option maxRecDepth 100000
set_option maxHeartbeats 32000000
theorem Ref5.ahead (a b : It) (ha : a.In) (hb : b.In) (w : World) :
  Calls Tryz.prog 196 #[a.val, b.val] w (Ans (.bool (It.ahead a b)) w) := by
 have HA := hid ha
 have HB := hid hb
 have HT0 : Hid (∀ w' : World, Below ((w.alloc (.cells #[.int .u64 a.t, .int .u32 a.r, .int .u32 a.v, .int .i64 a.i, .int .u64 a.u, .int .u32 a.s, .int .u32 a.y] 59)).alloc (.cells #[.int .u64 b.t, .int .u32 b.r, .int .u32 b.v, .int .i64 b.i, .int .u64 b.u, .int .u32 b.s, .int .u32 b.y] 59)).heap.size ((w.alloc (.cells #[.int .u64 a.t, .int .u32 a.r, .int .u32 a.v, .int .i64 a.i, .int .u64 a.u, .int .u32 a.s, .int .u32 a.y] 59)).alloc (.cells #[.int .u64 b.t, .int .u32 b.r, .int .u32 b.v, .int .i64 b.i, .int .u64 b.u, .int .u32 b.s, .int .u32 b.y] 59)) w' → Cs w' w.heap.size a.cells ∧ Cs w' (w.heap.size + 1) b.cells ∧ Below w.heap.size w w') :=
  hid (fun w' hb => ⟨((Cs.new7 _ _ _).alloc _).below hb, by have := Cs.new7 (w.alloc (.cells #[.int .u64 a.t, .int .u32 a.r, .int .u32 a.v, .int .i64 a.i, .int .u64 a.u, .int .u32 a.s, .int .u32 a.y] 59)) 59 b; simp only [World.size_alloc] at this; exact this.below hb, below_on (((Below.refl _ _).alloc (Nat.le_refl _) _).alloc (by simp) _) hb⟩)
 clear ha hb
 obtain ⟨c, hc⟩ : ∃ c, c = posC a.t a.r a.v b.t b.r b.v := ⟨_, rfl⟩
 have HC := hid hc
 clear hc
 unfold It.val
 rcases Int.lt_trichotomy c 0 with h | rfl | h
 ·have H := hid h
  have HE : Hid (It.ahead a b = true) := hid (by unfold It.ahead; rw [if_neg (by rw [← HC.out]; have := H.out; omega)]; rw [← HC.out]; exact decide_eq_true H.out)
  go_enter Tryz.func196, Tryz.ntmps196
  go_wp2_with fail
  refine (Ref4.cmp a.t a.r a.v b.t b.r b.v HA.out.1.1 HA.out.1.2 HA.out.2.1.1 HA.out.2.1.2 HA.out.2.2.1.1 HA.out.2.2.1.2 HB.out.1.1 HB.out.1.2 HB.out.2.1.1 HB.out.2.1.2 HB.out.2.2.1.1 HB.out.2.2.1.2 _).mono ?_
  rintro e w1 ⟨rfl, hb1⟩
  rw [← HC.out]
  have HT1 := hid (HT0.out _ hb1)
  obtain ⟨p0, p1, p2, p3, p4, p5, p6⟩ := It.at a HT1.out.1
  obtain ⟨q0, q1, q2, q3, q4, q5, q6⟩ := It.at b HT1.out.2.1
  clear hb1
  go_wp2_with fail
  go_ret
  exact ⟨by rw [HE.out]; rfl, HT1.out.2.2⟩
 ·have HE : Hid (It.ahead a b = decide (a.i < b.i)) := hid (by unfold It.ahead; rw [if_pos HC.out.symm])
  go_enter Tryz.func196, Tryz.ntmps196
  go_wp2_with fail
  refine (Ref4.cmp a.t a.r a.v b.t b.r b.v HA.out.1.1 HA.out.1.2 HA.out.2.1.1 HA.out.2.1.2 HA.out.2.2.1.1 HA.out.2.2.1.2 HB.out.1.1 HB.out.1.2 HB.out.2.1.1 HB.out.2.1.2 HB.out.2.2.1.1 HB.out.2.2.1.2 _).mono ?_
  rintro e w1 ⟨rfl, hb1⟩
  rw [← HC.out]
  have HT1 := hid (HT0.out _ hb1)
  obtain ⟨p0, p1, p2, p3, p4, p5, p6⟩ := It.at a HT1.out.1
  obtain ⟨q0, q1, q2, q3, q4, q5, q6⟩ := It.at b HT1.out.2.1
  clear hb1
  go_wp2_with fail
  go_ret
  exact ⟨by rw [HE.out]; rfl, HT1.out.2.2⟩
 ·have H := hid h
  have HE : Hid (It.ahead a b = decide (c < 0)) := hid (by unfold It.ahead; rw [if_neg (by rw [← HC.out]; have := H.out; omega)]; rw [← HC.out])
  have h0 : ¬ c < 0 := by omega
  have h1 : (c == 0) = false := by rw [beq_eq_false_iff_ne]; omega
  go_enter Tryz.func196, Tryz.ntmps196
  go_wp2_with fail
  refine (Ref4.cmp a.t a.r a.v b.t b.r b.v HA.out.1.1 HA.out.1.2 HA.out.2.1.1 HA.out.2.1.2 HA.out.2.2.1.1 HA.out.2.2.1.2 HB.out.1.1 HB.out.1.2 HB.out.2.1.1 HB.out.2.1.2 HB.out.2.2.1.1 HB.out.2.2.1.2 _).mono ?_
  rintro e w1 ⟨rfl, hb1⟩
  rw [← HC.out]
  have HT1 := hid (HT0.out _ hb1)
  obtain ⟨p0, p1, p2, p3, p4, p5, p6⟩ := It.at a HT1.out.1
  obtain ⟨q0, q1, q2, q3, q4, q5, q6⟩ := It.at b HT1.out.2.1
  clear hb1
  go_wp2_with fail
  go_ret
  exact ⟨by rw [HE.out]; rfl, HT1.out.2.2⟩
theorem Ref5.due (a b : It) (ha : a.In) (hb : b.In) (w : World) :
  Calls Tryz.prog 228 #[a.val, b.val] w (Ans (.bool (It.due a b)) w) := by
 have HA := hid ha
 have HB := hid hb
 have HT0 : Hid (∀ w' : World, Below ((w.alloc (.cells #[.int .u64 a.t, .int .u32 a.r, .int .u32 a.v, .int .i64 a.i, .int .u64 a.u, .int .u32 a.s, .int .u32 a.y] 59)).alloc (.cells #[.int .u64 b.t, .int .u32 b.r, .int .u32 b.v, .int .i64 b.i, .int .u64 b.u, .int .u32 b.s, .int .u32 b.y] 59)).heap.size ((w.alloc (.cells #[.int .u64 a.t, .int .u32 a.r, .int .u32 a.v, .int .i64 a.i, .int .u64 a.u, .int .u32 a.s, .int .u32 a.y] 59)).alloc (.cells #[.int .u64 b.t, .int .u32 b.r, .int .u32 b.v, .int .i64 b.i, .int .u64 b.u, .int .u32 b.s, .int .u32 b.y] 59)) w' → Cs w' w.heap.size a.cells ∧ Cs w' (w.heap.size + 1) b.cells ∧ Below w.heap.size w w') :=
  hid (fun w' hb => ⟨((Cs.new7 _ _ _).alloc _).below hb, by have := Cs.new7 (w.alloc (.cells #[.int .u64 a.t, .int .u32 a.r, .int .u32 a.v, .int .i64 a.i, .int .u64 a.u, .int .u32 a.s, .int .u32 a.y] 59)) 59 b; simp only [World.size_alloc] at this; exact this.below hb, below_on (((Below.refl _ _).alloc (Nat.le_refl _) _).alloc (by simp) _) hb⟩)
 clear ha hb
 obtain ⟨c, hc⟩ : ∃ c, c = posC a.u a.s a.y b.u b.s b.y := ⟨_, rfl⟩
 have HC := hid hc
 clear hc
 unfold It.val
 rcases Int.lt_trichotomy c 0 with h | rfl | h
 ·have H := hid h
  have HE : Hid (It.due a b = true) := hid (by unfold It.due; rw [if_neg (by rw [← HC.out]; have := H.out; omega)]; rw [← HC.out]; exact decide_eq_true H.out)
  go_enter Tryz.func228, Tryz.ntmps228
  go_wp2_with fail
  refine (Ref4.cmp a.u a.s a.y b.u b.s b.y HA.out.2.2.2.2.1.1 HA.out.2.2.2.2.1.2 HA.out.2.2.2.2.2.1.1 HA.out.2.2.2.2.2.1.2 HA.out.2.2.2.2.2.2.1 HA.out.2.2.2.2.2.2.2 HB.out.2.2.2.2.1.1 HB.out.2.2.2.2.1.2 HB.out.2.2.2.2.2.1.1 HB.out.2.2.2.2.2.1.2 HB.out.2.2.2.2.2.2.1 HB.out.2.2.2.2.2.2.2 _).mono ?_
  rintro e w1 ⟨rfl, hb1⟩
  rw [← HC.out]
  have HT1 := hid (HT0.out _ hb1)
  obtain ⟨p0, p1, p2, p3, p4, p5, p6⟩ := It.at a HT1.out.1
  obtain ⟨q0, q1, q2, q3, q4, q5, q6⟩ := It.at b HT1.out.2.1
  clear hb1
  go_wp2_with fail
  go_ret
  exact ⟨by rw [HE.out]; rfl, HT1.out.2.2⟩
 ·have HE : Hid (It.due a b = It.ahead a b) := hid (by unfold It.due; rw [if_pos HC.out.symm])
  go_enter Tryz.func228, Tryz.ntmps228
  go_wp2_with fail
  refine (Ref4.cmp a.u a.s a.y b.u b.s b.y HA.out.2.2.2.2.1.1 HA.out.2.2.2.2.1.2 HA.out.2.2.2.2.2.1.1 HA.out.2.2.2.2.2.1.2 HA.out.2.2.2.2.2.2.1 HA.out.2.2.2.2.2.2.2 HB.out.2.2.2.2.1.1 HB.out.2.2.2.2.1.2 HB.out.2.2.2.2.2.1.1 HB.out.2.2.2.2.2.1.2 HB.out.2.2.2.2.2.2.1 HB.out.2.2.2.2.2.2.2 _).mono ?_
  rintro e w1 ⟨rfl, hb1⟩
  rw [← HC.out]
  have HT1 := hid (HT0.out _ hb1)
  obtain ⟨p0, p1, p2, p3, p4, p5, p6⟩ := It.at a HT1.out.1
  obtain ⟨q0, q1, q2, q3, q4, q5, q6⟩ := It.at b HT1.out.2.1
  clear hb1
  go_wp2_with fail
  refine (Ref5.ahead a b HA.out HB.out _).mono ?_
  rintro e w2 ⟨rfl, hb2⟩
  have HB2 := hid (below_on HT1.out.2.2 hb2)
  clear hb2
  go_wp2_with fail
  go_ret
  exact ⟨by rw [HE.out]; rfl, HB2.out⟩
 ·have H := hid h
  have HE : Hid (It.due a b = decide (c < 0)) := hid (by unfold It.due; rw [if_neg (by rw [← HC.out]; have := H.out; omega)]; rw [← HC.out])
  have h0 : ¬ c < 0 := by omega
  have h1 : (c == 0) = false := by rw [beq_eq_false_iff_ne]; omega
  go_enter Tryz.func228, Tryz.ntmps228
  go_wp2_with fail
  refine (Ref4.cmp a.u a.s a.y b.u b.s b.y HA.out.2.2.2.2.1.1 HA.out.2.2.2.2.1.2 HA.out.2.2.2.2.2.1.1 HA.out.2.2.2.2.2.1.2 HA.out.2.2.2.2.2.2.1 HA.out.2.2.2.2.2.2.2 HB.out.2.2.2.2.1.1 HB.out.2.2.2.2.1.2 HB.out.2.2.2.2.2.1.1 HB.out.2.2.2.2.2.1.2 HB.out.2.2.2.2.2.2.1 HB.out.2.2.2.2.2.2.2 _).mono ?_
  rintro e w1 ⟨rfl, hb1⟩
  rw [← HC.out]
  have HT1 := hid (HT0.out _ hb1)
  obtain ⟨p0, p1, p2, p3, p4, p5, p6⟩ := It.at a HT1.out.1
  obtain ⟨q0, q1, q2, q3, q4, q5, q6⟩ := It.at b HT1.out.2.1
  clear hb1
  go_wp2_with fail
  go_ret
  exact ⟨by rw [HE.out]; rfl, HT1.out.2.2⟩
end


section
open Go.RowKit
set_option maxRecDepth 100000
set_option maxHeartbeats 32000000
theorem Ref5.right1 (a : It) (ha : a.In) (w : World) (h1 : posOk a.r a.v = false) :
  Calls Tryz.prog 85 #[a.val] w (Ans (.bool false) w) := by
 have HA := hid ha
 have H1 := hid h1
 clear h1
 have HV0 : Hid (∀ w', Below (w.alloc (.cells #[.int .u64 a.t, .int .u32 a.r, .int .u32 a.v, .int .i64 a.i, .int .u64 a.u, .int .u32 a.s, .int .u32 a.y] 59)).heap.size (w.alloc (.cells #[.int .u64 a.t, .int .u32 a.r, .int .u32 a.v, .int .i64 a.i, .int .u64 a.u, .int .u32 a.s, .int .u32 a.y] 59)) w' → Cs w' w.heap.size a.cells ∧ Below w.heap.size w w') := hid (fun w' hb => ⟨(Cs.new7 _ _ _).below hb, below_on ((Below.refl _ _).alloc (Nat.le_refl _) _) hb⟩)
 clear ha
 unfold It.val
 go_enter Tryz.func85, Tryz.ntmps85
 go_wp2_with fail
 refine (Ref3.since a.u a.t HA.out.2.2.2.2.1.1 HA.out.2.2.2.2.1.2 HA.out.1.1 HA.out.1.2 _).mono ?_
 rintro e w1 ⟨s1, A1, n1, c1, rfl, hB1, hb1⟩
 have HV1 := hid (HV0.out _ hb1)
 have HD1 := hid hB1
 clear hb1 hB1
 have hb2 := (Below.refl w1.heap.size w1).alloc (Nat.le_refl _) (.cells #[.bool s1, .slice A1 n1 c1] 198)
 have HV2 := hid (And.intro (HV1.out.1.below hb2) (below_on HV1.out.2 hb2))
 have HD2 := hid (HD1.out.below hb2)
 have HN2 : Hid (Cs (w1.alloc (.cells #[.bool s1, .slice A1 n1 c1] 198)) w1.heap.size [.bool s1, .slice A1 n1 c1]) := hid (Cs.alloc_new6 _ _ [.bool s1, .slice A1 n1 c1])
 clear hb2
 go_wp2_with fail
 generalize hbd : w1.heap.size = bd at HN2 ⊢
 generalize (w1.alloc (.cells #[.bool s1, .slice A1 n1 c1] 198)) = W0 at HV2 HD2 HN2 ⊢
 clear hbd
 have HSEE : Hid (∀ w', Bl W0 w' → (fun w' => (w'.cell? ⟨w.heap.size, 0, none⟩ = some (.int .u64 a.t) ∧ w'.cell? ⟨w.heap.size, 1, none⟩ = some (.int .u32 a.r) ∧ w'.cell? ⟨w.heap.size, 2, none⟩ = some (.int .u32 a.v) ∧ w'.cell? ⟨w.heap.size, 3, none⟩ = some (.int .i64 a.i) ∧ w'.cell? ⟨w.heap.size, 4, none⟩ = some (.int .u64 a.u) ∧ w'.cell? ⟨w.heap.size, 5, none⟩ = some (.int .u32 a.s) ∧ w'.cell? ⟨w.heap.size, 6, none⟩ = some (.int .u32 a.y) ∧ w'.cell? ⟨bd, 0, none⟩ = some (.bool s1) ∧ w'.cell? ⟨bd, 1, none⟩ = some (.slice A1 n1 c1)) ∧ Bl W0 w') w') := hid (fun w' hb => by
  obtain ⟨p0, p1, p2, p3, p4, p5, p6⟩ := It.at a (HV2.out.1.below hb)
  exact ⟨⟨p0, p1, p2, p3, p4, p5, p6, (HN2.out.below hb).at0, (HN2.out.below hb).at1⟩, hb⟩)
 refine wp_region_held_drew (S := fun w' => (w'.cell? ⟨w.heap.size, 0, none⟩ = some (.int .u64 a.t) ∧ w'.cell? ⟨w.heap.size, 1, none⟩ = some (.int .u32 a.r) ∧ w'.cell? ⟨w.heap.size, 2, none⟩ = some (.int .u32 a.v) ∧ w'.cell? ⟨w.heap.size, 3, none⟩ = some (.int .i64 a.i) ∧ w'.cell? ⟨w.heap.size, 4, none⟩ = some (.int .u64 a.u) ∧ w'.cell? ⟨w.heap.size, 5, none⟩ = some (.int .u32 a.s) ∧ w'.cell? ⟨w.heap.size, 6, none⟩ = some (.int .u32 a.y) ∧ w'.cell? ⟨bd, 0, none⟩ = some (.bool s1) ∧ w'.cell? ⟨bd, 1, none⟩ = some (.slice A1 n1 c1)) ∧ Bl W0 w') (by kernel_rfl) (HSEE.out _ (Bl.drew W0)) (fun hHeld => ?_)
 refine tH 0 ?_
 try simp only [tdy]
 refine tH 1 ?_
 try simp only [tdy]
 refine wpAnyH_ready (rs := [2]) (by kernel_rfl) (by simp) ?_
 refine AllReadyH.cons rfl (fun K hK => ?_) AllReadyH.nil
 go_simp
 refine (Ref4.right a.t a.r a.v _).mono ?_
 rintro e wq ⟨rfl, hbq⟩
 rw [show (decide (1 ≤ a.v ∧ a.v ≤ 1048576) && decide (a.r < a.v)) = false from H1.out]
 refine hK.out _ _ ?_ (fun hHeld => ?_)
 ·first | exact HSEE.out _ (hHeld.2.on hbq) | exact HSEE.out _ hHeld.2
 clear hK K
 try simp only [tdy]
 refine tH 3 ?_
 try simp only [tdy]
 refine tN 4 ?_
 try simp only [tdy]
 refine tN 5 ?_
 try simp only [tdy]
 refine tN 6 ?_
 try simp only [tdy]
 refine tH 7 ?_
 try simp only [tdy]
 refine tH 8 ?_
 try simp only [tdy]
 refine tN 9 ?_
 try simp only [tdy]
 refine tN 10 ?_
 try simp only [tdy]
 refine tN 11 ?_
 try simp only [tdy]
 refine tN 12 ?_
 try simp only [tdy]
 refine tN 13 ?_
 try simp only [tdy]
 refine tN 14 ?_
 try simp only [tdy]
 refine tN 15 ?_
 try simp only [tdy]
 refine tH 16 ?_
 try simp only [tdy]
 refine tH 17 ?_
 try simp only [tdy]
 refine tN 18 ?_
 try simp only [tdy]
 refine tN 19 ?_
 try simp only [tdy]
 refine tN 20 ?_
 try simp only [tdy]
 refine tH 21 ?_
 try simp only [tdy]
 refine tH 22 ?_
 try simp only [tdy]
 refine tN 23 ?_
 try simp only [tdy]
 refine tN 24 ?_
 try simp only [tdy]
 refine tN 25 ?_
 try simp only [tdy]
 refine tH 26 ?_
 try simp only [tdy]
 refine tH 27 ?_
 try simp only [tdy]
 refine tN 28 ?_
 try simp only [tdy]
 refine tN 29 ?_
 try simp only [tdy]
 refine tN 30 ?_
 try simp only [tdy]
 refine tN 31 ?_
 try simp only [tdy]
 refine tH 32 ?_
 try simp only [tdy]
 refine tH 33 ?_
 try simp only [tdy]
 refine wpAnyH_done (by kernel_rfl) ?_ _
 have HFIN := hid (below_on HV2.out.2 hHeld.2)
 clear hHeld
 go_wp2
 go_ret
 exact ⟨rfl, HFIN.out⟩
theorem Ref5.right2 (a : It) (ha : a.In) (w : World) (h1 : posOk a.r a.v = true) (h2 : posOk a.s a.y = false) :
  Calls Tryz.prog 85 #[a.val] w (Ans (.bool false) w) := by
 have HA := hid ha
 have H1 := hid h1
 clear h1
 have H2 := hid h2
 clear h2
 have HV0 : Hid (∀ w', Below (w.alloc (.cells #[.int .u64 a.t, .int .u32 a.r, .int .u32 a.v, .int .i64 a.i, .int .u64 a.u, .int .u32 a.s, .int .u32 a.y] 59)).heap.size (w.alloc (.cells #[.int .u64 a.t, .int .u32 a.r, .int .u32 a.v, .int .i64 a.i, .int .u64 a.u, .int .u32 a.s, .int .u32 a.y] 59)) w' → Cs w' w.heap.size a.cells ∧ Below w.heap.size w w') := hid (fun w' hb => ⟨(Cs.new7 _ _ _).below hb, below_on ((Below.refl _ _).alloc (Nat.le_refl _) _) hb⟩)
 clear ha
 unfold It.val
 go_enter Tryz.func85, Tryz.ntmps85
 go_wp2_with fail
 refine (Ref3.since a.u a.t HA.out.2.2.2.2.1.1 HA.out.2.2.2.2.1.2 HA.out.1.1 HA.out.1.2 _).mono ?_
 rintro e w1 ⟨s1, A1, n1, c1, rfl, hB1, hb1⟩
 have HV1 := hid (HV0.out _ hb1)
 have HD1 := hid hB1
 clear hb1 hB1
 have hb2 := (Below.refl w1.heap.size w1).alloc (Nat.le_refl _) (.cells #[.bool s1, .slice A1 n1 c1] 198)
 have HV2 := hid (And.intro (HV1.out.1.below hb2) (below_on HV1.out.2 hb2))
 have HD2 := hid (HD1.out.below hb2)
 have HN2 : Hid (Cs (w1.alloc (.cells #[.bool s1, .slice A1 n1 c1] 198)) w1.heap.size [.bool s1, .slice A1 n1 c1]) := hid (Cs.alloc_new6 _ _ [.bool s1, .slice A1 n1 c1])
 clear hb2
 go_wp2_with fail
 generalize hbd : w1.heap.size = bd at HN2 ⊢
 generalize (w1.alloc (.cells #[.bool s1, .slice A1 n1 c1] 198)) = W0 at HV2 HD2 HN2 ⊢
 clear hbd
 have HSEE : Hid (∀ w', Bl W0 w' → (fun w' => (w'.cell? ⟨w.heap.size, 0, none⟩ = some (.int .u64 a.t) ∧ w'.cell? ⟨w.heap.size, 1, none⟩ = some (.int .u32 a.r) ∧ w'.cell? ⟨w.heap.size, 2, none⟩ = some (.int .u32 a.v) ∧ w'.cell? ⟨w.heap.size, 3, none⟩ = some (.int .i64 a.i) ∧ w'.cell? ⟨w.heap.size, 4, none⟩ = some (.int .u64 a.u) ∧ w'.cell? ⟨w.heap.size, 5, none⟩ = some (.int .u32 a.s) ∧ w'.cell? ⟨w.heap.size, 6, none⟩ = some (.int .u32 a.y) ∧ w'.cell? ⟨bd, 0, none⟩ = some (.bool s1) ∧ w'.cell? ⟨bd, 1, none⟩ = some (.slice A1 n1 c1)) ∧ Bl W0 w') w') := hid (fun w' hb => by
  obtain ⟨p0, p1, p2, p3, p4, p5, p6⟩ := It.at a (HV2.out.1.below hb)
  exact ⟨⟨p0, p1, p2, p3, p4, p5, p6, (HN2.out.below hb).at0, (HN2.out.below hb).at1⟩, hb⟩)
 refine wp_region_held_drew (S := fun w' => (w'.cell? ⟨w.heap.size, 0, none⟩ = some (.int .u64 a.t) ∧ w'.cell? ⟨w.heap.size, 1, none⟩ = some (.int .u32 a.r) ∧ w'.cell? ⟨w.heap.size, 2, none⟩ = some (.int .u32 a.v) ∧ w'.cell? ⟨w.heap.size, 3, none⟩ = some (.int .i64 a.i) ∧ w'.cell? ⟨w.heap.size, 4, none⟩ = some (.int .u64 a.u) ∧ w'.cell? ⟨w.heap.size, 5, none⟩ = some (.int .u32 a.s) ∧ w'.cell? ⟨w.heap.size, 6, none⟩ = some (.int .u32 a.y) ∧ w'.cell? ⟨bd, 0, none⟩ = some (.bool s1) ∧ w'.cell? ⟨bd, 1, none⟩ = some (.slice A1 n1 c1)) ∧ Bl W0 w') (by kernel_rfl) (HSEE.out _ (Bl.drew W0)) (fun hHeld => ?_)
 refine tH 0 ?_
 try simp only [tdy]
 refine tH 1 ?_
 try simp only [tdy]
 refine wpAnyH_ready (rs := [2]) (by kernel_rfl) (by simp) ?_
 refine AllReadyH.cons rfl (fun K hK => ?_) AllReadyH.nil
 go_simp
 refine (Ref4.right a.t a.r a.v _).mono ?_
 rintro e wq ⟨rfl, hbq⟩
 rw [show (decide (1 ≤ a.v ∧ a.v ≤ 1048576) && decide (a.r < a.v)) = true from H1.out]
 refine hK.out _ _ ?_ (fun hHeld => ?_)
 ·first | exact HSEE.out _ (hHeld.2.on hbq) | exact HSEE.out _ hHeld.2
 clear hK K
 try simp only [tdy]
 refine tH 3 ?_
 try simp only [tdy]
 refine tH 4 ?_
 try simp only [tdy]
 refine tH 5 ?_
 try simp only [tdy]
 refine wpAnyH_ready (rs := [6]) (by kernel_rfl) (by simp) ?_
 refine AllReadyH.cons rfl (fun K hK => ?_) AllReadyH.nil
 go_simp
 refine (Ref4.right a.u a.s a.y _).mono ?_
 rintro e wq ⟨rfl, hbq⟩
 rw [show (decide (1 ≤ a.y ∧ a.y ≤ 1048576) && decide (a.s < a.y)) = false from H2.out]
 refine hK.out _ _ ?_ (fun hHeld => ?_)
 ·first | exact HSEE.out _ (hHeld.2.on hbq) | exact HSEE.out _ hHeld.2
 clear hK K
 try simp only [tdy]
 refine tH 7 ?_
 try simp only [tdy]
 refine tH 8 ?_
 try simp only [tdy]
 refine tN 9 ?_
 try simp only [tdy]
 refine tN 10 ?_
 try simp only [tdy]
 refine tN 11 ?_
 try simp only [tdy]
 refine tN 12 ?_
 try simp only [tdy]
 refine tN 13 ?_
 try simp only [tdy]
 refine tN 14 ?_
 try simp only [tdy]
 refine tN 15 ?_
 try simp only [tdy]
 refine tH 16 ?_
 try simp only [tdy]
 refine tH 17 ?_
 try simp only [tdy]
 refine tN 18 ?_
 try simp only [tdy]
 refine tN 19 ?_
 try simp only [tdy]
 refine tN 20 ?_
 try simp only [tdy]
 refine tH 21 ?_
 try simp only [tdy]
 refine tH 22 ?_
 try simp only [tdy]
 refine tN 23 ?_
 try simp only [tdy]
 refine tN 24 ?_
 try simp only [tdy]
 refine tN 25 ?_
 try simp only [tdy]
 refine tH 26 ?_
 try simp only [tdy]
 refine tH 27 ?_
 try simp only [tdy]
 refine tN 28 ?_
 try simp only [tdy]
 refine tN 29 ?_
 try simp only [tdy]
 refine tN 30 ?_
 try simp only [tdy]
 refine tN 31 ?_
 try simp only [tdy]
 refine tH 32 ?_
 try simp only [tdy]
 refine tH 33 ?_
 try simp only [tdy]
 refine wpAnyH_done (by kernel_rfl) ?_ _
 have HFIN := hid (below_on HV2.out.2 hHeld.2)
 clear hHeld
 go_wp2
 go_ret
 exact ⟨rfl, HFIN.out⟩
theorem Ref5.right3 (a : It) (ha : a.In) (w : World) (h1 : posOk a.r a.v = true) (h2 : posOk a.s a.y = true) (h3 : ¬ a.v = a.y) :
  Calls Tryz.prog 85 #[a.val] w (Ans (.bool false) w) := by
 have HA := hid ha
 have H1 := hid h1
 clear h1
 have H2 := hid h2
 clear h2
 have hvy : (a.v == a.y) = false := by rw [beq_eq_false_iff_ne]; exact h3
 have H3 := hid h3
 clear h3
 have HV0 : Hid (∀ w', Below (w.alloc (.cells #[.int .u64 a.t, .int .u32 a.r, .int .u32 a.v, .int .i64 a.i, .int .u64 a.u, .int .u32 a.s, .int .u32 a.y] 59)).heap.size (w.alloc (.cells #[.int .u64 a.t, .int .u32 a.r, .int .u32 a.v, .int .i64 a.i, .int .u64 a.u, .int .u32 a.s, .int .u32 a.y] 59)) w' → Cs w' w.heap.size a.cells ∧ Below w.heap.size w w') := hid (fun w' hb => ⟨(Cs.new7 _ _ _).below hb, below_on ((Below.refl _ _).alloc (Nat.le_refl _) _) hb⟩)
 clear ha
 unfold It.val
 go_enter Tryz.func85, Tryz.ntmps85
 go_wp2_with fail
 refine (Ref3.since a.u a.t HA.out.2.2.2.2.1.1 HA.out.2.2.2.2.1.2 HA.out.1.1 HA.out.1.2 _).mono ?_
 rintro e w1 ⟨s1, A1, n1, c1, rfl, hB1, hb1⟩
 have HV1 := hid (HV0.out _ hb1)
 have HD1 := hid hB1
 clear hb1 hB1
 have hb2 := (Below.refl w1.heap.size w1).alloc (Nat.le_refl _) (.cells #[.bool s1, .slice A1 n1 c1] 198)
 have HV2 := hid (And.intro (HV1.out.1.below hb2) (below_on HV1.out.2 hb2))
 have HD2 := hid (HD1.out.below hb2)
 have HN2 : Hid (Cs (w1.alloc (.cells #[.bool s1, .slice A1 n1 c1] 198)) w1.heap.size [.bool s1, .slice A1 n1 c1]) := hid (Cs.alloc_new6 _ _ [.bool s1, .slice A1 n1 c1])
 clear hb2
 go_wp2_with fail
 generalize hbd : w1.heap.size = bd at HN2 ⊢
 generalize (w1.alloc (.cells #[.bool s1, .slice A1 n1 c1] 198)) = W0 at HV2 HD2 HN2 ⊢
 clear hbd
 have HSEE : Hid (∀ w', Bl W0 w' → (fun w' => (w'.cell? ⟨w.heap.size, 0, none⟩ = some (.int .u64 a.t) ∧ w'.cell? ⟨w.heap.size, 1, none⟩ = some (.int .u32 a.r) ∧ w'.cell? ⟨w.heap.size, 2, none⟩ = some (.int .u32 a.v) ∧ w'.cell? ⟨w.heap.size, 3, none⟩ = some (.int .i64 a.i) ∧ w'.cell? ⟨w.heap.size, 4, none⟩ = some (.int .u64 a.u) ∧ w'.cell? ⟨w.heap.size, 5, none⟩ = some (.int .u32 a.s) ∧ w'.cell? ⟨w.heap.size, 6, none⟩ = some (.int .u32 a.y) ∧ w'.cell? ⟨bd, 0, none⟩ = some (.bool s1) ∧ w'.cell? ⟨bd, 1, none⟩ = some (.slice A1 n1 c1)) ∧ Bl W0 w') w') := hid (fun w' hb => by
  obtain ⟨p0, p1, p2, p3, p4, p5, p6⟩ := It.at a (HV2.out.1.below hb)
  exact ⟨⟨p0, p1, p2, p3, p4, p5, p6, (HN2.out.below hb).at0, (HN2.out.below hb).at1⟩, hb⟩)
 refine wp_region_held_drew (S := fun w' => (w'.cell? ⟨w.heap.size, 0, none⟩ = some (.int .u64 a.t) ∧ w'.cell? ⟨w.heap.size, 1, none⟩ = some (.int .u32 a.r) ∧ w'.cell? ⟨w.heap.size, 2, none⟩ = some (.int .u32 a.v) ∧ w'.cell? ⟨w.heap.size, 3, none⟩ = some (.int .i64 a.i) ∧ w'.cell? ⟨w.heap.size, 4, none⟩ = some (.int .u64 a.u) ∧ w'.cell? ⟨w.heap.size, 5, none⟩ = some (.int .u32 a.s) ∧ w'.cell? ⟨w.heap.size, 6, none⟩ = some (.int .u32 a.y) ∧ w'.cell? ⟨bd, 0, none⟩ = some (.bool s1) ∧ w'.cell? ⟨bd, 1, none⟩ = some (.slice A1 n1 c1)) ∧ Bl W0 w') (by kernel_rfl) (HSEE.out _ (Bl.drew W0)) (fun hHeld => ?_)
 refine tH 0 ?_
 try simp only [tdy]
 refine tH 1 ?_
 try simp only [tdy]
 refine wpAnyH_ready (rs := [2]) (by kernel_rfl) (by simp) ?_
 refine AllReadyH.cons rfl (fun K hK => ?_) AllReadyH.nil
 go_simp
 refine (Ref4.right a.t a.r a.v _).mono ?_
 rintro e wq ⟨rfl, hbq⟩
 rw [show (decide (1 ≤ a.v ∧ a.v ≤ 1048576) && decide (a.r < a.v)) = true from H1.out]
 refine hK.out _ _ ?_ (fun hHeld => ?_)
 ·first | exact HSEE.out _ (hHeld.2.on hbq) | exact HSEE.out _ hHeld.2
 clear hK K
 try simp only [tdy]
 refine tH 3 ?_
 try simp only [tdy]
 refine tH 4 ?_
 try simp only [tdy]
 refine tH 5 ?_
 try simp only [tdy]
 refine wpAnyH_ready (rs := [6]) (by kernel_rfl) (by simp) ?_
 refine AllReadyH.cons rfl (fun K hK => ?_) AllReadyH.nil
 go_simp
 refine (Ref4.right a.u a.s a.y _).mono ?_
 rintro e wq ⟨rfl, hbq⟩
 rw [show (decide (1 ≤ a.y ∧ a.y ≤ 1048576) && decide (a.s < a.y)) = true from H2.out]
 refine hK.out _ _ ?_ (fun hHeld => ?_)
 ·first | exact HSEE.out _ (hHeld.2.on hbq) | exact HSEE.out _ hHeld.2
 clear hK K
 try simp only [tdy]
 refine tH 7 ?_
 try simp only [tdy]
 refine tH 8 ?_
 try simp only [tdy]
 refine tH 9 ?_
 try simp only [tdy]
 refine tH 10 ?_
 try simp only [tdy]
 refine tH 11 ?_
 try simp only [tdy]
 refine tH 12 ?_
 try simp only [tdy]
 refine tH 13 ?_
 try simp only [tdy]
 refine tH 14 ?_
 try simp only [tdy]
 refine tH 15 ?_
 try simp only [tdy]
 refine tH 16 ?_
 try simp only [tdy]
 refine tH 17 ?_
 try simp only [tdy]
 refine tN 18 ?_
 try simp only [tdy]
 refine tN 19 ?_
 try simp only [tdy]
 refine tN 20 ?_
 try simp only [tdy]
 refine tH 21 ?_
 try simp only [tdy]
 refine tH 22 ?_
 try simp only [tdy]
 refine tN 23 ?_
 try simp only [tdy]
 refine tN 24 ?_
 try simp only [tdy]
 refine tN 25 ?_
 try simp only [tdy]
 refine tH 26 ?_
 try simp only [tdy]
 refine tH 27 ?_
 try simp only [tdy]
 refine tN 28 ?_
 try simp only [tdy]
 refine tN 29 ?_
 try simp only [tdy]
 refine tN 30 ?_
 try simp only [tdy]
 refine tN 31 ?_
 try simp only [tdy]
 refine tH 32 ?_
 try simp only [tdy]
 refine tH 33 ?_
 try simp only [tdy]
 refine wpAnyH_done (by kernel_rfl) ?_ _
 have HFIN := hid (below_on HV2.out.2 hHeld.2)
 clear hHeld
 go_wp2
 go_ret
 exact ⟨rfl, HFIN.out⟩
theorem Ref5.right4 (a : It) (ha : a.In) (w : World) (h1 : posOk a.r a.v = true) (h2 : posOk a.s a.y = true) (h3 : a.v = a.y) (h4 : ¬ 0 < a.i) :
  Calls Tryz.prog 85 #[a.val] w (Ans (.bool false) w) := by
 have HA := hid ha
 have H1 := hid h1
 clear h1
 have H2 := hid h2
 clear h2
 have hvy : (a.v == a.y) = true := by rw [beq_iff_eq]; exact h3
 have H3 := hid h3
 clear h3
 have h4f : decide (0 < a.i) = false := decide_eq_false h4
 clear h4
 have HV0 : Hid (∀ w', Below (w.alloc (.cells #[.int .u64 a.t, .int .u32 a.r, .int .u32 a.v, .int .i64 a.i, .int .u64 a.u, .int .u32 a.s, .int .u32 a.y] 59)).heap.size (w.alloc (.cells #[.int .u64 a.t, .int .u32 a.r, .int .u32 a.v, .int .i64 a.i, .int .u64 a.u, .int .u32 a.s, .int .u32 a.y] 59)) w' → Cs w' w.heap.size a.cells ∧ Below w.heap.size w w') := hid (fun w' hb => ⟨(Cs.new7 _ _ _).below hb, below_on ((Below.refl _ _).alloc (Nat.le_refl _) _) hb⟩)
 clear ha
 unfold It.val
 go_enter Tryz.func85, Tryz.ntmps85
 go_wp2_with fail
 refine (Ref3.since a.u a.t HA.out.2.2.2.2.1.1 HA.out.2.2.2.2.1.2 HA.out.1.1 HA.out.1.2 _).mono ?_
 rintro e w1 ⟨s1, A1, n1, c1, rfl, hB1, hb1⟩
 have HV1 := hid (HV0.out _ hb1)
 have HD1 := hid hB1
 clear hb1 hB1
 have hb2 := (Below.refl w1.heap.size w1).alloc (Nat.le_refl _) (.cells #[.bool s1, .slice A1 n1 c1] 198)
 have HV2 := hid (And.intro (HV1.out.1.below hb2) (below_on HV1.out.2 hb2))
 have HD2 := hid (HD1.out.below hb2)
 have HN2 : Hid (Cs (w1.alloc (.cells #[.bool s1, .slice A1 n1 c1] 198)) w1.heap.size [.bool s1, .slice A1 n1 c1]) := hid (Cs.alloc_new6 _ _ [.bool s1, .slice A1 n1 c1])
 clear hb2
 go_wp2_with fail
 generalize hbd : w1.heap.size = bd at HN2 ⊢
 generalize (w1.alloc (.cells #[.bool s1, .slice A1 n1 c1] 198)) = W0 at HV2 HD2 HN2 ⊢
 clear hbd
 have HSEE : Hid (∀ w', Bl W0 w' → (fun w' => (w'.cell? ⟨w.heap.size, 0, none⟩ = some (.int .u64 a.t) ∧ w'.cell? ⟨w.heap.size, 1, none⟩ = some (.int .u32 a.r) ∧ w'.cell? ⟨w.heap.size, 2, none⟩ = some (.int .u32 a.v) ∧ w'.cell? ⟨w.heap.size, 3, none⟩ = some (.int .i64 a.i) ∧ w'.cell? ⟨w.heap.size, 4, none⟩ = some (.int .u64 a.u) ∧ w'.cell? ⟨w.heap.size, 5, none⟩ = some (.int .u32 a.s) ∧ w'.cell? ⟨w.heap.size, 6, none⟩ = some (.int .u32 a.y) ∧ w'.cell? ⟨bd, 0, none⟩ = some (.bool s1) ∧ w'.cell? ⟨bd, 1, none⟩ = some (.slice A1 n1 c1)) ∧ Bl W0 w') w') := hid (fun w' hb => by
  obtain ⟨p0, p1, p2, p3, p4, p5, p6⟩ := It.at a (HV2.out.1.below hb)
  exact ⟨⟨p0, p1, p2, p3, p4, p5, p6, (HN2.out.below hb).at0, (HN2.out.below hb).at1⟩, hb⟩)
 refine wp_region_held_drew (S := fun w' => (w'.cell? ⟨w.heap.size, 0, none⟩ = some (.int .u64 a.t) ∧ w'.cell? ⟨w.heap.size, 1, none⟩ = some (.int .u32 a.r) ∧ w'.cell? ⟨w.heap.size, 2, none⟩ = some (.int .u32 a.v) ∧ w'.cell? ⟨w.heap.size, 3, none⟩ = some (.int .i64 a.i) ∧ w'.cell? ⟨w.heap.size, 4, none⟩ = some (.int .u64 a.u) ∧ w'.cell? ⟨w.heap.size, 5, none⟩ = some (.int .u32 a.s) ∧ w'.cell? ⟨w.heap.size, 6, none⟩ = some (.int .u32 a.y) ∧ w'.cell? ⟨bd, 0, none⟩ = some (.bool s1) ∧ w'.cell? ⟨bd, 1, none⟩ = some (.slice A1 n1 c1)) ∧ Bl W0 w') (by kernel_rfl) (HSEE.out _ (Bl.drew W0)) (fun hHeld => ?_)
 refine tH 0 ?_
 try simp only [tdy]
 refine tH 1 ?_
 try simp only [tdy]
 refine wpAnyH_ready (rs := [2]) (by kernel_rfl) (by simp) ?_
 refine AllReadyH.cons rfl (fun K hK => ?_) AllReadyH.nil
 go_simp
 refine (Ref4.right a.t a.r a.v _).mono ?_
 rintro e wq ⟨rfl, hbq⟩
 rw [show (decide (1 ≤ a.v ∧ a.v ≤ 1048576) && decide (a.r < a.v)) = true from H1.out]
 refine hK.out _ _ ?_ (fun hHeld => ?_)
 ·first | exact HSEE.out _ (hHeld.2.on hbq) | exact HSEE.out _ hHeld.2
 clear hK K
 try simp only [tdy]
 refine tH 3 ?_
 try simp only [tdy]
 refine tH 4 ?_
 try simp only [tdy]
 refine tH 5 ?_
 try simp only [tdy]
 refine wpAnyH_ready (rs := [6]) (by kernel_rfl) (by simp) ?_
 refine AllReadyH.cons rfl (fun K hK => ?_) AllReadyH.nil
 go_simp
 refine (Ref4.right a.u a.s a.y _).mono ?_
 rintro e wq ⟨rfl, hbq⟩
 rw [show (decide (1 ≤ a.y ∧ a.y ≤ 1048576) && decide (a.s < a.y)) = true from H2.out]
 refine hK.out _ _ ?_ (fun hHeld => ?_)
 ·first | exact HSEE.out _ (hHeld.2.on hbq) | exact HSEE.out _ hHeld.2
 clear hK K
 try simp only [tdy]
 refine tH 7 ?_
 try simp only [tdy]
 refine tH 8 ?_
 try simp only [tdy]
 refine tH 9 ?_
 try simp only [tdy]
 refine tH 10 ?_
 try simp only [tdy]
 refine tH 11 ?_
 try simp only [tdy]
 refine tH 12 ?_
 try simp only [tdy]
 refine tH 13 ?_
 try simp only [tdy]
 refine tH 14 ?_
 try simp only [tdy]
 refine tH 15 ?_
 try simp only [tdy]
 refine tH 16 ?_
 try simp only [tdy]
 refine tH 17 ?_
 try simp only [tdy]
 refine tH 18 ?_
 try simp only [tdy]
 refine tH 19 ?_
 try simp only [tdy]
 refine tH 20 ?_
 try simp only [tdy]
 refine tH 21 ?_
 try simp only [tdy]
 refine tH 22 ?_
 try simp only [tdy]
 refine tN 23 ?_
 try simp only [tdy]
 refine tN 24 ?_
 try simp only [tdy]
 refine tN 25 ?_
 try simp only [tdy]
 refine tH 26 ?_
 try simp only [tdy]
 refine tH 27 ?_
 try simp only [tdy]
 refine tN 28 ?_
 try simp only [tdy]
 refine tN 29 ?_
 try simp only [tdy]
 refine tN 30 ?_
 try simp only [tdy]
 refine tN 31 ?_
 try simp only [tdy]
 refine tH 32 ?_
 try simp only [tdy]
 refine tH 33 ?_
 try simp only [tdy]
 refine wpAnyH_done (by kernel_rfl) ?_ _
 have HFIN := hid (below_on HV2.out.2 hHeld.2)
 clear hHeld
 go_wp2
 go_ret
 exact ⟨rfl, HFIN.out⟩
end


section
open Go.RowKit
set_option maxRecDepth 100000
set_option maxHeartbeats 32000000
theorem Ref5.right5 (a : It) (ha : a.In) (w : World) (h1 : posOk a.r a.v = true) (h2 : posOk a.s a.y = true) (h3 : a.v = a.y) (h4 : 0 < a.i) (h5 : dif a.u a.t < 0) :
  Calls Tryz.prog 85 #[a.val] w (Ans (.bool false) w) := by
 have HA := hid ha
 have H1 := hid h1
 clear h1
 have H2 := hid h2
 clear h2
 have hvy : (a.v == a.y) = true := by rw [beq_iff_eq]; exact h3
 have H3 := hid h3
 clear h3
 obtain ⟨zc, hzc, hzn⟩ : ∃ zc, cmpI (dif a.u a.t) 0 = zc ∧ zc < 0 := ⟨_, rfl, by unfold cmpI; rw [if_pos h5]; decide⟩
 have hzm : decide (0 ≤ zc) = false := decide_eq_false (by omega)
 have HZ := hid hzc
 clear hzc h5
 have HV0 : Hid (∀ w', Below (w.alloc (.cells #[.int .u64 a.t, .int .u32 a.r, .int .u32 a.v, .int .i64 a.i, .int .u64 a.u, .int .u32 a.s, .int .u32 a.y] 59)).heap.size (w.alloc (.cells #[.int .u64 a.t, .int .u32 a.r, .int .u32 a.v, .int .i64 a.i, .int .u64 a.u, .int .u32 a.s, .int .u32 a.y] 59)) w' → Cs w' w.heap.size a.cells ∧ Below w.heap.size w w') := hid (fun w' hb => ⟨(Cs.new7 _ _ _).below hb, below_on ((Below.refl _ _).alloc (Nat.le_refl _) _) hb⟩)
 clear ha
 unfold It.val
 go_enter Tryz.func85, Tryz.ntmps85
 go_wp2_with fail
 refine (Ref3.since a.u a.t HA.out.2.2.2.2.1.1 HA.out.2.2.2.2.1.2 HA.out.1.1 HA.out.1.2 _).mono ?_
 rintro e w1 ⟨s1, A1, n1, c1, rfl, hB1, hb1⟩
 have HV1 := hid (HV0.out _ hb1)
 have HD1 := hid hB1
 clear hb1 hB1
 have hb2 := (Below.refl w1.heap.size w1).alloc (Nat.le_refl _) (.cells #[.bool s1, .slice A1 n1 c1] 198)
 have HV2 := hid (And.intro (HV1.out.1.below hb2) (below_on HV1.out.2 hb2))
 have HD2 := hid (HD1.out.below hb2)
 have HN2 : Hid (Cs (w1.alloc (.cells #[.bool s1, .slice A1 n1 c1] 198)) w1.heap.size [.bool s1, .slice A1 n1 c1]) := hid (Cs.alloc_new6 _ _ [.bool s1, .slice A1 n1 c1])
 clear hb2
 go_wp2_with fail
 generalize hbd : w1.heap.size = bd at HN2 ⊢
 generalize (w1.alloc (.cells #[.bool s1, .slice A1 n1 c1] 198)) = W0 at HV2 HD2 HN2 ⊢
 clear hbd
 have HSEE : Hid (∀ w', Bl W0 w' → (fun w' => (w'.cell? ⟨w.heap.size, 0, none⟩ = some (.int .u64 a.t) ∧ w'.cell? ⟨w.heap.size, 1, none⟩ = some (.int .u32 a.r) ∧ w'.cell? ⟨w.heap.size, 2, none⟩ = some (.int .u32 a.v) ∧ w'.cell? ⟨w.heap.size, 3, none⟩ = some (.int .i64 a.i) ∧ w'.cell? ⟨w.heap.size, 4, none⟩ = some (.int .u64 a.u) ∧ w'.cell? ⟨w.heap.size, 5, none⟩ = some (.int .u32 a.s) ∧ w'.cell? ⟨w.heap.size, 6, none⟩ = some (.int .u32 a.y) ∧ w'.cell? ⟨bd, 0, none⟩ = some (.bool s1) ∧ w'.cell? ⟨bd, 1, none⟩ = some (.slice A1 n1 c1)) ∧ Bl W0 w') w') := hid (fun w' hb => by
  obtain ⟨p0, p1, p2, p3, p4, p5, p6⟩ := It.at a (HV2.out.1.below hb)
  exact ⟨⟨p0, p1, p2, p3, p4, p5, p6, (HN2.out.below hb).at0, (HN2.out.below hb).at1⟩, hb⟩)
 refine wp_region_held_drew (S := fun w' => (w'.cell? ⟨w.heap.size, 0, none⟩ = some (.int .u64 a.t) ∧ w'.cell? ⟨w.heap.size, 1, none⟩ = some (.int .u32 a.r) ∧ w'.cell? ⟨w.heap.size, 2, none⟩ = some (.int .u32 a.v) ∧ w'.cell? ⟨w.heap.size, 3, none⟩ = some (.int .i64 a.i) ∧ w'.cell? ⟨w.heap.size, 4, none⟩ = some (.int .u64 a.u) ∧ w'.cell? ⟨w.heap.size, 5, none⟩ = some (.int .u32 a.s) ∧ w'.cell? ⟨w.heap.size, 6, none⟩ = some (.int .u32 a.y) ∧ w'.cell? ⟨bd, 0, none⟩ = some (.bool s1) ∧ w'.cell? ⟨bd, 1, none⟩ = some (.slice A1 n1 c1)) ∧ Bl W0 w') (by kernel_rfl) (HSEE.out _ (Bl.drew W0)) (fun hHeld => ?_)
 refine tH 0 ?_
 try simp only [tdy]
 refine tH 1 ?_
 try simp only [tdy]
 refine wpAnyH_ready (rs := [2]) (by kernel_rfl) (by simp) ?_
 refine AllReadyH.cons rfl (fun K hK => ?_) AllReadyH.nil
 go_simp
 refine (Ref4.right a.t a.r a.v _).mono ?_
 rintro e wq ⟨rfl, hbq⟩
 rw [show (decide (1 ≤ a.v ∧ a.v ≤ 1048576) && decide (a.r < a.v)) = true from H1.out]
 refine hK.out _ _ ?_ (fun hHeld => ?_)
 ·first | exact HSEE.out _ (hHeld.2.on hbq) | exact HSEE.out _ hHeld.2
 clear hK K
 try simp only [tdy]
 refine tH 3 ?_
 try simp only [tdy]
 refine tH 4 ?_
 try simp only [tdy]
 refine tH 5 ?_
 try simp only [tdy]
 refine wpAnyH_ready (rs := [6]) (by kernel_rfl) (by simp) ?_
 refine AllReadyH.cons rfl (fun K hK => ?_) AllReadyH.nil
 go_simp
 refine (Ref4.right a.u a.s a.y _).mono ?_
 rintro e wq ⟨rfl, hbq⟩
 rw [show (decide (1 ≤ a.y ∧ a.y ≤ 1048576) && decide (a.s < a.y)) = true from H2.out]
 refine hK.out _ _ ?_ (fun hHeld => ?_)
 ·first | exact HSEE.out _ (hHeld.2.on hbq) | exact HSEE.out _ hHeld.2
 clear hK K
 try simp only [tdy]
 refine tH 7 ?_
 try simp only [tdy]
 refine tH 8 ?_
 try simp only [tdy]
 refine tH 9 ?_
 try simp only [tdy]
 refine tH 10 ?_
 try simp only [tdy]
 refine tH 11 ?_
 try simp only [tdy]
 refine tH 12 ?_
 try simp only [tdy]
 refine tH 13 ?_
 try simp only [tdy]
 refine tH 14 ?_
 try simp only [tdy]
 refine tH 15 ?_
 try simp only [tdy]
 refine tH 16 ?_
 try simp only [tdy]
 refine tH 17 ?_
 try simp only [tdy]
 refine tH 18 ?_
 try simp only [tdy]
 refine tH 19 ?_
 try simp only [tdy]
 refine tH 20 ?_
 try simp only [tdy]
 refine tH 21 ?_
 try simp only [tdy]
 refine tH 22 ?_
 try simp only [tdy]
 refine tH 23 ?_
 try simp only [tdy]
 refine wpAnyH_ready (rs := [24]) (by kernel_rfl) (by simp) ?_
 refine AllReadyH.cons rfl (fun K hK => ?_) AllReadyH.nil
 go_simp
 refine (Ref.sign 70 s1 A1 n1 c1 _ _ (HD2.out.below hHeld.2)).mono ?_
 rintro e wq ⟨rfl, hbq⟩
 rw [HZ.out]
 refine hK.out _ _ ?_ (fun hHeld => ?_)
 ·first | exact HSEE.out _ (hHeld.2.on hbq) | exact HSEE.out _ hHeld.2
 clear hK K
 try simp only [tdy]
 refine tH 25 ?_
 try simp only [tdy]
 refine tH 26 ?_
 try simp only [tdy]
 refine tH 27 ?_
 try simp only [tdy]
 refine tN 28 ?_
 try simp only [tdy]
 refine tN 29 ?_
 try simp only [tdy]
 refine tN 30 ?_
 try simp only [tdy]
 refine tN 31 ?_
 try simp only [tdy]
 refine tH 32 ?_
 try simp only [tdy]
 refine tH 33 ?_
 try simp only [tdy]
 refine wpAnyH_done (by kernel_rfl) ?_ _
 have HFIN := hid (below_on HV2.out.2 hHeld.2)
 clear hHeld
 go_wp2
 go_ret
 exact ⟨rfl, HFIN.out⟩
theorem Ref5.right6 (a : It) (ha : a.In) (w : World) (h1 : posOk a.r a.v = true) (h2 : posOk a.s a.y = true) (h3 : a.v = a.y) (h4 : 0 < a.i) (h5 : 0 ≤ dif a.u a.t) (h6 : 1152921504606846976 < dif a.u a.t) :
  Calls Tryz.prog 85 #[a.val] w (Ans (.bool false) w) := by
 have HA := hid ha
 have H1 := hid h1
 clear h1
 have H2 := hid h2
 clear h2
 have hvy : (a.v == a.y) = true := by rw [beq_iff_eq]; exact h3
 have H3 := hid h3
 clear h3
 obtain ⟨zc, hzc, hzn⟩ : ∃ zc, cmpI (dif a.u a.t) 0 = zc ∧ 0 ≤ zc := ⟨_, rfl, by unfold cmpI; rw [if_neg (by omega)]; split <;> omega⟩
 have HZ := hid hzc
 obtain ⟨zd, hzd, hzr⟩ : ∃ zd, cmpI (dif a.u a.t) (2 ^ 60) = zd ∧ 0 < zd := ⟨_, rfl, by
  have hp : (2 : Int) ^ 60 = 1152921504606846976 := by decide
  rw [hp]; unfold cmpI; rw [if_neg (by omega), if_neg (by omega)]; decide⟩
 have HZ2 := hid hzd
 clear hzc h5 h6 hzd
 have hzr2 : decide (zd ≤ 0) = false := decide_eq_false (by omega)
 have HV0 : Hid (∀ w', Below (w.alloc (.cells #[.int .u64 a.t, .int .u32 a.r, .int .u32 a.v, .int .i64 a.i, .int .u64 a.u, .int .u32 a.s, .int .u32 a.y] 59)).heap.size (w.alloc (.cells #[.int .u64 a.t, .int .u32 a.r, .int .u32 a.v, .int .i64 a.i, .int .u64 a.u, .int .u32 a.s, .int .u32 a.y] 59)) w' → Cs w' w.heap.size a.cells ∧ Below w.heap.size w w') := hid (fun w' hb => ⟨(Cs.new7 _ _ _).below hb, below_on ((Below.refl _ _).alloc (Nat.le_refl _) _) hb⟩)
 clear ha
 unfold It.val
 go_enter Tryz.func85, Tryz.ntmps85
 go_wp2_with fail
 refine (Ref3.since a.u a.t HA.out.2.2.2.2.1.1 HA.out.2.2.2.2.1.2 HA.out.1.1 HA.out.1.2 _).mono ?_
 rintro e w1 ⟨s1, A1, n1, c1, rfl, hB1, hb1⟩
 have HV1 := hid (HV0.out _ hb1)
 have HD1 := hid hB1
 clear hb1 hB1
 have hb2 := (Below.refl w1.heap.size w1).alloc (Nat.le_refl _) (.cells #[.bool s1, .slice A1 n1 c1] 198)
 have HV2 := hid (And.intro (HV1.out.1.below hb2) (below_on HV1.out.2 hb2))
 have HD2 := hid (HD1.out.below hb2)
 have HN2 : Hid (Cs (w1.alloc (.cells #[.bool s1, .slice A1 n1 c1] 198)) w1.heap.size [.bool s1, .slice A1 n1 c1]) := hid (Cs.alloc_new6 _ _ [.bool s1, .slice A1 n1 c1])
 clear hb2
 go_wp2_with fail
 generalize hbd : w1.heap.size = bd at HN2 ⊢
 generalize (w1.alloc (.cells #[.bool s1, .slice A1 n1 c1] 198)) = W0 at HV2 HD2 HN2 ⊢
 clear hbd
 have HSEE : Hid (∀ w', Bl W0 w' → (fun w' => (w'.cell? ⟨w.heap.size, 0, none⟩ = some (.int .u64 a.t) ∧ w'.cell? ⟨w.heap.size, 1, none⟩ = some (.int .u32 a.r) ∧ w'.cell? ⟨w.heap.size, 2, none⟩ = some (.int .u32 a.v) ∧ w'.cell? ⟨w.heap.size, 3, none⟩ = some (.int .i64 a.i) ∧ w'.cell? ⟨w.heap.size, 4, none⟩ = some (.int .u64 a.u) ∧ w'.cell? ⟨w.heap.size, 5, none⟩ = some (.int .u32 a.s) ∧ w'.cell? ⟨w.heap.size, 6, none⟩ = some (.int .u32 a.y) ∧ w'.cell? ⟨bd, 0, none⟩ = some (.bool s1) ∧ w'.cell? ⟨bd, 1, none⟩ = some (.slice A1 n1 c1)) ∧ Bl W0 w') w') := hid (fun w' hb => by
  obtain ⟨p0, p1, p2, p3, p4, p5, p6⟩ := It.at a (HV2.out.1.below hb)
  exact ⟨⟨p0, p1, p2, p3, p4, p5, p6, (HN2.out.below hb).at0, (HN2.out.below hb).at1⟩, hb⟩)
 refine wp_region_held_drew (S := fun w' => (w'.cell? ⟨w.heap.size, 0, none⟩ = some (.int .u64 a.t) ∧ w'.cell? ⟨w.heap.size, 1, none⟩ = some (.int .u32 a.r) ∧ w'.cell? ⟨w.heap.size, 2, none⟩ = some (.int .u32 a.v) ∧ w'.cell? ⟨w.heap.size, 3, none⟩ = some (.int .i64 a.i) ∧ w'.cell? ⟨w.heap.size, 4, none⟩ = some (.int .u64 a.u) ∧ w'.cell? ⟨w.heap.size, 5, none⟩ = some (.int .u32 a.s) ∧ w'.cell? ⟨w.heap.size, 6, none⟩ = some (.int .u32 a.y) ∧ w'.cell? ⟨bd, 0, none⟩ = some (.bool s1) ∧ w'.cell? ⟨bd, 1, none⟩ = some (.slice A1 n1 c1)) ∧ Bl W0 w') (by kernel_rfl) (HSEE.out _ (Bl.drew W0)) (fun hHeld => ?_)
 refine tH 0 ?_
 try simp only [tdy]
 refine tH 1 ?_
 try simp only [tdy]
 refine wpAnyH_ready (rs := [2]) (by kernel_rfl) (by simp) ?_
 refine AllReadyH.cons rfl (fun K hK => ?_) AllReadyH.nil
 go_simp
 refine (Ref4.right a.t a.r a.v _).mono ?_
 rintro e wq ⟨rfl, hbq⟩
 rw [show (decide (1 ≤ a.v ∧ a.v ≤ 1048576) && decide (a.r < a.v)) = true from H1.out]
 refine hK.out _ _ ?_ (fun hHeld => ?_)
 ·first | exact HSEE.out _ (hHeld.2.on hbq) | exact HSEE.out _ hHeld.2
 clear hK K
 try simp only [tdy]
 refine tH 3 ?_
 try simp only [tdy]
 refine tH 4 ?_
 try simp only [tdy]
 refine tH 5 ?_
 try simp only [tdy]
 refine wpAnyH_ready (rs := [6]) (by kernel_rfl) (by simp) ?_
 refine AllReadyH.cons rfl (fun K hK => ?_) AllReadyH.nil
 go_simp
 refine (Ref4.right a.u a.s a.y _).mono ?_
 rintro e wq ⟨rfl, hbq⟩
 rw [show (decide (1 ≤ a.y ∧ a.y ≤ 1048576) && decide (a.s < a.y)) = true from H2.out]
 refine hK.out _ _ ?_ (fun hHeld => ?_)
 ·first | exact HSEE.out _ (hHeld.2.on hbq) | exact HSEE.out _ hHeld.2
 clear hK K
 try simp only [tdy]
 refine tH 7 ?_
 try simp only [tdy]
 refine tH 8 ?_
 try simp only [tdy]
 refine tH 9 ?_
 try simp only [tdy]
 refine tH 10 ?_
 try simp only [tdy]
 refine tH 11 ?_
 try simp only [tdy]
 refine tH 12 ?_
 try simp only [tdy]
 refine tH 13 ?_
 try simp only [tdy]
 refine tH 14 ?_
 try simp only [tdy]
 refine tH 15 ?_
 try simp only [tdy]
 refine tH 16 ?_
 try simp only [tdy]
 refine tH 17 ?_
 try simp only [tdy]
 refine tH 18 ?_
 try simp only [tdy]
 refine tH 19 ?_
 try simp only [tdy]
 refine tH 20 ?_
 try simp only [tdy]
 refine tH 21 ?_
 try simp only [tdy]
 refine tH 22 ?_
 try simp only [tdy]
 refine tH 23 ?_
 try simp only [tdy]
 refine wpAnyH_ready (rs := [24]) (by kernel_rfl) (by simp) ?_
 refine AllReadyH.cons rfl (fun K hK => ?_) AllReadyH.nil
 go_simp
 refine (Ref.sign 70 s1 A1 n1 c1 _ _ (HD2.out.below hHeld.2)).mono ?_
 rintro e wq ⟨rfl, hbq⟩
 rw [HZ.out]
 refine hK.out _ _ ?_ (fun hHeld => ?_)
 ·first | exact HSEE.out _ (hHeld.2.on hbq) | exact HSEE.out _ hHeld.2
 clear hK K
 try simp only [tdy]
 refine tH 25 ?_
 try simp only [tdy]
 refine tH 26 ?_
 try simp only [tdy]
 refine tH 27 ?_
 try simp only [tdy]
 refine tH 28 ?_
 try simp only [tdy]
 refine wpAnyH_ready (rs := [29]) (by kernel_rfl) (by simp) ?_
 refine AllReadyH.cons rfl (fun K hK => ?_) AllReadyH.nil
 go_simp
 refine (Ref.power 60 (by decide) _).mono ?_
 rintro e wq ⟨s2, A2, n2, c2, rfl, hB2, hbq⟩
 have HP2 := hid hB2
 have HBq := hid hHeld.2
 clear hB2
 refine hK.out _ _ ?_ (fun hHeld => ?_)
 ·first | exact HSEE.out _ (hHeld.2.on hbq) | exact HSEE.out _ hHeld.2
 clear hK K
 try simp only [tdy]
 refine wpAnyH_ready (rs := [30]) (by kernel_rfl) (by simp) ?_
 refine AllReadyH.cons rfl (fun K hK => ?_) AllReadyH.nil
 go_simp
 refine (Ref.cmp 70 s1 s2 A1 A2 n1 c1 n2 c2 _ _ _ (HD2.out.below hHeld.2) (HP2.out.mono (by decide)) (by decide)).mono ?_
 rintro e wq ⟨rfl, hbq⟩
 rw [HZ2.out]
 refine hK.out _ _ ?_ (fun hHeld => ?_)
 ·first | exact HSEE.out _ (hHeld.2.on hbq) | exact HSEE.out _ hHeld.2
 clear hK K
 try simp only [tdy]
 refine tH 31 ?_
 try simp only [tdy]
 refine tH 32 ?_
 try simp only [tdy]
 refine tH 33 ?_
 try simp only [tdy]
 refine wpAnyH_done (by kernel_rfl) ?_ _
 have HFIN := hid (below_on HV2.out.2 hHeld.2)
 clear hHeld
 go_wp2
 go_ret
 exact ⟨rfl, HFIN.out⟩
theorem Ref5.right7 (a : It) (ha : a.In) (w : World) (h1 : posOk a.r a.v = true) (h2 : posOk a.s a.y = true) (h3 : a.v = a.y) (h4 : 0 < a.i) (h5 : 0 ≤ dif a.u a.t) (h6 : dif a.u a.t < 1152921504606846976) :
  Calls Tryz.prog 85 #[a.val] w (Ans (.bool true) w) := by
 have HA := hid ha
 have H1 := hid h1
 clear h1
 have H2 := hid h2
 clear h2
 have hvy : (a.v == a.y) = true := by rw [beq_iff_eq]; exact h3
 have H3 := hid h3
 clear h3
 obtain ⟨zc, hzc, hzn⟩ : ∃ zc, cmpI (dif a.u a.t) 0 = zc ∧ 0 ≤ zc := ⟨_, rfl, by unfold cmpI; rw [if_neg (by omega)]; split <;> omega⟩
 have HZ := hid hzc
 obtain ⟨zd, hzd, hzr⟩ : ∃ zd, cmpI (dif a.u a.t) (2 ^ 60) = zd ∧ zd ≤ 0 := ⟨_, rfl, by
  have hp : (2 : Int) ^ 60 = 1152921504606846976 := by decide
  rw [hp]; unfold cmpI; rw [if_pos (by omega)]; decide⟩
 have HZ2 := hid hzd
 clear hzc h5 h6 hzd
 have HV0 : Hid (∀ w', Below (w.alloc (.cells #[.int .u64 a.t, .int .u32 a.r, .int .u32 a.v, .int .i64 a.i, .int .u64 a.u, .int .u32 a.s, .int .u32 a.y] 59)).heap.size (w.alloc (.cells #[.int .u64 a.t, .int .u32 a.r, .int .u32 a.v, .int .i64 a.i, .int .u64 a.u, .int .u32 a.s, .int .u32 a.y] 59)) w' → Cs w' w.heap.size a.cells ∧ Below w.heap.size w w') := hid (fun w' hb => ⟨(Cs.new7 _ _ _).below hb, below_on ((Below.refl _ _).alloc (Nat.le_refl _) _) hb⟩)
 clear ha
 unfold It.val
 go_enter Tryz.func85, Tryz.ntmps85
 go_wp2_with fail
 refine (Ref3.since a.u a.t HA.out.2.2.2.2.1.1 HA.out.2.2.2.2.1.2 HA.out.1.1 HA.out.1.2 _).mono ?_
 rintro e w1 ⟨s1, A1, n1, c1, rfl, hB1, hb1⟩
 have HV1 := hid (HV0.out _ hb1)
 have HD1 := hid hB1
 clear hb1 hB1
 have hb2 := (Below.refl w1.heap.size w1).alloc (Nat.le_refl _) (.cells #[.bool s1, .slice A1 n1 c1] 198)
 have HV2 := hid (And.intro (HV1.out.1.below hb2) (below_on HV1.out.2 hb2))
 have HD2 := hid (HD1.out.below hb2)
 have HN2 : Hid (Cs (w1.alloc (.cells #[.bool s1, .slice A1 n1 c1] 198)) w1.heap.size [.bool s1, .slice A1 n1 c1]) := hid (Cs.alloc_new6 _ _ [.bool s1, .slice A1 n1 c1])
 clear hb2
 go_wp2_with fail
 generalize hbd : w1.heap.size = bd at HN2 ⊢
 generalize (w1.alloc (.cells #[.bool s1, .slice A1 n1 c1] 198)) = W0 at HV2 HD2 HN2 ⊢
 clear hbd
 have HSEE : Hid (∀ w', Bl W0 w' → (fun w' => (w'.cell? ⟨w.heap.size, 0, none⟩ = some (.int .u64 a.t) ∧ w'.cell? ⟨w.heap.size, 1, none⟩ = some (.int .u32 a.r) ∧ w'.cell? ⟨w.heap.size, 2, none⟩ = some (.int .u32 a.v) ∧ w'.cell? ⟨w.heap.size, 3, none⟩ = some (.int .i64 a.i) ∧ w'.cell? ⟨w.heap.size, 4, none⟩ = some (.int .u64 a.u) ∧ w'.cell? ⟨w.heap.size, 5, none⟩ = some (.int .u32 a.s) ∧ w'.cell? ⟨w.heap.size, 6, none⟩ = some (.int .u32 a.y) ∧ w'.cell? ⟨bd, 0, none⟩ = some (.bool s1) ∧ w'.cell? ⟨bd, 1, none⟩ = some (.slice A1 n1 c1)) ∧ Bl W0 w') w') := hid (fun w' hb => by
  obtain ⟨p0, p1, p2, p3, p4, p5, p6⟩ := It.at a (HV2.out.1.below hb)
  exact ⟨⟨p0, p1, p2, p3, p4, p5, p6, (HN2.out.below hb).at0, (HN2.out.below hb).at1⟩, hb⟩)
 refine wp_region_held_drew (S := fun w' => (w'.cell? ⟨w.heap.size, 0, none⟩ = some (.int .u64 a.t) ∧ w'.cell? ⟨w.heap.size, 1, none⟩ = some (.int .u32 a.r) ∧ w'.cell? ⟨w.heap.size, 2, none⟩ = some (.int .u32 a.v) ∧ w'.cell? ⟨w.heap.size, 3, none⟩ = some (.int .i64 a.i) ∧ w'.cell? ⟨w.heap.size, 4, none⟩ = some (.int .u64 a.u) ∧ w'.cell? ⟨w.heap.size, 5, none⟩ = some (.int .u32 a.s) ∧ w'.cell? ⟨w.heap.size, 6, none⟩ = some (.int .u32 a.y) ∧ w'.cell? ⟨bd, 0, none⟩ = some (.bool s1) ∧ w'.cell? ⟨bd, 1, none⟩ = some (.slice A1 n1 c1)) ∧ Bl W0 w') (by kernel_rfl) (HSEE.out _ (Bl.drew W0)) (fun hHeld => ?_)
 refine tH 0 ?_
 try simp only [tdy]
 refine tH 1 ?_
 try simp only [tdy]
 refine wpAnyH_ready (rs := [2]) (by kernel_rfl) (by simp) ?_
 refine AllReadyH.cons rfl (fun K hK => ?_) AllReadyH.nil
 go_simp
 refine (Ref4.right a.t a.r a.v _).mono ?_
 rintro e wq ⟨rfl, hbq⟩
 rw [show (decide (1 ≤ a.v ∧ a.v ≤ 1048576) && decide (a.r < a.v)) = true from H1.out]
 refine hK.out _ _ ?_ (fun hHeld => ?_)
 ·first | exact HSEE.out _ (hHeld.2.on hbq) | exact HSEE.out _ hHeld.2
 clear hK K
 try simp only [tdy]
 refine tH 3 ?_
 try simp only [tdy]
 refine tH 4 ?_
 try simp only [tdy]
 refine tH 5 ?_
 try simp only [tdy]
 refine wpAnyH_ready (rs := [6]) (by kernel_rfl) (by simp) ?_
 refine AllReadyH.cons rfl (fun K hK => ?_) AllReadyH.nil
 go_simp
 refine (Ref4.right a.u a.s a.y _).mono ?_
 rintro e wq ⟨rfl, hbq⟩
 rw [show (decide (1 ≤ a.y ∧ a.y ≤ 1048576) && decide (a.s < a.y)) = true from H2.out]
 refine hK.out _ _ ?_ (fun hHeld => ?_)
 ·first | exact HSEE.out _ (hHeld.2.on hbq) | exact HSEE.out _ hHeld.2
 clear hK K
 try simp only [tdy]
 refine tH 7 ?_
 try simp only [tdy]
 refine tH 8 ?_
 try simp only [tdy]
 refine tH 9 ?_
 try simp only [tdy]
 refine tH 10 ?_
 try simp only [tdy]
 refine tH 11 ?_
 try simp only [tdy]
 refine tH 12 ?_
 try simp only [tdy]
 refine tH 13 ?_
 try simp only [tdy]
 refine tH 14 ?_
 try simp only [tdy]
 refine tH 15 ?_
 try simp only [tdy]
 refine tH 16 ?_
 try simp only [tdy]
 refine tH 17 ?_
 try simp only [tdy]
 refine tH 18 ?_
 try simp only [tdy]
 refine tH 19 ?_
 try simp only [tdy]
 refine tH 20 ?_
 try simp only [tdy]
 refine tH 21 ?_
 try simp only [tdy]
 refine tH 22 ?_
 try simp only [tdy]
 refine tH 23 ?_
 try simp only [tdy]
 refine wpAnyH_ready (rs := [24]) (by kernel_rfl) (by simp) ?_
 refine AllReadyH.cons rfl (fun K hK => ?_) AllReadyH.nil
 go_simp
 refine (Ref.sign 70 s1 A1 n1 c1 _ _ (HD2.out.below hHeld.2)).mono ?_
 rintro e wq ⟨rfl, hbq⟩
 rw [HZ.out]
 refine hK.out _ _ ?_ (fun hHeld => ?_)
 ·first | exact HSEE.out _ (hHeld.2.on hbq) | exact HSEE.out _ hHeld.2
 clear hK K
 try simp only [tdy]
 refine tH 25 ?_
 try simp only [tdy]
 refine tH 26 ?_
 try simp only [tdy]
 refine tH 27 ?_
 try simp only [tdy]
 refine tH 28 ?_
 try simp only [tdy]
 refine wpAnyH_ready (rs := [29]) (by kernel_rfl) (by simp) ?_
 refine AllReadyH.cons rfl (fun K hK => ?_) AllReadyH.nil
 go_simp
 refine (Ref.power 60 (by decide) _).mono ?_
 rintro e wq ⟨s2, A2, n2, c2, rfl, hB2, hbq⟩
 have HP2 := hid hB2
 have HBq := hid hHeld.2
 clear hB2
 refine hK.out _ _ ?_ (fun hHeld => ?_)
 ·first | exact HSEE.out _ (hHeld.2.on hbq) | exact HSEE.out _ hHeld.2
 clear hK K
 try simp only [tdy]
 refine wpAnyH_ready (rs := [30]) (by kernel_rfl) (by simp) ?_
 refine AllReadyH.cons rfl (fun K hK => ?_) AllReadyH.nil
 go_simp
 refine (Ref.cmp 70 s1 s2 A1 A2 n1 c1 n2 c2 _ _ _ (HD2.out.below hHeld.2) (HP2.out.mono (by decide)) (by decide)).mono ?_
 rintro e wq ⟨rfl, hbq⟩
 rw [HZ2.out]
 refine hK.out _ _ ?_ (fun hHeld => ?_)
 ·first | exact HSEE.out _ (hHeld.2.on hbq) | exact HSEE.out _ hHeld.2
 clear hK K
 try simp only [tdy]
 refine tH 31 ?_
 try simp only [tdy]
 refine tH 32 ?_
 try simp only [tdy]
 refine tH 33 ?_
 try simp only [tdy]
 refine wpAnyH_done (by kernel_rfl) ?_ _
 have HFIN := hid (below_on HV2.out.2 hHeld.2)
 clear hHeld
 go_wp2
 go_ret
 exact ⟨rfl, HFIN.out⟩
theorem Ref5.right8 (a : It) (ha : a.In) (w : World) (h1 : posOk a.r a.v = true) (h2 : posOk a.s a.y = true) (h3 : a.v = a.y) (h4 : 0 < a.i) (h5 : 0 ≤ dif a.u a.t) (h6 : dif a.u a.t = 1152921504606846976) :
  Calls Tryz.prog 85 #[a.val] w (Ans (.bool true) w) := by
 have HA := hid ha
 have H1 := hid h1
 clear h1
 have H2 := hid h2
 clear h2
 have hvy : (a.v == a.y) = true := by rw [beq_iff_eq]; exact h3
 have H3 := hid h3
 clear h3
 obtain ⟨zc, hzc, hzn⟩ : ∃ zc, cmpI (dif a.u a.t) 0 = zc ∧ 0 ≤ zc := ⟨_, rfl, by unfold cmpI; rw [if_neg (by omega)]; split <;> omega⟩
 have HZ := hid hzc
 obtain ⟨zd, hzd, hzr⟩ : ∃ zd, cmpI (dif a.u a.t) (2 ^ 60) = zd ∧ zd ≤ 0 := ⟨_, rfl, by
  have hp : (2 : Int) ^ 60 = 1152921504606846976 := by decide
  rw [hp]; unfold cmpI; rw [if_neg (by omega), if_pos (by omega)]; decide⟩
 have HZ2 := hid hzd
 clear hzc h5 h6 hzd
 have HV0 : Hid (∀ w', Below (w.alloc (.cells #[.int .u64 a.t, .int .u32 a.r, .int .u32 a.v, .int .i64 a.i, .int .u64 a.u, .int .u32 a.s, .int .u32 a.y] 59)).heap.size (w.alloc (.cells #[.int .u64 a.t, .int .u32 a.r, .int .u32 a.v, .int .i64 a.i, .int .u64 a.u, .int .u32 a.s, .int .u32 a.y] 59)) w' → Cs w' w.heap.size a.cells ∧ Below w.heap.size w w') := hid (fun w' hb => ⟨(Cs.new7 _ _ _).below hb, below_on ((Below.refl _ _).alloc (Nat.le_refl _) _) hb⟩)
 clear ha
 unfold It.val
 go_enter Tryz.func85, Tryz.ntmps85
 go_wp2_with fail
 refine (Ref3.since a.u a.t HA.out.2.2.2.2.1.1 HA.out.2.2.2.2.1.2 HA.out.1.1 HA.out.1.2 _).mono ?_
 rintro e w1 ⟨s1, A1, n1, c1, rfl, hB1, hb1⟩
 have HV1 := hid (HV0.out _ hb1)
 have HD1 := hid hB1
 clear hb1 hB1
 have hb2 := (Below.refl w1.heap.size w1).alloc (Nat.le_refl _) (.cells #[.bool s1, .slice A1 n1 c1] 198)
 have HV2 := hid (And.intro (HV1.out.1.below hb2) (below_on HV1.out.2 hb2))
 have HD2 := hid (HD1.out.below hb2)
 have HN2 : Hid (Cs (w1.alloc (.cells #[.bool s1, .slice A1 n1 c1] 198)) w1.heap.size [.bool s1, .slice A1 n1 c1]) := hid (Cs.alloc_new6 _ _ [.bool s1, .slice A1 n1 c1])
 clear hb2
 go_wp2_with fail
 generalize hbd : w1.heap.size = bd at HN2 ⊢
 generalize (w1.alloc (.cells #[.bool s1, .slice A1 n1 c1] 198)) = W0 at HV2 HD2 HN2 ⊢
 clear hbd
 have HSEE : Hid (∀ w', Bl W0 w' → (fun w' => (w'.cell? ⟨w.heap.size, 0, none⟩ = some (.int .u64 a.t) ∧ w'.cell? ⟨w.heap.size, 1, none⟩ = some (.int .u32 a.r) ∧ w'.cell? ⟨w.heap.size, 2, none⟩ = some (.int .u32 a.v) ∧ w'.cell? ⟨w.heap.size, 3, none⟩ = some (.int .i64 a.i) ∧ w'.cell? ⟨w.heap.size, 4, none⟩ = some (.int .u64 a.u) ∧ w'.cell? ⟨w.heap.size, 5, none⟩ = some (.int .u32 a.s) ∧ w'.cell? ⟨w.heap.size, 6, none⟩ = some (.int .u32 a.y) ∧ w'.cell? ⟨bd, 0, none⟩ = some (.bool s1) ∧ w'.cell? ⟨bd, 1, none⟩ = some (.slice A1 n1 c1)) ∧ Bl W0 w') w') := hid (fun w' hb => by
  obtain ⟨p0, p1, p2, p3, p4, p5, p6⟩ := It.at a (HV2.out.1.below hb)
  exact ⟨⟨p0, p1, p2, p3, p4, p5, p6, (HN2.out.below hb).at0, (HN2.out.below hb).at1⟩, hb⟩)
 refine wp_region_held_drew (S := fun w' => (w'.cell? ⟨w.heap.size, 0, none⟩ = some (.int .u64 a.t) ∧ w'.cell? ⟨w.heap.size, 1, none⟩ = some (.int .u32 a.r) ∧ w'.cell? ⟨w.heap.size, 2, none⟩ = some (.int .u32 a.v) ∧ w'.cell? ⟨w.heap.size, 3, none⟩ = some (.int .i64 a.i) ∧ w'.cell? ⟨w.heap.size, 4, none⟩ = some (.int .u64 a.u) ∧ w'.cell? ⟨w.heap.size, 5, none⟩ = some (.int .u32 a.s) ∧ w'.cell? ⟨w.heap.size, 6, none⟩ = some (.int .u32 a.y) ∧ w'.cell? ⟨bd, 0, none⟩ = some (.bool s1) ∧ w'.cell? ⟨bd, 1, none⟩ = some (.slice A1 n1 c1)) ∧ Bl W0 w') (by kernel_rfl) (HSEE.out _ (Bl.drew W0)) (fun hHeld => ?_)
 refine tH 0 ?_
 try simp only [tdy]
 refine tH 1 ?_
 try simp only [tdy]
 refine wpAnyH_ready (rs := [2]) (by kernel_rfl) (by simp) ?_
 refine AllReadyH.cons rfl (fun K hK => ?_) AllReadyH.nil
 go_simp
 refine (Ref4.right a.t a.r a.v _).mono ?_
 rintro e wq ⟨rfl, hbq⟩
 rw [show (decide (1 ≤ a.v ∧ a.v ≤ 1048576) && decide (a.r < a.v)) = true from H1.out]
 refine hK.out _ _ ?_ (fun hHeld => ?_)
 ·first | exact HSEE.out _ (hHeld.2.on hbq) | exact HSEE.out _ hHeld.2
 clear hK K
 try simp only [tdy]
 refine tH 3 ?_
 try simp only [tdy]
 refine tH 4 ?_
 try simp only [tdy]
 refine tH 5 ?_
 try simp only [tdy]
 refine wpAnyH_ready (rs := [6]) (by kernel_rfl) (by simp) ?_
 refine AllReadyH.cons rfl (fun K hK => ?_) AllReadyH.nil
 go_simp
 refine (Ref4.right a.u a.s a.y _).mono ?_
 rintro e wq ⟨rfl, hbq⟩
 rw [show (decide (1 ≤ a.y ∧ a.y ≤ 1048576) && decide (a.s < a.y)) = true from H2.out]
 refine hK.out _ _ ?_ (fun hHeld => ?_)
 ·first | exact HSEE.out _ (hHeld.2.on hbq) | exact HSEE.out _ hHeld.2
 clear hK K
 try simp only [tdy]
 refine tH 7 ?_
 try simp only [tdy]
 refine tH 8 ?_
 try simp only [tdy]
 refine tH 9 ?_
 try simp only [tdy]
 refine tH 10 ?_
 try simp only [tdy]
 refine tH 11 ?_
 try simp only [tdy]
 refine tH 12 ?_
 try simp only [tdy]
 refine tH 13 ?_
 try simp only [tdy]
 refine tH 14 ?_
 try simp only [tdy]
 refine tH 15 ?_
 try simp only [tdy]
 refine tH 16 ?_
 try simp only [tdy]
 refine tH 17 ?_
 try simp only [tdy]
 refine tH 18 ?_
 try simp only [tdy]
 refine tH 19 ?_
 try simp only [tdy]
 refine tH 20 ?_
 try simp only [tdy]
 refine tH 21 ?_
 try simp only [tdy]
 refine tH 22 ?_
 try simp only [tdy]
 refine tH 23 ?_
 try simp only [tdy]
 refine wpAnyH_ready (rs := [24]) (by kernel_rfl) (by simp) ?_
 refine AllReadyH.cons rfl (fun K hK => ?_) AllReadyH.nil
 go_simp
 refine (Ref.sign 70 s1 A1 n1 c1 _ _ (HD2.out.below hHeld.2)).mono ?_
 rintro e wq ⟨rfl, hbq⟩
 rw [HZ.out]
 refine hK.out _ _ ?_ (fun hHeld => ?_)
 ·first | exact HSEE.out _ (hHeld.2.on hbq) | exact HSEE.out _ hHeld.2
 clear hK K
 try simp only [tdy]
 refine tH 25 ?_
 try simp only [tdy]
 refine tH 26 ?_
 try simp only [tdy]
 refine tH 27 ?_
 try simp only [tdy]
 refine tH 28 ?_
 try simp only [tdy]
 refine wpAnyH_ready (rs := [29]) (by kernel_rfl) (by simp) ?_
 refine AllReadyH.cons rfl (fun K hK => ?_) AllReadyH.nil
 go_simp
 refine (Ref.power 60 (by decide) _).mono ?_
 rintro e wq ⟨s2, A2, n2, c2, rfl, hB2, hbq⟩
 have HP2 := hid hB2
 have HBq := hid hHeld.2
 clear hB2
 refine hK.out _ _ ?_ (fun hHeld => ?_)
 ·first | exact HSEE.out _ (hHeld.2.on hbq) | exact HSEE.out _ hHeld.2
 clear hK K
 try simp only [tdy]
 refine wpAnyH_ready (rs := [30]) (by kernel_rfl) (by simp) ?_
 refine AllReadyH.cons rfl (fun K hK => ?_) AllReadyH.nil
 go_simp
 refine (Ref.cmp 70 s1 s2 A1 A2 n1 c1 n2 c2 _ _ _ (HD2.out.below hHeld.2) (HP2.out.mono (by decide)) (by decide)).mono ?_
 rintro e wq ⟨rfl, hbq⟩
 rw [HZ2.out]
 refine hK.out _ _ ?_ (fun hHeld => ?_)
 ·first | exact HSEE.out _ (hHeld.2.on hbq) | exact HSEE.out _ hHeld.2
 clear hK K
 try simp only [tdy]
 refine tH 31 ?_
 try simp only [tdy]
 refine tH 32 ?_
 try simp only [tdy]
 refine tH 33 ?_
 try simp only [tdy]
 refine wpAnyH_done (by kernel_rfl) ?_ _
 have HFIN := hid (below_on HV2.out.2 hHeld.2)
 clear hHeld
 go_wp2
 go_ret
 exact ⟨rfl, HFIN.out⟩
end


section
open Go.RowKit
theorem Ref5.right (a : It) (ha : a.In) (w : World) : Calls Tryz.prog 85 #[a.val] w (Ans (.bool (It.right a)) w) := by
 unfold It.right
 cases h1 : posOk a.r a.v with
 | false => exact Ref5.right1 a ha w h1
 | true =>
  cases h2 : posOk a.s a.y with
  | false => exact Ref5.right2 a ha w h1 h2
  | true =>
   by_cases h3 : a.v = a.y
   ·by_cases h4 : 0 < a.i
    ·by_cases h5 : 0 ≤ dif a.u a.t
     ·rw [decide_eq_true h3, decide_eq_true h4, decide_eq_true h5]
      rcases Int.lt_trichotomy (dif a.u a.t) 1152921504606846976 with h6 | h6 | h6
      ·rw [decide_eq_true (Int.le_of_lt h6)]; exact Ref5.right7 a ha w h1 h2 h3 h4 h5 h6
      ·rw [decide_eq_true (Int.le_of_eq h6)]; exact Ref5.right8 a ha w h1 h2 h3 h4 h5 h6
      ·rw [decide_eq_false (by omega)]; exact Ref5.right6 a ha w h1 h2 h3 h4 h5 h6
     ·rw [decide_eq_true h3, decide_eq_true h4, decide_eq_false h5]
      exact Ref5.right5 a ha w h1 h2 h3 h4 (by omega)
    ·rw [decide_eq_true h3, decide_eq_false h4]
     exact Ref5.right4 a ha w h1 h2 h3 h4
   ·rw [decide_eq_false h3]
    exact Ref5.right3 a ha w h1 h2 h3
end


section
open Go.RowKit
set_option maxRecDepth 100000
set_option maxHeartbeats 32000000
theorem infoReq : (Tryz.prog.info? 53).map (·.size) = some 10 := by kernel_rfl
theorem Req.slice (n : Int) (w : World) : Calls Tryz.prog 82 #[.int .u64 n] w (Ans (.bool (slI n)) w) := by
 unfold slI
 by_cases h1 : 1 ≤ n
 ·by_cases h2 : n ≤ 1099511627776
  ·have e : decide (1 ≤ n ∧ n ≤ 1099511627776) = true := by rw [decide_eq_true_eq]; exact ⟨h1, h2⟩
   rw [e]
   clear e
   go_enter Tryz.func82, Tryz.ntmps82
   go_wp2
   go_ret
   exact ⟨rfl, Below.refl _ _⟩
  ·have e : decide (1 ≤ n ∧ n ≤ 1099511627776) = false := by rw [decide_eq_false_iff_not]; omega
   rw [e]
   clear e
   go_enter Tryz.func82, Tryz.ntmps82
   go_wp2
   go_ret
   exact ⟨rfl, Below.refl _ _⟩
 ·have e : decide (1 ≤ n ∧ n ≤ 1099511627776) = false := by rw [decide_eq_false_iff_not]; omega
  rw [e]
  clear e
  go_enter Tryz.func82, Tryz.ntmps82
  go_wp2
  go_ret
  exact ⟨rfl, Below.refl _ _⟩
theorem Pos.moveD (t r v n : Int) (hp : PIn (t, r, v)) (w : World) : Calls Tryz.prog 42 #[.agg #[.int .u64 t, .int .u32 r, .int .u32 v], .int .u64 (gw n)] w (Ans (.tuple #[pv (dueP (t, r, v) n), .bool (atOk (gw n + r) v)]) w) :=
 Pos.moveF (p := (t, r, v)) hp (gw_T n).1 (gw_T n).2 w
section
attribute [local go_sem] Pos.eqB
theorem Req.due (r : Rq) (hr : r.In) (w : World) : Calls Tryz.prog 83 #[r.val] w (Ans (pv r.due) w) := by
 have HR := hid hr
 obtain ⟨d, hd⟩ : ∃ d, dueP (r.a.t, r.a.r, r.a.v) r.l = d := ⟨_, rfl⟩
 have HD : Hid (dueP (r.a.t, r.a.r, r.a.v) r.l = d) := hid hd
 have e1 : IntKind.u64.wrap (1048576 * r.l) = gw r.l := rfl
 rw [show r.due = d from hd]
 clear hr hd
 unfold Rq.val
 have HV0 : Hid (VS w [(w.heap.size, r.cells), (w.heap.size + 1, [.int .u64 0, .int .u32 0, .int .u32 0])] ((w.alloc (.cells #[.int .u64 r.a.t, .int .u32 r.a.r, .int .u32 r.a.v, .int .i64 r.a.i, .int .u64 r.a.u, .int .u32 r.a.s, .int .u32 r.a.y, .int .u64 r.l, .int .u64 r.s, .bool r.z] 53)).alloc (.cells #[.int .u64 0, .int .u32 0, .int .u32 0] 27))) := hid (by have h := (((VS.nil w).new 53 r.cells).new 27 [.int .u64 0, .int .u32 0, .int .u32 0]); (try simp only [World.size_alloc] at h); exact h)
 go_enter Tryz.func83, Tryz.ntmps83
 go_wp2_with fail
 generalize ((w.alloc (.cells #[.int .u64 r.a.t, .int .u32 r.a.r, .int .u32 r.a.v, .int .i64 r.a.i, .int .u64 r.a.u, .int .u32 r.a.s, .int .u32 r.a.y, .int .u64 r.l, .int .u64 r.s, .bool r.z] 53)).alloc (.cells #[.int .u64 0, .int .u32 0, .int .u32 0] 27)) = W0 at HV0 ⊢
 obtain ⟨c0, c1, c2, c3, c4, c5, c6, c7, c8, c9⟩ := Rq.at r (HV0.out.cs 0 rfl)
 go_wp2_with fail
 refine (Pos.moveD r.a.t r.a.r r.a.v r.l (Rq.pp_in HR.out) _).mono ?_
 rw [HD.out]
 rintro e w1 ⟨rfl, hb⟩
 have HV1 := hid (HV0.out.below hb)
 clear hb HV0 e1 c0 c1 c2 c3 c4 c5 c6 c7 c8 c9
 have HV2 : Hid (VS w _ (w1.alloc (.cells #[.int .u64 0, .int .u32 0, .int .u32 0] 27))) := hid (HV1.out.new 27 [.int .u64 0, .int .u32 0, .int .u32 0])
 clear HV1
 go_wp2_with (first | ((with_reducible refine pvs HV2.out 2 27 [.int .u64 d.1, .int .u32 d.2.1, .int .u32 d.2.2] infoPos 3 13 (w1.heap.size) ([.int .u64 0, .int .u32 0, .int .u32 0]) 0 ?vs1); (intro W2 hW2); (have HV3 := hid hW2); (clear hW2 HV2); (obtain ⟨q0, q1, q2⟩ := P3.at d (HV3.out.cs 2 rfl))) | ((with_reducible refine pvs HV3.out 1 27 [.int .u64 d.1, .int .u32 d.2.1, .int .u32 d.2.2] infoPos 2 15 (w.heap.size + 1) ([.int .u64 0, .int .u32 0, .int .u32 0]) 0 ?vs2); (intro W2 hW2); (have HV4 := hid hW2); (clear hW2 HV3); (clear q0 q1 q2); (obtain ⟨q0, q1, q2⟩ := P3.at d (HV4.out.cs 1 rfl))) | fail)
 refine bodyPost_ret (v := pv d) (by simp [results, Tryz.results83, go_sem, q0, q1, q2]) rfl ⟨rfl, HV4.out.bel⟩
theorem Req.right (r : Rq) (hr : r.In) (w : World) : Calls Tryz.prog 35 #[r.val] w (Ans (.bool r.right) w) := by
 have HR := hid hr
 clear hr
 unfold Rq.val
 cases h1 : It.right r.a with
 | false =>
  have H1 := hid h1
  clear h1
  have HE : Hid (r.right = false) := hid (by unfold Rq.right; rw [H1.out]; rfl)
  rw [HE.out]
  have HV0 : Hid (VS w [(w.heap.size, r.cells)] (w.alloc (.cells #[.int .u64 r.a.t, .int .u32 r.a.r, .int .u32 r.a.v, .int .i64 r.a.i, .int .u64 r.a.u, .int .u32 r.a.s, .int .u32 r.a.y, .int .u64 r.l, .int .u64 r.s, .bool r.z] 53))) := hid (by have h := ((VS.nil w).new 53 r.cells); (try simp only [World.size_alloc] at h); exact h)
  go_enter Tryz.func35, Tryz.ntmps35
  go_wp2_with fail
  generalize (w.alloc (.cells #[.int .u64 r.a.t, .int .u32 r.a.r, .int .u32 r.a.v, .int .i64 r.a.i, .int .u64 r.a.u, .int .u32 r.a.s, .int .u32 r.a.y, .int .u64 r.l, .int .u64 r.s, .bool r.z] 53)) = W0 at HV0 ⊢
  refine wp_region_grow (S := VS w [(w.heap.size, r.cells)]) 22 (by kernel_rfl) (HV0.out.below (Below.refl _ _).drew) ?_
  refine tF 0 (VS.stays w _) (fun _ h => h) ?_
  try simp only [tdy]
  refine tG 1 (VS.stays w _) (fun _ h => h) (fun _ hSw => Rq.at r (hSw.cs 0 rfl)) ?_
  try simp only [tdy]
  refine tC 2 (v := .bool false) (VS.stays w _) (fun _ h => h) (fun wq hSw => (Item.right r.a wq).mono (by rintro e w' ⟨rfl, hb⟩; exact ⟨by rw [H1.out], hb⟩ : ∀ e w', Ans (.bool (It.right r.a)) wq e w' → Ans (.bool false) wq e w')) ?_
  try simp only [tdy]
  refine tF 3 (VS.stays w _) (fun _ h => h) ?_
  try simp only [tdy]
  refine wpAnyE_take (i := 4) (v := undef) (VS.stays w _) (fun _ h => h) rfl (by kernel_rfl) (by kernel_rfl) (by kernel_rfl) (by kernel_rfl) (fun _ _ _ h => h) (Or.inr ⟨by rfl, rfl⟩) ?_
  try simp only [tdy]
  refine wpAnyE_take (i := 5) (v := undef) (VS.stays w _) (fun _ h => h) rfl (by kernel_rfl) (by kernel_rfl) (by kernel_rfl) (by kernel_rfl) (fun _ _ _ h => h) (Or.inr ⟨by rfl, rfl⟩) ?_
  try simp only [tdy]
  refine wpAnyE_take (i := 6) (v := undef) (VS.stays w _) (fun _ h => h) rfl (by kernel_rfl) (by kernel_rfl) (by kernel_rfl) (by kernel_rfl) (fun _ _ _ h => h) (Or.inr ⟨by rfl, rfl⟩) ?_
  try simp only [tdy]
  refine tF 7 (VS.stays w _) (fun _ h => h) ?_
  try simp only [tdy]
  refine tF 8 (VS.stays w _) (fun _ h => h) ?_
  try simp only [tdy]
  refine wpAnyE_take (i := 9) (v := undef) (VS.stays w _) (fun _ h => h) rfl (by kernel_rfl) (by kernel_rfl) (by kernel_rfl) (by kernel_rfl) (fun _ _ _ h => h) (Or.inr ⟨by rfl, rfl⟩) ?_
  try simp only [tdy]
  refine wpAnyE_take (i := 10) (v := undef) (VS.stays w _) (fun _ h => h) rfl (by kernel_rfl) (by kernel_rfl) (by kernel_rfl) (by kernel_rfl) (fun _ _ _ h => h) (Or.inr ⟨by rfl, rfl⟩) ?_
  try simp only [tdy]
  refine wpAnyE_take (i := 11) (v := undef) (VS.stays w _) (fun _ h => h) rfl (by kernel_rfl) (by kernel_rfl) (by kernel_rfl) (by kernel_rfl) (fun _ _ _ h => h) (Or.inr ⟨by rfl, rfl⟩) ?_
  try simp only [tdy]
  refine tF 12 (VS.stays w _) (fun _ h => h) ?_
  try simp only [tdy]
  refine tF 13 (VS.stays w _) (fun _ h => h) ?_
  try simp only [tdy]
  refine wpAnyE_take (i := 14) (v := undef) (VS.stays w _) (fun _ h => h) rfl (by kernel_rfl) (by kernel_rfl) (by kernel_rfl) (by kernel_rfl) (fun _ _ _ h => h) (Or.inr ⟨by rfl, rfl⟩) ?_
  try simp only [tdy]
  refine wpAnyE_take (i := 15) (v := undef) (VS.stays w _) (fun _ h => h) rfl (by kernel_rfl) (by kernel_rfl) (by kernel_rfl) (by kernel_rfl) (fun _ _ _ h => h) (Or.inr ⟨by rfl, rfl⟩) ?_
  try simp only [tdy]
  refine wpAnyE_take (i := 16) (v := undef) (VS.stays w _) (fun _ h => h) rfl (by kernel_rfl) (by kernel_rfl) (by kernel_rfl) (by kernel_rfl) (fun _ _ _ h => h) (Or.inr ⟨by rfl, rfl⟩) ?_
  try simp only [tdy]
  refine wpAnyE_take (i := 17) (v := undef) (VS.stays w _) (fun _ h => h) rfl (by kernel_rfl) (by kernel_rfl) (by kernel_rfl) (by kernel_rfl) (fun _ _ _ h => h) (Or.inr ⟨by rfl, rfl⟩) ?_
  try simp only [tdy]
  refine wpAnyE_take (i := 18) (v := undef) (VS.stays w _) (fun _ h => h) rfl (by kernel_rfl) (by kernel_rfl) (by kernel_rfl) (by kernel_rfl) (fun _ _ _ h => h) (Or.inr ⟨by rfl, rfl⟩) ?_
  try simp only [tdy]
  refine wpAnyE_take (i := 19) (v := undef) (VS.stays w _) (fun _ h => h) rfl (by kernel_rfl) (by kernel_rfl) (by kernel_rfl) (by kernel_rfl) (fun _ _ _ h => h) (Or.inr ⟨by rfl, rfl⟩) ?_
  try simp only [tdy]
  refine tF 20 (VS.stays w _) (fun _ h => h) ?_
  try simp only [tdy]
  refine tF 21 (VS.stays w _) (fun _ h => h) ?_
  try simp only [tdy]
  refine wpAnyE_done (by kernel_rfl) (fun wz hSz => ?_) _
  go_wp2_with fail
  go_ret
  exact ⟨rfl, hSz.bel⟩
 | true =>
  cases h2 : slI r.l with
  | false =>
   have H1 := hid h1
   have H2 := hid h2
   clear h1 h2
   have HE : Hid (r.right = false) := hid (by unfold Rq.right; rw [H1.out, H2.out]; rfl)
   rw [HE.out]
   have HV0 : Hid (VS w [(w.heap.size, r.cells)] (w.alloc (.cells #[.int .u64 r.a.t, .int .u32 r.a.r, .int .u32 r.a.v, .int .i64 r.a.i, .int .u64 r.a.u, .int .u32 r.a.s, .int .u32 r.a.y, .int .u64 r.l, .int .u64 r.s, .bool r.z] 53))) := hid (by have h := ((VS.nil w).new 53 r.cells); (try simp only [World.size_alloc] at h); exact h)
   go_enter Tryz.func35, Tryz.ntmps35
   go_wp2_with fail
   generalize (w.alloc (.cells #[.int .u64 r.a.t, .int .u32 r.a.r, .int .u32 r.a.v, .int .i64 r.a.i, .int .u64 r.a.u, .int .u32 r.a.s, .int .u32 r.a.y, .int .u64 r.l, .int .u64 r.s, .bool r.z] 53)) = W0 at HV0 ⊢
   refine wp_region_grow (S := VS w [(w.heap.size, r.cells)]) 22 (by kernel_rfl) (HV0.out.below (Below.refl _ _).drew) ?_
   refine tF 0 (VS.stays w _) (fun _ h => h) ?_
   try simp only [tdy]
   refine tG 1 (VS.stays w _) (fun _ h => h) (fun _ hSw => Rq.at r (hSw.cs 0 rfl)) ?_
   try simp only [tdy]
   refine tC 2 (v := .bool true) (VS.stays w _) (fun _ h => h) (fun wq hSw => (Item.right r.a wq).mono (by rintro e w' ⟨rfl, hb⟩; exact ⟨by rw [H1.out], hb⟩ : ∀ e w', Ans (.bool (It.right r.a)) wq e w' → Ans (.bool true) wq e w')) ?_
   try simp only [tdy]
   refine tF 3 (VS.stays w _) (fun _ h => h) ?_
   try simp only [tdy]
   refine tF 4 (VS.stays w _) (fun _ h => h) ?_
   try simp only [tdy]
   refine tG 5 (VS.stays w _) (fun _ h => h) (fun _ hSw => Rq.at r (hSw.cs 0 rfl)) ?_
   try simp only [tdy]
   refine tC 6 (v := .bool false) (VS.stays w _) (fun _ h => h) (fun wq hSw => (Req.slice r.l wq).mono (by rintro e w' ⟨rfl, hb⟩; exact ⟨by rw [H2.out], hb⟩ : ∀ e w', Ans (.bool (slI r.l)) wq e w' → Ans (.bool false) wq e w')) ?_
   try simp only [tdy]
   refine tF 7 (VS.stays w _) (fun _ h => h) ?_
   try simp only [tdy]
   refine tF 8 (VS.stays w _) (fun _ h => h) ?_
   try simp only [tdy]
   refine wpAnyE_take (i := 9) (v := undef) (VS.stays w _) (fun _ h => h) rfl (by kernel_rfl) (by kernel_rfl) (by kernel_rfl) (by kernel_rfl) (fun _ _ _ h => h) (Or.inr ⟨by rfl, rfl⟩) ?_
   try simp only [tdy]
   refine wpAnyE_take (i := 10) (v := undef) (VS.stays w _) (fun _ h => h) rfl (by kernel_rfl) (by kernel_rfl) (by kernel_rfl) (by kernel_rfl) (fun _ _ _ h => h) (Or.inr ⟨by rfl, rfl⟩) ?_
   try simp only [tdy]
   refine wpAnyE_take (i := 11) (v := undef) (VS.stays w _) (fun _ h => h) rfl (by kernel_rfl) (by kernel_rfl) (by kernel_rfl) (by kernel_rfl) (fun _ _ _ h => h) (Or.inr ⟨by rfl, rfl⟩) ?_
   try simp only [tdy]
   refine tF 12 (VS.stays w _) (fun _ h => h) ?_
   try simp only [tdy]
   refine tF 13 (VS.stays w _) (fun _ h => h) ?_
   try simp only [tdy]
   refine wpAnyE_take (i := 14) (v := undef) (VS.stays w _) (fun _ h => h) rfl (by kernel_rfl) (by kernel_rfl) (by kernel_rfl) (by kernel_rfl) (fun _ _ _ h => h) (Or.inr ⟨by rfl, rfl⟩) ?_
   try simp only [tdy]
   refine wpAnyE_take (i := 15) (v := undef) (VS.stays w _) (fun _ h => h) rfl (by kernel_rfl) (by kernel_rfl) (by kernel_rfl) (by kernel_rfl) (fun _ _ _ h => h) (Or.inr ⟨by rfl, rfl⟩) ?_
   try simp only [tdy]
   refine wpAnyE_take (i := 16) (v := undef) (VS.stays w _) (fun _ h => h) rfl (by kernel_rfl) (by kernel_rfl) (by kernel_rfl) (by kernel_rfl) (fun _ _ _ h => h) (Or.inr ⟨by rfl, rfl⟩) ?_
   try simp only [tdy]
   refine wpAnyE_take (i := 17) (v := undef) (VS.stays w _) (fun _ h => h) rfl (by kernel_rfl) (by kernel_rfl) (by kernel_rfl) (by kernel_rfl) (fun _ _ _ h => h) (Or.inr ⟨by rfl, rfl⟩) ?_
   try simp only [tdy]
   refine wpAnyE_take (i := 18) (v := undef) (VS.stays w _) (fun _ h => h) rfl (by kernel_rfl) (by kernel_rfl) (by kernel_rfl) (by kernel_rfl) (fun _ _ _ h => h) (Or.inr ⟨by rfl, rfl⟩) ?_
   try simp only [tdy]
   refine wpAnyE_take (i := 19) (v := undef) (VS.stays w _) (fun _ h => h) rfl (by kernel_rfl) (by kernel_rfl) (by kernel_rfl) (by kernel_rfl) (fun _ _ _ h => h) (Or.inr ⟨by rfl, rfl⟩) ?_
   try simp only [tdy]
   refine tF 20 (VS.stays w _) (fun _ h => h) ?_
   try simp only [tdy]
   refine tF 21 (VS.stays w _) (fun _ h => h) ?_
   try simp only [tdy]
   refine wpAnyE_done (by kernel_rfl) (fun wz hSz => ?_) _
   go_wp2_with fail
   go_ret
   exact ⟨rfl, hSz.bel⟩
  | true =>
   cases h3 : slI r.s with
   | false =>
    have H1 := hid h1
    have H2 := hid h2
    have H3 := hid h3
    clear h1 h2 h3
    have HE : Hid (r.right = false) := hid (by unfold Rq.right; rw [H1.out, H2.out, H3.out]; rfl)
    rw [HE.out]
    have HV0 : Hid (VS w [(w.heap.size, r.cells)] (w.alloc (.cells #[.int .u64 r.a.t, .int .u32 r.a.r, .int .u32 r.a.v, .int .i64 r.a.i, .int .u64 r.a.u, .int .u32 r.a.s, .int .u32 r.a.y, .int .u64 r.l, .int .u64 r.s, .bool r.z] 53))) := hid (by have h := ((VS.nil w).new 53 r.cells); (try simp only [World.size_alloc] at h); exact h)
    go_enter Tryz.func35, Tryz.ntmps35
    go_wp2_with fail
    generalize (w.alloc (.cells #[.int .u64 r.a.t, .int .u32 r.a.r, .int .u32 r.a.v, .int .i64 r.a.i, .int .u64 r.a.u, .int .u32 r.a.s, .int .u32 r.a.y, .int .u64 r.l, .int .u64 r.s, .bool r.z] 53)) = W0 at HV0 ⊢
    refine wp_region_grow (S := VS w [(w.heap.size, r.cells)]) 22 (by kernel_rfl) (HV0.out.below (Below.refl _ _).drew) ?_
    refine tF 0 (VS.stays w _) (fun _ h => h) ?_
    try simp only [tdy]
    refine tG 1 (VS.stays w _) (fun _ h => h) (fun _ hSw => Rq.at r (hSw.cs 0 rfl)) ?_
    try simp only [tdy]
    refine tC 2 (v := .bool true) (VS.stays w _) (fun _ h => h) (fun wq hSw => (Item.right r.a wq).mono (by rintro e w' ⟨rfl, hb⟩; exact ⟨by rw [H1.out], hb⟩ : ∀ e w', Ans (.bool (It.right r.a)) wq e w' → Ans (.bool true) wq e w')) ?_
    try simp only [tdy]
    refine tF 3 (VS.stays w _) (fun _ h => h) ?_
    try simp only [tdy]
    refine tF 4 (VS.stays w _) (fun _ h => h) ?_
    try simp only [tdy]
    refine tG 5 (VS.stays w _) (fun _ h => h) (fun _ hSw => Rq.at r (hSw.cs 0 rfl)) ?_
    try simp only [tdy]
    refine tC 6 (v := .bool true) (VS.stays w _) (fun _ h => h) (fun wq hSw => (Req.slice r.l wq).mono (by rintro e w' ⟨rfl, hb⟩; exact ⟨by rw [H2.out], hb⟩ : ∀ e w', Ans (.bool (slI r.l)) wq e w' → Ans (.bool true) wq e w')) ?_
    try simp only [tdy]
    refine tF 7 (VS.stays w _) (fun _ h => h) ?_
    try simp only [tdy]
    refine tF 8 (VS.stays w _) (fun _ h => h) ?_
    try simp only [tdy]
    refine tF 9 (VS.stays w _) (fun _ h => h) ?_
    try simp only [tdy]
    refine tG 10 (VS.stays w _) (fun _ h => h) (fun _ hSw => Rq.at r (hSw.cs 0 rfl)) ?_
    try simp only [tdy]
    refine tC 11 (v := .bool false) (VS.stays w _) (fun _ h => h) (fun wq hSw => (Req.slice r.s wq).mono (by rintro e w' ⟨rfl, hb⟩; exact ⟨by rw [H3.out], hb⟩ : ∀ e w', Ans (.bool (slI r.s)) wq e w' → Ans (.bool false) wq e w')) ?_
    try simp only [tdy]
    refine tF 12 (VS.stays w _) (fun _ h => h) ?_
    try simp only [tdy]
    refine tF 13 (VS.stays w _) (fun _ h => h) ?_
    try simp only [tdy]
    refine wpAnyE_take (i := 14) (v := undef) (VS.stays w _) (fun _ h => h) rfl (by kernel_rfl) (by kernel_rfl) (by kernel_rfl) (by kernel_rfl) (fun _ _ _ h => h) (Or.inr ⟨by rfl, rfl⟩) ?_
    try simp only [tdy]
    refine wpAnyE_take (i := 15) (v := undef) (VS.stays w _) (fun _ h => h) rfl (by kernel_rfl) (by kernel_rfl) (by kernel_rfl) (by kernel_rfl) (fun _ _ _ h => h) (Or.inr ⟨by rfl, rfl⟩) ?_
    try simp only [tdy]
    refine wpAnyE_take (i := 16) (v := undef) (VS.stays w _) (fun _ h => h) rfl (by kernel_rfl) (by kernel_rfl) (by kernel_rfl) (by kernel_rfl) (fun _ _ _ h => h) (Or.inr ⟨by rfl, rfl⟩) ?_
    try simp only [tdy]
    refine wpAnyE_take (i := 17) (v := undef) (VS.stays w _) (fun _ h => h) rfl (by kernel_rfl) (by kernel_rfl) (by kernel_rfl) (by kernel_rfl) (fun _ _ _ h => h) (Or.inr ⟨by rfl, rfl⟩) ?_
    try simp only [tdy]
    refine wpAnyE_take (i := 18) (v := undef) (VS.stays w _) (fun _ h => h) rfl (by kernel_rfl) (by kernel_rfl) (by kernel_rfl) (by kernel_rfl) (fun _ _ _ h => h) (Or.inr ⟨by rfl, rfl⟩) ?_
    try simp only [tdy]
    refine wpAnyE_take (i := 19) (v := undef) (VS.stays w _) (fun _ h => h) rfl (by kernel_rfl) (by kernel_rfl) (by kernel_rfl) (by kernel_rfl) (fun _ _ _ h => h) (Or.inr ⟨by rfl, rfl⟩) ?_
    try simp only [tdy]
    refine tF 20 (VS.stays w _) (fun _ h => h) ?_
    try simp only [tdy]
    refine tF 21 (VS.stays w _) (fun _ h => h) ?_
    try simp only [tdy]
    refine wpAnyE_done (by kernel_rfl) (fun wz hSz => ?_) _
    go_wp2_with fail
    go_ret
    exact ⟨rfl, hSz.bel⟩
   | true =>
    have H1 := hid h1
    have H2 := hid h2
    have H3 := hid h3
    clear h1 h2 h3
    have HE : Hid (r.right = (r.a.u == r.due.1 && r.a.s == r.due.2.1 && r.a.y == r.due.2.2)) := hid (by unfold Rq.right; rw [H1.out, H2.out, H3.out]; rfl)
    rw [HE.out]
    have HV0 : Hid (VS w [(w.heap.size, r.cells)] (w.alloc (.cells #[.int .u64 r.a.t, .int .u32 r.a.r, .int .u32 r.a.v, .int .i64 r.a.i, .int .u64 r.a.u, .int .u32 r.a.s, .int .u32 r.a.y, .int .u64 r.l, .int .u64 r.s, .bool r.z] 53))) := hid (by have h := ((VS.nil w).new 53 r.cells); (try simp only [World.size_alloc] at h); exact h)
    go_enter Tryz.func35, Tryz.ntmps35
    go_wp2_with fail
    generalize (w.alloc (.cells #[.int .u64 r.a.t, .int .u32 r.a.r, .int .u32 r.a.v, .int .i64 r.a.i, .int .u64 r.a.u, .int .u32 r.a.s, .int .u32 r.a.y, .int .u64 r.l, .int .u64 r.s, .bool r.z] 53)) = W0 at HV0 ⊢
    refine wp_region_grow (S := VS w [(w.heap.size, r.cells)]) 22 (by kernel_rfl) (HV0.out.below (Below.refl _ _).drew) ?_
    refine tF 0 (VS.stays w _) (fun _ h => h) ?_
    try simp only [tdy]
    refine tG 1 (VS.stays w _) (fun _ h => h) (fun _ hSw => Rq.at r (hSw.cs 0 rfl)) ?_
    try simp only [tdy]
    refine tC 2 (v := .bool true) (VS.stays w _) (fun _ h => h) (fun wq hSw => (Item.right r.a wq).mono (by rintro e w' ⟨rfl, hb⟩; exact ⟨by rw [H1.out], hb⟩ : ∀ e w', Ans (.bool (It.right r.a)) wq e w' → Ans (.bool true) wq e w')) ?_
    try simp only [tdy]
    refine tF 3 (VS.stays w _) (fun _ h => h) ?_
    try simp only [tdy]
    refine tF 4 (VS.stays w _) (fun _ h => h) ?_
    try simp only [tdy]
    refine tG 5 (VS.stays w _) (fun _ h => h) (fun _ hSw => Rq.at r (hSw.cs 0 rfl)) ?_
    try simp only [tdy]
    refine tC 6 (v := .bool true) (VS.stays w _) (fun _ h => h) (fun wq hSw => (Req.slice r.l wq).mono (by rintro e w' ⟨rfl, hb⟩; exact ⟨by rw [H2.out], hb⟩ : ∀ e w', Ans (.bool (slI r.l)) wq e w' → Ans (.bool true) wq e w')) ?_
    try simp only [tdy]
    refine tF 7 (VS.stays w _) (fun _ h => h) ?_
    try simp only [tdy]
    refine tF 8 (VS.stays w _) (fun _ h => h) ?_
    try simp only [tdy]
    refine tF 9 (VS.stays w _) (fun _ h => h) ?_
    try simp only [tdy]
    refine tG 10 (VS.stays w _) (fun _ h => h) (fun _ hSw => Rq.at r (hSw.cs 0 rfl)) ?_
    try simp only [tdy]
    refine tC 11 (v := .bool true) (VS.stays w _) (fun _ h => h) (fun wq hSw => (Req.slice r.s wq).mono (by rintro e w' ⟨rfl, hb⟩; exact ⟨by rw [H3.out], hb⟩ : ∀ e w', Ans (.bool (slI r.s)) wq e w' → Ans (.bool true) wq e w')) ?_
    try simp only [tdy]
    refine tF 12 (VS.stays w _) (fun _ h => h) ?_
    try simp only [tdy]
    refine tF 13 (VS.stays w _) (fun _ h => h) ?_
    try simp only [tdy]
    refine tF 14 (VS.stays w _) (fun _ h => h) ?_
    try simp only [tdy]
    refine tF 15 (VS.stays w _) (fun _ h => h) ?_
    try simp only [tdy]
    refine tG 16 (VS.stays w _) (fun _ h => h) (fun _ hSw => Rq.at r (hSw.cs 0 rfl)) ?_
    try simp only [tdy]
    refine tG 17 (VS.stays w _) (fun _ h => h) (fun _ hSw => Rq.at r (hSw.cs 0 rfl)) ?_
    try simp only [tdy]
    refine tC 18 (v := pv r.due) (VS.stays w _) (fun _ h => h) (fun wq hSw => Req.due r HR.out wq) ?_
    try simp only [tdy]
    refine wpAnyE_take (i := 19) (v := .bool (r.a.u == r.due.1 && r.a.s == r.due.2.1 && r.a.y == r.due.2.2)) (VS.stays w _) (fun _ h => h) rfl (by kernel_rfl) (by kernel_rfl) (by kernel_rfl) (by kernel_rfl) (fun _ _ _ h => h) (SteadyB.of_yields (Or.inl ⟨by rfl, ?_⟩)) ?_
    ·intro wq hSw
     go_simp
     by_cases q1 : r.a.u = r.due.1 <;> by_cases q2 : r.a.s = r.due.2.1 <;> by_cases q3 : r.a.y = r.due.2.2 <;> simp [q1, q2, q3]
    try simp only [tdy]
    refine tF 20 (VS.stays w _) (fun _ h => h) ?_
    try simp only [tdy]
    refine tF 21 (VS.stays w _) (fun _ h => h) ?_
    try simp only [tdy]
    refine wpAnyE_done (by kernel_rfl) (fun wz hSz => ?_) _
    go_wp2_with fail
    go_ret
    exact ⟨rfl, hSz.bel⟩
end
end


section
open Go.RowKit
set_option maxRecDepth 100000
set_option maxHeartbeats 32000000
theorem Req.whr (r : Rq) (hr : r.In) (w : World) : Calls Tryz.prog 81 #[r.val] w (Ans (.tuple #[Rq.val r.whr.1, .bool r.whr.2]) w) := by
 have HR := hid hr
 clear hr
 unfold Rq.whr
 cases h1 : r.right with
 | false =>
  rw [if_neg (by decide)]
  have H1 := hid h1
  clear h1
  unfold Rq.val
  have HV0 : Hid (VS w [(w.heap.size, r.cells), (w.heap.size + 1, Rq.no.cells)] ((w.alloc (.cells #[.int .u64 r.a.t, .int .u32 r.a.r, .int .u32 r.a.v, .int .i64 r.a.i, .int .u64 r.a.u, .int .u32 r.a.s, .int .u32 r.a.y, .int .u64 r.l, .int .u64 r.s, .bool r.z] 53)).alloc (.cells #[.int .u64 0, .int .u32 0, .int .u32 0, .int .i64 0, .int .u64 0, .int .u32 0, .int .u32 0, .int .u64 0, .int .u64 0, .bool false] 53))) := hid (by have h := (((VS.nil w).new 53 r.cells).new 53 Rq.no.cells); (try simp only [World.size_alloc] at h); exact h)
  go_enter Tryz.func81, Tryz.ntmps81
  go_wp2_with fail
  generalize ((w.alloc (.cells #[.int .u64 r.a.t, .int .u32 r.a.r, .int .u32 r.a.v, .int .i64 r.a.i, .int .u64 r.a.u, .int .u32 r.a.s, .int .u32 r.a.y, .int .u64 r.l, .int .u64 r.s, .bool r.z] 53)).alloc (.cells #[.int .u64 0, .int .u32 0, .int .u32 0, .int .i64 0, .int .u64 0, .int .u32 0, .int .u32 0, .int .u64 0, .int .u64 0, .bool false] 53)) = W0 at HV0 ⊢
  obtain ⟨c0, c1, c2, c3, c4, c5, c6, c7, c8, c9⟩ := Rq.at r (HV0.out.cs 0 rfl)
  go_wp2_with fail
  refine (Req.right r HR.out _).mono ?_
  rintro e w1 ⟨rfl, hb⟩
  rw [H1.out]
  have HV1 := hid (HV0.out.below hb)
  clear hb HV0 
  clear c0 c1 c2 c3 c4 c5 c6 c7 c8 c9
  go_wp2_with (first | ((with_reducible refine pvs HV1.out 1 53 [.int .u64 0, .int .u32 0, .int .u32 0, .int .i64 0, .int .u64 0, .int .u32 0, .int .u32 0, .int .u64 0, .int .u64 0, .bool false] infoReq 2 7 (w.heap.size + 1) (Rq.no.cells) 0 ?vs501); (intro W2 hW2); (have HV2 := hid hW2); (clear hW2 HV1)) | fail)
  obtain ⟨z0, z1, z2, z3, z4, z5, z6, z7, z8, z9⟩ := Rq.at Rq.no (HV2.out.cs 1 rfl)
  go_wp2_with fail
  refine bodyPost_ret (v := .tuple #[Rq.val Rq.no, .bool false]) (by simp [results, Tryz.results81, go_sem, z0, z1, z2, z3, z4, z5, z6, z7, z8, z9]) rfl ⟨rfl, HV2.out.bel⟩
 | true =>
  rw [if_pos rfl]
  have H1 := hid h1
  clear h1
  unfold Rq.val
  have HV0 : Hid (VS w [(w.heap.size, r.cells), (w.heap.size + 1, Rq.no.cells)] ((w.alloc (.cells #[.int .u64 r.a.t, .int .u32 r.a.r, .int .u32 r.a.v, .int .i64 r.a.i, .int .u64 r.a.u, .int .u32 r.a.s, .int .u32 r.a.y, .int .u64 r.l, .int .u64 r.s, .bool r.z] 53)).alloc (.cells #[.int .u64 0, .int .u32 0, .int .u32 0, .int .i64 0, .int .u64 0, .int .u32 0, .int .u32 0, .int .u64 0, .int .u64 0, .bool false] 53))) := hid (by have h := (((VS.nil w).new 53 r.cells).new 53 Rq.no.cells); (try simp only [World.size_alloc] at h); exact h)
  go_enter Tryz.func81, Tryz.ntmps81
  go_wp2_with fail
  generalize ((w.alloc (.cells #[.int .u64 r.a.t, .int .u32 r.a.r, .int .u32 r.a.v, .int .i64 r.a.i, .int .u64 r.a.u, .int .u32 r.a.s, .int .u32 r.a.y, .int .u64 r.l, .int .u64 r.s, .bool r.z] 53)).alloc (.cells #[.int .u64 0, .int .u32 0, .int .u32 0, .int .i64 0, .int .u64 0, .int .u32 0, .int .u32 0, .int .u64 0, .int .u64 0, .bool false] 53)) = W0 at HV0 ⊢
  obtain ⟨c0, c1, c2, c3, c4, c5, c6, c7, c8, c9⟩ := Rq.at r (HV0.out.cs 0 rfl)
  go_wp2_with fail
  refine (Req.right r HR.out _).mono ?_
  rintro e w1 ⟨rfl, hb⟩
  rw [H1.out]
  have HV1 := hid (HV0.out.below hb)
  clear hb HV0 
  clear c0 c1 c2 c3 c4 c5 c6 c7 c8 c9
  obtain ⟨c0, c1, c2, c3, c4, c5, c6, c7, c8, c9⟩ := Rq.at r (HV1.out.cs 0 rfl)
  go_wp2_with (first | ((with_reducible refine pvs HV1.out 1 53 [.int .u64 r.a.t, .int .u32 r.a.r, .int .u32 r.a.v, .int .i64 r.a.i, .int .u64 r.a.u, .int .u32 r.a.s, .int .u32 r.a.y, .int .u64 r.l, .int .u64 r.s, .bool r.z] infoReq 2 8 (w.heap.size + 1) (Rq.no.cells) 0 ?vs502); (intro W2 hW2); (have HV2 := hid hW2); (clear hW2 HV1)) | fail)
  clear c0 c1 c2 c3 c4 c5 c6 c7 c8 c9
  obtain ⟨z0, z1, z2, z3, z4, z5, z6, z7, z8, z9⟩ := Rq.at r (HV2.out.cs 1 rfl)
  go_wp2_with fail
  refine bodyPost_ret (v := .tuple #[Rq.val r, .bool true]) (by simp [results, Tryz.results81, go_sem, z0, z1, z2, z3, z4, z5, z6, z7, z8, z9]) rfl ⟨rfl, HV2.out.bel⟩
theorem Req.from_ (r : Rq) (hr : r.In) (p : P3) (hp : PIn p) (w : World) : Calls Tryz.prog 78 #[r.val, pv p] w (Ans (.tuple #[Rq.val (r.from_ p).whr.1, .bool (r.from_ p).whr.2]) w) := by
 have HR1 : Hid (Rq.In (Rq.mk (It.mk p.1 p.2.1 p.2.2 r.a.i r.a.u r.a.s r.a.y) r.l r.s r.z)) := hid ⟨⟨hp.1, hp.2.1, hp.2.2, hr.1.2.2.2.1, hr.1.2.2.2.2⟩, hr.2⟩
 have hr2 : Rq.In (r.from_ p) := Rq.from_in hr hp
 obtain ⟨d, hd⟩ : ∃ d, dueP p r.l = d := ⟨_, rfl⟩
 have he : r.from_ p = (Rq.mk (It.mk p.1 p.2.1 p.2.2 r.a.i d.1 d.2.1 d.2.2) r.l r.s r.z) := by unfold Rq.from_; rw [hd]
 have HD : Hid (Rq.due (Rq.mk (It.mk p.1 p.2.1 p.2.2 r.a.i r.a.u r.a.s r.a.y) r.l r.s r.z) = d) := hid hd
 rw [he] at hr2
 have HR2 := hid hr2
 rw [he]
 clear hr hp hd he hr2
 obtain ⟨⟨x, b⟩, hx⟩ : ∃ x, Rq.whr (Rq.mk (It.mk p.1 p.2.1 p.2.2 r.a.i d.1 d.2.1 d.2.2) r.l r.s r.z) = x := ⟨_, rfl⟩
 have HX := hid hx
 rw [hx]
 clear hx
 unfold Rq.val
 have HV0 : Hid (VS w [(w.heap.size, r.cells), (w.heap.size + 1, (pcells p)), (w.heap.size + 2, Rq.no.cells)] (((w.alloc (.cells #[.int .u64 r.a.t, .int .u32 r.a.r, .int .u32 r.a.v, .int .i64 r.a.i, .int .u64 r.a.u, .int .u32 r.a.s, .int .u32 r.a.y, .int .u64 r.l, .int .u64 r.s, .bool r.z] 53)).alloc (.cells #[.int .u64 p.1, .int .u32 p.2.1, .int .u32 p.2.2] 27)).alloc (.cells #[.int .u64 0, .int .u32 0, .int .u32 0, .int .i64 0, .int .u64 0, .int .u32 0, .int .u32 0, .int .u64 0, .int .u64 0, .bool false] 53))) := hid (by have h := ((((VS.nil w).new 53 r.cells).new 27 (pcells p)).new 53 Rq.no.cells); (try simp only [World.size_alloc] at h); exact h)
 go_enter Tryz.func78, Tryz.ntmps78
 go_upto_region 1 with fail
 generalize (((w.alloc (.cells #[.int .u64 r.a.t, .int .u32 r.a.r, .int .u32 r.a.v, .int .i64 r.a.i, .int .u64 r.a.u, .int .u32 r.a.s, .int .u32 r.a.y, .int .u64 r.l, .int .u64 r.s, .bool r.z] 53)).alloc (.cells #[.int .u64 p.1, .int .u32 p.2.1, .int .u32 p.2.2] 27)).alloc (.cells #[.int .u64 0, .int .u32 0, .int .u32 0, .int .i64 0, .int .u64 0, .int .u32 0, .int .u32 0, .int .u64 0, .int .u64 0, .bool false] 53)) = W0 at HV0 ⊢
 obtain ⟨p0, p1, p2⟩ := P3.at p (HV0.out.cs 1 rfl)
 go_wp2_with (first | ((with_reducible refine pvs HV0.out 0 27 [.int .u64 p.1, .int .u32 p.2.1, .int .u32 p.2.2] infoPos 8 6 (w.heap.size) (r.cells) 0 ?vs503); (intro W2 hW2); (have HV1 := hid hW2); (clear hW2 HV0); (clear p0 p1 p2); (obtain ⟨c0, c1, c2, c3, c4, c5, c6, c7, c8, c9⟩ := Rq.at (Rq.mk (It.mk p.1 p.2.1 p.2.2 r.a.i r.a.u r.a.s r.a.y) r.l r.s r.z) (HV1.out.cs 0 rfl))) | fail)
 refine (Req.due (Rq.mk (It.mk p.1 p.2.1 p.2.2 r.a.i r.a.u r.a.s r.a.y) r.l r.s r.z) HR1.out _).mono ?_
 rw [HD.out]
 rintro e w1 ⟨rfl, hb⟩
 have HV2 := hid (HV1.out.below hb)
 clear hb HV1 c0 c1 c2 c3 c4 c5 c6 c7 c8 c9
 go_wp2_with (first | ((with_reducible refine pvs HV2.out 0 27 [.int .u64 d.1, .int .u32 d.2.1, .int .u32 d.2.2] infoPos 12 10 (w.heap.size) ((Rq.mk (It.mk p.1 p.2.1 p.2.2 r.a.i r.a.u r.a.s r.a.y) r.l r.s r.z).cells) 4 ?vs504); (intro W2 hW2); (have HV3 := hid hW2); (clear hW2 HV2); (obtain ⟨c0, c1, c2, c3, c4, c5, c6, c7, c8, c9⟩ := Rq.at (Rq.mk (It.mk p.1 p.2.1 p.2.2 r.a.i d.1 d.2.1 d.2.2) r.l r.s r.z) (HV3.out.cs 0 rfl))) | fail)
 refine (Req.whr (Rq.mk (It.mk p.1 p.2.1 p.2.2 r.a.i d.1 d.2.1 d.2.2) r.l r.s r.z) HR2.out _).mono ?_
 rw [HX.out]
 rintro e w2 ⟨rfl, hb⟩
 have HV4 := hid (HV3.out.below hb)
 clear hb HV3 c0 c1 c2 c3 c4 c5 c6 c7 c8 c9
 go_wp2_with (first | ((with_reducible refine pvs HV4.out 2 53 [.int .u64 x.a.t, .int .u32 x.a.r, .int .u32 x.a.v, .int .i64 x.a.i, .int .u64 x.a.u, .int .u32 x.a.s, .int .u32 x.a.y, .int .u64 x.l, .int .u64 x.s, .bool x.z] infoReq 4 15 (w.heap.size + 2) (Rq.no.cells) 0 ?vs505); (intro W2 hW2); (have HV5 := hid hW2); (clear hW2 HV4)) | fail)
 obtain ⟨z0, z1, z2, z3, z4, z5, z6, z7, z8, z9⟩ := Rq.at x (HV5.out.cs 2 rfl)
 go_wp2_with fail
 refine bodyPost_ret (v := .tuple #[Rq.val x, .bool b]) (by simp [results, Tryz.results78, go_sem, z0, z1, z2, z3, z4, z5, z6, z7, z8, z9]) rfl ⟨rfl, HV5.out.bel⟩
theorem Req.new (p : P3) (hp : PIn p) (id n : Int) (hi : -9223372036854775808 ≤ id ∧ id ≤ 9223372036854775807) (hn : IsT n) (w : World) : Calls Tryz.prog 27 #[pv p, .int .i64 id, .int .u64 n] w (Ans (.tuple #[Rq.val (Rq.new p id n).1, .bool (Rq.new p id n).2]) w) := by
 have HP := hid hp
 have HR0 : Hid (Rq.In (Rq.mk (It.mk 0 0 0 id 0 0 0) n n false)) := hid ⟨by unfold It.In; simp only; omega, hn, hn⟩
 clear hp hi hn
 obtain ⟨⟨x, b⟩, hx⟩ : ∃ x, Rq.new p id n = x := ⟨_, rfl⟩
 have HX : Hid (Rq.whr (Rq.from_ (Rq.mk (It.mk 0 0 0 id 0 0 0) n n false) p) = (x, b)) := hid hx
 rw [hx]
 clear hx
 have HV0 : Hid (VS w [(w.heap.size, (pcells p)), (w.heap.size + 1, Rq.no.cells)] ((w.alloc (.cells #[.int .u64 p.1, .int .u32 p.2.1, .int .u32 p.2.2] 27)).alloc (.cells #[.int .u64 0, .int .u32 0, .int .u32 0, .int .i64 0, .int .u64 0, .int .u32 0, .int .u32 0, .int .u64 0, .int .u64 0, .bool false] 53))) := hid (by have h := (((VS.nil w).new 27 (pcells p)).new 53 Rq.no.cells); (try simp only [World.size_alloc] at h); exact h)
 go_enter Tryz.func27, Tryz.ntmps27
 go_wp2_with fail
 generalize ((w.alloc (.cells #[.int .u64 p.1, .int .u32 p.2.1, .int .u32 p.2.2] 27)).alloc (.cells #[.int .u64 0, .int .u32 0, .int .u32 0, .int .i64 0, .int .u64 0, .int .u32 0, .int .u32 0, .int .u64 0, .int .u64 0, .bool false] 53)) = W0 at HV0 ⊢
 obtain ⟨p0, p1, p2⟩ := P3.at p (HV0.out.cs 0 rfl)
 go_wp2_with fail
 refine (Req.from_ (Rq.mk (It.mk 0 0 0 id 0 0 0) n n false) HR0.out p HP.out _).mono ?_
 rw [HX.out]
 rintro e w1 ⟨rfl, hb⟩
 have HV1 := hid (HV0.out.below hb)
 clear hb HV0 p0 p1 p2
 go_wp2_with (first | ((with_reducible refine pvs HV1.out 1 53 [.int .u64 x.a.t, .int .u32 x.a.r, .int .u32 x.a.v, .int .i64 x.a.i, .int .u64 x.a.u, .int .u32 x.a.s, .int .u32 x.a.y, .int .u64 x.l, .int .u64 x.s, .bool x.z] infoReq 6 15 (w.heap.size + 1) (Rq.no.cells) 0 ?vs506); (intro W2 hW2); (have HV2 := hid hW2); (clear hW2 HV1)) | fail)
 obtain ⟨z0, z1, z2, z3, z4, z5, z6, z7, z8, z9⟩ := Rq.at x (HV2.out.cs 1 rfl)
 go_wp2_with fail
 refine bodyPost_ret (v := .tuple #[Rq.val x, .bool b]) (by simp [results, Tryz.results27, go_sem, z0, z1, z2, z3, z4, z5, z6, z7, z8, z9]) rfl ⟨rfl, HV2.out.bel⟩
theorem Req.moved (r : Rq) (hr : r.In) (p : P3) (hp : PIn p) (w : World) : Calls Tryz.prog 30 #[r.val, pv p] w (Ans (.tuple #[Rq.val (r.moved p).1, .bool (r.moved p).2]) w) := by
 have HR := hid hr
 have HP := hid hp
 clear hr hp
 unfold Rq.moved
 cases h1 : r.right with
 | false =>
  rw [if_neg (by decide)]
  have H1 := hid h1
  clear h1
  unfold Rq.val
  have HV0 : Hid (VS w [(w.heap.size, r.cells), (w.heap.size + 1, (pcells p)), (w.heap.size + 2, Rq.no.cells)] (((w.alloc (.cells #[.int .u64 r.a.t, .int .u32 r.a.r, .int .u32 r.a.v, .int .i64 r.a.i, .int .u64 r.a.u, .int .u32 r.a.s, .int .u32 r.a.y, .int .u64 r.l, .int .u64 r.s, .bool r.z] 53)).alloc (.cells #[.int .u64 p.1, .int .u32 p.2.1, .int .u32 p.2.2] 27)).alloc (.cells #[.int .u64 0, .int .u32 0, .int .u32 0, .int .i64 0, .int .u64 0, .int .u32 0, .int .u32 0, .int .u64 0, .int .u64 0, .bool false] 53))) := hid (by have h := ((((VS.nil w).new 53 r.cells).new 27 (pcells p)).new 53 Rq.no.cells); (try simp only [World.size_alloc] at h); exact h)
  go_enter Tryz.func30, Tryz.ntmps30
  go_wp2_with fail
  generalize (((w.alloc (.cells #[.int .u64 r.a.t, .int .u32 r.a.r, .int .u32 r.a.v, .int .i64 r.a.i, .int .u64 r.a.u, .int .u32 r.a.s, .int .u32 r.a.y, .int .u64 r.l, .int .u64 r.s, .bool r.z] 53)).alloc (.cells #[.int .u64 p.1, .int .u32 p.2.1, .int .u32 p.2.2] 27)).alloc (.cells #[.int .u64 0, .int .u32 0, .int .u32 0, .int .i64 0, .int .u64 0, .int .u32 0, .int .u32 0, .int .u64 0, .int .u64 0, .bool false] 53)) = W0 at HV0 ⊢
  obtain ⟨c0, c1, c2, c3, c4, c5, c6, c7, c8, c9⟩ := Rq.at r (HV0.out.cs 0 rfl)
  go_wp2_with fail
  refine (Req.right r HR.out _).mono ?_
  rintro e w1 ⟨rfl, hb⟩
  rw [H1.out]
  have HV1 := hid (HV0.out.below hb)
  clear hb HV0 
  clear c0 c1 c2 c3 c4 c5 c6 c7 c8 c9
  go_wp2_with (first | ((with_reducible refine pvs HV1.out 2 53 [.int .u64 0, .int .u32 0, .int .u32 0, .int .i64 0, .int .u64 0, .int .u32 0, .int .u32 0, .int .u64 0, .int .u64 0, .bool false] infoReq 4 9 (w.heap.size + 2) (Rq.no.cells) 0 ?vs507); (intro W2 hW2); (have HV2 := hid hW2); (clear hW2 HV1)) | fail)
  obtain ⟨z0, z1, z2, z3, z4, z5, z6, z7, z8, z9⟩ := Rq.at Rq.no (HV2.out.cs 2 rfl)
  go_wp2_with fail
  refine bodyPost_ret (v := .tuple #[Rq.val Rq.no, .bool false]) (by simp [results, Tryz.results30, go_sem, z0, z1, z2, z3, z4, z5, z6, z7, z8, z9]) rfl ⟨rfl, HV2.out.bel⟩
 | true =>
  rw [if_pos rfl]
  have H1 := hid h1
  clear h1
  obtain ⟨⟨x, b⟩, hx⟩ : ∃ x, (r.from_ p).whr = x := ⟨_, rfl⟩
  have HX := hid hx
  rw [hx]
  clear hx
  unfold Rq.val
  have HV0 : Hid (VS w [(w.heap.size, r.cells), (w.heap.size + 1, (pcells p)), (w.heap.size + 2, Rq.no.cells)] (((w.alloc (.cells #[.int .u64 r.a.t, .int .u32 r.a.r, .int .u32 r.a.v, .int .i64 r.a.i, .int .u64 r.a.u, .int .u32 r.a.s, .int .u32 r.a.y, .int .u64 r.l, .int .u64 r.s, .bool r.z] 53)).alloc (.cells #[.int .u64 p.1, .int .u32 p.2.1, .int .u32 p.2.2] 27)).alloc (.cells #[.int .u64 0, .int .u32 0, .int .u32 0, .int .i64 0, .int .u64 0, .int .u32 0, .int .u32 0, .int .u64 0, .int .u64 0, .bool false] 53))) := hid (by have h := ((((VS.nil w).new 53 r.cells).new 27 (pcells p)).new 53 Rq.no.cells); (try simp only [World.size_alloc] at h); exact h)
  go_enter Tryz.func30, Tryz.ntmps30
  go_wp2_with fail
  generalize (((w.alloc (.cells #[.int .u64 r.a.t, .int .u32 r.a.r, .int .u32 r.a.v, .int .i64 r.a.i, .int .u64 r.a.u, .int .u32 r.a.s, .int .u32 r.a.y, .int .u64 r.l, .int .u64 r.s, .bool r.z] 53)).alloc (.cells #[.int .u64 p.1, .int .u32 p.2.1, .int .u32 p.2.2] 27)).alloc (.cells #[.int .u64 0, .int .u32 0, .int .u32 0, .int .i64 0, .int .u64 0, .int .u32 0, .int .u32 0, .int .u64 0, .int .u64 0, .bool false] 53)) = W0 at HV0 ⊢
  obtain ⟨c0, c1, c2, c3, c4, c5, c6, c7, c8, c9⟩ := Rq.at r (HV0.out.cs 0 rfl)
  go_wp2_with fail
  refine (Req.right r HR.out _).mono ?_
  rintro e w1 ⟨rfl, hb⟩
  rw [H1.out]
  have HV1 := hid (HV0.out.below hb)
  clear hb HV0 
  clear c0 c1 c2 c3 c4 c5 c6 c7 c8 c9
  obtain ⟨c0, c1, c2, c3, c4, c5, c6, c7, c8, c9⟩ := Rq.at r (HV1.out.cs 0 rfl)
  obtain ⟨p0, p1, p2⟩ := P3.at p (HV1.out.cs 1 rfl)
  go_wp2_with fail
  refine (Req.from_ r HR.out p HP.out _).mono ?_
  rw [HX.out]
  rintro e w2 ⟨rfl, hb⟩
  have HV2 := hid (HV1.out.below hb)
  clear hb HV1 c0 c1 c2 c3 c4 c5 c6 c7 c8 c9 p0 p1 p2
  go_wp2_with (first | ((with_reducible refine pvs HV2.out 2 53 [.int .u64 x.a.t, .int .u32 x.a.r, .int .u32 x.a.v, .int .i64 x.a.i, .int .u64 x.a.u, .int .u32 x.a.s, .int .u32 x.a.y, .int .u64 x.l, .int .u64 x.s, .bool x.z] infoReq 4 13 (w.heap.size + 2) (Rq.no.cells) 0 ?vs508); (intro W2 hW2); (have HV3 := hid hW2); (clear hW2 HV2)) | fail)
  obtain ⟨z0, z1, z2, z3, z4, z5, z6, z7, z8, z9⟩ := Rq.at x (HV3.out.cs 2 rfl)
  go_wp2_with fail
  refine bodyPost_ret (v := .tuple #[Rq.val x, .bool b]) (by simp [results, Tryz.results30, go_sem, z0, z1, z2, z3, z4, z5, z6, z7, z8, z9]) rfl ⟨rfl, HV3.out.bel⟩
theorem Req.sliced (r : Rq) (hr : r.In) (n : Int) (hn : IsT n) (w : World) : Calls Tryz.prog 33 #[r.val, .int .u64 n] w (Ans (.tuple #[Rq.val (r.sliced n).1, .bool (r.sliced n).2]) w) := by
 have HR := hid hr
 have HR3 : Hid (Rq.In (Rq.mk r.a r.l n r.z)) := hid ⟨hr.1, hr.2.1, hn⟩
 clear hr hn
 unfold Rq.sliced
 cases h1 : r.right with
 | false =>
  rw [if_neg (by decide)]
  have H1 := hid h1
  clear h1
  unfold Rq.val
  have HV0 : Hid (VS w [(w.heap.size, r.cells), (w.heap.size + 1, Rq.no.cells)] ((w.alloc (.cells #[.int .u64 r.a.t, .int .u32 r.a.r, .int .u32 r.a.v, .int .i64 r.a.i, .int .u64 r.a.u, .int .u32 r.a.s, .int .u32 r.a.y, .int .u64 r.l, .int .u64 r.s, .bool r.z] 53)).alloc (.cells #[.int .u64 0, .int .u32 0, .int .u32 0, .int .i64 0, .int .u64 0, .int .u32 0, .int .u32 0, .int .u64 0, .int .u64 0, .bool false] 53))) := hid (by have h := (((VS.nil w).new 53 r.cells).new 53 Rq.no.cells); (try simp only [World.size_alloc] at h); exact h)
  go_enter Tryz.func33, Tryz.ntmps33
  go_wp2_with fail
  generalize ((w.alloc (.cells #[.int .u64 r.a.t, .int .u32 r.a.r, .int .u32 r.a.v, .int .i64 r.a.i, .int .u64 r.a.u, .int .u32 r.a.s, .int .u32 r.a.y, .int .u64 r.l, .int .u64 r.s, .bool r.z] 53)).alloc (.cells #[.int .u64 0, .int .u32 0, .int .u32 0, .int .i64 0, .int .u64 0, .int .u32 0, .int .u32 0, .int .u64 0, .int .u64 0, .bool false] 53)) = W0 at HV0 ⊢
  obtain ⟨c0, c1, c2, c3, c4, c5, c6, c7, c8, c9⟩ := Rq.at r (HV0.out.cs 0 rfl)
  go_wp2_with fail
  refine (Req.right r HR.out _).mono ?_
  rintro e w1 ⟨rfl, hb⟩
  rw [H1.out]
  have HV1 := hid (HV0.out.below hb)
  clear hb HV0 
  clear c0 c1 c2 c3 c4 c5 c6 c7 c8 c9
  go_wp2_with (first | ((with_reducible refine pvs HV1.out 1 53 [.int .u64 0, .int .u32 0, .int .u32 0, .int .i64 0, .int .u64 0, .int .u32 0, .int .u32 0, .int .u64 0, .int .u64 0, .bool false] infoReq 4 9 (w.heap.size + 1) (Rq.no.cells) 0 ?vs509); (intro W2 hW2); (have HV2 := hid hW2); (clear hW2 HV1)) | fail)
  obtain ⟨z0, z1, z2, z3, z4, z5, z6, z7, z8, z9⟩ := Rq.at Rq.no (HV2.out.cs 1 rfl)
  go_wp2_with fail
  refine bodyPost_ret (v := .tuple #[Rq.val Rq.no, .bool false]) (by simp [results, Tryz.results33, go_sem, z0, z1, z2, z3, z4, z5, z6, z7, z8, z9]) rfl ⟨rfl, HV2.out.bel⟩
 | true =>
  rw [if_pos rfl]
  have H1 := hid h1
  clear h1
  obtain ⟨⟨x, b⟩, hx⟩ : ∃ x, Rq.whr (Rq.mk r.a r.l n r.z) = x := ⟨_, rfl⟩
  have HX := hid hx
  rw [hx]
  clear hx
  unfold Rq.val
  have HV0 : Hid (VS w [(w.heap.size, r.cells), (w.heap.size + 1, Rq.no.cells)] ((w.alloc (.cells #[.int .u64 r.a.t, .int .u32 r.a.r, .int .u32 r.a.v, .int .i64 r.a.i, .int .u64 r.a.u, .int .u32 r.a.s, .int .u32 r.a.y, .int .u64 r.l, .int .u64 r.s, .bool r.z] 53)).alloc (.cells #[.int .u64 0, .int .u32 0, .int .u32 0, .int .i64 0, .int .u64 0, .int .u32 0, .int .u32 0, .int .u64 0, .int .u64 0, .bool false] 53))) := hid (by have h := (((VS.nil w).new 53 r.cells).new 53 Rq.no.cells); (try simp only [World.size_alloc] at h); exact h)
  go_enter Tryz.func33, Tryz.ntmps33
  go_wp2_with fail
  generalize ((w.alloc (.cells #[.int .u64 r.a.t, .int .u32 r.a.r, .int .u32 r.a.v, .int .i64 r.a.i, .int .u64 r.a.u, .int .u32 r.a.s, .int .u32 r.a.y, .int .u64 r.l, .int .u64 r.s, .bool r.z] 53)).alloc (.cells #[.int .u64 0, .int .u32 0, .int .u32 0, .int .i64 0, .int .u64 0, .int .u32 0, .int .u32 0, .int .u64 0, .int .u64 0, .bool false] 53)) = W0 at HV0 ⊢
  obtain ⟨c0, c1, c2, c3, c4, c5, c6, c7, c8, c9⟩ := Rq.at r (HV0.out.cs 0 rfl)
  go_wp2_with fail
  refine (Req.right r HR.out _).mono ?_
  rintro e w1 ⟨rfl, hb⟩
  rw [H1.out]
  have HV1 := hid (HV0.out.below hb)
  clear hb HV0 
  clear c0 c1 c2 c3 c4 c5 c6 c7 c8 c9
  obtain ⟨c0, c1, c2, c3, c4, c5, c6, c7, c8, c9⟩ := Rq.at r (HV1.out.cs 0 rfl)
  have f8 := (HV1.out.cs 0 rfl 8 _ rfl).2
  go_wp2_with fail
  refine (Req.whr (Rq.mk r.a r.l n r.z) HR3.out _).mono ?_
  rw [HX.out]
  rintro e w2 ⟨rfl, hb⟩
  have HV2 : Hid (VS w [(w.heap.size, (Rq.mk r.a r.l n r.z).cells), (w.heap.size + 1, Rq.no.cells)] w2) := hid ((HV1.out.put1 0 rfl 8 (.int .u64 n) (of_decide_eq_true rfl)).below hb)
  clear hb HV1 f8 c0 c1 c2 c3 c4 c5 c6 c7 c8 c9
  go_wp2_with (first | ((with_reducible refine pvs HV2.out 1 53 [.int .u64 x.a.t, .int .u32 x.a.r, .int .u32 x.a.v, .int .i64 x.a.i, .int .u64 x.a.u, .int .u32 x.a.s, .int .u32 x.a.y, .int .u64 x.l, .int .u64 x.s, .bool x.z] infoReq 4 14 (w.heap.size + 1) (Rq.no.cells) 0 ?vs510); (intro W2 hW2); (have HV3 := hid hW2); (clear hW2 HV2)) | fail)
  obtain ⟨z0, z1, z2, z3, z4, z5, z6, z7, z8, z9⟩ := Rq.at x (HV3.out.cs 1 rfl)
  go_wp2_with fail
  refine bodyPost_ret (v := .tuple #[Rq.val x, .bool b]) (by simp [results, Tryz.results33, go_sem, z0, z1, z2, z3, z4, z5, z6, z7, z8, z9]) rfl ⟨rfl, HV3.out.bel⟩
end


section
open Go.RowKit
set_option maxRecDepth 100000
set_option maxHeartbeats 32000000
theorem served_eq {x y : Rq} {m k : Int} {b c : Bool} (h : (x, m, b) = (y, k, c)) : x = y ∧ m = k ∧ b = c := by
 injection h with h1 h2
 injection h2 with h2 h3
 exact ⟨h1, h2, h3⟩
theorem Req.serve (r : Rq) (hr : r.In) (n : Int) (hn : IsT n) (w : World) : Calls Tryz.prog 37 #[r.val, .int .u64 n] w (Ans (.tuple #[Rq.val (r.serve n).1, .bool (r.serve n).2.1, .bool (r.serve n).2.2]) w) := by
 have HR := hid hr
 have HN := hid hn
 unfold Rq.serve
 cases h1 : r.right with
 | false =>
  have E : Hid (r.srvOk n = false) := hid (by unfold Rq.srvOk; rw [h1]; rfl)
  rw [E.out, if_neg (by decide)]
  have H1 := hid h1
  clear h1 hr hn
  unfold Rq.val
  have HV0 : Hid (VS w [(w.heap.size, r.cells), (w.heap.size + 1, Rq.no.cells)] ((w.alloc (.cells #[.int .u64 r.a.t, .int .u32 r.a.r, .int .u32 r.a.v, .int .i64 r.a.i, .int .u64 r.a.u, .int .u32 r.a.s, .int .u32 r.a.y, .int .u64 r.l, .int .u64 r.s, .bool r.z] 53)).alloc (.cells #[.int .u64 0, .int .u32 0, .int .u32 0, .int .i64 0, .int .u64 0, .int .u32 0, .int .u32 0, .int .u64 0, .int .u64 0, .bool false] 53))) := hid (by have h := (((VS.nil w).new 53 r.cells).new 53 Rq.no.cells); (try simp only [World.size_alloc] at h); exact h)
  go_enter Tryz.func37, Tryz.ntmps37
  go_wp2_with fail
  generalize ((w.alloc (.cells #[.int .u64 r.a.t, .int .u32 r.a.r, .int .u32 r.a.v, .int .i64 r.a.i, .int .u64 r.a.u, .int .u32 r.a.s, .int .u32 r.a.y, .int .u64 r.l, .int .u64 r.s, .bool r.z] 53)).alloc (.cells #[.int .u64 0, .int .u32 0, .int .u32 0, .int .i64 0, .int .u64 0, .int .u32 0, .int .u32 0, .int .u64 0, .int .u64 0, .bool false] 53)) = W0 at HV0 ⊢
  obtain ⟨c0, c1, c2, c3, c4, c5, c6, c7, c8, c9⟩ := Rq.at r (HV0.out.cs 0 rfl)
  go_wp2_with fail
  refine (Req.right r HR.out _).mono ?_
  rintro e w1 ⟨rfl, hb⟩
  rw [H1.out]
  have HV1 := hid (HV0.out.below hb)
  clear hb HV0 
  clear c0 c1 c2 c3 c4 c5 c6 c7 c8 c9
  obtain ⟨c0, c1, c2, c3, c4, c5, c6, c7, c8, c9⟩ := Rq.at r (HV1.out.cs 0 rfl)
  go_wp2_with (first | ((with_reducible refine pvs HV1.out 1 53 [.int .u64 0, .int .u32 0, .int .u32 0, .int .i64 0, .int .u64 0, .int .u32 0, .int .u32 0, .int .u64 0, .int .u64 0, .bool false] infoReq 4 24 (w.heap.size + 1) (Rq.no.cells) 0 ?vs1501); (intro W2 hW2); (have HV2 := hid hW2); (clear hW2 HV1)) | fail)
  obtain ⟨z0, z1, z2, z3, z4, z5, z6, z7, z8, z9⟩ := Rq.at Rq.no (HV2.out.cs 1 rfl)
  go_wp2_with fail
  refine bodyPost_ret (v := .tuple #[Rq.val Rq.no, .bool false, .bool false]) (by simp [results, Tryz.results37, go_sem, z0, z1, z2, z3, z4, z5, z6, z7, z8, z9]) rfl ⟨rfl, HV2.out.bel⟩
 | true =>
  have H1 := hid h1
  by_cases h2 : n = 0
  ·have E : Hid (r.srvOk n = false) := hid (by unfold Rq.srvOk; rw [h1, h2]; simp)
   rw [E.out, if_neg (by decide)]
   have C1 : Hid ((n == 0) = true) := hid (by rw [h2]; rfl)
   clear h1 h2 hr hn
   unfold Rq.val
   have HV0 : Hid (VS w [(w.heap.size, r.cells), (w.heap.size + 1, Rq.no.cells)] ((w.alloc (.cells #[.int .u64 r.a.t, .int .u32 r.a.r, .int .u32 r.a.v, .int .i64 r.a.i, .int .u64 r.a.u, .int .u32 r.a.s, .int .u32 r.a.y, .int .u64 r.l, .int .u64 r.s, .bool r.z] 53)).alloc (.cells #[.int .u64 0, .int .u32 0, .int .u32 0, .int .i64 0, .int .u64 0, .int .u32 0, .int .u32 0, .int .u64 0, .int .u64 0, .bool false] 53))) := hid (by have h := (((VS.nil w).new 53 r.cells).new 53 Rq.no.cells); (try simp only [World.size_alloc] at h); exact h)
   go_enter Tryz.func37, Tryz.ntmps37
   go_wp2_with fail
   generalize ((w.alloc (.cells #[.int .u64 r.a.t, .int .u32 r.a.r, .int .u32 r.a.v, .int .i64 r.a.i, .int .u64 r.a.u, .int .u32 r.a.s, .int .u32 r.a.y, .int .u64 r.l, .int .u64 r.s, .bool r.z] 53)).alloc (.cells #[.int .u64 0, .int .u32 0, .int .u32 0, .int .i64 0, .int .u64 0, .int .u32 0, .int .u32 0, .int .u64 0, .int .u64 0, .bool false] 53)) = W0 at HV0 ⊢
   obtain ⟨c0, c1, c2, c3, c4, c5, c6, c7, c8, c9⟩ := Rq.at r (HV0.out.cs 0 rfl)
   go_wp2_with fail
   refine (Req.right r HR.out _).mono ?_
   rintro e w1 ⟨rfl, hb⟩
   rw [H1.out]
   have HV1 := hid (HV0.out.below hb)
   clear hb HV0 
   clear c0 c1 c2 c3 c4 c5 c6 c7 c8 c9
   obtain ⟨c0, c1, c2, c3, c4, c5, c6, c7, c8, c9⟩ := Rq.at r (HV1.out.cs 0 rfl)
   have k11 := C1.out
   go_wp2_with (first | ((with_reducible refine pvs HV1.out 1 53 [.int .u64 0, .int .u32 0, .int .u32 0, .int .i64 0, .int .u64 0, .int .u32 0, .int .u32 0, .int .u64 0, .int .u64 0, .bool false] infoReq 4 24 (w.heap.size + 1) (Rq.no.cells) 0 ?vs1502); (intro W2 hW2); (have HV2 := hid hW2); (clear hW2 HV1)) | fail)
   obtain ⟨z0, z1, z2, z3, z4, z5, z6, z7, z8, z9⟩ := Rq.at Rq.no (HV2.out.cs 1 rfl)
   go_wp2_with fail
   refine bodyPost_ret (v := .tuple #[Rq.val Rq.no, .bool false, .bool false]) (by simp [results, Tryz.results37, go_sem, z0, z1, z2, z3, z4, z5, z6, z7, z8, z9]) rfl ⟨rfl, HV2.out.bel⟩
  ·have C1 : Hid ((n == 0) = false) := hid (by simpa using h2)
   have C1' := hid h2
   by_cases h3 : r.l < n
   ·have E : Hid (r.srvOk n = false) := hid (by unfold Rq.srvOk; rw [h1]; simp; omega)
    rw [E.out, if_neg (by decide)]
    have C2 := hid h3
    clear h1 h2 h3 hr hn C1'
    unfold Rq.val
    have HV0 : Hid (VS w [(w.heap.size, r.cells), (w.heap.size + 1, Rq.no.cells)] ((w.alloc (.cells #[.int .u64 r.a.t, .int .u32 r.a.r, .int .u32 r.a.v, .int .i64 r.a.i, .int .u64 r.a.u, .int .u32 r.a.s, .int .u32 r.a.y, .int .u64 r.l, .int .u64 r.s, .bool r.z] 53)).alloc (.cells #[.int .u64 0, .int .u32 0, .int .u32 0, .int .i64 0, .int .u64 0, .int .u32 0, .int .u32 0, .int .u64 0, .int .u64 0, .bool false] 53))) := hid (by have h := (((VS.nil w).new 53 r.cells).new 53 Rq.no.cells); (try simp only [World.size_alloc] at h); exact h)
    go_enter Tryz.func37, Tryz.ntmps37
    go_wp2_with fail
    generalize ((w.alloc (.cells #[.int .u64 r.a.t, .int .u32 r.a.r, .int .u32 r.a.v, .int .i64 r.a.i, .int .u64 r.a.u, .int .u32 r.a.s, .int .u32 r.a.y, .int .u64 r.l, .int .u64 r.s, .bool r.z] 53)).alloc (.cells #[.int .u64 0, .int .u32 0, .int .u32 0, .int .i64 0, .int .u64 0, .int .u32 0, .int .u32 0, .int .u64 0, .int .u64 0, .bool false] 53)) = W0 at HV0 ⊢
    obtain ⟨c0, c1, c2, c3, c4, c5, c6, c7, c8, c9⟩ := Rq.at r (HV0.out.cs 0 rfl)
    go_wp2_with fail
    refine (Req.right r HR.out _).mono ?_
    rintro e w1 ⟨rfl, hb⟩
    rw [H1.out]
    have HV1 := hid (HV0.out.below hb)
    clear hb HV0 
    clear c0 c1 c2 c3 c4 c5 c6 c7 c8 c9
    obtain ⟨c0, c1, c2, c3, c4, c5, c6, c7, c8, c9⟩ := Rq.at r (HV1.out.cs 0 rfl)
    have k11 := C1.out
    have k12 := C2.out
    go_wp2_with (first | ((with_reducible refine pvs HV1.out 1 53 [.int .u64 0, .int .u32 0, .int .u32 0, .int .i64 0, .int .u64 0, .int .u32 0, .int .u32 0, .int .u64 0, .int .u64 0, .bool false] infoReq 4 24 (w.heap.size + 1) (Rq.no.cells) 0 ?vs1503); (intro W2 hW2); (have HV2 := hid hW2); (clear hW2 HV1)) | fail)
    obtain ⟨z0, z1, z2, z3, z4, z5, z6, z7, z8, z9⟩ := Rq.at Rq.no (HV2.out.cs 1 rfl)
    go_wp2_with fail
    refine bodyPost_ret (v := .tuple #[Rq.val Rq.no, .bool false, .bool false]) (by simp [results, Tryz.results37, go_sem, z0, z1, z2, z3, z4, z5, z6, z7, z8, z9]) rfl ⟨rfl, HV2.out.bel⟩
   ·have C2 := hid h3
    have HB : Hid (1 ≤ n ∧ n ≤ r.l) := hid (by unfold IsT at hn; omega)
    have E : Hid (r.srvOk n = true) := hid (by unfold Rq.srvOk; rw [h1]; simp; exact HB.out)
    rw [E.out, if_pos rfl]
    obtain ⟨p, hp⟩ : ∃ p, dueP (r.a.t, r.a.r, r.a.v) n = p := ⟨_, rfl⟩
    have HPI : Hid (PIn p) := hid (by rw [← hp]; exact dueP_in (Rq.pp_in hr) n)
    have HP := hid hp
    have E2 : Hid (IntKind.u64.wrap (r.l - n) = r.l - n) := hid (by have := HB.out; have := hr.2.1; unfold IsT at this; rw [IntKind.wrap_u64]; omega)
    obtain ⟨⟨x, b⟩, hx⟩ : ∃ x, (r.went n).whr = x := ⟨_, rfl⟩
    rw [hx]
    cases h4 : decide (r.l = n) with
    | true =>
     have h5 : r.l = n := of_decide_eq_true h4
     have C3 : Hid ((r.l - n == 0) = true) := hid (by rw [h5]; simp)
     have HR5 : Hid (Rq.In (Rq.mk r.a r.s r.s r.z)) := hid ⟨hr.1, hr.2.2, hr.2.2⟩
     have HX : Hid (Rq.whr (Rq.from_ (Rq.mk r.a r.s r.s r.z) p) = (x, b)) := hid (by rw [← hx, ← hp]; unfold Rq.went Rq.left; rw [if_pos h5]; rfl)
     clear h1 h2 h3 h4 h5 hr hn hp hx C1'
     unfold Rq.val
     have HV0 : Hid (VS w [(w.heap.size, r.cells), (w.heap.size + 1, Rq.no.cells)] ((w.alloc (.cells #[.int .u64 r.a.t, .int .u32 r.a.r, .int .u32 r.a.v, .int .i64 r.a.i, .int .u64 r.a.u, .int .u32 r.a.s, .int .u32 r.a.y, .int .u64 r.l, .int .u64 r.s, .bool r.z] 53)).alloc (.cells #[.int .u64 0, .int .u32 0, .int .u32 0, .int .i64 0, .int .u64 0, .int .u32 0, .int .u32 0, .int .u64 0, .int .u64 0, .bool false] 53))) := hid (by have h := (((VS.nil w).new 53 r.cells).new 53 Rq.no.cells); (try simp only [World.size_alloc] at h); exact h)
     go_enter Tryz.func37, Tryz.ntmps37
     go_wp2_with fail
     generalize ((w.alloc (.cells #[.int .u64 r.a.t, .int .u32 r.a.r, .int .u32 r.a.v, .int .i64 r.a.i, .int .u64 r.a.u, .int .u32 r.a.s, .int .u32 r.a.y, .int .u64 r.l, .int .u64 r.s, .bool r.z] 53)).alloc (.cells #[.int .u64 0, .int .u32 0, .int .u32 0, .int .i64 0, .int .u64 0, .int .u32 0, .int .u32 0, .int .u64 0, .int .u64 0, .bool false] 53)) = W0 at HV0 ⊢
     obtain ⟨c0, c1, c2, c3, c4, c5, c6, c7, c8, c9⟩ := Rq.at r (HV0.out.cs 0 rfl)
     go_wp2_with fail
     refine (Req.right r HR.out _).mono ?_
     rintro e w1 ⟨rfl, hb⟩
     rw [H1.out]
     have HV1 := hid (HV0.out.below hb)
     clear hb HV0 
     clear c0 c1 c2 c3 c4 c5 c6 c7 c8 c9
     obtain ⟨c0, c1, c2, c3, c4, c5, c6, c7, c8, c9⟩ := Rq.at r (HV1.out.cs 0 rfl)
     have k11 := C1.out
     have k12 := C2.out
     have e1 : IntKind.u64.wrap (1048576 * n) = gw n := rfl
     go_wp2_with fail
     refine (Pos.moveD r.a.t r.a.r r.a.v n (Rq.pp_in HR.out) _).mono ?_
     rw [HP.out]
     rintro e w2 ⟨rfl, hb⟩
     have HV2 := hid (HV1.out.below hb)
     clear hb HV1 e1 k11 k12 c0 c1 c2 c3 c4 c5 c6 c7 c8 c9
     have HV3 : Hid (VS w _ (w2.alloc (.cells #[.int .u64 0, .int .u32 0, .int .u32 0] 27))) := hid (HV2.out.new 27 [.int .u64 0, .int .u32 0, .int .u32 0])
     clear HV2
     have e2 : IntKind.u64.wrap (r.l - n) = r.l - n := E2.out
     go_upto_region 5 with (first | ((with_reducible refine pvs HV3.out 2 27 [.int .u64 p.1, .int .u32 p.2.1, .int .u32 p.2.2] infoPos 7 32 (w2.heap.size) ([.int .u64 0, .int .u32 0, .int .u32 0]) 0 ?vs1504); (intro W2 hW2); (have HV4 := hid hW2); (clear hW2 HV3); (obtain ⟨c0, c1, c2, c3, c4, c5, c6, c7, c8, c9⟩ := Rq.at r (HV4.out.cs 0 rfl)); (have f7 := (HV4.out.cs 0 rfl 7 _ rfl).2)) | fail)
     obtain ⟨W3, hW3⟩ : ∃ W3, W3 = W2.setCell ⟨w.heap.size, 7, none⟩ (.int .u64 (r.l - n)) := ⟨_, rfl⟩
     have HV5 : Hid (VS w [(w.heap.size, (Rq.mk r.a (r.l - n) r.s r.z).cells), (w.heap.size + 1, Rq.no.cells), (w2.heap.size, [.int .u64 p.1, .int .u32 p.2.1, .int .u32 p.2.2])] W3) := hid (by rw [hW3]; exact HV4.out.put1 0 rfl 7 (.int .u64 (r.l - n)) (of_decide_eq_true rfl))
     rw [← hW3]
     clear hW3 HV4 e2 f7 c0 c1 c2 c3 c4 c5 c6 c7 c8 c9
     obtain ⟨c0, c1, c2, c3, c4, c5, c6, c7, c8, c9⟩ := Rq.at (Rq.mk r.a (r.l - n) r.s r.z) (HV5.out.cs 0 rfl)
     have k3 := C3.out
     have f7 := (HV5.out.cs 0 rfl 7 _ rfl).2
     go_upto_region 8 with fail
     obtain ⟨W4, hW4⟩ : ∃ W4, W4 = W3.setCell ⟨w.heap.size, 7, none⟩ (.int .u64 r.s) := ⟨_, rfl⟩
     have HV6 : Hid (VS w [(w.heap.size, (Rq.mk r.a r.s r.s r.z).cells), (w.heap.size + 1, Rq.no.cells), (w2.heap.size, [.int .u64 p.1, .int .u32 p.2.1, .int .u32 p.2.2])] W4) := hid (by rw [hW4]; exact HV5.out.put1 0 rfl 7 (.int .u64 r.s) (of_decide_eq_true rfl))
     rw [← hW4]
     clear hW4 HV5 k3 f7 c0 c1 c2 c3 c4 c5 c6 c7 c8 c9
     obtain ⟨c0, c1, c2, c3, c4, c5, c6, c7, c8, c9⟩ := Rq.at (Rq.mk r.a r.s r.s r.z) (HV6.out.cs 0 rfl)
     obtain ⟨p0, p1, p2⟩ := P3.at p (HV6.out.cs 2 rfl)
     go_wp2_with fail
     refine (Req.from_ (Rq.mk r.a r.s r.s r.z) HR5.out p HPI.out _).mono ?_
     rw [HX.out]
     rintro e w3 ⟨rfl, hb⟩
     have HV7 := hid (HV6.out.below hb)
     clear hb HV6 c0 c1 c2 c3 c4 c5 c6 c7 c8 c9 p0 p1 p2
     go_wp2_with (first | ((with_reducible refine pvs HV7.out 0 53 [.int .u64 x.a.t, .int .u32 x.a.r, .int .u32 x.a.v, .int .i64 x.a.i, .int .u64 x.a.u, .int .u32 x.a.s, .int .u32 x.a.y, .int .u64 x.l, .int .u64 x.s, .bool x.z] infoReq 2 50 (w.heap.size) ((Rq.mk r.a r.s r.s r.z).cells) 0 ?vs1505); (intro W2 hW2); (have HV8 := hid hW2); (clear hW2 HV7); (obtain ⟨c0, c1, c2, c3, c4, c5, c6, c7, c8, c9⟩ := Rq.at x (HV8.out.cs 0 rfl))) | ((with_reducible refine pvs HV8.out 1 53 [.int .u64 x.a.t, .int .u32 x.a.r, .int .u32 x.a.v, .int .i64 x.a.i, .int .u64 x.a.u, .int .u32 x.a.s, .int .u32 x.a.y, .int .u64 x.l, .int .u64 x.s, .bool x.z] infoReq 4 52 (w.heap.size + 1) (Rq.no.cells) 0 ?vs1506); (intro W2 hW2); (have HV9 := hid hW2); (clear hW2 HV8); (clear c0 c1 c2 c3 c4 c5 c6 c7 c8 c9)) | fail)
     obtain ⟨z0, z1, z2, z3, z4, z5, z6, z7, z8, z9⟩ := Rq.at x (HV9.out.cs 1 rfl)
     go_wp2_with fail
     refine bodyPost_ret (v := .tuple #[Rq.val x, .bool b, .bool b]) (by simp [results, Tryz.results37, go_sem, z0, z1, z2, z3, z4, z5, z6, z7, z8, z9]) rfl ⟨rfl, HV9.out.bel⟩
    | false =>
     have h5 : ¬ r.l = n := of_decide_eq_false h4
     have C3 : Hid ((r.l - n == 0) = false) := hid (by simp; omega)
     have HR5 : Hid (Rq.In (Rq.mk r.a (r.l - n) r.s r.z)) := hid ⟨hr.1, show IsT (r.l - n) by have := HB.out; have := hr.2.1; unfold IsT at *; omega, hr.2.2⟩
     have HX : Hid (Rq.whr (Rq.from_ (Rq.mk r.a (r.l - n) r.s r.z) p) = (x, b)) := hid (by rw [← hx, ← hp]; unfold Rq.went Rq.left; rw [if_neg h5]; rfl)
     clear h1 h2 h3 h4 h5 hr hn hp hx C1'
     unfold Rq.val
     have HV0 : Hid (VS w [(w.heap.size, r.cells), (w.heap.size + 1, Rq.no.cells)] ((w.alloc (.cells #[.int .u64 r.a.t, .int .u32 r.a.r, .int .u32 r.a.v, .int .i64 r.a.i, .int .u64 r.a.u, .int .u32 r.a.s, .int .u32 r.a.y, .int .u64 r.l, .int .u64 r.s, .bool r.z] 53)).alloc (.cells #[.int .u64 0, .int .u32 0, .int .u32 0, .int .i64 0, .int .u64 0, .int .u32 0, .int .u32 0, .int .u64 0, .int .u64 0, .bool false] 53))) := hid (by have h := (((VS.nil w).new 53 r.cells).new 53 Rq.no.cells); (try simp only [World.size_alloc] at h); exact h)
     go_enter Tryz.func37, Tryz.ntmps37
     go_wp2_with fail
     generalize ((w.alloc (.cells #[.int .u64 r.a.t, .int .u32 r.a.r, .int .u32 r.a.v, .int .i64 r.a.i, .int .u64 r.a.u, .int .u32 r.a.s, .int .u32 r.a.y, .int .u64 r.l, .int .u64 r.s, .bool r.z] 53)).alloc (.cells #[.int .u64 0, .int .u32 0, .int .u32 0, .int .i64 0, .int .u64 0, .int .u32 0, .int .u32 0, .int .u64 0, .int .u64 0, .bool false] 53)) = W0 at HV0 ⊢
     obtain ⟨c0, c1, c2, c3, c4, c5, c6, c7, c8, c9⟩ := Rq.at r (HV0.out.cs 0 rfl)
     go_wp2_with fail
     refine (Req.right r HR.out _).mono ?_
     rintro e w1 ⟨rfl, hb⟩
     rw [H1.out]
     have HV1 := hid (HV0.out.below hb)
     clear hb HV0 
     clear c0 c1 c2 c3 c4 c5 c6 c7 c8 c9
     obtain ⟨c0, c1, c2, c3, c4, c5, c6, c7, c8, c9⟩ := Rq.at r (HV1.out.cs 0 rfl)
     have k11 := C1.out
     have k12 := C2.out
     have e1 : IntKind.u64.wrap (1048576 * n) = gw n := rfl
     go_wp2_with fail
     refine (Pos.moveD r.a.t r.a.r r.a.v n (Rq.pp_in HR.out) _).mono ?_
     rw [HP.out]
     rintro e w2 ⟨rfl, hb⟩
     have HV2 := hid (HV1.out.below hb)
     clear hb HV1 e1 k11 k12 c0 c1 c2 c3 c4 c5 c6 c7 c8 c9
     have HV3 : Hid (VS w _ (w2.alloc (.cells #[.int .u64 0, .int .u32 0, .int .u32 0] 27))) := hid (HV2.out.new 27 [.int .u64 0, .int .u32 0, .int .u32 0])
     clear HV2
     have e2 : IntKind.u64.wrap (r.l - n) = r.l - n := E2.out
     go_upto_region 5 with (first | ((with_reducible refine pvs HV3.out 2 27 [.int .u64 p.1, .int .u32 p.2.1, .int .u32 p.2.2] infoPos 7 32 (w2.heap.size) ([.int .u64 0, .int .u32 0, .int .u32 0]) 0 ?vs1507); (intro W2 hW2); (have HV4 := hid hW2); (clear hW2 HV3); (obtain ⟨c0, c1, c2, c3, c4, c5, c6, c7, c8, c9⟩ := Rq.at r (HV4.out.cs 0 rfl)); (have f7 := (HV4.out.cs 0 rfl 7 _ rfl).2)) | fail)
     obtain ⟨W3, hW3⟩ : ∃ W3, W3 = W2.setCell ⟨w.heap.size, 7, none⟩ (.int .u64 (r.l - n)) := ⟨_, rfl⟩
     have HV5 : Hid (VS w [(w.heap.size, (Rq.mk r.a (r.l - n) r.s r.z).cells), (w.heap.size + 1, Rq.no.cells), (w2.heap.size, [.int .u64 p.1, .int .u32 p.2.1, .int .u32 p.2.2])] W3) := hid (by rw [hW3]; exact HV4.out.put1 0 rfl 7 (.int .u64 (r.l - n)) (of_decide_eq_true rfl))
     rw [← hW3]
     clear hW3 HV4 e2 f7 c0 c1 c2 c3 c4 c5 c6 c7 c8 c9
     obtain ⟨c0, c1, c2, c3, c4, c5, c6, c7, c8, c9⟩ := Rq.at (Rq.mk r.a (r.l - n) r.s r.z) (HV5.out.cs 0 rfl)
     have k3 := C3.out
     obtain ⟨p0, p1, p2⟩ := P3.at p (HV5.out.cs 2 rfl)
     go_wp2_with fail
     refine (Req.from_ (Rq.mk r.a (r.l - n) r.s r.z) HR5.out p HPI.out _).mono ?_
     rw [HX.out]
     rintro e w3 ⟨rfl, hb⟩
     have HV6 := hid (HV5.out.below hb)
     clear hb HV5 c0 c1 c2 c3 c4 c5 c6 c7 c8 c9 p0 p1 p2 k3
     go_wp2_with (first | ((with_reducible refine pvs HV6.out 0 53 [.int .u64 x.a.t, .int .u32 x.a.r, .int .u32 x.a.v, .int .i64 x.a.i, .int .u64 x.a.u, .int .u32 x.a.s, .int .u32 x.a.y, .int .u64 x.l, .int .u64 x.s, .bool x.z] infoReq 2 50 (w.heap.size) ((Rq.mk r.a (r.l - n) r.s r.z).cells) 0 ?vs1508); (intro W2 hW2); (have HV7 := hid hW2); (clear hW2 HV6); (obtain ⟨c0, c1, c2, c3, c4, c5, c6, c7, c8, c9⟩ := Rq.at x (HV7.out.cs 0 rfl))) | ((with_reducible refine pvs HV7.out 1 53 [.int .u64 x.a.t, .int .u32 x.a.r, .int .u32 x.a.v, .int .i64 x.a.i, .int .u64 x.a.u, .int .u32 x.a.s, .int .u32 x.a.y, .int .u64 x.l, .int .u64 x.s, .bool x.z] infoReq 4 52 (w.heap.size + 1) (Rq.no.cells) 0 ?vs1509); (intro W2 hW2); (have HV8 := hid hW2); (clear hW2 HV7); (clear c0 c1 c2 c3 c4 c5 c6 c7 c8 c9)) | fail)
     obtain ⟨z0, z1, z2, z3, z4, z5, z6, z7, z8, z9⟩ := Rq.at x (HV8.out.cs 1 rfl)
     go_wp2_with fail
     refine bodyPost_ret (v := .tuple #[Rq.val x, .bool false, .bool b]) (by simp [results, Tryz.results37, go_sem, z0, z1, z2, z3, z4, z5, z6, z7, z8, z9]) rfl ⟨rfl, HV8.out.bel⟩
theorem Req.served (r : Rq) (hr : r.In) (A : Option Addr) (n c : Nat) (zs : List Int) (w : World) (hz : RdU .u64 w A n zs) (hi : InU zs) (hn : n ≤ 1000000) :
  Calls Tryz.prog 39 #[r.val, .slice A n c] w (Ans (.tuple #[Rq.val (r.served zs).1, .int .i64 (r.served zs).2.1, .bool (r.served zs).2.2]) w) := by
 have HR := hid hr
 have HZ := hid hz
 have HL := hid hz.1
 have HI := hid hi
 have HN := hid hn
 obtain ⟨⟨sx, sm, sb⟩, hsv⟩ : ∃ s, r.served zs = s := ⟨_, rfl⟩
 have HSV := hid hsv
 rw [hsv]
 clear hr hz hi hsv
 unfold Rq.val
 have HV0 : Hid (VS w [(w.heap.size, r.cells), (w.heap.size + 1, Rq.no.cells)] ((w.alloc (.cells #[.int .u64 r.a.t, .int .u32 r.a.r, .int .u32 r.a.v, .int .i64 r.a.i, .int .u64 r.a.u, .int .u32 r.a.s, .int .u32 r.a.y, .int .u64 r.l, .int .u64 r.s, .bool r.z] 53)).alloc (.cells #[.int .u64 0, .int .u32 0, .int .u32 0, .int .i64 0, .int .u64 0, .int .u32 0, .int .u32 0, .int .u64 0, .int .u64 0, .bool false] 53))) := hid (by have h := (((VS.nil w).new 53 r.cells).new 53 Rq.no.cells); (try simp only [World.size_alloc] at h); exact h)
 go_enter Tryz.func39, Tryz.ntmps39
 go_wp2_with fail
 generalize ((w.alloc (.cells #[.int .u64 r.a.t, .int .u32 r.a.r, .int .u32 r.a.v, .int .i64 r.a.i, .int .u64 r.a.u, .int .u32 r.a.s, .int .u32 r.a.y, .int .u64 r.l, .int .u64 r.s, .bool r.z] 53)).alloc (.cells #[.int .u64 0, .int .u32 0, .int .u32 0, .int .i64 0, .int .u64 0, .int .u32 0, .int .u32 0, .int .u64 0, .int .u64 0, .bool false] 53)) = W0 at HV0 ⊢
 go_loopg [7, 15] n (fun g t i wr => ∃ (k : Nat) (x : Rq) (m : Int), t = .int .i64 m ∧ i = .int .i64 k ∧ g = n - k ∧ k ≤ n ∧ x.In ∧ r.served (zs.take k) = (x, m, true) ∧ (0 ≤ m ∧ m ≤ k) ∧ VS w [(w.heap.size, x.cells), (w.heap.size + 1, Rq.no.cells)] wr)
 case atStart => exact ⟨0, r, 0, rfl, rfl, rfl, Nat.zero_le _, HR.out, rfl, ⟨by decide, by decide⟩, HV0.out⟩
 case round =>
  obtain ⟨k, x, m, rfl, rfl, hg, hk, hx, hs, hm, hv⟩ := hrel
  have HG := hid hg
  have HK := hid hk
  have HX := hid hx
  have HS := hid hs
  have HM := hid hm
  have HW0 := hid hv
  clear hg hk hx hs hm hv HV0
  by_cases hlt2 : k < n
  ·have HLT := hid hlt2
   obtain ⟨b2, off2, e2, hbl, hc⟩ := (HZ.out.below HW0.out.bel).2 k hlt2
   subst e2
   have hcell := hc k hlt2
   have HS2 := hid (served_take (r := r) (zs := zs) (k := k) (by have := HL.out; omega))
   have HQ := hid (HI.out.get (k := k) (by have := HL.out; omega))
   generalize zs.getD k 0 = z at *
   rw [HS.out] at HS2
   clear hc hbl
   obtain ⟨c0, c1, c2, c3, c4, c5, c6, c7, c8, c9⟩ := Rq.at x (HW0.out.cs 0 rfl)
   go_wp2_with fail
   have HMN : Hid (IsT (min z x.l)) := hid (by have := HQ.out; have := HX.out.2.1; unfold IsT at *; omega)
   have HXI := hid (serve_in HX.out (min z x.l) HMN.out.1)
   refine (Req.serve x HX.out (min z x.l) HMN.out _).mono ?_
   obtain ⟨y, b, ok, hy⟩ : ∃ y b ok, x.serve (min z x.l) = (y, b, ok) := ⟨_, _, _, rfl⟩
   rw [hy] at HXI ⊢
   have HY := hid hy
   clear hy
   rintro e w1 ⟨rfl, hb⟩
   have HW1 : Hid (VS w [(w.heap.size, x.cells), (w.heap.size + 1, Rq.no.cells)] w1) := hid (HW0.out.below hb)
   clear hb HW0 hcell c0 c1 c2 c3 c4 c5 c6 c7 c8 c9
   dsimp only at HXI ⊢
   have HW2 : Hid (VS w _ (w1.alloc (.cells #[.int .u64 0, .int .u32 0, .int .u32 0, .int .i64 0, .int .u64 0, .int .u32 0, .int .u32 0, .int .u64 0, .int .u64 0, .bool false] 53))) := hid (HW1.out.new 53 Rq.no.cells)
   clear HW1
   cases ok with
   | false =>
    have HE : Hid (r.served zs = (Rq.no, 0, false)) := hid (served_stop (k := k + 1) (by rw [HS2.out]; unfold srvStep; simp only [HY.out]; rfl))
    obtain ⟨rfl, rfl, rfl⟩ := served_eq (HE.out.symm.trans HSV.out)
    go_wp2_with (first | ((with_reducible refine pvs HW2.out 2 53 [.int .u64 y.a.t, .int .u32 y.a.r, .int .u32 y.a.v, .int .i64 y.a.i, .int .u64 y.a.u, .int .u32 y.a.s, .int .u32 y.a.y, .int .u64 y.l, .int .u64 y.s, .bool y.z] infoReq 10 26 (w1.heap.size) (Rq.no.cells) 0 ?vs1512); (intro W2 hW2); (have HW3 := hid hW2); (clear hW2 HW2); (obtain ⟨c0, c1, c2, c3, c4, c5, c6, c7, c8, c9⟩ := Rq.at y (HW3.out.cs 2 rfl))) | ((with_reducible refine pvs HW3.out 1 53 [.int .u64 0, .int .u32 0, .int .u32 0, .int .i64 0, .int .u64 0, .int .u32 0, .int .u32 0, .int .u64 0, .int .u64 0, .bool false] infoReq 4 31 (w.heap.size + 1) (Rq.no.cells) 0 ?vs1511); (intro W2 hW2); (have HW4 := hid hW2); (clear hW2 HW3)) | fail)
    clear c0 c1 c2 c3 c4 c5 c6 c7 c8 c9
    obtain ⟨z0, z1, z2, z3, z4, z5, z6, z7, z8, z9⟩ := Rq.at Rq.no (HW4.out.cs 1 rfl)
    go_wp2_with fail
    refine bodyPost_ret (v := .tuple #[Rq.val Rq.no, .int .i64 0, .bool false]) (by simp [results, Tryz.results39, go_sem, z0, z1, z2, z3, z4, z5, z6, z7, z8, z9]) rfl ⟨rfl, HW4.out.bel⟩
   | true =>
    have HS3 : Hid (r.served (zs.take (k + 1)) = (y, m + (if b = true then 1 else 0), true)) := hid (by rw [HS2.out]; unfold srvStep; simp only [HY.out]; rfl)
    have e1 : wrap64 (m + 1) = m + 1 := by have := HM.out; have := HLT.out; have := HN.out; unfold wrap64; omega
    have e2 : IntKind.i64.wrap (m + 1) = m + 1 := by have := HM.out; have := HLT.out; have := HN.out; rw [IntKind.wrap_i64]; omega
    cases b with
    | false =>
     go_wp2_with (first | ((with_reducible refine pvs HW2.out 2 53 [.int .u64 y.a.t, .int .u32 y.a.r, .int .u32 y.a.v, .int .i64 y.a.i, .int .u64 y.a.u, .int .u32 y.a.s, .int .u32 y.a.y, .int .u64 y.l, .int .u64 y.s, .bool y.z] infoReq 10 26 (w1.heap.size) (Rq.no.cells) 0 ?vs1514); (intro W2 hW2); (have HW3 := hid hW2); (clear hW2 HW2); (obtain ⟨c0, c1, c2, c3, c4, c5, c6, c7, c8, c9⟩ := Rq.at y (HW3.out.cs 2 rfl))) | ((with_reducible refine pvs HW3.out 0 53 [.int .u64 y.a.t, .int .u32 y.a.r, .int .u32 y.a.v, .int .i64 y.a.i, .int .u64 y.a.u, .int .u32 y.a.s, .int .u32 y.a.y, .int .u64 y.l, .int .u64 y.s, .bool y.z] infoReq 2 35 (w.heap.size) (x.cells) 0 ?vs1515); (intro W2 hW2); (have HW4 := hid hW2); (clear hW2 HW3); (clear c0 c1 c2 c3 c4 c5 c6 c7 c8 c9)) | fail)
     go_roundg (n - (k + 1))
     case measure => have := HG.out; have := HLT.out; omega
     case rel => exact ⟨k + 1, y, m, rfl, by go_num, rfl, by have := HLT.out; omega, HXI.out, by rw [HS3.out]; simp, ⟨HM.out.1, by have := HM.out.2; omega⟩, VS.less [_] HW4.out⟩
    | true =>
     go_wp2_with (first | ((with_reducible refine pvs HW2.out 2 53 [.int .u64 y.a.t, .int .u32 y.a.r, .int .u32 y.a.v, .int .i64 y.a.i, .int .u64 y.a.u, .int .u32 y.a.s, .int .u32 y.a.y, .int .u64 y.l, .int .u64 y.s, .bool y.z] infoReq 10 26 (w1.heap.size) (Rq.no.cells) 0 ?vs1516); (intro W2 hW2); (have HW3 := hid hW2); (clear hW2 HW2); (obtain ⟨c0, c1, c2, c3, c4, c5, c6, c7, c8, c9⟩ := Rq.at y (HW3.out.cs 2 rfl))) | ((with_reducible refine pvs HW3.out 0 53 [.int .u64 y.a.t, .int .u32 y.a.r, .int .u32 y.a.v, .int .i64 y.a.i, .int .u64 y.a.u, .int .u32 y.a.s, .int .u32 y.a.y, .int .u64 y.l, .int .u64 y.s, .bool y.z] infoReq 2 35 (w.heap.size) (x.cells) 0 ?vs1517); (intro W2 hW2); (have HW4 := hid hW2); (clear hW2 HW3); (clear c0 c1 c2 c3 c4 c5 c6 c7 c8 c9)) | fail)
     go_roundg (n - (k + 1))
     case measure => have := HG.out; have := HLT.out; omega
     case rel => exact ⟨k + 1, y, m + 1, rfl, by go_num, rfl, by have := HLT.out; omega, HXI.out, by rw [HS3.out]; simp, ⟨by have := HM.out.1; omega, by have := HM.out.2; omega⟩, VS.less [_] HW4.out⟩
  ·obtain rfl : k = n := by have := HK.out; omega
   have e : zs.take k = zs := List.take_of_length_le (by have := HL.out; omega)
   rw [e] at HS
   obtain ⟨rfl, rfl, rfl⟩ := served_eq (HS.out.symm.trans HSV.out)
   clear e
   have hki : ¬ (k : Int) < k := by omega
   obtain ⟨c0, c1, c2, c3, c4, c5, c6, c7, c8, c9⟩ := Rq.at x (HW0.out.cs 0 rfl)
   go_wp2_with (first | ((with_reducible refine pvs HW0.out 1 53 [.int .u64 x.a.t, .int .u32 x.a.r, .int .u32 x.a.v, .int .i64 x.a.i, .int .u64 x.a.u, .int .u32 x.a.s, .int .u32 x.a.y, .int .u64 x.l, .int .u64 x.s, .bool x.z] infoReq 4 37 (w.heap.size + 1) (Rq.no.cells) 0 ?vs1518); (intro W2 hW2); (have HW1 := hid hW2); (clear hW2 HW0); (clear c0 c1 c2 c3 c4 c5 c6 c7 c8 c9)) | fail)
   obtain ⟨z0, z1, z2, z3, z4, z5, z6, z7, z8, z9⟩ := Rq.at x (HW1.out.cs 1 rfl)
   go_wp2_with fail
   refine bodyPost_ret (v := .tuple #[Rq.val x, .int .i64 m, .bool true]) (by simp [results, Tryz.results39, go_sem, z0, z1, z2, z3, z4, z5, z6, z7, z8, z9]) rfl ⟨rfl, HW1.out.bel⟩
end

end Go.Proofs.YtjndmmcjobbcbaaGreatDoor

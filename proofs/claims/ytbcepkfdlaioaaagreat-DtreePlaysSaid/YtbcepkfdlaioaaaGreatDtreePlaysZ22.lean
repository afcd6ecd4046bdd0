/- Texts of DtreePlays's proof, together. -/
import Derived.Test.YtbcepkfdlaioaaaGreatDtreePlaysZ15
import Derived.Test.YtbcepkfdlaioaaaGreatRef4
import Derived.Test.YtbcepkfdlaioaaaGreatDtreePlaysZ19
import Derived.Test.YtbcepkfdlaioaaaGreatDtreePlaysZ20
namespace Go.Proofs.YtbcepkfdlaioaaaGreat

section
open Go.RowKit
set_option maxRecDepth 100000
set_option maxHeartbeats 32000000
theorem Item.shift (a : It) (by' : Int) (w : World) :
  Calls Tryz.prog 19 #[a.val, .int .u64 by'] w (Ans (It.val (It.mk (IntKind.u64.wrap (a.t + by')) a.r a.v a.i (IntKind.u64.wrap (a.u + by')) a.s a.y)) w) := by
 have HI0 : Hid (I1 w a ((w.alloc (.cells #[.int .u64 a.t, .int .u32 a.r, .int .u32 a.v, .int .i64 a.i, .int .u64 a.u, .int .u32 a.s, .int .u32 a.y] 35)).alloc (.cells #[.int .u64 0, .int .u32 0, .int .u32 0, .int .i64 0, .int .u64 0, .int .u32 0, .int .u32 0] 35))) := hid
  ⟨(Cs.new7 _ _ _).alloc _, ⟨It.mk 0 0 0 0 0 0 0, by have := Cs.new7 (w.alloc (.cells #[.int .u64 a.t, .int .u32 a.r, .int .u32 a.v, .int .i64 a.i, .int .u64 a.u, .int .u32 a.s, .int .u32 a.y] 35)) 35 (It.mk 0 0 0 0 0 0 0); simp only [World.size_alloc] at this; exact this⟩, ((Below.refl _ _).alloc (Nat.le_refl _) _).alloc (by simp) _⟩
 unfold It.val
 go_enter Tryz.func19, Tryz.ntmps19
 go_wp2_with fail
 generalize ((w.alloc (.cells #[.int .u64 a.t, .int .u32 a.r, .int .u32 a.v, .int .i64 a.i, .int .u64 a.u, .int .u32 a.s, .int .u32 a.y] 35)).alloc (.cells #[.int .u64 0, .int .u32 0, .int .u32 0, .int .i64 0, .int .u64 0, .int .u32 0, .int .u32 0] 35)) = W0 at HI0 ⊢
 refine wp_region_steady (S := I1 w a) 11 (by kernel_rfl) (HI0.out.drew) ?_
 refine tV 0 ?_
 try simp only [tdy]
 refine tU 1 (v := ?_) rfl (by kernel_rfl) (fun _ _ _ h => h) (by rfl) ?_ ?_
 rotate_left
 ·intro wq hSw
  obtain ⟨p0, p1, p2, p3, p4, p5, p6⟩ := It.at a hSw.1
  go_simp; try with_reducible rfl
 try simp only [tdy]
 refine tV 2 ?_
 try simp only [tdy]
 refine tV 4 ?_
 try simp only [tdy]
 refine tU 5 (v := ?_) rfl (by kernel_rfl) (fun _ _ _ h => h) (by rfl) ?_ ?_
 rotate_left
 ·intro wq hSw
  obtain ⟨p0, p1, p2, p3, p4, p5, p6⟩ := It.at a hSw.1
  go_simp; try with_reducible rfl
 try simp only [tdy]
 refine tV 6 ?_
 try simp only [tdy]
 refine tU 7 (v := ?_) rfl (by kernel_rfl) (fun _ _ _ h => h) (by rfl) ?_ ?_
 rotate_left
 ·intro wq hSw
  obtain ⟨p0, p1, p2, p3, p4, p5, p6⟩ := It.at a hSw.1
  go_simp; try with_reducible rfl
 try simp only [tdy]
 refine tV 8 ?_
 try simp only [tdy]
 refine wpAnyU_take (i := 3) (v := .agg #[.int .u64 (IntKind.u64.wrap (a.t + by')), .int .u32 a.r, .int .u32 a.v]) rfl (by kernel_rfl) (by kernel_rfl) (by kernel_rfl) (by kernel_rfl) (fun _ _ _ h => h) (Or.inl ⟨by rfl, fun wq hSw => ?_⟩) ?_
 ·refine SteadyRun.of_calls (Pos.shift a.t a.r a.v by' wq) (by go_simp) ?_
  rintro e wr ⟨rfl, hb⟩
  exact ⟨rfl, hSw.below hb⟩
 try simp only [tdy]
 refine wpAnyU_take (i := 9) (v := .agg #[.int .u64 (IntKind.u64.wrap (a.u + by')), .int .u32 a.s, .int .u32 a.y]) rfl (by kernel_rfl) (by kernel_rfl) (by kernel_rfl) (by kernel_rfl) (fun _ _ _ h => h) (Or.inl ⟨by rfl, fun wq hSw => ?_⟩) ?_
 ·refine SteadyRun.of_calls (Pos.shift a.u a.s a.y by' wq) (by go_simp) ?_
  rintro e wr ⟨rfl, hb⟩
  exact ⟨rfl, hSw.below hb⟩
 try simp only [tdy]
 refine tV 10 ?_
 try simp only [tdy]
 refine wpAnyU_last rfl rfl (by kernel_rfl) (fun wz hSz => ?_)
 refine wpList_store_it 35 infoItem rfl (.tmp 4) (.tmp 15) rfl (w.heap.size + 1) 0 (It.mk (IntKind.u64.wrap (a.t + by')) a.r a.v a.i (IntKind.u64.wrap (a.u + by')) a.s a.y) (by rfl) (by rfl) hSz.there ?_
 have HW := hid (hSz.store (It.mk (IntKind.u64.wrap (a.t + by')) a.r a.v a.i (IntKind.u64.wrap (a.u + by')) a.s a.y))
 clear hSz
 generalize wz.setCells (w.heap.size + 1) 0 (It.cells (It.mk (IntKind.u64.wrap (a.t + by')) a.r a.v a.i (IntKind.u64.wrap (a.u + by')) a.s a.y)) = W at HW ⊢
 obtain ⟨z0, z1, z2, z3, z4, z5, z6⟩ := HW.out.1
 go_wp2_with fail
 refine bodyPost_ret (v := It.val (It.mk (IntKind.u64.wrap (a.t + by')) a.r a.v a.i (IntKind.u64.wrap (a.u + by')) a.s a.y)) (by simp [results, Tryz.results19, go_sem, z0, z1, z2, z3, z4, z5, z6]) rfl ⟨rfl, HW.out.2⟩
theorem Law5.of (a : It) (w : World) :
  Calls Tryz.prog 11 #[a.val] w (Ans (It.val a) w) := by
 have HI0 : Hid (I1 w a ((w.alloc (.cells #[.int .u64 a.t, .int .u32 a.r, .int .u32 a.v, .int .i64 a.i, .int .u64 a.u, .int .u32 a.s, .int .u32 a.y] 35)).alloc (.cells #[.int .u64 0, .int .u32 0, .int .u32 0, .int .i64 0, .int .u64 0, .int .u32 0, .int .u32 0] 48))) := hid
  ⟨(Cs.new7 _ _ _).alloc _, ⟨It.mk 0 0 0 0 0 0 0, by have := Cs.new7 (w.alloc (.cells #[.int .u64 a.t, .int .u32 a.r, .int .u32 a.v, .int .i64 a.i, .int .u64 a.u, .int .u32 a.s, .int .u32 a.y] 35)) 48 (It.mk 0 0 0 0 0 0 0); simp only [World.size_alloc] at this; exact this⟩, ((Below.refl _ _).alloc (Nat.le_refl _) _).alloc (by simp) _⟩
 unfold It.val
 go_enter Tryz.func11, Tryz.ntmps11
 go_wp2_with fail
 generalize ((w.alloc (.cells #[.int .u64 a.t, .int .u32 a.r, .int .u32 a.v, .int .i64 a.i, .int .u64 a.u, .int .u32 a.s, .int .u32 a.y] 35)).alloc (.cells #[.int .u64 0, .int .u32 0, .int .u32 0, .int .i64 0, .int .u64 0, .int .u32 0, .int .u32 0] 48)) = W0 at HI0 ⊢
 refine wp_region_steady (S := I1 w a) 9 (by kernel_rfl) (HI0.out.drew) ?_
 refine tV 0 ?_
 try simp only [tdy]
 refine tU 1 (v := ?_) rfl (by kernel_rfl) (fun _ _ _ h => h) (by rfl) ?_ ?_
 rotate_left
 ·intro wq hSw
  obtain ⟨p0, p1, p2, p3, p4, p5, p6⟩ := It.at a hSw.1
  go_simp; try with_reducible rfl
 try simp only [tdy]
 refine tV 3 ?_
 try simp only [tdy]
 refine tU 4 (v := ?_) rfl (by kernel_rfl) (fun _ _ _ h => h) (by rfl) ?_ ?_
 rotate_left
 ·intro wq hSw
  obtain ⟨p0, p1, p2, p3, p4, p5, p6⟩ := It.at a hSw.1
  go_simp; try with_reducible rfl
 try simp only [tdy]
 refine tV 5 ?_
 try simp only [tdy]
 refine tU 6 (v := ?_) rfl (by kernel_rfl) (fun _ _ _ h => h) (by rfl) ?_ ?_
 rotate_left
 ·intro wq hSw
  obtain ⟨p0, p1, p2, p3, p4, p5, p6⟩ := It.at a hSw.1
  go_simp; try with_reducible rfl
 try simp only [tdy]
 refine wpAnyU_take (i := 2) (v := .agg #[.int .u64 a.t, .int .u32 a.r, .int .u32 a.v]) rfl (by kernel_rfl) (by kernel_rfl) (by kernel_rfl) (by kernel_rfl) (fun _ _ _ h => h) (Or.inl ⟨by rfl, fun wq hSw => ?_⟩) ?_
 ·refine SteadyRun.of_calls (Law4.of a.t a.r a.v wq) (by go_simp) ?_
  rintro e wr ⟨rfl, hb⟩
  exact ⟨rfl, hSw.below hb⟩
 try simp only [tdy]
 refine wpAnyU_take (i := 7) (v := .agg #[.int .u64 a.u, .int .u32 a.s, .int .u32 a.y]) rfl (by kernel_rfl) (by kernel_rfl) (by kernel_rfl) (by kernel_rfl) (fun _ _ _ h => h) (Or.inl ⟨by rfl, fun wq hSw => ?_⟩) ?_
 ·refine SteadyRun.of_calls (Law4.of a.u a.s a.y wq) (by go_simp) ?_
  rintro e wr ⟨rfl, hb⟩
  exact ⟨rfl, hSw.below hb⟩
 try simp only [tdy]
 refine tV 8 ?_
 try simp only [tdy]
 refine wpAnyU_last rfl rfl (by kernel_rfl) (fun wz hSz => ?_)
 refine wpList_store_it 48 infoRefItem rfl (.tmp 2) (.tmp 11) rfl (w.heap.size + 1) 0 a (by rfl) (by rfl) hSz.there ?_
 have HW := hid (hSz.store a)
 clear hSz
 generalize wz.setCells (w.heap.size + 1) 0 (It.cells a) = W at HW ⊢
 obtain ⟨z0, z1, z2, z3, z4, z5, z6⟩ := HW.out.1
 go_wp2_with fail
 refine bodyPost_ret (v := It.val a) (by simp [results, Tryz.results11, go_sem, z0, z1, z2, z3, z4, z5, z6]) rfl ⟨rfl, HW.out.2⟩
end


section
open Go.RowKit
def Bl (W w : World) : Prop := Below W.heap.size W w
theorem Bl.drew (W : World) : Bl W W.drew := (Below.refl _ _).drew
theorem Bl.on {W w w' : World} (h : Bl W w) (hb : Below w.heap.size w w') : Bl W w' := below_on h hb
def Tho (w : World) (b o : Nat) (x : It) : Prop := w.cell? ⟨b, o, none⟩ = some (.int .u64 x.t) ∧ w.cell? ⟨b, o + 1, none⟩ = some (.int .u32 x.r) ∧ w.cell? ⟨b, o + 2, none⟩ = some (.int .u32 x.v) ∧ w.cell? ⟨b, o + 3, none⟩ = some (.int .i64 x.i) ∧ w.cell? ⟨b, o + 4, none⟩ = some (.int .u64 x.u) ∧ w.cell? ⟨b, o + 5, none⟩ = some (.int .u32 x.s) ∧ w.cell? ⟨b, o + 6, none⟩ = some (.int .u32 x.y)
theorem Tho.below {w w' : World} {b o : Nat} {x : It} (h : Tho w b o x) (hb : Below w.heap.size w w') : Tho w' b o x := ⟨keep1 hb h.1, keep1 hb h.2.1, keep1 hb h.2.2.1, keep1 hb h.2.2.2.1, keep1 hb h.2.2.2.2.1, keep1 hb h.2.2.2.2.2.1, keep1 hb h.2.2.2.2.2.2⟩
abbrev It.zero : It := It.mk 0 0 0 0 0 0 0
theorem It.zero_in : It.zero.In := by unfold It.In; refine ⟨?_, ?_, ?_, ?_, ?_, ?_, ?_⟩ <;> exact ⟨by decide, by decide⟩
def RdI (w : World) (A : Option Addr) (n : Nat) (l : List It) : Prop :=
 l.length = n ∧ ∀ i, i < n → ∃ b off, A = some ⟨b, off, none⟩ ∧ b < w.heap.size ∧ ∀ j, j < n → Tho w b (off + j * 7) (l.getD j It.zero)
theorem RdI.below {w w' : World} {A : Option Addr} {n : Nat} {l : List It} (h : RdI w A n l) (hb : Below w.heap.size w w') : RdI w' A n l :=
 ⟨h.1, fun i hi => by
  obtain ⟨b, off, e, hl, hc⟩ := h.2 i hi
  exact ⟨b, off, e, Nat.lt_of_lt_of_le hl hb.size, fun j hj => (hc j hj).below hb⟩⟩
def InI (l : List It) : Prop := ∀ x ∈ l, x.In
theorem InI.get {l : List It} (h : InI l) {k : Nat} (hk : k < l.length) : (l.getD k It.zero).In := by
 have e : l.getD k It.zero = l[k] := by simp [List.getD, hk]
 rw [e]; exact h _ (List.getElem_mem hk)
def sooner (a b : It) : It := if It.due b a then b else a
theorem sooner_in {a b : It} (ha : a.In) (hb : b.In) : (sooner a b).In := by unfold sooner; split; exact hb; exact ha
theorem fold_in (l : List It) (hl : InI l) : ∀ a : It, a.In → (l.foldl sooner a).In := by
 induction l with
 | nil => intro a ha; exact ha
 | cons b l ih => intro a ha; exact ih (fun x hx => hl x (by simp [hx])) _ (sooner_in ha (hl b (by simp)))
theorem fold_take {l : List It} {k : Nat} (hk : k < l.length) (a : It) : (l.take (k + 1)).foldl sooner a = sooner ((l.take k).foldl sooner a) (l.getD k It.zero) := by
 have e : l.getD k It.zero = l[k] := by simp [List.getD, hk]
 rw [e, List.take_succ_eq_append_getElem hk, List.foldl_append]; rfl
def Sv (w : World) (a : It) (w' : World) : Prop := Cs w' w.heap.size a.cells ∧ (∃ b : It, Cs w' (w.heap.size + 1) b.cells) ∧ Below w.heap.size w w'
theorem Sv.below {w w1 w2 : World} {a : It} (h : Sv w a w1) (hb : Below w1.heap.size w1 w2) : Sv w a w2 := ⟨h.1.below hb, by obtain ⟨b, hc⟩ := h.2.1; exact ⟨b, hc.below hb⟩, below_on h.2.2 hb⟩
theorem Sv.store {w w1 : World} {a : It} (h : Sv w a w1) (k : It) : Sv w k (w1.setCells w.heap.size 0 k.cells) := by
 obtain ⟨h1, ⟨b, h2⟩, h3⟩ := h
 exact ⟨h1.stored k, ⟨b, h2.fars (by omega) _ _⟩, below_sets (Nat.le_refl _) _ _ h3⟩
theorem Sv.answer {w w1 : World} {a : It} (h : Sv w a w1) (k : It) : Th (w1.setCells (w.heap.size + 1) 0 k.cells) (w.heap.size + 1) k ∧ Below w.heap.size w (w1.setCells (w.heap.size + 1) 0 k.cells) := by
 obtain ⟨b, hc⟩ := h.2.1
 exact ⟨(hc.stored k).th7, below_sets (by omega) _ _ h.2.2⟩
theorem Sv.there1 {w w1 : World} {a : It} (h : Sv w a w1) : w1.there (w.heap.size + 1) 0 7 := by obtain ⟨b, hc⟩ := h.2.1; exact hc.there7
set_option maxRecDepth 100000 in
set_option maxHeartbeats 4000000 in
theorem Item.soonest (a : It) (A : Option Addr) (n c : Nat) (l : List It) (w : World) (ha : a.In) (hr : RdI w A n l) (hl : InI l) (hn : n ≤ 1000000) :
  Calls Tryz.prog 27 #[a.val, .slice A n c] w (Ans (It.val (l.foldl sooner a)) w) := by
 have HA := hid ha
 have HR := hid hr
 have HL := hid hl
 have hni : (n : Int) ≤ 1000000 := by omega
 have HS0 : Hid (Sv w a ((w.alloc (.cells #[.int .u64 a.t, .int .u32 a.r, .int .u32 a.v, .int .i64 a.i, .int .u64 a.u, .int .u32 a.s, .int .u32 a.y] 35)).alloc (.cells #[.int .u64 0, .int .u32 0, .int .u32 0, .int .i64 0, .int .u64 0, .int .u32 0, .int .u32 0] 35))) := hid
  ⟨(Cs.new7 _ _ _).alloc _, ⟨It.zero, by have := Cs.new7 (w.alloc (.cells #[.int .u64 a.t, .int .u32 a.r, .int .u32 a.v, .int .i64 a.i, .int .u64 a.u, .int .u32 a.s, .int .u32 a.y] 35)) 35 It.zero; simp only [World.size_alloc] at this; exact this⟩, ((Below.refl _ _).alloc (Nat.le_refl _) _).alloc (by simp) _⟩
 clear ha hr hl
 unfold It.val
 go_enter Tryz.func27, Tryz.ntmps27
 go_wp2_with fail
 generalize ((w.alloc (.cells #[.int .u64 a.t, .int .u32 a.r, .int .u32 a.v, .int .i64 a.i, .int .u64 a.u, .int .u32 a.s, .int .u32 a.y] 35)).alloc (.cells #[.int .u64 0, .int .u32 0, .int .u32 0, .int .i64 0, .int .u64 0, .int .u32 0, .int .u32 0] 35)) = W0 at HS0 ⊢
 go_loopg [9] n (fun s i wr => ∃ k : Nat, i = .int .i64 k ∧ k ≤ n ∧ s = n - k ∧ Sv w ((l.take k).foldl sooner a) wr)
 case atStart => exact ⟨0, rfl, Nat.zero_le _, by omega, HS0.out⟩
 case round =>
  obtain ⟨k, rfl, hk, hs, hv⟩ := hrel
  have HS := hid hs
  have HV := hid hv
  clear hs hv HS0
  by_cases hkn : k < n
  ·obtain ⟨b, off, hA, _, hc⟩ := (HR.out.below HV.out.2.2).2 0 (by omega)
   obtain ⟨p0, p1, p2, p3, p4, p5, p6⟩ := hc k hkn
   have HX := hid (HL.out.get (show k < l.length by have := HR.out.1; omega))
   have HF := hid (fold_take (show k < l.length by have := HR.out.1; omega) a)
   have HC := hid (fold_in (l.take k) (fun x hx => HL.out x (List.mem_of_mem_take hx)) a HA.out)
   generalize l.getD k It.zero = x at *
   generalize (l.take k).foldl sooner a = y at *
   subst hA
   have hki : (k : Int) < n := by omega
   clear hc
   have HB1 := hid ((Below.refl wr.heap.size wr).alloc (Nat.le_refl _) (.cells #[.int .u64 x.t, .int .u32 x.r, .int .u32 x.v, .int .i64 x.i, .int .u64 x.u, .int .u32 x.s, .int .u32 x.y] 35))
   obtain ⟨q0, q1, q2, q3, q4, q5, q6⟩ := It.at y (HV.out.below HB1.out).1
   have HX1 : Hid (Cs (wr.alloc (.cells #[.int .u64 x.t, .int .u32 x.r, .int .u32 x.v, .int .i64 x.i, .int .u64 x.u, .int .u32 x.s, .int .u32 x.y] 35)) wr.heap.size x.cells) := hid (Cs.new7 _ _ _)
   go_wp2_with fail
   refine (Item.due x y HX.out HC.out _).mono ?_
   rintro e w1 ⟨rfl, hb⟩
   have HV1 := hid ((HV.out.below HB1.out).below hb)
   have HX2 := hid (HX1.out.below hb)
   clear p0 p1 p2 p3 p4 p5 p6 q0 q1 q2 q3 q4 q5 q6 hb HB1 HX1
   cases hd : It.due x y with
   | true =>
    have HD : Hid ((l.take (k + 1)).foldl sooner a = x) := hid (by rw [HF.out, sooner, if_pos hd])
    clear hd
    obtain ⟨p0, p1, p2, p3, p4, p5, p6⟩ := It.at x HX2.out
    have hth := HV1.out.1.there7
    go_wp2_with (((with_reducible refine wpList_put_it 35 infoItem rfl (.tmp 2) (.tmp 16) rfl w.heap.size 0 x hth ?h1 ?h2 ?h3); (case h1 => rfl); (case h2 => rfl); (intro W2 hW2); (have HV2 := hid (hW2 ▸ HV1.out.store x : Sv w x W2)); (clear hW2 p0 p1 p2 p3 p4 p5 p6)))
    go_roundg (n - (k + 1))
    case measure => have := HS.out; omega
    case rel => exact ⟨k + 1, by go_num, by omega, rfl, by rw [HD.out]; exact HV2.out⟩
   | false =>
    have HD : Hid ((l.take (k + 1)).foldl sooner a = y) := hid (by rw [HF.out, sooner, if_neg (by rw [hd]; simp)])
    clear hd
    go_wp2_with fail
    go_roundg (n - (k + 1))
    case measure => have := HS.out; omega
    case rel => exact ⟨k + 1, by go_num, by omega, rfl, by rw [HD.out]; exact HV1.out⟩
  ·obtain rfl : k = n := by omega
   have hki : ¬ (k : Int) < k := by omega
   have hq := HV.out
   rw [List.take_of_length_le (by have := HR.out.1; omega)] at hq
   have HQ := hid hq
   clear hq
   generalize l.foldl sooner a = y at *
   obtain ⟨q0, q1, q2, q3, q4, q5, q6⟩ := It.at y HQ.out.1
   have hth := HQ.out.there1
   have HAN : Hid (∀ W, W = wr.setCells (w.heap.size + 1) 0 y.cells → Th W (w.heap.size + 1) y ∧ Below w.heap.size w W) := hid (fun W e => by rw [e]; exact HQ.out.answer y)
   go_wp2_with ((with_reducible refine wpList_put_it 35 infoItem rfl (.tmp 4) (.tmp 18) rfl (w.heap.size + 1) 0 y hth ?k1 ?k2 ?k3); (case k1 => rfl); (case k2 => rfl); (intro W2 hW2); (have HW := hid (HAN.out W2 hW2)); (clear hW2 q0 q1 q2 q3 q4 q5 q6); (obtain ⟨z0, z1, z2, z3, z4, z5, z6⟩ := HW.out.1))
   refine bodyPost_ret (v := It.val y) (by simp [results, Tryz.results27, go_sem, z0, z1, z2, z3, z4, z5, z6]) rfl ⟨rfl, HW.out.2⟩
end


section
open Go.RowKit
set_option maxRecDepth 100000
set_option maxHeartbeats 32000000
theorem Ref5.ahead (a b : It) (ha : a.In) (hb : b.In) (w : World) :
  Calls Tryz.prog 36 #[a.val, b.val] w (Ans (.bool (It.ahead a b)) w) := by
 have HA := hid ha
 have HB := hid hb
 have HT0 : Hid (∀ w' : World, Below ((w.alloc (.cells #[.int .u64 a.t, .int .u32 a.r, .int .u32 a.v, .int .i64 a.i, .int .u64 a.u, .int .u32 a.s, .int .u32 a.y] 48)).alloc (.cells #[.int .u64 b.t, .int .u32 b.r, .int .u32 b.v, .int .i64 b.i, .int .u64 b.u, .int .u32 b.s, .int .u32 b.y] 48)).heap.size ((w.alloc (.cells #[.int .u64 a.t, .int .u32 a.r, .int .u32 a.v, .int .i64 a.i, .int .u64 a.u, .int .u32 a.s, .int .u32 a.y] 48)).alloc (.cells #[.int .u64 b.t, .int .u32 b.r, .int .u32 b.v, .int .i64 b.i, .int .u64 b.u, .int .u32 b.s, .int .u32 b.y] 48)) w' → Cs w' w.heap.size a.cells ∧ Cs w' (w.heap.size + 1) b.cells ∧ Below w.heap.size w w') :=
  hid (fun w' hb => ⟨((Cs.new7 _ _ _).alloc _).below hb, by have := Cs.new7 (w.alloc (.cells #[.int .u64 a.t, .int .u32 a.r, .int .u32 a.v, .int .i64 a.i, .int .u64 a.u, .int .u32 a.s, .int .u32 a.y] 48)) 48 b; simp only [World.size_alloc] at this; exact this.below hb, below_on (((Below.refl _ _).alloc (Nat.le_refl _) _).alloc (by simp) _) hb⟩)
 clear ha hb
 obtain ⟨c, hc⟩ : ∃ c, c = posC a.t a.r a.v b.t b.r b.v := ⟨_, rfl⟩
 have HC := hid hc
 clear hc
 unfold It.val
 rcases Int.lt_trichotomy c 0 with h | rfl | h
 ·have H := hid h
  have HE : Hid (It.ahead a b = true) := hid (by unfold It.ahead; rw [if_neg (by rw [← HC.out]; have := H.out; omega)]; rw [← HC.out]; exact decide_eq_true H.out)
  go_enter Tryz.func36, Tryz.ntmps36
  go_wp2_with fail
  refine (Ref4.cmp a.t a.r a.v b.t b.r b.v HA.out.1.1 HA.out.1.2 HA.out.2.1.1 HA.out.2.1.2 HA.out.2.2.1.1 HA.out.2.2.1.2 HB.out.1.1 HB.out.1.2 HB.out.2.1.1 HB.out.2.1.2 HB.out.2.2.1.1 HB.out.2.2.1.2 _).mono ?_
  rintro e w1 ⟨rfl, hb1⟩
  rw [← HC.out]
  have HT1 := hid (HT0.out _ hb1)
  obtain ⟨p0, p1, p2, p3, p4, p5, p6⟩ := It.at a HT1.out.1
  obtain ⟨q0, q1, q2, q3, q4, q5, q6⟩ := It.at b HT1.out.2.1
  clear hb1
  go_wp2_with fail
  go_ret
  exact ⟨by rw [HE.out]; rfl, HT1.out.2.2⟩
 ·have HE : Hid (It.ahead a b = decide (a.i < b.i)) := hid (by unfold It.ahead; rw [if_pos HC.out.symm])
  go_enter Tryz.func36, Tryz.ntmps36
  go_wp2_with fail
  refine (Ref4.cmp a.t a.r a.v b.t b.r b.v HA.out.1.1 HA.out.1.2 HA.out.2.1.1 HA.out.2.1.2 HA.out.2.2.1.1 HA.out.2.2.1.2 HB.out.1.1 HB.out.1.2 HB.out.2.1.1 HB.out.2.1.2 HB.out.2.2.1.1 HB.out.2.2.1.2 _).mono ?_
  rintro e w1 ⟨rfl, hb1⟩
  rw [← HC.out]
  have HT1 := hid (HT0.out _ hb1)
  obtain ⟨p0, p1, p2, p3, p4, p5, p6⟩ := It.at a HT1.out.1
  obtain ⟨q0, q1, q2, q3, q4, q5, q6⟩ := It.at b HT1.out.2.1
  clear hb1
  go_wp2_with fail
  go_ret
  exact ⟨by rw [HE.out]; rfl, HT1.out.2.2⟩
 ·have H := hid h
  have HE : Hid (It.ahead a b = decide (c < 0)) := hid (by unfold It.ahead; rw [if_neg (by rw [← HC.out]; have := H.out; omega)]; rw [← HC.out])
  have h0 : ¬ c < 0 := by omega
  have h1 : (c == 0) = false := by rw [beq_eq_false_iff_ne]; omega
  go_enter Tryz.func36, Tryz.ntmps36
  go_wp2_with fail
  refine (Ref4.cmp a.t a.r a.v b.t b.r b.v HA.out.1.1 HA.out.1.2 HA.out.2.1.1 HA.out.2.1.2 HA.out.2.2.1.1 HA.out.2.2.1.2 HB.out.1.1 HB.out.1.2 HB.out.2.1.1 HB.out.2.1.2 HB.out.2.2.1.1 HB.out.2.2.1.2 _).mono ?_
  rintro e w1 ⟨rfl, hb1⟩
  rw [← HC.out]
  have HT1 := hid (HT0.out _ hb1)
  obtain ⟨p0, p1, p2, p3, p4, p5, p6⟩ := It.at a HT1.out.1
  obtain ⟨q0, q1, q2, q3, q4, q5, q6⟩ := It.at b HT1.out.2.1
  clear hb1
  go_wp2_with fail
  go_ret
  exact ⟨by rw [HE.out]; rfl, HT1.out.2.2⟩
theorem Ref5.due (a b : It) (ha : a.In) (hb : b.In) (w : World) :
  Calls Tryz.prog 78 #[a.val, b.val] w (Ans (.bool (It.due a b)) w) := by
 have HA := hid ha
 have HB := hid hb
 have HT0 : Hid (∀ w' : World, Below ((w.alloc (.cells #[.int .u64 a.t, .int .u32 a.r, .int .u32 a.v, .int .i64 a.i, .int .u64 a.u, .int .u32 a.s, .int .u32 a.y] 48)).alloc (.cells #[.int .u64 b.t, .int .u32 b.r, .int .u32 b.v, .int .i64 b.i, .int .u64 b.u, .int .u32 b.s, .int .u32 b.y] 48)).heap.size ((w.alloc (.cells #[.int .u64 a.t, .int .u32 a.r, .int .u32 a.v, .int .i64 a.i, .int .u64 a.u, .int .u32 a.s, .int .u32 a.y] 48)).alloc (.cells #[.int .u64 b.t, .int .u32 b.r, .int .u32 b.v, .int .i64 b.i, .int .u64 b.u, .int .u32 b.s, .int .u32 b.y] 48)) w' → Cs w' w.heap.size a.cells ∧ Cs w' (w.heap.size + 1) b.cells ∧ Below w.heap.size w w') :=
  hid (fun w' hb => ⟨((Cs.new7 _ _ _).alloc _).below hb, by have := Cs.new7 (w.alloc (.cells #[.int .u64 a.t, .int .u32 a.r, .int .u32 a.v, .int .i64 a.i, .int .u64 a.u, .int .u32 a.s, .int .u32 a.y] 48)) 48 b; simp only [World.size_alloc] at this; exact this.below hb, below_on (((Below.refl _ _).alloc (Nat.le_refl _) _).alloc (by simp) _) hb⟩)
 clear ha hb
 obtain ⟨c, hc⟩ : ∃ c, c = posC a.u a.s a.y b.u b.s b.y := ⟨_, rfl⟩
 have HC := hid hc
 clear hc
 unfold It.val
 rcases Int.lt_trichotomy c 0 with h | rfl | h
 ·have H := hid h
  have HE : Hid (It.due a b = true) := hid (by unfold It.due; rw [if_neg (by rw [← HC.out]; have := H.out; omega)]; rw [← HC.out]; exact decide_eq_true H.out)
  go_enter Tryz.func78, Tryz.ntmps78
  go_wp2_with fail
  refine (Ref4.cmp a.u a.s a.y b.u b.s b.y HA.out.2.2.2.2.1.1 HA.out.2.2.2.2.1.2 HA.out.2.2.2.2.2.1.1 HA.out.2.2.2.2.2.1.2 HA.out.2.2.2.2.2.2.1 HA.out.2.2.2.2.2.2.2 HB.out.2.2.2.2.1.1 HB.out.2.2.2.2.1.2 HB.out.2.2.2.2.2.1.1 HB.out.2.2.2.2.2.1.2 HB.out.2.2.2.2.2.2.1 HB.out.2.2.2.2.2.2.2 _).mono ?_
  rintro e w1 ⟨rfl, hb1⟩
  rw [← HC.out]
  have HT1 := hid (HT0.out _ hb1)
  obtain ⟨p0, p1, p2, p3, p4, p5, p6⟩ := It.at a HT1.out.1
  obtain ⟨q0, q1, q2, q3, q4, q5, q6⟩ := It.at b HT1.out.2.1
  clear hb1
  go_wp2_with fail
  go_ret
  exact ⟨by rw [HE.out]; rfl, HT1.out.2.2⟩
 ·have HE : Hid (It.due a b = It.ahead a b) := hid (by unfold It.due; rw [if_pos HC.out.symm])
  go_enter Tryz.func78, Tryz.ntmps78
  go_wp2_with fail
  refine (Ref4.cmp a.u a.s a.y b.u b.s b.y HA.out.2.2.2.2.1.1 HA.out.2.2.2.2.1.2 HA.out.2.2.2.2.2.1.1 HA.out.2.2.2.2.2.1.2 HA.out.2.2.2.2.2.2.1 HA.out.2.2.2.2.2.2.2 HB.out.2.2.2.2.1.1 HB.out.2.2.2.2.1.2 HB.out.2.2.2.2.2.1.1 HB.out.2.2.2.2.2.1.2 HB.out.2.2.2.2.2.2.1 HB.out.2.2.2.2.2.2.2 _).mono ?_
  rintro e w1 ⟨rfl, hb1⟩
  rw [← HC.out]
  have HT1 := hid (HT0.out _ hb1)
  obtain ⟨p0, p1, p2, p3, p4, p5, p6⟩ := It.at a HT1.out.1
  obtain ⟨q0, q1, q2, q3, q4, q5, q6⟩ := It.at b HT1.out.2.1
  clear hb1
  go_wp2_with fail
  refine (Ref5.ahead a b HA.out HB.out _).mono ?_
  rintro e w2 ⟨rfl, hb2⟩
  have HB2 := hid (below_on HT1.out.2.2 hb2)
  clear hb2
  go_wp2_with fail
  go_ret
  exact ⟨by rw [HE.out]; rfl, HB2.out⟩
 ·have H := hid h
  have HE : Hid (It.due a b = decide (c < 0)) := hid (by unfold It.due; rw [if_neg (by rw [← HC.out]; have := H.out; omega)]; rw [← HC.out])
  have h0 : ¬ c < 0 := by omega
  have h1 : (c == 0) = false := by rw [beq_eq_false_iff_ne]; omega
  go_enter Tryz.func78, Tryz.ntmps78
  go_wp2_with fail
  refine (Ref4.cmp a.u a.s a.y b.u b.s b.y HA.out.2.2.2.2.1.1 HA.out.2.2.2.2.1.2 HA.out.2.2.2.2.2.1.1 HA.out.2.2.2.2.2.1.2 HA.out.2.2.2.2.2.2.1 HA.out.2.2.2.2.2.2.2 HB.out.2.2.2.2.1.1 HB.out.2.2.2.2.1.2 HB.out.2.2.2.2.2.1.1 HB.out.2.2.2.2.2.1.2 HB.out.2.2.2.2.2.2.1 HB.out.2.2.2.2.2.2.2 _).mono ?_
  rintro e w1 ⟨rfl, hb1⟩
  rw [← HC.out]
  have HT1 := hid (HT0.out _ hb1)
  obtain ⟨p0, p1, p2, p3, p4, p5, p6⟩ := It.at a HT1.out.1
  obtain ⟨q0, q1, q2, q3, q4, q5, q6⟩ := It.at b HT1.out.2.1
  clear hb1
  go_wp2_with fail
  go_ret
  exact ⟨by rw [HE.out]; rfl, HT1.out.2.2⟩
end

end Go.Proofs.YtbcepkfdlaioaaaGreat

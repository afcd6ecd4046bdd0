/- Texts of SettleShifts's proof, together. -/
import Derived.Test.YtjchnkmolhgpmaaGreatDoorSettleShiftsZ13
import Derived.Test.YtjchnkmolhgpmaaGreatDoorBits
import Derived.Test.YtjchnkmolhgpmaaGreatDoorSettleShiftsZ0
import Derived.Test.YtjchnkmolhgpmaaGreatDoorWideD
import Derived.Test.YtjchnkmolhgpmaaGreatDoorSettleShiftsZ9
import Derived.Deep.LoopGhost
import Derived.Deep.QuietTactic
import Derived.BigQuiet
import Derived.Laws.OwnMore
import Derived.Deep.AppendLies
import Derived.Deep.RegionHeld3
import Derived.Deep.RegionWith
import Derived.OwnWalk
import Derived.Deep.CutBlock
import Derived.Deep.DeepCutAuto
namespace Go.Proofs.YtjchnkmolhgpmaaGreatDoor

section
open Go.RowKit
set_option maxRecDepth 100000 in
set_option maxHeartbeats 4000000 in
theorem Item.shift (a : It) (by' : Int) (w : World) :
  Calls Tryz.prog 22 #[a.val, .int .u64 by'] w (Ans (It.val (It.mk (IntKind.u64.wrap (a.t + by')) a.r a.v a.i (IntKind.u64.wrap (a.u + by')) a.s a.y)) w) := by
 have HI0 : Hid (I1 w a ((w.alloc (.cells #[.int .u64 a.t, .int .u32 a.r, .int .u32 a.v, .int .i64 a.i, .int .u64 a.u, .int .u32 a.s, .int .u32 a.y] 57)).alloc (.cells #[.int .u64 0, .int .u32 0, .int .u32 0, .int .i64 0, .int .u64 0, .int .u32 0, .int .u32 0] 57))) := hid
  ⟨(Cs.new7 _ _ _).alloc _, ⟨It.mk 0 0 0 0 0 0 0, by have := Cs.new7 (w.alloc (.cells #[.int .u64 a.t, .int .u32 a.r, .int .u32 a.v, .int .i64 a.i, .int .u64 a.u, .int .u32 a.s, .int .u32 a.y] 57)) 57 (It.mk 0 0 0 0 0 0 0); simp only [World.size_alloc] at this; exact this⟩, ((Below.refl _ _).alloc (Nat.le_refl _) _).alloc (by simp) _⟩
 unfold It.val;go_enter Tryz.func22, Tryz.ntmps22;go_wp2_with fail;generalize ((w.alloc (.cells #[.int .u64 a.t, .int .u32 a.r, .int .u32 a.v, .int .i64 a.i, .int .u64 a.u, .int .u32 a.s, .int .u32 a.y] 57)).alloc (.cells #[.int .u64 0, .int .u32 0, .int .u32 0, .int .i64 0, .int .u64 0, .int .u32 0, .int .u32 0] 57)) = W0 at HI0 ⊢;refine wp_region_steady (S := I1 w a) 11 (by kernel_rfl) (HI0.out.drew) ?_;refine tV 0 ?_;try simp only [tdy]
 refine tU 1 (v := ?_) rfl (by kernel_rfl) (fun _ _ _ h => h) (by rfl) ?_ ?_;rotate_left
 ·intro wq hSw;obtain ⟨p0, p1, p2, p3, p4, p5, p6⟩ := It.at a hSw.1;go_simp; try with_reducible rfl
 try simp only [tdy]
 refine tV 2 ?_;try simp only [tdy]
 refine tV 4 ?_;try simp only [tdy]
 refine tU 5 (v := ?_) rfl (by kernel_rfl) (fun _ _ _ h => h) (by rfl) ?_ ?_;rotate_left
 ·intro wq hSw;obtain ⟨p0, p1, p2, p3, p4, p5, p6⟩ := It.at a hSw.1;go_simp; try with_reducible rfl
 try simp only [tdy]
 refine tV 6 ?_;try simp only [tdy]
 refine tU 7 (v := ?_) rfl (by kernel_rfl) (fun _ _ _ h => h) (by rfl) ?_ ?_;rotate_left
 ·intro wq hSw;obtain ⟨p0, p1, p2, p3, p4, p5, p6⟩ := It.at a hSw.1;go_simp; try with_reducible rfl
 try simp only [tdy]
 refine tV 8 ?_;try simp only [tdy]
 refine wpAnyU_take (i := 3) (v := .agg #[.int .u64 (IntKind.u64.wrap (a.t + by')), .int .u32 a.r, .int .u32 a.v]) rfl (by kernel_rfl) (by kernel_rfl) (by kernel_rfl) (by kernel_rfl) (fun _ _ _ h => h) (Or.inl ⟨by rfl, fun wq hSw => ?_⟩) ?_
 ·refine SteadyRun.of_calls (Pos.shift a.t a.r a.v by' wq) (by go_simp) ?_;rintro e wr ⟨rfl, hb⟩;exact ⟨rfl, hSw.below hb⟩
 try simp only [tdy]
 refine wpAnyU_take (i := 9) (v := .agg #[.int .u64 (IntKind.u64.wrap (a.u + by')), .int .u32 a.s, .int .u32 a.y]) rfl (by kernel_rfl) (by kernel_rfl) (by kernel_rfl) (by kernel_rfl) (fun _ _ _ h => h) (Or.inl ⟨by rfl, fun wq hSw => ?_⟩) ?_
 ·refine SteadyRun.of_calls (Pos.shift a.u a.s a.y by' wq) (by go_simp) ?_;rintro e wr ⟨rfl, hb⟩;exact ⟨rfl, hSw.below hb⟩
 try simp only [tdy]
 refine tV 10 ?_;try simp only [tdy]
 refine wpAnyU_last rfl rfl (by kernel_rfl) (fun wz hSz => ?_);refine wpList_store_it 57 infoItem rfl (.tmp 4) (.tmp 15) rfl (w.heap.size + 1) 0 (It.mk (IntKind.u64.wrap (a.t + by')) a.r a.v a.i (IntKind.u64.wrap (a.u + by')) a.s a.y) (by rfl) (by rfl) hSz.there ?_;have HW := hid (hSz.store (It.mk (IntKind.u64.wrap (a.t + by')) a.r a.v a.i (IntKind.u64.wrap (a.u + by')) a.s a.y));clear hSz;generalize wz.setCells (w.heap.size + 1) 0 (It.cells (It.mk (IntKind.u64.wrap (a.t + by')) a.r a.v a.i (IntKind.u64.wrap (a.u + by')) a.s a.y)) = W at HW ⊢;obtain ⟨z0, z1, z2, z3, z4, z5, z6⟩ := HW.out.1;go_wp2_with fail;refine bodyPost_ret (v := It.val (It.mk (IntKind.u64.wrap (a.t + by')) a.r a.v a.i (IntKind.u64.wrap (a.u + by')) a.s a.y)) (by simp [results, Tryz.results22, go_sem, z0, z1, z2, z3, z4, z5, z6]) rfl ⟨rfl, HW.out.2⟩
end


section
open Go.RowKit
def Bl (W w : World) : Prop := Below W.heap.size W w
theorem Bl.drew (W : World) : Bl W W.drew := (Below.refl _ _).drew
theorem Bl.on {W w w' : World} (h : Bl W w) (hb : Below w.heap.size w w') : Bl W w' := below_on h hb
def Tho (w : World) (b o : Nat) (x : It) : Prop := w.cell? ⟨b, o, none⟩ = some (.int .u64 x.t) ∧ w.cell? ⟨b, o + 1, none⟩ = some (.int .u32 x.r) ∧ w.cell? ⟨b, o + 2, none⟩ = some (.int .u32 x.v) ∧ w.cell? ⟨b, o + 3, none⟩ = some (.int .i64 x.i) ∧ w.cell? ⟨b, o + 4, none⟩ = some (.int .u64 x.u) ∧ w.cell? ⟨b, o + 5, none⟩ = some (.int .u32 x.s) ∧ w.cell? ⟨b, o + 6, none⟩ = some (.int .u32 x.y)
theorem Tho.below {w w' : World} {b o : Nat} {x : It} (h : Tho w b o x) (hb : Below w.heap.size w w') : Tho w' b o x := ⟨keep1 hb h.1, keep1 hb h.2.1, keep1 hb h.2.2.1, keep1 hb h.2.2.2.1, keep1 hb h.2.2.2.2.1, keep1 hb h.2.2.2.2.2.1, keep1 hb h.2.2.2.2.2.2⟩
abbrev It.zero : It := It.mk 0 0 0 0 0 0 0
theorem It.zero_in : It.zero.In := by unfold It.In; refine ⟨?_, ?_, ?_, ?_, ?_, ?_, ?_⟩ <;> exact ⟨by decide, by decide⟩
def RdI (w : World) (A : Option Addr) (n : Nat) (l : List It) : Prop :=
 l.length = n ∧ ∀ i, i < n → ∃ b off, A = some ⟨b, off, none⟩ ∧ b < w.heap.size ∧ ∀ j, j < n → Tho w b (off + j * 7) (l.getD j It.zero)
theorem RdI.below {w w' : World} {A : Option Addr} {n : Nat} {l : List It} (h : RdI w A n l) (hb : Below w.heap.size w w') : RdI w' A n l :=
 ⟨h.1, fun i hi => by
  obtain ⟨b, off, e, hl, hc⟩ := h.2 i hi;exact ⟨b, off, e, Nat.lt_of_lt_of_le hl hb.size, fun j hj => (hc j hj).below hb⟩⟩
def InI (l : List It) : Prop := ∀ x ∈ l, x.In
theorem InI.get {l : List It} (h : InI l) {k : Nat} (hk : k < l.length) : (l.getD k It.zero).In := by
 have e : l.getD k It.zero = l[k] := by simp [List.getD, hk]
 rw [e]; exact h _ (List.getElem_mem hk)
def sooner (a b : It) : It := if It.due b a then b else a
theorem sooner_in {a b : It} (ha : a.In) (hb : b.In) : (sooner a b).In := by unfold sooner; split; exact hb; exact ha
theorem fold_in (l : List It) (hl : InI l) : ∀ a : It, a.In → (l.foldl sooner a).In := by
 induction l with
 | nil => intro a ha; exact ha
 | cons b l ih => intro a ha; exact ih (fun x hx => hl x (by simp [hx])) _ (sooner_in ha (hl b (by simp)))
theorem fold_take {l : List It} {k : Nat} (hk : k < l.length) (a : It) : (l.take (k + 1)).foldl sooner a = sooner ((l.take k).foldl sooner a) (l.getD k It.zero) := by
 have e : l.getD k It.zero = l[k] := by simp [List.getD, hk]
 rw [e, List.take_succ_eq_append_getElem hk, List.foldl_append]; rfl
def Sv (w : World) (a : It) (w' : World) : Prop := Cs w' w.heap.size a.cells ∧ (∃ b : It, Cs w' (w.heap.size + 1) b.cells) ∧ Below w.heap.size w w'
theorem Sv.below {w w1 w2 : World} {a : It} (h : Sv w a w1) (hb : Below w1.heap.size w1 w2) : Sv w a w2 := ⟨h.1.below hb, by obtain ⟨b, hc⟩ := h.2.1; exact ⟨b, hc.below hb⟩, below_on h.2.2 hb⟩
theorem Sv.store {w w1 : World} {a : It} (h : Sv w a w1) (k : It) : Sv w k (w1.setCells w.heap.size 0 k.cells) := by
 obtain ⟨h1, ⟨b, h2⟩, h3⟩ := h;exact ⟨h1.stored k, ⟨b, h2.fars (by omega) _ _⟩, below_sets (Nat.le_refl _) _ _ h3⟩
theorem Sv.answer {w w1 : World} {a : It} (h : Sv w a w1) (k : It) : Th (w1.setCells (w.heap.size + 1) 0 k.cells) (w.heap.size + 1) k ∧ Below w.heap.size w (w1.setCells (w.heap.size + 1) 0 k.cells) := by
 obtain ⟨b, hc⟩ := h.2.1;exact ⟨(hc.stored k).th7, below_sets (by omega) _ _ h.2.2⟩
theorem Sv.there1 {w w1 : World} {a : It} (h : Sv w a w1) : w1.there (w.heap.size + 1) 0 7 := by obtain ⟨b, hc⟩ := h.2.1; exact hc.there7
set_option maxRecDepth 100000 in
set_option maxHeartbeats 4000000 in
theorem Item.soonest (a : It) (A : Option Addr) (n c : Nat) (l : List It) (w : World) (ha : a.In) (hr : RdI w A n l) (hl : InI l) (hn : n ≤ 1000000) :
  Calls Tryz.prog 131 #[a.val, .slice A n c] w (Ans (It.val (l.foldl sooner a)) w) := by
 have HA := hid ha;have HR := hid hr;have HL := hid hl;have hni : (n : Int) ≤ 1000000 := by omega
 have HS0 : Hid (Sv w a ((w.alloc (.cells #[.int .u64 a.t, .int .u32 a.r, .int .u32 a.v, .int .i64 a.i, .int .u64 a.u, .int .u32 a.s, .int .u32 a.y] 57)).alloc (.cells #[.int .u64 0, .int .u32 0, .int .u32 0, .int .i64 0, .int .u64 0, .int .u32 0, .int .u32 0] 57))) := hid
  ⟨(Cs.new7 _ _ _).alloc _, ⟨It.zero, by have := Cs.new7 (w.alloc (.cells #[.int .u64 a.t, .int .u32 a.r, .int .u32 a.v, .int .i64 a.i, .int .u64 a.u, .int .u32 a.s, .int .u32 a.y] 57)) 57 It.zero; simp only [World.size_alloc] at this; exact this⟩, ((Below.refl _ _).alloc (Nat.le_refl _) _).alloc (by simp) _⟩
 clear ha hr hl;unfold It.val;go_enter Tryz.func131, Tryz.ntmps131;go_wp2_with fail;generalize ((w.alloc (.cells #[.int .u64 a.t, .int .u32 a.r, .int .u32 a.v, .int .i64 a.i, .int .u64 a.u, .int .u32 a.s, .int .u32 a.y] 57)).alloc (.cells #[.int .u64 0, .int .u32 0, .int .u32 0, .int .i64 0, .int .u64 0, .int .u32 0, .int .u32 0] 57)) = W0 at HS0 ⊢
 go_loopg [9] n (fun s i wr => ∃ k : Nat, i = .int .i64 k ∧ k ≤ n ∧ s = n - k ∧ Sv w ((l.take k).foldl sooner a) wr)
 case atStart => exact ⟨0, rfl, Nat.zero_le _, by omega, HS0.out⟩
 case round =>
  obtain ⟨k, rfl, hk, hs, hv⟩ := hrel;have HS := hid hs;have HV := hid hv;clear hs hv HS0;by_cases hkn : k < n
  ·obtain ⟨b, off, hA, _, hc⟩ := (HR.out.below HV.out.2.2).2 0 (by omega);obtain ⟨p0, p1, p2, p3, p4, p5, p6⟩ := hc k hkn;have HX := hid (HL.out.get (show k < l.length by have := HR.out.1; omega));have HF := hid (fold_take (show k < l.length by have := HR.out.1; omega) a);have HC := hid (fold_in (l.take k) (fun x hx => HL.out x (List.mem_of_mem_take hx)) a HA.out);generalize l.getD k It.zero = x at *
   generalize (l.take k).foldl sooner a = y at *
   subst hA;have hki : (k : Int) < n := by omega
   clear hc;have HB1 := hid ((Below.refl wr.heap.size wr).alloc (Nat.le_refl _) (.cells #[.int .u64 x.t, .int .u32 x.r, .int .u32 x.v, .int .i64 x.i, .int .u64 x.u, .int .u32 x.s, .int .u32 x.y] 57));obtain ⟨q0, q1, q2, q3, q4, q5, q6⟩ := It.at y (HV.out.below HB1.out).1;have HX1 : Hid (Cs (wr.alloc (.cells #[.int .u64 x.t, .int .u32 x.r, .int .u32 x.v, .int .i64 x.i, .int .u64 x.u, .int .u32 x.s, .int .u32 x.y] 57)) wr.heap.size x.cells) := hid (Cs.new7 _ _ _);go_wp2_with fail;refine (Item.due x y HX.out HC.out _).mono ?_;rintro e w1 ⟨rfl, hb⟩;have HV1 := hid ((HV.out.below HB1.out).below hb);have HX2 := hid (HX1.out.below hb);clear p0 p1 p2 p3 p4 p5 p6 q0 q1 q2 q3 q4 q5 q6 hb HB1 HX1;cases hd : It.due x y with
   | true =>
    have HD : Hid ((l.take (k + 1)).foldl sooner a = x) := hid (by rw [HF.out, sooner, if_pos hd]);clear hd;obtain ⟨p0, p1, p2, p3, p4, p5, p6⟩ := It.at x HX2.out;have hth := HV1.out.1.there7;go_wp2_with (((with_reducible refine wpList_put_it 57 infoItem rfl (.tmp 2) (.tmp 16) rfl w.heap.size 0 x hth ?h1 ?h2 ?h3); (case h1 => rfl); (case h2 => rfl); (intro W2 hW2); (have HV2 := hid (hW2 ▸ HV1.out.store x : Sv w x W2)); (clear hW2 p0 p1 p2 p3 p4 p5 p6)));go_roundg (n - (k + 1))
    case measure => have := HS.out; omega
    case rel => exact ⟨k + 1, by go_num, by omega, rfl, by rw [HD.out]; exact HV2.out⟩
   | false =>
    have HD : Hid ((l.take (k + 1)).foldl sooner a = y) := hid (by rw [HF.out, sooner, if_neg (by rw [hd]; simp)]);clear hd;go_wp2_with fail;go_roundg (n - (k + 1))
    case measure => have := HS.out; omega
    case rel => exact ⟨k + 1, by go_num, by omega, rfl, by rw [HD.out]; exact HV1.out⟩
  ·obtain rfl : k = n := by omega
   have hki : ¬ (k : Int) < k := by omega
   have hq := HV.out;rw [List.take_of_length_le (by have := HR.out.1; omega)] at hq;have HQ := hid hq;clear hq;generalize l.foldl sooner a = y at *
   obtain ⟨q0, q1, q2, q3, q4, q5, q6⟩ := It.at y HQ.out.1;have hth := HQ.out.there1;have HAN : Hid (∀ W, W = wr.setCells (w.heap.size + 1) 0 y.cells → Th W (w.heap.size + 1) y ∧ Below w.heap.size w W) := hid (fun W e => by rw [e]; exact HQ.out.answer y);go_wp2_with ((with_reducible refine wpList_put_it 57 infoItem rfl (.tmp 4) (.tmp 18) rfl (w.heap.size + 1) 0 y hth ?k1 ?k2 ?k3); (case k1 => rfl); (case k2 => rfl); (intro W2 hW2); (have HW := hid (HAN.out W2 hW2)); (clear hW2 q0 q1 q2 q3 q4 q5 q6); (obtain ⟨z0, z1, z2, z3, z4, z5, z6⟩ := HW.out.1));refine bodyPost_ret (v := It.val y) (by simp [results, Tryz.results131, go_sem, z0, z1, z2, z3, z4, z5, z6]) rfl ⟨rfl, HW.out.2⟩
end


section
open Go.RowKit
def VS (w : World) (L : List (Nat × List Value)) (W : World) : Prop :=
 (∀ (k g : Nat) (vs : List Value), L[k]? = some (g, vs) → Cs W g vs ∧ w.heap.size ≤ g ∧ g < W.heap.size) ∧ (L.map (·.1)).Nodup ∧ Below w.heap.size w W
theorem VS.nil (w : World) : VS w [] w := ⟨fun k g vs h => by simp at h, List.nodup_nil, Below.refl _ _⟩
theorem VS.cs {w W : World} {L : List (Nat × List Value)} (h : VS w L W) (k : Nat) {g : Nat} {vs : List Value} (e : L[k]? = some (g, vs)) : Cs W g vs := (h.1 k g vs e).1
theorem VS.bel {w W : World} {L : List (Nat × List Value)} (h : VS w L W) : Below w.heap.size w W := h.2.2
theorem VS.below {w W W2 : World} {L : List (Nat × List Value)} (h : VS w L W) (hb : Below W.heap.size W W2) : VS w L W2 :=
 ⟨fun k g vs e => ⟨(h.1 k g vs e).1.below hb, (h.1 k g vs e).2.1, Nat.lt_of_lt_of_le (h.1 k g vs e).2.2 hb.size⟩, h.2.1, below_on h.2.2 hb⟩
theorem VS.new {w W : World} {L : List (Nat × List Value)} (h : VS w L W) (T : TypeId) (vs : List Value) : VS w (L ++ [(W.heap.size, vs)]) (W.alloc (.cells vs.toArray T)) := by
 have hb := (Below.refl W.heap.size W).alloc (Nat.le_refl _) (.cells vs.toArray T);have h2 := h.below hb;refine ⟨fun k g us e => ?_, ?_, h2.2.2⟩
 ·rw [List.getElem?_append] at e;split at e
  ·exact h2.1 k g us e
  ·rcases hk : k - L.length with _ | j
   ·rw [hk] at e;simp at e;obtain ⟨rfl, rfl⟩ := e;exact ⟨Cs.alloc_new6 W T vs, h.2.2.size, by simp⟩
   ·rw [hk] at e; simp at e
 ·rw [List.map_append, List.nodup_append];refine ⟨h.2.1, by simp, fun a ha b hb e => ?_⟩;simp at hb;obtain ⟨x, hx, e2⟩ := List.mem_map.1 ha;obtain ⟨k, hk⟩ := List.getElem?_of_mem hx;have := (h.1 k x.1 x.2 hk).2.2;omega
theorem VS.puts {w W : World} {L : List (Nat × List Value)} (h : VS w L W) (k : Nat) {g : Nat} {us : List Value} (e : L[k]? = some (g, us)) (o : Nat) (vs : List Value) (hl : o + vs.length ≤ us.length) : VS w (L.set k (g, setL us o vs)) (W.setCells g o vs) := by
 have hg := h.1 k g us e;have hsz : ∀ (vs : List Value) (o : Nat) (W : World), (W.setCells g o vs).heap.size = W.heap.size := by
  intro vs
  induction vs with
  | nil => intro o W; rfl
  | cons v r ih => intro o W; exact (ih (o + 1) _).trans (by simp)
 have hkl : k < L.length := by
  rcases Nat.lt_or_ge k L.length with c | c
  ·exact c
  ·rw [List.getElem?_eq_none c] at e; cases e
 refine ⟨fun j b ts ej => ?_, ?_, below_sets hg.2.1 _ _ h.2.2⟩
 ·rw [hsz];by_cases c : k = j
  ·subst c;rw [List.getElem?_set_self hkl] at ej;injection ej with ej;injection ej with e1 e2;subst e1 e2;exact ⟨Cs.putL vs o hg.1 hl, hg.2⟩
  ·rw [List.getElem?_set_ne c] at ej;have hj := h.1 j b ts ej;refine ⟨hj.1.fars ?_ _ _, hj.2⟩;intro e';subst e';have n := List.pairwise_iff_getElem.1 h.2.1;have hjl : j < L.length := by
    rcases Nat.lt_or_ge j L.length with d | d
    ·exact d
    ·rw [List.getElem?_eq_none d] at ej; cases ej
   rw [List.getElem?_eq_getElem hkl] at e;rw [List.getElem?_eq_getElem hjl] at ej;injection e with e;injection ej with ej;rcases Nat.lt_or_gt_of_ne c with d | d
   ·have := n k j (by simpa using hkl) (by simpa using hjl) d;simp [e, ej] at this
   ·have := n j k (by simpa using hjl) (by simpa using hkl) d;simp [e, ej] at this
 ·have : (L.set k (g, setL us o vs)).map (·.1) = L.map (·.1) := by
   rw [List.map_set]
   apply List.ext_getElem?
   intro i;by_cases c : k = i
   ·subst c;rw [List.getElem?_set_self (by simpa using hkl)];simp [e]
   ·rw [List.getElem?_set_ne c]
  rw [this]; exact h.2.1
theorem VS.stays (w : World) (L : List (Nat × List Value)) : Stays (VS w L) := fun _ _ h hb => h.below hb
theorem wpList_put_vs {ops : Array Oper} {rest : List Oper} {op : Oper} {a : Act} {w W : World} {Q : Exit → Act → World → Prop} {L : List (Nat × List Value)} (h : VS w L W) (k : Nat) (T : TypeId) (vs : List Value) {n : Nat} (hT : (Tryz.prog.info? T).map (·.size) = some n) (hgd : op.guard = none) (x y : Operand) (ho : op.op = .store T x y)
  (g : Nat) (us : List Value) (hk : L[k]? = some (g, us)) (o : Nat) (hn : vs.length = n) (hl : o + n ≤ us.length) (h1 : vs.all (·.oneCell') = true) (hx : a.eval x = .pointer (some ⟨g, o, none⟩)) (hy : a.eval y = .agg vs.toArray)
  (hK : ∀ W2, VS w (L.set k (g, setL us o vs)) W2 → wpList Tryz.prog ops Q rest (a.put op.dst undef) W2) : wpList Tryz.prog ops Q (op :: rest) a W :=
 wpList_store_mid hgd T x y ho g o vs.toArray hx hy (by
   intro j hj;have hc := h.cs k hk;have hj' : o + j < us.length := by simp at hj; omega
   exact ⟨by rw [(hc _ _ (List.getElem?_eq_getElem hj')).1]; rfl, (hc _ _ (List.getElem?_eq_getElem hj')).2⟩) (by rw [hT, ← hn]; simp) (by simpa using h1) (hK _ (by simpa using h.puts k hk o vs (by omega)))
theorem pvs {ops : Array Oper} {rest : List Oper} {op : Oper} {a : Act} {w W : World} {Q : Exit → Act → World → Prop} {L : List (Nat × List Value)} (h : VS w L W) (k : Nat) (T : TypeId) (vs : List Value) {n : Nat} (hT : (Tryz.prog.info? T).map (·.size) = some n) (x y : Nat) (g : Nat) (us : List Value) (o : Nat)
  (hK : ∀ W2, VS w (L.set k (g, setL us o vs)) W2 → wpList Tryz.prog ops Q rest (a.put op.dst undef) W2) (hk : L[k]? = some (g, us) := by kernel_rfl) (hgd : op.guard = none := by rfl) (ho : op.op = .store T (.tmp x) (.tmp y) := by rfl)
  (hn : vs.length = n := by kernel_rfl) (hl : decide (o + n ≤ us.length) = true := by kernel_rfl) (h1 : vs.all (·.oneCell') = true := by kernel_rfl) (hx : a.eval (.tmp x) = .pointer (some ⟨g, o, none⟩) := by kernel_rfl) (hy : a.eval (.tmp y) = .agg vs.toArray := by kernel_rfl) : wpList Tryz.prog ops Q (op :: rest) a W :=
 wpList_put_vs h k T vs hT hgd (.tmp x) (.tmp y) ho g us hk o hn (of_decide_eq_true hl) h1 hx hy hK
structure Rq where
 a : It
 l : Int
 s : Int
 z : Bool
def Rq.cells (r : Rq) : List Value := [.int .u64 r.a.t, .int .u32 r.a.r, .int .u32 r.a.v, .int .i64 r.a.i, .int .u64 r.a.u, .int .u32 r.a.s, .int .u32 r.a.y, .int .u64 r.l, .int .u64 r.s, .bool r.z]
abbrev Rq.val (r : Rq) : Value := .agg #[.int .u64 r.a.t, .int .u32 r.a.r, .int .u32 r.a.v, .int .i64 r.a.i, .int .u64 r.a.u, .int .u32 r.a.s, .int .u32 r.a.y, .int .u64 r.l, .int .u64 r.s, .bool r.z]
def Rq.In (r : Rq) : Prop := r.a.In ∧ IsT r.l ∧ IsT r.s
abbrev Rq.no : Rq := ⟨It.zero, 0, 0, false⟩
theorem Rq.at {w : World} {g : Nat} (r : Rq) (h : Cs w g r.cells) : w.cell? ⟨g, 0, none⟩ = some (.int .u64 r.a.t) ∧ w.cell? ⟨g, 1, none⟩ = some (.int .u32 r.a.r) ∧ w.cell? ⟨g, 2, none⟩ = some (.int .u32 r.a.v) ∧ w.cell? ⟨g, 3, none⟩ = some (.int .i64 r.a.i) ∧ w.cell? ⟨g, 4, none⟩ = some (.int .u64 r.a.u) ∧ w.cell? ⟨g, 5, none⟩ = some (.int .u32 r.a.s) ∧ w.cell? ⟨g, 6, none⟩ = some (.int .u32 r.a.y) ∧ w.cell? ⟨g, 7, none⟩ = some (.int .u64 r.l) ∧ w.cell? ⟨g, 8, none⟩ = some (.int .u64 r.s) ∧ w.cell? ⟨g, 9, none⟩ = some (.bool r.z) :=
 ⟨(h 0 _ rfl).1, (h 1 _ rfl).1, (h 2 _ rfl).1, (h 3 _ rfl).1, (h 4 _ rfl).1, (h 5 _ rfl).1, (h 6 _ rfl).1, (h 7 _ rfl).1, (h 8 _ rfl).1, (h 9 _ rfl).1⟩
def slI (n : Int) : Bool := decide (1 ≤ n ∧ n ≤ 1099511627776)
def gw (n : Int) : Int := IntKind.u64.wrap (1048576 * n)
theorem gw_T (n : Int) : IsT (gw n) := by unfold gw IsT; rw [IntKind.wrap_u64]; omega
theorem gw_eq {n : Int} (h0 : 0 ≤ n) (h1 : n ≤ 1099511627776) : gw n = 1048576 * n := by unfold gw; rw [IntKind.wrap_u64]; omega
def dueP (p : P3) (n : Int) : P3 := atP p.1 (gw n + p.2.1) p.2.2
def Rq.pp (r : Rq) : P3 := (r.a.t, r.a.r, r.a.v)
def Rq.dp (r : Rq) : P3 := (r.a.u, r.a.s, r.a.y)
def Rq.due (r : Rq) : P3 := dueP r.pp r.l
def Rq.right (r : Rq) : Bool := r.a.right && slI r.l && slI r.s && (r.a.u == r.due.1 && r.a.s == r.due.2.1 && r.a.y == r.due.2.2)
def Rq.from_ (r : Rq) (p : P3) : Rq := ⟨⟨p.1, p.2.1, p.2.2, r.a.i, (dueP p r.l).1, (dueP p r.l).2.1, (dueP p r.l).2.2⟩, r.l, r.s, r.z⟩
theorem Rq.pp_in {r : Rq} (h : r.In) : PIn r.pp := ⟨h.1.1, h.1.2.1, h.1.2.2.1⟩
theorem slI_iff {n : Int} : slI n = true ↔ (1 ≤ n ∧ n ≤ 1099511627776) := by unfold slI; rw [decide_eq_true_eq]
theorem dueP_of {p : P3} (h : IsP p.2.1 p.2.2) {n : Int} (h0 : 0 ≤ n) (h1 : n ≤ 1099511627776) : dueP p n = (adv p.1 ((1048576 * n + p.2.1) / p.2.2), (1048576 * n + p.2.1) % p.2.2, p.2.2) := by
 unfold dueP atP;rw [gw_eq h0 h1, if_pos (atOk_iff.2 (move_ok h (by omega) (by omega)))]
theorem dueP_P {p : P3} (h : IsP p.2.1 p.2.2) {n : Int} (h0 : 0 ≤ n) (h1 : n ≤ 1099511627776) : IsP (dueP p n).2.1 (dueP p n).2.2 := by
 rw [dueP_of h h0 h1]; exact move_P h
theorem posOk_iff {r v : Int} (hr : 0 ≤ r) : posOk r v = true ↔ IsP r v := by
 unfold posOk IsP; simp only [Bool.and_eq_true, decide_eq_true_eq]; omega
theorem from_right {r : Rq} {p : P3} (hp : IsP p.2.1 p.2.2) (hi : 0 < r.a.i) (hl : slI r.l = true) (hs : slI r.s = true) : (r.from_ p).right = true := by
 have l1 := slI_iff.1 hl;have e := dueP_of hp (n := r.l) (by omega) l1.2;have h2 := dueP_P hp (n := r.l) (by omega) l1.2;have h3 := move_since (T := p.1) hp (a := 1048576 * r.l) (by omega) (by omega);have h4 := quot_bd hp (a := 1048576 * r.l) (by omega) (by omega);have h5 := quot_le hp (a := 1048576 * r.l) (by omega);have hd : (r.from_ p).due = dueP p r.l := rfl;unfold Rq.right;rw [hd];unfold It.right Rq.from_;simp only;rw [hl, hs, (posOk_iff hp.2.2.1).2 hp, (posOk_iff h2.2.2.1).2 h2];rw [e];simp only [h3];have c1 : decide (0 < r.a.i) = true := by simpa using hi
 have c2 : decide (0 ≤ (1048576 * r.l + p.2.1) / p.2.2) = true := by simpa using h4.1
 have c3 : decide ((1048576 * r.l + p.2.1) / p.2.2 ≤ 1152921504606846976) = true := by simp; omega
 rw [c1, c2, c3];simp
theorem right_parts {r : Rq} (h : r.In) (hr : r.right = true) : IsP r.a.r r.a.v ∧ 0 < r.a.i ∧ slI r.l = true ∧ slI r.s = true ∧ r.dp = r.due ∧ r.a.right = true := by
 unfold Rq.right at hr;simp only [Bool.and_eq_true, beq_iff_eq] at hr;obtain ⟨⟨⟨h1, h2⟩, h3⟩, ⟨h4, h5⟩, h6⟩ := hr;have h0 := h1;unfold It.right at h0;simp only [Bool.and_eq_true, decide_eq_true_eq] at h0;exact ⟨(posOk_iff h.1.2.1.1).1 h0.1.1.1.1.1, h0.1.1.2, h2, h3, Prod.ext h4 (Prod.ext h5 h6), h1⟩
theorem right_eq {r : Rq} (h : r.In) (hr : r.right = true) : r.from_ r.pp = r := by
 obtain ⟨_, _, _, _, h5, _⟩ := right_parts h hr;obtain ⟨⟨t, rr, v, i, u, s, y⟩, l, sl, z⟩ := r;unfold Rq.from_ Rq.pp;unfold Rq.dp Rq.due Rq.pp at h5;simp only at h5 ⊢;rw [← h5]
end


section
open Go.RowKit
set_option maxRecDepth 100000
set_option maxHeartbeats 32000000
theorem infoReq : (Tryz.prog.info? 59).map (·.size) = some 10 := by kernel_rfl
theorem Req.slice (n : Int) (w : World) : Calls Tryz.prog 135 #[.int .u64 n] w (Ans (.bool (slI n)) w) := by
 unfold slI;by_cases h1 : 1 ≤ n
 ·by_cases h2 : n ≤ 1099511627776
  ·have e : decide (1 ≤ n ∧ n ≤ 1099511627776) = true := by rw [decide_eq_true_eq]; exact ⟨h1, h2⟩
   rw [e];clear e;go_enter Tryz.func135, Tryz.ntmps135
   go_wp2
   go_ret
   exact ⟨rfl, Below.refl _ _⟩
  ·have e : decide (1 ≤ n ∧ n ≤ 1099511627776) = false := by rw [decide_eq_false_iff_not]; omega
   rw [e];clear e;go_enter Tryz.func135, Tryz.ntmps135
   go_wp2
   go_ret
   exact ⟨rfl, Below.refl _ _⟩
 ·have e : decide (1 ≤ n ∧ n ≤ 1099511627776) = false := by rw [decide_eq_false_iff_not]; omega
  rw [e];clear e;go_enter Tryz.func135, Tryz.ntmps135
  go_wp2
  go_ret
  exact ⟨rfl, Below.refl _ _⟩
theorem Pos.moveD (t r v n : Int) (hp : PIn (t, r, v)) (w : World) : Calls Tryz.prog 140 #[.agg #[.int .u64 t, .int .u32 r, .int .u32 v], .int .u64 (gw n)] w (Ans (.tuple #[pv (dueP (t, r, v) n), .bool (atOk (gw n + r) v)]) w) :=
 Pos.moveF (p := (t, r, v)) hp (gw_T n).1 (gw_T n).2 w
section
attribute [local go_sem] Pos.eqB
theorem Req.due (r : Rq) (hr : r.In) (w : World) : Calls Tryz.prog 93 #[r.val] w (Ans (pv r.due) w) := by
 have HR := hid hr;obtain ⟨d, hd⟩ : ∃ d, dueP (r.a.t, r.a.r, r.a.v) r.l = d := ⟨_, rfl⟩
 have HD : Hid (dueP (r.a.t, r.a.r, r.a.v) r.l = d) := hid hd;have e1 : IntKind.u64.wrap (1048576 * r.l) = gw r.l := rfl;rw [show r.due = d from hd];clear hr hd;unfold Rq.val;have HV0 : Hid (VS w [(w.heap.size, r.cells), (w.heap.size + 1, [.int .u64 0, .int .u32 0, .int .u32 0])] ((w.alloc (.cells #[.int .u64 r.a.t, .int .u32 r.a.r, .int .u32 r.a.v, .int .i64 r.a.i, .int .u64 r.a.u, .int .u32 r.a.s, .int .u32 r.a.y, .int .u64 r.l, .int .u64 r.s, .bool r.z] 59)).alloc (.cells #[.int .u64 0, .int .u32 0, .int .u32 0] 55))) := hid (by have h := (((VS.nil w).new 59 r.cells).new 55 [.int .u64 0, .int .u32 0, .int .u32 0]); (try simp only [World.size_alloc] at h); exact h);go_enter Tryz.func93, Tryz.ntmps93;go_wp2_with fail;generalize ((w.alloc (.cells #[.int .u64 r.a.t, .int .u32 r.a.r, .int .u32 r.a.v, .int .i64 r.a.i, .int .u64 r.a.u, .int .u32 r.a.s, .int .u32 r.a.y, .int .u64 r.l, .int .u64 r.s, .bool r.z] 59)).alloc (.cells #[.int .u64 0, .int .u32 0, .int .u32 0] 55)) = W0 at HV0 ⊢;obtain ⟨c0, c1, c2, c3, c4, c5, c6, c7, c8, c9⟩ := Rq.at r (HV0.out.cs 0 rfl);go_wp2_with fail;refine (Pos.moveD r.a.t r.a.r r.a.v r.l (Rq.pp_in HR.out) _).mono ?_;rw [HD.out];rintro e w1 ⟨rfl, hb⟩;have HV1 := hid (HV0.out.below hb);clear hb HV0 e1 c0 c1 c2 c3 c4 c5 c6 c7 c8 c9;have HV2 : Hid (VS w _ (w1.alloc (.cells #[.int .u64 0, .int .u32 0, .int .u32 0] 55))) := hid (HV1.out.new 55 [.int .u64 0, .int .u32 0, .int .u32 0]);clear HV1;go_wp2_with (first | ((with_reducible refine pvs HV2.out 2 55 [.int .u64 d.1, .int .u32 d.2.1, .int .u32 d.2.2] infoPos 3 13 (w1.heap.size) ([.int .u64 0, .int .u32 0, .int .u32 0]) 0 ?vs1); (intro W2 hW2); (have HV3 := hid hW2); (clear hW2 HV2); (obtain ⟨q0, q1, q2⟩ := P3.at d (HV3.out.cs 2 rfl))) | ((with_reducible refine pvs HV3.out 1 55 [.int .u64 d.1, .int .u32 d.2.1, .int .u32 d.2.2] infoPos 2 15 (w.heap.size + 1) ([.int .u64 0, .int .u32 0, .int .u32 0]) 0 ?vs2); (intro W2 hW2); (have HV4 := hid hW2); (clear hW2 HV3); (clear q0 q1 q2); (obtain ⟨q0, q1, q2⟩ := P3.at d (HV4.out.cs 1 rfl))) | fail)
 refine bodyPost_ret (v := pv d) (by simp [results, Tryz.results93, go_sem, q0, q1, q2]) rfl ⟨rfl, HV4.out.bel⟩
theorem Req.right (r : Rq) (hr : r.In) (w : World) : Calls Tryz.prog 89 #[r.val] w (Ans (.bool r.right) w) := by
 have HR := hid hr;clear hr;unfold Rq.val;cases h1 : It.right r.a with
 | false =>
  have H1 := hid h1;clear h1;have HE : Hid (r.right = false) := hid (by unfold Rq.right; rw [H1.out]; rfl);rw [HE.out];have HV0 : Hid (VS w [(w.heap.size, r.cells)] (w.alloc (.cells #[.int .u64 r.a.t, .int .u32 r.a.r, .int .u32 r.a.v, .int .i64 r.a.i, .int .u64 r.a.u, .int .u32 r.a.s, .int .u32 r.a.y, .int .u64 r.l, .int .u64 r.s, .bool r.z] 59))) := hid (by have h := ((VS.nil w).new 59 r.cells); (try simp only [World.size_alloc] at h); exact h);go_enter Tryz.func89, Tryz.ntmps89;go_wp2_with fail;generalize (w.alloc (.cells #[.int .u64 r.a.t, .int .u32 r.a.r, .int .u32 r.a.v, .int .i64 r.a.i, .int .u64 r.a.u, .int .u32 r.a.s, .int .u32 r.a.y, .int .u64 r.l, .int .u64 r.s, .bool r.z] 59)) = W0 at HV0 ⊢;refine wp_region_grow (S := VS w [(w.heap.size, r.cells)]) 22 (by kernel_rfl) (HV0.out.below (Below.refl _ _).drew) ?_;refine tF 0 (VS.stays w _) (fun _ h => h) ?_;try simp only [tdy]
  refine tG 1 (VS.stays w _) (fun _ h => h) (fun _ hSw => Rq.at r (hSw.cs 0 rfl)) ?_;try simp only [tdy]
  refine tC 2 (v := .bool false) (VS.stays w _) (fun _ h => h) (fun wq hSw => (Item.right r.a wq).mono (by rintro e w' ⟨rfl, hb⟩; exact ⟨by rw [H1.out], hb⟩ : ∀ e w', Ans (.bool (It.right r.a)) wq e w' → Ans (.bool false) wq e w')) ?_;try simp only [tdy]
  refine tF 3 (VS.stays w _) (fun _ h => h) ?_;try simp only [tdy]
  refine wpAnyE_take (i := 4) (v := undef) (VS.stays w _) (fun _ h => h) rfl (by kernel_rfl) (by kernel_rfl) (by kernel_rfl) (by kernel_rfl) (fun _ _ _ h => h) (Or.inr ⟨by rfl, rfl⟩) ?_;try simp only [tdy]
  refine wpAnyE_take (i := 5) (v := undef) (VS.stays w _) (fun _ h => h) rfl (by kernel_rfl) (by kernel_rfl) (by kernel_rfl) (by kernel_rfl) (fun _ _ _ h => h) (Or.inr ⟨by rfl, rfl⟩) ?_;try simp only [tdy]
  refine wpAnyE_take (i := 6) (v := undef) (VS.stays w _) (fun _ h => h) rfl (by kernel_rfl) (by kernel_rfl) (by kernel_rfl) (by kernel_rfl) (fun _ _ _ h => h) (Or.inr ⟨by rfl, rfl⟩) ?_;try simp only [tdy]
  refine tF 7 (VS.stays w _) (fun _ h => h) ?_;try simp only [tdy]
  refine tF 8 (VS.stays w _) (fun _ h => h) ?_;try simp only [tdy]
  refine wpAnyE_take (i := 9) (v := undef) (VS.stays w _) (fun _ h => h) rfl (by kernel_rfl) (by kernel_rfl) (by kernel_rfl) (by kernel_rfl) (fun _ _ _ h => h) (Or.inr ⟨by rfl, rfl⟩) ?_;try simp only [tdy]
  refine wpAnyE_take (i := 10) (v := undef) (VS.stays w _) (fun _ h => h) rfl (by kernel_rfl) (by kernel_rfl) (by kernel_rfl) (by kernel_rfl) (fun _ _ _ h => h) (Or.inr ⟨by rfl, rfl⟩) ?_;try simp only [tdy]
  refine wpAnyE_take (i := 11) (v := undef) (VS.stays w _) (fun _ h => h) rfl (by kernel_rfl) (by kernel_rfl) (by kernel_rfl) (by kernel_rfl) (fun _ _ _ h => h) (Or.inr ⟨by rfl, rfl⟩) ?_;try simp only [tdy]
  refine tF 12 (VS.stays w _) (fun _ h => h) ?_;try simp only [tdy]
  refine tF 13 (VS.stays w _) (fun _ h => h) ?_;try simp only [tdy]
  refine wpAnyE_take (i := 14) (v := undef) (VS.stays w _) (fun _ h => h) rfl (by kernel_rfl) (by kernel_rfl) (by kernel_rfl) (by kernel_rfl) (fun _ _ _ h => h) (Or.inr ⟨by rfl, rfl⟩) ?_;try simp only [tdy]
  refine wpAnyE_take (i := 15) (v := undef) (VS.stays w _) (fun _ h => h) rfl (by kernel_rfl) (by kernel_rfl) (by kernel_rfl) (by kernel_rfl) (fun _ _ _ h => h) (Or.inr ⟨by rfl, rfl⟩) ?_;try simp only [tdy]
  refine wpAnyE_take (i := 16) (v := undef) (VS.stays w _) (fun _ h => h) rfl (by kernel_rfl) (by kernel_rfl) (by kernel_rfl) (by kernel_rfl) (fun _ _ _ h => h) (Or.inr ⟨by rfl, rfl⟩) ?_;try simp only [tdy]
  refine wpAnyE_take (i := 17) (v := undef) (VS.stays w _) (fun _ h => h) rfl (by kernel_rfl) (by kernel_rfl) (by kernel_rfl) (by kernel_rfl) (fun _ _ _ h => h) (Or.inr ⟨by rfl, rfl⟩) ?_;try simp only [tdy]
  refine wpAnyE_take (i := 18) (v := undef) (VS.stays w _) (fun _ h => h) rfl (by kernel_rfl) (by kernel_rfl) (by kernel_rfl) (by kernel_rfl) (fun _ _ _ h => h) (Or.inr ⟨by rfl, rfl⟩) ?_;try simp only [tdy]
  refine wpAnyE_take (i := 19) (v := undef) (VS.stays w _) (fun _ h => h) rfl (by kernel_rfl) (by kernel_rfl) (by kernel_rfl) (by kernel_rfl) (fun _ _ _ h => h) (Or.inr ⟨by rfl, rfl⟩) ?_;try simp only [tdy]
  refine tF 20 (VS.stays w _) (fun _ h => h) ?_;try simp only [tdy]
  refine tF 21 (VS.stays w _) (fun _ h => h) ?_;try simp only [tdy]
  refine wpAnyE_done (by kernel_rfl) (fun wz hSz => ?_) _;go_wp2_with fail;go_ret
  exact ⟨rfl, hSz.bel⟩
 | true =>
  cases h2 : slI r.l with
  | false =>
   have H1 := hid h1;have H2 := hid h2;clear h1 h2;have HE : Hid (r.right = false) := hid (by unfold Rq.right; rw [H1.out, H2.out]; rfl);rw [HE.out];have HV0 : Hid (VS w [(w.heap.size, r.cells)] (w.alloc (.cells #[.int .u64 r.a.t, .int .u32 r.a.r, .int .u32 r.a.v, .int .i64 r.a.i, .int .u64 r.a.u, .int .u32 r.a.s, .int .u32 r.a.y, .int .u64 r.l, .int .u64 r.s, .bool r.z] 59))) := hid (by have h := ((VS.nil w).new 59 r.cells); (try simp only [World.size_alloc] at h); exact h);go_enter Tryz.func89, Tryz.ntmps89;go_wp2_with fail;generalize (w.alloc (.cells #[.int .u64 r.a.t, .int .u32 r.a.r, .int .u32 r.a.v, .int .i64 r.a.i, .int .u64 r.a.u, .int .u32 r.a.s, .int .u32 r.a.y, .int .u64 r.l, .int .u64 r.s, .bool r.z] 59)) = W0 at HV0 ⊢;refine wp_region_grow (S := VS w [(w.heap.size, r.cells)]) 22 (by kernel_rfl) (HV0.out.below (Below.refl _ _).drew) ?_;refine tF 0 (VS.stays w _) (fun _ h => h) ?_;try simp only [tdy]
   refine tG 1 (VS.stays w _) (fun _ h => h) (fun _ hSw => Rq.at r (hSw.cs 0 rfl)) ?_;try simp only [tdy]
   refine tC 2 (v := .bool true) (VS.stays w _) (fun _ h => h) (fun wq hSw => (Item.right r.a wq).mono (by rintro e w' ⟨rfl, hb⟩; exact ⟨by rw [H1.out], hb⟩ : ∀ e w', Ans (.bool (It.right r.a)) wq e w' → Ans (.bool true) wq e w')) ?_;try simp only [tdy]
   refine tF 3 (VS.stays w _) (fun _ h => h) ?_;try simp only [tdy]
   refine tF 4 (VS.stays w _) (fun _ h => h) ?_;try simp only [tdy]
   refine tG 5 (VS.stays w _) (fun _ h => h) (fun _ hSw => Rq.at r (hSw.cs 0 rfl)) ?_;try simp only [tdy]
   refine tC 6 (v := .bool false) (VS.stays w _) (fun _ h => h) (fun wq hSw => (Req.slice r.l wq).mono (by rintro e w' ⟨rfl, hb⟩; exact ⟨by rw [H2.out], hb⟩ : ∀ e w', Ans (.bool (slI r.l)) wq e w' → Ans (.bool false) wq e w')) ?_;try simp only [tdy]
   refine tF 7 (VS.stays w _) (fun _ h => h) ?_;try simp only [tdy]
   refine tF 8 (VS.stays w _) (fun _ h => h) ?_;try simp only [tdy]
   refine wpAnyE_take (i := 9) (v := undef) (VS.stays w _) (fun _ h => h) rfl (by kernel_rfl) (by kernel_rfl) (by kernel_rfl) (by kernel_rfl) (fun _ _ _ h => h) (Or.inr ⟨by rfl, rfl⟩) ?_;try simp only [tdy]
   refine wpAnyE_take (i := 10) (v := undef) (VS.stays w _) (fun _ h => h) rfl (by kernel_rfl) (by kernel_rfl) (by kernel_rfl) (by kernel_rfl) (fun _ _ _ h => h) (Or.inr ⟨by rfl, rfl⟩) ?_;try simp only [tdy]
   refine wpAnyE_take (i := 11) (v := undef) (VS.stays w _) (fun _ h => h) rfl (by kernel_rfl) (by kernel_rfl) (by kernel_rfl) (by kernel_rfl) (fun _ _ _ h => h) (Or.inr ⟨by rfl, rfl⟩) ?_;try simp only [tdy]
   refine tF 12 (VS.stays w _) (fun _ h => h) ?_;try simp only [tdy]
   refine tF 13 (VS.stays w _) (fun _ h => h) ?_;try simp only [tdy]
   refine wpAnyE_take (i := 14) (v := undef) (VS.stays w _) (fun _ h => h) rfl (by kernel_rfl) (by kernel_rfl) (by kernel_rfl) (by kernel_rfl) (fun _ _ _ h => h) (Or.inr ⟨by rfl, rfl⟩) ?_;try simp only [tdy]
   refine wpAnyE_take (i := 15) (v := undef) (VS.stays w _) (fun _ h => h) rfl (by kernel_rfl) (by kernel_rfl) (by kernel_rfl) (by kernel_rfl) (fun _ _ _ h => h) (Or.inr ⟨by rfl, rfl⟩) ?_;try simp only [tdy]
   refine wpAnyE_take (i := 16) (v := undef) (VS.stays w _) (fun _ h => h) rfl (by kernel_rfl) (by kernel_rfl) (by kernel_rfl) (by kernel_rfl) (fun _ _ _ h => h) (Or.inr ⟨by rfl, rfl⟩) ?_;try simp only [tdy]
   refine wpAnyE_take (i := 17) (v := undef) (VS.stays w _) (fun _ h => h) rfl (by kernel_rfl) (by kernel_rfl) (by kernel_rfl) (by kernel_rfl) (fun _ _ _ h => h) (Or.inr ⟨by rfl, rfl⟩) ?_;try simp only [tdy]
   refine wpAnyE_take (i := 18) (v := undef) (VS.stays w _) (fun _ h => h) rfl (by kernel_rfl) (by kernel_rfl) (by kernel_rfl) (by kernel_rfl) (fun _ _ _ h => h) (Or.inr ⟨by rfl, rfl⟩) ?_;try simp only [tdy]
   refine wpAnyE_take (i := 19) (v := undef) (VS.stays w _) (fun _ h => h) rfl (by kernel_rfl) (by kernel_rfl) (by kernel_rfl) (by kernel_rfl) (fun _ _ _ h => h) (Or.inr ⟨by rfl, rfl⟩) ?_;try simp only [tdy]
   refine tF 20 (VS.stays w _) (fun _ h => h) ?_;try simp only [tdy]
   refine tF 21 (VS.stays w _) (fun _ h => h) ?_;try simp only [tdy]
   refine wpAnyE_done (by kernel_rfl) (fun wz hSz => ?_) _;go_wp2_with fail;go_ret
   exact ⟨rfl, hSz.bel⟩
  | true =>
   cases h3 : slI r.s with
   | false =>
    have H1 := hid h1;have H2 := hid h2;have H3 := hid h3;clear h1 h2 h3;have HE : Hid (r.right = false) := hid (by unfold Rq.right; rw [H1.out, H2.out, H3.out]; rfl);rw [HE.out];have HV0 : Hid (VS w [(w.heap.size, r.cells)] (w.alloc (.cells #[.int .u64 r.a.t, .int .u32 r.a.r, .int .u32 r.a.v, .int .i64 r.a.i, .int .u64 r.a.u, .int .u32 r.a.s, .int .u32 r.a.y, .int .u64 r.l, .int .u64 r.s, .bool r.z] 59))) := hid (by have h := ((VS.nil w).new 59 r.cells); (try simp only [World.size_alloc] at h); exact h);go_enter Tryz.func89, Tryz.ntmps89;go_wp2_with fail;generalize (w.alloc (.cells #[.int .u64 r.a.t, .int .u32 r.a.r, .int .u32 r.a.v, .int .i64 r.a.i, .int .u64 r.a.u, .int .u32 r.a.s, .int .u32 r.a.y, .int .u64 r.l, .int .u64 r.s, .bool r.z] 59)) = W0 at HV0 ⊢;refine wp_region_grow (S := VS w [(w.heap.size, r.cells)]) 22 (by kernel_rfl) (HV0.out.below (Below.refl _ _).drew) ?_;refine tF 0 (VS.stays w _) (fun _ h => h) ?_;try simp only [tdy]
    refine tG 1 (VS.stays w _) (fun _ h => h) (fun _ hSw => Rq.at r (hSw.cs 0 rfl)) ?_;try simp only [tdy]
    refine tC 2 (v := .bool true) (VS.stays w _) (fun _ h => h) (fun wq hSw => (Item.right r.a wq).mono (by rintro e w' ⟨rfl, hb⟩; exact ⟨by rw [H1.out], hb⟩ : ∀ e w', Ans (.bool (It.right r.a)) wq e w' → Ans (.bool true) wq e w')) ?_;try simp only [tdy]
    refine tF 3 (VS.stays w _) (fun _ h => h) ?_;try simp only [tdy]
    refine tF 4 (VS.stays w _) (fun _ h => h) ?_;try simp only [tdy]
    refine tG 5 (VS.stays w _) (fun _ h => h) (fun _ hSw => Rq.at r (hSw.cs 0 rfl)) ?_;try simp only [tdy]
    refine tC 6 (v := .bool true) (VS.stays w _) (fun _ h => h) (fun wq hSw => (Req.slice r.l wq).mono (by rintro e w' ⟨rfl, hb⟩; exact ⟨by rw [H2.out], hb⟩ : ∀ e w', Ans (.bool (slI r.l)) wq e w' → Ans (.bool true) wq e w')) ?_;try simp only [tdy]
    refine tF 7 (VS.stays w _) (fun _ h => h) ?_;try simp only [tdy]
    refine tF 8 (VS.stays w _) (fun _ h => h) ?_;try simp only [tdy]
    refine tF 9 (VS.stays w _) (fun _ h => h) ?_;try simp only [tdy]
    refine tG 10 (VS.stays w _) (fun _ h => h) (fun _ hSw => Rq.at r (hSw.cs 0 rfl)) ?_;try simp only [tdy]
    refine tC 11 (v := .bool false) (VS.stays w _) (fun _ h => h) (fun wq hSw => (Req.slice r.s wq).mono (by rintro e w' ⟨rfl, hb⟩; exact ⟨by rw [H3.out], hb⟩ : ∀ e w', Ans (.bool (slI r.s)) wq e w' → Ans (.bool false) wq e w')) ?_;try simp only [tdy]
    refine tF 12 (VS.stays w _) (fun _ h => h) ?_;try simp only [tdy]
    refine tF 13 (VS.stays w _) (fun _ h => h) ?_;try simp only [tdy]
    refine wpAnyE_take (i := 14) (v := undef) (VS.stays w _) (fun _ h => h) rfl (by kernel_rfl) (by kernel_rfl) (by kernel_rfl) (by kernel_rfl) (fun _ _ _ h => h) (Or.inr ⟨by rfl, rfl⟩) ?_;try simp only [tdy]
    refine wpAnyE_take (i := 15) (v := undef) (VS.stays w _) (fun _ h => h) rfl (by kernel_rfl) (by kernel_rfl) (by kernel_rfl) (by kernel_rfl) (fun _ _ _ h => h) (Or.inr ⟨by rfl, rfl⟩) ?_;try simp only [tdy]
    refine wpAnyE_take (i := 16) (v := undef) (VS.stays w _) (fun _ h => h) rfl (by kernel_rfl) (by kernel_rfl) (by kernel_rfl) (by kernel_rfl) (fun _ _ _ h => h) (Or.inr ⟨by rfl, rfl⟩) ?_;try simp only [tdy]
    refine wpAnyE_take (i := 17) (v := undef) (VS.stays w _) (fun _ h => h) rfl (by kernel_rfl) (by kernel_rfl) (by kernel_rfl) (by kernel_rfl) (fun _ _ _ h => h) (Or.inr ⟨by rfl, rfl⟩) ?_;try simp only [tdy]
    refine wpAnyE_take (i := 18) (v := undef) (VS.stays w _) (fun _ h => h) rfl (by kernel_rfl) (by kernel_rfl) (by kernel_rfl) (by kernel_rfl) (fun _ _ _ h => h) (Or.inr ⟨by rfl, rfl⟩) ?_;try simp only [tdy]
    refine wpAnyE_take (i := 19) (v := undef) (VS.stays w _) (fun _ h => h) rfl (by kernel_rfl) (by kernel_rfl) (by kernel_rfl) (by kernel_rfl) (fun _ _ _ h => h) (Or.inr ⟨by rfl, rfl⟩) ?_;try simp only [tdy]
    refine tF 20 (VS.stays w _) (fun _ h => h) ?_;try simp only [tdy]
    refine tF 21 (VS.stays w _) (fun _ h => h) ?_;try simp only [tdy]
    refine wpAnyE_done (by kernel_rfl) (fun wz hSz => ?_) _;go_wp2_with fail;go_ret
    exact ⟨rfl, hSz.bel⟩
   | true =>
    have H1 := hid h1;have H2 := hid h2;have H3 := hid h3;clear h1 h2 h3;have HE : Hid (r.right = (r.a.u == r.due.1 && r.a.s == r.due.2.1 && r.a.y == r.due.2.2)) := hid (by unfold Rq.right; rw [H1.out, H2.out, H3.out]; rfl);rw [HE.out];have HV0 : Hid (VS w [(w.heap.size, r.cells)] (w.alloc (.cells #[.int .u64 r.a.t, .int .u32 r.a.r, .int .u32 r.a.v, .int .i64 r.a.i, .int .u64 r.a.u, .int .u32 r.a.s, .int .u32 r.a.y, .int .u64 r.l, .int .u64 r.s, .bool r.z] 59))) := hid (by have h := ((VS.nil w).new 59 r.cells); (try simp only [World.size_alloc] at h); exact h);go_enter Tryz.func89, Tryz.ntmps89;go_wp2_with fail;generalize (w.alloc (.cells #[.int .u64 r.a.t, .int .u32 r.a.r, .int .u32 r.a.v, .int .i64 r.a.i, .int .u64 r.a.u, .int .u32 r.a.s, .int .u32 r.a.y, .int .u64 r.l, .int .u64 r.s, .bool r.z] 59)) = W0 at HV0 ⊢;refine wp_region_grow (S := VS w [(w.heap.size, r.cells)]) 22 (by kernel_rfl) (HV0.out.below (Below.refl _ _).drew) ?_;refine tF 0 (VS.stays w _) (fun _ h => h) ?_;try simp only [tdy]
    refine tG 1 (VS.stays w _) (fun _ h => h) (fun _ hSw => Rq.at r (hSw.cs 0 rfl)) ?_;try simp only [tdy]
    refine tC 2 (v := .bool true) (VS.stays w _) (fun _ h => h) (fun wq hSw => (Item.right r.a wq).mono (by rintro e w' ⟨rfl, hb⟩; exact ⟨by rw [H1.out], hb⟩ : ∀ e w', Ans (.bool (It.right r.a)) wq e w' → Ans (.bool true) wq e w')) ?_;try simp only [tdy]
    refine tF 3 (VS.stays w _) (fun _ h => h) ?_;try simp only [tdy]
    refine tF 4 (VS.stays w _) (fun _ h => h) ?_;try simp only [tdy]
    refine tG 5 (VS.stays w _) (fun _ h => h) (fun _ hSw => Rq.at r (hSw.cs 0 rfl)) ?_;try simp only [tdy]
    refine tC 6 (v := .bool true) (VS.stays w _) (fun _ h => h) (fun wq hSw => (Req.slice r.l wq).mono (by rintro e w' ⟨rfl, hb⟩; exact ⟨by rw [H2.out], hb⟩ : ∀ e w', Ans (.bool (slI r.l)) wq e w' → Ans (.bool true) wq e w')) ?_;try simp only [tdy]
    refine tF 7 (VS.stays w _) (fun _ h => h) ?_;try simp only [tdy]
    refine tF 8 (VS.stays w _) (fun _ h => h) ?_;try simp only [tdy]
    refine tF 9 (VS.stays w _) (fun _ h => h) ?_;try simp only [tdy]
    refine tG 10 (VS.stays w _) (fun _ h => h) (fun _ hSw => Rq.at r (hSw.cs 0 rfl)) ?_;try simp only [tdy]
    refine tC 11 (v := .bool true) (VS.stays w _) (fun _ h => h) (fun wq hSw => (Req.slice r.s wq).mono (by rintro e w' ⟨rfl, hb⟩; exact ⟨by rw [H3.out], hb⟩ : ∀ e w', Ans (.bool (slI r.s)) wq e w' → Ans (.bool true) wq e w')) ?_;try simp only [tdy]
    refine tF 12 (VS.stays w _) (fun _ h => h) ?_;try simp only [tdy]
    refine tF 13 (VS.stays w _) (fun _ h => h) ?_;try simp only [tdy]
    refine tF 14 (VS.stays w _) (fun _ h => h) ?_;try simp only [tdy]
    refine tF 15 (VS.stays w _) (fun _ h => h) ?_;try simp only [tdy]
    refine tG 16 (VS.stays w _) (fun _ h => h) (fun _ hSw => Rq.at r (hSw.cs 0 rfl)) ?_;try simp only [tdy]
    refine tG 17 (VS.stays w _) (fun _ h => h) (fun _ hSw => Rq.at r (hSw.cs 0 rfl)) ?_;try simp only [tdy]
    refine tC 18 (v := pv r.due) (VS.stays w _) (fun _ h => h) (fun wq hSw => Req.due r HR.out wq) ?_;try simp only [tdy]
    refine wpAnyE_take (i := 19) (v := .bool (r.a.u == r.due.1 && r.a.s == r.due.2.1 && r.a.y == r.due.2.2)) (VS.stays w _) (fun _ h => h) rfl (by kernel_rfl) (by kernel_rfl) (by kernel_rfl) (by kernel_rfl) (fun _ _ _ h => h) (SteadyB.of_yields (Or.inl ⟨by rfl, ?_⟩)) ?_
    ·intro wq hSw;go_simp;by_cases q1 : r.a.u = r.due.1 <;> by_cases q2 : r.a.s = r.due.2.1 <;> by_cases q3 : r.a.y = r.due.2.2 <;> simp [q1, q2, q3]
    try simp only [tdy]
    refine tF 20 (VS.stays w _) (fun _ h => h) ?_;try simp only [tdy]
    refine tF 21 (VS.stays w _) (fun _ h => h) ?_;try simp only [tdy]
    refine wpAnyE_done (by kernel_rfl) (fun wz hSz => ?_) _;go_wp2_with fail;go_ret
    exact ⟨rfl, hSz.bel⟩
end
end

end Go.Proofs.YtjchnkmolhgpmaaGreatDoor

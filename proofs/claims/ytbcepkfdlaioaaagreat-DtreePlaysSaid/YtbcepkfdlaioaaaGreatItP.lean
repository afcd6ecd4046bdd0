import Derived.Test.YtbcepkfdlaioaaaGreatDtreePlaysZ22
import Derived.Test.YtbcepkfdlaioaaaGreatDtreePlaysZ31
namespace Go.Proofs.YtbcepkfdlaioaaaGreat
open Go.RowKit
def Su (w : World) (a : It) (w' : World) : Prop := Cs w' (w.heap.size + 1) a.cells ∧ (∃ z : It, Cs w' w.heap.size z.cells) ∧ Below w.heap.size w w'
theorem Su.below {w w1 w2 : World} {a : It} (h : Su w a w1) (hb : Below w1.heap.size w1 w2) : Su w a w2 := ⟨h.1.below hb, by obtain ⟨b, hc⟩ := h.2.1; exact ⟨b, hc.below hb⟩, below_on h.2.2 hb⟩
theorem Su.store {w w1 : World} {a : It} (h : Su w a w1) (k : It) : Su w k (w1.setCells (w.heap.size + 1) 0 k.cells) := by
 obtain ⟨h1, ⟨b, h2⟩, h3⟩ := h
 exact ⟨h1.stored k, ⟨b, h2.fars (by omega) _ _⟩, below_sets (by omega) _ _ h3⟩
theorem Su.new (w : World) (a : It) (o : Obj) (z : It) (h : Cs (w.alloc o) w.heap.size z.cells) : Su w a ((w.alloc o).alloc (.cells #[.int .u64 a.t, .int .u32 a.r, .int .u32 a.v, .int .i64 a.i, .int .u64 a.u, .int .u32 a.s, .int .u32 a.y] 48)) := by
 have h1 := Cs.new7 (w.alloc o) 48 a
 simp only [World.size_alloc] at h1
 exact ⟨h1, ⟨z, h.alloc _⟩, ((Below.refl w.heap.size w).alloc (Nat.le_refl _) _).alloc (by simp) _⟩
set_option maxRecDepth 100000 in
set_option maxHeartbeats 4000000 in
theorem Ref5.soonest (A : Option Addr) (n c : Nat) (l : List It) (w : World) (hr : RdI w A n l) (hl : InI l) (h0 : 0 < n) (hn : n ≤ 1000000) :
  Calls Tryz.prog 58 #[.slice A n c] w (Ans (It.val (l.foldl sooner (l.getD 0 It.zero))) w) := by
 have hb0 := (Below.refl w.heap.size w).alloc (Nat.le_refl _) (.cells #[.int .u64 0, .int .u32 0, .int .u32 0, .int .i64 0, .int .u64 0, .int .u32 0, .int .u32 0] 48)
 have HR := hid (hr.below hb0)
 have HR0 := hid hr
 have HL := hid hl
 have HX0 := hid (hl.get (show 0 < l.length by have := hr.1; omega))
 have hni : (n : Int) ≤ 1000000 := by omega
 have hn0 : (0 : Int) < n := by omega
 obtain ⟨bA, off, rfl, _, hc⟩ := HR.out.2 0 h0
 have hc0 := hc 0 h0
 generalize hg : l.getD 0 It.zero = a at hc0 HX0 ⊢
 have HG := hid hg
 rw [show off + 0 * 7 = off by omega] at hc0
 obtain ⟨p0, p1, p2, p3, p4, p5, p6⟩ := hc0
 have HS0 : Hid (Su w a ((w.alloc (.cells #[.int .u64 0, .int .u32 0, .int .u32 0, .int .i64 0, .int .u64 0, .int .u32 0, .int .u32 0] 48)).alloc (.cells #[.int .u64 a.t, .int .u32 a.r, .int .u32 a.v, .int .i64 a.i, .int .u64 a.u, .int .u32 a.s, .int .u32 a.y] 48))) := hid (Su.new w a (.cells #[.int .u64 0, .int .u32 0, .int .u32 0, .int .i64 0, .int .u64 0, .int .u32 0, .int .u32 0] 48) It.zero (Cs.new7 w 48 It.zero))
 clear hr hl hb0 hc hg
 go_enter Tryz.func58, Tryz.ntmps58
 go_wp2_with fail
 generalize ((w.alloc (.cells #[.int .u64 0, .int .u32 0, .int .u32 0, .int .i64 0, .int .u64 0, .int .u32 0, .int .u32 0] 48)).alloc (.cells #[.int .u64 a.t, .int .u32 a.r, .int .u32 a.v, .int .i64 a.i, .int .u64 a.u, .int .u32 a.s, .int .u32 a.y] 48)) = W0 at HS0 ⊢
 clear p0 p1 p2 p3 p4 p5 p6 HR
 go_loopg [11] n (fun s i wr => ∃ k : Nat, i = .int .i64 k ∧ k ≤ n ∧ s = n - k ∧ Su w ((l.take k).foldl sooner a) wr)
 case atStart => exact ⟨0, rfl, Nat.zero_le _, by omega, HS0.out⟩
 case round =>
  obtain ⟨k, rfl, hk, hs, hv⟩ := hrel
  have HS := hid hs
  have HV := hid hv
  have HRD := hid (HR0.out.below hv.2.2)
  clear hs hv HS0
  by_cases hkn : k < n
  ·obtain ⟨b', off', hA, _, hc⟩ := HRD.out.2 0 (by omega)
   injection hA with hA
   injection hA with e1 e2
   subst e1 e2
   obtain ⟨p0, p1, p2, p3, p4, p5, p6⟩ := hc k hkn
   have HX := hid (HL.out.get (show k < l.length by have := HRD.out.1; omega))
   have HF := hid (fold_take (show k < l.length by have := HRD.out.1; omega) a)
   have HC := hid (fold_in (l.take k) (fun x hx => HL.out x (List.mem_of_mem_take hx)) a HX0.out)
   generalize l.getD k It.zero = x at *
   generalize (l.take k).foldl sooner a = y at *
   have hki : (k : Int) < n := by omega
   have hk0 : (0 : Int) ≤ k := by omega
   clear hc
   have HB1 := hid ((Below.refl wr.heap.size wr).alloc (Nat.le_refl _) (.cells #[.int .u64 x.t, .int .u32 x.r, .int .u32 x.v, .int .i64 x.i, .int .u64 x.u, .int .u32 x.s, .int .u32 x.y] 48))
   obtain ⟨q0, q1, q2, q3, q4, q5, q6⟩ := It.at y (HV.out.below HB1.out).1
   have HX1 : Hid (Cs (wr.alloc (.cells #[.int .u64 x.t, .int .u32 x.r, .int .u32 x.v, .int .i64 x.i, .int .u64 x.u, .int .u32 x.s, .int .u32 x.y] 48)) wr.heap.size x.cells) := hid (Cs.new7 _ _ _)
   go_wp2_with fail
   refine (Ref5.due x y HX.out HC.out _).mono ?_
   rintro e w1 ⟨rfl, hb⟩
   have HV1 := hid ((HV.out.below HB1.out).below hb)
   have HX2 := hid (HX1.out.below hb)
   clear p0 p1 p2 p3 p4 p5 p6 q0 q1 q2 q3 q4 q5 q6 hb HB1 HX1
   cases hd : It.due x y with
   | true =>
    have HD : Hid ((l.take (k + 1)).foldl sooner a = x) := hid (by rw [HF.out, sooner, if_pos hd])
    clear hd
    obtain ⟨p0, p1, p2, p3, p4, p5, p6⟩ := It.at x HX2.out
    have hth := HV1.out.1.there7
    have HPT : Hid (∀ W, W = w1.setCells (w.heap.size + 1) 0 x.cells → Su w x W) := hid (fun W e => by rw [e]; exact HV1.out.store x)
    go_wp2_with (((with_reducible refine wpList_put_it 48 infoRefItem rfl (.tmp 3) (.tmp 18) rfl (w.heap.size + 1) 0 x hth ?h1 ?h2 ?h3); (case h1 => rfl); (case h2 => rfl); (intro W2 hW2); (have HV2 := hid (HPT.out W2 hW2)); (clear hW2 hth p0 p1 p2 p3 p4 p5 p6)))
    go_roundg (n - (k + 1))
    case measure => have := HS.out; omega
    case rel => exact ⟨k + 1, by go_num, by omega, rfl, by rw [HD.out]; exact HV2.out⟩
   | false =>
    have HD : Hid ((l.take (k + 1)).foldl sooner a = y) := hid (by rw [HF.out, sooner, if_neg (by rw [hd]; simp)])
    clear hd
    go_wp2_with fail
    go_roundg (n - (k + 1))
    case measure => have := HS.out; omega
    case rel => exact ⟨k + 1, by go_num, by omega, rfl, by rw [HD.out]; exact HV1.out⟩
  ·obtain rfl : k = n := by omega
   have hki : ¬ (k : Int) < k := by omega
   have hq := HV.out
   rw [List.take_of_length_le (by have := HRD.out.1; omega)] at hq
   have HQ := hid hq
   clear hq
   generalize l.foldl sooner a = y at *
   obtain ⟨q0, q1, q2, q3, q4, q5, q6⟩ := It.at y HQ.out.1
   have hth := there_it HQ.out.2.1
   have HAN := hid (answer_it (b := w.heap.size) (Nat.le_refl _) HQ.out.2.1 HQ.out.2.2 y)
   go_wp2_with ((with_reducible refine wpList_put_it 48 infoRefItem rfl (.tmp 2) (.tmp 20) rfl w.heap.size 0 y hth ?k1 ?k2 ?k3); (case k1 => rfl); (case k2 => rfl); (intro W2 hW2); (have HW := hid (HAN.out W2 hW2)); (clear hW2 q0 q1 q2 q3 q4 q5 q6); (obtain ⟨z0, z1, z2, z3, z4, z5, z6⟩ := HW.out.1))
   refine bodyPost_ret (v := It.val y) (by simp [results, Tryz.results58, go_sem, z0, z1, z2, z3, z4, z5, z6]) rfl ⟨rfl, HW.out.2⟩
end Go.Proofs.YtbcepkfdlaioaaaGreat

/- Texts of SettleShifts's proof, together. -/
import Derived.Test.YtjchnkmolhgpmaaGreatDoorSettleShiftsZ13
import Derived.Test.YtjchnkmolhgpmaaGreatDoorSettleShiftsZ0
import Derived.Test.YtjchnkmolhgpmaaGreatDoorOpenN
import Derived.Test.YtjchnkmolhgpmaaGreatDoorSettleShiftsZ9
import Derived.Test.YtjchnkmolhgpmaaGreatDoorWideD
import Derived.Test.YtjchnkmolhgpmaaGreatDoorSettleShiftsZ7
import Derived.Test.YtjchnkmolhgpmaaGreatDoorOpen
import Derived.Deep.SlicePairs
import Derived.Deep.LoopGhost
import Derived.OpenShut
namespace Go.Proofs.YtjchnkmolhgpmaaGreatDoor

section
open Go.RowKit
def M1 (w : World) (m : Mu) (w' : World) : Prop := Cs w' w.heap.size m.cells ∧ Below w.heap.size w w'
theorem M1.below {w w1 w2 : World} {m : Mu} (h : M1 w m w1) (hb : Below w1.heap.size w1 w2) : M1 w m w2 := ⟨h.1.below hb, below_on h.2 hb⟩
theorem M1.new (w : World) (m : Mu) : M1 w m (w.alloc (.cells #[.int .u64 m.b, .int .i64 (hiW m.a), .int .u64 (loW m.a), .int .u64 m.w, .int .i64 m.n] 111)) := ⟨Cs.alloc_new6 w 111 m.cells, (Below.refl w.heap.size w).alloc (Nat.le_refl _) _⟩
theorem div_wr {a b : Int} (ha : WR a) (hb : 0 < b) : WR (a / b) := by
 unfold WR at *
 have h1 : -170141183460469231731687303715884105728 * b ≤ a := by
  have := Int.mul_le_mul_of_nonneg_left (show (1 : Int) ≤ b by omega) (show (0 : Int) ≤ 170141183460469231731687303715884105728 by decide);rw [Int.neg_mul]; omega
 have h2 : a < 170141183460469231731687303715884105728 * b := by
  have := Int.mul_le_mul_of_nonneg_left (show (1 : Int) ≤ b by omega) (show (0 : Int) ≤ 170141183460469231731687303715884105728 by decide);omega
 have h3 := fl_lo hb h1;have h4 := fl_hi hb h2;omega
set_option maxRecDepth 100000 in
set_option maxHeartbeats 4000000 in
theorem Mean.floor (m : Mu) (hm : m.In) (w : World) : Calls Tryz.prog 193 #[m.val] w (Ans (.tuple #[.int .u64 m.fl.2, .bool m.fl.1]) w) := by
 have HM := hid hm;have HQ0 := hid (M1.new w m);clear hm;unfold Mu.val;cases h1 : m.right with
 | false =>
  have E : Hid (m.fl = (false, 0)) := hid (by unfold Mu.fl Mu.flOk; rw [h1, if_neg (by simp)]);rw [E.out];have H1 := hid h1;clear h1;go_enter Tryz.func193, Tryz.ntmps193;go_wp2_with fail;generalize (w.alloc (.cells #[.int .u64 m.b, .int .i64 (hiW m.a), .int .u64 (loW m.a), .int .u64 m.w, .int .i64 m.n] 111)) = W0 at HQ0 ⊢;obtain ⟨m0, m1, m2, m3, m4⟩ := Mu.at m HQ0.out.1;go_wp2_with fail;refine (Mean.right m HM.out _).mono ?_;rintro e w1 ⟨rfl, hb⟩;have HQ1 := hid (HQ0.out.below hb);clear hb HQ0 m0 m1 m2 m3 m4;rw [H1.out];go_wp2_with fail
  go_ret2
  exact ⟨rfl, HQ1.out.2⟩
 | true =>
  by_cases h2 : m.n = 0
  ·have C2 := hid (show (m.n == 0) = true by rw [h2]; rfl);have E : Hid (m.fl = (false, 0)) := hid (by unfold Mu.fl Mu.flOk; rw [h2, if_neg (by simp)]);rw [E.out];have H1 := hid h1;clear h1 h2;go_enter Tryz.func193, Tryz.ntmps193;go_wp2_with fail;generalize (w.alloc (.cells #[.int .u64 m.b, .int .i64 (hiW m.a), .int .u64 (loW m.a), .int .u64 m.w, .int .i64 m.n] 111)) = W0 at HQ0 ⊢;obtain ⟨m0, m1, m2, m3, m4⟩ := Mu.at m HQ0.out.1;go_wp2_with fail;refine (Mean.right m HM.out _).mono ?_;rintro e w1 ⟨rfl, hb⟩;have HQ1 := hid (HQ0.out.below hb);clear hb HQ0 m0 m1 m2 m3 m4;rw [H1.out];obtain ⟨m0, m1, m2, m3, m4⟩ := Mu.at m HQ1.out.1;have c2 := C2.out;go_wp2_with fail
   go_ret2
   exact ⟨rfl, HQ1.out.2⟩
  ·have h2' : (m.n == 0) = false := by simpa using h2
   have HW := hid (right_w h1 h2);have HD := hid (div_wr HM.out.2.1 (show 0 < m.w by have := HW.out; omega));cases hs : smI (m.a / m.w) with
   | false =>
    have E : Hid (m.fl = (false, 0)) := hid (by unfold Mu.fl Mu.flOk; rw [h1, hs]; simp [h2]);have H1 := hid h1;have HS := hid hs;clear h1 h2 hs;rw [E.out];go_enter Tryz.func193, Tryz.ntmps193;go_wp2_with fail;generalize (w.alloc (.cells #[.int .u64 m.b, .int .i64 (hiW m.a), .int .u64 (loW m.a), .int .u64 m.w, .int .i64 m.n] 111)) = W0 at HQ0 ⊢;obtain ⟨m0, m1, m2, m3, m4⟩ := Mu.at m HQ0.out.1;go_wp2_with fail;refine (Mean.right m HM.out _).mono ?_;rintro e w1 ⟨rfl, hb⟩;have HQ1 := hid (HQ0.out.below hb);clear hb HQ0 m0 m1 m2 m3 m4;rw [H1.out];obtain ⟨m0, m1, m2, m3, m4⟩ := Mu.at m HQ1.out.1;go_wp2_with fail;refine (Wide.divF HM.out.2.1 (by have := HW.out; omega) (by have := HW.out; omega) _).mono ?_;rintro e w2 ⟨rfl, hb⟩;have HQ2 := hid ((HQ1.out.below hb).below ((Below.refl _ _).alloc (Nat.le_refl _) (.cells #[.int .i64 (hiW (m.a / m.w)), .int .u64 (loW (m.a / m.w))] 51)));clear hb HQ1 m0 m1 m2 m3 m4 h2';go_wp2_with fail;refine (Wide.smallF HD.out _).mono ?_;rintro e w3 ⟨rfl, hb⟩;have HQ3 := hid (HQ2.out.below hb);clear hb HQ2;rw [HS.out];rw [if_neg (by decide)];go_wp2_with fail
    go_ret2
    exact ⟨rfl, HQ3.out.2⟩
   | true =>
    have E : Hid (m.fl = (true, adv m.b (m.a / m.w))) := hid (by unfold Mu.fl Mu.flOk; rw [h1, hs]; simp [h2]);have H1 := hid h1;have HS := hid hs;clear h1 h2 hs;rw [E.out];go_enter Tryz.func193, Tryz.ntmps193;go_wp2_with fail;generalize (w.alloc (.cells #[.int .u64 m.b, .int .i64 (hiW m.a), .int .u64 (loW m.a), .int .u64 m.w, .int .i64 m.n] 111)) = W0 at HQ0 ⊢;obtain ⟨m0, m1, m2, m3, m4⟩ := Mu.at m HQ0.out.1;go_wp2_with fail;refine (Mean.right m HM.out _).mono ?_;rintro e w1 ⟨rfl, hb⟩;have HQ1 := hid (HQ0.out.below hb);clear hb HQ0 m0 m1 m2 m3 m4;rw [H1.out];obtain ⟨m0, m1, m2, m3, m4⟩ := Mu.at m HQ1.out.1;go_wp2_with fail;refine (Wide.divF HM.out.2.1 (by have := HW.out; omega) (by have := HW.out; omega) _).mono ?_;rintro e w2 ⟨rfl, hb⟩;have HQ2 := hid ((HQ1.out.below hb).below ((Below.refl _ _).alloc (Nat.le_refl _) (.cells #[.int .i64 (hiW (m.a / m.w)), .int .u64 (loW (m.a / m.w))] 51)));clear hb HQ1 m0 m1 m2 m3 m4 h2';go_wp2_with fail;refine (Wide.smallF HD.out _).mono ?_;rintro e w3 ⟨rfl, hb⟩;have HQ3 := hid (HQ2.out.below hb);clear hb HQ2;rw [HS.out];rw [if_pos rfl];obtain ⟨m0, m1, m2, m3, m4⟩ := Mu.at m HQ3.out.1;go_wp2_with fail;refine (Vtime.add m.b (m.a / m.w) _).mono ?_;rintro e w4 ⟨rfl, hb⟩;have HQ4 := hid (HQ3.out.below hb);clear hb HQ3 m0 m1 m2 m3 m4;go_wp2_with fail
    go_ret2
    exact ⟨rfl, HQ4.out.2⟩
end


section
open Go.RowKit
theorem Cs.two {w : World} {g : Nat} {a b : Value} (h : Cs w g [a, b]) : w.cell? ⟨g, 0, none⟩ = some a ∧ w.cell? ⟨g, 1, none⟩ = some b := ⟨h.at0, h.at1⟩
theorem M2.new2 (w : World) (m : Mu) (p : P3) : M2 w m p [.int .i64 0, .int .u64 0] (((w.alloc (.cells #[.int .u64 m.b, .int .i64 (hiW m.a), .int .u64 (loW m.a), .int .u64 m.w, .int .i64 m.n] 111)).alloc (.cells #[.int .u64 p.1, .int .u32 p.2.1, .int .u32 p.2.2] 55)).alloc (.cells #[.int .i64 0, .int .u64 0] 51)) := by
 have h1 := Cs.alloc_new6 w 111 m.cells;have h2 := Cs.alloc_new6 (w.alloc (.cells #[.int .u64 m.b, .int .i64 (hiW m.a), .int .u64 (loW m.a), .int .u64 m.w, .int .i64 m.n] 111)) 55 (pcells p);have h3 := Cs.alloc_new6 ((w.alloc (.cells #[.int .u64 m.b, .int .i64 (hiW m.a), .int .u64 (loW m.a), .int .u64 m.w, .int .i64 m.n] 111)).alloc (.cells #[.int .u64 p.1, .int .u32 p.2.1, .int .u32 p.2.2] 55)) 51 [.int .i64 0, .int .u64 0];simp only [World.size_alloc] at h2 h3;exact ⟨(h1.alloc _).alloc _, h2.alloc _, h3, (((Below.refl w.heap.size w).alloc (Nat.le_refl _) _).alloc (by simp) _).alloc (by simp; omega) _⟩
theorem M2.put2 {w w1 : World} {m : Mu} {p : P3} {a b : Value} (h : M2 w m p [a, b] w1) {a' b' : Value} {W : World} (hW : W = w1.setCells (w.heap.size + 2) 0 [a', b']) : Cs W (w.heap.size + 2) [a', b'] ∧ Below w.heap.size w W := by
 rw [hW];exact ⟨Cs.putL [a', b'] 0 h.2.2.1 (by simp), below_sets (by omega) _ _ h.2.2.2⟩
theorem Wide.mulT {a b : Int} (ha : WR a) (b0 : -9223372036854775808 ≤ b) (b1 : b ≤ 9223372036854775807) (h : okW (a * b) = true) (w : World) : Calls Tryz.prog 126 #[wv a, .int .i64 b] w (Ans (.tuple #[wv (a * b), .bool true]) w) := by
 have := Wide.mulF ha b0 b1 w
 rwa [clW_ok h, h] at this
set_option maxRecDepth 100000 in
set_option maxHeartbeats 8000000 in
theorem Lag.undivided (m : Mu) (p : P3) (hm : m.In) (hp : PIn p) (w : World) : Calls Tryz.prog 87 #[m.val, pv p] w (Ans (.tuple #[wv (m.over p).2, .bool (m.over p).1]) w) := by
 have HM := hid hm;have HP := hid hp;clear hm hp;unfold Mu.val pv;cases h1 : m.right with
 | false =>
  have E : Hid (m.over p = (false, 0)) := hid (by unfold Mu.over Mu.ovOk; rw [h1, if_neg (by simp)]);rw [E.out];have H1 := hid h1;clear h1;have HQ0 := hid (M2.new2 w m p);go_enter Tryz.func87, Tryz.ntmps87;go_wp2_with fail;generalize (((w.alloc (.cells #[.int .u64 m.b, .int .i64 (hiW m.a), .int .u64 (loW m.a), .int .u64 m.w, .int .i64 m.n] 111)).alloc (.cells #[.int .u64 p.1, .int .u32 p.2.1, .int .u32 p.2.2] 55)).alloc (.cells #[.int .i64 0, .int .u64 0] 51)) = W0 at HQ0 ⊢;obtain ⟨m0, m1, m2, m3, m4⟩ := Mu.at m HQ0.out.1;go_wp2_with fail;refine (Mean.right m HM.out _).mono ?_;rintro e w1 ⟨rfl, hb⟩;have HQ1 := hid (HQ0.out.below hb);clear hb HQ0 m0 m1 m2 m3 m4;rw [H1.out];have HCr := hid HQ1.out.2.2.1;go_wp2_with (first | ((with_reducible refine pc 51 [.int .i64 0, .int .u64 0] infoWide 4 23 (w.heap.size + 2) _ HCr.out ?h501_6); (intro W2 hW2); (have HW := hid (HQ1.out.put2 hW2)); (clear hW2)) | fail);obtain ⟨z0, z1⟩ := HW.out.1.two;go_wp2_with fail;refine bodyPost_ret (v := .tuple #[wv 0, .bool false]) (by simp [results, Tryz.results87, go_sem, z0, z1, hiW0, loW0]) rfl ⟨rfl, HW.out.2⟩
 | true =>
 have H1 := hid h1;by_cases h2 : m.n = 0
 ·have C2 := hid (show (m.n == 0) = true by rw [h2]; rfl);have E : Hid (m.over p = (false, 0)) := hid (by unfold Mu.over Mu.ovOk; rw [h2, if_neg (by simp)]);rw [E.out];clear h1 h2;have HQ0 := hid (M2.new2 w m p);go_enter Tryz.func87, Tryz.ntmps87;go_wp2_with fail;generalize (((w.alloc (.cells #[.int .u64 m.b, .int .i64 (hiW m.a), .int .u64 (loW m.a), .int .u64 m.w, .int .i64 m.n] 111)).alloc (.cells #[.int .u64 p.1, .int .u32 p.2.1, .int .u32 p.2.2] 55)).alloc (.cells #[.int .i64 0, .int .u64 0] 51)) = W0 at HQ0 ⊢;obtain ⟨m0, m1, m2, m3, m4⟩ := Mu.at m HQ0.out.1;go_wp2_with fail;refine (Mean.right m HM.out _).mono ?_;rintro e w1 ⟨rfl, hb⟩;have HQ1 := hid (HQ0.out.below hb);clear hb HQ0 m0 m1 m2 m3 m4;rw [H1.out];obtain ⟨m0, m1, m2, m3, m4⟩ := Mu.at m HQ1.out.1;have c2 := C2.out;have HCr := hid HQ1.out.2.2.1;go_wp2_with (first | ((with_reducible refine pc 51 [.int .i64 0, .int .u64 0] infoWide 4 23 (w.heap.size + 2) _ HCr.out ?h502_6); (intro W2 hW2); (have HW := hid (HQ1.out.put2 hW2)); (clear hW2)) | fail);obtain ⟨z0, z1⟩ := HW.out.1.two;go_wp2_with fail;refine bodyPost_ret (v := .tuple #[wv 0, .bool false]) (by simp [results, Tryz.results87, go_sem, z0, z1, hiW0, loW0]) rfl ⟨rfl, HW.out.2⟩
 ·have h2' : (m.n == 0) = false := by simpa using h2
  have HW := hid (right_w h1 h2);have H2 := hid h2;clear h1 h2;cases h3 : pR p with
  | false =>
   have E : Hid (m.over p = (false, 0)) := hid (by unfold Mu.over Mu.ovOk; rw [h3, if_neg (by simp)]);rw [E.out];have H3 := hid h3;clear h3;have HQ0 := hid (M2.new2 w m p);go_enter Tryz.func87, Tryz.ntmps87;go_wp2_with fail;generalize (((w.alloc (.cells #[.int .u64 m.b, .int .i64 (hiW m.a), .int .u64 (loW m.a), .int .u64 m.w, .int .i64 m.n] 111)).alloc (.cells #[.int .u64 p.1, .int .u32 p.2.1, .int .u32 p.2.2] 55)).alloc (.cells #[.int .i64 0, .int .u64 0] 51)) = W0 at HQ0 ⊢;obtain ⟨m0, m1, m2, m3, m4⟩ := Mu.at m HQ0.out.1;go_wp2_with fail;refine (Mean.right m HM.out _).mono ?_;rintro e w1 ⟨rfl, hb⟩;have HQ1 := hid (HQ0.out.below hb);clear hb HQ0 m0 m1 m2 m3 m4;rw [H1.out];obtain ⟨m0, m1, m2, m3, m4⟩ := Mu.at m HQ1.out.1;obtain ⟨q0, q1, q2⟩ := P3.at p HQ1.out.2.1;go_wp2_with fail;refine (Pos.rightF p _).mono ?_;rintro e w2 ⟨rfl, hb⟩;have HQ2 := hid (HQ1.out.below hb);clear hb q0 q1 q2 HQ1 m0 m1 m2 m3 m4;rw [H3.out];have HCr := hid HQ2.out.2.2.1;go_wp2_with (first | ((with_reducible refine pc 51 [.int .i64 0, .int .u64 0] infoWide 4 23 (w.heap.size + 2) _ HCr.out ?h503_6); (intro W2 hW2); (have HW := hid (HQ2.out.put2 hW2)); (clear hW2)) | fail);obtain ⟨z0, z1⟩ := HW.out.1.two;go_wp2_with fail;refine bodyPost_ret (v := .tuple #[wv 0, .bool false]) (by simp [results, Tryz.results87, go_sem, z0, z1, hiW0, loW0]) rfl ⟨rfl, HW.out.2⟩
  | true =>
  have HIP := hid (pR_isP HP.out h3);have H3 := hid h3;have e1 : IntKind.i64.wrap p.2.2 = p.2.2 := by have := HIP.out; unfold IsP at this; rw [IntKind.wrap_i64]; omega
  cases h4 : okW (m.a * p.2.2) with
  | false =>
   have E : Hid (m.over p = (false, 0)) := hid (by unfold Mu.over Mu.ovOk; rw [h4, if_neg (by simp)]);rw [E.out];have H4 := hid h4;have H5 := hid (clW_no h4);clear h3 h4;have HQ0 := hid (M2.new2 w m p);go_enter Tryz.func87, Tryz.ntmps87;go_wp2_with fail;generalize (((w.alloc (.cells #[.int .u64 m.b, .int .i64 (hiW m.a), .int .u64 (loW m.a), .int .u64 m.w, .int .i64 m.n] 111)).alloc (.cells #[.int .u64 p.1, .int .u32 p.2.1, .int .u32 p.2.2] 55)).alloc (.cells #[.int .i64 0, .int .u64 0] 51)) = W0 at HQ0 ⊢;obtain ⟨m0, m1, m2, m3, m4⟩ := Mu.at m HQ0.out.1;go_wp2_with fail;refine (Mean.right m HM.out _).mono ?_;rintro e w1 ⟨rfl, hb⟩;have HQ1 := hid (HQ0.out.below hb);clear hb HQ0 m0 m1 m2 m3 m4;rw [H1.out];obtain ⟨m0, m1, m2, m3, m4⟩ := Mu.at m HQ1.out.1;obtain ⟨q0, q1, q2⟩ := P3.at p HQ1.out.2.1;go_wp2_with fail;refine (Pos.rightF p _).mono ?_;rintro e w2 ⟨rfl, hb⟩;have HQ2 := hid (HQ1.out.below hb);clear hb q0 q1 q2 HQ1 m0 m1 m2 m3 m4;rw [H3.out];obtain ⟨m0, m1, m2, m3, m4⟩ := Mu.at m HQ2.out.1;obtain ⟨q0, q1, q2⟩ := P3.at p HQ2.out.2.1;go_wp2_with fail;refine (Wide.mulF HM.out.2.1 (by have := HIP.out; unfold IsP at this; omega) (by have := HIP.out; unfold IsP at this; omega) _).mono ?_;rw [H4.out, H5.out];rintro e w3 ⟨rfl, hb⟩;have HQ3 := hid ((HQ2.out.below hb).below ((Below.refl _ _).alloc (Nat.le_refl _) (.cells #[.int .i64 (hiW 0), .int .u64 (loW 0)] 51)));have HG := hid (show Cs (w3.alloc (.cells #[.int .i64 (hiW 0), .int .u64 (loW 0)] 51)) w3.heap.size _ ∧ w.heap.size + 2 < w3.heap.size from ⟨Cs.new2 w3 51 (.int .i64 (hiW 0)) (.int .u64 (loW 0)), (HQ2.out.below hb).2.2.1.lt⟩)
   clear hb HQ2 m0 m1 m2 m3 m4 q0 q1 q2;have HCr := hid HQ3.out.2.2.1;go_wp2_with (first | ((with_reducible refine pc 51 [.int .i64 0, .int .u64 0] infoWide 4 35 (w.heap.size + 2) _ HCr.out ?h504_6); (intro W2 hW2); (have HW := hid (HQ3.out.put2 hW2)); (clear hW2)) | fail);obtain ⟨z0, z1⟩ := HW.out.1.two;go_wp2_with fail;refine bodyPost_ret (v := .tuple #[wv 0, .bool false]) (by simp [results, Tryz.results87, go_sem, z0, z1, hiW0, loW0]) rfl ⟨rfl, HW.out.2⟩
  | true =>
   have H4 := hid h4;have H5 := hid (clW_ok h4);have HD : Hid (WR (pD m.b p)) := hid (by have := pD_bd m.b HP.out; unfold WR; omega);have H6 : Hid (okW (pD m.b p * m.w) = true) := hid (by
    have e2 := pD_bdR m.b HP.out h3;have e3 := mulBd (d := pD m.b p) (M := 9671406556917033398697984) (V := 33554432) (by omega) (by omega) (show 0 ≤ m.w by have := HW.out; omega) HW.out.2.2 (by decide);exact okW_bd (by omega) (by omega))
   have E : Hid (m.over p = (okW ((m.a * p.2.2) - (pD m.b p * m.w)), clW ((m.a * p.2.2) - (pD m.b p * m.w)))) := hid (by
    unfold Mu.over Mu.ovOk Mu.ov;rw [H1.out, h3, h4];have h2 := H2.out;cases h7 : okW ((m.a * p.2.2) - (pD m.b p * m.w)) with
    | true => rw [if_pos (by simp [h2]), clW_ok h7]
    | false => rw [if_neg (by simp), clW_no h7])
   have HX1 : Hid (WR (m.a * p.2.2)) := hid (okW_iff.1 h4);have HX2 : Hid (WR (pD m.b p * m.w)) := hid (okW_iff.1 H6.out);rw [E.out];clear h3 h4;have e4 : IntKind.i64.wrap m.w = m.w := by have := HW.out; rw [IntKind.wrap_i64]; omega
   have HQ0 := hid (M2.new2 w m p);go_enter Tryz.func87, Tryz.ntmps87;go_wp2_with fail;generalize (((w.alloc (.cells #[.int .u64 m.b, .int .i64 (hiW m.a), .int .u64 (loW m.a), .int .u64 m.w, .int .i64 m.n] 111)).alloc (.cells #[.int .u64 p.1, .int .u32 p.2.1, .int .u32 p.2.2] 55)).alloc (.cells #[.int .i64 0, .int .u64 0] 51)) = W0 at HQ0 ⊢;obtain ⟨m0, m1, m2, m3, m4⟩ := Mu.at m HQ0.out.1;go_wp2_with fail;refine (Mean.right m HM.out _).mono ?_;rintro e w1 ⟨rfl, hb⟩;have HQ1 := hid (HQ0.out.below hb);clear hb HQ0 m0 m1 m2 m3 m4;rw [H1.out];obtain ⟨m0, m1, m2, m3, m4⟩ := Mu.at m HQ1.out.1;obtain ⟨q0, q1, q2⟩ := P3.at p HQ1.out.2.1;go_wp2_with fail;refine (Pos.rightF p _).mono ?_;rintro e w2 ⟨rfl, hb⟩;have HQ2 := hid (HQ1.out.below hb);clear hb q0 q1 q2 HQ1 m0 m1 m2 m3 m4;rw [H3.out];obtain ⟨m0, m1, m2, m3, m4⟩ := Mu.at m HQ2.out.1;obtain ⟨q0, q1, q2⟩ := P3.at p HQ2.out.2.1;go_wp2_with fail;refine (Wide.mulF HM.out.2.1 (by have := HIP.out; unfold IsP at this; omega) (by have := HIP.out; unfold IsP at this; omega) _).mono ?_;rw [H4.out, H5.out];rintro e w3 ⟨rfl, hb⟩;have HQ3 := hid ((HQ2.out.below hb).below ((Below.refl _ _).alloc (Nat.le_refl _) (.cells #[.int .i64 (hiW (m.a * p.2.2)), .int .u64 (loW (m.a * p.2.2))] 51)));have HG := hid (show Cs (w3.alloc (.cells #[.int .i64 (hiW (m.a * p.2.2)), .int .u64 (loW (m.a * p.2.2))] 51)) w3.heap.size _ ∧ w.heap.size + 2 < w3.heap.size from ⟨Cs.new2 w3 51 (.int .i64 (hiW (m.a * p.2.2))) (.int .u64 (loW (m.a * p.2.2))), (HQ2.out.below hb).2.2.1.lt⟩)
   clear hb HQ2 m0 m1 m2 m3 m4 q0 q1 q2;go_wp2_with fail;generalize (w3.alloc (.cells #[.int .i64 (hiW (m.a * p.2.2)), .int .u64 (loW (m.a * p.2.2))] 51)) = W3 at HQ3 HG ⊢;generalize w3.heap.size = g1 at HG ⊢;clear h2';refine wp_region_grow (S := fun wx => M2 w m p [.int .i64 0, .int .u64 0] wx ∧ (Cs wx g1 [.int .i64 (hiW (m.a * p.2.2)), .int .u64 (loW (m.a * p.2.2))] ∧ w.heap.size + 2 < g1)) 14 (by kernel_rfl) (⟨HQ3.out.below (Below.refl _ _).drew, HG.out⟩) ?_;refine tG 0 ((M2.stays w m p [.int .i64 0, .int .u64 0]).and_ (fun _ _ h hb => ⟨h.1.below hb, h.2⟩)) (fun _ h => h) (fun _ hSw => And.intro (Mu.at m hSw.1.1) (P3.at p hSw.1.2.1)) ?_;try simp only [tdy]
   refine tF 1 ((M2.stays w m p [.int .i64 0, .int .u64 0]).and_ (fun _ _ h hb => ⟨h.1.below hb, h.2⟩)) (fun _ h => h) ?_;try simp only [tdy]
   refine tG 2 ((M2.stays w m p [.int .i64 0, .int .u64 0]).and_ (fun _ _ h hb => ⟨h.1.below hb, h.2⟩)) (fun _ h => h) (fun _ hSw => And.intro (Mu.at m hSw.1.1) (P3.at p hSw.1.2.1)) ?_;try simp only [tdy]
   refine tF 4 ((M2.stays w m p [.int .i64 0, .int .u64 0]).and_ (fun _ _ h hb => ⟨h.1.below hb, h.2⟩)) (fun _ h => h) ?_;try simp only [tdy]
   refine tG 5 ((M2.stays w m p [.int .i64 0, .int .u64 0]).and_ (fun _ _ h hb => ⟨h.1.below hb, h.2⟩)) (fun _ h => h) (fun _ hSw => And.intro (Mu.at m hSw.1.1) (P3.at p hSw.1.2.1)) ?_;try simp only [tdy]
   refine tF 6 ((M2.stays w m p [.int .i64 0, .int .u64 0]).and_ (fun _ _ h hb => ⟨h.1.below hb, h.2⟩)) (fun _ h => h) ?_;try simp only [tdy]
   refine tC 3 (v := wv (pD m.b p)) ((M2.stays w m p [.int .i64 0, .int .u64 0]).and_ (fun _ _ h hb => ⟨h.1.below hb, h.2⟩)) (fun _ h => h) (fun wq hSw => Pos.distanceF m.b HP.out wq) ?_;try simp only [tdy]
   refine tC 7 (v := (.tuple #[wv (pD m.b p * m.w), .bool true])) ((M2.stays w m p [.int .i64 0, .int .u64 0]).and_ (fun _ _ h hb => ⟨h.1.below hb, h.2⟩)) (fun _ h => h) (fun wq hSw => Wide.mulT HD.out (by have := HW.out; omega) (by have := HW.out; omega) H6.out wq) ?_;try simp only [tdy]
   refine tF 8 ((M2.stays w m p [.int .i64 0, .int .u64 0]).and_ (fun _ _ h hb => ⟨h.1.below hb, h.2⟩)) (fun _ h => h) ?_;try simp only [tdy]
   refine tF 9 ((M2.stays w m p [.int .i64 0, .int .u64 0]).and_ (fun _ _ h hb => ⟨h.1.below hb, h.2⟩)) (fun _ h => h) ?_;try simp only [tdy]
   refine tF 10 ((M2.stays w m p [.int .i64 0, .int .u64 0]).and_ (fun _ _ h hb => ⟨h.1.below hb, h.2⟩)) (fun _ h => h) ?_;try simp only [tdy]
   refine wpAnyE_alloc (i := 11) (fun wx g => Cs wx g [.int .i64 0, .int .u64 0] ∧ g1 < g) rfl (by kernel_rfl) (by decide) (by rfl) ((M2.stays w m p [.int .i64 0, .int .u64 0]).and_ (fun _ _ h hb => ⟨h.1.below hb, h.2⟩)) (fun _ h => h) (fun g => (fun _ _ h hb => ⟨h.1.below hb, h.2⟩)) (fun wq hSw => ?_) (fun gA => ?_)
   ·exact ⟨_, by go_simp; (try with_reducible rfl), (Below.refl _ _).alloc (Nat.le_refl _) _, Cs.new2 _ _ _ _, hSw.2.1.lt⟩
   try simp only [tdy]
   refine wpAnyE_store (i := 12) (fun wx => (fun wx => M2 w m p [.int .i64 0, .int .u64 0] wx ∧ (Cs wx g1 [.int .i64 (hiW (m.a * p.2.2)), .int .u64 (loW (m.a * p.2.2))] ∧ w.heap.size + 2 < g1)) wx ∧ (Cs wx gA [.int .i64 (hiW (pD m.b p * m.w)), .int .u64 (loW (pD m.b p * m.w))] ∧ g1 < gA)) 51 [.int .i64 (hiW (pD m.b p * m.w)), .int .u64 (loW (pD m.b p * m.w))] [.int .i64 0, .int .u64 0] gA infoWide (.tmp 8) (.tmp 45) rfl rfl (by kernel_rfl) (by decide) (by rfl) ?st12_1a ?st12_1b ?st12_1c ?st12_1d ?st12_1e (fun _ h => h.2.1) (fun _ h => ⟨⟨h.1.1.fars (by have := h.1.2.2; have := h.2.2; omega) _, h.1.2.1.fars (by have := h.2.2; omega) _ _, h.1.2.2⟩, Cs.putL _ 0 h.2.1 (by simp), h.2.2⟩) (fun _ h => h.1) (((M2.stays w m p [.int .i64 0, .int .u64 0]).and_ (fun _ _ h hb => ⟨h.1.below hb, h.2⟩)).and_ (fun _ _ h hb => ⟨h.1.below hb, h.2⟩)) ?st12_1f
   case st12_1a => rfl
   case st12_1b => rfl
   case st12_1c => rfl
   case st12_1d => rfl
   case st12_1e => rfl
   try simp only [tdy]
   refine tF 13 (((M2.stays w m p [.int .i64 0, .int .u64 0]).and_ (fun _ _ h hb => ⟨h.1.below hb, h.2⟩)).and_ (fun _ _ h hb => ⟨h.1.below hb, h.2⟩)) (fun _ h => h.1) ?_;try simp only [tdy]
   refine wpAnyE_done (by kernel_rfl) (fun wz hSz => ?_) _;have HZ := hid hSz;have g0 := hSz.1.2.1.at0;have g2 := hSz.1.2.1.at1;have k0 := hSz.2.1.at0;have k1 := hSz.2.1.at1;clear hSz HQ3 HG;go_wp2_with fail;refine (Wide.subF HX1.out HX2.out _).mono ?_;rintro e w5 ⟨rfl, hb⟩;have HQ5 := hid (HZ.out.1.1.below hb);clear hb HZ g0 g2 k0 k1;have HCr := hid HQ5.out.2.2.1;generalize clW ((m.a * p.2.2) - (pD m.b p * m.w)) = x1 at *
   generalize okW ((m.a * p.2.2) - (pD m.b p * m.w)) = x2 at *
   go_wp2_with (first | ((with_reducible refine pc 51 [.int .i64 (hiW x1), .int .u64 (loW x1)] infoWide 4 50 (w.heap.size + 2) _ HCr.out ?h505_6); (intro W2 hW2); (have HW2 := hid (HQ5.out.put2 hW2)); (clear hW2)) | fail);obtain ⟨z0, z1⟩ := HW2.out.1.two;go_wp2_with fail;refine bodyPost_ret (v := .tuple #[wv x1, .bool x2]) (by simp [results, Tryz.results87, go_sem, z0, z1, hiW0, loW0]) rfl ⟨rfl, HW2.out.2⟩
end


section
open Go.RowKit
def R2 (w : World) (m : Mu) (w' : World) : Prop := Cs w' w.heap.size m.cells ∧ Cs w' (w.heap.size + 1) [.int .u64 0, .int .i64 0, .int .u64 0, .int .u64 0, .int .i64 0] ∧ Below w.heap.size w w'
theorem R2.below {w w1 w2 : World} {m : Mu} (h : R2 w m w1) (hb : Below w1.heap.size w1 w2) : R2 w m w2 := ⟨h.1.below hb, h.2.1.below hb, below_on h.2.2 hb⟩
theorem R2.stays (w : World) (m : Mu) : Stays (R2 w m) := fun _ _ h hb => h.below hb
theorem R2.new (w : World) (m : Mu) : R2 w m ((w.alloc (.cells #[.int .u64 m.b, .int .i64 (hiW m.a), .int .u64 (loW m.a), .int .u64 m.w, .int .i64 m.n] 111)).alloc (.cells #[.int .u64 0, .int .i64 0, .int .u64 0, .int .u64 0, .int .i64 0] 111)) := by
 have h1 := Cs.alloc_new6 w 111 m.cells;have h2 := Cs.alloc_new6 (w.alloc (.cells #[.int .u64 m.b, .int .i64 (hiW m.a), .int .u64 (loW m.a), .int .u64 m.w, .int .i64 m.n] 111)) 111 [.int .u64 0, .int .i64 0, .int .u64 0, .int .u64 0, .int .i64 0];simp only [World.size_alloc] at h2;exact ⟨h1.alloc _, h2, ((Below.refl w.heap.size w).alloc (Nat.le_refl _) _).alloc (by simp) _⟩
theorem R2.put {w w1 : World} {m : Mu} (h : R2 w m w1) {a' b' c' d' e' : Value} {W : World} (hW : W = w1.setCells (w.heap.size + 1) 0 [a', b', c', d', e']) : Cs W (w.heap.size + 1) [a', b', c', d', e'] ∧ Below w.heap.size w W := by
 rw [hW]; exact ⟨Cs.putL _ 0 h.2.1 (by simp), below_sets (by omega) _ _ h.2.2⟩
theorem R2.fars {w w1 : World} {m : Mu} (h : R2 w m w1) {g : Nat} (hg : w.heap.size + 1 < g) (vs : List Value) : R2 w m (w1.setCells g 0 vs) :=
 ⟨h.1.fars (by omega) _ _, h.2.1.fars (by omega) _ _, below_sets (by omega) _ _ h.2.2⟩
set_option maxRecDepth 100000 in
set_option maxHeartbeats 8000000 in
theorem Mean.rebase (m : Mu) (t : Int) (hm : m.In) (w : World) : Calls Tryz.prog 194 #[m.val, .int .u64 t] w (Ans (.tuple #[Mu.val (m.reb t).2, .bool (m.reb t).1]) w) := by
 have HM := hid hm;have HQ0 := hid (R2.new w m);clear hm;unfold Mu.val;cases h1 : m.right with
 | false =>
  have E : Hid (m.reb t = (false, Mu.no)) := hid (by unfold Mu.reb Mu.rebOk; rw [h1, if_neg (by simp)]);rw [E.out];have H1 := hid h1;clear h1;go_enter Tryz.func194, Tryz.ntmps194;go_wp2_with fail;generalize ((w.alloc (.cells #[.int .u64 m.b, .int .i64 (hiW m.a), .int .u64 (loW m.a), .int .u64 m.w, .int .i64 m.n] 111)).alloc (.cells #[.int .u64 0, .int .i64 0, .int .u64 0, .int .u64 0, .int .i64 0] 111)) = W0 at HQ0 ⊢;obtain ⟨m0, m1, m2, m3, m4⟩ := Mu.at m HQ0.out.1;go_wp2_with fail;refine (Mean.right m HM.out _).mono ?_;rintro e w1 ⟨rfl, hb⟩;have HQ1 := hid (HQ0.out.below hb);clear hb HQ0 m0 m1 m2 m3 m4;rw [H1.out];have HCr := hid HQ1.out.2.1;go_wp2_with (first | ((with_reducible refine pc 111 [.int .u64 0, .int .i64 0, .int .u64 0, .int .u64 0, .int .i64 0] infoMean 4 13 (w.heap.size + 1) _ HCr.out ?h1201_6); (intro W2 hW2); (have HW := hid (HQ1.out.put hW2)); (clear hW2)) | fail);obtain ⟨z0, z1, z2, z3, z4⟩ := HW.out.1.five;go_wp2_with fail;refine bodyPost_ret (v := .tuple #[Mu.val Mu.no, .bool false]) (by simp [results, Tryz.results194, go_sem, z0, z1, z2, z3, z4, hiW0, loW0]) rfl ⟨rfl, HW.out.2⟩
 | true =>
  have H1 := hid h1;have HB := hid (right_bd h1);have HDB := hid (dif_bd t m.b);have HDW : Hid (WR (dif t m.b)) := hid (by have := HDB.out; unfold WR; omega);have HLS : Hid (okW (dif t m.b * m.w) = true) := hid (by
   have e3 := mulBd (d := dif t m.b) (M := 9223372036854775808) (V := 33554432) (by have := HDB.out; omega) (by have := HDB.out; omega) HB.out.2.1 HB.out.2.2 (by decide);exact okW_bd (by omega) (by omega))
  have HX2 : Hid (WR (dif t m.b * m.w)) := hid (okW_iff.1 HLS.out);have e4 : IntKind.i64.wrap m.w = m.w := by have := HB.out; rw [IntKind.wrap_i64]; omega
  clear h1;cases h2 : okW (m.a - (dif t m.b * m.w)) with
  | false =>
   have E : Hid (m.reb t = (false, Mu.no)) := hid (by unfold Mu.reb Mu.rebOk; rw [H1.out, h2]; rw [if_neg (by simp)]);have H2 := hid h2;have H3 := hid (clW_no h2);rw [E.out];clear h2;go_enter Tryz.func194, Tryz.ntmps194;go_wp2_with fail;generalize ((w.alloc (.cells #[.int .u64 m.b, .int .i64 (hiW m.a), .int .u64 (loW m.a), .int .u64 m.w, .int .i64 m.n] 111)).alloc (.cells #[.int .u64 0, .int .i64 0, .int .u64 0, .int .u64 0, .int .i64 0] 111)) = W0 at HQ0 ⊢;obtain ⟨m0, m1, m2, m3, m4⟩ := Mu.at m HQ0.out.1;go_wp2_with fail;refine (Mean.right m HM.out _).mono ?_;rintro e w1 ⟨rfl, hb⟩;have HQ1 := hid (HQ0.out.below hb);clear hb HQ0 m0 m1 m2 m3 m4;rw [H1.out];go_wp2_with fail;refine wp_region_grow (S := R2 w m) 15 (by kernel_rfl) (HQ1.out.below (Below.refl _ _).drew) ?_;refine tF 0 (R2.stays w m) (fun _ h => h) ?_;try simp only [tdy]
   refine tF 1 (R2.stays w m) (fun _ h => h) ?_;try simp only [tdy]
   refine tG 2 (R2.stays w m) (fun _ h => h) (fun _ hSw => Mu.at m hSw.1) ?_;try simp only [tdy]
   refine tF 5 (R2.stays w m) (fun _ h => h) ?_;try simp only [tdy]
   refine tG 6 (R2.stays w m) (fun _ h => h) (fun _ hSw => Mu.at m hSw.1) ?_;try simp only [tdy]
   refine tF 7 (R2.stays w m) (fun _ h => h) ?_;try simp only [tdy]
   refine tC 3 (v := .int .i64 (dif t m.b)) (R2.stays w m) (fun _ h => h) (fun wq hSw => Vtime.since t m.b wq) ?_;try simp only [tdy]
   refine tC 4 (v := wv (dif t m.b)) (R2.stays w m) (fun _ h => h) (fun wq hSw => Wide.ofF HDB.out.1 HDB.out.2 wq) ?_;try simp only [tdy]
   refine tC 8 (v := (.tuple #[wv (dif t m.b * m.w), .bool true])) (R2.stays w m) (fun _ h => h) (fun wq hSw => Wide.mulT HDW.out (by have := HB.out; omega) (by have := HB.out; omega) HLS.out wq) ?_;try simp only [tdy]
   refine tF 9 (R2.stays w m) (fun _ h => h) ?_;try simp only [tdy]
   refine tF 10 (R2.stays w m) (fun _ h => h) ?_;try simp only [tdy]
   refine tF 11 (R2.stays w m) (fun _ h => h) ?_;try simp only [tdy]
   refine wpAnyE_alloc (i := 12) (fun wx g => Cs wx g [.int .i64 0, .int .u64 0] ∧ w.heap.size + 1 < g) rfl (by kernel_rfl) (by decide) (by rfl) (R2.stays w m) (fun _ h => h) (fun g => (fun _ _ h hb => ⟨h.1.below hb, h.2⟩)) (fun wq hSw => ?_) (fun gA => ?_)
   ·exact ⟨_, by go_simp; (try with_reducible rfl), (Below.refl _ _).alloc (Nat.le_refl _) _, Cs.new2 _ _ _ _, hSw.2.1.lt⟩
   try simp only [tdy]
   refine wpAnyE_store (i := 13) (fun wx => (R2 w m) wx ∧ (Cs wx gA [.int .i64 (hiW (dif t m.b * m.w)), .int .u64 (loW (dif t m.b * m.w))] ∧ w.heap.size + 1 < gA)) 51 [.int .i64 (hiW (dif t m.b * m.w)), .int .u64 (loW (dif t m.b * m.w))] [.int .i64 0, .int .u64 0] gA infoWide (.tmp 6) (.tmp 24) rfl rfl (by kernel_rfl) (by decide) (by rfl) ?st13_1a ?st13_1b ?st13_1c ?st13_1d ?st13_1e (fun _ h => h.2.1) (fun _ h => ⟨h.1.fars h.2.2 _, Cs.putL _ 0 h.2.1 (by simp), h.2.2⟩) (fun _ h => h.1) ((R2.stays w m).and_ (fun _ _ h hb => ⟨h.1.below hb, h.2⟩)) ?st13_1f
   case st13_1a => rfl
   case st13_1b => rfl
   case st13_1c => rfl
   case st13_1d => rfl
   case st13_1e => rfl
   try simp only [tdy]
   refine tF 14 ((R2.stays w m).and_ (fun _ _ h hb => ⟨h.1.below hb, h.2⟩)) (fun _ h => h.1) ?_;try simp only [tdy]
   refine wpAnyE_done (by kernel_rfl) (fun wz hSz => ?_) _;have HZ := hid hSz;have g0 := hSz.2.1.at0;have g1 := hSz.2.1.at1;obtain ⟨m0, m1, m2, m3, m4⟩ := Mu.at m hSz.1.1;clear hSz HQ1;go_wp2_with fail;refine (Wide.subF HM.out.2.1 HX2.out _).mono ?_;rw [H2.out, H3.out];rintro e w5 ⟨rfl, hb⟩;have HQ5 := hid ((HZ.out.1.below hb).below ((Below.refl _ _).alloc (Nat.le_refl _) (.cells #[.int .i64 (hiW 0), .int .u64 (loW 0)] 51)));clear hb HZ g0 g1 m0 m1 m2 m3 m4;have HCr := hid HQ5.out.2.1;go_wp2_with (first | ((with_reducible refine pc 111 [.int .u64 0, .int .i64 0, .int .u64 0, .int .u64 0, .int .i64 0] infoMean 4 35 (w.heap.size + 1) _ HCr.out ?h1202_6); (intro W2 hW2); (have HW := hid (HQ5.out.put hW2)); (clear hW2)) | fail);obtain ⟨z0, z1, z2, z3, z4⟩ := HW.out.1.five;go_wp2_with fail;refine bodyPost_ret (v := .tuple #[Mu.val Mu.no, .bool false]) (by simp [results, Tryz.results194, go_sem, z0, z1, z2, z3, z4, hiW0, loW0]) rfl ⟨rfl, HW.out.2⟩
  | true =>
   have E : Hid (m.reb t = (true, ⟨t, (m.a - (dif t m.b * m.w)), m.w, m.n⟩)) := hid (by unfold Mu.reb Mu.rebOk; rw [H1.out, h2]; rw [if_pos (by rfl)]);have H2 := hid h2;have H3 := hid (clW_ok h2);rw [E.out];clear h2;go_enter Tryz.func194, Tryz.ntmps194;go_wp2_with fail;generalize ((w.alloc (.cells #[.int .u64 m.b, .int .i64 (hiW m.a), .int .u64 (loW m.a), .int .u64 m.w, .int .i64 m.n] 111)).alloc (.cells #[.int .u64 0, .int .i64 0, .int .u64 0, .int .u64 0, .int .i64 0] 111)) = W0 at HQ0 ⊢;obtain ⟨m0, m1, m2, m3, m4⟩ := Mu.at m HQ0.out.1;go_wp2_with fail;refine (Mean.right m HM.out _).mono ?_;rintro e w1 ⟨rfl, hb⟩;have HQ1 := hid (HQ0.out.below hb);clear hb HQ0 m0 m1 m2 m3 m4;rw [H1.out];go_wp2_with fail;refine wp_region_grow (S := R2 w m) 15 (by kernel_rfl) (HQ1.out.below (Below.refl _ _).drew) ?_;refine tF 0 (R2.stays w m) (fun _ h => h) ?_;try simp only [tdy]
   refine tF 1 (R2.stays w m) (fun _ h => h) ?_;try simp only [tdy]
   refine tG 2 (R2.stays w m) (fun _ h => h) (fun _ hSw => Mu.at m hSw.1) ?_;try simp only [tdy]
   refine tF 5 (R2.stays w m) (fun _ h => h) ?_;try simp only [tdy]
   refine tG 6 (R2.stays w m) (fun _ h => h) (fun _ hSw => Mu.at m hSw.1) ?_;try simp only [tdy]
   refine tF 7 (R2.stays w m) (fun _ h => h) ?_;try simp only [tdy]
   refine tC 3 (v := .int .i64 (dif t m.b)) (R2.stays w m) (fun _ h => h) (fun wq hSw => Vtime.since t m.b wq) ?_;try simp only [tdy]
   refine tC 4 (v := wv (dif t m.b)) (R2.stays w m) (fun _ h => h) (fun wq hSw => Wide.ofF HDB.out.1 HDB.out.2 wq) ?_;try simp only [tdy]
   refine tC 8 (v := (.tuple #[wv (dif t m.b * m.w), .bool true])) (R2.stays w m) (fun _ h => h) (fun wq hSw => Wide.mulT HDW.out (by have := HB.out; omega) (by have := HB.out; omega) HLS.out wq) ?_;try simp only [tdy]
   refine tF 9 (R2.stays w m) (fun _ h => h) ?_;try simp only [tdy]
   refine tF 10 (R2.stays w m) (fun _ h => h) ?_;try simp only [tdy]
   refine tF 11 (R2.stays w m) (fun _ h => h) ?_;try simp only [tdy]
   refine wpAnyE_alloc (i := 12) (fun wx g => Cs wx g [.int .i64 0, .int .u64 0] ∧ w.heap.size + 1 < g) rfl (by kernel_rfl) (by decide) (by rfl) (R2.stays w m) (fun _ h => h) (fun g => (fun _ _ h hb => ⟨h.1.below hb, h.2⟩)) (fun wq hSw => ?_) (fun gA => ?_)
   ·exact ⟨_, by go_simp; (try with_reducible rfl), (Below.refl _ _).alloc (Nat.le_refl _) _, Cs.new2 _ _ _ _, hSw.2.1.lt⟩
   try simp only [tdy]
   refine wpAnyE_store (i := 13) (fun wx => (R2 w m) wx ∧ (Cs wx gA [.int .i64 (hiW (dif t m.b * m.w)), .int .u64 (loW (dif t m.b * m.w))] ∧ w.heap.size + 1 < gA)) 51 [.int .i64 (hiW (dif t m.b * m.w)), .int .u64 (loW (dif t m.b * m.w))] [.int .i64 0, .int .u64 0] gA infoWide (.tmp 6) (.tmp 24) rfl rfl (by kernel_rfl) (by decide) (by rfl) ?st13_2a ?st13_2b ?st13_2c ?st13_2d ?st13_2e (fun _ h => h.2.1) (fun _ h => ⟨h.1.fars h.2.2 _, Cs.putL _ 0 h.2.1 (by simp), h.2.2⟩) (fun _ h => h.1) ((R2.stays w m).and_ (fun _ _ h hb => ⟨h.1.below hb, h.2⟩)) ?st13_2f
   case st13_2a => rfl
   case st13_2b => rfl
   case st13_2c => rfl
   case st13_2d => rfl
   case st13_2e => rfl
   try simp only [tdy]
   refine tF 14 ((R2.stays w m).and_ (fun _ _ h hb => ⟨h.1.below hb, h.2⟩)) (fun _ h => h.1) ?_;try simp only [tdy]
   refine wpAnyE_done (by kernel_rfl) (fun wz hSz => ?_) _;have HZ := hid hSz;have g0 := hSz.2.1.at0;have g1 := hSz.2.1.at1;obtain ⟨m0, m1, m2, m3, m4⟩ := Mu.at m hSz.1.1;clear hSz HQ1;go_wp2_with fail;refine (Wide.subF HM.out.2.1 HX2.out _).mono ?_;rw [H2.out, H3.out];rintro e w5 ⟨rfl, hb⟩;have HQ5 := hid ((HZ.out.1.below hb).below ((Below.refl _ _).alloc (Nat.le_refl _) (.cells #[.int .i64 (hiW (m.a - (dif t m.b * m.w))), .int .u64 (loW (m.a - (dif t m.b * m.w)))] 51)));clear hb HZ g0 g1 m0 m1 m2 m3 m4;have HCr := hid HQ5.out.2.1;obtain ⟨m0, m1, m2, m3, m4⟩ := Mu.at m HQ5.out.1;go_wp2_with (first | ((with_reducible refine pc 111 [.int .u64 t, .int .i64 (hiW (m.a - (dif t m.b * m.w))), .int .u64 (loW (m.a - (dif t m.b * m.w))), .int .u64 m.w, .int .i64 m.n] infoMean 4 42 (w.heap.size + 1) _ HCr.out ?h1203_6); (intro W2 hW2); (have HW := hid (HQ5.out.put hW2)); (clear hW2)) | fail);clear m0 m1 m2 m3 m4;obtain ⟨z0, z1, z2, z3, z4⟩ := HW.out.1.five;go_wp2_with fail;refine bodyPost_ret (v := .tuple #[Mu.val ⟨t, (m.a - (dif t m.b * m.w)), m.w, m.n⟩, .bool true]) (by simp [results, Tryz.results194, go_sem, z0, z1, z2, z3, z4, hiW0, loW0]) rfl ⟨rfl, HW.out.2⟩
end


section
open Go.RowKit
set_option maxRecDepth 100000
set_option maxHeartbeats 32000000
theorem over_wr (m : Mu) (p : P3) : WR (m.over p).2 := by
 unfold Mu.over;split
 ·rename_i h
  unfold Mu.ovOk at h;simp only [Bool.and_eq_true] at h;exact okW_iff.1 h.2
 ·unfold WR; omega
def M2' (w : World) (m : Mu) (p : P3) (w' : World) : Prop := Cs w' w.heap.size m.cells ∧ Cs w' (w.heap.size + 1) (pcells p) ∧ Below w.heap.size w w'
theorem M2'.below {w w1 w2 : World} {m : Mu} {p : P3} (h : M2' w m p w1) (hb : Below w1.heap.size w1 w2) : M2' w m p w2 := ⟨h.1.below hb, h.2.1.below hb, below_on h.2.2 hb⟩
theorem M2'.new (w : World) (m : Mu) (p : P3) : M2' w m p ((w.alloc (.cells #[.int .u64 m.b, .int .i64 (hiW m.a), .int .u64 (loW m.a), .int .u64 m.w, .int .i64 m.n] 111)).alloc (.cells #[.int .u64 p.1, .int .u32 p.2.1, .int .u32 p.2.2] 55)) := by
 have h1 := Cs.alloc_new6 w 111 m.cells;have h2 := Cs.alloc_new6 (w.alloc (.cells #[.int .u64 m.b, .int .i64 (hiW m.a), .int .u64 (loW m.a), .int .u64 m.w, .int .i64 m.n] 111)) 55 (pcells p);simp only [World.size_alloc] at h2;exact ⟨h1.alloc _, h2, ((Below.refl w.heap.size w).alloc (Nat.le_refl _) _).alloc (by simp) _⟩
def Mu.sign (m : Mu) (p : P3) : Bool × Int := ((m.over p).1, cmpI (m.over p).2 0)
theorem Lag.sign (m : Mu) (p : P3) (hm : m.In) (hp : PIn p) (w : World) : Calls Tryz.prog 49 #[m.val, pv p] w (Ans (.tuple #[.int .i64 (m.sign p).2, .bool (m.sign p).1]) w) := by
 have HM := hid hm;have HP := hid hp;have HO := hid (over_wr m p);clear hm hp;unfold Mu.val pv;have HQ0 := hid (M2'.new w m p);go_enter Tryz.func49, Tryz.ntmps49;go_wp2_with fail;generalize ((w.alloc (.cells #[.int .u64 m.b, .int .i64 (hiW m.a), .int .u64 (loW m.a), .int .u64 m.w, .int .i64 m.n] 111)).alloc (.cells #[.int .u64 p.1, .int .u32 p.2.1, .int .u32 p.2.2] 55)) = W0 at HQ0 ⊢;obtain ⟨m0, m1, m2, m3, m4⟩ := Mu.at m HQ0.out.1;obtain ⟨q0, q1, q2⟩ := P3.at p HQ0.out.2.1;go_wp2_with fail;refine (Lag.undivided m p HM.out HP.out _).mono ?_;rintro e w1 ⟨rfl, hb⟩;have HQ1 := hid ((HQ0.out.below hb).below ((Below.refl _ _).alloc (Nat.le_refl _) (.cells #[.int .i64 (hiW (m.over p).2), .int .u64 (loW (m.over p).2)] 51)));clear hb HQ0 m0 m1 m2 m3 m4 q0 q1 q2;go_wp2_with fail;refine (Wide.signF HO.out _).mono ?_;rintro e w2 ⟨rfl, hb⟩;have HQ2 := hid (HQ1.out.below hb);clear hb HQ1;go_wp2_with fail
 go_ret2
 exact ⟨rfl, HQ2.out.2.2⟩
theorem Lag.eligible (m : Mu) (p : P3) (hm : m.In) (hp : PIn p) (w : World) : Calls Tryz.prog 72 #[m.val, pv p] w (Ans (.bool (m.elig p)) w) := by
 have HM := hid hm;have HP := hid hp;have HO := hid (over_wr m p);clear hm hp;unfold Mu.val pv;have HQ0 := hid (M2'.new w m p);have HE : Hid (m.elig p = ((m.sign p).1 && decide (0 ≤ (m.sign p).2))) := hid rfl;go_enter Tryz.func72, Tryz.ntmps72;go_wp2_with fail;generalize ((w.alloc (.cells #[.int .u64 m.b, .int .i64 (hiW m.a), .int .u64 (loW m.a), .int .u64 m.w, .int .i64 m.n] 111)).alloc (.cells #[.int .u64 p.1, .int .u32 p.2.1, .int .u32 p.2.2] 55)) = W0 at HQ0 ⊢;obtain ⟨m0, m1, m2, m3, m4⟩ := Mu.at m HQ0.out.1;obtain ⟨q0, q1, q2⟩ := P3.at p HQ0.out.2.1;go_wp2_with fail;refine (Lag.sign m p HM.out HP.out _).mono ?_;rintro e w1 ⟨rfl, hb⟩;have HQ1 := hid (HQ0.out.below hb);clear hb HQ0 m0 m1 m2 m3 m4 q0 q1 q2;generalize (m.sign p).2 = s at *
 cases hk : (m.sign p).1 with
 | false =>
  go_wp2_with fail;go_ret
  exact ⟨by rw [HE.out, hk]; rfl, HQ1.out.2.2⟩
 | true =>
  by_cases c : 0 ≤ s
  ·go_wp2_with fail;go_ret
   exact ⟨by rw [HE.out, hk]; simp [c], HQ1.out.2.2⟩
  ·go_wp2_with fail;go_ret
   exact ⟨by rw [HE.out, hk]; simp, HQ1.out.2.2⟩
theorem Lag.read (m : Mu) (p : P3) (hm : m.In) (hp : PIn p) (w : World) : Calls Tryz.prog 77 #[m.val, pv p] w (Ans (.tuple #[wv (m.lag p).2, .bool (m.lag p).1]) w) := by
 have HM := hid hm;have HP := hid hp;have HO := hid (over_wr m p);clear hm hp;unfold Mu.val pv;have HQ0 := hid (M2.new2 w m p);cases hk : m.ovOk p with
 | false =>
  have E : Hid (m.lag p = (false, 0)) := hid (by unfold Mu.lag; rw [hk, if_neg (by simp)]);have E2 : Hid (m.over p = (false, 0)) := hid (by unfold Mu.over; rw [hk, if_neg (by simp)]);rw [E.out];clear hk;go_enter Tryz.func77, Tryz.ntmps77;go_wp2_with fail;generalize (((w.alloc (.cells #[.int .u64 m.b, .int .i64 (hiW m.a), .int .u64 (loW m.a), .int .u64 m.w, .int .i64 m.n] 111)).alloc (.cells #[.int .u64 p.1, .int .u32 p.2.1, .int .u32 p.2.2] 55)).alloc (.cells #[.int .i64 0, .int .u64 0] 51)) = W0 at HQ0 ⊢;obtain ⟨m0, m1, m2, m3, m4⟩ := Mu.at m HQ0.out.1;obtain ⟨q0, q1, q2⟩ := P3.at p HQ0.out.2.1;go_wp2_with fail;refine (Lag.undivided m p HM.out HP.out _).mono ?_;rw [E2.out];rintro e w1 ⟨rfl, hb⟩;have HQ1 := hid ((HQ0.out.below hb).below ((Below.refl _ _).alloc (Nat.le_refl _) (.cells #[.int .i64 (hiW 0), .int .u64 (loW 0)] 51)));clear hb HQ0 m0 m1 m2 m3 m4 q0 q1 q2;have HCr := hid HQ1.out.2.2.1;go_wp2_with (first | ((with_reducible refine pc 51 [.int .i64 0, .int .u64 0] infoWide 4 19 (w.heap.size + 2) _ HCr.out ?h801_6); (intro W2 hW2); (have HW := hid (HQ1.out.put2 hW2)); (clear hW2)) | fail);obtain ⟨z0, z1⟩ := HW.out.1.two;go_wp2_with fail;refine bodyPost_ret (v := .tuple #[wv 0, .bool false]) (by simp [results, Tryz.results77, go_sem, z0, z1, hiW0, loW0]) rfl ⟨rfl, HW.out.2⟩
 | true =>
  have E : Hid (m.lag p = (true, m.ov p / m.w)) := hid (by unfold Mu.lag; rw [hk, if_pos rfl]);have E2 : Hid (m.over p = (true, m.ov p)) := hid (by unfold Mu.over; rw [hk, if_pos rfl]);have HW : Hid (0 < m.w ∧ m.w ≤ 33554432) := hid (by
   unfold Mu.ovOk at hk;simp only [Bool.and_eq_true, decide_eq_true_eq] at hk;have := right_w hk.1.1.1.1 hk.1.1.1.2;omega)
  have HX : Hid (WR (m.ov p)) := hid (by have := HO.out; rw [E2.out] at this; exact this);have HD := hid (div_wr HX.out HW.out.1);rw [E.out];clear hk;go_enter Tryz.func77, Tryz.ntmps77;go_wp2_with fail;generalize (((w.alloc (.cells #[.int .u64 m.b, .int .i64 (hiW m.a), .int .u64 (loW m.a), .int .u64 m.w, .int .i64 m.n] 111)).alloc (.cells #[.int .u64 p.1, .int .u32 p.2.1, .int .u32 p.2.2] 55)).alloc (.cells #[.int .i64 0, .int .u64 0] 51)) = W0 at HQ0 ⊢;obtain ⟨m0, m1, m2, m3, m4⟩ := Mu.at m HQ0.out.1;obtain ⟨q0, q1, q2⟩ := P3.at p HQ0.out.2.1;go_wp2_with fail;refine (Lag.undivided m p HM.out HP.out _).mono ?_;rw [E2.out];rintro e w1 ⟨rfl, hb⟩;have HQ1 := hid ((HQ0.out.below hb).below ((Below.refl _ _).alloc (Nat.le_refl _) (.cells #[.int .i64 (hiW (m.ov p)), .int .u64 (loW (m.ov p))] 51)));clear hb HQ0 m0 m1 m2 m3 m4 q0 q1 q2;obtain ⟨m0, m1, m2, m3, m4⟩ := Mu.at m HQ1.out.1;go_wp2_with fail;refine (Wide.divF HX.out HW.out.1 (by have := HW.out; omega) _).mono ?_;rintro e w2 ⟨rfl, hb⟩;have HQ2 := hid ((HQ1.out.below hb).below ((Below.refl _ _).alloc (Nat.le_refl _) (.cells #[.int .i64 (hiW (m.ov p / m.w)), .int .u64 (loW (m.ov p / m.w))] 51)));clear hb HQ1 m0 m1 m2 m3 m4;have HCr := hid HQ2.out.2.2.1;go_wp2_with (first | ((with_reducible refine pc 51 [.int .i64 (hiW (m.ov p / m.w)), .int .u64 (loW (m.ov p / m.w))] infoWide 4 28 (w.heap.size + 2) _ HCr.out ?h802_6); (intro W2 hW2); (have HWW := hid (HQ2.out.put2 hW2)); (clear hW2)) | fail);obtain ⟨z0, z1⟩ := HWW.out.1.two;go_wp2_with fail
  refine bodyPost_ret (v := .tuple #[wv (m.ov p / m.w), .bool true]) (by simp [results, Tryz.results77, go_sem, z0, z1, hiW0, loW0]) rfl ⟨rfl, HWW.out.2⟩
end

end Go.Proofs.YtjchnkmolhgpmaaGreatDoor

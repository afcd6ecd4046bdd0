/- Texts of SetBack's proof, together. -/
import Derived.Test.YtjndmmcjobbcbaaGreatDoorSetBackZ13
import Derived.Test.YtjndmmcjobbcbaaGreatDoorSetBackZ0
import Derived.Test.YtjndmmcjobbcbaaGreatDoorSetBackZ10
import Derived.Test.YtjndmmcjobbcbaaGreatDoorSetBackZ9
import Derived.Test.YtjndmmcjobbcbaaGreatDoorWideD
import Derived.Test.YtjndmmcjobbcbaaGreatDoorSetBackZ7
import Derived.Deep.SlicePairs
import Derived.Deep.LoopGhost
import Derived.OpenShut
namespace Go.Proofs.YtjndmmcjobbcbaaGreatDoor

section
open Go.RowKit
def M1 (w : World) (m : Mu) (w' : World) : Prop := Cs w' w.heap.size m.cells ∧ Below w.heap.size w w'
theorem M1.below {w w1 w2 : World} {m : Mu} (h : M1 w m w1) (hb : Below w1.heap.size w1 w2) : M1 w m w2 := ⟨h.1.below hb, below_on h.2 hb⟩
theorem M1.new (w : World) (m : Mu) : M1 w m (w.alloc (.cells #[.int .u64 m.b, .int .i64 (hiW m.a), .int .u64 (loW m.a), .int .u64 m.w, .int .i64 m.n] 127)) := ⟨Cs.alloc_new6 w 127 m.cells, (Below.refl w.heap.size w).alloc (Nat.le_refl _) _⟩
theorem div_wr {a b : Int} (ha : WR a) (hb : 0 < b) : WR (a / b) := by
  unfold WR at *
  have h1 : -170141183460469231731687303715884105728 * b ≤ a := by
    have := Int.mul_le_mul_of_nonneg_left (show (1 : Int) ≤ b by omega) (show (0 : Int) ≤ 170141183460469231731687303715884105728 by decide)
    rw [Int.neg_mul]; omega
  have h2 : a < 170141183460469231731687303715884105728 * b := by
    have := Int.mul_le_mul_of_nonneg_left (show (1 : Int) ≤ b by omega) (show (0 : Int) ≤ 170141183460469231731687303715884105728 by decide)
    omega
  have h3 := fl_lo hb h1
  have h4 := fl_hi hb h2
  omega
set_option maxRecDepth 100000 in
set_option maxHeartbeats 4000000 in
theorem Mean.floor (m : Mu) (hm : m.In) (w : World) : Calls Tryz.prog 169 #[m.val] w (Ans (.tuple #[.int .u64 m.fl.2, .bool m.fl.1]) w) := by
  have HM := hid hm
  have HQ0 := hid (M1.new w m)
  clear hm
  unfold Mu.val
  cases h1 : m.right with
  | false =>
    have E : Hid (m.fl = (false, 0)) := hid (by unfold Mu.fl Mu.flOk; rw [h1, if_neg (by simp)])
    rw [E.out]
    have H1 := hid h1
    clear h1
    go_enter Tryz.func169, Tryz.ntmps169
    go_wp2_with fail
    generalize (w.alloc (.cells #[.int .u64 m.b, .int .i64 (hiW m.a), .int .u64 (loW m.a), .int .u64 m.w, .int .i64 m.n] 127)) = W0 at HQ0 ⊢
    obtain ⟨m0, m1, m2, m3, m4⟩ := Mu.at m HQ0.out.1
    go_wp2_with fail
    refine (Mean.right m HM.out _).mono ?_
    rintro e w1 ⟨rfl, hb⟩
    have HQ1 := hid (HQ0.out.below hb)
    clear hb HQ0 m0 m1 m2 m3 m4
    rw [H1.out]
    go_wp2_with fail
    go_ret2
    exact ⟨rfl, HQ1.out.2⟩
  | true =>
    by_cases h2 : m.n = 0
    · have C2 := hid (show (m.n == 0) = true by rw [h2]; rfl)
      have E : Hid (m.fl = (false, 0)) := hid (by unfold Mu.fl Mu.flOk; rw [h2, if_neg (by simp)])
      rw [E.out]
      have H1 := hid h1
      clear h1 h2
      go_enter Tryz.func169, Tryz.ntmps169
      go_wp2_with fail
      generalize (w.alloc (.cells #[.int .u64 m.b, .int .i64 (hiW m.a), .int .u64 (loW m.a), .int .u64 m.w, .int .i64 m.n] 127)) = W0 at HQ0 ⊢
      obtain ⟨m0, m1, m2, m3, m4⟩ := Mu.at m HQ0.out.1
      go_wp2_with fail
      refine (Mean.right m HM.out _).mono ?_
      rintro e w1 ⟨rfl, hb⟩
      have HQ1 := hid (HQ0.out.below hb)
      clear hb HQ0 m0 m1 m2 m3 m4
      rw [H1.out]
      obtain ⟨m0, m1, m2, m3, m4⟩ := Mu.at m HQ1.out.1
      have c2 := C2.out
      go_wp2_with fail
      go_ret2
      exact ⟨rfl, HQ1.out.2⟩
    · have h2' : (m.n == 0) = false := by simpa using h2
      have HW := hid (right_w h1 h2)
      have HD := hid (div_wr HM.out.2.1 (show 0 < m.w by have := HW.out; omega))
      cases hs : smI (m.a / m.w) with
      | false =>
        have E : Hid (m.fl = (false, 0)) := hid (by unfold Mu.fl Mu.flOk; rw [h1, hs]; simp [h2])
        have H1 := hid h1
        have HS := hid hs
        clear h1 h2 hs
        rw [E.out]
        go_enter Tryz.func169, Tryz.ntmps169
        go_wp2_with fail
        generalize (w.alloc (.cells #[.int .u64 m.b, .int .i64 (hiW m.a), .int .u64 (loW m.a), .int .u64 m.w, .int .i64 m.n] 127)) = W0 at HQ0 ⊢
        obtain ⟨m0, m1, m2, m3, m4⟩ := Mu.at m HQ0.out.1
        go_wp2_with fail
        refine (Mean.right m HM.out _).mono ?_
        rintro e w1 ⟨rfl, hb⟩
        have HQ1 := hid (HQ0.out.below hb)
        clear hb HQ0 m0 m1 m2 m3 m4
        rw [H1.out]
        obtain ⟨m0, m1, m2, m3, m4⟩ := Mu.at m HQ1.out.1
        go_wp2_with fail
        refine (Wide.divF HM.out.2.1 (by have := HW.out; omega) (by have := HW.out; omega) _).mono ?_
        rintro e w2 ⟨rfl, hb⟩
        have HQ2 := hid ((HQ1.out.below hb).below ((Below.refl _ _).alloc (Nat.le_refl _) (.cells #[.int .i64 (hiW (m.a / m.w)), .int .u64 (loW (m.a / m.w))] 45)))
        clear hb HQ1 m0 m1 m2 m3 m4 h2'
        go_wp2_with fail
        refine (Wide.smallF HD.out _).mono ?_
        rintro e w3 ⟨rfl, hb⟩
        have HQ3 := hid (HQ2.out.below hb)
        clear hb HQ2
        rw [HS.out]
        rw [if_neg (by decide)]
        go_wp2_with fail
        go_ret2
        exact ⟨rfl, HQ3.out.2⟩
      | true =>
        have E : Hid (m.fl = (true, adv m.b (m.a / m.w))) := hid (by unfold Mu.fl Mu.flOk; rw [h1, hs]; simp [h2])
        have H1 := hid h1
        have HS := hid hs
        clear h1 h2 hs
        rw [E.out]
        go_enter Tryz.func169, Tryz.ntmps169
        go_wp2_with fail
        generalize (w.alloc (.cells #[.int .u64 m.b, .int .i64 (hiW m.a), .int .u64 (loW m.a), .int .u64 m.w, .int .i64 m.n] 127)) = W0 at HQ0 ⊢
        obtain ⟨m0, m1, m2, m3, m4⟩ := Mu.at m HQ0.out.1
        go_wp2_with fail
        refine (Mean.right m HM.out _).mono ?_
        rintro e w1 ⟨rfl, hb⟩
        have HQ1 := hid (HQ0.out.below hb)
        clear hb HQ0 m0 m1 m2 m3 m4
        rw [H1.out]
        obtain ⟨m0, m1, m2, m3, m4⟩ := Mu.at m HQ1.out.1
        go_wp2_with fail
        refine (Wide.divF HM.out.2.1 (by have := HW.out; omega) (by have := HW.out; omega) _).mono ?_
        rintro e w2 ⟨rfl, hb⟩
        have HQ2 := hid ((HQ1.out.below hb).below ((Below.refl _ _).alloc (Nat.le_refl _) (.cells #[.int .i64 (hiW (m.a / m.w)), .int .u64 (loW (m.a / m.w))] 45)))
        clear hb HQ1 m0 m1 m2 m3 m4 h2'
        go_wp2_with fail
        refine (Wide.smallF HD.out _).mono ?_
        rintro e w3 ⟨rfl, hb⟩
        have HQ3 := hid (HQ2.out.below hb)
        clear hb HQ2
        rw [HS.out]
        rw [if_pos rfl]
        obtain ⟨m0, m1, m2, m3, m4⟩ := Mu.at m HQ3.out.1
        go_wp2_with fail
        refine (Vtime.add m.b (m.a / m.w) _).mono ?_
        rintro e w4 ⟨rfl, hb⟩
        have HQ4 := hid (HQ3.out.below hb)
        clear hb HQ3 m0 m1 m2 m3 m4
        go_wp2_with fail
        go_ret2
        exact ⟨rfl, HQ4.out.2⟩
end


section
open Go.RowKit
theorem Wide.mulT {a b : Int} (ha : WR a) (b0 : -9223372036854775808 ≤ b) (b1 : b ≤ 9223372036854775807) (h : okW (a * b) = true) (w : World) : Calls Tryz.prog 174 #[wv a, .int .i64 b] w (Ans (.tuple #[wv (a * b), .bool true]) w) := by
  have := Wide.mulF ha b0 b1 w
  rwa [clW_ok h, h] at this
end


section
open Go.RowKit
def R2 (w : World) (m : Mu) (w' : World) : Prop := Cs w' w.heap.size m.cells ∧ Cs w' (w.heap.size + 1) [.int .u64 0, .int .i64 0, .int .u64 0, .int .u64 0, .int .i64 0] ∧ Below w.heap.size w w'
theorem R2.below {w w1 w2 : World} {m : Mu} (h : R2 w m w1) (hb : Below w1.heap.size w1 w2) : R2 w m w2 := ⟨h.1.below hb, h.2.1.below hb, below_on h.2.2 hb⟩
theorem R2.stays (w : World) (m : Mu) : Stays (R2 w m) := fun _ _ h hb => h.below hb
theorem R2.new (w : World) (m : Mu) : R2 w m ((w.alloc (.cells #[.int .u64 m.b, .int .i64 (hiW m.a), .int .u64 (loW m.a), .int .u64 m.w, .int .i64 m.n] 127)).alloc (.cells #[.int .u64 0, .int .i64 0, .int .u64 0, .int .u64 0, .int .i64 0] 127)) := by
  have h1 := Cs.alloc_new6 w 127 m.cells
  have h2 := Cs.alloc_new6 (w.alloc (.cells #[.int .u64 m.b, .int .i64 (hiW m.a), .int .u64 (loW m.a), .int .u64 m.w, .int .i64 m.n] 127)) 127 [.int .u64 0, .int .i64 0, .int .u64 0, .int .u64 0, .int .i64 0]
  simp only [World.size_alloc] at h2
  exact ⟨h1.alloc _, h2, ((Below.refl w.heap.size w).alloc (Nat.le_refl _) _).alloc (by simp) _⟩
theorem R2.put {w w1 : World} {m : Mu} (h : R2 w m w1) {a' b' c' d' e' : Value} {W : World} (hW : W = w1.setCells (w.heap.size + 1) 0 [a', b', c', d', e']) : Cs W (w.heap.size + 1) [a', b', c', d', e'] ∧ Below w.heap.size w W := by
  rw [hW]; exact ⟨Cs.putL _ 0 h.2.1 (by simp), below_sets (by omega) _ _ h.2.2⟩
theorem R2.fars {w w1 : World} {m : Mu} (h : R2 w m w1) {g : Nat} (hg : w.heap.size + 1 < g) (vs : List Value) : R2 w m (w1.setCells g 0 vs) :=
  ⟨h.1.fars (by omega) _ _, h.2.1.fars (by omega) _ _, below_sets (by omega) _ _ h.2.2⟩
set_option maxRecDepth 100000 in
set_option maxHeartbeats 8000000 in
theorem Mean.rebase (m : Mu) (t : Int) (hm : m.In) (w : World) : Calls Tryz.prog 170 #[m.val, .int .u64 t] w (Ans (.tuple #[Mu.val (m.reb t).2, .bool (m.reb t).1]) w) := by
  have HM := hid hm
  have HQ0 := hid (R2.new w m)
  clear hm
  unfold Mu.val
  cases h1 : m.right with
  | false =>
    have E : Hid (m.reb t = (false, Mu.no)) := hid (by unfold Mu.reb Mu.rebOk; rw [h1, if_neg (by simp)])
    rw [E.out]
    have H1 := hid h1
    clear h1
    go_enter Tryz.func170, Tryz.ntmps170
    go_wp2_with fail
    generalize ((w.alloc (.cells #[.int .u64 m.b, .int .i64 (hiW m.a), .int .u64 (loW m.a), .int .u64 m.w, .int .i64 m.n] 127)).alloc (.cells #[.int .u64 0, .int .i64 0, .int .u64 0, .int .u64 0, .int .i64 0] 127)) = W0 at HQ0 ⊢
    obtain ⟨m0, m1, m2, m3, m4⟩ := Mu.at m HQ0.out.1
    go_wp2_with fail
    refine (Mean.right m HM.out _).mono ?_
    rintro e w1 ⟨rfl, hb⟩
    have HQ1 := hid (HQ0.out.below hb)
    clear hb HQ0 m0 m1 m2 m3 m4
    rw [H1.out]
    have HCr := hid HQ1.out.2.1
    go_wp2_with (first | ((with_reducible refine wpList_put_cs 127 [.int .u64 0, .int .i64 0, .int .u64 0, .int .u64 0, .int .i64 0] infoMean rfl (.tmp 4) (.tmp 13) rfl (w.heap.size + 1) _ HCr.out ?h1201_1 ?h1201_2 ?h1201_3 ?h1201_4 ?h1201_5 ?h1201_6); (case h1201_1 => rfl); (case h1201_2 => rfl); (case h1201_3 => rfl); (case h1201_4 => rfl); (case h1201_5 => rfl); (intro W2 hW2); (have HW := hid (HQ1.out.put hW2)); (clear hW2)) | fail)
    obtain ⟨z0, z1, z2, z3, z4⟩ := HW.out.1.five
    go_wp2_with fail
    refine bodyPost_ret (v := .tuple #[Mu.val Mu.no, .bool false]) (by simp [results, Tryz.results170, go_sem, z0, z1, z2, z3, z4, hiW0, loW0]) rfl ⟨rfl, HW.out.2⟩
  | true =>
    have H1 := hid h1
    have HB := hid (right_bd h1)
    have HDB := hid (dif_bd t m.b)
    have HDW : Hid (WR (dif t m.b)) := hid (by have := HDB.out; unfold WR; omega)
    have HLS : Hid (okW (dif t m.b * m.w) = true) := hid (by
      have e3 := mulBd (d := dif t m.b) (M := 9223372036854775808) (V := 33554432) (by have := HDB.out; omega) (by have := HDB.out; omega) HB.out.2.1 HB.out.2.2 (by decide)
      exact okW_bd (by omega) (by omega))
    have HX2 : Hid (WR (dif t m.b * m.w)) := hid (okW_iff.1 HLS.out)
    have e4 : IntKind.i64.wrap m.w = m.w := by have := HB.out; rw [IntKind.wrap_i64]; omega
    clear h1
    cases h2 : okW (m.a - (dif t m.b * m.w)) with
    | false =>
      have E : Hid (m.reb t = (false, Mu.no)) := hid (by unfold Mu.reb Mu.rebOk; rw [H1.out, h2]; rw [if_neg (by simp)])
      have H2 := hid h2
      have H3 := hid (clW_no h2)
      rw [E.out]
      clear h2
      go_enter Tryz.func170, Tryz.ntmps170
      go_wp2_with fail
      generalize ((w.alloc (.cells #[.int .u64 m.b, .int .i64 (hiW m.a), .int .u64 (loW m.a), .int .u64 m.w, .int .i64 m.n] 127)).alloc (.cells #[.int .u64 0, .int .i64 0, .int .u64 0, .int .u64 0, .int .i64 0] 127)) = W0 at HQ0 ⊢
      obtain ⟨m0, m1, m2, m3, m4⟩ := Mu.at m HQ0.out.1
      go_wp2_with fail
      refine (Mean.right m HM.out _).mono ?_
      rintro e w1 ⟨rfl, hb⟩
      have HQ1 := hid (HQ0.out.below hb)
      clear hb HQ0 m0 m1 m2 m3 m4
      rw [H1.out]
      go_wp2_with fail
      refine wp_region_grow (S := R2 w m) 15 (by kernel_rfl) (HQ1.out.below (Below.refl _ _).drew) ?_
      refine tE 0 (v := ?_) (R2.stays w m) (fun _ h => h) rfl (by kernel_rfl) (by rfl) ?_ ?_
      rotate_left
      · intro wq hSw
        go_simp; try with_reducible rfl
      try simp only [tdy]
      refine tE 1 (v := ?_) (R2.stays w m) (fun _ h => h) rfl (by kernel_rfl) (by rfl) ?_ ?_
      rotate_left
      · intro wq hSw
        go_simp; try with_reducible rfl
      try simp only [tdy]
      refine tE 2 (v := ?_) (R2.stays w m) (fun _ h => h) rfl (by kernel_rfl) (by rfl) ?_ ?_
      rotate_left
      · intro wq hSw
        obtain ⟨m0, m1, m2, m3, m4⟩ := Mu.at m hSw.1
        go_simp; try with_reducible rfl
      try simp only [tdy]
      refine tE 5 (v := ?_) (R2.stays w m) (fun _ h => h) rfl (by kernel_rfl) (by rfl) ?_ ?_
      rotate_left
      · intro wq hSw
        go_simp; try with_reducible rfl
      try simp only [tdy]
      refine tE 6 (v := ?_) (R2.stays w m) (fun _ h => h) rfl (by kernel_rfl) (by rfl) ?_ ?_
      rotate_left
      · intro wq hSw
        obtain ⟨m0, m1, m2, m3, m4⟩ := Mu.at m hSw.1
        go_simp; try with_reducible rfl
      try simp only [tdy]
      refine tE 7 (v := ?_) (R2.stays w m) (fun _ h => h) rfl (by kernel_rfl) (by rfl) ?_ ?_
      rotate_left
      · intro wq hSw
        go_simp; try with_reducible rfl
      try simp only [tdy]
      refine wpAnyE_take (i := 3) (v := .int .i64 (dif t m.b)) (R2.stays w m) (fun _ h => h) rfl (by kernel_rfl) (by kernel_rfl) (by kernel_rfl) (by kernel_rfl) (fun _ _ _ h => h) (Or.inl ⟨by rfl, fun wq hSw => ?_⟩) ?_
      · refine RunB.of_calls (Vtime.since t m.b wq) (by go_simp) ?_
        rintro e wr ⟨rfl, hb⟩
        exact ⟨rfl, hb⟩
      try simp only [tdy]
      refine wpAnyE_take (i := 4) (v := wv (dif t m.b)) (R2.stays w m) (fun _ h => h) rfl (by kernel_rfl) (by kernel_rfl) (by kernel_rfl) (by kernel_rfl) (fun _ _ _ h => h) (Or.inl ⟨by rfl, fun wq hSw => ?_⟩) ?_
      · refine RunB.of_calls (Wide.ofF HDB.out.1 HDB.out.2 wq) (by go_simp) ?_
        rintro e wr ⟨rfl, hb⟩
        exact ⟨rfl, hb⟩
      try simp only [tdy]
      refine wpAnyE_take (i := 8) (v := (.tuple #[wv (dif t m.b * m.w), .bool true])) (R2.stays w m) (fun _ h => h) rfl (by kernel_rfl) (by kernel_rfl) (by kernel_rfl) (by kernel_rfl) (fun _ _ _ h => h) (Or.inl ⟨by rfl, fun wq hSw => ?_⟩) ?_
      · refine RunB.of_calls (Wide.mulT HDW.out (by have := HB.out; omega) (by have := HB.out; omega) HLS.out wq) (by go_simp) ?_
        rintro e wr ⟨rfl, hb⟩
        exact ⟨rfl, hb⟩
      try simp only [tdy]
      refine tE 9 (v := ?_) (R2.stays w m) (fun _ h => h) rfl (by kernel_rfl) (by rfl) ?_ ?_
      rotate_left
      · intro wq hSw
        go_simp; try with_reducible rfl
      try simp only [tdy]
      refine tE 10 (v := ?_) (R2.stays w m) (fun _ h => h) rfl (by kernel_rfl) (by rfl) ?_ ?_
      rotate_left
      · intro wq hSw
        go_simp; try with_reducible rfl
      try simp only [tdy]
      refine tE 11 (v := ?_) (R2.stays w m) (fun _ h => h) rfl (by kernel_rfl) (by rfl) ?_ ?_
      rotate_left
      · intro wq hSw
        go_simp; try with_reducible rfl
      try simp only [tdy]
      refine wpAnyE_alloc (i := 12) (fun wx g => Cs wx g [.int .i64 0, .int .u64 0] ∧ w.heap.size + 1 < g) rfl (by kernel_rfl) (by decide) (by rfl) (R2.stays w m) (fun _ h => h) (fun g => (fun _ _ h hb => ⟨h.1.below hb, h.2⟩)) (fun wq hSw => ?_) (fun gA => ?_)
      · exact ⟨_, by go_simp; (try with_reducible rfl), (Below.refl _ _).alloc (Nat.le_refl _) _, Cs.new2 _ _ _ _, hSw.2.1.lt⟩
      try simp only [tdy]
      refine wpAnyE_store (i := 13) (fun wx => (R2 w m) wx ∧ (Cs wx gA [.int .i64 (hiW (dif t m.b * m.w)), .int .u64 (loW (dif t m.b * m.w))] ∧ w.heap.size + 1 < gA)) 45 [.int .i64 (hiW (dif t m.b * m.w)), .int .u64 (loW (dif t m.b * m.w))] [.int .i64 0, .int .u64 0] gA infoWide (.tmp 6) (.tmp 24) rfl rfl (by kernel_rfl) (by decide) (by rfl) ?st13_1a ?st13_1b ?st13_1c ?st13_1d ?st13_1e (fun _ h => h.2.1) (fun _ h => ⟨h.1.fars h.2.2 _, Cs.putL _ 0 h.2.1 (by simp), h.2.2⟩) (fun _ h => h.1) ((R2.stays w m).and_ (fun _ _ h hb => ⟨h.1.below hb, h.2⟩)) ?st13_1f
      case st13_1a => rfl
      case st13_1b => rfl
      case st13_1c => rfl
      case st13_1d => rfl
      case st13_1e => rfl
      try simp only [tdy]
      refine tE 14 (v := ?_) ((R2.stays w m).and_ (fun _ _ h hb => ⟨h.1.below hb, h.2⟩)) (fun _ h => h.1) rfl (by kernel_rfl) (by rfl) ?_ ?_
      rotate_left
      · intro wq hSw
        go_simp; try with_reducible rfl
      try simp only [tdy]
      refine wpAnyE_done (by kernel_rfl) (fun wz hSz => ?_) _
      have HZ := hid hSz
      have g0 := hSz.2.1.at0
      have g1 := hSz.2.1.at1
      obtain ⟨m0, m1, m2, m3, m4⟩ := Mu.at m hSz.1.1
      clear hSz HQ1
      go_wp2_with fail
      refine (Wide.subF HM.out.2.1 HX2.out _).mono ?_
      rw [H2.out, H3.out]
      rintro e w5 ⟨rfl, hb⟩
      have HQ5 := hid ((HZ.out.1.below hb).below ((Below.refl _ _).alloc (Nat.le_refl _) (.cells #[.int .i64 (hiW 0), .int .u64 (loW 0)] 45)))
      clear hb HZ g0 g1 m0 m1 m2 m3 m4
      have HCr := hid HQ5.out.2.1
      go_wp2_with (first | ((with_reducible refine wpList_put_cs 127 [.int .u64 0, .int .i64 0, .int .u64 0, .int .u64 0, .int .i64 0] infoMean rfl (.tmp 4) (.tmp 35) rfl (w.heap.size + 1) _ HCr.out ?h1202_1 ?h1202_2 ?h1202_3 ?h1202_4 ?h1202_5 ?h1202_6); (case h1202_1 => rfl); (case h1202_2 => rfl); (case h1202_3 => rfl); (case h1202_4 => rfl); (case h1202_5 => rfl); (intro W2 hW2); (have HW := hid (HQ5.out.put hW2)); (clear hW2)) | fail)
      obtain ⟨z0, z1, z2, z3, z4⟩ := HW.out.1.five
      go_wp2_with fail
      refine bodyPost_ret (v := .tuple #[Mu.val Mu.no, .bool false]) (by simp [results, Tryz.results170, go_sem, z0, z1, z2, z3, z4, hiW0, loW0]) rfl ⟨rfl, HW.out.2⟩
    | true =>
      have E : Hid (m.reb t = (true, ⟨t, (m.a - (dif t m.b * m.w)), m.w, m.n⟩)) := hid (by unfold Mu.reb Mu.rebOk; rw [H1.out, h2]; rw [if_pos (by rfl)])
      have H2 := hid h2
      have H3 := hid (clW_ok h2)
      rw [E.out]
      clear h2
      go_enter Tryz.func170, Tryz.ntmps170
      go_wp2_with fail
      generalize ((w.alloc (.cells #[.int .u64 m.b, .int .i64 (hiW m.a), .int .u64 (loW m.a), .int .u64 m.w, .int .i64 m.n] 127)).alloc (.cells #[.int .u64 0, .int .i64 0, .int .u64 0, .int .u64 0, .int .i64 0] 127)) = W0 at HQ0 ⊢
      obtain ⟨m0, m1, m2, m3, m4⟩ := Mu.at m HQ0.out.1
      go_wp2_with fail
      refine (Mean.right m HM.out _).mono ?_
      rintro e w1 ⟨rfl, hb⟩
      have HQ1 := hid (HQ0.out.below hb)
      clear hb HQ0 m0 m1 m2 m3 m4
      rw [H1.out]
      go_wp2_with fail
      refine wp_region_grow (S := R2 w m) 15 (by kernel_rfl) (HQ1.out.below (Below.refl _ _).drew) ?_
      refine tE 0 (v := ?_) (R2.stays w m) (fun _ h => h) rfl (by kernel_rfl) (by rfl) ?_ ?_
      rotate_left
      · intro wq hSw
        go_simp; try with_reducible rfl
      try simp only [tdy]
      refine tE 1 (v := ?_) (R2.stays w m) (fun _ h => h) rfl (by kernel_rfl) (by rfl) ?_ ?_
      rotate_left
      · intro wq hSw
        go_simp; try with_reducible rfl
      try simp only [tdy]
      refine tE 2 (v := ?_) (R2.stays w m) (fun _ h => h) rfl (by kernel_rfl) (by rfl) ?_ ?_
      rotate_left
      · intro wq hSw
        obtain ⟨m0, m1, m2, m3, m4⟩ := Mu.at m hSw.1
        go_simp; try with_reducible rfl
      try simp only [tdy]
      refine tE 5 (v := ?_) (R2.stays w m) (fun _ h => h) rfl (by kernel_rfl) (by rfl) ?_ ?_
      rotate_left
      · intro wq hSw
        go_simp; try with_reducible rfl
      try simp only [tdy]
      refine tE 6 (v := ?_) (R2.stays w m) (fun _ h => h) rfl (by kernel_rfl) (by rfl) ?_ ?_
      rotate_left
      · intro wq hSw
        obtain ⟨m0, m1, m2, m3, m4⟩ := Mu.at m hSw.1
        go_simp; try with_reducible rfl
      try simp only [tdy]
      refine tE 7 (v := ?_) (R2.stays w m) (fun _ h => h) rfl (by kernel_rfl) (by rfl) ?_ ?_
      rotate_left
      · intro wq hSw
        go_simp; try with_reducible rfl
      try simp only [tdy]
      refine wpAnyE_take (i := 3) (v := .int .i64 (dif t m.b)) (R2.stays w m) (fun _ h => h) rfl (by kernel_rfl) (by kernel_rfl) (by kernel_rfl) (by kernel_rfl) (fun _ _ _ h => h) (Or.inl ⟨by rfl, fun wq hSw => ?_⟩) ?_
      · refine RunB.of_calls (Vtime.since t m.b wq) (by go_simp) ?_
        rintro e wr ⟨rfl, hb⟩
        exact ⟨rfl, hb⟩
      try simp only [tdy]
      refine wpAnyE_take (i := 4) (v := wv (dif t m.b)) (R2.stays w m) (fun _ h => h) rfl (by kernel_rfl) (by kernel_rfl) (by kernel_rfl) (by kernel_rfl) (fun _ _ _ h => h) (Or.inl ⟨by rfl, fun wq hSw => ?_⟩) ?_
      · refine RunB.of_calls (Wide.ofF HDB.out.1 HDB.out.2 wq) (by go_simp) ?_
        rintro e wr ⟨rfl, hb⟩
        exact ⟨rfl, hb⟩
      try simp only [tdy]
      refine wpAnyE_take (i := 8) (v := (.tuple #[wv (dif t m.b * m.w), .bool true])) (R2.stays w m) (fun _ h => h) rfl (by kernel_rfl) (by kernel_rfl) (by kernel_rfl) (by kernel_rfl) (fun _ _ _ h => h) (Or.inl ⟨by rfl, fun wq hSw => ?_⟩) ?_
      · refine RunB.of_calls (Wide.mulT HDW.out (by have := HB.out; omega) (by have := HB.out; omega) HLS.out wq) (by go_simp) ?_
        rintro e wr ⟨rfl, hb⟩
        exact ⟨rfl, hb⟩
      try simp only [tdy]
      refine tE 9 (v := ?_) (R2.stays w m) (fun _ h => h) rfl (by kernel_rfl) (by rfl) ?_ ?_
      rotate_left
      · intro wq hSw
        go_simp; try with_reducible rfl
      try simp only [tdy]
      refine tE 10 (v := ?_) (R2.stays w m) (fun _ h => h) rfl (by kernel_rfl) (by rfl) ?_ ?_
      rotate_left
      · intro wq hSw
        go_simp; try with_reducible rfl
      try simp only [tdy]
      refine tE 11 (v := ?_) (R2.stays w m) (fun _ h => h) rfl (by kernel_rfl) (by rfl) ?_ ?_
      rotate_left
      · intro wq hSw
        go_simp; try with_reducible rfl
      try simp only [tdy]
      refine wpAnyE_alloc (i := 12) (fun wx g => Cs wx g [.int .i64 0, .int .u64 0] ∧ w.heap.size + 1 < g) rfl (by kernel_rfl) (by decide) (by rfl) (R2.stays w m) (fun _ h => h) (fun g => (fun _ _ h hb => ⟨h.1.below hb, h.2⟩)) (fun wq hSw => ?_) (fun gA => ?_)
      · exact ⟨_, by go_simp; (try with_reducible rfl), (Below.refl _ _).alloc (Nat.le_refl _) _, Cs.new2 _ _ _ _, hSw.2.1.lt⟩
      try simp only [tdy]
      refine wpAnyE_store (i := 13) (fun wx => (R2 w m) wx ∧ (Cs wx gA [.int .i64 (hiW (dif t m.b * m.w)), .int .u64 (loW (dif t m.b * m.w))] ∧ w.heap.size + 1 < gA)) 45 [.int .i64 (hiW (dif t m.b * m.w)), .int .u64 (loW (dif t m.b * m.w))] [.int .i64 0, .int .u64 0] gA infoWide (.tmp 6) (.tmp 24) rfl rfl (by kernel_rfl) (by decide) (by rfl) ?st13_2a ?st13_2b ?st13_2c ?st13_2d ?st13_2e (fun _ h => h.2.1) (fun _ h => ⟨h.1.fars h.2.2 _, Cs.putL _ 0 h.2.1 (by simp), h.2.2⟩) (fun _ h => h.1) ((R2.stays w m).and_ (fun _ _ h hb => ⟨h.1.below hb, h.2⟩)) ?st13_2f
      case st13_2a => rfl
      case st13_2b => rfl
      case st13_2c => rfl
      case st13_2d => rfl
      case st13_2e => rfl
      try simp only [tdy]
      refine tE 14 (v := ?_) ((R2.stays w m).and_ (fun _ _ h hb => ⟨h.1.below hb, h.2⟩)) (fun _ h => h.1) rfl (by kernel_rfl) (by rfl) ?_ ?_
      rotate_left
      · intro wq hSw
        go_simp; try with_reducible rfl
      try simp only [tdy]
      refine wpAnyE_done (by kernel_rfl) (fun wz hSz => ?_) _
      have HZ := hid hSz
      have g0 := hSz.2.1.at0
      have g1 := hSz.2.1.at1
      obtain ⟨m0, m1, m2, m3, m4⟩ := Mu.at m hSz.1.1
      clear hSz HQ1
      go_wp2_with fail
      refine (Wide.subF HM.out.2.1 HX2.out _).mono ?_
      rw [H2.out, H3.out]
      rintro e w5 ⟨rfl, hb⟩
      have HQ5 := hid ((HZ.out.1.below hb).below ((Below.refl _ _).alloc (Nat.le_refl _) (.cells #[.int .i64 (hiW (m.a - (dif t m.b * m.w))), .int .u64 (loW (m.a - (dif t m.b * m.w)))] 45)))
      clear hb HZ g0 g1 m0 m1 m2 m3 m4
      have HCr := hid HQ5.out.2.1
      obtain ⟨m0, m1, m2, m3, m4⟩ := Mu.at m HQ5.out.1
      go_wp2_with (first | ((with_reducible refine wpList_put_cs 127 [.int .u64 t, .int .i64 (hiW (m.a - (dif t m.b * m.w))), .int .u64 (loW (m.a - (dif t m.b * m.w))), .int .u64 m.w, .int .i64 m.n] infoMean rfl (.tmp 4) (.tmp 42) rfl (w.heap.size + 1) _ HCr.out ?h1203_1 ?h1203_2 ?h1203_3 ?h1203_4 ?h1203_5 ?h1203_6); (case h1203_1 => rfl); (case h1203_2 => rfl); (case h1203_3 => rfl); (case h1203_4 => rfl); (case h1203_5 => rfl); (intro W2 hW2); (have HW := hid (HQ5.out.put hW2)); (clear hW2)) | fail)
      clear m0 m1 m2 m3 m4
      obtain ⟨z0, z1, z2, z3, z4⟩ := HW.out.1.five
      go_wp2_with fail
      refine bodyPost_ret (v := .tuple #[Mu.val ⟨t, (m.a - (dif t m.b * m.w)), m.w, m.n⟩, .bool true]) (by simp [results, Tryz.results170, go_sem, z0, z1, z2, z3, z4, hiW0, loW0]) rfl ⟨rfl, HW.out.2⟩
end

end Go.Proofs.YtjndmmcjobbcbaaGreatDoor

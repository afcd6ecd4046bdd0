/- The contracts of the package mean: one less. -/
import Derived.Test.YthmilhhihcmdhaaGreatDoorWeighBackZ18
import Derived.Test.YthmilhhihcmdhaaGreatDoorWeighBackZ0
import Derived.Test.YthmilhhihcmdhaaGreatDoorWeighBackZ16
namespace Go.Proofs.YthmilhhihcmdhaaGreatDoor
open Go.RowKit
/-- What is left, as the program reckons it. -/
theorem take_one {m : Mu} {p : P3} (hp : PIn p) (h1 : m.right = true) (h2 : pR p = true) (h3 : m.n = 1) : m.take p = if (Mu.mk m.b 0 (IntKind.u64.wrap (m.w - p.2.2)) (m.n - 1)).right = true then (true, (Mu.mk m.b 0 (IntKind.u64.wrap (m.w - p.2.2)) (m.n - 1))) else (false, Mu.no) := by
  have hb := right_bd h1
  have hip := pR_isP hp h2
  unfold IsP at hip
  have hw : m.w ≤ 33554432 := hb.2.2
  unfold Mu.take
  by_cases c : m.w = p.2.2
  · have e : (IntKind.u64.wrap (m.w - p.2.2)) = m.w - p.2.2 := by rw [IntKind.wrap_u64]; omega
    have e2 : m.left p = (Mu.mk m.b 0 (IntKind.u64.wrap (m.w - p.2.2)) (m.n - 1)) := by unfold Mu.left; rw [e, h3]; simp
    have hr : (Mu.mk m.b 0 (IntKind.u64.wrap (m.w - p.2.2)) (m.n - 1)).right = true := by
      unfold Mu.right; rw [e, h3, c]; simp
    rw [if_pos hr, ← e2, if_pos]
    unfold Mu.takeOk
    rw [h1, h2, e2, hr, h3]
    simp; omega
  · have hr : (Mu.mk m.b 0 (IntKind.u64.wrap (m.w - p.2.2)) (m.n - 1)).right = false := by
      unfold Mu.right
      rw [h3]
      simp only [Int.sub_self, if_true]
      rw [Bool.and_eq_false_iff]; right
      rw [decide_eq_false_iff_not, IntKind.wrap_u64]; omega
    have h9 : ¬ m.takeOk p = true := by
      unfold Mu.takeOk
      intro h
      simp only [Bool.and_eq_true, decide_eq_true_eq] at h
      have h5 := h.2
      unfold Mu.right Mu.left at h5
      simp only [h3, Int.sub_self, if_true, Bool.and_eq_true, decide_eq_true_eq] at h5
      omega
    rw [if_neg h9, hr, if_neg (by decide)]
theorem take_two {m : Mu} {p : P3} (hp : PIn p) (h1 : m.right = true) (h2 : pR p = true) (h3 : 1 < m.n) (h4 : okW (m.a - pD m.b p) = true) : m.take p = if (Mu.mk m.b (m.a - pD m.b p) (IntKind.u64.wrap (m.w - p.2.2)) (m.n - 1)).right = true then (true, (Mu.mk m.b (m.a - pD m.b p) (IntKind.u64.wrap (m.w - p.2.2)) (m.n - 1))) else (false, Mu.no) := by
  have hb := right_bd h1
  have hip := pR_isP hp h2
  unfold IsP at hip
  unfold Mu.take
  by_cases c : p.2.2 ≤ m.w
  · have e : (IntKind.u64.wrap (m.w - p.2.2)) = m.w - p.2.2 := by rw [IntKind.wrap_u64]; omega
    have e2 : m.left p = (Mu.mk m.b (m.a - pD m.b p) (IntKind.u64.wrap (m.w - p.2.2)) (m.n - 1)) := by unfold Mu.left; rw [e, if_neg (by omega)]
    have e3 : m.takeOk p = (Mu.mk m.b (m.a - pD m.b p) (IntKind.u64.wrap (m.w - p.2.2)) (m.n - 1)).right := by
      unfold Mu.takeOk
      rw [h1, h2, h4, e2, decide_eq_true (show m.n ≠ 0 by omega), decide_eq_true c]
      simp
    rw [e3, e2]
  · have hr : (Mu.mk m.b (m.a - pD m.b p) (IntKind.u64.wrap (m.w - p.2.2)) (m.n - 1)).right = false := by
      unfold Mu.right
      rw [if_neg (by simp only; omega), Bool.and_eq_false_iff]; right
      rw [decide_eq_false_iff_not]; simp only; rw [IntKind.wrap_u64]; omega
    have h9 : ¬ m.takeOk p = true := by
      unfold Mu.takeOk
      intro h
      simp only [Bool.and_eq_true, decide_eq_true_eq] at h
      exact c h.1.2
    rw [if_neg h9, hr, if_neg (by decide)]
theorem M2.putF {w w1 : World} {m : Mu} {p : P3} {r : List Value} (h : M2 w m p r w1) {g o : Nat} (hg : w.heap.size + 2 < g) (vs : List Value) : M2 w m p r (w1.setCells g o vs) :=
  ⟨h.1.fars (by omega) _ _, h.2.1.fars (by omega) _ _, h.2.2.1.fars (by omega) _ _, below_sets (by omega) _ _ h.2.2.2⟩
set_option maxRecDepth 100000 in
set_option maxHeartbeats 16000000 in
theorem Mean.take (m : Mu) (p : P3) (hm : m.In) (hp : PIn p) (w : World) : Calls Tryz.prog 23 #[m.val, pv p] w (Ans (.tuple #[Mu.val (m.take p).2, .bool (m.take p).1]) w) := by
  have HM := hid hm
  have HP := hid hp
  clear hm hp
  unfold Mu.val pv
  cases h1 : m.right with
  | false =>
    have E : Hid (m.take p = (false, Mu.no)) := hid (by unfold Mu.take Mu.takeOk; rw [h1, if_neg (by simp)])
    rw [E.out]
    have H1 := hid h1
    clear h1
    have HQ0 := hid (M2.new w m p)
    go_enter Tryz.func23, Tryz.ntmps23
    go_wp2_with fail
    generalize (((w.alloc (.cells #[.int .u64 m.b, .int .i64 (hiW m.a), .int .u64 (loW m.a), .int .u64 m.w, .int .i64 m.n] 36)).alloc (.cells #[.int .u64 p.1, .int .u32 p.2.1, .int .u32 p.2.2] 29)).alloc (.cells #[.int .u64 0, .int .i64 0, .int .u64 0, .int .u64 0, .int .i64 0] 36)) = W0 at HQ0 ⊢
    obtain ⟨m0, m1, m2, m3, m4⟩ := Mu.at m HQ0.out.1
    go_wp2_with fail
    refine (Mean.right m HM.out _).mono ?_
    rintro e w1 ⟨rfl, hb⟩
    have HQ1 := hid (HQ0.out.below hb)
    clear hb HQ0 m0 m1 m2 m3 m4
    rw [H1.out]
    have HCr := hid HQ1.out.2.2.1
    go_wp2_with (first | ((with_reducible refine wpList_put_cs 36 [.int .u64 0, .int .i64 0, .int .u64 0, .int .u64 0, .int .i64 0] infoMean rfl (.tmp 4) (.tmp 21) rfl (w.heap.size + 2) _ HCr.out ?h12001_1 ?h12001_2 ?h12001_3 ?h12001_4 ?h12001_5 ?h12001_6); (case h12001_1 => rfl); (case h12001_2 => rfl); (case h12001_3 => rfl); (case h12001_4 => rfl); (case h12001_5 => rfl); (intro W2 hW2); (have HW := hid (HQ1.out.put hW2)); (clear hW2)) | fail)
    obtain ⟨z0, z1, z2, z3, z4⟩ := HW.out.1.five
    go_wp2_with fail
    refine bodyPost_ret (v := .tuple #[Mu.val Mu.no, .bool false]) (by simp [results, Tryz.results23, go_sem, z0, z1, z2, z3, z4, hiW0, loW0]) rfl ⟨rfl, HW.out.2⟩
  | true =>
  have H1 := hid h1
  cases h2 : pR p with
  | false =>
    have E : Hid (m.take p = (false, Mu.no)) := hid (by unfold Mu.take Mu.takeOk; rw [h2, if_neg (by simp)])
    rw [E.out]
    have H2 := hid h2
    clear h1 h2
    have HQ0 := hid (M2.new w m p)
    go_enter Tryz.func23, Tryz.ntmps23
    go_wp2_with fail
    generalize (((w.alloc (.cells #[.int .u64 m.b, .int .i64 (hiW m.a), .int .u64 (loW m.a), .int .u64 m.w, .int .i64 m.n] 36)).alloc (.cells #[.int .u64 p.1, .int .u32 p.2.1, .int .u32 p.2.2] 29)).alloc (.cells #[.int .u64 0, .int .i64 0, .int .u64 0, .int .u64 0, .int .i64 0] 36)) = W0 at HQ0 ⊢
    obtain ⟨m0, m1, m2, m3, m4⟩ := Mu.at m HQ0.out.1
    go_wp2_with fail
    refine (Mean.right m HM.out _).mono ?_
    rintro e w1 ⟨rfl, hb⟩
    have HQ1 := hid (HQ0.out.below hb)
    clear hb HQ0 m0 m1 m2 m3 m4
    rw [H1.out]
    obtain ⟨q0, q1, q2⟩ := P3.at p HQ1.out.2.1
    go_wp2_with fail
    refine (Pos.rightF p _).mono ?_
    rintro e w2 ⟨rfl, hb⟩
    have HQ2 := hid (HQ1.out.below hb)
    clear hb q0 q1 q2 HQ1
    rw [H2.out]
    have HCr := hid HQ2.out.2.2.1
    go_wp2_with (first | ((with_reducible refine wpList_put_cs 36 [.int .u64 0, .int .i64 0, .int .u64 0, .int .u64 0, .int .i64 0] infoMean rfl (.tmp 4) (.tmp 21) rfl (w.heap.size + 2) _ HCr.out ?h12002_1 ?h12002_2 ?h12002_3 ?h12002_4 ?h12002_5 ?h12002_6); (case h12002_1 => rfl); (case h12002_2 => rfl); (case h12002_3 => rfl); (case h12002_4 => rfl); (case h12002_5 => rfl); (intro W2 hW2); (have HW := hid (HQ2.out.put hW2)); (clear hW2)) | fail)
    obtain ⟨z0, z1, z2, z3, z4⟩ := HW.out.1.five
    go_wp2_with fail
    refine bodyPost_ret (v := .tuple #[Mu.val Mu.no, .bool false]) (by simp [results, Tryz.results23, go_sem, z0, z1, z2, z3, z4, hiW0, loW0]) rfl ⟨rfl, HW.out.2⟩
  | true =>
  have H2 := hid h2
  by_cases h3 : m.n = 0
  · have C3 := hid (show (m.n == 0) = true by rw [h3]; rfl)
    have E : Hid (m.take p = (false, Mu.no)) := hid (by unfold Mu.take Mu.takeOk; rw [h3, if_neg (by simp)])
    rw [E.out]
    clear h1 h2 h3
    have HQ0 := hid (M2.new w m p)
    go_enter Tryz.func23, Tryz.ntmps23
    go_wp2_with fail
    generalize (((w.alloc (.cells #[.int .u64 m.b, .int .i64 (hiW m.a), .int .u64 (loW m.a), .int .u64 m.w, .int .i64 m.n] 36)).alloc (.cells #[.int .u64 p.1, .int .u32 p.2.1, .int .u32 p.2.2] 29)).alloc (.cells #[.int .u64 0, .int .i64 0, .int .u64 0, .int .u64 0, .int .i64 0] 36)) = W0 at HQ0 ⊢
    obtain ⟨m0, m1, m2, m3, m4⟩ := Mu.at m HQ0.out.1
    go_wp2_with fail
    refine (Mean.right m HM.out _).mono ?_
    rintro e w1 ⟨rfl, hb⟩
    have HQ1 := hid (HQ0.out.below hb)
    clear hb HQ0 m0 m1 m2 m3 m4
    rw [H1.out]
    obtain ⟨q0, q1, q2⟩ := P3.at p HQ1.out.2.1
    go_wp2_with fail
    refine (Pos.rightF p _).mono ?_
    rintro e w2 ⟨rfl, hb⟩
    have HQ2 := hid (HQ1.out.below hb)
    clear hb q0 q1 q2 HQ1
    rw [H2.out]
    obtain ⟨m0, m1, m2, m3, m4⟩ := Mu.at m HQ2.out.1
    have c3 := C3.out
    have HCr := hid HQ2.out.2.2.1
    go_wp2_with (first | ((with_reducible refine wpList_put_cs 36 [.int .u64 0, .int .i64 0, .int .u64 0, .int .u64 0, .int .i64 0] infoMean rfl (.tmp 4) (.tmp 21) rfl (w.heap.size + 2) _ HCr.out ?h12003_1 ?h12003_2 ?h12003_3 ?h12003_4 ?h12003_5 ?h12003_6); (case h12003_1 => rfl); (case h12003_2 => rfl); (case h12003_3 => rfl); (case h12003_4 => rfl); (case h12003_5 => rfl); (intro W2 hW2); (have HW := hid (HQ2.out.put hW2)); (clear hW2)) | fail)
    obtain ⟨z0, z1, z2, z3, z4⟩ := HW.out.1.five
    go_wp2_with fail
    refine bodyPost_ret (v := .tuple #[Mu.val Mu.no, .bool false]) (by simp [results, Tryz.results23, go_sem, z0, z1, z2, z3, z4, hiW0, loW0]) rfl ⟨rfl, HW.out.2⟩
  · have C3 := hid (show (m.n == 0) = false by simpa using h3)
    have HB := hid (right_w h1 h3)
    have HIP := hid (pR_isP HP.out h2)
    have e1 : IntKind.u64.wrap p.2.2 = p.2.2 := by have := HIP.out; unfold IsP at this; rw [IntKind.wrap_u64]; omega
    have e3 : IntKind.i64.wrap (m.n - 1) = m.n - 1 := by have := HB.out; rw [IntKind.wrap_i64]; omega
    by_cases h4 : m.n = 1
    · have N0 : Hid (m.n - 1 = 0) := hid (by omega)
      have ET := hid (take_one HP.out h1 h2 h4)
      have HLI : Hid ((Mu.mk m.b 0 (IntKind.u64.wrap (m.w - p.2.2)) (m.n - 1)).In) := hid ⟨HM.out.1, by unfold WR; simp only; omega, by simp only; rw [IntKind.wrap_u64]; omega, by simp only; have := HB.out; omega⟩
      have G0 : Hid (¬ 0 < m.n - 1) := hid (by omega)
      clear h1 h2 h3 h4
      cases hr : (Mu.mk m.b 0 (IntKind.u64.wrap (m.w - p.2.2)) (m.n - 1)).right with
      | false =>
        have E9 : Hid (m.take p = (false, Mu.no)) := hid (by rw [ET.out, hr]; rw [if_neg (by decide)])
        rw [E9.out]
        have HR9 := hid hr
        clear hr
        have HQ0 := hid (M2.new w m p)
        go_enter Tryz.func23, Tryz.ntmps23
        go_wp2_with fail
        generalize (((w.alloc (.cells #[.int .u64 m.b, .int .i64 (hiW m.a), .int .u64 (loW m.a), .int .u64 m.w, .int .i64 m.n] 36)).alloc (.cells #[.int .u64 p.1, .int .u32 p.2.1, .int .u32 p.2.2] 29)).alloc (.cells #[.int .u64 0, .int .i64 0, .int .u64 0, .int .u64 0, .int .i64 0] 36)) = W0 at HQ0 ⊢
        obtain ⟨m0, m1, m2, m3, m4⟩ := Mu.at m HQ0.out.1
        go_wp2_with fail
        refine (Mean.right m HM.out _).mono ?_
        rintro e w1 ⟨rfl, hb⟩
        have HQ1 := hid (HQ0.out.below hb)
        clear hb HQ0 m0 m1 m2 m3 m4
        rw [H1.out]
        obtain ⟨q0, q1, q2⟩ := P3.at p HQ1.out.2.1
        go_wp2_with fail
        refine (Pos.rightF p _).mono ?_
        rintro e w2 ⟨rfl, hb⟩
        have HQ2 := hid (HQ1.out.below hb)
        clear hb q0 q1 q2 HQ1
        rw [H2.out]
        obtain ⟨m0, m1, m2, m3, m4⟩ := Mu.at m HQ2.out.1
        obtain ⟨q0, q1, q2⟩ := P3.at p HQ2.out.2.1
        have c3 := C3.out
        have g0 := G0.out
        have HL0 := hid (Cs.alloc_new6 w2 36 [.int .u64 m.b, .int .i64 0, .int .u64 0, .int .u64 (IntKind.u64.wrap (m.w - p.2.2)), .int .i64 (m.n - 1)])
        have HQ3 := hid (HQ2.out.below ((Below.refl _ _).alloc (Nat.le_refl _) (.cells #[.int .u64 m.b, .int .i64 0, .int .u64 0, .int .u64 (IntKind.u64.wrap (m.w - p.2.2)), .int .i64 (m.n - 1)] 36)))
        go_wp2_with fail
        refine (Mean.right (Mu.mk m.b 0 (IntKind.u64.wrap (m.w - p.2.2)) (m.n - 1)) HLI.out _).mono ?_
        rw [HR9.out]
        rintro e w3 ⟨rfl, hb⟩
        have HQ4 := hid (HQ3.out.below hb)
        have HL4 := hid ((show Cs (w2.alloc (.cells #[.int .u64 m.b, .int .i64 0, .int .u64 0, .int .u64 (IntKind.u64.wrap (m.w - p.2.2)), .int .i64 (m.n - 1)] 36)) w2.heap.size [.int .u64 m.b, .int .i64 0, .int .u64 0, .int .u64 (IntKind.u64.wrap (m.w - p.2.2)), .int .i64 (m.n - 1)] from HL0.out).below hb)
        clear hb HQ3 HQ2 HL0 m0 m1 m2 m3 m4 c3 g0 q0 q1 q2
        have HCr := hid HQ4.out.2.2.1
        go_wp2_with (first | ((with_reducible refine wpList_put_cs 36 [.int .u64 0, .int .i64 0, .int .u64 0, .int .u64 0, .int .i64 0] infoMean rfl (.tmp 4) (.tmp 54) rfl (w.heap.size + 2) _ HCr.out ?h12004_1 ?h12004_2 ?h12004_3 ?h12004_4 ?h12004_5 ?h12004_6); (case h12004_1 => rfl); (case h12004_2 => rfl); (case h12004_3 => rfl); (case h12004_4 => rfl); (case h12004_5 => rfl); (intro W2 hW2); (have HW := hid (HQ4.out.put hW2)); (clear hW2)) | fail)
        obtain ⟨z0, z1, z2, z3, z4⟩ := HW.out.1.five
        go_wp2_with fail
        refine bodyPost_ret (v := .tuple #[Mu.val Mu.no, .bool false]) (by simp [results, Tryz.results23, go_sem, z0, z1, z2, z3, z4, hiW0, loW0]) rfl ⟨rfl, HW.out.2⟩
      | true =>
        have E9 : Hid (m.take p = (true, (Mu.mk m.b 0 (IntKind.u64.wrap (m.w - p.2.2)) (m.n - 1)))) := hid (by rw [ET.out, hr]; rw [if_pos rfl])
        rw [E9.out]
        have HR9 := hid hr
        clear hr
        have HQ0 := hid (M2.new w m p)
        go_enter Tryz.func23, Tryz.ntmps23
        go_wp2_with fail
        generalize (((w.alloc (.cells #[.int .u64 m.b, .int .i64 (hiW m.a), .int .u64 (loW m.a), .int .u64 m.w, .int .i64 m.n] 36)).alloc (.cells #[.int .u64 p.1, .int .u32 p.2.1, .int .u32 p.2.2] 29)).alloc (.cells #[.int .u64 0, .int .i64 0, .int .u64 0, .int .u64 0, .int .i64 0] 36)) = W0 at HQ0 ⊢
        obtain ⟨m0, m1, m2, m3, m4⟩ := Mu.at m HQ0.out.1
        go_wp2_with fail
        refine (Mean.right m HM.out _).mono ?_
        rintro e w1 ⟨rfl, hb⟩
        have HQ1 := hid (HQ0.out.below hb)
        clear hb HQ0 m0 m1 m2 m3 m4
        rw [H1.out]
        obtain ⟨q0, q1, q2⟩ := P3.at p HQ1.out.2.1
        go_wp2_with fail
        refine (Pos.rightF p _).mono ?_
        rintro e w2 ⟨rfl, hb⟩
        have HQ2 := hid (HQ1.out.below hb)
        clear hb q0 q1 q2 HQ1
        rw [H2.out]
        obtain ⟨m0, m1, m2, m3, m4⟩ := Mu.at m HQ2.out.1
        obtain ⟨q0, q1, q2⟩ := P3.at p HQ2.out.2.1
        have c3 := C3.out
        have g0 := G0.out
        have HL0 := hid (Cs.alloc_new6 w2 36 [.int .u64 m.b, .int .i64 0, .int .u64 0, .int .u64 (IntKind.u64.wrap (m.w - p.2.2)), .int .i64 (m.n - 1)])
        have HQ3 := hid (HQ2.out.below ((Below.refl _ _).alloc (Nat.le_refl _) (.cells #[.int .u64 m.b, .int .i64 0, .int .u64 0, .int .u64 (IntKind.u64.wrap (m.w - p.2.2)), .int .i64 (m.n - 1)] 36)))
        go_wp2_with fail
        refine (Mean.right (Mu.mk m.b 0 (IntKind.u64.wrap (m.w - p.2.2)) (m.n - 1)) HLI.out _).mono ?_
        rw [HR9.out]
        rintro e w3 ⟨rfl, hb⟩
        have HQ4 := hid (HQ3.out.below hb)
        have HL4 := hid ((show Cs (w2.alloc (.cells #[.int .u64 m.b, .int .i64 0, .int .u64 0, .int .u64 (IntKind.u64.wrap (m.w - p.2.2)), .int .i64 (m.n - 1)] 36)) w2.heap.size [.int .u64 m.b, .int .i64 0, .int .u64 0, .int .u64 (IntKind.u64.wrap (m.w - p.2.2)), .int .i64 (m.n - 1)] from HL0.out).below hb)
        clear hb HQ3 HQ2 HL0 m0 m1 m2 m3 m4 c3 g0 q0 q1 q2
        have HCr := hid HQ4.out.2.2.1
        obtain ⟨m0, m1, m2, m3, m4⟩ := HL4.out.five
        go_wp2_with (first | ((with_reducible refine wpList_put_cs 36 [.int .u64 m.b, .int .i64 0, .int .u64 0, .int .u64 (IntKind.u64.wrap (m.w - p.2.2)), .int .i64 (m.n - 1)] infoMean rfl (.tmp 4) (.tmp 55) rfl (w.heap.size + 2) _ HCr.out ?h12005_1 ?h12005_2 ?h12005_3 ?h12005_4 ?h12005_5 ?h12005_6); (case h12005_1 => rfl); (case h12005_2 => rfl); (case h12005_3 => rfl); (case h12005_4 => rfl); (case h12005_5 => rfl); (intro W2 hW2); (have HW := hid (HQ4.out.put hW2)); (clear hW2)) | fail)
        clear m0 m1 m2 m3 m4
        obtain ⟨z0, z1, z2, z3, z4⟩ := HW.out.1.five
        go_wp2_with fail
        refine bodyPost_ret (v := .tuple #[Mu.val (Mu.mk m.b 0 (IntKind.u64.wrap (m.w - p.2.2)) (m.n - 1)), .bool true]) (by simp [results, Tryz.results23, go_sem, z0, z1, z2, z3, z4, hiW0, loW0]) rfl ⟨rfl, HW.out.2⟩
    · have G1 : Hid (0 < m.n - 1) := hid (by have := HB.out; omega)
      have HD : Hid (WR (pD m.b p)) := hid (by have := pD_bd m.b HP.out; unfold WR; omega)
      cases h5 : okW (m.a - pD m.b p) with
      | false =>
        have E : Hid (m.take p = (false, Mu.no)) := hid (by unfold Mu.take Mu.takeOk; rw [h5, decide_eq_false h4, if_neg (by simp)])
        rw [E.out]
        have H5 := hid h5
        clear h1 h2 h3 h4 h5
        have HQ0 := hid (M2.new w m p)
        go_enter Tryz.func23, Tryz.ntmps23
        go_wp2_with fail
        generalize (((w.alloc (.cells #[.int .u64 m.b, .int .i64 (hiW m.a), .int .u64 (loW m.a), .int .u64 m.w, .int .i64 m.n] 36)).alloc (.cells #[.int .u64 p.1, .int .u32 p.2.1, .int .u32 p.2.2] 29)).alloc (.cells #[.int .u64 0, .int .i64 0, .int .u64 0, .int .u64 0, .int .i64 0] 36)) = W0 at HQ0 ⊢
        obtain ⟨m0, m1, m2, m3, m4⟩ := Mu.at m HQ0.out.1
        go_wp2_with fail
        refine (Mean.right m HM.out _).mono ?_
        rintro e w1 ⟨rfl, hb⟩
        have HQ1 := hid (HQ0.out.below hb)
        clear hb HQ0 m0 m1 m2 m3 m4
        rw [H1.out]
        obtain ⟨q0, q1, q2⟩ := P3.at p HQ1.out.2.1
        go_wp2_with fail
        refine (Pos.rightF p _).mono ?_
        rintro e w2 ⟨rfl, hb⟩
        have HQ2 := hid (HQ1.out.below hb)
        clear hb q0 q1 q2 HQ1
        rw [H2.out]
        obtain ⟨m0, m1, m2, m3, m4⟩ := Mu.at m HQ2.out.1
        obtain ⟨q0, q1, q2⟩ := P3.at p HQ2.out.2.1
        have c3 := C3.out
        have g0 := G1.out
        have HL : Hid (Cs (w2.alloc (.cells #[.int .u64 m.b, .int .i64 0, .int .u64 0, .int .u64 (IntKind.u64.wrap (m.w - p.2.2)), .int .i64 (m.n - 1)] 36)) w2.heap.size [.int .u64 m.b, .int .i64 0, .int .u64 0, .int .u64 (IntKind.u64.wrap (m.w - p.2.2)), .int .i64 (m.n - 1)] ∧ w.heap.size + 2 < w2.heap.size) := hid ⟨Cs.alloc_new6 w2 36 [.int .u64 m.b, .int .i64 0, .int .u64 0, .int .u64 (IntKind.u64.wrap (m.w - p.2.2)), .int .i64 (m.n - 1)], HQ2.out.2.2.1.lt⟩
        have HQ3 := hid (HQ2.out.below ((Below.refl _ _).alloc (Nat.le_refl _) (.cells #[.int .u64 m.b, .int .i64 0, .int .u64 0, .int .u64 (IntKind.u64.wrap (m.w - p.2.2)), .int .i64 (m.n - 1)] 36)))
        go_wp2_with fail
        generalize w2.alloc (.cells #[.int .u64 m.b, .int .i64 0, .int .u64 0, .int .u64 (IntKind.u64.wrap (m.w - p.2.2)), .int .i64 (m.n - 1)] 36) = W3 at HQ3 HL ⊢
        generalize w2.heap.size = g6 at HL ⊢
        clear HQ2 m0 m1 m2 m3 m4 c3 g0 q0 q1 q2
        refine wp_region_any (by kernel_rfl) (wpAny_of_E (S0 := fun wx => M2 w m p [.int .u64 0, .int .i64 0, .int .u64 0, .int .u64 0, .int .i64 0] wx) (n := 13) _ (fun wx => M2 w m p [.int .u64 0, .int .i64 0, .int .u64 0, .int .u64 0, .int .i64 0] wx ∧ (Cs wx g6 [.int .u64 m.b, .int .i64 0, .int .u64 0, .int .u64 (IntKind.u64.wrap (m.w - p.2.2)), .int .i64 (m.n - 1)] ∧ w.heap.size + 2 < g6)) _ _ _ (⟨HQ3.out.below (Below.refl _ _).drew, HL.out⟩) ?_)
        refine wpAnyE_take (i := 0) (v := ?_) ((Stays.and_ (M2.stays w m p [.int .u64 0, .int .i64 0, .int .u64 0, .int .u64 0, .int .i64 0]) (fun _ _ h hb => ⟨h.1.below hb, h.2⟩) : Stays (fun wx => M2 w m p [.int .u64 0, .int .i64 0, .int .u64 0, .int .u64 0, .int .i64 0] wx ∧ (Cs wx g6 [.int .u64 m.b, .int .i64 0, .int .u64 0, .int .u64 (IntKind.u64.wrap (m.w - p.2.2)), .int .i64 (m.n - 1)] ∧ w.heap.size + 2 < g6)))) (fun _ h => h.1) rfl (by kernel_rfl) (by kernel_rfl) (by kernel_rfl) (by kernel_rfl) (fun _ _ _ h => h) (SteadyB.of_yields (Or.inl ⟨by rfl, ?_⟩)) ?_
        rotate_left
        · intro wq hSw
          go_simp
          (try with_reducible rfl)
        try simp only [List.getElem_toArray, List.getElem_cons_zero, List.getElem_cons_succ, Act.put, List.setIfInBounds_toArray, List.set_cons_zero, List.set_cons_succ]
        refine wpAnyE_take (i := 1) (v := ?_) ((Stays.and_ (M2.stays w m p [.int .u64 0, .int .i64 0, .int .u64 0, .int .u64 0, .int .i64 0]) (fun _ _ h hb => ⟨h.1.below hb, h.2⟩) : Stays (fun wx => M2 w m p [.int .u64 0, .int .i64 0, .int .u64 0, .int .u64 0, .int .i64 0] wx ∧ (Cs wx g6 [.int .u64 m.b, .int .i64 0, .int .u64 0, .int .u64 (IntKind.u64.wrap (m.w - p.2.2)), .int .i64 (m.n - 1)] ∧ w.heap.size + 2 < g6)))) (fun _ h => h.1) rfl (by kernel_rfl) (by kernel_rfl) (by kernel_rfl) (by kernel_rfl) (fun _ _ _ h => h) (SteadyB.of_yields (Or.inl ⟨by rfl, ?_⟩)) ?_
        rotate_left
        · intro wq hSw
          obtain ⟨m0, m1, m2, m3, m4⟩ := Mu.at m hSw.1
          obtain ⟨q0, q1, q2⟩ := P3.at p hSw.2.1
          go_simp
          (try with_reducible rfl)
        try simp only [List.getElem_toArray, List.getElem_cons_zero, List.getElem_cons_succ, Act.put, List.setIfInBounds_toArray, List.set_cons_zero, List.set_cons_succ]
        refine wpAnyE_take (i := 2) (v := ?_) ((Stays.and_ (M2.stays w m p [.int .u64 0, .int .i64 0, .int .u64 0, .int .u64 0, .int .i64 0]) (fun _ _ h hb => ⟨h.1.below hb, h.2⟩) : Stays (fun wx => M2 w m p [.int .u64 0, .int .i64 0, .int .u64 0, .int .u64 0, .int .i64 0] wx ∧ (Cs wx g6 [.int .u64 m.b, .int .i64 0, .int .u64 0, .int .u64 (IntKind.u64.wrap (m.w - p.2.2)), .int .i64 (m.n - 1)] ∧ w.heap.size + 2 < g6)))) (fun _ h => h.1) rfl (by kernel_rfl) (by kernel_rfl) (by kernel_rfl) (by kernel_rfl) (fun _ _ _ h => h) (SteadyB.of_yields (Or.inl ⟨by rfl, ?_⟩)) ?_
        rotate_left
        · intro wq hSw
          obtain ⟨m0, m1, m2, m3, m4⟩ := Mu.at m hSw.1
          obtain ⟨q0, q1, q2⟩ := P3.at p hSw.2.1
          go_simp
          (try with_reducible rfl)
        try simp only [List.getElem_toArray, List.getElem_cons_zero, List.getElem_cons_succ, Act.put, List.setIfInBounds_toArray, List.set_cons_zero, List.set_cons_succ]
        refine wpAnyE_take (i := 3) (v := ?_) ((Stays.and_ (M2.stays w m p [.int .u64 0, .int .i64 0, .int .u64 0, .int .u64 0, .int .i64 0]) (fun _ _ h hb => ⟨h.1.below hb, h.2⟩) : Stays (fun wx => M2 w m p [.int .u64 0, .int .i64 0, .int .u64 0, .int .u64 0, .int .i64 0] wx ∧ (Cs wx g6 [.int .u64 m.b, .int .i64 0, .int .u64 0, .int .u64 (IntKind.u64.wrap (m.w - p.2.2)), .int .i64 (m.n - 1)] ∧ w.heap.size + 2 < g6)))) (fun _ h => h.1) rfl (by kernel_rfl) (by kernel_rfl) (by kernel_rfl) (by kernel_rfl) (fun _ _ _ h => h) (SteadyB.of_yields (Or.inl ⟨by rfl, ?_⟩)) ?_
        rotate_left
        · intro wq hSw
          go_simp
          (try with_reducible rfl)
        try simp only [List.getElem_toArray, List.getElem_cons_zero, List.getElem_cons_succ, Act.put, List.setIfInBounds_toArray, List.set_cons_zero, List.set_cons_succ]
        refine wpAnyE_take (i := 4) (v := ?_) ((Stays.and_ (M2.stays w m p [.int .u64 0, .int .i64 0, .int .u64 0, .int .u64 0, .int .i64 0]) (fun _ _ h hb => ⟨h.1.below hb, h.2⟩) : Stays (fun wx => M2 w m p [.int .u64 0, .int .i64 0, .int .u64 0, .int .u64 0, .int .i64 0] wx ∧ (Cs wx g6 [.int .u64 m.b, .int .i64 0, .int .u64 0, .int .u64 (IntKind.u64.wrap (m.w - p.2.2)), .int .i64 (m.n - 1)] ∧ w.heap.size + 2 < g6)))) (fun _ h => h.1) rfl (by kernel_rfl) (by kernel_rfl) (by kernel_rfl) (by kernel_rfl) (fun _ _ _ h => h) (SteadyB.of_yields (Or.inl ⟨by rfl, ?_⟩)) ?_
        rotate_left
        · intro wq hSw
          obtain ⟨m0, m1, m2, m3, m4⟩ := Mu.at m hSw.1
          obtain ⟨q0, q1, q2⟩ := P3.at p hSw.2.1
          go_simp
          (try with_reducible rfl)
        try simp only [List.getElem_toArray, List.getElem_cons_zero, List.getElem_cons_succ, Act.put, List.setIfInBounds_toArray, List.set_cons_zero, List.set_cons_succ]
        refine wpAnyE_take (i := 5) (v := wv (pD m.b p)) ((Stays.and_ (M2.stays w m p [.int .u64 0, .int .i64 0, .int .u64 0, .int .u64 0, .int .i64 0]) (fun _ _ h hb => ⟨h.1.below hb, h.2⟩) : Stays (fun wx => M2 w m p [.int .u64 0, .int .i64 0, .int .u64 0, .int .u64 0, .int .i64 0] wx ∧ (Cs wx g6 [.int .u64 m.b, .int .i64 0, .int .u64 0, .int .u64 (IntKind.u64.wrap (m.w - p.2.2)), .int .i64 (m.n - 1)] ∧ w.heap.size + 2 < g6)))) (fun _ h => h.1) rfl (by kernel_rfl) (by kernel_rfl) (by kernel_rfl) (by kernel_rfl) (fun _ _ _ h => h) (Or.inl ⟨by rfl, fun wq hSw => ?_⟩) ?_
        · refine RunB.of_calls (Pos.distanceF m.b HP.out wq) (by go_simp) ?_
          rintro e wr ⟨rfl, hb⟩
          exact ⟨rfl, hb⟩
        try simp only [List.getElem_toArray, List.getElem_cons_zero, List.getElem_cons_succ, Act.put, List.setIfInBounds_toArray, List.set_cons_zero, List.set_cons_succ]
        refine wpAnyE_take (i := 6) (v := (.tuple #[wv (clW (m.a - pD m.b p)), .bool (okW (m.a - pD m.b p))])) ((Stays.and_ (M2.stays w m p [.int .u64 0, .int .i64 0, .int .u64 0, .int .u64 0, .int .i64 0]) (fun _ _ h hb => ⟨h.1.below hb, h.2⟩) : Stays (fun wx => M2 w m p [.int .u64 0, .int .i64 0, .int .u64 0, .int .u64 0, .int .i64 0] wx ∧ (Cs wx g6 [.int .u64 m.b, .int .i64 0, .int .u64 0, .int .u64 (IntKind.u64.wrap (m.w - p.2.2)), .int .i64 (m.n - 1)] ∧ w.heap.size + 2 < g6)))) (fun _ h => h.1) rfl (by kernel_rfl) (by kernel_rfl) (by kernel_rfl) (by kernel_rfl) (fun _ _ _ h => h) (Or.inl ⟨by rfl, fun wq hSw => ?_⟩) ?_
        · refine RunB.of_calls (Wide.subF HM.out.2.1 HD.out wq) (by go_simp) ?_
          rintro e wr ⟨rfl, hb⟩
          exact ⟨rfl, hb⟩
        try simp only [List.getElem_toArray, List.getElem_cons_zero, List.getElem_cons_succ, Act.put, List.setIfInBounds_toArray, List.set_cons_zero, List.set_cons_succ]
        refine wpAnyE_take (i := 7) (v := ?_) ((Stays.and_ (M2.stays w m p [.int .u64 0, .int .i64 0, .int .u64 0, .int .u64 0, .int .i64 0]) (fun _ _ h hb => ⟨h.1.below hb, h.2⟩) : Stays (fun wx => M2 w m p [.int .u64 0, .int .i64 0, .int .u64 0, .int .u64 0, .int .i64 0] wx ∧ (Cs wx g6 [.int .u64 m.b, .int .i64 0, .int .u64 0, .int .u64 (IntKind.u64.wrap (m.w - p.2.2)), .int .i64 (m.n - 1)] ∧ w.heap.size + 2 < g6)))) (fun _ h => h.1) rfl (by kernel_rfl) (by kernel_rfl) (by kernel_rfl) (by kernel_rfl) (fun _ _ _ h => h) (SteadyB.of_yields (Or.inl ⟨by rfl, ?_⟩)) ?_
        rotate_left
        · intro wq hSw
          go_simp
          (try with_reducible rfl)
        try simp only [List.getElem_toArray, List.getElem_cons_zero, List.getElem_cons_succ, Act.put, List.setIfInBounds_toArray, List.set_cons_zero, List.set_cons_succ]
        refine wpAnyE_take (i := 8) (v := ?_) ((Stays.and_ (M2.stays w m p [.int .u64 0, .int .i64 0, .int .u64 0, .int .u64 0, .int .i64 0]) (fun _ _ h hb => ⟨h.1.below hb, h.2⟩) : Stays (fun wx => M2 w m p [.int .u64 0, .int .i64 0, .int .u64 0, .int .u64 0, .int .i64 0] wx ∧ (Cs wx g6 [.int .u64 m.b, .int .i64 0, .int .u64 0, .int .u64 (IntKind.u64.wrap (m.w - p.2.2)), .int .i64 (m.n - 1)] ∧ w.heap.size + 2 < g6)))) (fun _ h => h.1) rfl (by kernel_rfl) (by kernel_rfl) (by kernel_rfl) (by kernel_rfl) (fun _ _ _ h => h) (SteadyB.of_yields (Or.inl ⟨by rfl, ?_⟩)) ?_
        rotate_left
        · intro wq hSw
          go_simp
          (try with_reducible rfl)
        try simp only [List.getElem_toArray, List.getElem_cons_zero, List.getElem_cons_succ, Act.put, List.setIfInBounds_toArray, List.set_cons_zero, List.set_cons_succ]
        refine wpAnyE_take (i := 9) (v := ?_) ((Stays.and_ (M2.stays w m p [.int .u64 0, .int .i64 0, .int .u64 0, .int .u64 0, .int .i64 0]) (fun _ _ h hb => ⟨h.1.below hb, h.2⟩) : Stays (fun wx => M2 w m p [.int .u64 0, .int .i64 0, .int .u64 0, .int .u64 0, .int .i64 0] wx ∧ (Cs wx g6 [.int .u64 m.b, .int .i64 0, .int .u64 0, .int .u64 (IntKind.u64.wrap (m.w - p.2.2)), .int .i64 (m.n - 1)] ∧ w.heap.size + 2 < g6)))) (fun _ h => h.1) rfl (by kernel_rfl) (by kernel_rfl) (by kernel_rfl) (by kernel_rfl) (fun _ _ _ h => h) (SteadyB.of_yields (Or.inl ⟨by rfl, ?_⟩)) ?_
        rotate_left
        · intro wq hSw
          go_simp
          (try with_reducible rfl)
        try simp only [List.getElem_toArray, List.getElem_cons_zero, List.getElem_cons_succ, Act.put, List.setIfInBounds_toArray, List.set_cons_zero, List.set_cons_succ]
        refine wpAnyE_take (i := 10) (v := ?_) ((Stays.and_ (M2.stays w m p [.int .u64 0, .int .i64 0, .int .u64 0, .int .u64 0, .int .i64 0]) (fun _ _ h hb => ⟨h.1.below hb, h.2⟩) : Stays (fun wx => M2 w m p [.int .u64 0, .int .i64 0, .int .u64 0, .int .u64 0, .int .i64 0] wx ∧ (Cs wx g6 [.int .u64 m.b, .int .i64 0, .int .u64 0, .int .u64 (IntKind.u64.wrap (m.w - p.2.2)), .int .i64 (m.n - 1)] ∧ w.heap.size + 2 < g6)))) (fun _ h => h.1) rfl (by kernel_rfl) (by kernel_rfl) (by kernel_rfl) (by kernel_rfl) (fun _ _ _ h => h) (SteadyB.of_yields (Or.inl ⟨by rfl, ?_⟩)) ?_
        rotate_left
        · intro wq hSw
          go_simp
          (try with_reducible rfl)
        try simp only [List.getElem_toArray, List.getElem_cons_zero, List.getElem_cons_succ, Act.put, List.setIfInBounds_toArray, List.set_cons_zero, List.set_cons_succ]
        refine wpAnyE_storeAt (i := 11) (fun wx => (fun wx => M2 w m p [.int .u64 0, .int .i64 0, .int .u64 0, .int .u64 0, .int .i64 0] wx) wx ∧ (Cs wx g6 [.int .u64 m.b, .int .i64 (hiW (clW (m.a - pD m.b p))), .int .u64 (loW (clW (m.a - pD m.b p))), .int .u64 (IntKind.u64.wrap (m.w - p.2.2)), .int .i64 (m.n - 1)] ∧ w.heap.size + 2 < g6)) 34 [.int .i64 (hiW (clW (m.a - pD m.b p))), .int .u64 (loW (clW (m.a - pD m.b p)))] [.int .u64 m.b, .int .i64 0, .int .u64 0, .int .u64 (IntKind.u64.wrap (m.w - p.2.2)), .int .i64 (m.n - 1)] g6 1 infoWide (.tmp 47) (.tmp 45) rfl rfl (by kernel_rfl) (by decide) (by rfl) ?st11_1a ?st11_1b ?st11_1c ?st11_1d ?st11_1e (fun _ h => h.2.1) (fun _ h => ⟨h.1.putF h.2.2 _, Cs.putL _ 1 h.2.1 (by simp), h.2.2⟩) (fun _ h => h.1) ((Stays.and_ (M2.stays w m p [.int .u64 0, .int .i64 0, .int .u64 0, .int .u64 0, .int .i64 0] : Stays (fun wx => M2 w m p [.int .u64 0, .int .i64 0, .int .u64 0, .int .u64 0, .int .i64 0] wx)) (fun _ _ h hb => ⟨h.1.below hb, h.2⟩))) ?st11_1f
        case st11_1a => rfl
        case st11_1b => simp
        case st11_1c => rfl
        case st11_1d => rfl
        case st11_1e => rfl
        try simp only [List.getElem_toArray, List.getElem_cons_zero, List.getElem_cons_succ, Act.put, List.setIfInBounds_toArray, List.set_cons_zero, List.set_cons_succ]
        refine wpAnyE_take (i := 12) (v := ?_) ((Stays.and_ (M2.stays w m p [.int .u64 0, .int .i64 0, .int .u64 0, .int .u64 0, .int .i64 0] : Stays (fun wx => M2 w m p [.int .u64 0, .int .i64 0, .int .u64 0, .int .u64 0, .int .i64 0] wx)) (fun _ _ h hb => ⟨h.1.below hb, h.2⟩))) (fun _ h => h.1) rfl (by kernel_rfl) (by kernel_rfl) (by kernel_rfl) (by kernel_rfl) (fun _ _ _ h => h) (SteadyB.of_yields (Or.inl ⟨by rfl, ?_⟩)) ?_
        rotate_left
        · intro wq hSw
          go_simp
          (try with_reducible rfl)
        try simp only [List.getElem_toArray, List.getElem_cons_zero, List.getElem_cons_succ, Act.put, List.setIfInBounds_toArray, List.set_cons_zero, List.set_cons_succ]
        refine wpAnyE_done (by kernel_rfl) (fun wz hSz => ?_) _
        have HQ5 := hid hSz.1
        clear hSz HQ3 HL
        rw [H5.out]
        have HCr := hid HQ5.out.2.2.1
        go_wp2_with (first | ((with_reducible refine wpList_put_cs 36 [.int .u64 0, .int .i64 0, .int .u64 0, .int .u64 0, .int .i64 0] infoMean rfl (.tmp 4) (.tmp 50) rfl (w.heap.size + 2) _ HCr.out ?h12006_1 ?h12006_2 ?h12006_3 ?h12006_4 ?h12006_5 ?h12006_6); (case h12006_1 => rfl); (case h12006_2 => rfl); (case h12006_3 => rfl); (case h12006_4 => rfl); (case h12006_5 => rfl); (intro W2 hW2); (have HW := hid (HQ5.out.put hW2)); (clear hW2)) | fail)
        obtain ⟨z0, z1, z2, z3, z4⟩ := HW.out.1.five
        go_wp2_with fail
        refine bodyPost_ret (v := .tuple #[Mu.val Mu.no, .bool false]) (by simp [results, Tryz.results23, go_sem, z0, z1, z2, z3, z4, hiW0, loW0]) rfl ⟨rfl, HW.out.2⟩
      | true =>
        have ET := hid (take_two HP.out h1 h2 (by have := HB.out; omega) h5)
        have H5 := hid h5
        have H6 := hid (clW_ok h5)
        have HLI : Hid ((Mu.mk m.b (m.a - pD m.b p) (IntKind.u64.wrap (m.w - p.2.2)) (m.n - 1)).In) := hid ⟨HM.out.1, okW_iff.1 h5, by simp only; rw [IntKind.wrap_u64]; omega, by simp only; have := HB.out; omega⟩
        clear h1 h2 h3 h4 h5
        cases hr : (Mu.mk m.b (m.a - pD m.b p) (IntKind.u64.wrap (m.w - p.2.2)) (m.n - 1)).right with
        | false =>
          have E9 : Hid (m.take p = (false, Mu.no)) := hid (by rw [ET.out, hr]; rw [if_neg (by decide)])
          rw [E9.out]
          have HR9 := hid hr
          clear hr
          have HQ0 := hid (M2.new w m p)
          go_enter Tryz.func23, Tryz.ntmps23
          go_wp2_with fail
          generalize (((w.alloc (.cells #[.int .u64 m.b, .int .i64 (hiW m.a), .int .u64 (loW m.a), .int .u64 m.w, .int .i64 m.n] 36)).alloc (.cells #[.int .u64 p.1, .int .u32 p.2.1, .int .u32 p.2.2] 29)).alloc (.cells #[.int .u64 0, .int .i64 0, .int .u64 0, .int .u64 0, .int .i64 0] 36)) = W0 at HQ0 ⊢
          obtain ⟨m0, m1, m2, m3, m4⟩ := Mu.at m HQ0.out.1
          go_wp2_with fail
          refine (Mean.right m HM.out _).mono ?_
          rintro e w1 ⟨rfl, hb⟩
          have HQ1 := hid (HQ0.out.below hb)
          clear hb HQ0 m0 m1 m2 m3 m4
          rw [H1.out]
          obtain ⟨q0, q1, q2⟩ := P3.at p HQ1.out.2.1
          go_wp2_with fail
          refine (Pos.rightF p _).mono ?_
          rintro e w2 ⟨rfl, hb⟩
          have HQ2 := hid (HQ1.out.below hb)
          clear hb q0 q1 q2 HQ1
          rw [H2.out]
          obtain ⟨m0, m1, m2, m3, m4⟩ := Mu.at m HQ2.out.1
          obtain ⟨q0, q1, q2⟩ := P3.at p HQ2.out.2.1
          have c3 := C3.out
          have g0 := G1.out
          have HL : Hid (Cs (w2.alloc (.cells #[.int .u64 m.b, .int .i64 0, .int .u64 0, .int .u64 (IntKind.u64.wrap (m.w - p.2.2)), .int .i64 (m.n - 1)] 36)) w2.heap.size [.int .u64 m.b, .int .i64 0, .int .u64 0, .int .u64 (IntKind.u64.wrap (m.w - p.2.2)), .int .i64 (m.n - 1)] ∧ w.heap.size + 2 < w2.heap.size) := hid ⟨Cs.alloc_new6 w2 36 [.int .u64 m.b, .int .i64 0, .int .u64 0, .int .u64 (IntKind.u64.wrap (m.w - p.2.2)), .int .i64 (m.n - 1)], HQ2.out.2.2.1.lt⟩
          have HQ3 := hid (HQ2.out.below ((Below.refl _ _).alloc (Nat.le_refl _) (.cells #[.int .u64 m.b, .int .i64 0, .int .u64 0, .int .u64 (IntKind.u64.wrap (m.w - p.2.2)), .int .i64 (m.n - 1)] 36)))
          go_wp2_with fail
          generalize w2.alloc (.cells #[.int .u64 m.b, .int .i64 0, .int .u64 0, .int .u64 (IntKind.u64.wrap (m.w - p.2.2)), .int .i64 (m.n - 1)] 36) = W3 at HQ3 HL ⊢
          generalize w2.heap.size = g6 at HL ⊢
          clear HQ2 m0 m1 m2 m3 m4 c3 g0 q0 q1 q2
          refine wp_region_any (by kernel_rfl) (wpAny_of_E (S0 := fun wx => M2 w m p [.int .u64 0, .int .i64 0, .int .u64 0, .int .u64 0, .int .i64 0] wx) (n := 13) _ (fun wx => M2 w m p [.int .u64 0, .int .i64 0, .int .u64 0, .int .u64 0, .int .i64 0] wx ∧ (Cs wx g6 [.int .u64 m.b, .int .i64 0, .int .u64 0, .int .u64 (IntKind.u64.wrap (m.w - p.2.2)), .int .i64 (m.n - 1)] ∧ w.heap.size + 2 < g6)) _ _ _ (⟨HQ3.out.below (Below.refl _ _).drew, HL.out⟩) ?_)
          refine wpAnyE_take (i := 0) (v := ?_) ((Stays.and_ (M2.stays w m p [.int .u64 0, .int .i64 0, .int .u64 0, .int .u64 0, .int .i64 0]) (fun _ _ h hb => ⟨h.1.below hb, h.2⟩) : Stays (fun wx => M2 w m p [.int .u64 0, .int .i64 0, .int .u64 0, .int .u64 0, .int .i64 0] wx ∧ (Cs wx g6 [.int .u64 m.b, .int .i64 0, .int .u64 0, .int .u64 (IntKind.u64.wrap (m.w - p.2.2)), .int .i64 (m.n - 1)] ∧ w.heap.size + 2 < g6)))) (fun _ h => h.1) rfl (by kernel_rfl) (by kernel_rfl) (by kernel_rfl) (by kernel_rfl) (fun _ _ _ h => h) (SteadyB.of_yields (Or.inl ⟨by rfl, ?_⟩)) ?_
          rotate_left
          · intro wq hSw
            go_simp
            (try with_reducible rfl)
          try simp only [List.getElem_toArray, List.getElem_cons_zero, List.getElem_cons_succ, Act.put, List.setIfInBounds_toArray, List.set_cons_zero, List.set_cons_succ]
          refine wpAnyE_take (i := 1) (v := ?_) ((Stays.and_ (M2.stays w m p [.int .u64 0, .int .i64 0, .int .u64 0, .int .u64 0, .int .i64 0]) (fun _ _ h hb => ⟨h.1.below hb, h.2⟩) : Stays (fun wx => M2 w m p [.int .u64 0, .int .i64 0, .int .u64 0, .int .u64 0, .int .i64 0] wx ∧ (Cs wx g6 [.int .u64 m.b, .int .i64 0, .int .u64 0, .int .u64 (IntKind.u64.wrap (m.w - p.2.2)), .int .i64 (m.n - 1)] ∧ w.heap.size + 2 < g6)))) (fun _ h => h.1) rfl (by kernel_rfl) (by kernel_rfl) (by kernel_rfl) (by kernel_rfl) (fun _ _ _ h => h) (SteadyB.of_yields (Or.inl ⟨by rfl, ?_⟩)) ?_
          rotate_left
          · intro wq hSw
            obtain ⟨m0, m1, m2, m3, m4⟩ := Mu.at m hSw.1
            obtain ⟨q0, q1, q2⟩ := P3.at p hSw.2.1
            go_simp
            (try with_reducible rfl)
          try simp only [List.getElem_toArray, List.getElem_cons_zero, List.getElem_cons_succ, Act.put, List.setIfInBounds_toArray, List.set_cons_zero, List.set_cons_succ]
          refine wpAnyE_take (i := 2) (v := ?_) ((Stays.and_ (M2.stays w m p [.int .u64 0, .int .i64 0, .int .u64 0, .int .u64 0, .int .i64 0]) (fun _ _ h hb => ⟨h.1.below hb, h.2⟩) : Stays (fun wx => M2 w m p [.int .u64 0, .int .i64 0, .int .u64 0, .int .u64 0, .int .i64 0] wx ∧ (Cs wx g6 [.int .u64 m.b, .int .i64 0, .int .u64 0, .int .u64 (IntKind.u64.wrap (m.w - p.2.2)), .int .i64 (m.n - 1)] ∧ w.heap.size + 2 < g6)))) (fun _ h => h.1) rfl (by kernel_rfl) (by kernel_rfl) (by kernel_rfl) (by kernel_rfl) (fun _ _ _ h => h) (SteadyB.of_yields (Or.inl ⟨by rfl, ?_⟩)) ?_
          rotate_left
          · intro wq hSw
            obtain ⟨m0, m1, m2, m3, m4⟩ := Mu.at m hSw.1
            obtain ⟨q0, q1, q2⟩ := P3.at p hSw.2.1
            go_simp
            (try with_reducible rfl)
          try simp only [List.getElem_toArray, List.getElem_cons_zero, List.getElem_cons_succ, Act.put, List.setIfInBounds_toArray, List.set_cons_zero, List.set_cons_succ]
          refine wpAnyE_take (i := 3) (v := ?_) ((Stays.and_ (M2.stays w m p [.int .u64 0, .int .i64 0, .int .u64 0, .int .u64 0, .int .i64 0]) (fun _ _ h hb => ⟨h.1.below hb, h.2⟩) : Stays (fun wx => M2 w m p [.int .u64 0, .int .i64 0, .int .u64 0, .int .u64 0, .int .i64 0] wx ∧ (Cs wx g6 [.int .u64 m.b, .int .i64 0, .int .u64 0, .int .u64 (IntKind.u64.wrap (m.w - p.2.2)), .int .i64 (m.n - 1)] ∧ w.heap.size + 2 < g6)))) (fun _ h => h.1) rfl (by kernel_rfl) (by kernel_rfl) (by kernel_rfl) (by kernel_rfl) (fun _ _ _ h => h) (SteadyB.of_yields (Or.inl ⟨by rfl, ?_⟩)) ?_
          rotate_left
          · intro wq hSw
            go_simp
            (try with_reducible rfl)
          try simp only [List.getElem_toArray, List.getElem_cons_zero, List.getElem_cons_succ, Act.put, List.setIfInBounds_toArray, List.set_cons_zero, List.set_cons_succ]
          refine wpAnyE_take (i := 4) (v := ?_) ((Stays.and_ (M2.stays w m p [.int .u64 0, .int .i64 0, .int .u64 0, .int .u64 0, .int .i64 0]) (fun _ _ h hb => ⟨h.1.below hb, h.2⟩) : Stays (fun wx => M2 w m p [.int .u64 0, .int .i64 0, .int .u64 0, .int .u64 0, .int .i64 0] wx ∧ (Cs wx g6 [.int .u64 m.b, .int .i64 0, .int .u64 0, .int .u64 (IntKind.u64.wrap (m.w - p.2.2)), .int .i64 (m.n - 1)] ∧ w.heap.size + 2 < g6)))) (fun _ h => h.1) rfl (by kernel_rfl) (by kernel_rfl) (by kernel_rfl) (by kernel_rfl) (fun _ _ _ h => h) (SteadyB.of_yields (Or.inl ⟨by rfl, ?_⟩)) ?_
          rotate_left
          · intro wq hSw
            obtain ⟨m0, m1, m2, m3, m4⟩ := Mu.at m hSw.1
            obtain ⟨q0, q1, q2⟩ := P3.at p hSw.2.1
            go_simp
            (try with_reducible rfl)
          try simp only [List.getElem_toArray, List.getElem_cons_zero, List.getElem_cons_succ, Act.put, List.setIfInBounds_toArray, List.set_cons_zero, List.set_cons_succ]
          refine wpAnyE_take (i := 5) (v := wv (pD m.b p)) ((Stays.and_ (M2.stays w m p [.int .u64 0, .int .i64 0, .int .u64 0, .int .u64 0, .int .i64 0]) (fun _ _ h hb => ⟨h.1.below hb, h.2⟩) : Stays (fun wx => M2 w m p [.int .u64 0, .int .i64 0, .int .u64 0, .int .u64 0, .int .i64 0] wx ∧ (Cs wx g6 [.int .u64 m.b, .int .i64 0, .int .u64 0, .int .u64 (IntKind.u64.wrap (m.w - p.2.2)), .int .i64 (m.n - 1)] ∧ w.heap.size + 2 < g6)))) (fun _ h => h.1) rfl (by kernel_rfl) (by kernel_rfl) (by kernel_rfl) (by kernel_rfl) (fun _ _ _ h => h) (Or.inl ⟨by rfl, fun wq hSw => ?_⟩) ?_
          · refine RunB.of_calls (Pos.distanceF m.b HP.out wq) (by go_simp) ?_
            rintro e wr ⟨rfl, hb⟩
            exact ⟨rfl, hb⟩
          try simp only [List.getElem_toArray, List.getElem_cons_zero, List.getElem_cons_succ, Act.put, List.setIfInBounds_toArray, List.set_cons_zero, List.set_cons_succ]
          refine wpAnyE_take (i := 6) (v := (.tuple #[wv (clW (m.a - pD m.b p)), .bool (okW (m.a - pD m.b p))])) ((Stays.and_ (M2.stays w m p [.int .u64 0, .int .i64 0, .int .u64 0, .int .u64 0, .int .i64 0]) (fun _ _ h hb => ⟨h.1.below hb, h.2⟩) : Stays (fun wx => M2 w m p [.int .u64 0, .int .i64 0, .int .u64 0, .int .u64 0, .int .i64 0] wx ∧ (Cs wx g6 [.int .u64 m.b, .int .i64 0, .int .u64 0, .int .u64 (IntKind.u64.wrap (m.w - p.2.2)), .int .i64 (m.n - 1)] ∧ w.heap.size + 2 < g6)))) (fun _ h => h.1) rfl (by kernel_rfl) (by kernel_rfl) (by kernel_rfl) (by kernel_rfl) (fun _ _ _ h => h) (Or.inl ⟨by rfl, fun wq hSw => ?_⟩) ?_
          · refine RunB.of_calls (Wide.subF HM.out.2.1 HD.out wq) (by go_simp) ?_
            rintro e wr ⟨rfl, hb⟩
            exact ⟨rfl, hb⟩
          try simp only [List.getElem_toArray, List.getElem_cons_zero, List.getElem_cons_succ, Act.put, List.setIfInBounds_toArray, List.set_cons_zero, List.set_cons_succ]
          refine wpAnyE_take (i := 7) (v := ?_) ((Stays.and_ (M2.stays w m p [.int .u64 0, .int .i64 0, .int .u64 0, .int .u64 0, .int .i64 0]) (fun _ _ h hb => ⟨h.1.below hb, h.2⟩) : Stays (fun wx => M2 w m p [.int .u64 0, .int .i64 0, .int .u64 0, .int .u64 0, .int .i64 0] wx ∧ (Cs wx g6 [.int .u64 m.b, .int .i64 0, .int .u64 0, .int .u64 (IntKind.u64.wrap (m.w - p.2.2)), .int .i64 (m.n - 1)] ∧ w.heap.size + 2 < g6)))) (fun _ h => h.1) rfl (by kernel_rfl) (by kernel_rfl) (by kernel_rfl) (by kernel_rfl) (fun _ _ _ h => h) (SteadyB.of_yields (Or.inl ⟨by rfl, ?_⟩)) ?_
          rotate_left
          · intro wq hSw
            go_simp
            (try with_reducible rfl)
          try simp only [List.getElem_toArray, List.getElem_cons_zero, List.getElem_cons_succ, Act.put, List.setIfInBounds_toArray, List.set_cons_zero, List.set_cons_succ]
          refine wpAnyE_take (i := 8) (v := ?_) ((Stays.and_ (M2.stays w m p [.int .u64 0, .int .i64 0, .int .u64 0, .int .u64 0, .int .i64 0]) (fun _ _ h hb => ⟨h.1.below hb, h.2⟩) : Stays (fun wx => M2 w m p [.int .u64 0, .int .i64 0, .int .u64 0, .int .u64 0, .int .i64 0] wx ∧ (Cs wx g6 [.int .u64 m.b, .int .i64 0, .int .u64 0, .int .u64 (IntKind.u64.wrap (m.w - p.2.2)), .int .i64 (m.n - 1)] ∧ w.heap.size + 2 < g6)))) (fun _ h => h.1) rfl (by kernel_rfl) (by kernel_rfl) (by kernel_rfl) (by kernel_rfl) (fun _ _ _ h => h) (SteadyB.of_yields (Or.inl ⟨by rfl, ?_⟩)) ?_
          rotate_left
          · intro wq hSw
            go_simp
            (try with_reducible rfl)
          try simp only [List.getElem_toArray, List.getElem_cons_zero, List.getElem_cons_succ, Act.put, List.setIfInBounds_toArray, List.set_cons_zero, List.set_cons_succ]
          refine wpAnyE_take (i := 9) (v := ?_) ((Stays.and_ (M2.stays w m p [.int .u64 0, .int .i64 0, .int .u64 0, .int .u64 0, .int .i64 0]) (fun _ _ h hb => ⟨h.1.below hb, h.2⟩) : Stays (fun wx => M2 w m p [.int .u64 0, .int .i64 0, .int .u64 0, .int .u64 0, .int .i64 0] wx ∧ (Cs wx g6 [.int .u64 m.b, .int .i64 0, .int .u64 0, .int .u64 (IntKind.u64.wrap (m.w - p.2.2)), .int .i64 (m.n - 1)] ∧ w.heap.size + 2 < g6)))) (fun _ h => h.1) rfl (by kernel_rfl) (by kernel_rfl) (by kernel_rfl) (by kernel_rfl) (fun _ _ _ h => h) (SteadyB.of_yields (Or.inl ⟨by rfl, ?_⟩)) ?_
          rotate_left
          · intro wq hSw
            go_simp
            (try with_reducible rfl)
          try simp only [List.getElem_toArray, List.getElem_cons_zero, List.getElem_cons_succ, Act.put, List.setIfInBounds_toArray, List.set_cons_zero, List.set_cons_succ]
          refine wpAnyE_take (i := 10) (v := ?_) ((Stays.and_ (M2.stays w m p [.int .u64 0, .int .i64 0, .int .u64 0, .int .u64 0, .int .i64 0]) (fun _ _ h hb => ⟨h.1.below hb, h.2⟩) : Stays (fun wx => M2 w m p [.int .u64 0, .int .i64 0, .int .u64 0, .int .u64 0, .int .i64 0] wx ∧ (Cs wx g6 [.int .u64 m.b, .int .i64 0, .int .u64 0, .int .u64 (IntKind.u64.wrap (m.w - p.2.2)), .int .i64 (m.n - 1)] ∧ w.heap.size + 2 < g6)))) (fun _ h => h.1) rfl (by kernel_rfl) (by kernel_rfl) (by kernel_rfl) (by kernel_rfl) (fun _ _ _ h => h) (SteadyB.of_yields (Or.inl ⟨by rfl, ?_⟩)) ?_
          rotate_left
          · intro wq hSw
            go_simp
            (try with_reducible rfl)
          try simp only [List.getElem_toArray, List.getElem_cons_zero, List.getElem_cons_succ, Act.put, List.setIfInBounds_toArray, List.set_cons_zero, List.set_cons_succ]
          refine wpAnyE_storeAt (i := 11) (fun wx => (fun wx => M2 w m p [.int .u64 0, .int .i64 0, .int .u64 0, .int .u64 0, .int .i64 0] wx) wx ∧ (Cs wx g6 [.int .u64 m.b, .int .i64 (hiW (clW (m.a - pD m.b p))), .int .u64 (loW (clW (m.a - pD m.b p))), .int .u64 (IntKind.u64.wrap (m.w - p.2.2)), .int .i64 (m.n - 1)] ∧ w.heap.size + 2 < g6)) 34 [.int .i64 (hiW (clW (m.a - pD m.b p))), .int .u64 (loW (clW (m.a - pD m.b p)))] [.int .u64 m.b, .int .i64 0, .int .u64 0, .int .u64 (IntKind.u64.wrap (m.w - p.2.2)), .int .i64 (m.n - 1)] g6 1 infoWide (.tmp 47) (.tmp 45) rfl rfl (by kernel_rfl) (by decide) (by rfl) ?st11_2a ?st11_2b ?st11_2c ?st11_2d ?st11_2e (fun _ h => h.2.1) (fun _ h => ⟨h.1.putF h.2.2 _, Cs.putL _ 1 h.2.1 (by simp), h.2.2⟩) (fun _ h => h.1) ((Stays.and_ (M2.stays w m p [.int .u64 0, .int .i64 0, .int .u64 0, .int .u64 0, .int .i64 0] : Stays (fun wx => M2 w m p [.int .u64 0, .int .i64 0, .int .u64 0, .int .u64 0, .int .i64 0] wx)) (fun _ _ h hb => ⟨h.1.below hb, h.2⟩))) ?st11_2f
          case st11_2a => rfl
          case st11_2b => simp
          case st11_2c => rfl
          case st11_2d => rfl
          case st11_2e => rfl
          try simp only [List.getElem_toArray, List.getElem_cons_zero, List.getElem_cons_succ, Act.put, List.setIfInBounds_toArray, List.set_cons_zero, List.set_cons_succ]
          refine wpAnyE_take (i := 12) (v := ?_) ((Stays.and_ (M2.stays w m p [.int .u64 0, .int .i64 0, .int .u64 0, .int .u64 0, .int .i64 0] : Stays (fun wx => M2 w m p [.int .u64 0, .int .i64 0, .int .u64 0, .int .u64 0, .int .i64 0] wx)) (fun _ _ h hb => ⟨h.1.below hb, h.2⟩))) (fun _ h => h.1) rfl (by kernel_rfl) (by kernel_rfl) (by kernel_rfl) (by kernel_rfl) (fun _ _ _ h => h) (SteadyB.of_yields (Or.inl ⟨by rfl, ?_⟩)) ?_
          rotate_left
          · intro wq hSw
            go_simp
            (try with_reducible rfl)
          try simp only [List.getElem_toArray, List.getElem_cons_zero, List.getElem_cons_succ, Act.put, List.setIfInBounds_toArray, List.set_cons_zero, List.set_cons_succ]
          refine wpAnyE_done (by kernel_rfl) (fun wz hSz => ?_) _
          have HQ5 := hid hSz.1
          have HL5 := hid hSz.2.1
          clear hSz HQ3 HL
          rw [H6.out] at HL5
          rw [H5.out]
          obtain ⟨m0, m1, m2, m3, m4⟩ := HL5.out.five
          go_wp2_with fail
          refine (Mean.right (Mu.mk m.b (m.a - pD m.b p) (IntKind.u64.wrap (m.w - p.2.2)) (m.n - 1)) HLI.out _).mono ?_
          rw [HR9.out]
          rintro e w3 ⟨rfl, hb⟩
          have HQ6 := hid (HQ5.out.below hb)
          have HL6 := hid (HL5.out.below hb)
          clear hb HQ5 HL5 m0 m1 m2 m3 m4
          have HCr := hid HQ6.out.2.2.1
          go_wp2_with (first | ((with_reducible refine wpList_put_cs 36 [.int .u64 0, .int .i64 0, .int .u64 0, .int .u64 0, .int .i64 0] infoMean rfl (.tmp 4) (.tmp 54) rfl (w.heap.size + 2) _ HCr.out ?h12007_1 ?h12007_2 ?h12007_3 ?h12007_4 ?h12007_5 ?h12007_6); (case h12007_1 => rfl); (case h12007_2 => rfl); (case h12007_3 => rfl); (case h12007_4 => rfl); (case h12007_5 => rfl); (intro W2 hW2); (have HW := hid (HQ6.out.put hW2)); (clear hW2)) | fail)
          obtain ⟨z0, z1, z2, z3, z4⟩ := HW.out.1.five
          go_wp2_with fail
          refine bodyPost_ret (v := .tuple #[Mu.val Mu.no, .bool false]) (by simp [results, Tryz.results23, go_sem, z0, z1, z2, z3, z4, hiW0, loW0]) rfl ⟨rfl, HW.out.2⟩
        | true =>
          have E9 : Hid (m.take p = (true, (Mu.mk m.b (m.a - pD m.b p) (IntKind.u64.wrap (m.w - p.2.2)) (m.n - 1)))) := hid (by rw [ET.out, hr]; rw [if_pos rfl])
          rw [E9.out]
          have HR9 := hid hr
          clear hr
          have HQ0 := hid (M2.new w m p)
          go_enter Tryz.func23, Tryz.ntmps23
          go_wp2_with fail
          generalize (((w.alloc (.cells #[.int .u64 m.b, .int .i64 (hiW m.a), .int .u64 (loW m.a), .int .u64 m.w, .int .i64 m.n] 36)).alloc (.cells #[.int .u64 p.1, .int .u32 p.2.1, .int .u32 p.2.2] 29)).alloc (.cells #[.int .u64 0, .int .i64 0, .int .u64 0, .int .u64 0, .int .i64 0] 36)) = W0 at HQ0 ⊢
          obtain ⟨m0, m1, m2, m3, m4⟩ := Mu.at m HQ0.out.1
          go_wp2_with fail
          refine (Mean.right m HM.out _).mono ?_
          rintro e w1 ⟨rfl, hb⟩
          have HQ1 := hid (HQ0.out.below hb)
          clear hb HQ0 m0 m1 m2 m3 m4
          rw [H1.out]
          obtain ⟨q0, q1, q2⟩ := P3.at p HQ1.out.2.1
          go_wp2_with fail
          refine (Pos.rightF p _).mono ?_
          rintro e w2 ⟨rfl, hb⟩
          have HQ2 := hid (HQ1.out.below hb)
          clear hb q0 q1 q2 HQ1
          rw [H2.out]
          obtain ⟨m0, m1, m2, m3, m4⟩ := Mu.at m HQ2.out.1
          obtain ⟨q0, q1, q2⟩ := P3.at p HQ2.out.2.1
          have c3 := C3.out
          have g0 := G1.out
          have HL : Hid (Cs (w2.alloc (.cells #[.int .u64 m.b, .int .i64 0, .int .u64 0, .int .u64 (IntKind.u64.wrap (m.w - p.2.2)), .int .i64 (m.n - 1)] 36)) w2.heap.size [.int .u64 m.b, .int .i64 0, .int .u64 0, .int .u64 (IntKind.u64.wrap (m.w - p.2.2)), .int .i64 (m.n - 1)] ∧ w.heap.size + 2 < w2.heap.size) := hid ⟨Cs.alloc_new6 w2 36 [.int .u64 m.b, .int .i64 0, .int .u64 0, .int .u64 (IntKind.u64.wrap (m.w - p.2.2)), .int .i64 (m.n - 1)], HQ2.out.2.2.1.lt⟩
          have HQ3 := hid (HQ2.out.below ((Below.refl _ _).alloc (Nat.le_refl _) (.cells #[.int .u64 m.b, .int .i64 0, .int .u64 0, .int .u64 (IntKind.u64.wrap (m.w - p.2.2)), .int .i64 (m.n - 1)] 36)))
          go_wp2_with fail
          generalize w2.alloc (.cells #[.int .u64 m.b, .int .i64 0, .int .u64 0, .int .u64 (IntKind.u64.wrap (m.w - p.2.2)), .int .i64 (m.n - 1)] 36) = W3 at HQ3 HL ⊢
          generalize w2.heap.size = g6 at HL ⊢
          clear HQ2 m0 m1 m2 m3 m4 c3 g0 q0 q1 q2
          refine wp_region_any (by kernel_rfl) (wpAny_of_E (S0 := fun wx => M2 w m p [.int .u64 0, .int .i64 0, .int .u64 0, .int .u64 0, .int .i64 0] wx) (n := 13) _ (fun wx => M2 w m p [.int .u64 0, .int .i64 0, .int .u64 0, .int .u64 0, .int .i64 0] wx ∧ (Cs wx g6 [.int .u64 m.b, .int .i64 0, .int .u64 0, .int .u64 (IntKind.u64.wrap (m.w - p.2.2)), .int .i64 (m.n - 1)] ∧ w.heap.size + 2 < g6)) _ _ _ (⟨HQ3.out.below (Below.refl _ _).drew, HL.out⟩) ?_)
          refine wpAnyE_take (i := 0) (v := ?_) ((Stays.and_ (M2.stays w m p [.int .u64 0, .int .i64 0, .int .u64 0, .int .u64 0, .int .i64 0]) (fun _ _ h hb => ⟨h.1.below hb, h.2⟩) : Stays (fun wx => M2 w m p [.int .u64 0, .int .i64 0, .int .u64 0, .int .u64 0, .int .i64 0] wx ∧ (Cs wx g6 [.int .u64 m.b, .int .i64 0, .int .u64 0, .int .u64 (IntKind.u64.wrap (m.w - p.2.2)), .int .i64 (m.n - 1)] ∧ w.heap.size + 2 < g6)))) (fun _ h => h.1) rfl (by kernel_rfl) (by kernel_rfl) (by kernel_rfl) (by kernel_rfl) (fun _ _ _ h => h) (SteadyB.of_yields (Or.inl ⟨by rfl, ?_⟩)) ?_
          rotate_left
          · intro wq hSw
            go_simp
            (try with_reducible rfl)
          try simp only [List.getElem_toArray, List.getElem_cons_zero, List.getElem_cons_succ, Act.put, List.setIfInBounds_toArray, List.set_cons_zero, List.set_cons_succ]
          refine wpAnyE_take (i := 1) (v := ?_) ((Stays.and_ (M2.stays w m p [.int .u64 0, .int .i64 0, .int .u64 0, .int .u64 0, .int .i64 0]) (fun _ _ h hb => ⟨h.1.below hb, h.2⟩) : Stays (fun wx => M2 w m p [.int .u64 0, .int .i64 0, .int .u64 0, .int .u64 0, .int .i64 0] wx ∧ (Cs wx g6 [.int .u64 m.b, .int .i64 0, .int .u64 0, .int .u64 (IntKind.u64.wrap (m.w - p.2.2)), .int .i64 (m.n - 1)] ∧ w.heap.size + 2 < g6)))) (fun _ h => h.1) rfl (by kernel_rfl) (by kernel_rfl) (by kernel_rfl) (by kernel_rfl) (fun _ _ _ h => h) (SteadyB.of_yields (Or.inl ⟨by rfl, ?_⟩)) ?_
          rotate_left
          · intro wq hSw
            obtain ⟨m0, m1, m2, m3, m4⟩ := Mu.at m hSw.1
            obtain ⟨q0, q1, q2⟩ := P3.at p hSw.2.1
            go_simp
            (try with_reducible rfl)
          try simp only [List.getElem_toArray, List.getElem_cons_zero, List.getElem_cons_succ, Act.put, List.setIfInBounds_toArray, List.set_cons_zero, List.set_cons_succ]
          refine wpAnyE_take (i := 2) (v := ?_) ((Stays.and_ (M2.stays w m p [.int .u64 0, .int .i64 0, .int .u64 0, .int .u64 0, .int .i64 0]) (fun _ _ h hb => ⟨h.1.below hb, h.2⟩) : Stays (fun wx => M2 w m p [.int .u64 0, .int .i64 0, .int .u64 0, .int .u64 0, .int .i64 0] wx ∧ (Cs wx g6 [.int .u64 m.b, .int .i64 0, .int .u64 0, .int .u64 (IntKind.u64.wrap (m.w - p.2.2)), .int .i64 (m.n - 1)] ∧ w.heap.size + 2 < g6)))) (fun _ h => h.1) rfl (by kernel_rfl) (by kernel_rfl) (by kernel_rfl) (by kernel_rfl) (fun _ _ _ h => h) (SteadyB.of_yields (Or.inl ⟨by rfl, ?_⟩)) ?_
          rotate_left
          · intro wq hSw
            obtain ⟨m0, m1, m2, m3, m4⟩ := Mu.at m hSw.1
            obtain ⟨q0, q1, q2⟩ := P3.at p hSw.2.1
            go_simp
            (try with_reducible rfl)
          try simp only [List.getElem_toArray, List.getElem_cons_zero, List.getElem_cons_succ, Act.put, List.setIfInBounds_toArray, List.set_cons_zero, List.set_cons_succ]
          refine wpAnyE_take (i := 3) (v := ?_) ((Stays.and_ (M2.stays w m p [.int .u64 0, .int .i64 0, .int .u64 0, .int .u64 0, .int .i64 0]) (fun _ _ h hb => ⟨h.1.below hb, h.2⟩) : Stays (fun wx => M2 w m p [.int .u64 0, .int .i64 0, .int .u64 0, .int .u64 0, .int .i64 0] wx ∧ (Cs wx g6 [.int .u64 m.b, .int .i64 0, .int .u64 0, .int .u64 (IntKind.u64.wrap (m.w - p.2.2)), .int .i64 (m.n - 1)] ∧ w.heap.size + 2 < g6)))) (fun _ h => h.1) rfl (by kernel_rfl) (by kernel_rfl) (by kernel_rfl) (by kernel_rfl) (fun _ _ _ h => h) (SteadyB.of_yields (Or.inl ⟨by rfl, ?_⟩)) ?_
          rotate_left
          · intro wq hSw
            go_simp
            (try with_reducible rfl)
          try simp only [List.getElem_toArray, List.getElem_cons_zero, List.getElem_cons_succ, Act.put, List.setIfInBounds_toArray, List.set_cons_zero, List.set_cons_succ]
          refine wpAnyE_take (i := 4) (v := ?_) ((Stays.and_ (M2.stays w m p [.int .u64 0, .int .i64 0, .int .u64 0, .int .u64 0, .int .i64 0]) (fun _ _ h hb => ⟨h.1.below hb, h.2⟩) : Stays (fun wx => M2 w m p [.int .u64 0, .int .i64 0, .int .u64 0, .int .u64 0, .int .i64 0] wx ∧ (Cs wx g6 [.int .u64 m.b, .int .i64 0, .int .u64 0, .int .u64 (IntKind.u64.wrap (m.w - p.2.2)), .int .i64 (m.n - 1)] ∧ w.heap.size + 2 < g6)))) (fun _ h => h.1) rfl (by kernel_rfl) (by kernel_rfl) (by kernel_rfl) (by kernel_rfl) (fun _ _ _ h => h) (SteadyB.of_yields (Or.inl ⟨by rfl, ?_⟩)) ?_
          rotate_left
          · intro wq hSw
            obtain ⟨m0, m1, m2, m3, m4⟩ := Mu.at m hSw.1
            obtain ⟨q0, q1, q2⟩ := P3.at p hSw.2.1
            go_simp
            (try with_reducible rfl)
          try simp only [List.getElem_toArray, List.getElem_cons_zero, List.getElem_cons_succ, Act.put, List.setIfInBounds_toArray, List.set_cons_zero, List.set_cons_succ]
          refine wpAnyE_take (i := 5) (v := wv (pD m.b p)) ((Stays.and_ (M2.stays w m p [.int .u64 0, .int .i64 0, .int .u64 0, .int .u64 0, .int .i64 0]) (fun _ _ h hb => ⟨h.1.below hb, h.2⟩) : Stays (fun wx => M2 w m p [.int .u64 0, .int .i64 0, .int .u64 0, .int .u64 0, .int .i64 0] wx ∧ (Cs wx g6 [.int .u64 m.b, .int .i64 0, .int .u64 0, .int .u64 (IntKind.u64.wrap (m.w - p.2.2)), .int .i64 (m.n - 1)] ∧ w.heap.size + 2 < g6)))) (fun _ h => h.1) rfl (by kernel_rfl) (by kernel_rfl) (by kernel_rfl) (by kernel_rfl) (fun _ _ _ h => h) (Or.inl ⟨by rfl, fun wq hSw => ?_⟩) ?_
          · refine RunB.of_calls (Pos.distanceF m.b HP.out wq) (by go_simp) ?_
            rintro e wr ⟨rfl, hb⟩
            exact ⟨rfl, hb⟩
          try simp only [List.getElem_toArray, List.getElem_cons_zero, List.getElem_cons_succ, Act.put, List.setIfInBounds_toArray, List.set_cons_zero, List.set_cons_succ]
          refine wpAnyE_take (i := 6) (v := (.tuple #[wv (clW (m.a - pD m.b p)), .bool (okW (m.a - pD m.b p))])) ((Stays.and_ (M2.stays w m p [.int .u64 0, .int .i64 0, .int .u64 0, .int .u64 0, .int .i64 0]) (fun _ _ h hb => ⟨h.1.below hb, h.2⟩) : Stays (fun wx => M2 w m p [.int .u64 0, .int .i64 0, .int .u64 0, .int .u64 0, .int .i64 0] wx ∧ (Cs wx g6 [.int .u64 m.b, .int .i64 0, .int .u64 0, .int .u64 (IntKind.u64.wrap (m.w - p.2.2)), .int .i64 (m.n - 1)] ∧ w.heap.size + 2 < g6)))) (fun _ h => h.1) rfl (by kernel_rfl) (by kernel_rfl) (by kernel_rfl) (by kernel_rfl) (fun _ _ _ h => h) (Or.inl ⟨by rfl, fun wq hSw => ?_⟩) ?_
          · refine RunB.of_calls (Wide.subF HM.out.2.1 HD.out wq) (by go_simp) ?_
            rintro e wr ⟨rfl, hb⟩
            exact ⟨rfl, hb⟩
          try simp only [List.getElem_toArray, List.getElem_cons_zero, List.getElem_cons_succ, Act.put, List.setIfInBounds_toArray, List.set_cons_zero, List.set_cons_succ]
          refine wpAnyE_take (i := 7) (v := ?_) ((Stays.and_ (M2.stays w m p [.int .u64 0, .int .i64 0, .int .u64 0, .int .u64 0, .int .i64 0]) (fun _ _ h hb => ⟨h.1.below hb, h.2⟩) : Stays (fun wx => M2 w m p [.int .u64 0, .int .i64 0, .int .u64 0, .int .u64 0, .int .i64 0] wx ∧ (Cs wx g6 [.int .u64 m.b, .int .i64 0, .int .u64 0, .int .u64 (IntKind.u64.wrap (m.w - p.2.2)), .int .i64 (m.n - 1)] ∧ w.heap.size + 2 < g6)))) (fun _ h => h.1) rfl (by kernel_rfl) (by kernel_rfl) (by kernel_rfl) (by kernel_rfl) (fun _ _ _ h => h) (SteadyB.of_yields (Or.inl ⟨by rfl, ?_⟩)) ?_
          rotate_left
          · intro wq hSw
            go_simp
            (try with_reducible rfl)
          try simp only [List.getElem_toArray, List.getElem_cons_zero, List.getElem_cons_succ, Act.put, List.setIfInBounds_toArray, List.set_cons_zero, List.set_cons_succ]
          refine wpAnyE_take (i := 8) (v := ?_) ((Stays.and_ (M2.stays w m p [.int .u64 0, .int .i64 0, .int .u64 0, .int .u64 0, .int .i64 0]) (fun _ _ h hb => ⟨h.1.below hb, h.2⟩) : Stays (fun wx => M2 w m p [.int .u64 0, .int .i64 0, .int .u64 0, .int .u64 0, .int .i64 0] wx ∧ (Cs wx g6 [.int .u64 m.b, .int .i64 0, .int .u64 0, .int .u64 (IntKind.u64.wrap (m.w - p.2.2)), .int .i64 (m.n - 1)] ∧ w.heap.size + 2 < g6)))) (fun _ h => h.1) rfl (by kernel_rfl) (by kernel_rfl) (by kernel_rfl) (by kernel_rfl) (fun _ _ _ h => h) (SteadyB.of_yields (Or.inl ⟨by rfl, ?_⟩)) ?_
          rotate_left
          · intro wq hSw
            go_simp
            (try with_reducible rfl)
          try simp only [List.getElem_toArray, List.getElem_cons_zero, List.getElem_cons_succ, Act.put, List.setIfInBounds_toArray, List.set_cons_zero, List.set_cons_succ]
          refine wpAnyE_take (i := 9) (v := ?_) ((Stays.and_ (M2.stays w m p [.int .u64 0, .int .i64 0, .int .u64 0, .int .u64 0, .int .i64 0]) (fun _ _ h hb => ⟨h.1.below hb, h.2⟩) : Stays (fun wx => M2 w m p [.int .u64 0, .int .i64 0, .int .u64 0, .int .u64 0, .int .i64 0] wx ∧ (Cs wx g6 [.int .u64 m.b, .int .i64 0, .int .u64 0, .int .u64 (IntKind.u64.wrap (m.w - p.2.2)), .int .i64 (m.n - 1)] ∧ w.heap.size + 2 < g6)))) (fun _ h => h.1) rfl (by kernel_rfl) (by kernel_rfl) (by kernel_rfl) (by kernel_rfl) (fun _ _ _ h => h) (SteadyB.of_yields (Or.inl ⟨by rfl, ?_⟩)) ?_
          rotate_left
          · intro wq hSw
            go_simp
            (try with_reducible rfl)
          try simp only [List.getElem_toArray, List.getElem_cons_zero, List.getElem_cons_succ, Act.put, List.setIfInBounds_toArray, List.set_cons_zero, List.set_cons_succ]
          refine wpAnyE_take (i := 10) (v := ?_) ((Stays.and_ (M2.stays w m p [.int .u64 0, .int .i64 0, .int .u64 0, .int .u64 0, .int .i64 0]) (fun _ _ h hb => ⟨h.1.below hb, h.2⟩) : Stays (fun wx => M2 w m p [.int .u64 0, .int .i64 0, .int .u64 0, .int .u64 0, .int .i64 0] wx ∧ (Cs wx g6 [.int .u64 m.b, .int .i64 0, .int .u64 0, .int .u64 (IntKind.u64.wrap (m.w - p.2.2)), .int .i64 (m.n - 1)] ∧ w.heap.size + 2 < g6)))) (fun _ h => h.1) rfl (by kernel_rfl) (by kernel_rfl) (by kernel_rfl) (by kernel_rfl) (fun _ _ _ h => h) (SteadyB.of_yields (Or.inl ⟨by rfl, ?_⟩)) ?_
          rotate_left
          · intro wq hSw
            go_simp
            (try with_reducible rfl)
          try simp only [List.getElem_toArray, List.getElem_cons_zero, List.getElem_cons_succ, Act.put, List.setIfInBounds_toArray, List.set_cons_zero, List.set_cons_succ]
          refine wpAnyE_storeAt (i := 11) (fun wx => (fun wx => M2 w m p [.int .u64 0, .int .i64 0, .int .u64 0, .int .u64 0, .int .i64 0] wx) wx ∧ (Cs wx g6 [.int .u64 m.b, .int .i64 (hiW (clW (m.a - pD m.b p))), .int .u64 (loW (clW (m.a - pD m.b p))), .int .u64 (IntKind.u64.wrap (m.w - p.2.2)), .int .i64 (m.n - 1)] ∧ w.heap.size + 2 < g6)) 34 [.int .i64 (hiW (clW (m.a - pD m.b p))), .int .u64 (loW (clW (m.a - pD m.b p)))] [.int .u64 m.b, .int .i64 0, .int .u64 0, .int .u64 (IntKind.u64.wrap (m.w - p.2.2)), .int .i64 (m.n - 1)] g6 1 infoWide (.tmp 47) (.tmp 45) rfl rfl (by kernel_rfl) (by decide) (by rfl) ?st11_3a ?st11_3b ?st11_3c ?st11_3d ?st11_3e (fun _ h => h.2.1) (fun _ h => ⟨h.1.putF h.2.2 _, Cs.putL _ 1 h.2.1 (by simp), h.2.2⟩) (fun _ h => h.1) ((Stays.and_ (M2.stays w m p [.int .u64 0, .int .i64 0, .int .u64 0, .int .u64 0, .int .i64 0] : Stays (fun wx => M2 w m p [.int .u64 0, .int .i64 0, .int .u64 0, .int .u64 0, .int .i64 0] wx)) (fun _ _ h hb => ⟨h.1.below hb, h.2⟩))) ?st11_3f
          case st11_3a => rfl
          case st11_3b => simp
          case st11_3c => rfl
          case st11_3d => rfl
          case st11_3e => rfl
          try simp only [List.getElem_toArray, List.getElem_cons_zero, List.getElem_cons_succ, Act.put, List.setIfInBounds_toArray, List.set_cons_zero, List.set_cons_succ]
          refine wpAnyE_take (i := 12) (v := ?_) ((Stays.and_ (M2.stays w m p [.int .u64 0, .int .i64 0, .int .u64 0, .int .u64 0, .int .i64 0] : Stays (fun wx => M2 w m p [.int .u64 0, .int .i64 0, .int .u64 0, .int .u64 0, .int .i64 0] wx)) (fun _ _ h hb => ⟨h.1.below hb, h.2⟩))) (fun _ h => h.1) rfl (by kernel_rfl) (by kernel_rfl) (by kernel_rfl) (by kernel_rfl) (fun _ _ _ h => h) (SteadyB.of_yields (Or.inl ⟨by rfl, ?_⟩)) ?_
          rotate_left
          · intro wq hSw
            go_simp
            (try with_reducible rfl)
          try simp only [List.getElem_toArray, List.getElem_cons_zero, List.getElem_cons_succ, Act.put, List.setIfInBounds_toArray, List.set_cons_zero, List.set_cons_succ]
          refine wpAnyE_done (by kernel_rfl) (fun wz hSz => ?_) _
          have HQ5 := hid hSz.1
          have HL5 := hid hSz.2.1
          clear hSz HQ3 HL
          rw [H6.out] at HL5
          rw [H5.out]
          obtain ⟨m0, m1, m2, m3, m4⟩ := HL5.out.five
          go_wp2_with fail
          refine (Mean.right (Mu.mk m.b (m.a - pD m.b p) (IntKind.u64.wrap (m.w - p.2.2)) (m.n - 1)) HLI.out _).mono ?_
          rw [HR9.out]
          rintro e w3 ⟨rfl, hb⟩
          have HQ6 := hid (HQ5.out.below hb)
          have HL6 := hid (HL5.out.below hb)
          clear hb HQ5 HL5 m0 m1 m2 m3 m4
          have HCr := hid HQ6.out.2.2.1
          obtain ⟨m0, m1, m2, m3, m4⟩ := HL6.out.five
          go_wp2_with (first | ((with_reducible refine wpList_put_cs 36 [.int .u64 m.b, .int .i64 (hiW (m.a - pD m.b p)), .int .u64 (loW (m.a - pD m.b p)), .int .u64 (IntKind.u64.wrap (m.w - p.2.2)), .int .i64 (m.n - 1)] infoMean rfl (.tmp 4) (.tmp 55) rfl (w.heap.size + 2) _ HCr.out ?h12008_1 ?h12008_2 ?h12008_3 ?h12008_4 ?h12008_5 ?h12008_6); (case h12008_1 => rfl); (case h12008_2 => rfl); (case h12008_3 => rfl); (case h12008_4 => rfl); (case h12008_5 => rfl); (intro W2 hW2); (have HW := hid (HQ6.out.put hW2)); (clear hW2)) | fail)
          clear m0 m1 m2 m3 m4
          obtain ⟨z0, z1, z2, z3, z4⟩ := HW.out.1.five
          go_wp2_with fail
          refine bodyPost_ret (v := .tuple #[Mu.val (Mu.mk m.b (m.a - pD m.b p) (IntKind.u64.wrap (m.w - p.2.2)) (m.n - 1)), .bool true]) (by simp [results, Tryz.results23, go_sem, z0, z1, z2, z3, z4, hiW0, loW0]) rfl ⟨rfl, HW.out.2⟩
end Go.Proofs.YthmilhhihcmdhaaGreatDoor

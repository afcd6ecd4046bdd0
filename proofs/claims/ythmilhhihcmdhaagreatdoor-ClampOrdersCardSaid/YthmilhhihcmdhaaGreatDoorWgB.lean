/- The contracts of the package weigh. -/
import Derived.Test.YthmilhhihcmdhaaGreatDoorClampOrdersZ19
import Derived.Test.YthmilhhihcmdhaaGreatDoorMuT
import Derived.Test.YthmilhhihcmdhaaGreatDoorClampOrdersZ0
namespace Go.Proofs.YthmilhhihcmdhaaGreatDoor
open Go.RowKit
theorem M2.newP (w : World) (m : Mu) (p : P3) : M2 w m p [.int .u64 0, .int .u32 0, .int .u32 0] (((w.alloc (.cells #[.int .u64 m.b, .int .i64 (hiW m.a), .int .u64 (loW m.a), .int .u64 m.w, .int .i64 m.n] 36)).alloc (.cells #[.int .u64 p.1, .int .u32 p.2.1, .int .u32 p.2.2] 29)).alloc (.cells #[.int .u64 0, .int .u32 0, .int .u32 0] 29)) := by
  have h1 := Cs.alloc_new6 w 36 m.cells
  have h2 := Cs.alloc_new6 (w.alloc (.cells #[.int .u64 m.b, .int .i64 (hiW m.a), .int .u64 (loW m.a), .int .u64 m.w, .int .i64 m.n] 36)) 29 (pcells p)
  have h3 := Cs.alloc_new6 ((w.alloc (.cells #[.int .u64 m.b, .int .i64 (hiW m.a), .int .u64 (loW m.a), .int .u64 m.w, .int .i64 m.n] 36)).alloc (.cells #[.int .u64 p.1, .int .u32 p.2.1, .int .u32 p.2.2] 29)) 29 [.int .u64 0, .int .u32 0, .int .u32 0]
  simp only [World.size_alloc] at h2 h3
  exact ⟨(h1.alloc _).alloc _, h2.alloc _, h3, (((Below.refl w.heap.size w).alloc (Nat.le_refl _) _).alloc (by simp) _).alloc (by simp; omega) _⟩
theorem M2.put3 {w w1 : World} {m : Mu} {p : P3} {a b c : Value} (h : M2 w m p [a, b, c] w1) {a' b' c' : Value} {W : World} (hW : W = w1.setCells (w.heap.size + 2) 0 [a', b', c']) : Cs W (w.heap.size + 2) [a', b', c'] ∧ Below w.heap.size w W := by
  rw [hW]
  exact ⟨Cs.putL [a', b', c'] 0 h.2.2.1 (by simp), below_sets (by omega) _ _ h.2.2.2⟩
set_option maxRecDepth 100000 in
set_option maxHeartbeats 16000000 in
theorem Weigh.weigh (m : Mu) (p : P3) (v : Int) (hm : m.In) (hp : PIn p) (v0 : 0 ≤ v) (v1 : v ≤ 4294967295) (w : World) :
    Calls Tryz.prog 45 #[m.val, pv p, .int .u32 v] w (Ans (.tuple #[pv (m.weigh p v).2, .bool (m.weigh p v).1]) w) := by
  have HM := hid hm
  have HP := hid hp
  have HV := hid (And.intro v0 v1)
  clear hm hp
  unfold Mu.val pv
  cases h1 : m.right with
  | false =>
    have E : Hid (m.weigh p v = (false, (0, 0, 0))) := hid (by unfold Mu.weigh Mu.wOk; rw [h1, if_neg (by simp)])
    rw [E.out]
    have H1 := hid h1
    clear h1
    have HQ0 := hid (M2.newP w m p)
    go_enter Tryz.func45, Tryz.ntmps45
    go_wp2_with fail
    generalize (((w.alloc (.cells #[.int .u64 m.b, .int .i64 (hiW m.a), .int .u64 (loW m.a), .int .u64 m.w, .int .i64 m.n] 36)).alloc (.cells #[.int .u64 p.1, .int .u32 p.2.1, .int .u32 p.2.2] 29)).alloc (.cells #[.int .u64 0, .int .u32 0, .int .u32 0] 29)) = W0 at HQ0 ⊢
    obtain ⟨m0, m1, m2, m3, m4⟩ := Mu.at m HQ0.out.1
    go_wp2_with fail
    refine (Mean.right m HM.out _).mono ?_
    rintro e w1 ⟨rfl, hb⟩
    have HQ1 := hid (HQ0.out.below hb)
    clear hb HQ0 m0 m1 m2 m3 m4
    rw [H1.out]
    have HCr := hid HQ1.out.2.2.1
    go_wp2_with (first | ((with_reducible refine wpList_put_cs 29 [.int .u64 0, .int .u32 0, .int .u32 0] infoPos rfl (.tmp 6) (.tmp 27) rfl (w.heap.size + 2) _ HCr.out ?h20001_1 ?h20001_2 ?h20001_3 ?h20001_4 ?h20001_5 ?h20001_6); (case h20001_1 => rfl); (case h20001_2 => rfl); (case h20001_3 => rfl); (case h20001_4 => rfl); (case h20001_5 => rfl); (intro W2 hW2); (have HW := hid (HQ1.out.put3 hW2)); (clear hW2)) | fail)
    obtain ⟨z0, z1, z2⟩ := HW.out.1.three
    go_wp2_with fail
    refine bodyPost_ret (v := .tuple #[pv (0, 0, 0), .bool false]) (by simp [results, Tryz.results45, go_sem, z0, z1, z2]) rfl ⟨rfl, HW.out.2⟩
  | true =>
  have H1 := hid h1
  by_cases h2 : m.n = 0
  · have C2 := hid (show (m.n == 0) = true by rw [h2]; rfl)
    have E : Hid (m.weigh p v = (false, (0, 0, 0))) := hid (by unfold Mu.weigh Mu.wOk; rw [h2, if_neg (by simp)])
    rw [E.out]
    clear h1 h2
    have HQ0 := hid (M2.newP w m p)
    go_enter Tryz.func45, Tryz.ntmps45
    go_wp2_with fail
    generalize (((w.alloc (.cells #[.int .u64 m.b, .int .i64 (hiW m.a), .int .u64 (loW m.a), .int .u64 m.w, .int .i64 m.n] 36)).alloc (.cells #[.int .u64 p.1, .int .u32 p.2.1, .int .u32 p.2.2] 29)).alloc (.cells #[.int .u64 0, .int .u32 0, .int .u32 0] 29)) = W0 at HQ0 ⊢
    obtain ⟨m0, m1, m2, m3, m4⟩ := Mu.at m HQ0.out.1
    go_wp2_with fail
    refine (Mean.right m HM.out _).mono ?_
    rintro e w1 ⟨rfl, hb⟩
    have HQ1 := hid (HQ0.out.below hb)
    clear hb HQ0 m0 m1 m2 m3 m4
    rw [H1.out]
    obtain ⟨m0, m1, m2, m3, m4⟩ := Mu.at m HQ1.out.1
    have c2 := C2.out
    have HCr := hid HQ1.out.2.2.1
    go_wp2_with (first | ((with_reducible refine wpList_put_cs 29 [.int .u64 0, .int .u32 0, .int .u32 0] infoPos rfl (.tmp 6) (.tmp 27) rfl (w.heap.size + 2) _ HCr.out ?h20002_1 ?h20002_2 ?h20002_3 ?h20002_4 ?h20002_5 ?h20002_6); (case h20002_1 => rfl); (case h20002_2 => rfl); (case h20002_3 => rfl); (case h20002_4 => rfl); (case h20002_5 => rfl); (intro W2 hW2); (have HW := hid (HQ1.out.put3 hW2)); (clear hW2)) | fail)
    obtain ⟨z0, z1, z2⟩ := HW.out.1.three
    go_wp2_with fail
    refine bodyPost_ret (v := .tuple #[pv (0, 0, 0), .bool false]) (by simp [results, Tryz.results45, go_sem, z0, z1, z2]) rfl ⟨rfl, HW.out.2⟩
  · have h2' : (m.n == 0) = false := by simpa using h2
    have HW := hid (right_w h1 h2)
    have H2 := hid h2
    clear h1 h2
    cases h3 : pR p with
    | false =>
      have E : Hid (m.weigh p v = (false, (0, 0, 0))) := hid (by unfold Mu.weigh Mu.wOk; rw [h3, if_neg (by simp)])
      rw [E.out]
      have H3 := hid h3
      clear h3
      have HQ0 := hid (M2.newP w m p)
      go_enter Tryz.func45, Tryz.ntmps45
      go_wp2_with fail
      generalize (((w.alloc (.cells #[.int .u64 m.b, .int .i64 (hiW m.a), .int .u64 (loW m.a), .int .u64 m.w, .int .i64 m.n] 36)).alloc (.cells #[.int .u64 p.1, .int .u32 p.2.1, .int .u32 p.2.2] 29)).alloc (.cells #[.int .u64 0, .int .u32 0, .int .u32 0] 29)) = W0 at HQ0 ⊢
      obtain ⟨m0, m1, m2, m3, m4⟩ := Mu.at m HQ0.out.1
      go_wp2_with fail
      refine (Mean.right m HM.out _).mono ?_
      rintro e w1 ⟨rfl, hb⟩
      have HQ1 := hid (HQ0.out.below hb)
      clear hb HQ0 m0 m1 m2 m3 m4
      rw [H1.out]
      obtain ⟨m0, m1, m2, m3, m4⟩ := Mu.at m HQ1.out.1
      obtain ⟨q0, q1, q2⟩ := P3.at p HQ1.out.2.1
      go_wp2_with fail
      refine (Pos.rightF p _).mono ?_
      rintro e w2 ⟨rfl, hb⟩
      have HQ2 := hid (HQ1.out.below hb)
      clear hb q0 q1 q2 HQ1 m0 m1 m2 m3 m4
      rw [H3.out]
      have HCr := hid HQ2.out.2.2.1
      go_wp2_with (first | ((with_reducible refine wpList_put_cs 29 [.int .u64 0, .int .u32 0, .int .u32 0] infoPos rfl (.tmp 6) (.tmp 27) rfl (w.heap.size + 2) _ HCr.out ?h20003_1 ?h20003_2 ?h20003_3 ?h20003_4 ?h20003_5 ?h20003_6); (case h20003_1 => rfl); (case h20003_2 => rfl); (case h20003_3 => rfl); (case h20003_4 => rfl); (case h20003_5 => rfl); (intro W2 hW2); (have HW := hid (HQ2.out.put3 hW2)); (clear hW2)) | fail)
      obtain ⟨z0, z1, z2⟩ := HW.out.1.three
      go_wp2_with fail
      refine bodyPost_ret (v := .tuple #[pv (0, 0, 0), .bool false]) (by simp [results, Tryz.results45, go_sem, z0, z1, z2]) rfl ⟨rfl, HW.out.2⟩
    | true =>
    have HIP := hid (pR_isP HP.out h3)
    have H3 := hid h3
    have e1 : IntKind.i64.wrap p.2.2 = p.2.2 := by have := HIP.out; unfold IsP at this; rw [IntKind.wrap_i64]; omega
    have e2 : IntKind.i64.wrap v = v := by rw [IntKind.wrap_i64]; omega
    have e3 : IntKind.i64.wrap (v - p.2.2) = (v - p.2.2) := by have := HIP.out; unfold IsP at this; rw [IntKind.wrap_i64]; omega
    clear v0 v1
    cases h4 : okW (m.a * (v - p.2.2)) with
    | false =>
      have E : Hid (m.weigh p v = (false, (0, 0, 0))) := hid (by unfold Mu.weigh Mu.wOk; rw [h4, if_neg (by simp)])
      rw [E.out]
      have H4 := hid h4
      have H5 := hid (clW_no h4)
      clear h3 h4
      have HQ0 := hid (M2.newP w m p)
      go_enter Tryz.func45, Tryz.ntmps45
      go_wp2_with fail
      generalize (((w.alloc (.cells #[.int .u64 m.b, .int .i64 (hiW m.a), .int .u64 (loW m.a), .int .u64 m.w, .int .i64 m.n] 36)).alloc (.cells #[.int .u64 p.1, .int .u32 p.2.1, .int .u32 p.2.2] 29)).alloc (.cells #[.int .u64 0, .int .u32 0, .int .u32 0] 29)) = W0 at HQ0 ⊢
      obtain ⟨m0, m1, m2, m3, m4⟩ := Mu.at m HQ0.out.1
      go_wp2_with fail
      refine (Mean.right m HM.out _).mono ?_
      rintro e w1 ⟨rfl, hb⟩
      have HQ1 := hid (HQ0.out.below hb)
      clear hb HQ0 m0 m1 m2 m3 m4
      rw [H1.out]
      obtain ⟨m0, m1, m2, m3, m4⟩ := Mu.at m HQ1.out.1
      obtain ⟨q0, q1, q2⟩ := P3.at p HQ1.out.2.1
      go_wp2_with fail
      refine (Pos.rightF p _).mono ?_
      rintro e w2 ⟨rfl, hb⟩
      have HQ2 := hid (HQ1.out.below hb)
      clear hb q0 q1 q2 HQ1 m0 m1 m2 m3 m4
      rw [H3.out]
      obtain ⟨m0, m1, m2, m3, m4⟩ := Mu.at m HQ2.out.1
      obtain ⟨q0, q1, q2⟩ := P3.at p HQ2.out.2.1
      go_wp2_with fail
      refine (Wide.mulF HM.out.2.1 (by have := HIP.out; have := HV.out; unfold IsP at *; omega) (by have := HIP.out; have := HV.out; unfold IsP at *; omega) _).mono ?_
      rw [H4.out, H5.out]
      rintro e w3 ⟨rfl, hb⟩
      have HQ3 := hid ((HQ2.out.below hb).below ((Below.refl _ _).alloc (Nat.le_refl _) (.cells #[.int .i64 (hiW 0), .int .u64 (loW 0)] 34)))
      have HG : Hid (Cs (w3.alloc (.cells #[.int .i64 (hiW 0), .int .u64 (loW 0)] 34)) w3.heap.size [.int .i64 (hiW 0), .int .u64 (loW 0)] ∧ w.heap.size + 2 < w3.heap.size) := hid ⟨Cs.new2 w3 _ _ _, (HQ2.out.below hb).2.2.1.lt⟩
      clear hb HQ2 m0 m1 m2 m3 m4 q0 q1 q2
      have HCr := hid HQ3.out.2.2.1
      go_wp2_with (first | ((with_reducible refine wpList_put_cs 29 [.int .u64 0, .int .u32 0, .int .u32 0] infoPos rfl (.tmp 6) (.tmp 42) rfl (w.heap.size + 2) _ HCr.out ?h20004_1 ?h20004_2 ?h20004_3 ?h20004_4 ?h20004_5 ?h20004_6); (case h20004_1 => rfl); (case h20004_2 => rfl); (case h20004_3 => rfl); (case h20004_4 => rfl); (case h20004_5 => rfl); (intro W2 hW2); (have HW := hid (HQ3.out.put3 hW2)); (clear hW2)) | fail)
      obtain ⟨z0, z1, z2⟩ := HW.out.1.three
      go_wp2_with fail
      refine bodyPost_ret (v := .tuple #[pv (0, 0, 0), .bool false]) (by simp [results, Tryz.results45, go_sem, z0, z1, z2]) rfl ⟨rfl, HW.out.2⟩
    | true =>
      have H4 := hid h4
      have H5 := hid (clW_ok h4)
      have HD : Hid (WR (pD m.b p)) := hid (by have := pD_bd m.b HP.out; unfold WR; omega)
      have HX1 : Hid (WR (m.a * (v - p.2.2))) := hid (okW_iff.1 h4)
      have HF : Hid (WR (m.wf p.2.2 v)) := hid (div_wr HX1.out (by have := HW.out; omega))
      cases h6 : okW (pD m.b p + (m.wf p.2.2 v)) with
      | false =>
        have E : Hid (m.weigh p v = (false, (0, 0, 0))) := hid (by unfold Mu.weigh Mu.wOk; rw [h6, if_neg (by simp)])
        rw [E.out]
        have H6 := hid h6
        have H7 := hid (clW_no h6)
        clear h3 h4 h6
        have HQ0 := hid (M2.newP w m p)
        go_enter Tryz.func45, Tryz.ntmps45
        go_wp2_with fail
        generalize (((w.alloc (.cells #[.int .u64 m.b, .int .i64 (hiW m.a), .int .u64 (loW m.a), .int .u64 m.w, .int .i64 m.n] 36)).alloc (.cells #[.int .u64 p.1, .int .u32 p.2.1, .int .u32 p.2.2] 29)).alloc (.cells #[.int .u64 0, .int .u32 0, .int .u32 0] 29)) = W0 at HQ0 ⊢
        obtain ⟨m0, m1, m2, m3, m4⟩ := Mu.at m HQ0.out.1
        go_wp2_with fail
        refine (Mean.right m HM.out _).mono ?_
        rintro e w1 ⟨rfl, hb⟩
        have HQ1 := hid (HQ0.out.below hb)
        clear hb HQ0 m0 m1 m2 m3 m4
        rw [H1.out]
        obtain ⟨m0, m1, m2, m3, m4⟩ := Mu.at m HQ1.out.1
        obtain ⟨q0, q1, q2⟩ := P3.at p HQ1.out.2.1
        go_wp2_with fail
        refine (Pos.rightF p _).mono ?_
        rintro e w2 ⟨rfl, hb⟩
        have HQ2 := hid (HQ1.out.below hb)
        clear hb q0 q1 q2 HQ1 m0 m1 m2 m3 m4
        rw [H3.out]
        obtain ⟨m0, m1, m2, m3, m4⟩ := Mu.at m HQ2.out.1
        obtain ⟨q0, q1, q2⟩ := P3.at p HQ2.out.2.1
        go_wp2_with fail
        refine (Wide.mulF HM.out.2.1 (by have := HIP.out; have := HV.out; unfold IsP at *; omega) (by have := HIP.out; have := HV.out; unfold IsP at *; omega) _).mono ?_
        rw [H4.out, H5.out]
        rintro e w3 ⟨rfl, hb⟩
        have HQ3 := hid ((HQ2.out.below hb).below ((Below.refl _ _).alloc (Nat.le_refl _) (.cells #[.int .i64 (hiW (m.a * (v - p.2.2))), .int .u64 (loW (m.a * (v - p.2.2)))] 34)))
        have HG : Hid (Cs (w3.alloc (.cells #[.int .i64 (hiW (m.a * (v - p.2.2))), .int .u64 (loW (m.a * (v - p.2.2)))] 34)) w3.heap.size [.int .i64 (hiW (m.a * (v - p.2.2))), .int .u64 (loW (m.a * (v - p.2.2)))] ∧ w.heap.size + 2 < w3.heap.size) := hid ⟨Cs.new2 w3 _ _ _, (HQ2.out.below hb).2.2.1.lt⟩
        clear hb HQ2 m0 m1 m2 m3 m4 q0 q1 q2
        clear h2'
        obtain ⟨m0, m1, m2, m3, m4⟩ := Mu.at m HQ3.out.1
        go_wp2_with fail
        refine (Wide.divF (b := m.w) HX1.out (by have := HW.out; omega) (by have := HW.out; omega) _).mono ?_
        rw [show (m.a * (v - p.2.2)) / m.w = (m.wf p.2.2 v) from rfl]
        rintro e w5 ⟨rfl, hb⟩
        have HQ5 := hid ((HQ3.out.below hb).below ((Below.refl _ _).alloc (Nat.le_refl _) (.cells #[.int .i64 (hiW (m.wf p.2.2 v)), .int .u64 (loW (m.wf p.2.2 v))] 34)))
        have HG5 : Hid (Cs (w5.alloc (.cells #[.int .i64 (hiW (m.wf p.2.2 v)), .int .u64 (loW (m.wf p.2.2 v))] 34)) w5.heap.size [.int .i64 (hiW (m.wf p.2.2 v)), .int .u64 (loW (m.wf p.2.2 v))] ∧ w.heap.size + 2 < w5.heap.size) := hid ⟨Cs.new2 w5 _ _ _, (HQ3.out.below hb).2.2.1.lt⟩
        clear hb HQ3 HG m0 m1 m2 m3 m4
        go_wp2_with fail
        generalize (w5.alloc (.cells #[.int .i64 (hiW (m.wf p.2.2 v)), .int .u64 (loW (m.wf p.2.2 v))] 34)) = W5 at HQ5 HG5 ⊢
        generalize w5.heap.size = g1 at HG5 ⊢
        refine wp_region_grow (S := fun wx => M2 w m p [.int .u64 0, .int .u32 0, .int .u32 0] wx ∧ (Cs wx g1 [.int .i64 (hiW (m.wf p.2.2 v)), .int .u64 (loW (m.wf p.2.2 v))] ∧ w.heap.size + 2 < g1)) 12 (by kernel_rfl) (⟨HQ5.out.below (Below.refl _ _).drew, HG5.out⟩) ?_
        refine wpAnyE_take (i := 0) (v := ?_) (((M2.stays w m p [.int .u64 0, .int .u32 0, .int .u32 0]).and_ (fun _ _ h hb => ⟨h.1.below hb, h.2⟩) : Stays (fun wx => M2 w m p [.int .u64 0, .int .u32 0, .int .u32 0] wx ∧ (Cs wx g1 [.int .i64 (hiW (m.wf p.2.2 v)), .int .u64 (loW (m.wf p.2.2 v))] ∧ w.heap.size + 2 < g1)))) (fun _ h => h) rfl (by kernel_rfl) (by kernel_rfl) (by kernel_rfl) (by kernel_rfl) (fun _ _ _ h => h) (SteadyB.of_yields (Or.inl ⟨by rfl, ?_⟩)) ?_
        rotate_left
        · intro wq hSw
          obtain ⟨m0, m1, m2, m3, m4⟩ := Mu.at m hSw.1.1
          obtain ⟨q0, q1, q2⟩ := P3.at p hSw.1.2.1
          have k0 := hSw.2.1.at0
          have k1 := hSw.2.1.at1
          go_simp
          (try with_reducible rfl)
        try simp only [List.getElem_toArray, List.getElem_cons_zero, List.getElem_cons_succ, Act.put, List.setIfInBounds_toArray, List.set_cons_zero, List.set_cons_succ]
        refine wpAnyE_take (i := 1) (v := ?_) (((M2.stays w m p [.int .u64 0, .int .u32 0, .int .u32 0]).and_ (fun _ _ h hb => ⟨h.1.below hb, h.2⟩) : Stays (fun wx => M2 w m p [.int .u64 0, .int .u32 0, .int .u32 0] wx ∧ (Cs wx g1 [.int .i64 (hiW (m.wf p.2.2 v)), .int .u64 (loW (m.wf p.2.2 v))] ∧ w.heap.size + 2 < g1)))) (fun _ h => h) rfl (by kernel_rfl) (by kernel_rfl) (by kernel_rfl) (by kernel_rfl) (fun _ _ _ h => h) (SteadyB.of_yields (Or.inl ⟨by rfl, ?_⟩)) ?_
        rotate_left
        · intro wq hSw
          go_simp
          (try with_reducible rfl)
        try simp only [List.getElem_toArray, List.getElem_cons_zero, List.getElem_cons_succ, Act.put, List.setIfInBounds_toArray, List.set_cons_zero, List.set_cons_succ]
        refine wpAnyE_take (i := 2) (v := ?_) (((M2.stays w m p [.int .u64 0, .int .u32 0, .int .u32 0]).and_ (fun _ _ h hb => ⟨h.1.below hb, h.2⟩) : Stays (fun wx => M2 w m p [.int .u64 0, .int .u32 0, .int .u32 0] wx ∧ (Cs wx g1 [.int .i64 (hiW (m.wf p.2.2 v)), .int .u64 (loW (m.wf p.2.2 v))] ∧ w.heap.size + 2 < g1)))) (fun _ h => h) rfl (by kernel_rfl) (by kernel_rfl) (by kernel_rfl) (by kernel_rfl) (fun _ _ _ h => h) (SteadyB.of_yields (Or.inl ⟨by rfl, ?_⟩)) ?_
        rotate_left
        · intro wq hSw
          obtain ⟨m0, m1, m2, m3, m4⟩ := Mu.at m hSw.1.1
          obtain ⟨q0, q1, q2⟩ := P3.at p hSw.1.2.1
          have k0 := hSw.2.1.at0
          have k1 := hSw.2.1.at1
          go_simp
          (try with_reducible rfl)
        try simp only [List.getElem_toArray, List.getElem_cons_zero, List.getElem_cons_succ, Act.put, List.setIfInBounds_toArray, List.set_cons_zero, List.set_cons_succ]
        refine wpAnyE_take (i := 4) (v := ?_) (((M2.stays w m p [.int .u64 0, .int .u32 0, .int .u32 0]).and_ (fun _ _ h hb => ⟨h.1.below hb, h.2⟩) : Stays (fun wx => M2 w m p [.int .u64 0, .int .u32 0, .int .u32 0] wx ∧ (Cs wx g1 [.int .i64 (hiW (m.wf p.2.2 v)), .int .u64 (loW (m.wf p.2.2 v))] ∧ w.heap.size + 2 < g1)))) (fun _ h => h) rfl (by kernel_rfl) (by kernel_rfl) (by kernel_rfl) (by kernel_rfl) (fun _ _ _ h => h) (SteadyB.of_yields (Or.inl ⟨by rfl, ?_⟩)) ?_
        rotate_left
        · intro wq hSw
          obtain ⟨m0, m1, m2, m3, m4⟩ := Mu.at m hSw.1.1
          obtain ⟨q0, q1, q2⟩ := P3.at p hSw.1.2.1
          have k0 := hSw.2.1.at0
          have k1 := hSw.2.1.at1
          go_simp
          (try with_reducible rfl)
        try simp only [List.getElem_toArray, List.getElem_cons_zero, List.getElem_cons_succ, Act.put, List.setIfInBounds_toArray, List.set_cons_zero, List.set_cons_succ]
        refine wpAnyE_take (i := 3) (v := wv (pD m.b p)) (((M2.stays w m p [.int .u64 0, .int .u32 0, .int .u32 0]).and_ (fun _ _ h hb => ⟨h.1.below hb, h.2⟩) : Stays (fun wx => M2 w m p [.int .u64 0, .int .u32 0, .int .u32 0] wx ∧ (Cs wx g1 [.int .i64 (hiW (m.wf p.2.2 v)), .int .u64 (loW (m.wf p.2.2 v))] ∧ w.heap.size + 2 < g1)))) (fun _ h => h) rfl (by kernel_rfl) (by kernel_rfl) (by kernel_rfl) (by kernel_rfl) (fun _ _ _ h => h) (Or.inl ⟨by rfl, fun wq hSw => ?_⟩) ?_
        · refine RunB.of_calls (Pos.distanceF m.b HP.out wq) (by go_simp) ?_
          rintro e wr ⟨rfl, hb⟩
          exact ⟨rfl, hb⟩
        try simp only [List.getElem_toArray, List.getElem_cons_zero, List.getElem_cons_succ, Act.put, List.setIfInBounds_toArray, List.set_cons_zero, List.set_cons_succ]
        refine wpAnyE_take (i := 5) (v := (.tuple #[wv (clW (pD m.b p + (m.wf p.2.2 v))), .bool (okW (pD m.b p + (m.wf p.2.2 v)))])) (((M2.stays w m p [.int .u64 0, .int .u32 0, .int .u32 0]).and_ (fun _ _ h hb => ⟨h.1.below hb, h.2⟩) : Stays (fun wx => M2 w m p [.int .u64 0, .int .u32 0, .int .u32 0] wx ∧ (Cs wx g1 [.int .i64 (hiW (m.wf p.2.2 v)), .int .u64 (loW (m.wf p.2.2 v))] ∧ w.heap.size + 2 < g1)))) (fun _ h => h) rfl (by kernel_rfl) (by kernel_rfl) (by kernel_rfl) (by kernel_rfl) (fun _ _ _ h => h) (Or.inl ⟨by rfl, fun wq hSw => ?_⟩) ?_
        · refine RunB.of_calls (Wide.addF HD.out HF.out wq) (by go_simp) ?_
          rintro e wr ⟨rfl, hb⟩
          exact ⟨rfl, hb⟩
        try simp only [List.getElem_toArray, List.getElem_cons_zero, List.getElem_cons_succ, Act.put, List.setIfInBounds_toArray, List.set_cons_zero, List.set_cons_succ]
        refine wpAnyE_take (i := 6) (v := ?_) (((M2.stays w m p [.int .u64 0, .int .u32 0, .int .u32 0]).and_ (fun _ _ h hb => ⟨h.1.below hb, h.2⟩) : Stays (fun wx => M2 w m p [.int .u64 0, .int .u32 0, .int .u32 0] wx ∧ (Cs wx g1 [.int .i64 (hiW (m.wf p.2.2 v)), .int .u64 (loW (m.wf p.2.2 v))] ∧ w.heap.size + 2 < g1)))) (fun _ h => h) rfl (by kernel_rfl) (by kernel_rfl) (by kernel_rfl) (by kernel_rfl) (fun _ _ _ h => h) (SteadyB.of_yields (Or.inl ⟨by rfl, ?_⟩)) ?_
        rotate_left
        · intro wq hSw
          go_simp
          (try with_reducible rfl)
        try simp only [List.getElem_toArray, List.getElem_cons_zero, List.getElem_cons_succ, Act.put, List.setIfInBounds_toArray, List.set_cons_zero, List.set_cons_succ]
        refine wpAnyE_take (i := 7) (v := ?_) (((M2.stays w m p [.int .u64 0, .int .u32 0, .int .u32 0]).and_ (fun _ _ h hb => ⟨h.1.below hb, h.2⟩) : Stays (fun wx => M2 w m p [.int .u64 0, .int .u32 0, .int .u32 0] wx ∧ (Cs wx g1 [.int .i64 (hiW (m.wf p.2.2 v)), .int .u64 (loW (m.wf p.2.2 v))] ∧ w.heap.size + 2 < g1)))) (fun _ h => h) rfl (by kernel_rfl) (by kernel_rfl) (by kernel_rfl) (by kernel_rfl) (fun _ _ _ h => h) (SteadyB.of_yields (Or.inl ⟨by rfl, ?_⟩)) ?_
        rotate_left
        · intro wq hSw
          go_simp
          (try with_reducible rfl)
        try simp only [List.getElem_toArray, List.getElem_cons_zero, List.getElem_cons_succ, Act.put, List.setIfInBounds_toArray, List.set_cons_zero, List.set_cons_succ]
        refine wpAnyE_take (i := 8) (v := ?_) (((M2.stays w m p [.int .u64 0, .int .u32 0, .int .u32 0]).and_ (fun _ _ h hb => ⟨h.1.below hb, h.2⟩) : Stays (fun wx => M2 w m p [.int .u64 0, .int .u32 0, .int .u32 0] wx ∧ (Cs wx g1 [.int .i64 (hiW (m.wf p.2.2 v)), .int .u64 (loW (m.wf p.2.2 v))] ∧ w.heap.size + 2 < g1)))) (fun _ h => h) rfl (by kernel_rfl) (by kernel_rfl) (by kernel_rfl) (by kernel_rfl) (fun _ _ _ h => h) (SteadyB.of_yields (Or.inl ⟨by rfl, ?_⟩)) ?_
        rotate_left
        · intro wq hSw
          go_simp
          (try with_reducible rfl)
        try simp only [List.getElem_toArray, List.getElem_cons_zero, List.getElem_cons_succ, Act.put, List.setIfInBounds_toArray, List.set_cons_zero, List.set_cons_succ]
        refine wpAnyE_alloc (i := 9) (fun wx g => Cs wx g [.int .i64 0, .int .u64 0] ∧ g1 < g) rfl (by kernel_rfl) (by decide) (by rfl) (((M2.stays w m p [.int .u64 0, .int .u32 0, .int .u32 0]).and_ (fun _ _ h hb => ⟨h.1.below hb, h.2⟩) : Stays (fun wx => M2 w m p [.int .u64 0, .int .u32 0, .int .u32 0] wx ∧ (Cs wx g1 [.int .i64 (hiW (m.wf p.2.2 v)), .int .u64 (loW (m.wf p.2.2 v))] ∧ w.heap.size + 2 < g1)))) (fun _ h => h) (fun g => (fun _ _ h hb => ⟨h.1.below hb, h.2⟩)) (fun wq hSw => ?_) (fun gA => ?_)
        · exact ⟨_, by go_simp; (try with_reducible rfl), (Below.refl _ _).alloc (Nat.le_refl _) _, Cs.new2 _ _ _ _, hSw.2.1.lt⟩
        try simp only [List.getElem_toArray, List.getElem_cons_zero, List.getElem_cons_succ, Act.put, List.setIfInBounds_toArray, List.set_cons_zero, List.set_cons_succ]
        refine wpAnyE_store (i := 10) (fun wx => (fun wx => M2 w m p [.int .u64 0, .int .u32 0, .int .u32 0] wx ∧ (Cs wx g1 [.int .i64 (hiW (m.wf p.2.2 v)), .int .u64 (loW (m.wf p.2.2 v))] ∧ w.heap.size + 2 < g1)) wx ∧ (Cs wx gA [.int .i64 (hiW (clW (pD m.b p + (m.wf p.2.2 v)))), .int .u64 (loW (clW (pD m.b p + (m.wf p.2.2 v))))] ∧ g1 < gA)) 34 [.int .i64 (hiW (clW (pD m.b p + (m.wf p.2.2 v)))), .int .u64 (loW (clW (pD m.b p + (m.wf p.2.2 v))))] [.int .i64 0, .int .u64 0] gA infoWide (.tmp 13) (.tmp 58) rfl rfl (by kernel_rfl) (by decide) (by rfl) ?st10_1a ?st10_1b ?st10_1c ?st10_1d ?st10_1e (fun _ h => h.2.1) (fun _ h => ⟨⟨h.1.1.fars (by have := h.1.2.2; have := h.2.2; omega) _, h.1.2.1.fars (by have := h.2.2; omega) _ _, h.1.2.2⟩, Cs.putL _ 0 h.2.1 (by simp), h.2.2⟩) (fun _ h => h.1) (((M2.stays w m p [.int .u64 0, .int .u32 0, .int .u32 0]).and_ (fun _ _ h hb => ⟨h.1.below hb, h.2⟩) : Stays (fun wx => M2 w m p [.int .u64 0, .int .u32 0, .int .u32 0] wx ∧ (Cs wx g1 [.int .i64 (hiW (m.wf p.2.2 v)), .int .u64 (loW (m.wf p.2.2 v))] ∧ w.heap.size + 2 < g1))).and_ (fun _ _ h hb => ⟨h.1.below hb, h.2⟩)) ?st10_1f
        case st10_1a => rfl
        case st10_1b => rfl
        case st10_1c => rfl
        case st10_1d => rfl
        case st10_1e => rfl
        try simp only [List.getElem_toArray, List.getElem_cons_zero, List.getElem_cons_succ, Act.put, List.setIfInBounds_toArray, List.set_cons_zero, List.set_cons_succ]
        refine wpAnyE_take (i := 11) (v := ?_) (((M2.stays w m p [.int .u64 0, .int .u32 0, .int .u32 0]).and_ (fun _ _ h hb => ⟨h.1.below hb, h.2⟩) : Stays (fun wx => M2 w m p [.int .u64 0, .int .u32 0, .int .u32 0] wx ∧ (Cs wx g1 [.int .i64 (hiW (m.wf p.2.2 v)), .int .u64 (loW (m.wf p.2.2 v))] ∧ w.heap.size + 2 < g1))).and_ (fun _ _ h hb => ⟨h.1.below hb, h.2⟩)) (fun _ h => h.1) rfl (by kernel_rfl) (by kernel_rfl) (by kernel_rfl) (by kernel_rfl) (fun _ _ _ h => h) (SteadyB.of_yields (Or.inl ⟨by rfl, ?_⟩)) ?_
        rotate_left
        · intro wq hSw
          go_simp
          (try with_reducible rfl)
        try simp only [List.getElem_toArray, List.getElem_cons_zero, List.getElem_cons_succ, Act.put, List.setIfInBounds_toArray, List.set_cons_zero, List.set_cons_succ]
        refine wpAnyE_done (by kernel_rfl) (fun wz hSz => ?_) _
        have HQ6 := hid hSz.1.1
        clear hSz HQ5 HG5
        rw [H6.out]
        have HCr := hid HQ6.out.2.2.1
        go_wp2_with (first | ((with_reducible refine wpList_put_cs 29 [.int .u64 0, .int .u32 0, .int .u32 0] infoPos rfl (.tmp 6) (.tmp 62) rfl (w.heap.size + 2) _ HCr.out ?h20005_1 ?h20005_2 ?h20005_3 ?h20005_4 ?h20005_5 ?h20005_6); (case h20005_1 => rfl); (case h20005_2 => rfl); (case h20005_3 => rfl); (case h20005_4 => rfl); (case h20005_5 => rfl); (intro W2 hW2); (have HW := hid (HQ6.out.put3 hW2)); (clear hW2)) | fail)
        obtain ⟨z0, z1, z2⟩ := HW.out.1.three
        go_wp2_with fail
        refine bodyPost_ret (v := .tuple #[pv (0, 0, 0), .bool false]) (by simp [results, Tryz.results45, go_sem, z0, z1, z2]) rfl ⟨rfl, HW.out.2⟩
      | true =>
        have E : Hid (m.weigh p v = (atOk (pD m.b p + (m.wf p.2.2 v)) v, atP m.b (pD m.b p + (m.wf p.2.2 v)) v)) := hid (by
          have h2 := H2.out
          unfold Mu.weigh Mu.wOk
          rw [H1.out, h3, h4, h6, if_pos (by simp [h2])])
        rw [E.out]
        have H6 := hid h6
        have H7 := hid (clW_ok h6)
        have HX2 : Hid (WR (pD m.b p + (m.wf p.2.2 v))) := hid (okW_iff.1 h6)
        clear h3 h4 h6
        have HQ0 := hid (M2.newP w m p)
        go_enter Tryz.func45, Tryz.ntmps45
        go_wp2_with fail
        generalize (((w.alloc (.cells #[.int .u64 m.b, .int .i64 (hiW m.a), .int .u64 (loW m.a), .int .u64 m.w, .int .i64 m.n] 36)).alloc (.cells #[.int .u64 p.1, .int .u32 p.2.1, .int .u32 p.2.2] 29)).alloc (.cells #[.int .u64 0, .int .u32 0, .int .u32 0] 29)) = W0 at HQ0 ⊢
        obtain ⟨m0, m1, m2, m3, m4⟩ := Mu.at m HQ0.out.1
        go_wp2_with fail
        refine (Mean.right m HM.out _).mono ?_
        rintro e w1 ⟨rfl, hb⟩
        have HQ1 := hid (HQ0.out.below hb)
        clear hb HQ0 m0 m1 m2 m3 m4
        rw [H1.out]
        obtain ⟨m0, m1, m2, m3, m4⟩ := Mu.at m HQ1.out.1
        obtain ⟨q0, q1, q2⟩ := P3.at p HQ1.out.2.1
        go_wp2_with fail
        refine (Pos.rightF p _).mono ?_
        rintro e w2 ⟨rfl, hb⟩
        have HQ2 := hid (HQ1.out.below hb)
        clear hb q0 q1 q2 HQ1 m0 m1 m2 m3 m4
        rw [H3.out]
        obtain ⟨m0, m1, m2, m3, m4⟩ := Mu.at m HQ2.out.1
        obtain ⟨q0, q1, q2⟩ := P3.at p HQ2.out.2.1
        go_wp2_with fail
        refine (Wide.mulF HM.out.2.1 (by have := HIP.out; have := HV.out; unfold IsP at *; omega) (by have := HIP.out; have := HV.out; unfold IsP at *; omega) _).mono ?_
        rw [H4.out, H5.out]
        rintro e w3 ⟨rfl, hb⟩
        have HQ3 := hid ((HQ2.out.below hb).below ((Below.refl _ _).alloc (Nat.le_refl _) (.cells #[.int .i64 (hiW (m.a * (v - p.2.2))), .int .u64 (loW (m.a * (v - p.2.2)))] 34)))
        have HG : Hid (Cs (w3.alloc (.cells #[.int .i64 (hiW (m.a * (v - p.2.2))), .int .u64 (loW (m.a * (v - p.2.2)))] 34)) w3.heap.size [.int .i64 (hiW (m.a * (v - p.2.2))), .int .u64 (loW (m.a * (v - p.2.2)))] ∧ w.heap.size + 2 < w3.heap.size) := hid ⟨Cs.new2 w3 _ _ _, (HQ2.out.below hb).2.2.1.lt⟩
        clear hb HQ2 m0 m1 m2 m3 m4 q0 q1 q2
        clear h2'
        obtain ⟨m0, m1, m2, m3, m4⟩ := Mu.at m HQ3.out.1
        go_wp2_with fail
        refine (Wide.divF (b := m.w) HX1.out (by have := HW.out; omega) (by have := HW.out; omega) _).mono ?_
        rw [show (m.a * (v - p.2.2)) / m.w = (m.wf p.2.2 v) from rfl]
        rintro e w5 ⟨rfl, hb⟩
        have HQ5 := hid ((HQ3.out.below hb).below ((Below.refl _ _).alloc (Nat.le_refl _) (.cells #[.int .i64 (hiW (m.wf p.2.2 v)), .int .u64 (loW (m.wf p.2.2 v))] 34)))
        have HG5 : Hid (Cs (w5.alloc (.cells #[.int .i64 (hiW (m.wf p.2.2 v)), .int .u64 (loW (m.wf p.2.2 v))] 34)) w5.heap.size [.int .i64 (hiW (m.wf p.2.2 v)), .int .u64 (loW (m.wf p.2.2 v))] ∧ w.heap.size + 2 < w5.heap.size) := hid ⟨Cs.new2 w5 _ _ _, (HQ3.out.below hb).2.2.1.lt⟩
        clear hb HQ3 HG m0 m1 m2 m3 m4
        go_wp2_with fail
        generalize (w5.alloc (.cells #[.int .i64 (hiW (m.wf p.2.2 v)), .int .u64 (loW (m.wf p.2.2 v))] 34)) = W5 at HQ5 HG5 ⊢
        generalize w5.heap.size = g1 at HG5 ⊢
        refine wp_region_grow (S := fun wx => M2 w m p [.int .u64 0, .int .u32 0, .int .u32 0] wx ∧ (Cs wx g1 [.int .i64 (hiW (m.wf p.2.2 v)), .int .u64 (loW (m.wf p.2.2 v))] ∧ w.heap.size + 2 < g1)) 12 (by kernel_rfl) (⟨HQ5.out.below (Below.refl _ _).drew, HG5.out⟩) ?_
        refine wpAnyE_take (i := 0) (v := ?_) (((M2.stays w m p [.int .u64 0, .int .u32 0, .int .u32 0]).and_ (fun _ _ h hb => ⟨h.1.below hb, h.2⟩) : Stays (fun wx => M2 w m p [.int .u64 0, .int .u32 0, .int .u32 0] wx ∧ (Cs wx g1 [.int .i64 (hiW (m.wf p.2.2 v)), .int .u64 (loW (m.wf p.2.2 v))] ∧ w.heap.size + 2 < g1)))) (fun _ h => h) rfl (by kernel_rfl) (by kernel_rfl) (by kernel_rfl) (by kernel_rfl) (fun _ _ _ h => h) (SteadyB.of_yields (Or.inl ⟨by rfl, ?_⟩)) ?_
        rotate_left
        · intro wq hSw
          obtain ⟨m0, m1, m2, m3, m4⟩ := Mu.at m hSw.1.1
          obtain ⟨q0, q1, q2⟩ := P3.at p hSw.1.2.1
          have k0 := hSw.2.1.at0
          have k1 := hSw.2.1.at1
          go_simp
          (try with_reducible rfl)
        try simp only [List.getElem_toArray, List.getElem_cons_zero, List.getElem_cons_succ, Act.put, List.setIfInBounds_toArray, List.set_cons_zero, List.set_cons_succ]
        refine wpAnyE_take (i := 1) (v := ?_) (((M2.stays w m p [.int .u64 0, .int .u32 0, .int .u32 0]).and_ (fun _ _ h hb => ⟨h.1.below hb, h.2⟩) : Stays (fun wx => M2 w m p [.int .u64 0, .int .u32 0, .int .u32 0] wx ∧ (Cs wx g1 [.int .i64 (hiW (m.wf p.2.2 v)), .int .u64 (loW (m.wf p.2.2 v))] ∧ w.heap.size + 2 < g1)))) (fun _ h => h) rfl (by kernel_rfl) (by kernel_rfl) (by kernel_rfl) (by kernel_rfl) (fun _ _ _ h => h) (SteadyB.of_yields (Or.inl ⟨by rfl, ?_⟩)) ?_
        rotate_left
        · intro wq hSw
          go_simp
          (try with_reducible rfl)
        try simp only [List.getElem_toArray, List.getElem_cons_zero, List.getElem_cons_succ, Act.put, List.setIfInBounds_toArray, List.set_cons_zero, List.set_cons_succ]
        refine wpAnyE_take (i := 2) (v := ?_) (((M2.stays w m p [.int .u64 0, .int .u32 0, .int .u32 0]).and_ (fun _ _ h hb => ⟨h.1.below hb, h.2⟩) : Stays (fun wx => M2 w m p [.int .u64 0, .int .u32 0, .int .u32 0] wx ∧ (Cs wx g1 [.int .i64 (hiW (m.wf p.2.2 v)), .int .u64 (loW (m.wf p.2.2 v))] ∧ w.heap.size + 2 < g1)))) (fun _ h => h) rfl (by kernel_rfl) (by kernel_rfl) (by kernel_rfl) (by kernel_rfl) (fun _ _ _ h => h) (SteadyB.of_yields (Or.inl ⟨by rfl, ?_⟩)) ?_
        rotate_left
        · intro wq hSw
          obtain ⟨m0, m1, m2, m3, m4⟩ := Mu.at m hSw.1.1
          obtain ⟨q0, q1, q2⟩ := P3.at p hSw.1.2.1
          have k0 := hSw.2.1.at0
          have k1 := hSw.2.1.at1
          go_simp
          (try with_reducible rfl)
        try simp only [List.getElem_toArray, List.getElem_cons_zero, List.getElem_cons_succ, Act.put, List.setIfInBounds_toArray, List.set_cons_zero, List.set_cons_succ]
        refine wpAnyE_take (i := 4) (v := ?_) (((M2.stays w m p [.int .u64 0, .int .u32 0, .int .u32 0]).and_ (fun _ _ h hb => ⟨h.1.below hb, h.2⟩) : Stays (fun wx => M2 w m p [.int .u64 0, .int .u32 0, .int .u32 0] wx ∧ (Cs wx g1 [.int .i64 (hiW (m.wf p.2.2 v)), .int .u64 (loW (m.wf p.2.2 v))] ∧ w.heap.size + 2 < g1)))) (fun _ h => h) rfl (by kernel_rfl) (by kernel_rfl) (by kernel_rfl) (by kernel_rfl) (fun _ _ _ h => h) (SteadyB.of_yields (Or.inl ⟨by rfl, ?_⟩)) ?_
        rotate_left
        · intro wq hSw
          obtain ⟨m0, m1, m2, m3, m4⟩ := Mu.at m hSw.1.1
          obtain ⟨q0, q1, q2⟩ := P3.at p hSw.1.2.1
          have k0 := hSw.2.1.at0
          have k1 := hSw.2.1.at1
          go_simp
          (try with_reducible rfl)
        try simp only [List.getElem_toArray, List.getElem_cons_zero, List.getElem_cons_succ, Act.put, List.setIfInBounds_toArray, List.set_cons_zero, List.set_cons_succ]
        refine wpAnyE_take (i := 3) (v := wv (pD m.b p)) (((M2.stays w m p [.int .u64 0, .int .u32 0, .int .u32 0]).and_ (fun _ _ h hb => ⟨h.1.below hb, h.2⟩) : Stays (fun wx => M2 w m p [.int .u64 0, .int .u32 0, .int .u32 0] wx ∧ (Cs wx g1 [.int .i64 (hiW (m.wf p.2.2 v)), .int .u64 (loW (m.wf p.2.2 v))] ∧ w.heap.size + 2 < g1)))) (fun _ h => h) rfl (by kernel_rfl) (by kernel_rfl) (by kernel_rfl) (by kernel_rfl) (fun _ _ _ h => h) (Or.inl ⟨by rfl, fun wq hSw => ?_⟩) ?_
        · refine RunB.of_calls (Pos.distanceF m.b HP.out wq) (by go_simp) ?_
          rintro e wr ⟨rfl, hb⟩
          exact ⟨rfl, hb⟩
        try simp only [List.getElem_toArray, List.getElem_cons_zero, List.getElem_cons_succ, Act.put, List.setIfInBounds_toArray, List.set_cons_zero, List.set_cons_succ]
        refine wpAnyE_take (i := 5) (v := (.tuple #[wv (clW (pD m.b p + (m.wf p.2.2 v))), .bool (okW (pD m.b p + (m.wf p.2.2 v)))])) (((M2.stays w m p [.int .u64 0, .int .u32 0, .int .u32 0]).and_ (fun _ _ h hb => ⟨h.1.below hb, h.2⟩) : Stays (fun wx => M2 w m p [.int .u64 0, .int .u32 0, .int .u32 0] wx ∧ (Cs wx g1 [.int .i64 (hiW (m.wf p.2.2 v)), .int .u64 (loW (m.wf p.2.2 v))] ∧ w.heap.size + 2 < g1)))) (fun _ h => h) rfl (by kernel_rfl) (by kernel_rfl) (by kernel_rfl) (by kernel_rfl) (fun _ _ _ h => h) (Or.inl ⟨by rfl, fun wq hSw => ?_⟩) ?_
        · refine RunB.of_calls (Wide.addF HD.out HF.out wq) (by go_simp) ?_
          rintro e wr ⟨rfl, hb⟩
          exact ⟨rfl, hb⟩
        try simp only [List.getElem_toArray, List.getElem_cons_zero, List.getElem_cons_succ, Act.put, List.setIfInBounds_toArray, List.set_cons_zero, List.set_cons_succ]
        refine wpAnyE_take (i := 6) (v := ?_) (((M2.stays w m p [.int .u64 0, .int .u32 0, .int .u32 0]).and_ (fun _ _ h hb => ⟨h.1.below hb, h.2⟩) : Stays (fun wx => M2 w m p [.int .u64 0, .int .u32 0, .int .u32 0] wx ∧ (Cs wx g1 [.int .i64 (hiW (m.wf p.2.2 v)), .int .u64 (loW (m.wf p.2.2 v))] ∧ w.heap.size + 2 < g1)))) (fun _ h => h) rfl (by kernel_rfl) (by kernel_rfl) (by kernel_rfl) (by kernel_rfl) (fun _ _ _ h => h) (SteadyB.of_yields (Or.inl ⟨by rfl, ?_⟩)) ?_
        rotate_left
        · intro wq hSw
          go_simp
          (try with_reducible rfl)
        try simp only [List.getElem_toArray, List.getElem_cons_zero, List.getElem_cons_succ, Act.put, List.setIfInBounds_toArray, List.set_cons_zero, List.set_cons_succ]
        refine wpAnyE_take (i := 7) (v := ?_) (((M2.stays w m p [.int .u64 0, .int .u32 0, .int .u32 0]).and_ (fun _ _ h hb => ⟨h.1.below hb, h.2⟩) : Stays (fun wx => M2 w m p [.int .u64 0, .int .u32 0, .int .u32 0] wx ∧ (Cs wx g1 [.int .i64 (hiW (m.wf p.2.2 v)), .int .u64 (loW (m.wf p.2.2 v))] ∧ w.heap.size + 2 < g1)))) (fun _ h => h) rfl (by kernel_rfl) (by kernel_rfl) (by kernel_rfl) (by kernel_rfl) (fun _ _ _ h => h) (SteadyB.of_yields (Or.inl ⟨by rfl, ?_⟩)) ?_
        rotate_left
        · intro wq hSw
          go_simp
          (try with_reducible rfl)
        try simp only [List.getElem_toArray, List.getElem_cons_zero, List.getElem_cons_succ, Act.put, List.setIfInBounds_toArray, List.set_cons_zero, List.set_cons_succ]
        refine wpAnyE_take (i := 8) (v := ?_) (((M2.stays w m p [.int .u64 0, .int .u32 0, .int .u32 0]).and_ (fun _ _ h hb => ⟨h.1.below hb, h.2⟩) : Stays (fun wx => M2 w m p [.int .u64 0, .int .u32 0, .int .u32 0] wx ∧ (Cs wx g1 [.int .i64 (hiW (m.wf p.2.2 v)), .int .u64 (loW (m.wf p.2.2 v))] ∧ w.heap.size + 2 < g1)))) (fun _ h => h) rfl (by kernel_rfl) (by kernel_rfl) (by kernel_rfl) (by kernel_rfl) (fun _ _ _ h => h) (SteadyB.of_yields (Or.inl ⟨by rfl, ?_⟩)) ?_
        rotate_left
        · intro wq hSw
          go_simp
          (try with_reducible rfl)
        try simp only [List.getElem_toArray, List.getElem_cons_zero, List.getElem_cons_succ, Act.put, List.setIfInBounds_toArray, List.set_cons_zero, List.set_cons_succ]
        refine wpAnyE_alloc (i := 9) (fun wx g => Cs wx g [.int .i64 0, .int .u64 0] ∧ g1 < g) rfl (by kernel_rfl) (by decide) (by rfl) (((M2.stays w m p [.int .u64 0, .int .u32 0, .int .u32 0]).and_ (fun _ _ h hb => ⟨h.1.below hb, h.2⟩) : Stays (fun wx => M2 w m p [.int .u64 0, .int .u32 0, .int .u32 0] wx ∧ (Cs wx g1 [.int .i64 (hiW (m.wf p.2.2 v)), .int .u64 (loW (m.wf p.2.2 v))] ∧ w.heap.size + 2 < g1)))) (fun _ h => h) (fun g => (fun _ _ h hb => ⟨h.1.below hb, h.2⟩)) (fun wq hSw => ?_) (fun gA => ?_)
        · exact ⟨_, by go_simp; (try with_reducible rfl), (Below.refl _ _).alloc (Nat.le_refl _) _, Cs.new2 _ _ _ _, hSw.2.1.lt⟩
        try simp only [List.getElem_toArray, List.getElem_cons_zero, List.getElem_cons_succ, Act.put, List.setIfInBounds_toArray, List.set_cons_zero, List.set_cons_succ]
        refine wpAnyE_store (i := 10) (fun wx => (fun wx => M2 w m p [.int .u64 0, .int .u32 0, .int .u32 0] wx ∧ (Cs wx g1 [.int .i64 (hiW (m.wf p.2.2 v)), .int .u64 (loW (m.wf p.2.2 v))] ∧ w.heap.size + 2 < g1)) wx ∧ (Cs wx gA [.int .i64 (hiW (clW (pD m.b p + (m.wf p.2.2 v)))), .int .u64 (loW (clW (pD m.b p + (m.wf p.2.2 v))))] ∧ g1 < gA)) 34 [.int .i64 (hiW (clW (pD m.b p + (m.wf p.2.2 v)))), .int .u64 (loW (clW (pD m.b p + (m.wf p.2.2 v))))] [.int .i64 0, .int .u64 0] gA infoWide (.tmp 13) (.tmp 58) rfl rfl (by kernel_rfl) (by decide) (by rfl) ?st10_2a ?st10_2b ?st10_2c ?st10_2d ?st10_2e (fun _ h => h.2.1) (fun _ h => ⟨⟨h.1.1.fars (by have := h.1.2.2; have := h.2.2; omega) _, h.1.2.1.fars (by have := h.2.2; omega) _ _, h.1.2.2⟩, Cs.putL _ 0 h.2.1 (by simp), h.2.2⟩) (fun _ h => h.1) (((M2.stays w m p [.int .u64 0, .int .u32 0, .int .u32 0]).and_ (fun _ _ h hb => ⟨h.1.below hb, h.2⟩) : Stays (fun wx => M2 w m p [.int .u64 0, .int .u32 0, .int .u32 0] wx ∧ (Cs wx g1 [.int .i64 (hiW (m.wf p.2.2 v)), .int .u64 (loW (m.wf p.2.2 v))] ∧ w.heap.size + 2 < g1))).and_ (fun _ _ h hb => ⟨h.1.below hb, h.2⟩)) ?st10_2f
        case st10_2a => rfl
        case st10_2b => rfl
        case st10_2c => rfl
        case st10_2d => rfl
        case st10_2e => rfl
        try simp only [List.getElem_toArray, List.getElem_cons_zero, List.getElem_cons_succ, Act.put, List.setIfInBounds_toArray, List.set_cons_zero, List.set_cons_succ]
        refine wpAnyE_take (i := 11) (v := ?_) (((M2.stays w m p [.int .u64 0, .int .u32 0, .int .u32 0]).and_ (fun _ _ h hb => ⟨h.1.below hb, h.2⟩) : Stays (fun wx => M2 w m p [.int .u64 0, .int .u32 0, .int .u32 0] wx ∧ (Cs wx g1 [.int .i64 (hiW (m.wf p.2.2 v)), .int .u64 (loW (m.wf p.2.2 v))] ∧ w.heap.size + 2 < g1))).and_ (fun _ _ h hb => ⟨h.1.below hb, h.2⟩)) (fun _ h => h.1) rfl (by kernel_rfl) (by kernel_rfl) (by kernel_rfl) (by kernel_rfl) (fun _ _ _ h => h) (SteadyB.of_yields (Or.inl ⟨by rfl, ?_⟩)) ?_
        rotate_left
        · intro wq hSw
          go_simp
          (try with_reducible rfl)
        try simp only [List.getElem_toArray, List.getElem_cons_zero, List.getElem_cons_succ, Act.put, List.setIfInBounds_toArray, List.set_cons_zero, List.set_cons_succ]
        refine wpAnyE_done (by kernel_rfl) (fun wz hSz => ?_) _
        have HQ6 := hid hSz.1.1
        have HG6 := hid hSz.2.1
        clear hSz HQ5 HG5
        rw [H7.out] at HG6
        rw [H6.out]
        obtain ⟨m0, m1, m2, m3, m4⟩ := Mu.at m HQ6.out.1
        have k0 := HG6.out.at0
        have k1 := HG6.out.at1
        go_wp2_with fail
        refine (Pos.atF m.b HX2.out HV.out.1 HV.out.2 _).mono ?_
        rintro e w7 ⟨rfl, hb⟩
        have HQ7 := hid (HQ6.out.below hb)
        clear hb HQ6 HG6 m0 m1 m2 m3 m4 k0 k1
        have HCr := hid HQ7.out.2.2.1
        generalize atP m.b (pD m.b p + (m.wf p.2.2 v)) v = y at *
        generalize atOk (pD m.b p + (m.wf p.2.2 v)) v = y2 at *
        go_wp2_with (first | ((with_reducible refine wpList_put_cs 29 [.int .u64 y.1, .int .u32 y.2.1, .int .u32 y.2.2] infoPos rfl (.tmp 6) (.tmp 68) rfl (w.heap.size + 2) _ HCr.out ?h20006_1 ?h20006_2 ?h20006_3 ?h20006_4 ?h20006_5 ?h20006_6); (case h20006_1 => rfl); (case h20006_2 => rfl); (case h20006_3 => rfl); (case h20006_4 => rfl); (case h20006_5 => rfl); (intro W2 hW2); (have HWy := hid (HQ7.out.put3 hW2)); (clear hW2)) | fail)
        obtain ⟨z0, z1, z2⟩ := HWy.out.1.three
        go_wp2_with fail
        refine bodyPost_ret (v := .tuple #[pv y, .bool y2]) (by simp [results, Tryz.results45, go_sem, z0, z1, z2]) rfl ⟨rfl, HWy.out.2⟩
/-- A mean, two positions, and what is answered. -/
def M4 (w : World) (m : Mu) (p q : P3) (r : List Value) (w' : World) : Prop := Cs w' w.heap.size m.cells ∧ Cs w' (w.heap.size + 1) (pcells p) ∧ Cs w' (w.heap.size + 2) (pcells q) ∧ Cs w' (w.heap.size + 3) r ∧ Below w.heap.size w w'
theorem M4.below {w w1 w2 : World} {m : Mu} {p q : P3} {r : List Value} (h : M4 w m p q r w1) (hb : Below w1.heap.size w1 w2) : M4 w m p q r w2 := ⟨h.1.below hb, h.2.1.below hb, h.2.2.1.below hb, h.2.2.2.1.below hb, below_on h.2.2.2.2 hb⟩
theorem M4.new (w : World) (m : Mu) (p q : P3) : M4 w m p q [.int .u64 0, .int .i64 0, .int .u64 0, .int .u64 0, .int .i64 0] ((((w.alloc (.cells #[.int .u64 m.b, .int .i64 (hiW m.a), .int .u64 (loW m.a), .int .u64 m.w, .int .i64 m.n] 36)).alloc (.cells #[.int .u64 p.1, .int .u32 p.2.1, .int .u32 p.2.2] 29)).alloc (.cells #[.int .u64 q.1, .int .u32 q.2.1, .int .u32 q.2.2] 29)).alloc (.cells #[.int .u64 0, .int .i64 0, .int .u64 0, .int .u64 0, .int .i64 0] 36)) := by
  have h1 := Cs.alloc_new6 w 36 m.cells
  have h2 := Cs.alloc_new6 (w.alloc (.cells #[.int .u64 m.b, .int .i64 (hiW m.a), .int .u64 (loW m.a), .int .u64 m.w, .int .i64 m.n] 36)) 29 (pcells p)
  have h3 := Cs.alloc_new6 ((w.alloc (.cells #[.int .u64 m.b, .int .i64 (hiW m.a), .int .u64 (loW m.a), .int .u64 m.w, .int .i64 m.n] 36)).alloc (.cells #[.int .u64 p.1, .int .u32 p.2.1, .int .u32 p.2.2] 29)) 29 (pcells q)
  have h4 := Cs.alloc_new6 (((w.alloc (.cells #[.int .u64 m.b, .int .i64 (hiW m.a), .int .u64 (loW m.a), .int .u64 m.w, .int .i64 m.n] 36)).alloc (.cells #[.int .u64 p.1, .int .u32 p.2.1, .int .u32 p.2.2] 29)).alloc (.cells #[.int .u64 q.1, .int .u32 q.2.1, .int .u32 q.2.2] 29)) 36 [.int .u64 0, .int .i64 0, .int .u64 0, .int .u64 0, .int .i64 0]
  simp only [World.size_alloc] at h2 h3 h4
  exact ⟨((h1.alloc _).alloc _).alloc _, (h2.alloc _).alloc _, h3.alloc _, h4, ((((Below.refl w.heap.size w).alloc (Nat.le_refl _) _).alloc (by simp) _).alloc (by simp; omega) _).alloc (by simp; omega) _⟩
theorem M4.put {w w1 : World} {m : Mu} {p q : P3} {a b c d e : Value} (h : M4 w m p q [a, b, c, d, e] w1) {a' b' c' d' e' : Value} {W : World} (hW : W = w1.setCells (w.heap.size + 3) 0 [a', b', c', d', e']) : Cs W (w.heap.size + 3) [a', b', c', d', e'] ∧ Below w.heap.size w W := by
  rw [hW]
  exact ⟨Cs.putL [a', b', c', d', e'] 0 h.2.2.2.1 (by simp), below_sets (by omega) _ _ h.2.2.2.2⟩
theorem take_in {m : Mu} {p : P3} (hm : m.In) (hp : PIn p) : (m.take p).2.In := by
  unfold Mu.take
  split
  · rename_i h
    unfold Mu.takeOk at h
    simp only [Bool.and_eq_true, Bool.or_eq_true, decide_eq_true_eq] at h
    obtain ⟨⟨⟨⟨⟨h1, h2⟩, h3⟩, h4⟩, h5⟩, h6⟩ := h
    obtain ⟨⟨n0, n1⟩, w0, w1⟩ := right_w h1 h3
    have hv := pR_isP hp h2
    unfold IsP at hv
    refine ⟨hm.1, ?_, ?_, ?_⟩
    · show WR (if m.n = 1 then 0 else m.a - pD m.b p)
      split
      · unfold WR; omega
      · rename_i h7
        rcases h4 with h4 | h4
        · exact absurd h4 h7
        · exact okW_iff.1 h4
    · show 0 ≤ m.w - p.2.2 ∧ m.w - p.2.2 ≤ _; omega
    · show _ ≤ m.n - 1 ∧ m.n - 1 ≤ _; omega
  · exact Mu.no_in
set_option maxRecDepth 100000 in
set_option maxHeartbeats 16000000 in
theorem Weigh.shifted (m : Mu) (p q : P3) (hm : m.In) (hp : PIn p) (hq : PIn q) (w : World) :
    Calls Tryz.prog 46 #[m.val, pv p, pv q] w (Ans (.tuple #[Mu.val (m.swap p q).2, .bool (m.swap p q).1]) w) := by
  have HM := hid hm
  have HP := hid hp
  have HPQ := hid hq
  have HT := hid (take_in hm hp)
  have HQ0 := hid (M4.new w m p q)
  clear hm hp hq
  unfold Mu.val pv
  obtain ⟨ok, o, hT⟩ : ∃ ok o, m.take p = (ok, o) := ⟨_, _, rfl⟩
  rw [hT] at HT
  cases ok with
  | false =>
    have E : Hid (m.swap p q = (false, Mu.no)) := hid (by unfold Mu.swap; rw [hT, if_neg (by simp)])
    rw [E.out]
    have HTT := hid hT
    clear hT
    go_enter Tryz.func46, Tryz.ntmps46
    go_wp2_with fail
    generalize ((((w.alloc (.cells #[.int .u64 m.b, .int .i64 (hiW m.a), .int .u64 (loW m.a), .int .u64 m.w, .int .i64 m.n] 36)).alloc (.cells #[.int .u64 p.1, .int .u32 p.2.1, .int .u32 p.2.2] 29)).alloc (.cells #[.int .u64 q.1, .int .u32 q.2.1, .int .u32 q.2.2] 29)).alloc (.cells #[.int .u64 0, .int .i64 0, .int .u64 0, .int .u64 0, .int .i64 0] 36)) = W0 at HQ0 ⊢
    obtain ⟨m0, m1, m2, m3, m4⟩ := Mu.at m HQ0.out.1
    obtain ⟨q0, q1, q2⟩ := P3.at p HQ0.out.2.1
    go_wp2_with fail
    refine (Mean.take m p HM.out HP.out _).mono ?_
    rw [HTT.out]
    rintro e w1 ⟨rfl, hb⟩
    have HQ1 := hid ((HQ0.out.below hb).below ((Below.refl _ _).alloc (Nat.le_refl _) (.cells #[.int .u64 o.b, .int .i64 (hiW o.a), .int .u64 (loW o.a), .int .u64 o.w, .int .i64 o.n] 36)))
    clear hb HQ0 m0 m1 m2 m3 m4 q0 q1 q2
    have HCr := hid HQ1.out.2.2.2.1
    go_wp2_with (first | ((with_reducible refine wpList_put_cs 36 [.int .u64 0, .int .i64 0, .int .u64 0, .int .u64 0, .int .i64 0] infoMean rfl (.tmp 6) (.tmp 18) rfl (w.heap.size + 3) _ HCr.out ?h20007_1 ?h20007_2 ?h20007_3 ?h20007_4 ?h20007_5 ?h20007_6); (case h20007_1 => rfl); (case h20007_2 => rfl); (case h20007_3 => rfl); (case h20007_4 => rfl); (case h20007_5 => rfl); (intro W2 hW2); (have HW := hid (HQ1.out.put hW2)); (clear hW2)) | fail)
    obtain ⟨z0, z1, z2, z3, z4⟩ := HW.out.1.five
    go_wp2_with fail
    refine bodyPost_ret (v := .tuple #[Mu.val Mu.no, .bool false]) (by simp [results, Tryz.results46, go_sem, z0, z1, z2, z3, z4, hiW0, loW0]) rfl ⟨rfl, HW.out.2⟩
  | true =>
    have E : Hid (m.swap p q = o.add q) := hid (by unfold Mu.swap; rw [hT, if_pos rfl])
    rw [E.out]
    have HTT := hid hT
    clear hT
    go_enter Tryz.func46, Tryz.ntmps46
    go_wp2_with fail
    generalize ((((w.alloc (.cells #[.int .u64 m.b, .int .i64 (hiW m.a), .int .u64 (loW m.a), .int .u64 m.w, .int .i64 m.n] 36)).alloc (.cells #[.int .u64 p.1, .int .u32 p.2.1, .int .u32 p.2.2] 29)).alloc (.cells #[.int .u64 q.1, .int .u32 q.2.1, .int .u32 q.2.2] 29)).alloc (.cells #[.int .u64 0, .int .i64 0, .int .u64 0, .int .u64 0, .int .i64 0] 36)) = W0 at HQ0 ⊢
    obtain ⟨m0, m1, m2, m3, m4⟩ := Mu.at m HQ0.out.1
    obtain ⟨q0, q1, q2⟩ := P3.at p HQ0.out.2.1
    go_wp2_with fail
    refine (Mean.take m p HM.out HP.out _).mono ?_
    rw [HTT.out]
    rintro e w1 ⟨rfl, hb⟩
    have HQ1 := hid ((HQ0.out.below hb).below ((Below.refl _ _).alloc (Nat.le_refl _) (.cells #[.int .u64 o.b, .int .i64 (hiW o.a), .int .u64 (loW o.a), .int .u64 o.w, .int .i64 o.n] 36)))
    have HO1 : Hid (Cs (w1.alloc (.cells #[.int .u64 o.b, .int .i64 (hiW o.a), .int .u64 (loW o.a), .int .u64 o.w, .int .i64 o.n] 36)) w1.heap.size o.cells) := hid (Cs.alloc_new6 w1 36 o.cells)
    clear hb HQ0 m0 m1 m2 m3 m4 q0 q1 q2
    obtain ⟨q0, q1, q2⟩ := P3.at q (show Cs _ (w.heap.size + 1 + 1) (pcells q) from HQ1.out.2.2.1)
    go_wp2_with fail
    refine (Mean.add o q HT.out HPQ.out _).mono ?_
    generalize o.add q = y at *
    rintro e w2 ⟨rfl, hb⟩
    have HQ2 := hid (HQ1.out.below hb)
    clear hb HQ1 HO1 q0 q1 q2
    have HCr := hid HQ2.out.2.2.2.1
    go_wp2_with (first | ((with_reducible refine wpList_put_cs 36 [.int .u64 y.2.b, .int .i64 (hiW y.2.a), .int .u64 (loW y.2.a), .int .u64 y.2.w, .int .i64 y.2.n] infoMean rfl (.tmp 6) (.tmp 22) rfl (w.heap.size + 3) _ HCr.out ?h20008_1 ?h20008_2 ?h20008_3 ?h20008_4 ?h20008_5 ?h20008_6); (case h20008_1 => rfl); (case h20008_2 => rfl); (case h20008_3 => rfl); (case h20008_4 => rfl); (case h20008_5 => rfl); (intro W2 hW2); (have HW := hid (HQ2.out.put hW2)); (clear hW2)) | fail)
    obtain ⟨z0, z1, z2, z3, z4⟩ := HW.out.1.five
    go_wp2_with fail
    refine bodyPost_ret (v := .tuple #[Mu.val y.2, .bool y.1]) (by simp [results, Tryz.results46, go_sem, z0, z1, z2, z3, z4, hiW0, loW0]) rfl ⟨rfl, HW.out.2⟩
end Go.Proofs.YthmilhhihcmdhaaGreatDoor

/- TableSets: the walk. -/
import Derived.Test.YtegohmeapamoaaaGreatDoorTableSetsZ28
import Derived.Test.YtegohmeapamoaaaGreatDoorTableSetsZ46
import Derived.Test.YtegohmeapamoaaaGreatDoorTxt
namespace Go.Proofs.YtegohmeapamoaaaGreatDoor
open Go.RowKit
theorem Task.neqS (i s c w n l : Int) (W : World) : (binOp .neq 60 (.agg #[.int .i64 i, .int .u8 s, .int .i64 c, .int .u32 w, .int .u64 n, .int .i64 l]) (.agg #[.int .i64 i, .int .u8 s, .int .i64 c, .int .u32 w, .int .u64 n, .int .i64 l])).run Tryz.prog W = .ok (.bool false) W := by
  go_simp
set_option maxRecDepth 100000 in
set_option maxHeartbeats 8000000 in
theorem Tset.away (m : Int) (A : Option Addr) (n c : Nat) (x : Tk) (w : World) (hn : 100 < n) : Calls Tryz.prog 11 #[.int .i64 m, .slice A n c, x.val] w (Ans (.bool true) w) := by
  have h2 : (100 : Int) < (n : Int) := by omega
  have HB0 : Hid (Below w.heap.size w (w.alloc (.cells #[.int .i64 x.i, .int .u8 x.s, .int .i64 x.c, .int .u32 x.w, .int .u64 x.n, .int .i64 x.l] 60))) := hid ((Below.refl w.heap.size w).alloc (Nat.le_refl _) _)
  clear hn
  unfold Tk.val
  go_enter Tryz.func11, Tryz.ntmps11
  go_upto_region 1 with fail
  generalize (w.alloc (.cells #[.int .i64 x.i, .int .u8 x.s, .int .i64 x.c, .int .u32 x.w, .int .u64 x.n, .int .i64 x.l] 60)) = W0 at HB0 ⊢
  go_wp2_with fail
  refine (aw20a _).mono ?_
  rintro e w1 ⟨rfl, hb⟩
  have HB1 := hid (below_on HB0.out hb)
  clear hb
  go_wp2_with fail
  go_ret
  exact ⟨rfl, HB1.out⟩
section
attribute [local go_sem] Task.neqS
set_option maxRecDepth 100000 in
set_option maxHeartbeats 16000000 in
theorem Tset.core (m : Int) (A : Option Addr) (n c : Nat) (l : List Ac) (x : Tk) (w : World) (hr : RdA w A n l) (hn : n ≤ 100) : Calls Tryz.prog 11 #[.int .i64 m, .slice A n c, x.val] w (Ans (.bool true) w) := by
  have h2 : ¬ (100 : Int) < (n : Int) := by omega
  have HN := hid hn
  obtain ⟨N, hN⟩ : ∃ N : Nat, min (max m 0) 32 = (N : Int) := ⟨(min (max m 0) 32).toNat, by omega⟩
  have HNN := hid hN
  have hal := (Below.refl w.heap.size w).alloc (Nat.le_refl _) (.cells #[.int .i64 x.i, .int .u8 x.s, .int .i64 x.c, .int .u32 x.w, .int .u64 x.n, .int .i64 x.l] 60)
  have HX0 : Hid (Cs (w.alloc (.cells #[.int .i64 x.i, .int .u8 x.s, .int .i64 x.c, .int .u32 x.w, .int .u64 x.n, .int .i64 x.l] 60)) w.heap.size x.cells ∧ Below w.heap.size w (w.alloc (.cells #[.int .i64 x.i, .int .u8 x.s, .int .i64 x.c, .int .u32 x.w, .int .u64 x.n, .int .i64 x.l] 60))) := hid ⟨Tk.new w 60 x, hal⟩
  have HR := hid (hr.below hal)
  clear hr hn hN hal
  unfold Tk.val
  go_enter Tryz.func11, Tryz.ntmps11
  go_upto_region 1 with fail
  generalize (w.alloc (.cells #[.int .i64 x.i, .int .u8 x.s, .int .i64 x.c, .int .u32 x.w, .int .u64 x.n, .int .i64 x.l] 60)) = W0 at HX0 HR ⊢
  go_wp2_with fail
  refine (aw20a _).mono ?_
  rintro e w1 ⟨rfl, hb⟩
  have HX1 := hid (And.intro (HX0.out.1.below hb) (below_on HX0.out.2 hb))
  have HR1 := hid (HR.out.below hb)
  clear hb HR HX0
  go_wp2_with fail
  refine (Tab.new m N HNN.out _).mono ?_
  rintro e w2 ⟨th, g0, rfl, ht, hb⟩
  have HT2 : Hid (TV w1 th (some ⟨g0, 0, none⟩) N N (List.replicate N Tk.zero) w2) := hid ⟨ht, hb⟩
  clear ht hb
  go_wp2_with fail
  go_loopg [28] n (fun s i wr => ∃ k : Nat, i = .int .i64 k ∧ k ≤ n ∧ s = n - k ∧ ∃ L, TV w1 th (some ⟨g0, 0, none⟩) N N L wr ∧ TInv L)
  case atStart => exact ⟨0, rfl, Nat.zero_le _, by omega, _, HT2.out, TInv.none N⟩
  case round =>
    obtain ⟨k, rfl, hk, hs, L, ht, hi⟩ := hrel
    have HS := hid hs
    have HT := hid ht
    have HK := hid hk
    have HI := hid hi
    clear hs ht hk hi
    by_cases hkn : k < n
    · obtain ⟨bb, off, hA, _, hc⟩ := (HR1.out.below HT.out.b).2 (by omega)
      obtain ⟨a0, a1, a2, a3, a4, a5, a6⟩ := Ac.of _ (hc k hkn)
      generalize (l.getD k Ac.zero) = pa at *
      obtain ⟨d, y⟩ := pa
      dsimp only at a0 a1 a2 a3 a4 a5 a6
      subst hA
      have hki : (k : Int) < n := by omega
      have hk0 : (0 : Int) ≤ k := by omega
      clear hc
      have hal := (Below.refl wr.heap.size wr).alloc (Nat.le_refl _) (.cells #[.int .u8 d, .int .i64 y.i, .int .u8 y.s, .int .i64 y.c, .int .u32 y.w, .int .u64 y.n, .int .i64 y.l] 62)
      have HAC : Hid (Cs (wr.alloc (.cells #[.int .u8 d, .int .i64 y.i, .int .u8 y.s, .int .i64 y.c, .int .u32 y.w, .int .u64 y.n, .int .i64 y.l] 62)) wr.heap.size (Ac.cells ⟨d, y⟩)) := hid (Ac.new wr 62 ⟨d, y⟩)
      have HT3 := hid (HT.out.below hal)
      clear hal
      go_upto_region 9 with fail
      generalize (wr.alloc (.cells #[.int .u8 d, .int .i64 y.i, .int .u8 y.s, .int .i64 y.c, .int .u32 y.w, .int .u64 y.n, .int .i64 y.l] 62)) = W3 at HAC HT3 ⊢
      clear a0 a1 a2 a3 a4 a5 a6
      generalize wr.heap.size = ga at HAC ⊢
      obtain ⟨a0, a1, a2, a3, a4, a5, a6⟩ := Ac.at _ HAC.out
      dsimp only at a0 a1 a2 a3 a4 a5 a6
      go_wp2_with fail
      · refine (Tab.dropV HT3.out y.i).mono ?_
        rintro e w4 ⟨rfl, h4, _⟩
        have HT4 := hid h4
        clear h4 a0 a1 a2 a3 a4 a5 a6
        go_wp2_with fail
        go_roundg (n - (k + 1))
        case measure => have := HS.out; omega
        case rel => exact ⟨k + 1, by go_num, by omega, rfl, _, HT4.out, HI.out.drop y.i⟩
      · refine (Tab.addV HT3.out y).mono ?_
        rintro e w4 ⟨rfl, h4, _⟩
        have HT4 := hid h4
        clear h4 a0 a1 a2 a3 a4 a5 a6
        go_wp2_with fail
        go_roundg (n - (k + 1))
        case measure => have := HS.out; omega
        case rel => exact ⟨k + 1, by go_num, by omega, rfl, _, HT4.out, HI.out.add y⟩
    · have hki : ¬ (k : Int) < n := by omega
      clear HS HK
      go_wp2_with fail
      refine (Tab.clone _ th g0 N N L _ HT.out.t).mono ?_
      rintro e w3 ⟨tw, gw, cw, rfl, hw, hb⟩
      have HW3 := hid hw
      have HT3 := hid (HT.out.below hb)
      have HLT := hid (And.intro (Nat.lt_of_lt_of_le (HT.out.t.row.rowGe g0 (by simp [rowOf])).2 (Nat.le_refl _)) hw.bs)
      clear hw hb
      have HX3 := hid (And.intro (HX1.out.1.below HT3.out.b) (below_on HX1.out.2 HT3.out.b))
      obtain ⟨x0, x1, x2, x3, x4, x5⟩ := Tk.at x HX3.out.1
      go_wp2_with fail
      refine (Tab.taskV HT3.out.t x.i).mono ?_
      rintro e w4 ⟨rfl, hb⟩
      have hal := (Below.refl w4.heap.size w4).alloc (Nat.le_refl _) (.cells #[.int .i64 (taskX L x.i).i, .int .u8 (taskX L x.i).s, .int .i64 (taskX L x.i).c, .int .u32 (taskX L x.i).w, .int .u64 (taskX L x.i).n, .int .i64 (taskX L x.i).l] 60)
      have HB4 := hid (hb.trans (hal.mono hb.size))
      clear hb hal x0 x1 x2 x3 x4 x5
      unfold Tk.val
      go_upto_region 15 with fail
      have HT5 := hid (HT3.out.below HB4.out)
      have HW5 := hid (HW3.out.below HB4.out)
      have HX5 := hid (And.intro (HX3.out.1.below HB4.out) (below_on HX3.out.2 HB4.out))
      generalize (w4.alloc (.cells #[.int .i64 (taskX L x.i).i, .int .u8 (taskX L x.i).s, .int .i64 (taskX L x.i).c, .int .u32 (taskX L x.i).w, .int .u64 (taskX L x.i).n, .int .i64 (taskX L x.i).l] 60)) = w5 at HT5 HW5 HX5 ⊢
      clear HB4 HT3 HX3 HW3
      obtain ⟨x0, x1, x2, x3, x4, x5⟩ := Tk.at x HX5.out.1
      go_wp2_with fail
      refine (Tab.setV HT5.out x).mono ?_
      rintro e w6 ⟨rfl, h6, hc6⟩
      have HT6 := hid h6
      have HW6 := hid (HW5.out.chg hc6 (fun j hj hm => by
        have h1 := (HW5.out.row.rowGe j hj).1
        have h2 := HLT.out.1
        simp [rowOf] at hm
        omega) (fun hm => by
        have h1 := HLT.out
        simp [rowOf] at hm
        omega))
      have HX6 := hid (HX5.out.1.chg hc6 (fun hm => by
        have h1 := HX1.out.1.lt
        have h2 := (HT5.out.t.row.rowGe g0 (by simp [rowOf])).1
        simp [rowOf] at hm
        omega))
      clear h6 hc6 x0 x1 x2 x3 x4 x5 HT5 HW5 HX5
      have HID := hid (ids_set HI.out x)
      have HIN := hid HI.out
      obtain ⟨x0, x1, x2, x3, x4, x5⟩ := Tk.at x HX6.out
      obtain ⟨D, hD⟩ : ∃ D, L.filter keep = D := ⟨_, rfl⟩
      obtain ⟨M, hM⟩ : ∃ M, sttL L x = M := ⟨_, rfl⟩
      rw [hM] at HT6
      obtain ⟨f, hf⟩ : ∃ f, sttE L x = f := ⟨_, rfl⟩
      rw [hf]
      rw [hM] at HID
      rw [hD] at HID
      have HST : Hid (∀ y ∈ D, dropE M y.i = 0 ∧ ((f = 0 ∧ y.i = x.i ∧ taskX M y.i = x) ∨ (¬ (f = 0 ∧ y.i = x.i) ∧ taskX M y.i = y))) := hid (by
        intro y hy
        rw [← hD] at hy
        have := set_task HI.out x hy
        rwa [hM, hf] at this)
      have HDD := hid hD
      by_cases hok : 1 ≤ x.s
      · by_cases hok2 : x.s ≤ 3
        · have hfe : dropE L x.i = f := by rw [← hf]; simp [sttE, dropE, Tk.ok, hok, hok2]
          rw [hfe]
          clear hfe hf hM hD HIN
          by_cases hf0 : f = 0
          · subst hf0
            go_wp2_with fail
            refine (Tab.states _ tw gw N cw L _ 3 3 [1, 2, 3] _ (HW6.out.below ((Below.refl w6.heap.size w6).alloc (Nat.le_refl _) (.cells #[.int .u8 1, .int .u8 2, .int .u8 3] 5))) (RdU.new3 .u8 w6 5 1 2 3) (by decide)).mono ?_
            rw [HDD.out]
            rintro e w7 ⟨A7, k7, d7, rfl, ho7, hb7⟩
            have HB7 := hid (((Below.refl w6.heap.size w6).alloc (Nat.le_refl _) (.cells #[.int .u8 1, .int .u8 2, .int .u8 3] 5)).trans (hb7.mono (by simp)))
            have HO7 := hid ho7
            have HK7 : Hid (k7 ≤ 1000000) := hid (by have h1 := ho7.len; have h2 := idsOf_len [1, 2, 3] D; have h3 := List.length_filter_le keep L; have h4 := HT.out.t.len; have h5 := HT.out.t.le; rw [HDD.out] at h3; omega)
            clear ho7 hb7 x0 x1 x2 x3 x4 x5
            go_wp2_with fail
            refine (Tab.states _ th g0 N N M _ 3 3 [1, 2, 3] _ ((HT6.out.t.below HB7.out).below ((Below.refl w7.heap.size w7).alloc (Nat.le_refl _) (.cells #[.int .u8 1, .int .u8 2, .int .u8 3] 5))) (RdU.new3 .u8 w7 5 1 2 3) (by decide)).mono ?_
            rw [HID.out]
            rintro e w8 ⟨A8, k8, d8, rfl, ho8, hb8⟩
            have hb78 := ((Below.refl w7.heap.size w7).alloc (Nat.le_refl _) (.cells #[.int .u8 1, .int .u8 2, .int .u8 3] 5)).trans (hb8.mono (by simp))
            have HB8 := hid (below_on HB7.out hb78)
            have HO78 := hid (HO7.out.below hb78)
            have HO8 := hid ho8
            have HK8 : Hid (k8 ≤ 1000000) := hid (by have h1 := ho8.len; have h2 := HO7.out.len; have := HK7.out; omega)
            clear ho8 hb8 hb78
            go_wp2_with fail
            refine (Sls.equal A7 A8 k7 d7 k8 d8 _ _ _ HO78.out.rdi HO8.out.rdi HK7.out HK8.out).mono ?_
            rw [show (idsOf [1, 2, 3] D == idsOf [1, 2, 3] D) = true by simp]
            rintro e w9 ⟨rfl, hb⟩
            have HB9 := hid (below_on HB8.out hb)
            clear hb HO78 HO8 HO7 HB7 HB8
            go_wp2_with fail
            refine (Tab.tasks _ tw gw N cw L _ (HW6.out.below HB9.out)).mono ?_
            rw [HDD.out]
            rintro e w10 ⟨g', m', c', rfl, ho, hb, hq⟩
            have HB10 := hid (below_on HB9.out hb)
            have HR := hid (ho.rd Tk.len (by decide) Tk.zero)
            have HLN := hid HR.out.1
            have hqi : (m' : Int) ≤ 32 := by have := HT.out.t.le; omega
            clear ho hb hq HB9
            go_wp2_with fail
            go_loopg [93] m' (fun s i wx => ∃ k : Nat, i = .int .i64 k ∧ k ≤ m' ∧ s = m' - k ∧ Below w10.heap.size w10 wx)
            case atStart => exact ⟨0, rfl, Nat.zero_le _, by omega, Below.refl _ _⟩
            case round =>
              obtain ⟨j, rfl, hj, hs, hb⟩ := hrel
              have HSJ := hid hs
              have HB := hid (below_on HB10.out hb)
              have HBX0 := hid hb
              have HRJ := hid (HR.out.below hb)
              clear hs hb
              by_cases hjm : j < m'
              · obtain ⟨bb, off, hA, _, hc⟩ := HRJ.out.2 (by omega)
                injection hA with hA
                injection hA with e1 e2
                subst e1 e2
                obtain ⟨p0, p1, p2, p3, p4, p5⟩ := Tk.of _ (hc j hjm)
                have HY := hid (HST.out (D.getD j Tk.zero) (by
                  have hl : j < D.length := by have := HLN.out; omega
                  have e : D.getD j Tk.zero = D[j] := by simp [List.getD, hl]
                  rw [e]; exact List.getElem_mem hl))
                generalize D.getD j Tk.zero = y at *
                simp only [Nat.zero_add] at p0 p1 p2 p3 p4 p5
                have hki : (j : Int) < m' := by omega
                have hk0 : (0 : Int) ≤ j := by omega
                clear hc hj
                have hal := (Below.refl wr.heap.size wr).alloc (Nat.le_refl _) (.cells #[.int .i64 y.i, .int .u8 y.s, .int .i64 y.c, .int .u32 y.w, .int .u64 y.n, .int .i64 y.l] 60)
                have HYv : Hid (Cs (wr.alloc (.cells #[.int .i64 y.i, .int .u8 y.s, .int .i64 y.c, .int .u32 y.w, .int .u64 y.n, .int .i64 y.l] 60)) wr.heap.size y.cells) := hid (Tk.new wr 60 y)
                have HB11 := hid (below_on HB.out hal)
                have HBX11 := hid (below_on HBX0.out hal)
                clear hal
                go_upto_region 22 with fail
                generalize (wr.alloc (.cells #[.int .i64 y.i, .int .u8 y.s, .int .i64 y.c, .int .u32 y.w, .int .u64 y.n, .int .i64 y.l] 60)) = w11 at HYv HB11 HBX11 ⊢
                generalize wr.heap.size = gy at HYv ⊢
                clear p0 p1 p2 p3 p4 p5
                obtain ⟨y0, y1, y2, y3, y4, y5⟩ := Tk.at y HYv.out
                go_wp2_with fail
                refine (Tab.taskV (HT6.out.t.below HB11.out) y.i).mono ?_
                rw [HY.out.1]
                rcases HY.out.2 with ⟨hf0, hyx, hz⟩ | ⟨hne, hz⟩
                · rw [hz]
                  rintro e w12 ⟨rfl, hb⟩
                  have hal := hb.trans (((Below.refl w12.heap.size w12).alloc (Nat.le_refl _) (.cells #[.int .i64 x.i, .int .u8 x.s, .int .i64 x.c, .int .u32 x.w, .int .u64 x.n, .int .i64 x.l] 60)).mono hb.size)
                  have HYv2 := hid (HYv.out.below hal)
                  have HX12 := hid ((HX6.out.below HB11.out).below hal)
                  have HB12 := hid (below_on HB11.out hal)
                  have HBX := hid (below_on HBX11.out hal)
                  have hzc := Tk.new w12 60 x
                  have HZC := hid hzc
                  clear hb hal hzc y0 y1 y2 y3 y4 y5 hz
                  go_upto_region 23 with fail
                  generalize (w12.alloc (.cells #[.int .i64 x.i, .int .u8 x.s, .int .i64 x.c, .int .u32 x.w, .int .u64 x.n, .int .i64 x.l] 60)) = w13 at HYv2 HX12 HB12 HZC HBX ⊢
                  obtain ⟨x0, x1, x2, x3, x4, x5⟩ := Tk.at x HX12.out
                  obtain ⟨y0, y1, y2, y3, y4, y5⟩ := Tk.at y HYv2.out
                  obtain ⟨z0, z1, z2, z3, z4, z5⟩ := Tk.at x HZC.out
                  rw [hyx] at y0
                  go_wp2_with fail
                  go_roundg (m' - (j + 1))
                  case measure => have := HSJ.out; omega
                  case rel => exact ⟨j + 1, by go_num, by omega, rfl, HBX.out⟩
                · rw [hz]
                  rintro e w12 ⟨rfl, hb⟩
                  have hal := hb.trans (((Below.refl w12.heap.size w12).alloc (Nat.le_refl _) (.cells #[.int .i64 y.i, .int .u8 y.s, .int .i64 y.c, .int .u32 y.w, .int .u64 y.n, .int .i64 y.l] 60)).mono hb.size)
                  have HYv2 := hid (HYv.out.below hal)
                  have HX12 := hid ((HX6.out.below HB11.out).below hal)
                  have HB12 := hid (below_on HB11.out hal)
                  have HBX := hid (below_on HBX11.out hal)
                  have hzc := Tk.new w12 60 y
                  have HZC := hid hzc
                  clear hb hal hzc y0 y1 y2 y3 y4 y5 hz
                  go_upto_region 23 with fail
                  generalize (w12.alloc (.cells #[.int .i64 y.i, .int .u8 y.s, .int .i64 y.c, .int .u32 y.w, .int .u64 y.n, .int .i64 y.l] 60)) = w13 at HYv2 HX12 HB12 HZC HBX ⊢
                  obtain ⟨x0, x1, x2, x3, x4, x5⟩ := Tk.at x HX12.out
                  obtain ⟨y0, y1, y2, y3, y4, y5⟩ := Tk.at y HYv2.out
                  obtain ⟨z0, z1, z2, z3, z4, z5⟩ := Tk.at y HZC.out
                  have hyx : (y.i == x.i) = false := by simpa using hne
                  clear hne
                  go_wp2_with fail
                  all_goals
                    go_roundg (m' - (j + 1))
                    case measure => have := HSJ.out; omega
                    case rel => exact ⟨j + 1, by go_num, by omega, rfl, HBX.out⟩
              · have hki : ¬ (j : Int) < m' := by omega
                go_wp2_with fail
                go_ret
                exact ⟨rfl, below_on HX1.out.2 (below_on HT6.out.b HB.out)⟩
          · have hf1 : (f == 0) = false := by simpa using hf0
            have HF0 := hid hf0
            clear hf0
            go_wp2_with fail
            refine (Tab.states _ tw gw N cw L _ 3 3 [1, 2, 3] _ (HW6.out.below ((Below.refl w6.heap.size w6).alloc (Nat.le_refl _) (.cells #[.int .u8 1, .int .u8 2, .int .u8 3] 5))) (RdU.new3 .u8 w6 5 1 2 3) (by decide)).mono ?_
            rw [HDD.out]
            rintro e w7 ⟨A7, k7, d7, rfl, ho7, hb7⟩
            have HB7 := hid (((Below.refl w6.heap.size w6).alloc (Nat.le_refl _) (.cells #[.int .u8 1, .int .u8 2, .int .u8 3] 5)).trans (hb7.mono (by simp)))
            have HO7 := hid ho7
            have HK7 : Hid (k7 ≤ 1000000) := hid (by have h1 := ho7.len; have h2 := idsOf_len [1, 2, 3] D; have h3 := List.length_filter_le keep L; have h4 := HT.out.t.len; have h5 := HT.out.t.le; rw [HDD.out] at h3; omega)
            clear ho7 hb7 x0 x1 x2 x3 x4 x5
            go_wp2_with fail
            refine (Tab.states _ th g0 N N M _ 3 3 [1, 2, 3] _ ((HT6.out.t.below HB7.out).below ((Below.refl w7.heap.size w7).alloc (Nat.le_refl _) (.cells #[.int .u8 1, .int .u8 2, .int .u8 3] 5))) (RdU.new3 .u8 w7 5 1 2 3) (by decide)).mono ?_
            rw [HID.out]
            rintro e w8 ⟨A8, k8, d8, rfl, ho8, hb8⟩
            have hb78 := ((Below.refl w7.heap.size w7).alloc (Nat.le_refl _) (.cells #[.int .u8 1, .int .u8 2, .int .u8 3] 5)).trans (hb8.mono (by simp))
            have HB8 := hid (below_on HB7.out hb78)
            have HO78 := hid (HO7.out.below hb78)
            have HO8 := hid ho8
            have HK8 : Hid (k8 ≤ 1000000) := hid (by have h1 := ho8.len; have h2 := HO7.out.len; have := HK7.out; omega)
            clear ho8 hb8 hb78
            go_wp2_with fail
            refine (Sls.equal A7 A8 k7 d7 k8 d8 _ _ _ HO78.out.rdi HO8.out.rdi HK7.out HK8.out).mono ?_
            rw [show (idsOf [1, 2, 3] D == idsOf [1, 2, 3] D) = true by simp]
            rintro e w9 ⟨rfl, hb⟩
            have HB9 := hid (below_on HB8.out hb)
            clear hb HO78 HO8 HO7 HB7 HB8
            go_wp2_with fail
            refine (Tab.tasks _ tw gw N cw L _ (HW6.out.below HB9.out)).mono ?_
            rw [HDD.out]
            rintro e w10 ⟨g', m', c', rfl, ho, hb, hq⟩
            have HB10 := hid (below_on HB9.out hb)
            have HR := hid (ho.rd Tk.len (by decide) Tk.zero)
            have HLN := hid HR.out.1
            have hqi : (m' : Int) ≤ 32 := by have := HT.out.t.le; omega
            clear ho hb hq HB9
            go_wp2_with fail
            go_loopg [93] m' (fun s i wx => ∃ k : Nat, i = .int .i64 k ∧ k ≤ m' ∧ s = m' - k ∧ Below w10.heap.size w10 wx)
            case atStart => exact ⟨0, rfl, Nat.zero_le _, by omega, Below.refl _ _⟩
            case round =>
              obtain ⟨j, rfl, hj, hs, hb⟩ := hrel
              have HSJ := hid hs
              have HB := hid (below_on HB10.out hb)
              have HBX0 := hid hb
              have HRJ := hid (HR.out.below hb)
              clear hs hb
              by_cases hjm : j < m'
              · obtain ⟨bb, off, hA, _, hc⟩ := HRJ.out.2 (by omega)
                injection hA with hA
                injection hA with e1 e2
                subst e1 e2
                obtain ⟨p0, p1, p2, p3, p4, p5⟩ := Tk.of _ (hc j hjm)
                have HY := hid (HST.out (D.getD j Tk.zero) (by
                  have hl : j < D.length := by have := HLN.out; omega
                  have e : D.getD j Tk.zero = D[j] := by simp [List.getD, hl]
                  rw [e]; exact List.getElem_mem hl))
                generalize D.getD j Tk.zero = y at *
                simp only [Nat.zero_add] at p0 p1 p2 p3 p4 p5
                have hki : (j : Int) < m' := by omega
                have hk0 : (0 : Int) ≤ j := by omega
                clear hc hj
                have hal := (Below.refl wr.heap.size wr).alloc (Nat.le_refl _) (.cells #[.int .i64 y.i, .int .u8 y.s, .int .i64 y.c, .int .u32 y.w, .int .u64 y.n, .int .i64 y.l] 60)
                have HYv : Hid (Cs (wr.alloc (.cells #[.int .i64 y.i, .int .u8 y.s, .int .i64 y.c, .int .u32 y.w, .int .u64 y.n, .int .i64 y.l] 60)) wr.heap.size y.cells) := hid (Tk.new wr 60 y)
                have HB11 := hid (below_on HB.out hal)
                have HBX11 := hid (below_on HBX0.out hal)
                clear hal
                go_upto_region 22 with fail
                generalize (wr.alloc (.cells #[.int .i64 y.i, .int .u8 y.s, .int .i64 y.c, .int .u32 y.w, .int .u64 y.n, .int .i64 y.l] 60)) = w11 at HYv HB11 HBX11 ⊢
                generalize wr.heap.size = gy at HYv ⊢
                clear p0 p1 p2 p3 p4 p5
                obtain ⟨y0, y1, y2, y3, y4, y5⟩ := Tk.at y HYv.out
                go_wp2_with fail
                refine (Tab.taskV (HT6.out.t.below HB11.out) y.i).mono ?_
                rw [HY.out.1]
                rcases HY.out.2 with ⟨hf0, hyx, hz⟩ | ⟨hne, hz⟩
                · exact absurd hf0 HF0.out
                · rw [hz]
                  rintro e w12 ⟨rfl, hb⟩
                  have hal := hb.trans (((Below.refl w12.heap.size w12).alloc (Nat.le_refl _) (.cells #[.int .i64 y.i, .int .u8 y.s, .int .i64 y.c, .int .u32 y.w, .int .u64 y.n, .int .i64 y.l] 60)).mono hb.size)
                  have HYv2 := hid (HYv.out.below hal)
                  have HX12 := hid ((HX6.out.below HB11.out).below hal)
                  have HB12 := hid (below_on HB11.out hal)
                  have HBX := hid (below_on HBX11.out hal)
                  have hzc := Tk.new w12 60 y
                  have HZC := hid hzc
                  clear hb hal hzc y0 y1 y2 y3 y4 y5 hz
                  go_upto_region 23 with fail
                  generalize (w12.alloc (.cells #[.int .i64 y.i, .int .u8 y.s, .int .i64 y.c, .int .u32 y.w, .int .u64 y.n, .int .i64 y.l] 60)) = w13 at HYv2 HX12 HB12 HZC HBX ⊢
                  obtain ⟨x0, x1, x2, x3, x4, x5⟩ := Tk.at x HX12.out
                  obtain ⟨y0, y1, y2, y3, y4, y5⟩ := Tk.at y HYv2.out
                  obtain ⟨z0, z1, z2, z3, z4, z5⟩ := Tk.at y HZC.out
                  clear hne
                  go_wp2_with fail
                  go_roundg (m' - (j + 1))
                  case measure => have := HSJ.out; omega
                  case rel => exact ⟨j + 1, by go_num, by omega, rfl, HBX.out⟩
              · have hki : ¬ (j : Int) < m' := by omega
                go_wp2_with fail
                go_ret
                exact ⟨rfl, below_on HX1.out.2 (below_on HT6.out.b HB.out)⟩
        · have hfe : f = 2 := by rw [← hf]; simp [sttE, Tk.ok, hok2]
          subst hfe
          have hok3 : 3 < x.s := by omega
          clear hf hM hD HIN
          go_wp2_with fail
          refine (Tab.states _ tw gw N cw L _ 3 3 [1, 2, 3] _ (HW6.out.below ((Below.refl w6.heap.size w6).alloc (Nat.le_refl _) (.cells #[.int .u8 1, .int .u8 2, .int .u8 3] 5))) (RdU.new3 .u8 w6 5 1 2 3) (by decide)).mono ?_
          rw [HDD.out]
          rintro e w7 ⟨A7, k7, d7, rfl, ho7, hb7⟩
          have HB7 := hid (((Below.refl w6.heap.size w6).alloc (Nat.le_refl _) (.cells #[.int .u8 1, .int .u8 2, .int .u8 3] 5)).trans (hb7.mono (by simp)))
          have HO7 := hid ho7
          have HK7 : Hid (k7 ≤ 1000000) := hid (by have h1 := ho7.len; have h2 := idsOf_len [1, 2, 3] D; have h3 := List.length_filter_le keep L; have h4 := HT.out.t.len; have h5 := HT.out.t.le; rw [HDD.out] at h3; omega)
          clear ho7 hb7 x0 x1 x2 x3 x4 x5
          go_wp2_with fail
          refine (Tab.states _ th g0 N N M _ 3 3 [1, 2, 3] _ ((HT6.out.t.below HB7.out).below ((Below.refl w7.heap.size w7).alloc (Nat.le_refl _) (.cells #[.int .u8 1, .int .u8 2, .int .u8 3] 5))) (RdU.new3 .u8 w7 5 1 2 3) (by decide)).mono ?_
          rw [HID.out]
          rintro e w8 ⟨A8, k8, d8, rfl, ho8, hb8⟩
          have hb78 := ((Below.refl w7.heap.size w7).alloc (Nat.le_refl _) (.cells #[.int .u8 1, .int .u8 2, .int .u8 3] 5)).trans (hb8.mono (by simp))
          have HB8 := hid (below_on HB7.out hb78)
          have HO78 := hid (HO7.out.below hb78)
          have HO8 := hid ho8
          have HK8 : Hid (k8 ≤ 1000000) := hid (by have h1 := ho8.len; have h2 := HO7.out.len; have := HK7.out; omega)
          clear ho8 hb8 hb78
          go_wp2_with fail
          refine (Sls.equal A7 A8 k7 d7 k8 d8 _ _ _ HO78.out.rdi HO8.out.rdi HK7.out HK8.out).mono ?_
          rw [show (idsOf [1, 2, 3] D == idsOf [1, 2, 3] D) = true by simp]
          rintro e w9 ⟨rfl, hb⟩
          have HB9 := hid (below_on HB8.out hb)
          clear hb HO78 HO8 HO7 HB7 HB8
          go_wp2_with fail
          refine (Tab.tasks _ tw gw N cw L _ (HW6.out.below HB9.out)).mono ?_
          rw [HDD.out]
          rintro e w10 ⟨g', m', c', rfl, ho, hb, hq⟩
          have HB10 := hid (below_on HB9.out hb)
          have HR := hid (ho.rd Tk.len (by decide) Tk.zero)
          have HLN := hid HR.out.1
          have hqi : (m' : Int) ≤ 32 := by have := HT.out.t.le; omega
          clear ho hb hq HB9
          go_wp2_with fail
          go_loopg [93] m' (fun s i wx => ∃ k : Nat, i = .int .i64 k ∧ k ≤ m' ∧ s = m' - k ∧ Below w10.heap.size w10 wx)
          case atStart => exact ⟨0, rfl, Nat.zero_le _, by omega, Below.refl _ _⟩
          case round =>
            obtain ⟨j, rfl, hj, hs, hb⟩ := hrel
            have HSJ := hid hs
            have HB := hid (below_on HB10.out hb)
            have HBX0 := hid hb
            have HRJ := hid (HR.out.below hb)
            clear hs hb
            by_cases hjm : j < m'
            · obtain ⟨bb, off, hA, _, hc⟩ := HRJ.out.2 (by omega)
              injection hA with hA
              injection hA with e1 e2
              subst e1 e2
              obtain ⟨p0, p1, p2, p3, p4, p5⟩ := Tk.of _ (hc j hjm)
              have HY := hid (HST.out (D.getD j Tk.zero) (by
                have hl : j < D.length := by have := HLN.out; omega
                have e : D.getD j Tk.zero = D[j] := by simp [List.getD, hl]
                rw [e]; exact List.getElem_mem hl))
              generalize D.getD j Tk.zero = y at *
              simp only [Nat.zero_add] at p0 p1 p2 p3 p4 p5
              have hki : (j : Int) < m' := by omega
              have hk0 : (0 : Int) ≤ j := by omega
              clear hc hj
              have hal := (Below.refl wr.heap.size wr).alloc (Nat.le_refl _) (.cells #[.int .i64 y.i, .int .u8 y.s, .int .i64 y.c, .int .u32 y.w, .int .u64 y.n, .int .i64 y.l] 60)
              have HYv : Hid (Cs (wr.alloc (.cells #[.int .i64 y.i, .int .u8 y.s, .int .i64 y.c, .int .u32 y.w, .int .u64 y.n, .int .i64 y.l] 60)) wr.heap.size y.cells) := hid (Tk.new wr 60 y)
              have HB11 := hid (below_on HB.out hal)
              have HBX11 := hid (below_on HBX0.out hal)
              clear hal
              go_upto_region 22 with fail
              generalize (wr.alloc (.cells #[.int .i64 y.i, .int .u8 y.s, .int .i64 y.c, .int .u32 y.w, .int .u64 y.n, .int .i64 y.l] 60)) = w11 at HYv HB11 HBX11 ⊢
              generalize wr.heap.size = gy at HYv ⊢
              clear p0 p1 p2 p3 p4 p5
              obtain ⟨y0, y1, y2, y3, y4, y5⟩ := Tk.at y HYv.out
              go_wp2_with fail
              refine (Tab.taskV (HT6.out.t.below HB11.out) y.i).mono ?_
              rw [HY.out.1]
              rcases HY.out.2 with ⟨hf0, hyx, hz⟩ | ⟨hne, hz⟩
              · exact absurd hf0 (by decide)
              · rw [hz]
                rintro e w12 ⟨rfl, hb⟩
                have hal := hb.trans (((Below.refl w12.heap.size w12).alloc (Nat.le_refl _) (.cells #[.int .i64 y.i, .int .u8 y.s, .int .i64 y.c, .int .u32 y.w, .int .u64 y.n, .int .i64 y.l] 60)).mono hb.size)
                have HYv2 := hid (HYv.out.below hal)
                have HX12 := hid ((HX6.out.below HB11.out).below hal)
                have HB12 := hid (below_on HB11.out hal)
                have HBX := hid (below_on HBX11.out hal)
                have hzc := Tk.new w12 60 y
                have HZC := hid hzc
                clear hb hal hzc y0 y1 y2 y3 y4 y5 hz
                go_upto_region 23 with fail
                generalize (w12.alloc (.cells #[.int .i64 y.i, .int .u8 y.s, .int .i64 y.c, .int .u32 y.w, .int .u64 y.n, .int .i64 y.l] 60)) = w13 at HYv2 HX12 HB12 HZC HBX ⊢
                obtain ⟨x0, x1, x2, x3, x4, x5⟩ := Tk.at x HX12.out
                obtain ⟨y0, y1, y2, y3, y4, y5⟩ := Tk.at y HYv2.out
                obtain ⟨z0, z1, z2, z3, z4, z5⟩ := Tk.at y HZC.out
                clear hne
                go_wp2_with fail
                go_roundg (m' - (j + 1))
                case measure => have := HSJ.out; omega
                case rel => exact ⟨j + 1, by go_num, by omega, rfl, HBX.out⟩
            · have hki : ¬ (j : Int) < m' := by omega
              go_wp2_with fail
              go_ret
              exact ⟨rfl, below_on HX1.out.2 (below_on HT6.out.b HB.out)⟩
      · have hfe : f = 2 := by rw [← hf]; simp [sttE, Tk.ok, hok]
        subst hfe
        have hok3 : x.s < 1 := by omega
        clear hf hM hD HIN
        go_wp2_with fail
        refine (Tab.states _ tw gw N cw L _ 3 3 [1, 2, 3] _ (HW6.out.below ((Below.refl w6.heap.size w6).alloc (Nat.le_refl _) (.cells #[.int .u8 1, .int .u8 2, .int .u8 3] 5))) (RdU.new3 .u8 w6 5 1 2 3) (by decide)).mono ?_
        rw [HDD.out]
        rintro e w7 ⟨A7, k7, d7, rfl, ho7, hb7⟩
        have HB7 := hid (((Below.refl w6.heap.size w6).alloc (Nat.le_refl _) (.cells #[.int .u8 1, .int .u8 2, .int .u8 3] 5)).trans (hb7.mono (by simp)))
        have HO7 := hid ho7
        have HK7 : Hid (k7 ≤ 1000000) := hid (by have h1 := ho7.len; have h2 := idsOf_len [1, 2, 3] D; have h3 := List.length_filter_le keep L; have h4 := HT.out.t.len; have h5 := HT.out.t.le; rw [HDD.out] at h3; omega)
        clear ho7 hb7 x0 x1 x2 x3 x4 x5
        go_wp2_with fail
        refine (Tab.states _ th g0 N N M _ 3 3 [1, 2, 3] _ ((HT6.out.t.below HB7.out).below ((Below.refl w7.heap.size w7).alloc (Nat.le_refl _) (.cells #[.int .u8 1, .int .u8 2, .int .u8 3] 5))) (RdU.new3 .u8 w7 5 1 2 3) (by decide)).mono ?_
        rw [HID.out]
        rintro e w8 ⟨A8, k8, d8, rfl, ho8, hb8⟩
        have hb78 := ((Below.refl w7.heap.size w7).alloc (Nat.le_refl _) (.cells #[.int .u8 1, .int .u8 2, .int .u8 3] 5)).trans (hb8.mono (by simp))
        have HB8 := hid (below_on HB7.out hb78)
        have HO78 := hid (HO7.out.below hb78)
        have HO8 := hid ho8
        have HK8 : Hid (k8 ≤ 1000000) := hid (by have h1 := ho8.len; have h2 := HO7.out.len; have := HK7.out; omega)
        clear ho8 hb8 hb78
        go_wp2_with fail
        refine (Sls.equal A7 A8 k7 d7 k8 d8 _ _ _ HO78.out.rdi HO8.out.rdi HK7.out HK8.out).mono ?_
        rw [show (idsOf [1, 2, 3] D == idsOf [1, 2, 3] D) = true by simp]
        rintro e w9 ⟨rfl, hb⟩
        have HB9 := hid (below_on HB8.out hb)
        clear hb HO78 HO8 HO7 HB7 HB8
        go_wp2_with fail
        refine (Tab.tasks _ tw gw N cw L _ (HW6.out.below HB9.out)).mono ?_
        rw [HDD.out]
        rintro e w10 ⟨g', m', c', rfl, ho, hb, hq⟩
        have HB10 := hid (below_on HB9.out hb)
        have HR := hid (ho.rd Tk.len (by decide) Tk.zero)
        have HLN := hid HR.out.1
        have hqi : (m' : Int) ≤ 32 := by have := HT.out.t.le; omega
        clear ho hb hq HB9
        go_wp2_with fail
        go_loopg [93] m' (fun s i wx => ∃ k : Nat, i = .int .i64 k ∧ k ≤ m' ∧ s = m' - k ∧ Below w10.heap.size w10 wx)
        case atStart => exact ⟨0, rfl, Nat.zero_le _, by omega, Below.refl _ _⟩
        case round =>
          obtain ⟨j, rfl, hj, hs, hb⟩ := hrel
          have HSJ := hid hs
          have HB := hid (below_on HB10.out hb)
          have HBX0 := hid hb
          have HRJ := hid (HR.out.below hb)
          clear hs hb
          by_cases hjm : j < m'
          · obtain ⟨bb, off, hA, _, hc⟩ := HRJ.out.2 (by omega)
            injection hA with hA
            injection hA with e1 e2
            subst e1 e2
            obtain ⟨p0, p1, p2, p3, p4, p5⟩ := Tk.of _ (hc j hjm)
            have HY := hid (HST.out (D.getD j Tk.zero) (by
              have hl : j < D.length := by have := HLN.out; omega
              have e : D.getD j Tk.zero = D[j] := by simp [List.getD, hl]
              rw [e]; exact List.getElem_mem hl))
            generalize D.getD j Tk.zero = y at *
            simp only [Nat.zero_add] at p0 p1 p2 p3 p4 p5
            have hki : (j : Int) < m' := by omega
            have hk0 : (0 : Int) ≤ j := by omega
            clear hc hj
            have hal := (Below.refl wr.heap.size wr).alloc (Nat.le_refl _) (.cells #[.int .i64 y.i, .int .u8 y.s, .int .i64 y.c, .int .u32 y.w, .int .u64 y.n, .int .i64 y.l] 60)
            have HYv : Hid (Cs (wr.alloc (.cells #[.int .i64 y.i, .int .u8 y.s, .int .i64 y.c, .int .u32 y.w, .int .u64 y.n, .int .i64 y.l] 60)) wr.heap.size y.cells) := hid (Tk.new wr 60 y)
            have HB11 := hid (below_on HB.out hal)
            have HBX11 := hid (below_on HBX0.out hal)
            clear hal
            go_upto_region 22 with fail
            generalize (wr.alloc (.cells #[.int .i64 y.i, .int .u8 y.s, .int .i64 y.c, .int .u32 y.w, .int .u64 y.n, .int .i64 y.l] 60)) = w11 at HYv HB11 HBX11 ⊢
            generalize wr.heap.size = gy at HYv ⊢
            clear p0 p1 p2 p3 p4 p5
            obtain ⟨y0, y1, y2, y3, y4, y5⟩ := Tk.at y HYv.out
            go_wp2_with fail
            refine (Tab.taskV (HT6.out.t.below HB11.out) y.i).mono ?_
            rw [HY.out.1]
            rcases HY.out.2 with ⟨hf0, hyx, hz⟩ | ⟨hne, hz⟩
            · exact absurd hf0 (by decide)
            · rw [hz]
              rintro e w12 ⟨rfl, hb⟩
              have hal := hb.trans (((Below.refl w12.heap.size w12).alloc (Nat.le_refl _) (.cells #[.int .i64 y.i, .int .u8 y.s, .int .i64 y.c, .int .u32 y.w, .int .u64 y.n, .int .i64 y.l] 60)).mono hb.size)
              have HYv2 := hid (HYv.out.below hal)
              have HX12 := hid ((HX6.out.below HB11.out).below hal)
              have HB12 := hid (below_on HB11.out hal)
              have HBX := hid (below_on HBX11.out hal)
              have hzc := Tk.new w12 60 y
              have HZC := hid hzc
              clear hb hal hzc y0 y1 y2 y3 y4 y5 hz
              go_upto_region 23 with fail
              generalize (w12.alloc (.cells #[.int .i64 y.i, .int .u8 y.s, .int .i64 y.c, .int .u32 y.w, .int .u64 y.n, .int .i64 y.l] 60)) = w13 at HYv2 HX12 HB12 HZC HBX ⊢
              obtain ⟨x0, x1, x2, x3, x4, x5⟩ := Tk.at x HX12.out
              obtain ⟨y0, y1, y2, y3, y4, y5⟩ := Tk.at y HYv2.out
              obtain ⟨z0, z1, z2, z3, z4, z5⟩ := Tk.at y HZC.out
              clear hne
              go_wp2_with fail
              go_roundg (m' - (j + 1))
              case measure => have := HSJ.out; omega
              case rel => exact ⟨j + 1, by go_num, by omega, rfl, HBX.out⟩
          · have hki : ¬ (j : Int) < m' := by omega
            go_wp2_with fail
            go_ret
            exact ⟨rfl, below_on HX1.out.2 (below_on HT6.out.b HB.out)⟩
end
theorem Tset.law (m : Int) (A : Option Addr) (n c : Nat) (l : List Ac) (x : Tk) (w : World) (_ : (Lit.int .i64 m).wf = true) (h1 : (RdA w A n l ∧ ∀ x ∈ l, x.In) ∧ n ≤ 9223372036854775807) (_ : x.In) (_ : Tab10 w.heap.size w) : Calls Tryz.prog 11 #[.int .i64 m, .slice A n c, x.val] w (Ans (.bool true) w) := by
  by_cases hn : n ≤ 100
  · exact Tset.core m A n c l x w h1.1.1 hn
  · exact Tset.away m A n c x w (by omega)
end Go.Proofs.YtegohmeapamoaaaGreatDoor

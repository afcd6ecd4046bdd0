/- TableOnce: the walk. -/
import Derived.Test.YtegohmeapamoaaaGreatDoorTkL
import Derived.Test.YtegohmeapamoaaaGreatDoorTableOnceZ47
import Derived.Test.YtegohmeapamoaaaGreatDoorTxt
namespace Go.Proofs.YtegohmeapamoaaaGreatDoor
open Go.RowKit Go.Maps
theorem RdU.one (w : World) (t : TypeId) (x : Int) : RdU .u8 (w.alloc (.cells #[.int .u8 x] t)) (some ⟨w.heap.size, 0, none⟩) 1 [x] :=
  ⟨rfl, fun _ _ => ⟨_, 0, rfl, by simp, fun j hj => by
    rcases j with _ | j
    · simp
    · omega⟩⟩
theorem RdU.nought (w : World) : RdU .u8 w none 0 [] := ⟨rfl, fun i hi => absurd hi (by omega)⟩
/-- The table, and the map of who is there. -/
structure MI (w : World) (th g N c mb k : Nat) (L : List Tk) (D : DataW Unit) (W : World) : Prop where
  tv : TV w th (some ⟨g, 0, none⟩) N c L W
  iv : TInv L
  om : OwnM W mb k D
  mi : MpI D L
  ne : mb ≠ g ∧ mb ≠ th
  ge : w.heap.size ≤ mb
theorem MI.below {w W W2 : World} {th g N c mb k : Nat} {L : List Tk} {D : DataW Unit} (h : MI w th g N c mb k L D W) (hb : Below W.heap.size W W2) : MI w th g N c mb k L D W2 := ⟨h.tv.below hb, h.iv, h.om.below hb, h.mi, h.ne, h.ge⟩
theorem MI.mono {w W : World} {th g N c mb k k2 : Nat} {L : List Tk} {D : DataW Unit} (h : MI w th g N c mb k L D W) (hk : k ≤ k2) : MI w th g N c mb k2 L D W := ⟨h.tv, h.iv, World.ownsMap.mono h.om hk, h.mi, h.ne, h.ge⟩
theorem MI.iter {w W W2 : World} {th g N c mb k r : Nat} {L : List Tk} {D : DataW Unit} (h : MI w th g N c mb k L D W) (hg : Chg [r] W W2) (hr : r ≠ g ∧ r ≠ th ∧ r ≠ mb ∧ w.heap.size ≤ r) : MI w th g N c mb k L D W2 :=
  ⟨h.tv.chg hg (fun j hj hm => by simp [rowOf] at hj hm; exact hr.1 (hm ▸ hj)) (by simp; exact fun e => hr.2.1 e.symm) (fun j hj => by simp at hj; subst hj; exact hr.2.2.2), h.iv, h.om.chg hg (by simp; exact fun e => hr.2.2.1 e.symm), h.mi, h.ne, h.ge⟩
theorem MI.step {w W W2 : World} {th g N c mb k : Nat} {L M : List Tk} {D : DataW Unit} (h : MI w th g N c mb k L D W) (tv : TV w th (some ⟨g, 0, none⟩) N c M W2) (hc : Chg (rowOf (some (⟨g, 0, none⟩ : Addr))) W W2) : OwnM W2 mb k D ∧ mb < W2.heap.size := by
  have := h.om.chg hc (by simp [rowOf]; exact h.ne.1)
  exact ⟨this, World.ownsMap.lt this⟩
theorem MI.same {w W W2 : World} {th g N c mb k : Nat} {L M : List Tk} {D : DataW Unit} (h : MI w th g N c mb k L D W) (tv : TV w th (some ⟨g, 0, none⟩) N c M W2) (hc : Chg (rowOf (some (⟨g, 0, none⟩ : Addr))) W W2) (e : M = L) : MI w th g N c mb (k + 1) L D W2 :=
  ⟨e ▸ tv, h.iv, World.ownsMap.mono (h.step tv hc).1 (Nat.le_succ _), h.mi, h.ne, h.ge⟩
theorem MI.put {w W W2 W3 : World} {th g N c mb k j : Nat} {L : List Tk} {y : Tk} {v : Int} {D : DataW Unit} (h : MI w th g N c mb k L D W) (tv : TV w th (some ⟨g, 0, none⟩) N c (L.set j y) W2) (iv : TInv (L.set j y)) (hj : j < L.length) (hv : v = if y.s = 0 then 0 else 1)
    (om : OwnM W3 mb (k + 1) (D.put (.int .i64 ((j : Int) + 1)) (.lit (.int .i64 v)))) (hg : W2.grownBy W3 (some mb)) : MI w th g N c mb (k + 1) (L.set j y) (D.put (.int .i64 ((j : Int) + 1)) (.lit (.int .i64 v))) W3 :=
  ⟨tv.chg (grownChg hg) (fun i hi hm => by simp [rowOf] at hi hm; exact h.ne.1 (hm ▸ hi)) (by simp; exact fun e => h.ne.2 e.symm) (fun i hi => by simp at hi; subst hi; exact h.ge), iv, om, h.mi.put hj y v hv, h.ne, h.ge⟩
theorem MI.lt {w W : World} {th g N c mb k : Nat} {L : List Tk} {D : DataW Unit} (h : MI w th g N c mb k L D W) : g < W.heap.size ∧ th < W.heap.size ∧ mb < W.heap.size := ⟨(h.tv.t.row.rowGe g (by simp [rowOf])).2, World.block_lt_of_cell? W _ (h.tv.t.cs 0 _ rfl).1, World.ownsMap.lt h.om⟩
set_option maxRecDepth 100000 in
set_option maxHeartbeats 8000000 in
theorem Tonc.away (m : Int) (A : Option Addr) (n c : Nat) (w : World) (hn : 100 < n) : Calls Tryz.prog 8 #[.int .i64 m, .slice A n c] w (Ans (.bool true) w) := by
  have h2 : (100 : Int) < (n : Int) := by omega
  clear hn
  go_enter Tryz.func8, Tryz.ntmps8
  go_wp2_with fail
  refine (aw20a _).mono ?_
  rintro e w1 ⟨rfl, hb⟩
  have HB1 := hid hb
  clear hb
  go_wp2_with fail
  go_ret
  exact ⟨rfl, HB1.out⟩
set_option maxRecDepth 100000 in
set_option maxHeartbeats 32000000 in
theorem Tonc.core (m : Int) (A : Option Addr) (n c : Nat) (l : List Ac) (w : World) (hr : RdA w A n l) (hi : ∀ a ∈ l, a.In) (hn : n ≤ 100) : Calls Tryz.prog 8 #[.int .i64 m, .slice A n c] w (Ans (.bool true) w) := by
  have h2 : ¬ (100 : Int) < (n : Int) := by omega
  have HR := hid hr
  have HI := hid hi
  have HN := hid hn
  obtain ⟨N, hN⟩ : ∃ N : Nat, min (max m 0) 32 = (N : Int) := ⟨(min (max m 0) 32).toNat, by omega⟩
  have HNN := hid hN
  have hmm := @run_makeMap Tryz.prog
  clear hr hi hn hN
  go_enter Tryz.func8, Tryz.ntmps8
  go_wp2_with fail
  refine (aw20a _).mono ?_
  rintro e w1 ⟨rfl, hb⟩
  have HB1 := hid hb
  have HR1 := hid (HR.out.below hb)
  clear hb HR
  go_wp2_with fail
  refine (Tab.new m N HNN.out _).mono ?_
  rintro e w2 ⟨th, g0, rfl, ht, hb⟩
  have HT2 : Hid (TV w1 th (some ⟨g0, 0, none⟩) N N (List.replicate N Tk.zero) w2) := hid ⟨ht, hb⟩
  clear ht hb
  have HM2 : Hid (MI w1 th g0 N N w2.heap.size 0 (List.replicate N Tk.zero) (.map []) (w2.alloc (.map #[] 0))) := hid ⟨HT2.out.below ((Below.refl _ _).alloc (Nat.le_refl _) _), TInv.none N, World.ownsMap_made _ _ _ _, MpI.nil N, ⟨by have := (HT2.out.t.row.rowGe g0 (by simp [rowOf])).2; omega, by have : th < w2.heap.size := World.block_lt_of_cell? w2 _ (HT2.out.t.cs 0 _ rfl).1; omega⟩, HT2.out.b.size⟩
  go_upto_region 7 with fail
  generalize (w2.alloc (.map #[] 0)) = w3 at HM2 ⊢
  generalize w2.heap.size = mb at HM2 ⊢
  clear hmm
  go_wp2_with fail
  go_loopg [25] n (fun s i wr => ∃ k : Nat, i = .int .i64 k ∧ k ≤ n ∧ s = n - k ∧ ∃ L D, MI w1 th g0 N N mb k L D wr)
  case atStart => exact ⟨0, rfl, Nat.zero_le _, by omega, _, _, HM2.out⟩
  case round =>
    obtain ⟨k, rfl, hk, hs, L, D, hm⟩ := hrel
    have HS := hid hs
    have HM := hid hm
    have HK := hid hk
    clear hs hm hk
    by_cases hkn : k < n
    · obtain ⟨bb, off, hA, _, hc⟩ := (HR1.out.below HM.out.tv.b).2 (by omega)
      obtain ⟨a0, a1, a2, a3, a4, a5, a6⟩ := Ac.of _ (hc k hkn)
      have HP : Hid ((l.getD k Ac.zero).In) := hid (by
        have hkl : k < l.length := by have := HR1.out.1; omega
        have e : l.getD k Ac.zero = l[k] := by simp [List.getD, hkl]
        rw [e]; exact HI.out _ (List.getElem_mem hkl))
      generalize (l.getD k Ac.zero) = pa at *
      obtain ⟨d, x⟩ := pa
      dsimp only at a0 a1 a2 a3 a4 a5 a6 HP
      subst hA
      have hki : (k : Int) < n := by omega
      have hk0 : (0 : Int) ≤ k := by omega
      clear hc
      have hal := (Below.refl wr.heap.size wr).alloc (Nat.le_refl _) (.cells #[.int .u8 d, .int .i64 x.i, .int .u8 x.s, .int .i64 x.c, .int .u32 x.w, .int .u64 x.n, .int .i64 x.l] 62)
      have HAC : Hid (Cs (wr.alloc (.cells #[.int .u8 d, .int .i64 x.i, .int .u8 x.s, .int .i64 x.c, .int .u32 x.w, .int .u64 x.n, .int .i64 x.l] 62)) wr.heap.size (Ac.cells ⟨d, x⟩)) := hid (Ac.new wr 62 ⟨d, x⟩)
      have HM3 := hid (HM.out.below hal)
      have HNG : Hid (wr.heap.size ∉ rowOf (some (⟨g0, 0, none⟩ : Addr)) ∧ wr.heap.size ≠ mb) := hid ⟨HM.out.tv.notin (Nat.le_refl _), by have := World.ownsMap.lt HM.out.om; omega⟩
      clear hal
      go_upto_region 10 with fail
      generalize (wr.alloc (.cells #[.int .u8 d, .int .i64 x.i, .int .u8 x.s, .int .i64 x.c, .int .u32 x.w, .int .u64 x.n, .int .i64 x.l] 62)) = W3 at HAC HM3 ⊢
      clear a0 a1 a2 a3 a4 a5 a6
      generalize wr.heap.size = ga at HAC HNG ⊢
      obtain ⟨a0, a1, a2, a3, a4, a5, a6⟩ := Ac.at _ HAC.out
      dsimp only at a0 a1 a2 a3 a4 a5 a6
      go_wp2_with fail
      · refine (Tab.addV HM3.out.tv x).mono ?_
        have hac := add_case L x
        rcases hac with ⟨he, j, hj, hi, hs, hxs, hl⟩ | ⟨he, hl⟩
        · rw [he, hi, hl]
          rintro e w4 ⟨rfl, h4, hc4⟩
          have HT4 := hid h4
          have HO4 := hid (HM3.out.step h4 hc4)
          have hown := HO4.out.1
          have hcj : cntI L ((j : Int) + 1) = 0 := by rw [cntI_at hj, if_pos hs]
          have hjn : (j : Int) + 1 ≤ 32 := by have h5 := HM3.out.tv.t.len; have h6 := HM3.out.tv.t.le; omega
          have hkey : keyOf Tryz.prog 3 (.int .i64 ((j : Int) + 1)) = some (.int .i64 ((j : Int) + 1)) := keyOf_int_mk Tryz.underlying3 (WalkArith.wf_i64 (by omega))
          have HIV := hid (hl ▸ HM3.out.iv.add x)
          have HXS := hid hxs
          have HJ := hid hj
          have HNN2 := HN.out
          clear h4 hc4 a0 a1 a2 a3 a4 a5 a6 he hi hs hxs hl hj
          go_upto_region 16 with (first
            | (at_lookup; refine wpList_lookup_own_int _ rfl _ _ 75 rfl 3 3 .i64 lawIM Tryz.underlying75 Tryz.underlying3 (zeroIM _) mb k _ rfl hown _ _ rfl hkey ?_; intro cv hat hwc; (have hcv : cv = 0 := (MpI.val HM3.out.mi hat).trans hcj); (clear hat hwc))
            | (at_mapUpdate; refine wpList_mapUpdate_own _ rfl _ _ _ 75 rfl 3 3 lawIM Tryz.underlying75 _ mb k _ rfl hown (by unfold maxLen; omega) _ _ _ rfl rfl hkey _ [] (plainElem_int Tryz.underlying3 (by decide)) ?_; intro w6 hown6 hgrow6)
            | fail)
          have HM6 := hid (HM3.out.put HT4.out HIV.out HJ.out (by simp [HXS.out]) hown6 hgrow6)
          clear hown6 hgrow6 hown hkey hcj hjn
          obtain ⟨M, E, hme⟩ : ∃ M E, MI w1 th g0 N N mb (k + 1) M E w6 := ⟨_, _, HM6.out⟩
          have HM66 := hid hme
          clear hme
          have HLT6 := hid HM66.out.lt
          go_wp2_with (first | (at_range; refine wpList_range_own _ rfl _ 75 rfl 3 3 lawIM Tryz.underlying75 _ mb (k + 1) E rfl HM66.out.om ?_; intro w7 hrg7 hg7 hs7) | fail)
          have HRG7 := hid (show RngM w7 mb w6.heap.size (k + 1) E _ _ from hrg7)
          have HM7 := hid (HM66.out.below (grownBel hg7))
          have HRN : Hid (w6.heap.size ≠ g0 ∧ w6.heap.size ≠ th ∧ w6.heap.size ≠ mb ∧ w1.heap.size ≤ w6.heap.size) := hid (by have := HLT6.out; exact ⟨by omega, by omega, by omega, HM66.out.tv.b.size⟩)
          clear hrg7 hg7 hs7
          generalize w6.heap.size = rb at HRG7 HRN ⊢
          go_wp2_with fail
          go_frame
          go_loopg [60] (Maps.size E) (fun s a60 wr => a60 = a60 ∧ ∃ left, RngM wr mb rb (k + 1) E left s ∧ MI w1 th g0 N N mb (k + 1) M E wr)
          case atStart => exact ⟨rfl, _, HRG7.out, HM7.out⟩
          case round =>
            obtain ⟨_, left, hrg, hm⟩ := hrel
            have HRG := hid hrg
            have HMR := hid hm
            clear hm
            go_wp2_with (first | (at_next; refine wpList_next_ranges_ii _ rfl _ rfl 3 3 .i64 .i64 lawIM Tryz.underlying3 Tryz.underlying3 mb rb (k + 1) _ _ _ rfl hrg ?_ ?_) | fail)
            · intro _ _
              clear hrg
              go_wp2_with fail
              go_roundg (n - (k + 1))
              case measure => have := HS.out; omega
              case rel => exact ⟨k + 1, by go_num, by omega, rfl, _, _, HMR.out⟩
            · intro z cz w8 cnt8 hwx hwc hlx hat hrg8 hlt8 hg8 hs8 hen
              have HRG8 := hid (show RngM w8 mb rb (k + 1) E _ cnt8 from hrg8)
              have HM8 := hid (HMR.out.iter (grownChg hg8) HRN.out)
              have HLT8 := hid hlt8
              have HCZ := hid (MpI.val HMR.out.mi (hat _))
              clear hrg hwx hwc hlx hat hrg8 hlt8 hg8 hs8
              go_wp2_with fail
              refine (Tab.taskV HM8.out.tv.t z).mono ?_
              generalize taskX M z = tz
              have hcase := cntI_cases M z
              rw [← HCZ.out] at hcase
              rcases hcase with ⟨h1, h2'⟩ | ⟨h1, h2'⟩
              all_goals
                rw [h2']
                subst h1
                rintro e w9 ⟨rfl, hb⟩
                have hal := hb.trans (((Below.refl w9.heap.size w9).alloc (Nat.le_refl _) (.cells #[.int .i64 tz.i, .int .u8 tz.s, .int .i64 tz.c, .int .u32 tz.w, .int .u64 tz.n, .int .i64 tz.l] 60)).mono hb.size)
                have HM9 := hid (HM8.out.below hal)
                have HRG9 := hid (HRG8.out.below hal)
                clear hb hal h2' hen
                go_wp2_with fail
                go_roundg cnt8
                case measure => exact HLT8.out
                case rel => exact ⟨trivial, _, HRG9.out, HM9.out⟩
        · rw [hl]
          generalize addE L x = e9 at he ⊢
          generalize addI L x = i9
          have he2 : (e9 == 0) = false := by simpa using he
          rintro e w4 ⟨rfl, h4, hc4⟩
          have HM6 := hid (HM3.out.same h4 hc4 rfl)
          clear h4 hc4 a0 a1 a2 a3 a4 a5 a6 he hl
          go_upto_region 16 with fail
          clear he2
          obtain ⟨M, E, hme⟩ : ∃ M E, MI w1 th g0 N N mb (k + 1) M E w4 := ⟨_, _, HM6.out⟩
          have HM66 := hid hme
          clear hme
          have HLT6 := hid HM66.out.lt
          go_wp2_with (first | (at_range; refine wpList_range_own _ rfl _ 75 rfl 3 3 lawIM Tryz.underlying75 _ mb (k + 1) E rfl HM66.out.om ?_; intro w7 hrg7 hg7 hs7) | fail)
          have HRG7 := hid (show RngM w7 mb w4.heap.size (k + 1) E _ _ from hrg7)
          have HM7 := hid (HM66.out.below (grownBel hg7))
          have HRN : Hid (w4.heap.size ≠ g0 ∧ w4.heap.size ≠ th ∧ w4.heap.size ≠ mb ∧ w1.heap.size ≤ w4.heap.size) := hid (by have := HLT6.out; exact ⟨by omega, by omega, by omega, HM66.out.tv.b.size⟩)
          clear hrg7 hg7 hs7
          generalize w4.heap.size = rb at HRG7 HRN ⊢
          go_wp2_with fail
          go_frame
          go_loopg [60] (Maps.size E) (fun s a60 wr => a60 = a60 ∧ ∃ left, RngM wr mb rb (k + 1) E left s ∧ MI w1 th g0 N N mb (k + 1) M E wr)
          case atStart => exact ⟨rfl, _, HRG7.out, HM7.out⟩
          case round =>
            obtain ⟨_, left, hrg, hm⟩ := hrel
            have HRG := hid hrg
            have HMR := hid hm
            clear hm
            go_wp2_with (first | (at_next; refine wpList_next_ranges_ii _ rfl _ rfl 3 3 .i64 .i64 lawIM Tryz.underlying3 Tryz.underlying3 mb rb (k + 1) _ _ _ rfl hrg ?_ ?_) | fail)
            · intro _ _
              clear hrg
              go_wp2_with fail
              go_roundg (n - (k + 1))
              case measure => have := HS.out; omega
              case rel => exact ⟨k + 1, by go_num, by omega, rfl, _, _, HMR.out⟩
            · intro z cz w8 cnt8 hwx hwc hlx hat hrg8 hlt8 hg8 hs8 hen
              have HRG8 := hid (show RngM w8 mb rb (k + 1) E _ cnt8 from hrg8)
              have HM8 := hid (HMR.out.iter (grownChg hg8) HRN.out)
              have HLT8 := hid hlt8
              have HCZ := hid (MpI.val HMR.out.mi (hat _))
              clear hrg hwx hwc hlx hat hrg8 hlt8 hg8 hs8
              go_wp2_with fail
              refine (Tab.taskV HM8.out.tv.t z).mono ?_
              generalize taskX M z = tz
              have hcase := cntI_cases M z
              rw [← HCZ.out] at hcase
              rcases hcase with ⟨h1, h2'⟩ | ⟨h1, h2'⟩
              all_goals
                rw [h2']
                subst h1
                rintro e w9 ⟨rfl, hb⟩
                have hal := hb.trans (((Below.refl w9.heap.size w9).alloc (Nat.le_refl _) (.cells #[.int .i64 tz.i, .int .u8 tz.s, .int .i64 tz.c, .int .u32 tz.w, .int .u64 tz.n, .int .i64 tz.l] 60)).mono hb.size)
                have HM9 := hid (HM8.out.below hal)
                have HRG9 := hid (HRG8.out.below hal)
                clear hb hal h2' hen
                go_wp2_with fail
                go_roundg cnt8
                case measure => exact HLT8.out
                case rel => exact ⟨trivial, _, HRG9.out, HM9.out⟩
      · refine (Tab.dropV HM3.out.tv x.i).mono ?_
        have hac := drop_case L x.i
        rcases hac with ⟨he, j, hj, hi, hs, hl⟩ | ⟨he, hl⟩
        · rw [he, hl]
          rintro e w4 ⟨rfl, h4, hc4⟩
          have HT4 := hid h4
          have HO4 := hid (HM3.out.step h4 hc4)
          have hown := HO4.out.1
          have HAC4 := hid (HAC.out.chg hc4 HNG.out.1)
          have hcj : cntI L x.i = 1 := by rw [hi, cntI_at hj, if_neg hs]
          have hkey : keyOf Tryz.prog 3 (.int .i64 x.i) = some (.int .i64 x.i) := keyOf_int_mk Tryz.underlying3 HP.out.2.1
          have HIV := hid (hl ▸ HM3.out.iv.drop x.i)
          have HJ := hid hj
          have HXI := hid hi
          have HNN2 := HN.out
          clear h4 hc4 a0 a1 a2 a3 a4 a5 a6 he hi hs hl hj
          obtain ⟨a0, a1, a2, a3, a4, a5, a6⟩ := Ac.at _ HAC4.out
          dsimp only at a0 a1 a2 a3 a4 a5 a6
          go_upto_region 16 with (first
            | (at_lookup; refine wpList_lookup_own_int _ rfl _ _ 75 rfl 3 3 .i64 lawIM Tryz.underlying75 Tryz.underlying3 (zeroIM _) mb k _ rfl hown _ _ rfl hkey ?_; intro cv hat hwc; (have hcv : cv = 1 := (MpI.val HM3.out.mi hat).trans hcj); (clear hat hwc))
            | (at_mapUpdate; refine wpList_mapUpdate_own _ rfl _ _ _ 75 rfl 3 3 lawIM Tryz.underlying75 _ mb k _ rfl hown (by unfold maxLen; omega) _ _ _ rfl rfl hkey _ [] (plainElem_int Tryz.underlying3 (by decide)) ?_; intro w6 hown6 hgrow6)
            | fail)
          rw [HXI.out] at hown6
          have HM6 := hid (HM3.out.put HT4.out HIV.out HJ.out (by simp) hown6 hgrow6)
          clear hown6 hgrow6 hown hkey hcj a0 a1 a2 a3 a4 a5 a6
          obtain ⟨M, E, hme⟩ : ∃ M E, MI w1 th g0 N N mb (k + 1) M E w6 := ⟨_, _, HM6.out⟩
          have HM66 := hid hme
          clear hme
          have HLT6 := hid HM66.out.lt
          go_wp2_with (first | (at_range; refine wpList_range_own _ rfl _ 75 rfl 3 3 lawIM Tryz.underlying75 _ mb (k + 1) E rfl HM66.out.om ?_; intro w7 hrg7 hg7 hs7) | fail)
          have HRG7 := hid (show RngM w7 mb w6.heap.size (k + 1) E _ _ from hrg7)
          have HM7 := hid (HM66.out.below (grownBel hg7))
          have HRN : Hid (w6.heap.size ≠ g0 ∧ w6.heap.size ≠ th ∧ w6.heap.size ≠ mb ∧ w1.heap.size ≤ w6.heap.size) := hid (by have := HLT6.out; exact ⟨by omega, by omega, by omega, HM66.out.tv.b.size⟩)
          clear hrg7 hg7 hs7
          generalize w6.heap.size = rb at HRG7 HRN ⊢
          go_wp2_with fail
          go_frame
          go_loopg [60] (Maps.size E) (fun s a60 wr => a60 = a60 ∧ ∃ left, RngM wr mb rb (k + 1) E left s ∧ MI w1 th g0 N N mb (k + 1) M E wr)
          case atStart => exact ⟨rfl, _, HRG7.out, HM7.out⟩
          case round =>
            obtain ⟨_, left, hrg, hm⟩ := hrel
            have HRG := hid hrg
            have HMR := hid hm
            clear hm
            go_wp2_with (first | (at_next; refine wpList_next_ranges_ii _ rfl _ rfl 3 3 .i64 .i64 lawIM Tryz.underlying3 Tryz.underlying3 mb rb (k + 1) _ _ _ rfl hrg ?_ ?_) | fail)
            · intro _ _
              clear hrg
              go_wp2_with fail
              go_roundg (n - (k + 1))
              case measure => have := HS.out; omega
              case rel => exact ⟨k + 1, by go_num, by omega, rfl, _, _, HMR.out⟩
            · intro z cz w8 cnt8 hwx hwc hlx hat hrg8 hlt8 hg8 hs8 hen
              have HRG8 := hid (show RngM w8 mb rb (k + 1) E _ cnt8 from hrg8)
              have HM8 := hid (HMR.out.iter (grownChg hg8) HRN.out)
              have HLT8 := hid hlt8
              have HCZ := hid (MpI.val HMR.out.mi (hat _))
              clear hrg hwx hwc hlx hat hrg8 hlt8 hg8 hs8
              go_wp2_with fail
              refine (Tab.taskV HM8.out.tv.t z).mono ?_
              generalize taskX M z = tz
              have hcase := cntI_cases M z
              rw [← HCZ.out] at hcase
              rcases hcase with ⟨h1, h2'⟩ | ⟨h1, h2'⟩
              all_goals
                rw [h2']
                subst h1
                rintro e w9 ⟨rfl, hb⟩
                have hal := hb.trans (((Below.refl w9.heap.size w9).alloc (Nat.le_refl _) (.cells #[.int .i64 tz.i, .int .u8 tz.s, .int .i64 tz.c, .int .u32 tz.w, .int .u64 tz.n, .int .i64 tz.l] 60)).mono hb.size)
                have HM9 := hid (HM8.out.below hal)
                have HRG9 := hid (HRG8.out.below hal)
                clear hb hal h2' hen
                go_wp2_with fail
                go_roundg cnt8
                case measure => exact HLT8.out
                case rel => exact ⟨trivial, _, HRG9.out, HM9.out⟩
        · rw [hl]
          generalize dropE L x.i = e9 at he ⊢
          have he2 : (e9 == 0) = false := by simpa using he
          rintro e w4 ⟨rfl, h4, hc4⟩
          have HM6 := hid (HM3.out.same h4 hc4 rfl)
          clear h4 hc4 a0 a1 a2 a3 a4 a5 a6 he hl
          go_upto_region 16 with fail
          clear he2
          obtain ⟨M, E, hme⟩ : ∃ M E, MI w1 th g0 N N mb (k + 1) M E w4 := ⟨_, _, HM6.out⟩
          have HM66 := hid hme
          clear hme
          have HLT6 := hid HM66.out.lt
          go_wp2_with (first | (at_range; refine wpList_range_own _ rfl _ 75 rfl 3 3 lawIM Tryz.underlying75 _ mb (k + 1) E rfl HM66.out.om ?_; intro w7 hrg7 hg7 hs7) | fail)
          have HRG7 := hid (show RngM w7 mb w4.heap.size (k + 1) E _ _ from hrg7)
          have HM7 := hid (HM66.out.below (grownBel hg7))
          have HRN : Hid (w4.heap.size ≠ g0 ∧ w4.heap.size ≠ th ∧ w4.heap.size ≠ mb ∧ w1.heap.size ≤ w4.heap.size) := hid (by have := HLT6.out; exact ⟨by omega, by omega, by omega, HM66.out.tv.b.size⟩)
          clear hrg7 hg7 hs7
          generalize w4.heap.size = rb at HRG7 HRN ⊢
          go_wp2_with fail
          go_frame
          go_loopg [60] (Maps.size E) (fun s a60 wr => a60 = a60 ∧ ∃ left, RngM wr mb rb (k + 1) E left s ∧ MI w1 th g0 N N mb (k + 1) M E wr)
          case atStart => exact ⟨rfl, _, HRG7.out, HM7.out⟩
          case round =>
            obtain ⟨_, left, hrg, hm⟩ := hrel
            have HRG := hid hrg
            have HMR := hid hm
            clear hm
            go_wp2_with (first | (at_next; refine wpList_next_ranges_ii _ rfl _ rfl 3 3 .i64 .i64 lawIM Tryz.underlying3 Tryz.underlying3 mb rb (k + 1) _ _ _ rfl hrg ?_ ?_) | fail)
            · intro _ _
              clear hrg
              go_wp2_with fail
              go_roundg (n - (k + 1))
              case measure => have := HS.out; omega
              case rel => exact ⟨k + 1, by go_num, by omega, rfl, _, _, HMR.out⟩
            · intro z cz w8 cnt8 hwx hwc hlx hat hrg8 hlt8 hg8 hs8 hen
              have HRG8 := hid (show RngM w8 mb rb (k + 1) E _ cnt8 from hrg8)
              have HM8 := hid (HMR.out.iter (grownChg hg8) HRN.out)
              have HLT8 := hid hlt8
              have HCZ := hid (MpI.val HMR.out.mi (hat _))
              clear hrg hwx hwc hlx hat hrg8 hlt8 hg8 hs8
              go_wp2_with fail
              refine (Tab.taskV HM8.out.tv.t z).mono ?_
              generalize taskX M z = tz
              have hcase := cntI_cases M z
              rw [← HCZ.out] at hcase
              rcases hcase with ⟨h1, h2'⟩ | ⟨h1, h2'⟩
              all_goals
                rw [h2']
                subst h1
                rintro e w9 ⟨rfl, hb⟩
                have hal := hb.trans (((Below.refl w9.heap.size w9).alloc (Nat.le_refl _) (.cells #[.int .i64 tz.i, .int .u8 tz.s, .int .i64 tz.c, .int .u32 tz.w, .int .u64 tz.n, .int .i64 tz.l] 60)).mono hb.size)
                have HM9 := hid (HM8.out.below hal)
                have HRG9 := hid (HRG8.out.below hal)
                clear hb hal h2' hen
                go_wp2_with fail
                go_roundg cnt8
                case measure => exact HLT8.out
                case rel => exact ⟨trivial, _, HRG9.out, HM9.out⟩
    · have hki : ¬ (k : Int) < n := by omega
      have HT := hid HM.out.tv.t
      have HL32 : Hid (L.length = N ∧ N ≤ 32) := hid ⟨HM.out.tv.t.len, HM.out.tv.t.le⟩
      have HI3 := hid (ids_three HM.out.iv)
      obtain ⟨D0, hD0⟩ : ∃ D0, L.filter keep = D0 := ⟨_, rfl⟩
      have HDD := hid hD0
      have HDL : Hid (D0.length ≤ 32) := hid (by have h1 := List.length_filter_le keep L; have := HL32.out; rw [hD0] at h1; omega)
      rw [hD0] at HI3
      clear hD0
      have HB3 := hid (Below.refl wr.heap.size wr)
      go_wp2_with fail
      refine (Tab.states _ th g0 N N L _ 1 1 [1] _ ((HT.out.below HB3.out).below ((Below.refl wr.heap.size wr).alloc (Nat.le_refl _) (.cells #[.int .u8 1] 5))) (RdU.one wr 5 1) (by decide)).mono ?_
      rw [HDD.out]
      rintro e w4 ⟨A4, k4, d4, rfl, ho, hb⟩
      have HB4 := hid (below_on HB3.out (((Below.refl wr.heap.size wr).alloc (Nat.le_refl _) (.cells #[.int .u8 1] 5)).trans (hb.mono (by simp))))
      have HK4 := hid ho.len
      clear ho hb
      go_wp2_with fail
      refine (Tab.states _ th g0 N N L _ 1 1 [2] _ ((HT.out.below HB4.out).below ((Below.refl w4.heap.size w4).alloc (Nat.le_refl _) (.cells #[.int .u8 2] 5))) (RdU.one w4 5 2) (by decide)).mono ?_
      rw [HDD.out]
      rintro e w5 ⟨A5, k5, d5, rfl, ho, hb⟩
      have HB5 := hid (below_on HB4.out (((Below.refl w4.heap.size w4).alloc (Nat.le_refl _) (.cells #[.int .u8 2] 5)).trans (hb.mono (by simp))))
      have HK5 := hid ho.len
      clear ho hb
      go_wp2_with fail
      refine (Tab.states _ th g0 N N L _ 1 1 [3] _ ((HT.out.below HB5.out).below ((Below.refl w5.heap.size w5).alloc (Nat.le_refl _) (.cells #[.int .u8 3] 5))) (RdU.one w5 5 3) (by decide)).mono ?_
      rw [HDD.out]
      rintro e w6 ⟨A6, k6, d6, rfl, ho, hb⟩
      have HB6 := hid (below_on HB5.out (((Below.refl w5.heap.size w5).alloc (Nat.le_refl _) (.cells #[.int .u8 3] 5)).trans (hb.mono (by simp))))
      have HK6 := hid ho.len
      clear ho hb
      go_wp2_with fail
      refine (Tab.tasks _ th g0 N N L _ (HT.out.below HB6.out)).mono ?_
      rw [HDD.out]
      rintro e w7 ⟨g7, m7, c7, rfl, ho, hb, _⟩
      have HB7 := hid (below_on HB6.out hb)
      have HK7 := hid (ho.len Tk.len (by decide))
      clear ho hb
      have e1 : wrap64 ((k4 : Int) + k5) = k4 + k5 := by have h1 := HI3.out.1; have h2 := HDL.out; have h4 := HK4.out; have h5 := HK5.out; have h6 := HK6.out; unfold wrap64; omega
      have e2 : wrap64 ((k4 : Int) + k5 + k6) = k4 + k5 + k6 := by have h1 := HI3.out.1; have h2 := HDL.out; have h4 := HK4.out; have h5 := HK5.out; have h6 := HK6.out; unfold wrap64; omega
      have e3 : ((k4 : Int) + k5 + k6 == m7) = true := by have h1 := HI3.out.1; have h4 := HK4.out; have h5 := HK5.out; have h6 := HK6.out; have h7 := HK7.out; simp; omega
      go_wp2_with fail
      refine (Tab.states _ th g0 N N L _ 1 1 [0] _ ((HT.out.below HB7.out).below ((Below.refl w7.heap.size w7).alloc (Nat.le_refl _) (.cells #[.int .u8 0] 5))) (RdU.one w7 5 0) (by decide)).mono ?_
      rw [HDD.out]
      rintro e w8 ⟨A8, k8, d8, rfl, ho, hb⟩
      have HB8 := hid (below_on HB7.out (((Below.refl w7.heap.size w7).alloc (Nat.le_refl _) (.cells #[.int .u8 0] 5)).trans (hb.mono (by simp))))
      obtain rfl : k8 = 0 := by have h1 := ho.len; have h2 := HI3.out.2; omega
      clear ho hb
      go_wp2_with fail
      refine (Tab.states _ th g0 N N L none 0 0 [] _ (HT.out.below HB8.out) (RdU.nought _) (by decide)).mono ?_
      rw [HDD.out]
      rintro e w9 ⟨A9, k9, d9, rfl, ho, hb⟩
      have HB9 := hid (below_on HB8.out hb)
      obtain rfl : k9 = 0 := by have h1 := ho.len; have h2 := ids_none D0; omega
      clear ho hb
      go_wp2_with fail
      go_ret
      exact ⟨rfl, below_on HB1.out (below_on HM.out.tv.b HB9.out)⟩
theorem Tonc.law (m : Int) (A : Option Addr) (n c : Nat) (l : List Ac) (w : World) (_ : (Lit.int .i64 m).wf = true) (h1 : (RdA w A n l ∧ ∀ x ∈ l, x.In) ∧ n ≤ 9223372036854775807) (_ : Tab10 w.heap.size w) : Calls Tryz.prog 8 #[.int .i64 m, .slice A n c] w (Ans (.bool true) w) := by
  by_cases hn : n ≤ 100
  · exact Tonc.core m A n c l w h1.1.1 h1.1.2 hn
  · exact Tonc.away m A n c w (by omega)
end Go.Proofs.YtegohmeapamoaaaGreatDoor

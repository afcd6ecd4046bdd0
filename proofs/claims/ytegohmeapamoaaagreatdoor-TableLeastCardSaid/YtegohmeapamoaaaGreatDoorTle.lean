/- TableLeast: the walk. -/
import Derived.Test.YtegohmeapamoaaaGreatDoorTkG
import Derived.Test.YtegohmeapamoaaaGreatDoorTableLeastZ42
import Derived.Test.YtegohmeapamoaaaGreatDoorTxt
namespace Go.Proofs.YtegohmeapamoaaaGreatDoor
open Go.RowKit
set_option maxRecDepth 100000 in
set_option maxHeartbeats 8000000 in
theorem Tle.away (m : Int) (A : Option Addr) (n c : Nat) (w : World) (hn : 100 < n) : Calls Tryz.prog 10 #[.int .i64 m, .slice A n c] w (Ans (.bool true) w) := by
  have h2 : (100 : Int) < (n : Int) := by omega
  clear hn
  go_enter Tryz.func10, Tryz.ntmps10
  go_wp2_with fail
  refine (aw20a _).mono ?_
  rintro e w1 ⟨rfl, hb⟩
  have HB1 := hid hb
  clear hb
  go_wp2_with fail
  go_ret
  exact ⟨rfl, HB1.out⟩
set_option maxRecDepth 100000 in
set_option maxHeartbeats 8000000 in
theorem Tle.core (m : Int) (A : Option Addr) (n c : Nat) (l : List Ac) (w : World) (hr : RdA w A n l) (hi : ∀ a ∈ l, a.In) (hn : n ≤ 100) : Calls Tryz.prog 10 #[.int .i64 m, .slice A n c] w (Ans (.bool true) w) := by
  have h2 : ¬ (100 : Int) < (n : Int) := by omega
  have HR := hid hr
  have HI := hid hi
  have HN := hid hn
  obtain ⟨N, hN⟩ : ∃ N : Nat, min (max m 0) 32 = (N : Int) := ⟨(min (max m 0) 32).toNat, by omega⟩
  have HNN := hid hN
  have hN2 : max 0 (min m 32) = (N : Int) := by omega
  have HN2 := hid hN2
  clear hr hi hn hN hN2
  go_enter Tryz.func10, Tryz.ntmps10
  go_wp2_with fail
  refine (aw20a _).mono ?_
  rintro e w1 ⟨rfl, hb⟩
  have HB1 := hid hb
  have HR1 := hid (HR.out.below hb)
  clear hb HR
  go_wp2_with fail
  refine (Tab.new m N HNN.out _).mono ?_
  rintro e w2 ⟨th, g0, rfl, ht, hb⟩
  have HT2 : Hid (TV w1 th (some ⟨g0, 0, none⟩) N N (List.replicate N Tk.zero) w2) := hid ⟨ht, hb⟩
  clear ht hb
  go_wp2_with fail
  go_loopg [23] n (fun s i wr => ∃ k : Nat, i = .int .i64 k ∧ k ≤ n ∧ s = n - k ∧ ∃ L, TV w1 th (some ⟨g0, 0, none⟩) N N L wr)
  case atStart => exact ⟨0, rfl, Nat.zero_le _, by omega, _, HT2.out⟩
  case round =>
    obtain ⟨k, rfl, hk, hs, L, ht⟩ := hrel
    have HS := hid hs
    have HT := hid ht
    have HK := hid hk
    clear hs ht hk
    by_cases hkn : k < n
    · obtain ⟨bb, off, hA, _, hc⟩ := (HR1.out.below HT.out.b).2 (by omega)
      obtain ⟨a0, a1, a2, a3, a4, a5, a6⟩ := Ac.of _ (hc k hkn)
      have HP : Hid ((l.getD k Ac.zero).In) := hid (by
        have hkl : k < l.length := by have := HR1.out.1; omega
        have e : l.getD k Ac.zero = l[k] := by simp [List.getD, hkl]
        rw [e]; exact HI.out _ (List.getElem_mem hkl))
      generalize (l.getD k Ac.zero) = pa at *
      obtain ⟨d, x⟩ := pa
      dsimp only at a0 a1 a2 a3 a4 a5 a6 HP
      subst hA
      have hki : (k : Int) < n := by omega
      have hk0 : (0 : Int) ≤ k := by omega
      clear hc
      have hal := (Below.refl wr.heap.size wr).alloc (Nat.le_refl _) (.cells #[.int .u8 d, .int .i64 x.i, .int .u8 x.s, .int .i64 x.c, .int .u32 x.w, .int .u64 x.n, .int .i64 x.l] 62)
      have HAC : Hid (Cs (wr.alloc (.cells #[.int .u8 d, .int .i64 x.i, .int .u8 x.s, .int .i64 x.c, .int .u32 x.w, .int .u64 x.n, .int .i64 x.l] 62)) wr.heap.size (Ac.cells ⟨d, x⟩)) := hid (Ac.new wr 62 ⟨d, x⟩)
      have HT3 := hid (HT.out.below hal)
      have HTO := hid HT.out
      clear hal
      go_upto_region 9 with fail
      generalize (wr.alloc (.cells #[.int .u8 d, .int .i64 x.i, .int .u8 x.s, .int .i64 x.c, .int .u32 x.w, .int .u64 x.n, .int .i64 x.l] 62)) = W3 at HAC HT3 ⊢
      clear a0 a1 a2 a3 a4 a5 a6
      generalize hga : wr.heap.size = ga at HAC ⊢
      have HGA := hid (Nat.le_of_eq hga)
      clear hga
      obtain ⟨a0, a1, a2, a3, a4, a5, a6⟩ := Ac.at _ HAC.out
      dsimp only at a0 a1 a2 a3 a4 a5 a6
      go_wp2_with fail
      · refine (Tab.dropV HT3.out x.i).mono ?_
        rintro e w4 ⟨rfl, h4, _⟩
        have HT4 := hid h4
        clear h4 a0 a1 a2 a3 a4 a5 a6
        go_wp2_with fail
        go_roundg (n - (k + 1))
        case measure => have := HS.out; omega
        case rel => exact ⟨k + 1, by go_num, by omega, rfl, _, HT4.out⟩
      · clear a0 a1 a2 a3 a4 a5 a6
        have HLN : Hid (L.length = N) := hid HT3.out.t.len
        have HNle := hid HT3.out.t.le
        have hNle : (N : Int) ≤ 32 := by have := HNle.out; omega
        go_loopg [8, 9] N (fun s a8 a9 wx => ∃ q : Nat, a8 = .int .i64 (lf L q) ∧ a9 = .int .i64 q ∧ q ≤ N ∧ s = q ∧ (TV w1 th (some ⟨g0, 0, none⟩) N N L wx ∧ Cs wx ga (Ac.cells ⟨d, x⟩)))
        case atStart => exact ⟨N, by rw [← HLN.out, lf_end], by rw [HN2.out], Nat.le_refl _, rfl, HT3.out, HAC.out⟩
        case round =>
          obtain ⟨q, rfl, rfl, hq, hsq, htq⟩ := hrel
          have HSQ := hid hsq
          have HTQ := hid htq
          have HQN := hid hq
          clear hsq htq hq
          by_cases hq0 : 1 ≤ q
          · obtain ⟨j, rfl⟩ : ∃ j, q = j + 1 := ⟨q - 1, by omega⟩
            have HJL : Hid (j < L.length) := hid (by have := HLN.out; have := HQN.out; omega)
            have hgt : (1 : Int) ≤ (j : Int) + 1 := by omega
            have HD : Hid (dropE L ((j : Int) + 1) = if (L.getD j Tk.zero).s = 0 then 4 else 0) := hid (by
              unfold dropE; rw [tfind_at HJL.out]; by_cases hz : (L.getD j Tk.zero).s = 0
              · rw [if_pos hz, if_pos hz]
              · rw [if_neg hz, if_neg hz])
            go_wp2_with fail
            refine (Tab.taskV HTQ.out.1.t _).mono ?_
            generalize taskX L _ = tz
            by_cases hz : (L.getD j Tk.zero).s = 0
            · rw [HD.out, if_pos hz]
              rintro e w5 ⟨rfl, hb⟩
              have HTQ5 := hid (And.intro (HTQ.out.1.below hb) (HTQ.out.2.below hb))
              have HLF : Hid (lf L j = (j : Int) + 1) := hid (by rw [lf_step HJL.out, if_pos hz])
              clear hb hz
              go_wp2_with fail
              go_roundg j
              case measure => have := HSQ.out; omega
              case rel =>
                have hal := (Below.refl w5.heap.size w5).alloc (Nat.le_refl _) (.cells #[.int .i64 tz.i, .int .u8 tz.s, .int .i64 tz.c, .int .u32 tz.w, .int .u64 tz.n, .int .i64 tz.l] 60)
                exact ⟨j, by rw [HLF.out], by have h1 := HJL.out; have h2 := HLN.out; have h3 := HNle.out; rw [show wrap64 (j : Int) = j by unfold wrap64; omega], by have := HQN.out; omega, rfl, HTQ5.out.1.below hal, HTQ5.out.2.below hal⟩
            · rw [HD.out, if_neg hz]
              rintro e w5 ⟨rfl, hb⟩
              have HTQ5 := hid (And.intro (HTQ.out.1.below hb) (HTQ.out.2.below hb))
              have HLF : Hid (lf L j = lf L (j + 1)) := hid (by rw [lf_step HJL.out, if_neg hz])
              clear hb hz
              go_wp2_with fail
              go_roundg j
              case measure => have := HSQ.out; omega
              case rel =>
                have hal := (Below.refl w5.heap.size w5).alloc (Nat.le_refl _) (.cells #[.int .i64 tz.i, .int .u8 tz.s, .int .i64 tz.c, .int .u32 tz.w, .int .u64 tz.n, .int .i64 tz.l] 60)
                exact ⟨j, by rw [HLF.out], by have h1 := HJL.out; have h2 := HLN.out; have h3 := HNle.out; rw [show wrap64 (j : Int) = j by unfold wrap64; omega], by have := HQN.out; omega, rfl, HTQ5.out.1.below hal, HTQ5.out.2.below hal⟩
          · obtain rfl : q = 0 := by omega
            obtain ⟨a0, a1, a2, a3, a4, a5, a6⟩ := Ac.at _ HTQ.out.2
            dsimp only at a0 a1 a2 a3 a4 a5 a6
            have xf := (HTQ.out.2 2 _ rfl).2
            go_upto_region 19 with fail
            obtain ⟨z, hz⟩ : ∃ z, (x.s.tmod 3 + 1) % 256 = z := ⟨_, rfl⟩
            have HZR : Hid (1 ≤ z ∧ z ≤ 3) := hid (by
              have h1 := HP.out.2.2.1
              rw [Int.tmod_eq_emod_of_nonneg (by exact h1.1)] at hz
              omega)
            rw [hz]
            clear hz a0 a1 a2 a3 a4 a5 a6 xf
            have HT6 := hid (TV.far HTO.out HTQ.out.1 HGA.out 2 (.int .u8 z))
            have HA6 : Hid (Cs (wr.setCell ⟨ga, 2, none⟩ (.int .u8 z)) ga (Ac.cells ⟨d, { x with s := z }⟩)) := hid (by have := HTQ.out.2.putAt 2 (by rw [Ac.len]; decide) (.int .u8 z); exact this)
            generalize (wr.setCell ⟨ga, 2, none⟩ (.int .u8 z)) = w6 at HT6 HA6 ⊢
            obtain ⟨a0, a1, a2, a3, a4, a5, a6⟩ := Ac.at _ HA6.out
            dsimp only at a0 a1 a2 a3 a4 a5 a6
            go_wp2_with fail
            refine (Tab.addV HT6.out { x with s := z }).mono ?_
            have hok : Tk.ok { x with s := z } = true := by have := HZR.out; simp only [Tk.ok, decide_eq_true_eq]; exact this
            rw [show addI L { x with s := z } = lf L 0 by simp [addI, hok], show addE L { x with s := z } = if lf L 0 = 0 then 7 else 0 by simp [addE, hok]]
            rintro e w7 ⟨rfl, h7, _⟩
            have HT7 : Hid (∃ M, TV w1 th (some ⟨g0, 0, none⟩) N N M w7) := hid ⟨_, h7⟩
            have hq3 : lf L 0 = 0 ∨ 1 ≤ lf L 0 := by
              rcases lf_spec L with ⟨h, _⟩ | ⟨j, _, h, _, _⟩
              · exact .inl h
              · exact .inr (by omega)
            clear h7 hok a0 a1 a2 a3 a4 a5 a6 HT6
            generalize lf L 0 = q at hq3 ⊢
            rcases hq3 with rfl | hq3
            · rw [if_pos rfl]
              go_wp2_with fail
              go_roundg (n - (k + 1))
              case measure => have := HS.out; omega
              case rel =>
                obtain ⟨M, hM⟩ := HT7.out
                exact ⟨k + 1, by go_num, by omega, rfl, M, hM⟩
            · rw [if_neg (by omega)]
              have hq4 : 0 < q := by omega
              go_wp2_with fail
              go_roundg (n - (k + 1))
              case measure => have := HS.out; omega
              case rel =>
                obtain ⟨M, hM⟩ := HT7.out
                exact ⟨k + 1, by go_num, by omega, rfl, M, hM⟩
    · have hki : ¬ (k : Int) < n := by omega
      go_wp2_with fail
      go_ret
      exact ⟨rfl, below_on HB1.out HT.out.b⟩
theorem Tle.law (m : Int) (A : Option Addr) (n c : Nat) (l : List Ac) (w : World) (_ : (Lit.int .i64 m).wf = true) (h1 : (RdA w A n l ∧ ∀ x ∈ l, x.In) ∧ n ≤ 9223372036854775807) (_ : Tab10 w.heap.size w) : Calls Tryz.prog 10 #[.int .i64 m, .slice A n c] w (Ans (.bool true) w) := by
  by_cases hn : n ≤ 100
  · exact Tle.core m A n c l w h1.1.1 h1.1.2 hn
  · exact Tle.away m A n c w (by omega)
end Go.Proofs.YtegohmeapamoaaaGreatDoor

/- TablePlays: the walk. -/
import Derived.Test.YtegohmeapamoaaaGreatDoorTablePlaysZ32
import Derived.Test.YtegohmeapamoaaaGreatDoorTablePlaysZ48
import Derived.Test.YtegohmeapamoaaaGreatDoorTxt
namespace Go.Proofs.YtegohmeapamoaaaGreatDoor
open Go.RowKit
/-- A table of one's own, and the variable of the document's. -/
structure PI (w : World) (gd N : Nat) (L D : List Tk) (th g c : Nat) (A : Option Addr) (k d : Nat) (W : World) : Prop where
  tv : TV w th (some ⟨g, 0, none⟩) N c L W
  iv : TInv L
  dv : Cs W gd [.slice A k d, .int .i64 N]
  rd : RdT W A k D
  ge : w.heap.size ≤ gd
  ne : gd ≠ g ∧ gd ≠ th
  ro : ∀ j ∈ rowOf A, j ≠ g ∧ j ≠ gd ∧ j < W.heap.size
theorem PI.below {w W W2 : World} {gd N : Nat} {L D : List Tk} {th g c : Nat} {A : Option Addr} {k d : Nat} (h : PI w gd N L D th g c A k d W) (hb : Below W.heap.size W W2) : PI w gd N L D th g c A k d W2 :=
  ⟨h.tv.below hb, h.iv, h.dv.below hb, h.rd.below hb, h.ge, h.ne, fun j hj => ⟨(h.ro j hj).1, (h.ro j hj).2.1, Nat.lt_of_lt_of_le (h.ro j hj).2.2 hb.size⟩⟩
theorem PI.step {w W W2 : World} {gd N : Nat} {L M D : List Tk} {th g c : Nat} {A : Option Addr} {k d : Nat} (h : PI w gd N L D th g c A k d W) (tv : TV w th (some ⟨g, 0, none⟩) N c M W2) (hc : Chg (rowOf (some ⟨g, 0, none⟩)) W W2) (iv : TInv M) : PI w gd N M D th g c A k d W2 :=
  ⟨tv, iv, h.dv.chg hc (by simp [rowOf]; exact h.ne.1), h.rd.chg hc (fun j hj => by simp [rowOf]; exact (h.ro j hj).1), h.ge, h.ne, fun j hj => ⟨(h.ro j hj).1, (h.ro j hj).2.1, Nat.lt_of_lt_of_le (h.ro j hj).2.2 hc.size⟩⟩
theorem PI.lt {w W : World} {gd N : Nat} {L D : List Tk} {th g c : Nat} {A : Option Addr} {k d : Nat} (h : PI w gd N L D th g c A k d W) : g < W.heap.size ∧ gd < W.heap.size := ⟨(h.tv.t.row.rowGe g (by simp [rowOf])).2, h.dv.lt⟩
theorem PI.put {w W W2 : World} {gd N : Nat} {L D E : List Tk} {th g c : Nat} {A B : Option Addr} {k d k2 d2 : Nat} (h : PI w gd N L D th g c A k d W) (hb : Below W.heap.size W W2) (rd : RdT W2 B k2 E) (ro : ∀ j ∈ rowOf B, j ∈ rowOf A ∨ (W.heap.size ≤ j ∧ j < W2.heap.size)) (W3 : World) (e : W3 = W2.setCells gd 0 [.slice B k2 d2, .int .i64 N]) : PI w gd N L E th g c B k2 d2 W3 := by
  have hlt := h.lt
  have hc : Chg [gd] W2 W3 := by rw [e]; exact Chg.setsG _ _ (Chg.refl _ _) (Or.inl (by simp))
  have hr : ∀ j ∈ rowOf B, j ≠ g ∧ j ≠ gd ∧ j < W2.heap.size := fun j hj => by
    rcases ro j hj with h1 | ⟨h1, h2⟩
    · exact ⟨(h.ro j h1).1, (h.ro j h1).2.1, Nat.lt_of_lt_of_le (h.ro j h1).2.2 hb.size⟩
    · exact ⟨by omega, by omega, h2⟩
  have h2 := h.below hb
  refine ⟨⟨h2.tv.t.chg hc (fun j hj hm => by simp [rowOf] at hj hm; exact h.ne.1 (hm ▸ hj)) (by simp; exact fun hh => h.ne.2 hh.symm), Below.chg h2.tv.b hc (fun j hj => by simp at hj; subst hj; exact h.ge)⟩, h.iv, ?_, rd.chg hc (fun j hj hm => by simp at hm; exact (hr j hj).2.1 hm), h.ge, h.ne, fun j hj => ⟨(hr j hj).1, (hr j hj).2.1, Nat.lt_of_lt_of_le (hr j hj).2.2 hc.size⟩⟩
  rw [e]
  have h3 := (h2.dv.putAt 0 (by simp) (.slice B k2 d2)).putAt 1 (by simp) (.int .i64 N)
  exact h3
theorem PI.there {w W : World} {gd N : Nat} {L D : List Tk} {th g c : Nat} {A : Option Addr} {k d : Nat} (h : PI w gd N L D th g c A k d W) : W.there gd 0 2 := fun j hj => by
  have := h.dv.thereL j (by simpa using hj)
  simpa using this
theorem PI.clone {w W W2 W3 : World} {gd N : Nat} {L M D : List Tk} {th g c tw gw cw : Nat} {A : Option Addr} {k d : Nat} (h : PI w gd N L D th g c A k d W) (ht : TAt W2 W.heap.size tw (some ⟨gw, 0, none⟩) N cw L) (hb : Below W.heap.size W W2) (h3 : PI w gd N M D th g c A k d W3) (hc : Chg (rowOf (some ⟨g, 0, none⟩)) W2 W3) : PI w gd N L D tw gw cw A k d W3 := by
  have hlt := h.lt
  have h1 := (ht.row.rowGe gw (by simp [rowOf])).1
  have h2 := ht.bs
  have hk : W.heap.size ≤ W2.heap.size := hb.size
  refine ⟨⟨?_, h3.tv.b⟩, h.iv, h3.dv, h3.rd, h3.ge, ⟨by omega, by omega⟩, fun j hj => ⟨fun hh => ?_, (h3.ro j hj).2.1, (h3.ro j hj).2.2⟩⟩
  · have ht3 := ht.chg hc (fun j hj hm => by simp [rowOf] at hj hm; omega) (by simp [rowOf]; omega)
    exact ⟨ht3.cs, ht3.row.mono h.tv.b.size, ht3.ne, ht3.le, Nat.le_trans h.tv.b.size ht3.bs⟩
  · have := (h.ro j hj).2.2
    omega
set_option maxRecDepth 100000 in
set_option maxHeartbeats 8000000 in
theorem Tpl.away (m : Int) (A : Option Addr) (n c : Nat) (w : World) (hn : 100 < n) : Calls Tryz.prog 7 #[.int .i64 m, .slice A n c] w (Ans (.bool true) w) := by
  have h2 : (100 : Int) < (n : Int) := by omega
  clear hn
  go_enter Tryz.func7, Tryz.ntmps7
  go_wp2_with fail
  refine (aw20a _).mono ?_
  rintro e w1 ⟨rfl, hb⟩
  have HB1 := hid hb
  clear hb
  go_wp2_with fail
  go_ret
  exact ⟨rfl, HB1.out⟩
set_option maxRecDepth 100000 in
set_option maxHeartbeats 32000000 in
theorem Tpl.core (m : Int) (A : Option Addr) (n c : Nat) (l : List Ac) (w : World) (hr : RdA w A n l) (hn : n ≤ 100) : Calls Tryz.prog 7 #[.int .i64 m, .slice A n c] w (Ans (.bool true) w) := by
  have h2 : ¬ (100 : Int) < (n : Int) := by omega
  have HR := hid hr
  have HN := hid hn
  obtain ⟨N, hN⟩ : ∃ N : Nat, min (max m 0) 32 = (N : Int) := ⟨(min (max m 0) 32).toNat, by omega⟩
  have HNN := hid hN
  have HN2 : Hid (max 0 (min m 32) = (N : Int)) := hid (by omega)
  clear hr hn hN
  go_enter Tryz.func7, Tryz.ntmps7
  go_wp2_with fail
  refine (aw20a _).mono ?_
  rintro e w1 ⟨rfl, hb⟩
  have HB1 := hid hb
  have HR1 := hid (HR.out.below hb)
  clear hb HR
  go_wp2_with fail
  refine (Tab.new m N HNN.out _).mono ?_
  rintro e w2 ⟨th0, g0, rfl, ht, hb⟩
  have HT2 : Hid (TV w1 th0 (some ⟨g0, 0, none⟩) N N (List.replicate N Tk.zero) w2) := hid ⟨ht, hb⟩
  clear ht hb
  go_wp2_with fail
  refine (Ref20.new m N HN2.out _).mono ?_
  rintro e w3 ⟨rfl, hb⟩
  have HT3 := hid (HT2.out.below hb)
  clear hb HT2
  have HPI : Hid (PI w1 w3.heap.size N (List.replicate N Tk.zero) [] th0 g0 N none 0 0 (w3.alloc (.cells #[.slice none 0 0, .int .i64 N] 56))) := hid ⟨HT3.out.below ((Below.refl _ _).alloc (Nat.le_refl _) _), TInv.none N, Cs.alloc_new w3 56 [.slice none 0 0, .int .i64 N], ⟨rfl, fun h => absurd h (by omega)⟩, HT3.out.b.size, ⟨by have := (HT3.out.t.row.rowGe g0 (by simp [rowOf])).2; omega, by have : th0 < w3.heap.size := World.block_lt_of_cell? w3 _ (HT3.out.t.cs 0 _ rfl).1; omega⟩, fun j hj => by simp [rowOf] at hj⟩
  have HKE : Hid ((List.replicate N Tk.zero).filter keep = []) := hid (by rw [List.filter_eq_nil_iff]; intro y hy; rw [List.eq_of_mem_replicate hy]; simp [keep])
  go_upto_region 6 with fail
  generalize (w3.alloc (.cells #[.slice none 0 0, .int .i64 N] 56)) = w4 at HPI ⊢
  generalize w3.heap.size = gd at HPI ⊢
  go_wp2_with fail
  go_loopg [5, 28] n (fun s a5 i wr => ∃ (k th g c : Nat) (B : Option Addr) (kb cb : Nat) (L : List Tk), a5 = .pointer (some ⟨th, 0, none⟩) ∧ i = .int .i64 k ∧ k ≤ n ∧ s = n - k ∧ PI w1 gd N L (L.filter keep) th g c B kb cb wr)
  case atStart => exact ⟨0, th0, g0, N, none, 0, 0, _, rfl, rfl, Nat.zero_le _, by omega, by rw [HKE.out]; exact HPI.out⟩
  case round =>
    obtain ⟨k, th, g, c, B, kb, cb, L, rfl, rfl, hk, hs, hp⟩ := hrel
    have HS := hid hs
    have HP := hid hp
    have HK := hid hk
    clear hs hp hk
    by_cases hkn : k < n
    · obtain ⟨bb, off, hA, _, hc⟩ := (HR1.out.below HP.out.tv.b).2 (by omega)
      obtain ⟨a0, a1, a2, a3, a4, a5, a6⟩ := Ac.of _ (hc k hkn)
      generalize (l.getD k Ac.zero) = pa at *
      obtain ⟨d, x⟩ := pa
      dsimp only at a0 a1 a2 a3 a4 a5 a6
      subst hA
      have hki : (k : Int) < n := by omega
      have hk0 : (0 : Int) ≤ k := by omega
      clear hc
      have hal := (Below.refl wr.heap.size wr).alloc (Nat.le_refl _) (.cells #[.int .u8 d, .int .i64 x.i, .int .u8 x.s, .int .i64 x.c, .int .u32 x.w, .int .u64 x.n, .int .i64 x.l] 62)
      have HAC : Hid (Cs (wr.alloc (.cells #[.int .u8 d, .int .i64 x.i, .int .u8 x.s, .int .i64 x.c, .int .u32 x.w, .int .u64 x.n, .int .i64 x.l] 62)) wr.heap.size (Ac.cells ⟨d, x⟩)) := hid (Ac.new wr 62 ⟨d, x⟩)
      have HP3 := hid (HP.out.below hal)
      have HLT := hid HP.out.lt
      clear hal
      go_upto_region 9 with fail
      generalize (wr.alloc (.cells #[.int .u8 d, .int .i64 x.i, .int .u8 x.s, .int .i64 x.c, .int .u32 x.w, .int .u64 x.n, .int .i64 x.l] 62)) = W3 at HAC HP3 ⊢
      clear a0 a1 a2 a3 a4 a5 a6
      generalize hga : wr.heap.size = ga at HAC ⊢
      have HGA := hid (Nat.le_of_eq hga)
      have HNG : Hid (ga ∉ rowOf (some (⟨g, 0, none⟩ : Addr))) := hid (by have := HLT.out; simp [rowOf]; omega)
      clear hga
      obtain ⟨a0, a1, a2, a3, a4, a5, a6⟩ := Ac.at _ HAC.out
      dsimp only at a0 a1 a2 a3 a4 a5 a6
      have HLN : Hid (L.length = N ∧ N ≤ 32) := hid ⟨HP3.out.tv.t.len, HP3.out.tv.t.le⟩
      go_wp2_with fail
      · refine (Tab.setV HP3.out.tv x).mono ?_
        rintro e w4 ⟨rfl, h4, hc4⟩
        have HP4 := hid (HP3.out.step h4 hc4 (HP3.out.iv.put x))
        have HAC4 := hid (HAC.out.chg hc4 HNG.out)
        have HLM : Hid ((sttL L x).length = N) := hid h4.t.len
        clear h4 hc4 a0 a1 a2 a3 a4 a5 a6
        obtain ⟨a0, a1, a2, a3, a4, a5, a6⟩ := Ac.at _ HAC4.out
        dsimp only at a0 a1 a2 a3 a4 a5 a6
        have d0 := HP4.out.dv.at0
        have d1 := (HP4.out.dv 1 _ rfl).1
        go_wp2_with fail
        refine (Ref20.set B kb cb N x L _ HP3.out.iv HLN.out.1 HLN.out.2 HP4.out.rd).mono ?_
        rintro e w5 ⟨B5, k5, d5, rfl, hrd, hro, hb⟩
        have HRD := hid hrd
        have HRO := hid hro
        have HB5 := hid hb
        have HTH := hid ((HP4.out.below hb).there)
        clear hrd hro hb d0 d1 a0 a1 a2 a3 a4 a5 a6
        generalize sttE L x = e9
        go_upto_region 26 with (first | ((with_reducible refine wpList_put_g 56 [.slice B5 k5 d5, .int .i64 N] infoRB rfl (.tmp 6) (.tmp 67) rfl gd 0 HTH.out ?pp1a ?pp1b ?pp1c ?pp1d ?pp1e); (case pp1a => rfl); (case pp1b => rfl); (case pp1c => rfl); (case pp1d => rfl); (intro W6 hW6); (have HP6 := hid (HP4.out.put HB5.out HRD.out HRO.out W6 hW6)); (clear hW6)) | fail)
        have d0 := HP6.out.dv.at0
        have d1 := (HP6.out.dv 1 _ rfl).1
        go_wp2_with fail
        refine (Law20.told _ _ _ _ _ _ _ _ _ _ _ HP6.out.tv.t HP6.out.iv HP6.out.rd).mono ?_
        rintro e w9 ⟨rfl, hb⟩
        have HP9 := hid (HP6.out.below hb)
        clear hb d0 d1
        go_wp2_with fail
        go_roundg (n - (k + 1))
        case measure => have := HS.out; omega
        case rel => exact ⟨k + 1, _, _, _, _, _, _, _, rfl, by go_num, by omega, rfl, HP9.out⟩
      · refine (Tab.dropV HP3.out.tv x.i).mono ?_
        rintro e w4 ⟨rfl, h4, hc4⟩
        have HP4 := hid (HP3.out.step h4 hc4 (HP3.out.iv.drop x.i))
        have HAC4 := hid (HAC.out.chg hc4 HNG.out)
        have HLM : Hid ((dropL L x.i).length = N) := hid h4.t.len
        clear h4 hc4 a0 a1 a2 a3 a4 a5 a6
        obtain ⟨a0, a1, a2, a3, a4, a5, a6⟩ := Ac.at _ HAC4.out
        dsimp only at a0 a1 a2 a3 a4 a5 a6
        have d0 := HP4.out.dv.at0
        have d1 := (HP4.out.dv 1 _ rfl).1
        go_wp2_with fail
        refine (Ref20.drop B kb cb N x.i L _ HP3.out.iv HLN.out.1 HLN.out.2 HP4.out.rd).mono ?_
        rintro e w5 ⟨B5, k5, d5, rfl, hrd, hro, hb⟩
        have HRD := hid hrd
        have HRO := hid hro
        have HB5 := hid hb
        have HTH := hid ((HP4.out.below hb).there)
        clear hrd hro hb d0 d1 a0 a1 a2 a3 a4 a5 a6
        generalize dropE L x.i = e9
        go_upto_region 26 with (first | ((with_reducible refine wpList_put_g 56 [.slice B5 k5 d5, .int .i64 N] infoRB rfl (.tmp 6) (.tmp 82) rfl gd 0 HTH.out ?pp2a ?pp2b ?pp2c ?pp2d ?pp2e); (case pp2a => rfl); (case pp2b => rfl); (case pp2c => rfl); (case pp2d => rfl); (intro W6 hW6); (have HP6 := hid (HP4.out.put HB5.out HRD.out HRO.out W6 hW6)); (clear hW6)) | fail)
        have d0 := HP6.out.dv.at0
        have d1 := (HP6.out.dv 1 _ rfl).1
        go_wp2_with fail
        refine (Law20.told _ _ _ _ _ _ _ _ _ _ _ HP6.out.tv.t HP6.out.iv HP6.out.rd).mono ?_
        rintro e w9 ⟨rfl, hb⟩
        have HP9 := hid (HP6.out.below hb)
        clear hb d0 d1
        go_wp2_with fail
        go_roundg (n - (k + 1))
        case measure => have := HS.out; omega
        case rel => exact ⟨k + 1, _, _, _, _, _, _, _, rfl, by go_num, by omega, rfl, HP9.out⟩
      · refine (Tab.clone _ th g N c L _ HP3.out.tv.t).mono ?_
        rintro e w4 ⟨tw, gw, cw, rfl, hw, hb⟩
        have HW4 := hid hw
        have HB4 := hid hb
        have HP4 := hid (HP3.out.below hb)
        have HAC4 := hid (HAC.out.below hb)
        clear hw hb a0 a1 a2 a3 a4 a5 a6
        obtain ⟨a0, a1, a2, a3, a4, a5, a6⟩ := Ac.at _ HAC4.out
        dsimp only at a0 a1 a2 a3 a4 a5 a6
        go_wp2_with fail
        refine (Tab.dropV HP4.out.tv x.i).mono ?_
        rintro e w5 ⟨rfl, h5, hc5⟩
        have HP5 := hid (HP4.out.step h5 hc5 (HP4.out.iv.drop x.i))
        have HP6 := hid (HP3.out.clone HW4.out HB4.out HP5.out hc5)
        clear h5 hc5 a0 a1 a2 a3 a4 a5 a6
        have d0 := HP6.out.dv.at0
        have d1 := (HP6.out.dv 1 _ rfl).1
        go_wp2_with fail
        refine (Law20.told _ _ _ _ _ _ _ _ _ _ _ HP6.out.tv.t HP6.out.iv HP6.out.rd).mono ?_
        rintro e w9 ⟨rfl, hb⟩
        have HP9 := hid (HP6.out.below hb)
        clear hb d0 d1
        go_wp2_with fail
        go_roundg (n - (k + 1))
        case measure => have := HS.out; omega
        case rel => exact ⟨k + 1, _, _, _, _, _, _, _, rfl, by go_num, by omega, rfl, HP9.out⟩
      · refine (Tab.addV HP3.out.tv x).mono ?_
        rintro e w4 ⟨rfl, h4, hc4⟩
        have HP4 := hid (HP3.out.step h4 hc4 (HP3.out.iv.add x))
        have HAC4 := hid (HAC.out.chg hc4 HNG.out)
        have HLM : Hid ((addL L x).length = N) := hid h4.t.len
        clear h4 hc4 a0 a1 a2 a3 a4 a5 a6
        obtain ⟨a0, a1, a2, a3, a4, a5, a6⟩ := Ac.at _ HAC4.out
        dsimp only at a0 a1 a2 a3 a4 a5 a6
        have d0 := HP4.out.dv.at0
        have d1 := (HP4.out.dv 1 _ rfl).1
        go_wp2_with fail
        refine (Ref20.add B kb cb N x L _ HP3.out.iv HLN.out.1 HLN.out.2 HP4.out.rd).mono ?_
        rintro e w5 ⟨B5, k5, d5, rfl, hrd, hro, hb⟩
        have HRD := hid hrd
        have HRO := hid hro
        have HB5 := hid hb
        have HTH := hid ((HP4.out.below hb).there)
        clear hrd hro hb d0 d1 a0 a1 a2 a3 a4 a5 a6
        generalize addE L x = e9
        generalize addI L x = i9
        have hal := (Below.refl w5.heap.size w5).alloc (Nat.le_refl _) (.cells #[.slice B5 k5 d5, .int .i64 N] 56)
        have HB6 := hid (below_on HB5.out hal)
        have HRD6 := hid (HRD.out.below hal)
        have HRO6 : Hid (∀ j ∈ rowOf B5, j ∈ rowOf B ∨ (w4.heap.size ≤ j ∧ j < (w5.alloc (.cells #[.slice B5 k5 d5, .int .i64 N] 56)).heap.size)) := hid (fun j hj => (HRO.out j hj).imp id (fun h => ⟨h.1, Nat.lt_of_lt_of_le h.2 hal.size⟩))
        have HTH6 := hid ((HP4.out.below HB6.out).there)
        have HPV : Hid (Cs (w5.alloc (.cells #[.slice B5 k5 d5, .int .i64 N] 56)) w5.heap.size [.slice B5 k5 d5, .int .i64 N]) := hid (Cs.alloc_new w5 56 [.slice B5 k5 d5, .int .i64 N])
        clear hal
        go_upto_region 13 with fail
        generalize (w5.alloc (.cells #[.slice B5 k5 d5, .int .i64 N] 56)) = w6 at HB6 HRD6 HRO6 HTH6 HPV ⊢
        generalize w5.heap.size = gp at HPV ⊢
        clear HB5 HRD HRO HTH
        have v0 := HPV.out.at0
        have v1 := (HPV.out 1 _ rfl).1
        go_upto_region 26 with (first | ((with_reducible refine wpList_put_g 56 [.slice B5 k5 d5, .int .i64 N] infoRB rfl (.tmp 6) (.tmp 53) rfl gd 0 HTH6.out ?pp3a ?pp3b ?pp3c ?pp3d ?pp3e); (case pp3a => rfl); (case pp3b => rfl); (case pp3c => rfl); (case pp3d => rfl); (intro W6 hW6); (have HP6 := hid (HP4.out.put HB6.out HRD6.out HRO6.out W6 hW6)); (clear hW6); (clear v0 v1)) | fail)
        have d0 := HP6.out.dv.at0
        have d1 := (HP6.out.dv 1 _ rfl).1
        go_wp2_with fail
        refine (Law20.told _ _ _ _ _ _ _ _ _ _ _ HP6.out.tv.t HP6.out.iv HP6.out.rd).mono ?_
        rintro e w9 ⟨rfl, hb⟩
        have HP9 := hid (HP6.out.below hb)
        clear hb d0 d1
        go_wp2_with fail
        go_roundg (n - (k + 1))
        case measure => have := HS.out; omega
        case rel => exact ⟨k + 1, _, _, _, _, _, _, _, rfl, by go_num, by omega, rfl, HP9.out⟩
    · have hki : ¬ (k : Int) < n := by omega
      go_wp2_with fail
      go_ret
      exact ⟨rfl, below_on HB1.out HP.out.tv.b⟩
theorem Tpl.law (m : Int) (A : Option Addr) (n c : Nat) (l : List Ac) (w : World) (_ : (Lit.int .i64 m).wf = true) (h1 : (RdA w A n l ∧ ∀ x ∈ l, x.In) ∧ n ≤ 9223372036854775807) (_ : Tab10 w.heap.size w) : Calls Tryz.prog 7 #[.int .i64 m, .slice A n c] w (Ans (.bool true) w) := by
  by_cases hn : n ≤ 100
  · exact Tpl.core m A n c l w h1.1.1 hn
  · exact Tpl.away m A n c w (by omega)
end Go.Proofs.YtegohmeapamoaaaGreatDoor

/- Texts of MeanSums's proof, together. -/
import Derived.Test.YtklaghleghncoaaGreatDoorMeanSumsZ32
import Derived.Test.YtklaghleghncoaaGreatDoorMeanSumsZ21
import Derived.Test.YtklaghleghncoaaGreatDoorMeanSumsZ25
import Derived.Test.YtklaghleghncoaaGreatDoorMeanSumsZ38
import Derived.Test.YtklaghleghncoaaGreatDoorStr
import Derived.Test.YtklaghleghncoaaGreatDoorMeanSumsZ16
import Derived.Test.YtklaghleghncoaaGreatDoorMeanSumsZ34
import Derived.Test.YtklaghleghncoaaGreatDoorMeanSumsZ0
import Derived.Test.YtklaghleghncoaaGreatDoorMeanSumsZ17
namespace Go.Proofs.YtklaghleghncoaaGreatDoor
/- The chapter's example of layer 8, as the laws ask it. -/
section
open Go.RowKit
theorem Law7.Awake (w : World) : Calls Tryz.prog 46 #[] w (Ans (.bool true) w) := by
  go_enter Tryz.func46, Tryz.ntmps46
  go_wp2_with (go_at_call 98; refine (Law7.awake _).mono ?_; rintro e w' ⟨rfl, hb⟩)
  go_ret
  exact ⟨rfl, hb⟩
theorem ex8 : Mu.of 5 [(5, 0, 1), (8, 0, 1)] = (true, ⟨5, 3, 2, 2⟩) := by
  rw [of_yes 5 (l := [(5, 0, 1), (8, 0, 1)]) (fun p hp => by
    simp at hp
    rcases hp with rfl | rfl
    · exact ⟨by decide, ⟨by decide, by decide⟩, ⟨by decide, by decide⟩, by decide, by decide⟩
    · exact ⟨by decide, ⟨by decide, by decide⟩, ⟨by decide, by decide⟩, by decide, by decide⟩) (by decide)]
  rfl
theorem ex8f : Mu.fl ⟨5, 3, 2, 2⟩ = (true, 6) := by first | rfl | decide +kernel
theorem ex8t : txtOf 3 = [51] := by first | decide +kernel | (unfold txtOf; rw [if_neg (by decide)]; simp [Lib.decDigits])
theorem Tab10.at2 {w0 w : World} (h : Tab10 w0.heap.size w0) (hb : Below w0.heap.size w0 w) : Tab10 w.heap.size w := Tab10.of (h.on hb).here
set_option maxRecDepth 100000 in
set_option maxHeartbeats 4000000 in
theorem Law8.awake (w : World) (htab : Tab10 w.heap.size w) : Calls Tryz.prog 7 #[] w (Ans (.bool true) w) := by
  have HT := hid htab
  have HB0 := hid ((Below.refl w.heap.size w).alloc (Nat.le_refl _) (.cells #[.int .u64 5, .int .u32 0, .int .u32 1, .int .u64 8, .int .u32 0, .int .u32 1] 29))
  have HR := hid (RdP.new2 w 29 5 0 1 8 0 1)
  clear htab
  go_enter Tryz.func7, Tryz.ntmps7
  go_wp2_with fail

  generalize (w.alloc (.cells #[.int .u64 5, .int .u32 0, .int .u32 1, .int .u64 8, .int .u32 0, .int .u32 1] 29)) = W0 at HB0 HR ⊢
  refine (Mean.of 5 ⟨by decide, by decide⟩ (some ⟨w.heap.size, 0, none⟩) 2 2 [(5, 0, 1), (8, 0, 1)] _ HR.out (fun p hp => by
    simp at hp
    rcases hp with rfl | rfl
    · exact ⟨⟨by decide, by decide⟩, ⟨by decide, by decide⟩, by decide, by decide⟩
    · exact ⟨⟨by decide, by decide⟩, ⟨by decide, by decide⟩, by decide, by decide⟩) (by decide)).mono ?_
  rw [ex8]
  rintro e w1 ⟨rfl, hb⟩
  have ha := (Below.refl w1.heap.size w1).alloc (Nat.le_refl _) (.cells #[.int .u64 5, .int .i64 (hiW 3), .int .u64 (loW 3), .int .u64 2, .int .i64 2] 36)
  have HB1 := hid (below_on (below_on HB0.out hb) ha)
  have HC1 : Hid (Cs (w1.alloc (.cells #[.int .u64 5, .int .i64 (hiW 3), .int .u64 (loW 3), .int .u64 2, .int .i64 2] 36)) w1.heap.size (Mu.mk 5 3 2 2).cells) := hid (Cs.alloc_new6 w1 _ (Mu.mk 5 3 2 2).cells)
  clear hb ha HB0 HR
  go_wp2_with fail
  generalize (w1.alloc (.cells #[.int .u64 5, .int .i64 (hiW 3), .int .u64 (loW 3), .int .u64 2, .int .i64 2] 36)) = W1 at HB1 HC1 ⊢
  generalize w1.heap.size = g at HC1 ⊢
  refine (Mean.floor ⟨5, 3, 2, 2⟩ (by unfold Mu.In WR; refine ⟨⟨?_, ?_⟩, ⟨?_, ?_⟩, ⟨?_, ?_⟩, ?_, ?_⟩ <;> decide) _).mono ?_
  rw [ex8f]
  rintro e w2 ⟨rfl, hb⟩
  have HB2 := hid (below_on HB1.out hb)
  have HC2 := hid (HC1.out.below hb)
  clear hb HB1 HC1
  go_wp2_with fail
  refine (Law7.Awake _).mono ?_
  rintro e w3 ⟨rfl, hb⟩
  have HB3 := hid (below_on HB2.out hb)
  have HC3 := hid (HC2.out.below hb)
  clear hb HB2 HC2
  obtain ⟨m0, m1, m2, m3, m4⟩ := Mu.at _ HC3.out
  go_wp2_with fail
  refine (Wide.string (hiW 3) (loW 3) 3 (isW_of (by unfold WR; omega)) _ (HT.out.at2 HB3.out)).mono ?_
  rw [ex8t]
  rintro e w4 ⟨rfl, hb⟩
  have HB4 := hid (below_on HB3.out hb)
  have HC4 := hid (HC3.out.below hb)
  clear hb HB3 HC3 m0 m1 m2 m3 m4
  obtain ⟨m0, m1, m2, m3, m4⟩ := Mu.at _ HC4.out
  go_wp2_with fail
  go_ret
  exact ⟨rfl, HB4.out⟩
theorem Law8.Awake (w : World) (htab : Tab10 w.heap.size w) : Calls Tryz.prog 227 #[] w (Ans (.bool true) w) := by
  go_enter Tryz.func227, Tryz.ntmps227
  go_wp2_with (go_at_call 7; refine (Law8.awake _ htab).mono ?_; rintro e w' ⟨rfl, hb⟩)
  go_ret
  exact ⟨rfl, hb⟩
end

/- MeanSums: the walk. -/
section
open Go.RowKit
theorem OwnP.there {w : World} {base g : Nat} {n c : Nat} {l : List P3} (ho : OwnP w base (some ⟨g, 0, none⟩) n c l) (h0 : 0 < n) : ∀ j, j < n → w.there g (0 + j * 3) 3 := fun j hj i hi => by
  rw [Nat.zero_add]
  refine ⟨?_, ?_⟩
  · obtain ⟨b, off, e, _, hc⟩ := ho.rdp.2 0 h0
    injection e with e
    injection e with e1 e2
    subst e1 e2
    obtain ⟨c0, c1, c2⟩ := hc j hj
    rw [Nat.zero_add] at c0 c1 c2
    match i, hi with
    | 0, _ => rw [Nat.add_zero, c0]; rfl
    | 1, _ => rw [c1]; rfl
    | 2, _ => rw [c2]; rfl
  · rcases ho.2 with ⟨hv, _⟩ | ⟨g', cap, cur, hv, _, hg, _⟩
    · injection hv with e1; cases e1
    · injection hv with e1
      injection e1 with e1
      injection e1 with e1
      subst e1
      simp [World.frozen?, hg]
theorem take_p3 {l : List P3} {k : Nat} (hk : k < l.length) : l.take (k + 1) = l.take k ++ [l.getD k (0, 0, 0)] := by
  have e : l.getD k (0, 0, 0) = l[k] := by simp [List.getD, hk]
  rw [List.take_succ_eq_append_getElem hk, e]
theorem mean_put {w W : World} {g : Nat} {m k : Mu} (h : Cs w g m.cells) (hW : W = w.setCells g 0 k.cells) : Cs W g k.cells := by
  subst hW
  exact Cs.putL k.cells 0 h (by simp [Mu.cells])
theorem below_put {w0 w W : World} {g : Nat} {vs : List Value} (hg : w0.heap.size ≤ g) (h : Below w0.heap.size w0 w) (hW : W = w.setCells g 0 vs) : Below w0.heap.size w0 W := by
  subst hW
  exact below_sets hg _ _ h
set_option maxRecDepth 100000 in
set_option maxHeartbeats 2000000 in
theorem Msum.away (t : Int) (A : Option Addr) (n c : Nat) (w : World) (hn : 40 < n) (htab : Tab10 w.heap.size w) :
    Calls Tryz.prog 3 #[.int .u64 t, .slice A n c] w (Ans (.bool true) w) := by
  have h2 : (40 : Int) < (n : Int) := by omega
  have HT := hid htab
  clear hn htab
  go_enter Tryz.func3, Tryz.ntmps3
  go_wp2_with fail
  refine (Law8.awake _ HT.out).mono ?_
  rintro e w1 ⟨rfl, hb1⟩
  go_wp2_with fail
  go_ret
  exact ⟨rfl, hb1⟩
set_option maxRecDepth 100000 in
set_option maxHeartbeats 32000000 in
theorem Msum.core (t : Int) (ht : IsT t) (A : Option Addr) (n c : Nat) (l : List P3) (w : World) (hr : RdP w A n l) (hl : ∀ q ∈ l, PIn q) (h0 : 0 < n) (hn : n ≤ 40) (htab : Tab10 w.heap.size w) :
    Calls Tryz.prog 3 #[.int .u64 t, .slice A n c] w (Ans (.bool true) w) := by
  have HT := hid htab
  have HR := hid hr
  have HL := hid hl
  have HTT := hid ht
  have HLN := hid hr.1
  have h2 : ¬ (40 : Int) < (n : Int) := by omega
  clear hr hl ht htab
  go_enter Tryz.func3, Tryz.ntmps3
  go_wp2_with fail
  refine (Law8.awake _ HT.out).mono ?_
  rintro e w1 ⟨rfl, hb⟩
  have HB1 := hid hb
  clear hb HT
  go_wp2_with fail
  go_loopg [5, 26] n (fun s a i wr => ∃ (k : Nat) (A1 : Option Addr) (c1 : Nat), a = .slice A1 k c1 ∧ i = .int .i64 k ∧ k ≤ n ∧ s = n - k ∧ OwnQ wr w.heap.size A1 k c1 (l.take k) ∧ Below w.heap.size w wr)
  case atStart => exact ⟨0, none, 0, rfl, rfl, Nat.zero_le _, by omega, by simpa using OwnQ.nil _ _, HB1.out⟩
  case round =>
    obtain ⟨k, A1, c1, rfl, rfl, hk, hs, ho, hb⟩ := hrel
    have HS := hid hs
    have HO := hid ho
    have HB := hid hb
    clear hs ho hb HB1
    by_cases hkn : k < n
    · obtain ⟨bb, off, hA, _, hc⟩ := (HR.out.below HB.out).2 0 (by omega)
      obtain ⟨p0, p1, p2⟩ := hc k hkn
      have hkl : k < l.length := by have := HLN.out; omega
      have HTK := hid (take_p3 hkl)
      generalize l.getD k (0, 0, 0) = x at *
      subst hA
      have hki : (k : Int) < n := by omega
      clear hc hkl
      have HXc := hid (show Cs (wr.alloc (.cells #[.int .u64 x.1, .int .u32 x.2.1, .int .u32 x.2.2] 29)) wr.heap.size (pcells x) from Cs.alloc_new6 wr 29 (pcells x))
      have HOa := hid (HO.out.alloc (.cells #[.int .u64 x.1, .int .u32 x.2.1, .int .u32 x.2.2] 29))
      have HBa := hid (HB.out.alloc HB.out.size (.cells #[.int .u64 x.1, .int .u32 x.2.1, .int .u32 x.2.2] 29))
      go_upto_region 9 with fail
      clear p0 p1 p2 HO HB
      generalize (wr.alloc (.cells #[.int .u64 x.1, .int .u32 x.2.1, .int .u32 x.2.2] 29)) = Wa at HXc HOa HBa ⊢
      generalize wr.heap.size = gp at HXc ⊢
      obtain ⟨q0, q1, q2⟩ := P3.at x HXc.out
      go_wp2_with fail
      clear q0 q1 q2 HXc
      refine (Law4.of x.1 x.2.1 x.2.2 _).mono ?_
      rintro e w3 ⟨rfl, hb⟩
      have HO3 := hid (HOa.out.below hb)
      have HB3 := hid (below_on HBa.out hb)
      have hOW := HO3.out.alloc (.cells #[.int .u64 x.1, .int .u32 x.2.1, .int .u32 x.2.2] 31)
      have hTP : Tp (w3.alloc (.cells #[.int .u64 x.1, .int .u32 x.2.1, .int .u32 x.2.2] 31)) w3.heap.size x := Tp.new w3 31 x
      have HB4 := hid (HB3.out.alloc HB3.out.size (.cells #[.int .u64 x.1, .int .u32 x.2.1, .int .u32 x.2.2] 31))
      have hbs := HB4.out.size
      have hk1 : k ≤ 1000000 := by omega
      clear hb HOa HBa HO3 HB3
      go_wp2_with (first
        | (at_builtin; (with_reducible refine wpList_append_p4 _ rfl (.tmp 30) (.tmp 33) rfl w.heap.size A1 k c1 (l.take k) ?a1 hOW w3.heap.size x ?a2 hTP hk1 hbs ?a3); (case a1 => rfl); (case a2 => rfl); (intro A4 c4 w4 ho4 hc4 hr4); (have HO4 := hid ho4); (have HB5 := hid (Below.chg HB4.out hc4 (fun q hq => (hOW.rowGe q hq).1))); (clear ho4 hc4 hr4 hOW hTP hbs))
        | fail)
      go_roundg (n - (k + 1))
      case measure => have := HS.out; omega
      case rel => exact ⟨k + 1, A4, c4, rfl, by go_num, by omega, rfl, by rw [HTK.out]; exact HO4.out, HB5.out⟩
    · obtain rfl : k = n := by omega
      have hki : ¬ (k : Int) < k := by omega
      have HQ : Hid (OwnQ wr w.heap.size A1 k c1 l) := hid (by have := HO.out; rwa [List.take_of_length_le (by have := HLN.out; omega)] at this)
      obtain ⟨ok, m, hE⟩ : ∃ ok m, Mu.of t l = (ok, m) := ⟨_, _, rfl⟩
      have HE := hid hE
      have HMI : Hid m.In := hid (by have := of_in (base := t) (l := l) HTT.out HL.out; rwa [hE] at this)
      have HLZ : Hid (leftM t l 0 = m) := hid (by rw [← leftM_zero t HL.out, hE])
      clear hE HO HS
      generalize k = n at *
      go_wp2_with fail
      cases ok with
      | false =>
        refine (Mean.of t HTT.out A n c l _ (HR.out.below HB.out) HL.out (by omega)).mono ?_
        rw [HE.out]
        rintro e w2 ⟨rfl, hb⟩
        have HQ2 := hid (HQ.out.below hb)
        have HB2 := hid (below_on HB.out hb)
        clear hb HB HQ
        dsimp only
        have HM2 : Hid (Cs (w2.alloc (.cells #[.int .u64 m.b, .int .i64 (hiW m.a), .int .u64 (loW m.a), .int .u64 m.w, .int .i64 m.n] 36)) w2.heap.size m.cells) := hid (Cs.alloc_new6 w2 36 m.cells)
        have HB3 := hid (HB2.out.alloc HB2.out.size (.cells #[.int .u64 m.b, .int .i64 (hiW m.a), .int .u64 (loW m.a), .int .u64 m.w, .int .i64 m.n] 36))
        have HQ3 := hid (HQ2.out.alloc (.cells #[.int .u64 m.b, .int .i64 (hiW m.a), .int .u64 (loW m.a), .int .u64 m.w, .int .i64 m.n] 36))
        have HG8 : Hid (w.heap.size ≤ w2.heap.size) := hid HB2.out.size
        go_wp2_with fail
        generalize w2.alloc (.cells #[.int .u64 m.b, .int .i64 (hiW m.a), .int .u64 (loW m.a), .int .u64 m.w, .int .i64 m.n] 36) = W2 at HM2 HB3 HQ3 ⊢
        generalize w2.heap.size = g8 at HM2 HG8 ⊢
        refine (Ref8.ofF t HTT.out A1 n c1 l _ HQ3.out.rdp HL.out (by omega)).mono ?_
        rw [HE.out]
        rintro e w3 ⟨⟨s3, A3, n3, c3⟩, rfl, hB3, hb, _⟩
        have HM3 := hid (HM2.out.below hb)
        have HB4 := hid (below_on HB3.out hb)
        have HIB : Hid (IsB (w3.alloc (.cells #[.int .u64 m.b, .bool s3, .slice A3 n3 c3, .int .u64 m.w, .int .i64 m.n] 43)) 18 s3 A3 n3 c3 m.a) := hid (IsB.alloc hB3 _)
        clear hb hB3 HM2 HB3 HQ3 HQ2 HB2
        dsimp only
        have HR4 : Hid (Cs (w3.alloc (.cells #[.int .u64 m.b, .bool s3, .slice A3 n3 c3, .int .u64 m.w, .int .i64 m.n] 43)) w3.heap.size (rmC m (s3, A3, n3, c3))) := hid (Cs.alloc_new6 w3 43 (rmC m (s3, A3, n3, c3)))
        have HM4 := hid (HM3.out.below ((Below.refl w3.heap.size w3).alloc (Nat.le_refl _) (.cells #[.int .u64 m.b, .bool s3, .slice A3 n3 c3, .int .u64 m.w, .int .i64 m.n] 43)))
        have HB5 := hid (HB4.out.alloc HB4.out.size (.cells #[.int .u64 m.b, .bool s3, .slice A3 n3 c3, .int .u64 m.w, .int .i64 m.n] 43))
        clear HM3 HB4
        go_upto_region 13 with fail
        generalize w3.alloc (.cells #[.int .u64 m.b, .bool s3, .slice A3 n3 c3, .int .u64 m.w, .int .i64 m.n] 43) = W3 at HIB HR4 HM4 HB5 ⊢
        generalize w3.heap.size = g10 at HR4 ⊢
        obtain ⟨m0, m1, m2, m3, m4⟩ := Mu.at m HM4.out
        obtain ⟨k0, k1, k2, k3, k4⟩ := rm_at HR4.out
        go_wp2_with fail
        clear m0 m1 m2 m3 m4 k0 k1 k2 k3 k4
        refine (Law8.same m s3 A3 n3 c3 HMI.out _ HIB.out).mono ?_
        rintro e w4 ⟨rfl, hb⟩
        have HM5 := hid (HM4.out.below hb)
        have HB6 := hid (below_on HB5.out hb)
        clear hb HM4 HB5 HIB HR4
        go_wp2_with fail
        refine (Sls.cloneP A n c l _ (HR.out.below HB6.out) h0 (by omega)).mono ?_
        rintro e w5 ⟨A5, c5, rfl, ho5, hb⟩
        obtain ⟨g, cap, hv, hge, hlt⟩ := ho5.form h0
        have hA5 : A5 = some ⟨g, 0, none⟩ := by injection hv
        subst hA5
        have HTH := hid (OwnP.there ho5 h0)
        have HR5 := hid ho5.rdp
        have HGE := hid hge
        have HB7 := hid hb
        clear ho5 hv hge hlt hb
        go_wp2_with fail
        refine (Sls.reverseP g 0 n c5 l w4.heap.size HGE.out _ HR5.out HTH.out h0 (by omega)).mono ?_
        rintro e w6 ⟨rfl, hr6, hb⟩
        have HR6 := hid hr6
        have HB8 := hid (HB7.out.trans hb)
        have HM6 := hid (HM5.out.below HB8.out)
        have HB9 := hid (below_on HB6.out HB8.out)
        clear hr6 hb HTH HR5 HB7 HB8 HM5 HB6 HGE
        go_wp2_with fail
        refine (Mean.of t HTT.out (some ⟨g, 0, none⟩) n c5 l.reverse _ HR6.out (fun q hq => HL.out q (List.mem_reverse.1 hq)) (by omega)).mono ?_
        rw [of_rev t HL.out, HE.out]
        rintro e w7 ⟨rfl, hb⟩
        have HM7 := hid (HM6.out.below hb)
        have HB10 := hid (below_on HB9.out hb)
        clear hb HM6 HB9 HR6
        dsimp only
        have HN7 : Hid (Cs (w7.alloc (.cells #[.int .u64 m.b, .int .i64 (hiW m.a), .int .u64 (loW m.a), .int .u64 m.w, .int .i64 m.n] 36)) w7.heap.size m.cells) := hid (Cs.alloc_new6 w7 36 m.cells)
        have HM8 := hid (HM7.out.below ((Below.refl w7.heap.size w7).alloc (Nat.le_refl _) (.cells #[.int .u64 m.b, .int .i64 (hiW m.a), .int .u64 (loW m.a), .int .u64 m.w, .int .i64 m.n] 36)))
        have HB11 := hid (HB10.out.alloc HB10.out.size (.cells #[.int .u64 m.b, .int .i64 (hiW m.a), .int .u64 (loW m.a), .int .u64 m.w, .int .i64 m.n] 36))
        clear HM7 HB10
        go_upto_region 18 with fail
        generalize w7.alloc (.cells #[.int .u64 m.b, .int .i64 (hiW m.a), .int .u64 (loW m.a), .int .u64 m.w, .int .i64 m.n] 36) = W7 at HN7 HM8 HB11 ⊢
        generalize w7.heap.size = g13 at HN7 ⊢
        obtain ⟨m0, m1, m2, m3, m4⟩ := Mu.at m HM8.out
        obtain ⟨k0, k1, k2, k3, k4⟩ := Mu.at m HN7.out
        go_wp2_with fail
        clear m0 m1 m2 m3 m4 k0 k1 k2 k3 k4 HN7
        go_loopg [77] n (fun s i wr => ∃ k : Nat, i = .int .i64 k ∧ k ≤ n ∧ s = n - k ∧ Cs wr g8 (leftM t l k).cells ∧ Below w.heap.size w wr)
        case atStart => exact ⟨0, rfl, Nat.zero_le _, by omega, by rw [HLZ.out]; exact HM8.out, HB11.out⟩
        case round =>
          obtain ⟨k, rfl, hk, hs, hm, hb⟩ := hrel
          have HS := hid hs
          have HMk := hid hm
          have HB := hid hb
          clear hs hm hb HM8 HB11
          by_cases hkn : k < n
          · obtain ⟨bb, off, hA, _, hc⟩ := (HR.out.below HB.out).2 0 (by omega)
            obtain ⟨p0, p1, p2⟩ := hc k hkn
            have hkl : k < l.length := by have := HLN.out; omega
            have HX := hid (HL.out _ (getD_mem hkl))
            have HST := hid (leftM_step t HL.out hkl)
            have HIN := hid (leftM_in HTT.out HL.out k)
            rw [HE.out] at HST
            generalize l.getD k (0, 0, 0) = x at *
            generalize hMk : leftM t l k = M at *
            generalize hM2 : leftM t l (k + 1) = M2 at *
            have HM2E := hid hM2
            clear hM2
            clear hMk
            subst hA
            have hki : (k : Int) < n := by omega
            clear hc hkl
            have HXc := hid (show Cs (wr.alloc (.cells #[.int .u64 x.1, .int .u32 x.2.1, .int .u32 x.2.2] 29)) wr.heap.size (pcells x) from Cs.alloc_new6 wr 29 (pcells x))
            have HMa := hid (HMk.out.below ((Below.refl wr.heap.size wr).alloc (Nat.le_refl _) (.cells #[.int .u64 x.1, .int .u32 x.2.1, .int .u32 x.2.2] 29)))
            have HBa := hid (HB.out.alloc HB.out.size (.cells #[.int .u64 x.1, .int .u32 x.2.1, .int .u32 x.2.2] 29))
            go_upto_region 23 with fail
            clear p0 p1 p2 HMk HB
            generalize (wr.alloc (.cells #[.int .u64 x.1, .int .u32 x.2.1, .int .u32 x.2.2] 29)) = Wa at HXc HMa HBa ⊢
            generalize wr.heap.size = gp at HXc ⊢
            obtain ⟨m0, m1, m2, m3, m4⟩ := Mu.at M HMa.out
            obtain ⟨q0, q1, q2⟩ := P3.at x HXc.out
            go_wp2_with fail
            clear m0 m1 m2 m3 m4 q0 q1 q2 HXc
            refine (Mean.take M x HIN.out HX.out _).mono ?_
            rw [HST.out]
            rintro e w8 ⟨rfl, hb⟩
            have HMb := hid ((HMa.out.below hb).below ((Below.refl w8.heap.size w8).alloc (Nat.le_refl _) (.cells #[.int .u64 M2.b, .int .i64 (hiW M2.a), .int .u64 (loW M2.a), .int .u64 M2.w, .int .i64 M2.n] 36)))
            have HBb := hid ((below_on HBa.out hb).alloc (below_on HBa.out hb).size (.cells #[.int .u64 M2.b, .int .i64 (hiW M2.a), .int .u64 (loW M2.a), .int .u64 M2.w, .int .i64 M2.n] 36))
            have HNb : Hid (Cs (w8.alloc (.cells #[.int .u64 M2.b, .int .i64 (hiW M2.a), .int .u64 (loW M2.a), .int .u64 M2.w, .int .i64 M2.n] 36)) w8.heap.size M2.cells) := hid (Cs.alloc_new6 w8 36 M2.cells)
            clear hb HMa HBa
            dsimp only
            go_upto_region 26 with fail
            generalize w8.alloc (.cells #[.int .u64 M2.b, .int .i64 (hiW M2.a), .int .u64 (loW M2.a), .int .u64 M2.w, .int .i64 M2.n] 36) = W8 at HMb HBb HNb ⊢
            generalize w8.heap.size = g17 at HNb ⊢
            obtain ⟨m0, m1, m2, m3, m4⟩ := Mu.at M2 HNb.out
            go_wp2_with (first | ((with_reducible refine wpList_put_cs 36 M2.cells infoMean rfl (.tmp 8) (.tmp 92) rfl g8 _ HMb.out ?msfalse1 ?msfalse2 ?msfalse3 ?msfalse4 ?msfalse5 ?msfalse6); (case msfalse1 => rfl); (case msfalse2 => rfl); (case msfalse3 => rfl); (case msfalse4 => rfl); (case msfalse5 => rfl); (intro W9 hW9); (have HM9 := hid (mean_put HMb.out hW9)); (have HB9 := hid (below_put HG8.out HBb.out hW9)); (clear hW9)) | fail)
            go_roundg (n - (k + 1))
            case measure => have := HS.out; omega
            case rel => exact ⟨k + 1, by go_num, by omega, rfl, by rw [HM2E.out]; exact HM9.out, HB9.out⟩
          · obtain rfl : k = n := by omega
            have hki : ¬ (k : Int) < k := by omega
            go_wp2_with fail
            go_ret
            exact ⟨rfl, HB.out⟩
      | true =>
        refine (Mean.of t HTT.out A n c l _ (HR.out.below HB.out) HL.out (by omega)).mono ?_
        rw [HE.out]
        rintro e w2 ⟨rfl, hb⟩
        have HQ2 := hid (HQ.out.below hb)
        have HB2 := hid (below_on HB.out hb)
        clear hb HB HQ
        dsimp only
        have HM2 : Hid (Cs (w2.alloc (.cells #[.int .u64 m.b, .int .i64 (hiW m.a), .int .u64 (loW m.a), .int .u64 m.w, .int .i64 m.n] 36)) w2.heap.size m.cells) := hid (Cs.alloc_new6 w2 36 m.cells)
        have HB3 := hid (HB2.out.alloc HB2.out.size (.cells #[.int .u64 m.b, .int .i64 (hiW m.a), .int .u64 (loW m.a), .int .u64 m.w, .int .i64 m.n] 36))
        have HQ3 := hid (HQ2.out.alloc (.cells #[.int .u64 m.b, .int .i64 (hiW m.a), .int .u64 (loW m.a), .int .u64 m.w, .int .i64 m.n] 36))
        have HG8 : Hid (w.heap.size ≤ w2.heap.size) := hid HB2.out.size
        go_wp2_with fail
        generalize w2.alloc (.cells #[.int .u64 m.b, .int .i64 (hiW m.a), .int .u64 (loW m.a), .int .u64 m.w, .int .i64 m.n] 36) = W2 at HM2 HB3 HQ3 ⊢
        generalize w2.heap.size = g8 at HM2 HG8 ⊢
        refine (Ref8.ofF t HTT.out A1 n c1 l _ HQ3.out.rdp HL.out (by omega)).mono ?_
        rw [HE.out]
        rintro e w3 ⟨⟨s3, A3, n3, c3⟩, rfl, hB3, hb, _⟩
        have HM3 := hid (HM2.out.below hb)
        have HB4 := hid (below_on HB3.out hb)
        have HIB : Hid (IsB (w3.alloc (.cells #[.int .u64 m.b, .bool s3, .slice A3 n3 c3, .int .u64 m.w, .int .i64 m.n] 43)) 18 s3 A3 n3 c3 m.a) := hid (IsB.alloc hB3 _)
        clear hb hB3 HM2 HB3 HQ3 HQ2 HB2
        dsimp only
        have HR4 : Hid (Cs (w3.alloc (.cells #[.int .u64 m.b, .bool s3, .slice A3 n3 c3, .int .u64 m.w, .int .i64 m.n] 43)) w3.heap.size (rmC m (s3, A3, n3, c3))) := hid (Cs.alloc_new6 w3 43 (rmC m (s3, A3, n3, c3)))
        have HM4 := hid (HM3.out.below ((Below.refl w3.heap.size w3).alloc (Nat.le_refl _) (.cells #[.int .u64 m.b, .bool s3, .slice A3 n3 c3, .int .u64 m.w, .int .i64 m.n] 43)))
        have HB5 := hid (HB4.out.alloc HB4.out.size (.cells #[.int .u64 m.b, .bool s3, .slice A3 n3 c3, .int .u64 m.w, .int .i64 m.n] 43))
        clear HM3 HB4
        go_upto_region 13 with fail
        generalize w3.alloc (.cells #[.int .u64 m.b, .bool s3, .slice A3 n3 c3, .int .u64 m.w, .int .i64 m.n] 43) = W3 at HIB HR4 HM4 HB5 ⊢
        generalize w3.heap.size = g10 at HR4 ⊢
        obtain ⟨m0, m1, m2, m3, m4⟩ := Mu.at m HM4.out
        obtain ⟨k0, k1, k2, k3, k4⟩ := rm_at HR4.out
        go_wp2_with fail
        clear m0 m1 m2 m3 m4 k0 k1 k2 k3 k4
        refine (Law8.same m s3 A3 n3 c3 HMI.out _ HIB.out).mono ?_
        rintro e w4 ⟨rfl, hb⟩
        have HM5 := hid (HM4.out.below hb)
        have HB6 := hid (below_on HB5.out hb)
        clear hb HM4 HB5 HIB HR4
        go_wp2_with fail
        refine (Sls.cloneP A n c l _ (HR.out.below HB6.out) h0 (by omega)).mono ?_
        rintro e w5 ⟨A5, c5, rfl, ho5, hb⟩
        obtain ⟨g, cap, hv, hge, hlt⟩ := ho5.form h0
        have hA5 : A5 = some ⟨g, 0, none⟩ := by injection hv
        subst hA5
        have HTH := hid (OwnP.there ho5 h0)
        have HR5 := hid ho5.rdp
        have HGE := hid hge
        have HB7 := hid hb
        clear ho5 hv hge hlt hb
        go_wp2_with fail
        refine (Sls.reverseP g 0 n c5 l w4.heap.size HGE.out _ HR5.out HTH.out h0 (by omega)).mono ?_
        rintro e w6 ⟨rfl, hr6, hb⟩
        have HR6 := hid hr6
        have HB8 := hid (HB7.out.trans hb)
        have HM6 := hid (HM5.out.below HB8.out)
        have HB9 := hid (below_on HB6.out HB8.out)
        clear hr6 hb HTH HR5 HB7 HB8 HM5 HB6 HGE
        go_wp2_with fail
        refine (Mean.of t HTT.out (some ⟨g, 0, none⟩) n c5 l.reverse _ HR6.out (fun q hq => HL.out q (List.mem_reverse.1 hq)) (by omega)).mono ?_
        rw [of_rev t HL.out, HE.out]
        rintro e w7 ⟨rfl, hb⟩
        have HM7 := hid (HM6.out.below hb)
        have HB10 := hid (below_on HB9.out hb)
        clear hb HM6 HB9 HR6
        dsimp only
        have HN7 : Hid (Cs (w7.alloc (.cells #[.int .u64 m.b, .int .i64 (hiW m.a), .int .u64 (loW m.a), .int .u64 m.w, .int .i64 m.n] 36)) w7.heap.size m.cells) := hid (Cs.alloc_new6 w7 36 m.cells)
        have HM8 := hid (HM7.out.below ((Below.refl w7.heap.size w7).alloc (Nat.le_refl _) (.cells #[.int .u64 m.b, .int .i64 (hiW m.a), .int .u64 (loW m.a), .int .u64 m.w, .int .i64 m.n] 36)))
        have HB11 := hid (HB10.out.alloc HB10.out.size (.cells #[.int .u64 m.b, .int .i64 (hiW m.a), .int .u64 (loW m.a), .int .u64 m.w, .int .i64 m.n] 36))
        clear HM7 HB10
        go_upto_region 18 with fail
        generalize w7.alloc (.cells #[.int .u64 m.b, .int .i64 (hiW m.a), .int .u64 (loW m.a), .int .u64 m.w, .int .i64 m.n] 36) = W7 at HN7 HM8 HB11 ⊢
        generalize w7.heap.size = g13 at HN7 ⊢
        obtain ⟨m0, m1, m2, m3, m4⟩ := Mu.at m HM8.out
        obtain ⟨k0, k1, k2, k3, k4⟩ := Mu.at m HN7.out
        go_wp2_with fail
        clear m0 m1 m2 m3 m4 k0 k1 k2 k3 k4 HN7
        go_loopg [77] n (fun s i wr => ∃ k : Nat, i = .int .i64 k ∧ k ≤ n ∧ s = n - k ∧ Cs wr g8 (leftM t l k).cells ∧ Below w.heap.size w wr)
        case atStart => exact ⟨0, rfl, Nat.zero_le _, by omega, by rw [HLZ.out]; exact HM8.out, HB11.out⟩
        case round =>
          obtain ⟨k, rfl, hk, hs, hm, hb⟩ := hrel
          have HS := hid hs
          have HMk := hid hm
          have HB := hid hb
          clear hs hm hb HM8 HB11
          by_cases hkn : k < n
          · obtain ⟨bb, off, hA, _, hc⟩ := (HR.out.below HB.out).2 0 (by omega)
            obtain ⟨p0, p1, p2⟩ := hc k hkn
            have hkl : k < l.length := by have := HLN.out; omega
            have HX := hid (HL.out _ (getD_mem hkl))
            have HST := hid (leftM_step t HL.out hkl)
            have HIN := hid (leftM_in HTT.out HL.out k)
            rw [HE.out] at HST
            generalize l.getD k (0, 0, 0) = x at *
            generalize hMk : leftM t l k = M at *
            generalize hM2 : leftM t l (k + 1) = M2 at *
            have HM2E := hid hM2
            clear hM2
            clear hMk
            subst hA
            have hki : (k : Int) < n := by omega
            clear hc hkl
            have HXc := hid (show Cs (wr.alloc (.cells #[.int .u64 x.1, .int .u32 x.2.1, .int .u32 x.2.2] 29)) wr.heap.size (pcells x) from Cs.alloc_new6 wr 29 (pcells x))
            have HMa := hid (HMk.out.below ((Below.refl wr.heap.size wr).alloc (Nat.le_refl _) (.cells #[.int .u64 x.1, .int .u32 x.2.1, .int .u32 x.2.2] 29)))
            have HBa := hid (HB.out.alloc HB.out.size (.cells #[.int .u64 x.1, .int .u32 x.2.1, .int .u32 x.2.2] 29))
            go_upto_region 23 with fail
            clear p0 p1 p2 HMk HB
            generalize (wr.alloc (.cells #[.int .u64 x.1, .int .u32 x.2.1, .int .u32 x.2.2] 29)) = Wa at HXc HMa HBa ⊢
            generalize wr.heap.size = gp at HXc ⊢
            obtain ⟨m0, m1, m2, m3, m4⟩ := Mu.at M HMa.out
            obtain ⟨q0, q1, q2⟩ := P3.at x HXc.out
            go_wp2_with fail
            clear m0 m1 m2 m3 m4 q0 q1 q2 HXc
            refine (Mean.take M x HIN.out HX.out _).mono ?_
            rw [HST.out]
            rintro e w8 ⟨rfl, hb⟩
            have HMb := hid ((HMa.out.below hb).below ((Below.refl w8.heap.size w8).alloc (Nat.le_refl _) (.cells #[.int .u64 M2.b, .int .i64 (hiW M2.a), .int .u64 (loW M2.a), .int .u64 M2.w, .int .i64 M2.n] 36)))
            have HBb := hid ((below_on HBa.out hb).alloc (below_on HBa.out hb).size (.cells #[.int .u64 M2.b, .int .i64 (hiW M2.a), .int .u64 (loW M2.a), .int .u64 M2.w, .int .i64 M2.n] 36))
            have HNb : Hid (Cs (w8.alloc (.cells #[.int .u64 M2.b, .int .i64 (hiW M2.a), .int .u64 (loW M2.a), .int .u64 M2.w, .int .i64 M2.n] 36)) w8.heap.size M2.cells) := hid (Cs.alloc_new6 w8 36 M2.cells)
            clear hb HMa HBa
            dsimp only
            go_upto_region 26 with fail
            generalize w8.alloc (.cells #[.int .u64 M2.b, .int .i64 (hiW M2.a), .int .u64 (loW M2.a), .int .u64 M2.w, .int .i64 M2.n] 36) = W8 at HMb HBb HNb ⊢
            generalize w8.heap.size = g17 at HNb ⊢
            obtain ⟨m0, m1, m2, m3, m4⟩ := Mu.at M2 HNb.out
            go_wp2_with (first | ((with_reducible refine wpList_put_cs 36 M2.cells infoMean rfl (.tmp 8) (.tmp 92) rfl g8 _ HMb.out ?mstrue1 ?mstrue2 ?mstrue3 ?mstrue4 ?mstrue5 ?mstrue6); (case mstrue1 => rfl); (case mstrue2 => rfl); (case mstrue3 => rfl); (case mstrue4 => rfl); (case mstrue5 => rfl); (intro W9 hW9); (have HM9 := hid (mean_put HMb.out hW9)); (have HB9 := hid (below_put HG8.out HBb.out hW9)); (clear hW9)) | fail)
            go_roundg (n - (k + 1))
            case measure => have := HS.out; omega
            case rel => exact ⟨k + 1, by go_num, by omega, rfl, by rw [HM2E.out]; exact HM9.out, HB9.out⟩
          · obtain rfl : k = n := by omega
            have hki : ¬ (k : Int) < k := by omega
            have hend := HMk.out
            rw [show leftM t l k = ⟨t, 0, 0, 0⟩ by have := leftM_end t l (by rw [HE.out]); rwa [HLN.out] at this] at hend
            have HMe := hid hend
            clear hend HMk
            obtain ⟨m0, m1, m2, m3, m4⟩ := Mu.at _ HMe.out
            have z1 : hiW 0 = 0 := by decide
            have z2 : loW 0 = 0 := by decide
            simp only [z1, z2] at m0 m1 m2 m3 m4
            go_wp2_with fail
            go_ret
            exact ⟨by first | rfl | simp, HB.out⟩
set_option maxRecDepth 100000 in
set_option maxHeartbeats 2000000 in
theorem Sls.clone0 (A : Option Addr) (c : Nat) (w : World) :
    Calls Tryz.prog 12 #[.slice A 0 c] w fun e w' => ∃ (A' : Option Addr) (c' : Nat), e = .returned (.slice A' 0 c') ∧ Below w.heap.size w w' := by
  cases A with
  | none =>
    have hbin : ∀ w : World, (binOp BinOp.eql 23 (.slice none 0 c) (.slice none 0 0)).run Tryz.prog w = .ok (.bool true) w := fun w => by kernel_rfl
    have HB0 := hid (Below.refl w.heap.size w)
    go_enter Tryz.func12, Tryz.ntmps12
    go_wp2_with fail
    go_ret
    exact ⟨_, _, rfl, HB0.out⟩
  | some q =>
    obtain ⟨b, off, cu⟩ := q
    have hbin : ∀ w : World, (binOp BinOp.eql 23 (.slice (some ⟨b, off, cu⟩) 0 c) (.slice none 0 0)).run Tryz.prog w = .ok (.bool false) w := fun w => by kernel_rfl
    have HB := hid ((Below.refl w.heap.size w).alloc (Nat.le_refl _) (.cells #[] 29))
    go_enter Tryz.func12, Tryz.ntmps12
    go_wp2_with fail
    go_ret
    exact ⟨_, _, rfl, HB.out⟩
set_option maxRecDepth 100000 in
set_option maxHeartbeats 2000000 in
theorem Sls.reverse0 (A : Option Addr) (c : Nat) (w : World) :
    Calls Tryz.prog 13 #[.slice A 0 c] w fun e w' => e = .returned (.tuple #[]) ∧ Below w.heap.size w w' := by
  have e0 : IntKind.i64.wrap (-1) = -1 := by decide
  have e1 : IntKind.i64.wrap (((0 : Nat) : Int) - 1) = -1 := by decide
  have HB0 := hid (Below.refl w.heap.size w)
  go_enter Tryz.func13, Tryz.ntmps13
  go_wp2_with fail
  go_loopg [2, 3] 0 (fun s i j wr => i = .int .i64 0 ∧ j = .int .i64 (-1) ∧ s = 0 ∧ Below w.heap.size w wr)
  case atStart => exact ⟨rfl, rfl, rfl, HB0.out⟩
  case round =>
    obtain ⟨rfl, rfl, hs, hb⟩ := hrel
    have HB := hid hb
    clear hb
    go_wp2_with fail
    exact bodyPost_end (v := .tuple #[]) (by simp [results, Tryz.results13, go_sem]) rfl ⟨rfl, HB.out⟩
set_option maxRecDepth 100000 in
set_option maxHeartbeats 32000000 in
theorem Msum.core0 (t : Int) (ht : IsT t) (A : Option Addr) (c : Nat) (l : List P3) (w : World) (hr : RdP w A 0 l) (hl : ∀ q ∈ l, PIn q) (htab : Tab10 w.heap.size w) :
    Calls Tryz.prog 3 #[.int .u64 t, .slice A 0 c] w (Ans (.bool true) w) := by
  obtain rfl : l = [] := List.eq_nil_of_length_eq_zero hr.1
  have HT := hid htab
  have HR := hid hr
  have HL := hid hl
  have HTT := hid ht
  have HE : Hid (Mu.of t [] = (true, ⟨t, 0, 0, 0⟩)) := hid rfl
  have HMI : Hid (Mu.In ⟨t, 0, 0, 0⟩) := hid (by have := of_in (base := t) (l := []) HTT.out HL.out; rwa [HE.out] at this)
  have h2 : ¬ (40 : Int) < ((0 : Nat) : Int) := by omega
  clear hr hl ht htab
  go_enter Tryz.func3, Tryz.ntmps3
  go_wp2_with fail
  refine (Law8.awake _ HT.out).mono ?_
  rintro e w1 ⟨rfl, hb⟩
  have HB1 := hid hb
  clear hb HT
  go_wp2_with fail
  go_loopg [5, 26] 0 (fun s a i wr => a = .slice none 0 0 ∧ i = .int .i64 0 ∧ s = 0 ∧ Below w.heap.size w wr)
  case atStart => exact ⟨rfl, rfl, rfl, HB1.out⟩
  case round =>
    obtain ⟨rfl, rfl, hs, hb⟩ := hrel
    have HB := hid hb
    clear hs hb HB1
    go_wp2_with fail
    refine (Mean.of t HTT.out A 0 c [] _ (HR.out.below HB.out) HL.out (by omega)).mono ?_
    rw [HE.out]
    rintro e w2 ⟨rfl, hb⟩
    have HB2 := hid (below_on HB.out hb)
    clear hb HB
    dsimp only
    have HM2 : Hid (Cs (w2.alloc (.cells #[.int .u64 t, .int .i64 (hiW 0), .int .u64 (loW 0), .int .u64 0, .int .i64 0] 36)) w2.heap.size (Mu.cells ⟨t, 0, 0, 0⟩)) := hid (Cs.alloc_new6 w2 36 (Mu.cells ⟨t, 0, 0, 0⟩))
    have HB3 := hid (HB2.out.alloc HB2.out.size (.cells #[.int .u64 t, .int .i64 (hiW 0), .int .u64 (loW 0), .int .u64 0, .int .i64 0] 36))
    have HG8 : Hid (w.heap.size ≤ w2.heap.size) := hid HB2.out.size
    go_wp2_with fail
    generalize w2.alloc (.cells #[.int .u64 t, .int .i64 (hiW 0), .int .u64 (loW 0), .int .u64 0, .int .i64 0] 36) = W2 at HM2 HB3 ⊢
    generalize w2.heap.size = g8 at HM2 HG8 ⊢
    have hrq : RdP W2 none 0 [] := ⟨rfl, fun p hp => by omega⟩
    refine (Ref8.ofF t HTT.out none 0 0 [] _ hrq HL.out (by omega)).mono ?_
    rw [HE.out]
    rintro e w3 ⟨⟨s3, A3, n3, c3⟩, rfl, hB3, hb, _⟩
    have HM3 := hid (HM2.out.below hb)
    have HB4 := hid (below_on HB3.out hb)
    have HIB : Hid (IsB (w3.alloc (.cells #[.int .u64 t, .bool s3, .slice A3 n3 c3, .int .u64 0, .int .i64 0] 43)) 18 s3 A3 n3 c3 0) := hid (IsB.alloc hB3 _)
    clear hb hB3 HM2 HB3 HB2 hrq
    dsimp only
    have HR4 : Hid (Cs (w3.alloc (.cells #[.int .u64 t, .bool s3, .slice A3 n3 c3, .int .u64 0, .int .i64 0] 43)) w3.heap.size (rmC ⟨t, 0, 0, 0⟩ (s3, A3, n3, c3))) := hid (Cs.alloc_new6 w3 43 (rmC ⟨t, 0, 0, 0⟩ (s3, A3, n3, c3)))
    have HM4 := hid (HM3.out.below ((Below.refl w3.heap.size w3).alloc (Nat.le_refl _) (.cells #[.int .u64 t, .bool s3, .slice A3 n3 c3, .int .u64 0, .int .i64 0] 43)))
    have HB5 := hid (HB4.out.alloc HB4.out.size (.cells #[.int .u64 t, .bool s3, .slice A3 n3 c3, .int .u64 0, .int .i64 0] 43))
    clear HM3 HB4
    go_upto_region 13 with fail
    generalize w3.alloc (.cells #[.int .u64 t, .bool s3, .slice A3 n3 c3, .int .u64 0, .int .i64 0] 43) = W3 at HIB HR4 HM4 HB5 ⊢
    generalize w3.heap.size = g10 at HR4 ⊢
    obtain ⟨m0, m1, m2, m3, m4⟩ := Mu.at _ HM4.out
    obtain ⟨k0, k1, k2, k3, k4⟩ := rm_at HR4.out
    go_wp2_with fail
    clear m0 m1 m2 m3 m4 k0 k1 k2 k3 k4
    refine (Law8.same ⟨t, 0, 0, 0⟩ s3 A3 n3 c3 HMI.out _ HIB.out).mono ?_
    rintro e w4 ⟨rfl, hb⟩
    have HM5 := hid (HM4.out.below hb)
    have HB6 := hid (below_on HB5.out hb)
    clear hb HM4 HB5 HIB HR4
    go_wp2_with fail
    refine (Sls.clone0 A c _).mono ?_
    rintro e w5 ⟨A5, c5, rfl, hb⟩
    have HM6 := hid (HM5.out.below hb)
    have HB7 := hid (below_on HB6.out hb)
    clear hb HM5 HB6
    go_wp2_with fail
    refine (Sls.reverse0 A5 c5 _).mono ?_
    rintro e w6 ⟨rfl, hb⟩
    have HM7 := hid (HM6.out.below hb)
    have HB8 := hid (below_on HB7.out hb)
    clear hb HM6 HB7
    go_wp2_with fail
    refine (Mean.of t HTT.out A5 0 c5 [] _ ⟨rfl, fun p hp => by omega⟩ HL.out (by omega)).mono ?_
    rw [HE.out]
    rintro e w7 ⟨rfl, hb⟩
    have HM8a := hid (HM7.out.below hb)
    have HB10 := hid (below_on HB8.out hb)
    clear hb HM7 HB8
    dsimp only
    have HN7 : Hid (Cs (w7.alloc (.cells #[.int .u64 t, .int .i64 (hiW 0), .int .u64 (loW 0), .int .u64 0, .int .i64 0] 36)) w7.heap.size (Mu.cells ⟨t, 0, 0, 0⟩)) := hid (Cs.alloc_new6 w7 36 (Mu.cells ⟨t, 0, 0, 0⟩))
    have HM8 := hid (HM8a.out.below ((Below.refl w7.heap.size w7).alloc (Nat.le_refl _) (.cells #[.int .u64 t, .int .i64 (hiW 0), .int .u64 (loW 0), .int .u64 0, .int .i64 0] 36)))
    have HB11 := hid (HB10.out.alloc HB10.out.size (.cells #[.int .u64 t, .int .i64 (hiW 0), .int .u64 (loW 0), .int .u64 0, .int .i64 0] 36))
    clear HM8a HB10
    go_upto_region 18 with fail
    generalize w7.alloc (.cells #[.int .u64 t, .int .i64 (hiW 0), .int .u64 (loW 0), .int .u64 0, .int .i64 0] 36) = W7 at HN7 HM8 HB11 ⊢
    generalize w7.heap.size = g13 at HN7 ⊢
    obtain ⟨m0, m1, m2, m3, m4⟩ := Mu.at _ HM8.out
    obtain ⟨k0, k1, k2, k3, k4⟩ := Mu.at _ HN7.out
    go_wp2_with fail
    clear m0 m1 m2 m3 m4 k0 k1 k2 k3 k4 HN7
    go_loopg [77] 0 (fun s i wr => i = .int .i64 0 ∧ s = 0 ∧ Cs wr g8 (Mu.cells ⟨t, 0, 0, 0⟩) ∧ Below w.heap.size w wr)
    case atStart => exact ⟨rfl, rfl, HM8.out, HB11.out⟩
    case round =>
      obtain ⟨rfl, hs, hm, hb⟩ := hrel
      have HMe := hid hm
      have HB := hid hb
      clear hs hm hb HM8 HB11
      obtain ⟨m0, m1, m2, m3, m4⟩ := Mu.at _ HMe.out
      have z1 : hiW 0 = 0 := by decide
      have z2 : loW 0 = 0 := by decide
      simp only [z1, z2] at m0 m1 m2 m3 m4
      go_wp2_with fail
      go_ret
      exact ⟨by first | rfl | simp, HB.out⟩
theorem Msum.law (t : Int) (A : Option Addr) (n c : Nat) (l : List P3) (w : World) (w0 : (Lit.int .u64 t).wf = true) (h : RdP w A n l ∧ InP l ∧ n ≤ 9223372036854775807) (htab : Tab10 w.heap.size w) :
    Calls Tryz.prog 3 #[.int .u64 t, .slice A n c] w fun e w' => e = .returned (.bool true) ∧ Below w.heap.size w w' := by
  by_cases hn : 40 < n
  · exact Msum.away t A n c w hn htab
  · rcases Nat.eq_zero_or_pos n with h0 | h0
    · subst h0; exact Msum.core0 t (bounds_u64 w0) A c l w h.1 (fun q hq => h.2.1 q hq) htab
    · exact Msum.core t (bounds_u64 w0) A n c l w h.1 (fun q hq => h.2.1 q hq) h0 (by omega) htab
end

end Go.Proofs.YtklaghleghncoaaGreatDoor

/- Texts of MeanSums's proof, together. -/
import Derived.Test.YtklaghleghncoaaGreatDoorMeanSumsZ17
import Derived.Test.YtklaghleghncoaaGreatDoorMeanSumsZ0
import Derived.Test.YtklaghleghncoaaGreatDoorOpenP
namespace Go.Proofs.YtklaghleghncoaaGreatDoor
/- The contracts of the package mean: the virtual time; of some positions. -/
section
open Go.RowKit
def M1 (w : World) (m : Mu) (w' : World) : Prop := Cs w' w.heap.size m.cells ∧ Below w.heap.size w w'
theorem M1.below {w w1 w2 : World} {m : Mu} (h : M1 w m w1) (hb : Below w1.heap.size w1 w2) : M1 w m w2 := ⟨h.1.below hb, below_on h.2 hb⟩
theorem M1.new (w : World) (m : Mu) : M1 w m (w.alloc (.cells #[.int .u64 m.b, .int .i64 (hiW m.a), .int .u64 (loW m.a), .int .u64 m.w, .int .i64 m.n] 36)) := ⟨Cs.alloc_new6 w 36 m.cells, (Below.refl w.heap.size w).alloc (Nat.le_refl _) _⟩
theorem div_wr {a b : Int} (ha : WR a) (hb : 0 < b) : WR (a / b) := by
  unfold WR at *
  have h1 : -170141183460469231731687303715884105728 * b ≤ a := by
    have := Int.mul_le_mul_of_nonneg_left (show (1 : Int) ≤ b by omega) (show (0 : Int) ≤ 170141183460469231731687303715884105728 by decide)
    rw [Int.neg_mul]; omega
  have h2 : a < 170141183460469231731687303715884105728 * b := by
    have := Int.mul_le_mul_of_nonneg_left (show (1 : Int) ≤ b by omega) (show (0 : Int) ≤ 170141183460469231731687303715884105728 by decide)
    omega
  have h3 := fl_lo hb h1
  have h4 := fl_hi hb h2
  omega
set_option maxRecDepth 100000 in
set_option maxHeartbeats 4000000 in
theorem Mean.floor (m : Mu) (hm : m.In) (w : World) : Calls Tryz.prog 45 #[m.val] w (Ans (.tuple #[.int .u64 m.fl.2, .bool m.fl.1]) w) := by
  have HM := hid hm
  have HQ0 := hid (M1.new w m)
  clear hm
  unfold Mu.val
  cases h1 : m.right with
  | false =>
    have E : Hid (m.fl = (false, 0)) := hid (by unfold Mu.fl Mu.flOk; rw [h1, if_neg (by simp)])
    rw [E.out]
    have H1 := hid h1
    clear h1
    go_enter Tryz.func45, Tryz.ntmps45
    go_wp2_with fail
    generalize (w.alloc (.cells #[.int .u64 m.b, .int .i64 (hiW m.a), .int .u64 (loW m.a), .int .u64 m.w, .int .i64 m.n] 36)) = W0 at HQ0 ⊢
    obtain ⟨m0, m1, m2, m3, m4⟩ := Mu.at m HQ0.out.1
    go_wp2_with fail
    refine (Mean.right m HM.out _).mono ?_
    rintro e w1 ⟨rfl, hb⟩
    have HQ1 := hid (HQ0.out.below hb)
    clear hb HQ0 m0 m1 m2 m3 m4
    rw [H1.out]
    go_wp2_with fail
    go_ret2
    exact ⟨rfl, HQ1.out.2⟩
  | true =>
    by_cases h2 : m.n = 0
    · have C2 := hid (show (m.n == 0) = true by rw [h2]; rfl)
      have E : Hid (m.fl = (false, 0)) := hid (by unfold Mu.fl Mu.flOk; rw [h2, if_neg (by simp)])
      rw [E.out]
      have H1 := hid h1
      clear h1 h2
      go_enter Tryz.func45, Tryz.ntmps45
      go_wp2_with fail
      generalize (w.alloc (.cells #[.int .u64 m.b, .int .i64 (hiW m.a), .int .u64 (loW m.a), .int .u64 m.w, .int .i64 m.n] 36)) = W0 at HQ0 ⊢
      obtain ⟨m0, m1, m2, m3, m4⟩ := Mu.at m HQ0.out.1
      go_wp2_with fail
      refine (Mean.right m HM.out _).mono ?_
      rintro e w1 ⟨rfl, hb⟩
      have HQ1 := hid (HQ0.out.below hb)
      clear hb HQ0 m0 m1 m2 m3 m4
      rw [H1.out]
      obtain ⟨m0, m1, m2, m3, m4⟩ := Mu.at m HQ1.out.1
      have c2 := C2.out
      go_wp2_with fail
      go_ret2
      exact ⟨rfl, HQ1.out.2⟩
    · have h2' : (m.n == 0) = false := by simpa using h2
      have HW := hid (right_w h1 h2)
      have HD := hid (div_wr HM.out.2.1 (show 0 < m.w by have := HW.out; omega))
      cases hs : smI (m.a / m.w) with
      | false =>
        have E : Hid (m.fl = (false, 0)) := hid (by unfold Mu.fl Mu.flOk; rw [h1, hs]; simp [h2])
        have H1 := hid h1
        have HS := hid hs
        clear h1 h2 hs
        rw [E.out]
        go_enter Tryz.func45, Tryz.ntmps45
        go_wp2_with fail
        generalize (w.alloc (.cells #[.int .u64 m.b, .int .i64 (hiW m.a), .int .u64 (loW m.a), .int .u64 m.w, .int .i64 m.n] 36)) = W0 at HQ0 ⊢
        obtain ⟨m0, m1, m2, m3, m4⟩ := Mu.at m HQ0.out.1
        go_wp2_with fail
        refine (Mean.right m HM.out _).mono ?_
        rintro e w1 ⟨rfl, hb⟩
        have HQ1 := hid (HQ0.out.below hb)
        clear hb HQ0 m0 m1 m2 m3 m4
        rw [H1.out]
        obtain ⟨m0, m1, m2, m3, m4⟩ := Mu.at m HQ1.out.1
        go_wp2_with fail
        refine (Wide.divF HM.out.2.1 (by have := HW.out; omega) (by have := HW.out; omega) _).mono ?_
        rintro e w2 ⟨rfl, hb⟩
        have HQ2 := hid ((HQ1.out.below hb).below ((Below.refl _ _).alloc (Nat.le_refl _) (.cells #[.int .i64 (hiW (m.a / m.w)), .int .u64 (loW (m.a / m.w))] 34)))
        clear hb HQ1 m0 m1 m2 m3 m4 h2'
        go_wp2_with fail
        refine (Wide.smallF HD.out _).mono ?_
        rintro e w3 ⟨rfl, hb⟩
        have HQ3 := hid (HQ2.out.below hb)
        clear hb HQ2
        rw [HS.out]
        rw [if_neg (by decide)]
        go_wp2_with fail
        go_ret2
        exact ⟨rfl, HQ3.out.2⟩
      | true =>
        have E : Hid (m.fl = (true, adv m.b (m.a / m.w))) := hid (by unfold Mu.fl Mu.flOk; rw [h1, hs]; simp [h2])
        have H1 := hid h1
        have HS := hid hs
        clear h1 h2 hs
        rw [E.out]
        go_enter Tryz.func45, Tryz.ntmps45
        go_wp2_with fail
        generalize (w.alloc (.cells #[.int .u64 m.b, .int .i64 (hiW m.a), .int .u64 (loW m.a), .int .u64 m.w, .int .i64 m.n] 36)) = W0 at HQ0 ⊢
        obtain ⟨m0, m1, m2, m3, m4⟩ := Mu.at m HQ0.out.1
        go_wp2_with fail
        refine (Mean.right m HM.out _).mono ?_
        rintro e w1 ⟨rfl, hb⟩
        have HQ1 := hid (HQ0.out.below hb)
        clear hb HQ0 m0 m1 m2 m3 m4
        rw [H1.out]
        obtain ⟨m0, m1, m2, m3, m4⟩ := Mu.at m HQ1.out.1
        go_wp2_with fail
        refine (Wide.divF HM.out.2.1 (by have := HW.out; omega) (by have := HW.out; omega) _).mono ?_
        rintro e w2 ⟨rfl, hb⟩
        have HQ2 := hid ((HQ1.out.below hb).below ((Below.refl _ _).alloc (Nat.le_refl _) (.cells #[.int .i64 (hiW (m.a / m.w)), .int .u64 (loW (m.a / m.w))] 34)))
        clear hb HQ1 m0 m1 m2 m3 m4 h2'
        go_wp2_with fail
        refine (Wide.smallF HD.out _).mono ?_
        rintro e w3 ⟨rfl, hb⟩
        have HQ3 := hid (HQ2.out.below hb)
        clear hb HQ2
        rw [HS.out]
        rw [if_pos rfl]
        obtain ⟨m0, m1, m2, m3, m4⟩ := Mu.at m HQ3.out.1
        go_wp2_with fail
        refine (Vtime.add m.b (m.a / m.w) _).mono ?_
        rintro e w4 ⟨rfl, hb⟩
        have HQ4 := hid (HQ3.out.below hb)
        clear hb HQ3 m0 m1 m2 m3 m4
        go_wp2_with fail
        go_ret2
        exact ⟨rfl, HQ4.out.2⟩
/-- Of's variables. -/
def O2 (w : World) (m : Mu) (w' : World) : Prop := Cs w' w.heap.size [.int .u64 0, .int .i64 0, .int .u64 0, .int .u64 0, .int .i64 0] ∧ Cs w' (w.heap.size + 1) m.cells ∧ Below w.heap.size w w'
theorem O2.below {w w1 w2 : World} {m : Mu} (h : O2 w m w1) (hb : Below w1.heap.size w1 w2) : O2 w m w2 := ⟨h.1.below hb, h.2.1.below hb, below_on h.2.2 hb⟩
theorem O2.putM {w w1 : World} {m : Mu} (h : O2 w m w1) (k : Mu) {W : World} (hW : W = w1.setCells (w.heap.size + 1) 0 [.int .u64 k.b, .int .i64 (hiW k.a), .int .u64 (loW k.a), .int .u64 k.w, .int .i64 k.n]) : O2 w k W := by
  rw [hW]; exact ⟨h.1.fars (by omega) _ _, Cs.putL _ 0 h.2.1 (by simp [Mu.cells]), below_sets (by omega) _ _ h.2.2⟩
theorem O2.putR {w w1 : World} {m : Mu} (h : O2 w m w1) {a' b' c' d' e' : Value} {W : World} (hW : W = w1.setCells w.heap.size 0 [a', b', c', d', e']) : Cs W w.heap.size [a', b', c', d', e'] ∧ Below w.heap.size w W := by
  rw [hW]; exact ⟨Cs.putL [a', b', c', d', e'] 0 h.1 (by simp), below_sets (Nat.le_refl _) _ _ h.2.2⟩
set_option maxRecDepth 100000 in
set_option maxHeartbeats 8000000 in
theorem Mean.of (base : Int) (hb0 : IsT base) (A : Option Addr) (n c : Nat) (l : List P3) (w : World) (hr : RdP w A n l) (hl : ∀ q ∈ l, PIn q) (hn : n ≤ 1000000) :
    Calls Tryz.prog 9 #[.int .u64 base, .slice A n c] w (Ans (.tuple #[Mu.val (Mu.of base l).2, .bool (Mu.of base l).1]) w) := by
  have HB0 := hid hb0
  have HR := hid hr
  have HL := hid hl
  have HLN : Hid (l.length = n) := hid hr.1
  have hni : (n : Int) ≤ 1000000 := by omega
  have HO0 : Hid (O2 w ⟨base, 0, 0, 0⟩ ((w.alloc (.cells #[.int .u64 0, .int .i64 0, .int .u64 0, .int .u64 0, .int .i64 0] 36)).alloc (.cells #[.int .u64 base, .int .i64 0, .int .u64 0, .int .u64 0, .int .i64 0] 36))) := hid (by
    have h1 := Cs.alloc_new6 w 36 [.int .u64 0, .int .i64 0, .int .u64 0, .int .u64 0, .int .i64 0]
    have h2 := Cs.alloc_new6 (w.alloc (.cells #[.int .u64 0, .int .i64 0, .int .u64 0, .int .u64 0, .int .i64 0] 36)) 36 [.int .u64 base, .int .i64 0, .int .u64 0, .int .u64 0, .int .i64 0]
    simp only [World.size_alloc] at h2
    exact ⟨h1.alloc _, h2, ((Below.refl w.heap.size w).alloc (Nat.le_refl _) _).alloc (by simp) _⟩)
  clear hr hl hb0
  go_enter Tryz.func9, Tryz.ntmps9
  go_wp2_with fail
  generalize ((w.alloc (.cells #[.int .u64 0, .int .i64 0, .int .u64 0, .int .u64 0, .int .i64 0] 36)).alloc (.cells #[.int .u64 base, .int .i64 0, .int .u64 0, .int .u64 0, .int .i64 0] 36)) = W0 at HO0 ⊢
  go_loopg [14] n (fun s i wr => ∃ k : Nat, i = .int .i64 k ∧ k ≤ n ∧ s = n - k ∧ (Mu.of base (l.take k)).1 = true ∧ O2 w (Mu.of base (l.take k)).2 wr)
  case atStart => exact ⟨0, rfl, Nat.zero_le _, by omega, rfl, HO0.out⟩
  case round =>
    obtain ⟨k, rfl, hk, hs, ht, ho⟩ := hrel
    have HS := hid hs
    have HT := hid ht
    have HO := hid ho
    clear hs ht ho HO0
    by_cases hkn : k < n
    · obtain ⟨bb, off, hA, _, hc⟩ := (HR.out.below HO.out.2.2).2 0 (by omega)
      obtain ⟨p0, p1, p2⟩ := hc k hkn
      have hkl : k < l.length := by have := HLN.out; omega
      have HKL := hid hkl
      have HX := hid (HL.out _ (getD_mem hkl))
      have HIN := hid (of_in (base := base) (l := l.take k) HB0.out (fun q hq => HL.out q (List.mem_of_mem_take hq)))
      have HFA := hid (fun h => of_fails (base := base) hkl HT.out h)
      have HGO := hid (fun h => of_goes (base := base) hkl HT.out h)
      subst hA
      have hki : (k : Int) < n := by omega
      clear hc hkl
      generalize l.getD k (0, 0, 0) = x at *
      have HOa := hid (HO.out.below ((Below.refl wr.heap.size wr).alloc (Nat.le_refl _) (.cells #[.int .u64 x.1, .int .u32 x.2.1, .int .u32 x.2.2] 29)))
      obtain ⟨m0, m1, m2, m3, m4⟩ := Mu.at _ HOa.out.2.1
      go_wp2_with fail
      refine (Mean.add _ x HIN.out HX.out _).mono ?_
      rintro e w2 ⟨rfl, hb⟩
      have HO2 := hid (HOa.out.below hb)
      clear hb p0 p1 p2 m0 m1 m2 m3 m4 HOa
      cases hok : ((Mu.of base (l.take k)).2.add x).1 with
      | false =>
        have E := hid (HFA.out hok)
        have HCr := hid HO2.out.2.1
        generalize ((Mu.of base (l.take k)).2.add x).2 = y at *
        go_wp2_with (first | ((with_reducible refine wpList_put_cs 36 [.int .u64 y.b, .int .i64 (hiW y.a), .int .u64 (loW y.a), .int .u64 y.w, .int .i64 y.n] infoMean rfl (.tmp 6) (.tmp 22) rfl (w.heap.size + 1) _ HCr.out ?h101_1 ?h101_2 ?h101_3 ?h101_4 ?h101_5 ?h101_6); (case h101_1 => rfl); (case h101_2 => rfl); (case h101_3 => rfl); (case h101_4 => rfl); (case h101_5 => rfl); (intro W2 hW2); (have HO3 := hid (HO2.out.putM y hW2)); (clear hW2); (have HCq := hid HO3.out.1)) | ((with_reducible refine wpList_put_cs 36 [.int .u64 0, .int .i64 0, .int .u64 0, .int .u64 0, .int .i64 0] infoMean rfl (.tmp 4) (.tmp 26) rfl w.heap.size _ HCq.out ?h102_1 ?h102_2 ?h102_3 ?h102_4 ?h102_5 ?h102_6); (case h102_1 => rfl); (case h102_2 => rfl); (case h102_3 => rfl); (case h102_4 => rfl); (case h102_5 => rfl); (intro W2 hW2); (have HW := hid (HO3.out.putR hW2)); (clear hW2)) | fail)
        obtain ⟨z0, z1, z2, z3, z4⟩ := HW.out.1.five
        go_wp2_with fail
        refine bodyPost_ret (v := .tuple #[Mu.val Mu.no, .bool false]) (by simp [results, Tryz.results9, go_sem, z0, z1, z2, z3, z4, hiW0, loW0]) rfl ⟨by rw [E.out], HW.out.2⟩
      | true =>
        obtain ⟨g1, g2⟩ := HGO.out hok
        have HG1 := hid g1
        have HG2 := hid g2
        have HCr := hid HO2.out.2.1
        clear g1 g2
        generalize ((Mu.of base (l.take k)).2.add x).2 = y at *
        go_wp2_with (first | ((with_reducible refine wpList_put_cs 36 [.int .u64 y.b, .int .i64 (hiW y.a), .int .u64 (loW y.a), .int .u64 y.w, .int .i64 y.n] infoMean rfl (.tmp 6) (.tmp 22) rfl (w.heap.size + 1) _ HCr.out ?h103_1 ?h103_2 ?h103_3 ?h103_4 ?h103_5 ?h103_6); (case h103_1 => rfl); (case h103_2 => rfl); (case h103_3 => rfl); (case h103_4 => rfl); (case h103_5 => rfl); (intro W2 hW2); (have HO3 := hid (HO2.out.putM y hW2)); (clear hW2)) | fail)
        go_roundg (n - (k + 1))
        case measure => have := HS.out; omega
        case rel => exact ⟨k + 1, by go_num, by omega, rfl, HG1.out, by rw [HG2.out]; exact HO3.out⟩
    · obtain rfl : k = n := by omega
      have hki : ¬ (k : Int) < k := by omega
      have e : l.take k = l := List.take_of_length_le (by have := HLN.out; omega)
      have ho := HO.out
      have ht := HT.out
      rw [e] at ho ht
      have HO1 := hid ho
      have HTT := hid ht
      clear ho ht e HO HT
      have HCr := hid HO1.out.1
      obtain ⟨m0, m1, m2, m3, m4⟩ := Mu.at _ HO1.out.2.1
      go_wp2_with (first | ((with_reducible refine wpList_put_cs 36 [.int .u64 (Mu.of base l).2.b, .int .i64 (hiW (Mu.of base l).2.a), .int .u64 (loW (Mu.of base l).2.a), .int .u64 (Mu.of base l).2.w, .int .i64 (Mu.of base l).2.n] infoMean rfl (.tmp 4) (.tmp 28) rfl w.heap.size _ HCr.out ?h104_1 ?h104_2 ?h104_3 ?h104_4 ?h104_5 ?h104_6); (case h104_1 => rfl); (case h104_2 => rfl); (case h104_3 => rfl); (case h104_4 => rfl); (case h104_5 => rfl); (intro W2 hW2); (have HW := hid (HO1.out.putR hW2)); (clear hW2)) | fail)
      clear m0 m1 m2 m3 m4
      obtain ⟨z0, z1, z2, z3, z4⟩ := HW.out.1.five
      go_wp2_with fail
      refine bodyPost_ret (v := .tuple #[Mu.val (Mu.of base l).2, .bool true]) (by simp [results, Tryz.results9, go_sem, z0, z1, z2, z3, z4]) rfl ⟨by rw [HTT.out], HW.out.2⟩
end

/- The contracts of the package lag. -/
section
open Go.RowKit
theorem M2.new2 (w : World) (m : Mu) (p : P3) : M2 w m p [.int .i64 0, .int .u64 0] (((w.alloc (.cells #[.int .u64 m.b, .int .i64 (hiW m.a), .int .u64 (loW m.a), .int .u64 m.w, .int .i64 m.n] 36)).alloc (.cells #[.int .u64 p.1, .int .u32 p.2.1, .int .u32 p.2.2] 29)).alloc (.cells #[.int .i64 0, .int .u64 0] 34)) := by
  have h1 := Cs.alloc_new6 w 36 m.cells
  have h2 := Cs.alloc_new6 (w.alloc (.cells #[.int .u64 m.b, .int .i64 (hiW m.a), .int .u64 (loW m.a), .int .u64 m.w, .int .i64 m.n] 36)) 29 (pcells p)
  have h3 := Cs.alloc_new6 ((w.alloc (.cells #[.int .u64 m.b, .int .i64 (hiW m.a), .int .u64 (loW m.a), .int .u64 m.w, .int .i64 m.n] 36)).alloc (.cells #[.int .u64 p.1, .int .u32 p.2.1, .int .u32 p.2.2] 29)) 34 [.int .i64 0, .int .u64 0]
  simp only [World.size_alloc] at h2 h3
  exact ⟨(h1.alloc _).alloc _, h2.alloc _, h3, (((Below.refl w.heap.size w).alloc (Nat.le_refl _) _).alloc (by simp) _).alloc (by simp; omega) _⟩
theorem M2.put2 {w w1 : World} {m : Mu} {p : P3} {a b : Value} (h : M2 w m p [a, b] w1) {a' b' : Value} {W : World} (hW : W = w1.setCells (w.heap.size + 2) 0 [a', b']) : Cs W (w.heap.size + 2) [a', b'] ∧ Below w.heap.size w W := by
  rw [hW]
  exact ⟨Cs.putL [a', b'] 0 h.2.2.1 (by simp), below_sets (by omega) _ _ h.2.2.2⟩
end

/- The contracts of the package lag, continued. -/
section
open Go.RowKit
def Mu.sign (m : Mu) (p : P3) : Bool × Int := ((m.over p).1, cmpI (m.over p).2 0)
end

end Go.Proofs.YtklaghleghncoaaGreatDoor

/- Texts of LagNought's proof, together. -/
import Derived.Test.YtkddkllepbhnhaaGreatDoorLagNoughtZ17
import Derived.Test.YtkddkllepbhnhaaGreatDoorLagNoughtZ0
import Derived.Test.YtkddkllepbhnhaaGreatDoorOpenP
namespace Go.Proofs.YtkddkllepbhnhaaGreatDoor
/- The contracts of the package mean: the virtual time; of some positions. -/
section
open Go.RowKit
def M1 (w : World) (m : Mu) (w' : World) : Prop := Cs w' w.heap.size m.cells ∧ Below w.heap.size w w'
theorem M1.below {w w1 w2 : World} {m : Mu} (h : M1 w m w1) (hb : Below w1.heap.size w1 w2) : M1 w m w2 := ⟨h.1.below hb, below_on h.2 hb⟩
theorem M1.new (w : World) (m : Mu) : M1 w m (w.alloc (.cells #[.int .u64 m.b, .int .i64 (hiW m.a), .int .u64 (loW m.a), .int .u64 m.w, .int .i64 m.n] 36)) := ⟨Cs.alloc_new6 w 36 m.cells, (Below.refl w.heap.size w).alloc (Nat.le_refl _) _⟩
theorem div_wr {a b : Int} (ha : WR a) (hb : 0 < b) : WR (a / b) := by
  unfold WR at *
  have h1 : -170141183460469231731687303715884105728 * b ≤ a := by
    have := Int.mul_le_mul_of_nonneg_left (show (1 : Int) ≤ b by omega) (show (0 : Int) ≤ 170141183460469231731687303715884105728 by decide)
    rw [Int.neg_mul]; omega
  have h2 : a < 170141183460469231731687303715884105728 * b := by
    have := Int.mul_le_mul_of_nonneg_left (show (1 : Int) ≤ b by omega) (show (0 : Int) ≤ 170141183460469231731687303715884105728 by decide)
    omega
  have h3 := fl_lo hb h1
  have h4 := fl_hi hb h2
  omega
set_option maxRecDepth 100000 in
set_option maxHeartbeats 4000000 in
theorem Mean.floor (m : Mu) (hm : m.In) (w : World) : Calls Tryz.prog 67 #[m.val] w (Ans (.tuple #[.int .u64 m.fl.2, .bool m.fl.1]) w) := by
  have HM := hid hm
  have HQ0 := hid (M1.new w m)
  clear hm
  unfold Mu.val
  cases h1 : m.right with
  | false =>
    have E : Hid (m.fl = (false, 0)) := hid (by unfold Mu.fl Mu.flOk; rw [h1, if_neg (by simp)])
    rw [E.out]
    have H1 := hid h1
    clear h1
    go_enter Tryz.func67, Tryz.ntmps67
    go_wp2_with fail
    generalize (w.alloc (.cells #[.int .u64 m.b, .int .i64 (hiW m.a), .int .u64 (loW m.a), .int .u64 m.w, .int .i64 m.n] 36)) = W0 at HQ0 ⊢
    obtain ⟨m0, m1, m2, m3, m4⟩ := Mu.at m HQ0.out.1
    go_wp2_with fail
    refine (Mean.right m HM.out _).mono ?_
    rintro e w1 ⟨rfl, hb⟩
    have HQ1 := hid (HQ0.out.below hb)
    clear hb HQ0 m0 m1 m2 m3 m4
    rw [H1.out]
    go_wp2_with fail
    go_ret2
    exact ⟨rfl, HQ1.out.2⟩
  | true =>
    by_cases h2 : m.n = 0
    · have C2 := hid (show (m.n == 0) = true by rw [h2]; rfl)
      have E : Hid (m.fl = (false, 0)) := hid (by unfold Mu.fl Mu.flOk; rw [h2, if_neg (by simp)])
      rw [E.out]
      have H1 := hid h1
      clear h1 h2
      go_enter Tryz.func67, Tryz.ntmps67
      go_wp2_with fail
      generalize (w.alloc (.cells #[.int .u64 m.b, .int .i64 (hiW m.a), .int .u64 (loW m.a), .int .u64 m.w, .int .i64 m.n] 36)) = W0 at HQ0 ⊢
      obtain ⟨m0, m1, m2, m3, m4⟩ := Mu.at m HQ0.out.1
      go_wp2_with fail
      refine (Mean.right m HM.out _).mono ?_
      rintro e w1 ⟨rfl, hb⟩
      have HQ1 := hid (HQ0.out.below hb)
      clear hb HQ0 m0 m1 m2 m3 m4
      rw [H1.out]
      obtain ⟨m0, m1, m2, m3, m4⟩ := Mu.at m HQ1.out.1
      have c2 := C2.out
      go_wp2_with fail
      go_ret2
      exact ⟨rfl, HQ1.out.2⟩
    · have h2' : (m.n == 0) = false := by simpa using h2
      have HW := hid (right_w h1 h2)
      have HD := hid (div_wr HM.out.2.1 (show 0 < m.w by have := HW.out; omega))
      cases hs : smI (m.a / m.w) with
      | false =>
        have E : Hid (m.fl = (false, 0)) := hid (by unfold Mu.fl Mu.flOk; rw [h1, hs]; simp [h2])
        have H1 := hid h1
        have HS := hid hs
        clear h1 h2 hs
        rw [E.out]
        go_enter Tryz.func67, Tryz.ntmps67
        go_wp2_with fail
        generalize (w.alloc (.cells #[.int .u64 m.b, .int .i64 (hiW m.a), .int .u64 (loW m.a), .int .u64 m.w, .int .i64 m.n] 36)) = W0 at HQ0 ⊢
        obtain ⟨m0, m1, m2, m3, m4⟩ := Mu.at m HQ0.out.1
        go_wp2_with fail
        refine (Mean.right m HM.out _).mono ?_
        rintro e w1 ⟨rfl, hb⟩
        have HQ1 := hid (HQ0.out.below hb)
        clear hb HQ0 m0 m1 m2 m3 m4
        rw [H1.out]
        obtain ⟨m0, m1, m2, m3, m4⟩ := Mu.at m HQ1.out.1
        go_wp2_with fail
        refine (Wide.divF HM.out.2.1 (by have := HW.out; omega) (by have := HW.out; omega) _).mono ?_
        rintro e w2 ⟨rfl, hb⟩
        have HQ2 := hid ((HQ1.out.below hb).below ((Below.refl _ _).alloc (Nat.le_refl _) (.cells #[.int .i64 (hiW (m.a / m.w)), .int .u64 (loW (m.a / m.w))] 34)))
        clear hb HQ1 m0 m1 m2 m3 m4 h2'
        go_wp2_with fail
        refine (Wide.smallF HD.out _).mono ?_
        rintro e w3 ⟨rfl, hb⟩
        have HQ3 := hid (HQ2.out.below hb)
        clear hb HQ2
        rw [HS.out]
        rw [if_neg (by decide)]
        go_wp2_with fail
        go_ret2
        exact ⟨rfl, HQ3.out.2⟩
      | true =>
        have E : Hid (m.fl = (true, adv m.b (m.a / m.w))) := hid (by unfold Mu.fl Mu.flOk; rw [h1, hs]; simp [h2])
        have H1 := hid h1
        have HS := hid hs
        clear h1 h2 hs
        rw [E.out]
        go_enter Tryz.func67, Tryz.ntmps67
        go_wp2_with fail
        generalize (w.alloc (.cells #[.int .u64 m.b, .int .i64 (hiW m.a), .int .u64 (loW m.a), .int .u64 m.w, .int .i64 m.n] 36)) = W0 at HQ0 ⊢
        obtain ⟨m0, m1, m2, m3, m4⟩ := Mu.at m HQ0.out.1
        go_wp2_with fail
        refine (Mean.right m HM.out _).mono ?_
        rintro e w1 ⟨rfl, hb⟩
        have HQ1 := hid (HQ0.out.below hb)
        clear hb HQ0 m0 m1 m2 m3 m4
        rw [H1.out]
        obtain ⟨m0, m1, m2, m3, m4⟩ := Mu.at m HQ1.out.1
        go_wp2_with fail
        refine (Wide.divF HM.out.2.1 (by have := HW.out; omega) (by have := HW.out; omega) _).mono ?_
        rintro e w2 ⟨rfl, hb⟩
        have HQ2 := hid ((HQ1.out.below hb).below ((Below.refl _ _).alloc (Nat.le_refl _) (.cells #[.int .i64 (hiW (m.a / m.w)), .int .u64 (loW (m.a / m.w))] 34)))
        clear hb HQ1 m0 m1 m2 m3 m4 h2'
        go_wp2_with fail
        refine (Wide.smallF HD.out _).mono ?_
        rintro e w3 ⟨rfl, hb⟩
        have HQ3 := hid (HQ2.out.below hb)
        clear hb HQ2
        rw [HS.out]
        rw [if_pos rfl]
        obtain ⟨m0, m1, m2, m3, m4⟩ := Mu.at m HQ3.out.1
        go_wp2_with fail
        refine (Vtime.add m.b (m.a / m.w) _).mono ?_
        rintro e w4 ⟨rfl, hb⟩
        have HQ4 := hid (HQ3.out.below hb)
        clear hb HQ3 m0 m1 m2 m3 m4
        go_wp2_with fail
        go_ret2
        exact ⟨rfl, HQ4.out.2⟩
/-- Of's variables. -/
def O2 (w : World) (m : Mu) (w' : World) : Prop := Cs w' w.heap.size [.int .u64 0, .int .i64 0, .int .u64 0, .int .u64 0, .int .i64 0] ∧ Cs w' (w.heap.size + 1) m.cells ∧ Below w.heap.size w w'
theorem O2.below {w w1 w2 : World} {m : Mu} (h : O2 w m w1) (hb : Below w1.heap.size w1 w2) : O2 w m w2 := ⟨h.1.below hb, h.2.1.below hb, below_on h.2.2 hb⟩
theorem O2.putM {w w1 : World} {m : Mu} (h : O2 w m w1) (k : Mu) {W : World} (hW : W = w1.setCells (w.heap.size + 1) 0 [.int .u64 k.b, .int .i64 (hiW k.a), .int .u64 (loW k.a), .int .u64 k.w, .int .i64 k.n]) : O2 w k W := by
  rw [hW]; exact ⟨h.1.fars (by omega) _ _, Cs.putL _ 0 h.2.1 (by simp [Mu.cells]), below_sets (by omega) _ _ h.2.2⟩
theorem O2.putR {w w1 : World} {m : Mu} (h : O2 w m w1) {a' b' c' d' e' : Value} {W : World} (hW : W = w1.setCells w.heap.size 0 [a', b', c', d', e']) : Cs W w.heap.size [a', b', c', d', e'] ∧ Below w.heap.size w W := by
  rw [hW]; exact ⟨Cs.putL [a', b', c', d', e'] 0 h.1 (by simp), below_sets (Nat.le_refl _) _ _ h.2.2⟩
set_option maxRecDepth 100000 in
set_option maxHeartbeats 8000000 in
theorem Mean.of (base : Int) (hb0 : IsT base) (A : Option Addr) (n c : Nat) (l : List P3) (w : World) (hr : RdP w A n l) (hl : ∀ q ∈ l, PIn q) (hn : n ≤ 1000000) :
    Calls Tryz.prog 15 #[.int .u64 base, .slice A n c] w (Ans (.tuple #[Mu.val (Mu.of base l).2, .bool (Mu.of base l).1]) w) := by
  have HB0 := hid hb0
  have HR := hid hr
  have HL := hid hl
  have HLN : Hid (l.length = n) := hid hr.1
  have hni : (n : Int) ≤ 1000000 := by omega
  have HO0 : Hid (O2 w ⟨base, 0, 0, 0⟩ ((w.alloc (.cells #[.int .u64 0, .int .i64 0, .int .u64 0, .int .u64 0, .int .i64 0] 36)).alloc (.cells #[.int .u64 base, .int .i64 0, .int .u64 0, .int .u64 0, .int .i64 0] 36))) := hid (by
    have h1 := Cs.alloc_new6 w 36 [.int .u64 0, .int .i64 0, .int .u64 0, .int .u64 0, .int .i64 0]
    have h2 := Cs.alloc_new6 (w.alloc (.cells #[.int .u64 0, .int .i64 0, .int .u64 0, .int .u64 0, .int .i64 0] 36)) 36 [.int .u64 base, .int .i64 0, .int .u64 0, .int .u64 0, .int .i64 0]
    simp only [World.size_alloc] at h2
    exact ⟨h1.alloc _, h2, ((Below.refl w.heap.size w).alloc (Nat.le_refl _) _).alloc (by simp) _⟩)
  clear hr hl hb0
  go_enter Tryz.func15, Tryz.ntmps15
  go_wp2_with fail
  generalize ((w.alloc (.cells #[.int .u64 0, .int .i64 0, .int .u64 0, .int .u64 0, .int .i64 0] 36)).alloc (.cells #[.int .u64 base, .int .i64 0, .int .u64 0, .int .u64 0, .int .i64 0] 36)) = W0 at HO0 ⊢
  go_loopg [14] n (fun s i wr => ∃ k : Nat, i = .int .i64 k ∧ k ≤ n ∧ s = n - k ∧ (Mu.of base (l.take k)).1 = true ∧ O2 w (Mu.of base (l.take k)).2 wr)
  case atStart => exact ⟨0, rfl, Nat.zero_le _, by omega, rfl, HO0.out⟩
  case round =>
    obtain ⟨k, rfl, hk, hs, ht, ho⟩ := hrel
    have HS := hid hs
    have HT := hid ht
    have HO := hid ho
    clear hs ht ho HO0
    by_cases hkn : k < n
    · obtain ⟨bb, off, hA, _, hc⟩ := (HR.out.below HO.out.2.2).2 0 (by omega)
      obtain ⟨p0, p1, p2⟩ := hc k hkn
      have hkl : k < l.length := by have := HLN.out; omega
      have HKL := hid hkl
      have HX := hid (HL.out _ (getD_mem hkl))
      have HIN := hid (of_in (base := base) (l := l.take k) HB0.out (fun q hq => HL.out q (List.mem_of_mem_take hq)))
      have HFA := hid (fun h => of_fails (base := base) hkl HT.out h)
      have HGO := hid (fun h => of_goes (base := base) hkl HT.out h)
      subst hA
      have hki : (k : Int) < n := by omega
      clear hc hkl
      generalize l.getD k (0, 0, 0) = x at *
      have HOa := hid (HO.out.below ((Below.refl wr.heap.size wr).alloc (Nat.le_refl _) (.cells #[.int .u64 x.1, .int .u32 x.2.1, .int .u32 x.2.2] 29)))
      obtain ⟨m0, m1, m2, m3, m4⟩ := Mu.at _ HOa.out.2.1
      go_wp2_with fail
      refine (Mean.add _ x HIN.out HX.out _).mono ?_
      rintro e w2 ⟨rfl, hb⟩
      have HO2 := hid (HOa.out.below hb)
      clear hb p0 p1 p2 m0 m1 m2 m3 m4 HOa
      cases hok : ((Mu.of base (l.take k)).2.add x).1 with
      | false =>
        have E := hid (HFA.out hok)
        have HCr := hid HO2.out.2.1
        generalize ((Mu.of base (l.take k)).2.add x).2 = y at *
        go_wp2_with (first | ((with_reducible refine wpList_put_cs 36 [.int .u64 y.b, .int .i64 (hiW y.a), .int .u64 (loW y.a), .int .u64 y.w, .int .i64 y.n] infoMean rfl (.tmp 6) (.tmp 22) rfl (w.heap.size + 1) _ HCr.out ?h101_1 ?h101_2 ?h101_3 ?h101_4 ?h101_5 ?h101_6); (case h101_1 => rfl); (case h101_2 => rfl); (case h101_3 => rfl); (case h101_4 => rfl); (case h101_5 => rfl); (intro W2 hW2); (have HO3 := hid (HO2.out.putM y hW2)); (clear hW2); (have HCq := hid HO3.out.1)) | ((with_reducible refine wpList_put_cs 36 [.int .u64 0, .int .i64 0, .int .u64 0, .int .u64 0, .int .i64 0] infoMean rfl (.tmp 4) (.tmp 26) rfl w.heap.size _ HCq.out ?h102_1 ?h102_2 ?h102_3 ?h102_4 ?h102_5 ?h102_6); (case h102_1 => rfl); (case h102_2 => rfl); (case h102_3 => rfl); (case h102_4 => rfl); (case h102_5 => rfl); (intro W2 hW2); (have HW := hid (HO3.out.putR hW2)); (clear hW2)) | fail)
        obtain ⟨z0, z1, z2, z3, z4⟩ := HW.out.1.five
        go_wp2_with fail
        refine bodyPost_ret (v := .tuple #[Mu.val Mu.no, .bool false]) (by simp [results, Tryz.results15, go_sem, z0, z1, z2, z3, z4, hiW0, loW0]) rfl ⟨by rw [E.out], HW.out.2⟩
      | true =>
        obtain ⟨g1, g2⟩ := HGO.out hok
        have HG1 := hid g1
        have HG2 := hid g2
        have HCr := hid HO2.out.2.1
        clear g1 g2
        generalize ((Mu.of base (l.take k)).2.add x).2 = y at *
        go_wp2_with (first | ((with_reducible refine wpList_put_cs 36 [.int .u64 y.b, .int .i64 (hiW y.a), .int .u64 (loW y.a), .int .u64 y.w, .int .i64 y.n] infoMean rfl (.tmp 6) (.tmp 22) rfl (w.heap.size + 1) _ HCr.out ?h103_1 ?h103_2 ?h103_3 ?h103_4 ?h103_5 ?h103_6); (case h103_1 => rfl); (case h103_2 => rfl); (case h103_3 => rfl); (case h103_4 => rfl); (case h103_5 => rfl); (intro W2 hW2); (have HO3 := hid (HO2.out.putM y hW2)); (clear hW2)) | fail)
        go_roundg (n - (k + 1))
        case measure => have := HS.out; omega
        case rel => exact ⟨k + 1, by go_num, by omega, rfl, HG1.out, by rw [HG2.out]; exact HO3.out⟩
    · obtain rfl : k = n := by omega
      have hki : ¬ (k : Int) < k := by omega
      have e : l.take k = l := List.take_of_length_le (by have := HLN.out; omega)
      have ho := HO.out
      have ht := HT.out
      rw [e] at ho ht
      have HO1 := hid ho
      have HTT := hid ht
      clear ho ht e HO HT
      have HCr := hid HO1.out.1
      obtain ⟨m0, m1, m2, m3, m4⟩ := Mu.at _ HO1.out.2.1
      go_wp2_with (first | ((with_reducible refine wpList_put_cs 36 [.int .u64 (Mu.of base l).2.b, .int .i64 (hiW (Mu.of base l).2.a), .int .u64 (loW (Mu.of base l).2.a), .int .u64 (Mu.of base l).2.w, .int .i64 (Mu.of base l).2.n] infoMean rfl (.tmp 4) (.tmp 28) rfl w.heap.size _ HCr.out ?h104_1 ?h104_2 ?h104_3 ?h104_4 ?h104_5 ?h104_6); (case h104_1 => rfl); (case h104_2 => rfl); (case h104_3 => rfl); (case h104_4 => rfl); (case h104_5 => rfl); (intro W2 hW2); (have HW := hid (HO1.out.putR hW2)); (clear hW2)) | fail)
      clear m0 m1 m2 m3 m4
      obtain ⟨z0, z1, z2, z3, z4⟩ := HW.out.1.five
      go_wp2_with fail
      refine bodyPost_ret (v := .tuple #[Mu.val (Mu.of base l).2, .bool true]) (by simp [results, Tryz.results15, go_sem, z0, z1, z2, z3, z4]) rfl ⟨by rw [HTT.out], HW.out.2⟩
end

/- The contracts of the package lag. -/
section
open Go.RowKit
theorem Cs.two {w : World} {g : Nat} {a b : Value} (h : Cs w g [a, b]) : w.cell? ⟨g, 0, none⟩ = some a ∧ w.cell? ⟨g, 1, none⟩ = some b := ⟨h.at0, h.at1⟩
theorem M2.new2 (w : World) (m : Mu) (p : P3) : M2 w m p [.int .i64 0, .int .u64 0] (((w.alloc (.cells #[.int .u64 m.b, .int .i64 (hiW m.a), .int .u64 (loW m.a), .int .u64 m.w, .int .i64 m.n] 36)).alloc (.cells #[.int .u64 p.1, .int .u32 p.2.1, .int .u32 p.2.2] 29)).alloc (.cells #[.int .i64 0, .int .u64 0] 34)) := by
  have h1 := Cs.alloc_new6 w 36 m.cells
  have h2 := Cs.alloc_new6 (w.alloc (.cells #[.int .u64 m.b, .int .i64 (hiW m.a), .int .u64 (loW m.a), .int .u64 m.w, .int .i64 m.n] 36)) 29 (pcells p)
  have h3 := Cs.alloc_new6 ((w.alloc (.cells #[.int .u64 m.b, .int .i64 (hiW m.a), .int .u64 (loW m.a), .int .u64 m.w, .int .i64 m.n] 36)).alloc (.cells #[.int .u64 p.1, .int .u32 p.2.1, .int .u32 p.2.2] 29)) 34 [.int .i64 0, .int .u64 0]
  simp only [World.size_alloc] at h2 h3
  exact ⟨(h1.alloc _).alloc _, h2.alloc _, h3, (((Below.refl w.heap.size w).alloc (Nat.le_refl _) _).alloc (by simp) _).alloc (by simp; omega) _⟩
theorem M2.put2 {w w1 : World} {m : Mu} {p : P3} {a b : Value} (h : M2 w m p [a, b] w1) {a' b' : Value} {W : World} (hW : W = w1.setCells (w.heap.size + 2) 0 [a', b']) : Cs W (w.heap.size + 2) [a', b'] ∧ Below w.heap.size w W := by
  rw [hW]
  exact ⟨Cs.putL [a', b'] 0 h.2.2.1 (by simp), below_sets (by omega) _ _ h.2.2.2⟩
theorem Wide.mulT {a b : Int} (ha : WR a) (b0 : -9223372036854775808 ≤ b) (b1 : b ≤ 9223372036854775807) (h : okW (a * b) = true) (w : World) : Calls Tryz.prog 134 #[wv a, .int .i64 b] w (Ans (.tuple #[wv (a * b), .bool true]) w) := by
  have := Wide.mulF ha b0 b1 w
  rwa [clW_ok h, h] at this
set_option maxRecDepth 100000 in
set_option maxHeartbeats 8000000 in
theorem Lag.undivided (m : Mu) (p : P3) (hm : m.In) (hp : PIn p) (w : World) : Calls Tryz.prog 85 #[m.val, pv p] w (Ans (.tuple #[wv (m.over p).2, .bool (m.over p).1]) w) := by
  have HM := hid hm
  have HP := hid hp
  clear hm hp
  unfold Mu.val pv
  cases h1 : m.right with
  | false =>
    have E : Hid (m.over p = (false, 0)) := hid (by unfold Mu.over Mu.ovOk; rw [h1, if_neg (by simp)])
    rw [E.out]
    have H1 := hid h1
    clear h1
    have HQ0 := hid (M2.new2 w m p)
    go_enter Tryz.func85, Tryz.ntmps85
    go_wp2_with fail
    generalize (((w.alloc (.cells #[.int .u64 m.b, .int .i64 (hiW m.a), .int .u64 (loW m.a), .int .u64 m.w, .int .i64 m.n] 36)).alloc (.cells #[.int .u64 p.1, .int .u32 p.2.1, .int .u32 p.2.2] 29)).alloc (.cells #[.int .i64 0, .int .u64 0] 34)) = W0 at HQ0 ⊢
    obtain ⟨m0, m1, m2, m3, m4⟩ := Mu.at m HQ0.out.1
    go_wp2_with fail
    refine (Mean.right m HM.out _).mono ?_
    rintro e w1 ⟨rfl, hb⟩
    have HQ1 := hid (HQ0.out.below hb)
    clear hb HQ0 m0 m1 m2 m3 m4
    rw [H1.out]
    have HCr := hid HQ1.out.2.2.1
    go_wp2_with (first | ((with_reducible refine wpList_put_cs 34 [.int .i64 0, .int .u64 0] infoWide rfl (.tmp 4) (.tmp 23) rfl (w.heap.size + 2) _ HCr.out ?h501_1 ?h501_2 ?h501_3 ?h501_4 ?h501_5 ?h501_6); (case h501_1 => rfl); (case h501_2 => rfl); (case h501_3 => rfl); (case h501_4 => rfl); (case h501_5 => rfl); (intro W2 hW2); (have HW := hid (HQ1.out.put2 hW2)); (clear hW2)) | fail)
    obtain ⟨z0, z1⟩ := HW.out.1.two
    go_wp2_with fail
    refine bodyPost_ret (v := .tuple #[wv 0, .bool false]) (by simp [results, Tryz.results85, go_sem, z0, z1, hiW0, loW0]) rfl ⟨rfl, HW.out.2⟩
  | true =>
  have H1 := hid h1
  by_cases h2 : m.n = 0
  · have C2 := hid (show (m.n == 0) = true by rw [h2]; rfl)
    have E : Hid (m.over p = (false, 0)) := hid (by unfold Mu.over Mu.ovOk; rw [h2, if_neg (by simp)])
    rw [E.out]
    clear h1 h2
    have HQ0 := hid (M2.new2 w m p)
    go_enter Tryz.func85, Tryz.ntmps85
    go_wp2_with fail
    generalize (((w.alloc (.cells #[.int .u64 m.b, .int .i64 (hiW m.a), .int .u64 (loW m.a), .int .u64 m.w, .int .i64 m.n] 36)).alloc (.cells #[.int .u64 p.1, .int .u32 p.2.1, .int .u32 p.2.2] 29)).alloc (.cells #[.int .i64 0, .int .u64 0] 34)) = W0 at HQ0 ⊢
    obtain ⟨m0, m1, m2, m3, m4⟩ := Mu.at m HQ0.out.1
    go_wp2_with fail
    refine (Mean.right m HM.out _).mono ?_
    rintro e w1 ⟨rfl, hb⟩
    have HQ1 := hid (HQ0.out.below hb)
    clear hb HQ0 m0 m1 m2 m3 m4
    rw [H1.out]
    obtain ⟨m0, m1, m2, m3, m4⟩ := Mu.at m HQ1.out.1
    have c2 := C2.out
    have HCr := hid HQ1.out.2.2.1
    go_wp2_with (first | ((with_reducible refine wpList_put_cs 34 [.int .i64 0, .int .u64 0] infoWide rfl (.tmp 4) (.tmp 23) rfl (w.heap.size + 2) _ HCr.out ?h502_1 ?h502_2 ?h502_3 ?h502_4 ?h502_5 ?h502_6); (case h502_1 => rfl); (case h502_2 => rfl); (case h502_3 => rfl); (case h502_4 => rfl); (case h502_5 => rfl); (intro W2 hW2); (have HW := hid (HQ1.out.put2 hW2)); (clear hW2)) | fail)
    obtain ⟨z0, z1⟩ := HW.out.1.two
    go_wp2_with fail
    refine bodyPost_ret (v := .tuple #[wv 0, .bool false]) (by simp [results, Tryz.results85, go_sem, z0, z1, hiW0, loW0]) rfl ⟨rfl, HW.out.2⟩
  · have h2' : (m.n == 0) = false := by simpa using h2
    have HW := hid (right_w h1 h2)
    have H2 := hid h2
    clear h1 h2
    cases h3 : pR p with
    | false =>
      have E : Hid (m.over p = (false, 0)) := hid (by unfold Mu.over Mu.ovOk; rw [h3, if_neg (by simp)])
      rw [E.out]
      have H3 := hid h3
      clear h3
      have HQ0 := hid (M2.new2 w m p)
      go_enter Tryz.func85, Tryz.ntmps85
      go_wp2_with fail
      generalize (((w.alloc (.cells #[.int .u64 m.b, .int .i64 (hiW m.a), .int .u64 (loW m.a), .int .u64 m.w, .int .i64 m.n] 36)).alloc (.cells #[.int .u64 p.1, .int .u32 p.2.1, .int .u32 p.2.2] 29)).alloc (.cells #[.int .i64 0, .int .u64 0] 34)) = W0 at HQ0 ⊢
      obtain ⟨m0, m1, m2, m3, m4⟩ := Mu.at m HQ0.out.1
      go_wp2_with fail
      refine (Mean.right m HM.out _).mono ?_
      rintro e w1 ⟨rfl, hb⟩
      have HQ1 := hid (HQ0.out.below hb)
      clear hb HQ0 m0 m1 m2 m3 m4
      rw [H1.out]
      obtain ⟨m0, m1, m2, m3, m4⟩ := Mu.at m HQ1.out.1
      obtain ⟨q0, q1, q2⟩ := P3.at p HQ1.out.2.1
      go_wp2_with fail
      refine (Pos.rightF p _).mono ?_
      rintro e w2 ⟨rfl, hb⟩
      have HQ2 := hid (HQ1.out.below hb)
      clear hb q0 q1 q2 HQ1 m0 m1 m2 m3 m4
      rw [H3.out]
      have HCr := hid HQ2.out.2.2.1
      go_wp2_with (first | ((with_reducible refine wpList_put_cs 34 [.int .i64 0, .int .u64 0] infoWide rfl (.tmp 4) (.tmp 23) rfl (w.heap.size + 2) _ HCr.out ?h503_1 ?h503_2 ?h503_3 ?h503_4 ?h503_5 ?h503_6); (case h503_1 => rfl); (case h503_2 => rfl); (case h503_3 => rfl); (case h503_4 => rfl); (case h503_5 => rfl); (intro W2 hW2); (have HW := hid (HQ2.out.put2 hW2)); (clear hW2)) | fail)
      obtain ⟨z0, z1⟩ := HW.out.1.two
      go_wp2_with fail
      refine bodyPost_ret (v := .tuple #[wv 0, .bool false]) (by simp [results, Tryz.results85, go_sem, z0, z1, hiW0, loW0]) rfl ⟨rfl, HW.out.2⟩
    | true =>
    have HIP := hid (pR_isP HP.out h3)
    have H3 := hid h3
    have e1 : IntKind.i64.wrap p.2.2 = p.2.2 := by have := HIP.out; unfold IsP at this; rw [IntKind.wrap_i64]; omega
    cases h4 : okW (m.a * p.2.2) with
    | false =>
      have E : Hid (m.over p = (false, 0)) := hid (by unfold Mu.over Mu.ovOk; rw [h4, if_neg (by simp)])
      rw [E.out]
      have H4 := hid h4
      have H5 := hid (clW_no h4)
      clear h3 h4
      have HQ0 := hid (M2.new2 w m p)
      go_enter Tryz.func85, Tryz.ntmps85
      go_wp2_with fail
      generalize (((w.alloc (.cells #[.int .u64 m.b, .int .i64 (hiW m.a), .int .u64 (loW m.a), .int .u64 m.w, .int .i64 m.n] 36)).alloc (.cells #[.int .u64 p.1, .int .u32 p.2.1, .int .u32 p.2.2] 29)).alloc (.cells #[.int .i64 0, .int .u64 0] 34)) = W0 at HQ0 ⊢
      obtain ⟨m0, m1, m2, m3, m4⟩ := Mu.at m HQ0.out.1
      go_wp2_with fail
      refine (Mean.right m HM.out _).mono ?_
      rintro e w1 ⟨rfl, hb⟩
      have HQ1 := hid (HQ0.out.below hb)
      clear hb HQ0 m0 m1 m2 m3 m4
      rw [H1.out]
      obtain ⟨m0, m1, m2, m3, m4⟩ := Mu.at m HQ1.out.1
      obtain ⟨q0, q1, q2⟩ := P3.at p HQ1.out.2.1
      go_wp2_with fail
      refine (Pos.rightF p _).mono ?_
      rintro e w2 ⟨rfl, hb⟩
      have HQ2 := hid (HQ1.out.below hb)
      clear hb q0 q1 q2 HQ1 m0 m1 m2 m3 m4
      rw [H3.out]
      obtain ⟨m0, m1, m2, m3, m4⟩ := Mu.at m HQ2.out.1
      obtain ⟨q0, q1, q2⟩ := P3.at p HQ2.out.2.1
      go_wp2_with fail
      refine (Wide.mulF HM.out.2.1 (by have := HIP.out; unfold IsP at this; omega) (by have := HIP.out; unfold IsP at this; omega) _).mono ?_
      rw [H4.out, H5.out]
      rintro e w3 ⟨rfl, hb⟩
      have HQ3 := hid ((HQ2.out.below hb).below ((Below.refl _ _).alloc (Nat.le_refl _) (.cells #[.int .i64 (hiW 0), .int .u64 (loW 0)] 34)))
      have HG := hid (show Cs (w3.alloc (.cells #[.int .i64 (hiW 0), .int .u64 (loW 0)] 34)) w3.heap.size _ ∧ w.heap.size + 2 < w3.heap.size from ⟨Cs.new2 w3 34 (.int .i64 (hiW 0)) (.int .u64 (loW 0)), (HQ2.out.below hb).2.2.1.lt⟩)
      clear hb HQ2 m0 m1 m2 m3 m4 q0 q1 q2
      have HCr := hid HQ3.out.2.2.1
      go_wp2_with (first | ((with_reducible refine wpList_put_cs 34 [.int .i64 0, .int .u64 0] infoWide rfl (.tmp 4) (.tmp 35) rfl (w.heap.size + 2) _ HCr.out ?h504_1 ?h504_2 ?h504_3 ?h504_4 ?h504_5 ?h504_6); (case h504_1 => rfl); (case h504_2 => rfl); (case h504_3 => rfl); (case h504_4 => rfl); (case h504_5 => rfl); (intro W2 hW2); (have HW := hid (HQ3.out.put2 hW2)); (clear hW2)) | fail)
      obtain ⟨z0, z1⟩ := HW.out.1.two
      go_wp2_with fail
      refine bodyPost_ret (v := .tuple #[wv 0, .bool false]) (by simp [results, Tryz.results85, go_sem, z0, z1, hiW0, loW0]) rfl ⟨rfl, HW.out.2⟩
    | true =>
      have H4 := hid h4
      have H5 := hid (clW_ok h4)
      have HD : Hid (WR (pD m.b p)) := hid (by have := pD_bd m.b HP.out; unfold WR; omega)
      have H6 : Hid (okW (pD m.b p * m.w) = true) := hid (by
        have e2 := pD_bdR m.b HP.out h3
        have e3 := mulBd (d := pD m.b p) (M := 9671406556917033398697984) (V := 33554432) (by omega) (by omega) (show 0 ≤ m.w by have := HW.out; omega) HW.out.2.2 (by decide)
        exact okW_bd (by omega) (by omega))
      have E : Hid (m.over p = (okW ((m.a * p.2.2) - (pD m.b p * m.w)), clW ((m.a * p.2.2) - (pD m.b p * m.w)))) := hid (by
        unfold Mu.over Mu.ovOk Mu.ov
        rw [H1.out, h3, h4]
        have h2 := H2.out
        cases h7 : okW ((m.a * p.2.2) - (pD m.b p * m.w)) with
        | true => rw [if_pos (by simp [h2]), clW_ok h7]
        | false => rw [if_neg (by simp), clW_no h7])
      have HX1 : Hid (WR (m.a * p.2.2)) := hid (okW_iff.1 h4)
      have HX2 : Hid (WR (pD m.b p * m.w)) := hid (okW_iff.1 H6.out)
      rw [E.out]
      clear h3 h4
      have e4 : IntKind.i64.wrap m.w = m.w := by have := HW.out; rw [IntKind.wrap_i64]; omega
      have HQ0 := hid (M2.new2 w m p)
      go_enter Tryz.func85, Tryz.ntmps85
      go_wp2_with fail
      generalize (((w.alloc (.cells #[.int .u64 m.b, .int .i64 (hiW m.a), .int .u64 (loW m.a), .int .u64 m.w, .int .i64 m.n] 36)).alloc (.cells #[.int .u64 p.1, .int .u32 p.2.1, .int .u32 p.2.2] 29)).alloc (.cells #[.int .i64 0, .int .u64 0] 34)) = W0 at HQ0 ⊢
      obtain ⟨m0, m1, m2, m3, m4⟩ := Mu.at m HQ0.out.1
      go_wp2_with fail
      refine (Mean.right m HM.out _).mono ?_
      rintro e w1 ⟨rfl, hb⟩
      have HQ1 := hid (HQ0.out.below hb)
      clear hb HQ0 m0 m1 m2 m3 m4
      rw [H1.out]
      obtain ⟨m0, m1, m2, m3, m4⟩ := Mu.at m HQ1.out.1
      obtain ⟨q0, q1, q2⟩ := P3.at p HQ1.out.2.1
      go_wp2_with fail
      refine (Pos.rightF p _).mono ?_
      rintro e w2 ⟨rfl, hb⟩
      have HQ2 := hid (HQ1.out.below hb)
      clear hb q0 q1 q2 HQ1 m0 m1 m2 m3 m4
      rw [H3.out]
      obtain ⟨m0, m1, m2, m3, m4⟩ := Mu.at m HQ2.out.1
      obtain ⟨q0, q1, q2⟩ := P3.at p HQ2.out.2.1
      go_wp2_with fail
      refine (Wide.mulF HM.out.2.1 (by have := HIP.out; unfold IsP at this; omega) (by have := HIP.out; unfold IsP at this; omega) _).mono ?_
      rw [H4.out, H5.out]
      rintro e w3 ⟨rfl, hb⟩
      have HQ3 := hid ((HQ2.out.below hb).below ((Below.refl _ _).alloc (Nat.le_refl _) (.cells #[.int .i64 (hiW (m.a * p.2.2)), .int .u64 (loW (m.a * p.2.2))] 34)))
      have HG := hid (show Cs (w3.alloc (.cells #[.int .i64 (hiW (m.a * p.2.2)), .int .u64 (loW (m.a * p.2.2))] 34)) w3.heap.size _ ∧ w.heap.size + 2 < w3.heap.size from ⟨Cs.new2 w3 34 (.int .i64 (hiW (m.a * p.2.2))) (.int .u64 (loW (m.a * p.2.2))), (HQ2.out.below hb).2.2.1.lt⟩)
      clear hb HQ2 m0 m1 m2 m3 m4 q0 q1 q2
      go_wp2_with fail
      generalize (w3.alloc (.cells #[.int .i64 (hiW (m.a * p.2.2)), .int .u64 (loW (m.a * p.2.2))] 34)) = W3 at HQ3 HG ⊢
      generalize w3.heap.size = g1 at HG ⊢
      clear h2'
      refine wp_region_grow (S := fun wx => M2 w m p [.int .i64 0, .int .u64 0] wx ∧ (Cs wx g1 [.int .i64 (hiW (m.a * p.2.2)), .int .u64 (loW (m.a * p.2.2))] ∧ w.heap.size + 2 < g1)) 14 (by kernel_rfl) (⟨HQ3.out.below (Below.refl _ _).drew, HG.out⟩) ?_
      refine wpAnyE_take (i := 0) (v := ?_) ((M2.stays w m p [.int .i64 0, .int .u64 0]).and_ (fun _ _ h hb => ⟨h.1.below hb, h.2⟩)) (fun _ h => h) rfl (by kernel_rfl) (by kernel_rfl) (by kernel_rfl) (by kernel_rfl) (fun _ _ _ h => h) (SteadyB.of_yields (Or.inl ⟨by rfl, ?_⟩)) ?_
      rotate_left
      · intro wq hSw
        obtain ⟨m0, m1, m2, m3, m4⟩ := Mu.at m hSw.1.1
        obtain ⟨q0, q1, q2⟩ := P3.at p hSw.1.2.1
        go_simp
        (try with_reducible rfl)
      try simp only [List.getElem_toArray, List.getElem_cons_zero, List.getElem_cons_succ, Act.put, List.setIfInBounds_toArray, List.set_cons_zero, List.set_cons_succ]
      refine wpAnyE_take (i := 1) (v := ?_) ((M2.stays w m p [.int .i64 0, .int .u64 0]).and_ (fun _ _ h hb => ⟨h.1.below hb, h.2⟩)) (fun _ h => h) rfl (by kernel_rfl) (by kernel_rfl) (by kernel_rfl) (by kernel_rfl) (fun _ _ _ h => h) (SteadyB.of_yields (Or.inl ⟨by rfl, ?_⟩)) ?_
      rotate_left
      · intro wq hSw
        go_simp
        (try with_reducible rfl)
      try simp only [List.getElem_toArray, List.getElem_cons_zero, List.getElem_cons_succ, Act.put, List.setIfInBounds_toArray, List.set_cons_zero, List.set_cons_succ]
      refine wpAnyE_take (i := 2) (v := ?_) ((M2.stays w m p [.int .i64 0, .int .u64 0]).and_ (fun _ _ h hb => ⟨h.1.below hb, h.2⟩)) (fun _ h => h) rfl (by kernel_rfl) (by kernel_rfl) (by kernel_rfl) (by kernel_rfl) (fun _ _ _ h => h) (SteadyB.of_yields (Or.inl ⟨by rfl, ?_⟩)) ?_
      rotate_left
      · intro wq hSw
        obtain ⟨m0, m1, m2, m3, m4⟩ := Mu.at m hSw.1.1
        obtain ⟨q0, q1, q2⟩ := P3.at p hSw.1.2.1
        go_simp
        (try with_reducible rfl)
      try simp only [List.getElem_toArray, List.getElem_cons_zero, List.getElem_cons_succ, Act.put, List.setIfInBounds_toArray, List.set_cons_zero, List.set_cons_succ]
      refine wpAnyE_take (i := 4) (v := ?_) ((M2.stays w m p [.int .i64 0, .int .u64 0]).and_ (fun _ _ h hb => ⟨h.1.below hb, h.2⟩)) (fun _ h => h) rfl (by kernel_rfl) (by kernel_rfl) (by kernel_rfl) (by kernel_rfl) (fun _ _ _ h => h) (SteadyB.of_yields (Or.inl ⟨by rfl, ?_⟩)) ?_
      rotate_left
      · intro wq hSw
        go_simp
        (try with_reducible rfl)
      try simp only [List.getElem_toArray, List.getElem_cons_zero, List.getElem_cons_succ, Act.put, List.setIfInBounds_toArray, List.set_cons_zero, List.set_cons_succ]
      refine wpAnyE_take (i := 5) (v := ?_) ((M2.stays w m p [.int .i64 0, .int .u64 0]).and_ (fun _ _ h hb => ⟨h.1.below hb, h.2⟩)) (fun _ h => h) rfl (by kernel_rfl) (by kernel_rfl) (by kernel_rfl) (by kernel_rfl) (fun _ _ _ h => h) (SteadyB.of_yields (Or.inl ⟨by rfl, ?_⟩)) ?_
      rotate_left
      · intro wq hSw
        obtain ⟨m0, m1, m2, m3, m4⟩ := Mu.at m hSw.1.1
        obtain ⟨q0, q1, q2⟩ := P3.at p hSw.1.2.1
        go_simp
        (try with_reducible rfl)
      try simp only [List.getElem_toArray, List.getElem_cons_zero, List.getElem_cons_succ, Act.put, List.setIfInBounds_toArray, List.set_cons_zero, List.set_cons_succ]
      refine wpAnyE_take (i := 6) (v := ?_) ((M2.stays w m p [.int .i64 0, .int .u64 0]).and_ (fun _ _ h hb => ⟨h.1.below hb, h.2⟩)) (fun _ h => h) rfl (by kernel_rfl) (by kernel_rfl) (by kernel_rfl) (by kernel_rfl) (fun _ _ _ h => h) (SteadyB.of_yields (Or.inl ⟨by rfl, ?_⟩)) ?_
      rotate_left
      · intro wq hSw
        go_simp
        (try with_reducible rfl)
      try simp only [List.getElem_toArray, List.getElem_cons_zero, List.getElem_cons_succ, Act.put, List.setIfInBounds_toArray, List.set_cons_zero, List.set_cons_succ]
      refine wpAnyE_take (i := 3) (v := wv (pD m.b p)) ((M2.stays w m p [.int .i64 0, .int .u64 0]).and_ (fun _ _ h hb => ⟨h.1.below hb, h.2⟩)) (fun _ h => h) rfl (by kernel_rfl) (by kernel_rfl) (by kernel_rfl) (by kernel_rfl) (fun _ _ _ h => h) (Or.inl ⟨by rfl, fun wq hSw => ?_⟩) ?_
      · refine RunB.of_calls (Pos.distanceF m.b HP.out wq) (by go_simp) ?_
        rintro e wr ⟨rfl, hb⟩
        exact ⟨rfl, hb⟩
      try simp only [List.getElem_toArray, List.getElem_cons_zero, List.getElem_cons_succ, Act.put, List.setIfInBounds_toArray, List.set_cons_zero, List.set_cons_succ]
      refine wpAnyE_take (i := 7) (v := (.tuple #[wv (pD m.b p * m.w), .bool true])) ((M2.stays w m p [.int .i64 0, .int .u64 0]).and_ (fun _ _ h hb => ⟨h.1.below hb, h.2⟩)) (fun _ h => h) rfl (by kernel_rfl) (by kernel_rfl) (by kernel_rfl) (by kernel_rfl) (fun _ _ _ h => h) (Or.inl ⟨by rfl, fun wq hSw => ?_⟩) ?_
      · refine RunB.of_calls (Wide.mulT HD.out (by have := HW.out; omega) (by have := HW.out; omega) H6.out wq) (by go_simp) ?_
        rintro e wr ⟨rfl, hb⟩
        exact ⟨rfl, hb⟩
      try simp only [List.getElem_toArray, List.getElem_cons_zero, List.getElem_cons_succ, Act.put, List.setIfInBounds_toArray, List.set_cons_zero, List.set_cons_succ]
      refine wpAnyE_take (i := 8) (v := ?_) ((M2.stays w m p [.int .i64 0, .int .u64 0]).and_ (fun _ _ h hb => ⟨h.1.below hb, h.2⟩)) (fun _ h => h) rfl (by kernel_rfl) (by kernel_rfl) (by kernel_rfl) (by kernel_rfl) (fun _ _ _ h => h) (SteadyB.of_yields (Or.inl ⟨by rfl, ?_⟩)) ?_
      rotate_left
      · intro wq hSw
        go_simp
        (try with_reducible rfl)
      try simp only [List.getElem_toArray, List.getElem_cons_zero, List.getElem_cons_succ, Act.put, List.setIfInBounds_toArray, List.set_cons_zero, List.set_cons_succ]
      refine wpAnyE_take (i := 9) (v := ?_) ((M2.stays w m p [.int .i64 0, .int .u64 0]).and_ (fun _ _ h hb => ⟨h.1.below hb, h.2⟩)) (fun _ h => h) rfl (by kernel_rfl) (by kernel_rfl) (by kernel_rfl) (by kernel_rfl) (fun _ _ _ h => h) (SteadyB.of_yields (Or.inl ⟨by rfl, ?_⟩)) ?_
      rotate_left
      · intro wq hSw
        go_simp
        (try with_reducible rfl)
      try simp only [List.getElem_toArray, List.getElem_cons_zero, List.getElem_cons_succ, Act.put, List.setIfInBounds_toArray, List.set_cons_zero, List.set_cons_succ]
      refine wpAnyE_take (i := 10) (v := ?_) ((M2.stays w m p [.int .i64 0, .int .u64 0]).and_ (fun _ _ h hb => ⟨h.1.below hb, h.2⟩)) (fun _ h => h) rfl (by kernel_rfl) (by kernel_rfl) (by kernel_rfl) (by kernel_rfl) (fun _ _ _ h => h) (SteadyB.of_yields (Or.inl ⟨by rfl, ?_⟩)) ?_
      rotate_left
      · intro wq hSw
        go_simp
        (try with_reducible rfl)
      try simp only [List.getElem_toArray, List.getElem_cons_zero, List.getElem_cons_succ, Act.put, List.setIfInBounds_toArray, List.set_cons_zero, List.set_cons_succ]
      refine wpAnyE_alloc (i := 11) (fun wx g => Cs wx g [.int .i64 0, .int .u64 0] ∧ g1 < g) rfl (by kernel_rfl) (by decide) (by rfl) ((M2.stays w m p [.int .i64 0, .int .u64 0]).and_ (fun _ _ h hb => ⟨h.1.below hb, h.2⟩)) (fun _ h => h) (fun g => (fun _ _ h hb => ⟨h.1.below hb, h.2⟩)) (fun wq hSw => ?_) (fun gA => ?_)
      · exact ⟨_, by go_simp; (try with_reducible rfl), (Below.refl _ _).alloc (Nat.le_refl _) _, Cs.new2 _ _ _ _, hSw.2.1.lt⟩
      try simp only [List.getElem_toArray, List.getElem_cons_zero, List.getElem_cons_succ, Act.put, List.setIfInBounds_toArray, List.set_cons_zero, List.set_cons_succ]
      refine wpAnyE_store (i := 12) (fun wx => (fun wx => M2 w m p [.int .i64 0, .int .u64 0] wx ∧ (Cs wx g1 [.int .i64 (hiW (m.a * p.2.2)), .int .u64 (loW (m.a * p.2.2))] ∧ w.heap.size + 2 < g1)) wx ∧ (Cs wx gA [.int .i64 (hiW (pD m.b p * m.w)), .int .u64 (loW (pD m.b p * m.w))] ∧ g1 < gA)) 34 [.int .i64 (hiW (pD m.b p * m.w)), .int .u64 (loW (pD m.b p * m.w))] [.int .i64 0, .int .u64 0] gA infoWide (.tmp 8) (.tmp 45) rfl rfl (by kernel_rfl) (by decide) (by rfl) ?st12_1a ?st12_1b ?st12_1c ?st12_1d ?st12_1e (fun _ h => h.2.1) (fun _ h => ⟨⟨h.1.1.fars (by have := h.1.2.2; have := h.2.2; omega) _, h.1.2.1.fars (by have := h.2.2; omega) _ _, h.1.2.2⟩, Cs.putL _ 0 h.2.1 (by simp), h.2.2⟩) (fun _ h => h.1) (((M2.stays w m p [.int .i64 0, .int .u64 0]).and_ (fun _ _ h hb => ⟨h.1.below hb, h.2⟩)).and_ (fun _ _ h hb => ⟨h.1.below hb, h.2⟩)) ?st12_1f
      case st12_1a => rfl
      case st12_1b => rfl
      case st12_1c => rfl
      case st12_1d => rfl
      case st12_1e => rfl
      try simp only [List.getElem_toArray, List.getElem_cons_zero, List.getElem_cons_succ, Act.put, List.setIfInBounds_toArray, List.set_cons_zero, List.set_cons_succ]
      refine wpAnyE_take (i := 13) (v := ?_) (((M2.stays w m p [.int .i64 0, .int .u64 0]).and_ (fun _ _ h hb => ⟨h.1.below hb, h.2⟩)).and_ (fun _ _ h hb => ⟨h.1.below hb, h.2⟩)) (fun _ h => h.1) rfl (by kernel_rfl) (by kernel_rfl) (by kernel_rfl) (by kernel_rfl) (fun _ _ _ h => h) (SteadyB.of_yields (Or.inl ⟨by rfl, ?_⟩)) ?_
      rotate_left
      · intro wq hSw
        go_simp
        (try with_reducible rfl)
      try simp only [List.getElem_toArray, List.getElem_cons_zero, List.getElem_cons_succ, Act.put, List.setIfInBounds_toArray, List.set_cons_zero, List.set_cons_succ]
      refine wpAnyE_done (by kernel_rfl) (fun wz hSz => ?_) _
      have HZ := hid hSz
      have g0 := hSz.1.2.1.at0
      have g2 := hSz.1.2.1.at1
      have k0 := hSz.2.1.at0
      have k1 := hSz.2.1.at1
      clear hSz HQ3 HG
      go_wp2_with fail
      refine (Wide.subF HX1.out HX2.out _).mono ?_
      rintro e w5 ⟨rfl, hb⟩
      have HQ5 := hid (HZ.out.1.1.below hb)
      clear hb HZ g0 g2 k0 k1
      have HCr := hid HQ5.out.2.2.1
      generalize clW ((m.a * p.2.2) - (pD m.b p * m.w)) = x1 at *
      generalize okW ((m.a * p.2.2) - (pD m.b p * m.w)) = x2 at *
      go_wp2_with (first | ((with_reducible refine wpList_put_cs 34 [.int .i64 (hiW x1), .int .u64 (loW x1)] infoWide rfl (.tmp 4) (.tmp 50) rfl (w.heap.size + 2) _ HCr.out ?h505_1 ?h505_2 ?h505_3 ?h505_4 ?h505_5 ?h505_6); (case h505_1 => rfl); (case h505_2 => rfl); (case h505_3 => rfl); (case h505_4 => rfl); (case h505_5 => rfl); (intro W2 hW2); (have HW2 := hid (HQ5.out.put2 hW2)); (clear hW2)) | fail)
      obtain ⟨z0, z1⟩ := HW2.out.1.two
      go_wp2_with fail
      refine bodyPost_ret (v := .tuple #[wv x1, .bool x2]) (by simp [results, Tryz.results85, go_sem, z0, z1, hiW0, loW0]) rfl ⟨rfl, HW2.out.2⟩
end

/- The contracts of the package lag, continued. -/
section
open Go.RowKit
theorem over_wr (m : Mu) (p : P3) : WR (m.over p).2 := by
  unfold Mu.over
  split
  · rename_i h
    unfold Mu.ovOk at h
    simp only [Bool.and_eq_true] at h
    exact okW_iff.1 h.2
  · unfold WR; omega
def M2' (w : World) (m : Mu) (p : P3) (w' : World) : Prop := Cs w' w.heap.size m.cells ∧ Cs w' (w.heap.size + 1) (pcells p) ∧ Below w.heap.size w w'
theorem M2'.below {w w1 w2 : World} {m : Mu} {p : P3} (h : M2' w m p w1) (hb : Below w1.heap.size w1 w2) : M2' w m p w2 := ⟨h.1.below hb, h.2.1.below hb, below_on h.2.2 hb⟩
theorem M2'.new (w : World) (m : Mu) (p : P3) : M2' w m p ((w.alloc (.cells #[.int .u64 m.b, .int .i64 (hiW m.a), .int .u64 (loW m.a), .int .u64 m.w, .int .i64 m.n] 36)).alloc (.cells #[.int .u64 p.1, .int .u32 p.2.1, .int .u32 p.2.2] 29)) := by
  have h1 := Cs.alloc_new6 w 36 m.cells
  have h2 := Cs.alloc_new6 (w.alloc (.cells #[.int .u64 m.b, .int .i64 (hiW m.a), .int .u64 (loW m.a), .int .u64 m.w, .int .i64 m.n] 36)) 29 (pcells p)
  simp only [World.size_alloc] at h2
  exact ⟨h1.alloc _, h2, ((Below.refl w.heap.size w).alloc (Nat.le_refl _) _).alloc (by simp) _⟩
def Mu.sign (m : Mu) (p : P3) : Bool × Int := ((m.over p).1, cmpI (m.over p).2 0)
set_option maxRecDepth 100000 in
set_option maxHeartbeats 4000000 in
theorem Lag.sign (m : Mu) (p : P3) (hm : m.In) (hp : PIn p) (w : World) : Calls Tryz.prog 27 #[m.val, pv p] w (Ans (.tuple #[.int .i64 (m.sign p).2, .bool (m.sign p).1]) w) := by
  have HM := hid hm
  have HP := hid hp
  have HO := hid (over_wr m p)
  clear hm hp
  unfold Mu.val pv
  have HQ0 := hid (M2'.new w m p)
  go_enter Tryz.func27, Tryz.ntmps27
  go_wp2_with fail
  generalize ((w.alloc (.cells #[.int .u64 m.b, .int .i64 (hiW m.a), .int .u64 (loW m.a), .int .u64 m.w, .int .i64 m.n] 36)).alloc (.cells #[.int .u64 p.1, .int .u32 p.2.1, .int .u32 p.2.2] 29)) = W0 at HQ0 ⊢
  obtain ⟨m0, m1, m2, m3, m4⟩ := Mu.at m HQ0.out.1
  obtain ⟨q0, q1, q2⟩ := P3.at p HQ0.out.2.1
  go_wp2_with fail
  refine (Lag.undivided m p HM.out HP.out _).mono ?_
  rintro e w1 ⟨rfl, hb⟩
  have HQ1 := hid ((HQ0.out.below hb).below ((Below.refl _ _).alloc (Nat.le_refl _) (.cells #[.int .i64 (hiW (m.over p).2), .int .u64 (loW (m.over p).2)] 34)))
  clear hb HQ0 m0 m1 m2 m3 m4 q0 q1 q2
  go_wp2_with fail
  refine (Wide.signF HO.out _).mono ?_
  rintro e w2 ⟨rfl, hb⟩
  have HQ2 := hid (HQ1.out.below hb)
  clear hb HQ1
  go_wp2_with fail
  go_ret2
  exact ⟨rfl, HQ2.out.2.2⟩
set_option maxRecDepth 100000 in
set_option maxHeartbeats 4000000 in
theorem Lag.eligible (m : Mu) (p : P3) (hm : m.In) (hp : PIn p) (w : World) : Calls Tryz.prog 77 #[m.val, pv p] w (Ans (.bool (m.elig p)) w) := by
  have HM := hid hm
  have HP := hid hp
  have HO := hid (over_wr m p)
  clear hm hp
  unfold Mu.val pv
  have HQ0 := hid (M2'.new w m p)
  have HE : Hid (m.elig p = ((m.sign p).1 && decide (0 ≤ (m.sign p).2))) := hid rfl
  go_enter Tryz.func77, Tryz.ntmps77
  go_wp2_with fail
  generalize ((w.alloc (.cells #[.int .u64 m.b, .int .i64 (hiW m.a), .int .u64 (loW m.a), .int .u64 m.w, .int .i64 m.n] 36)).alloc (.cells #[.int .u64 p.1, .int .u32 p.2.1, .int .u32 p.2.2] 29)) = W0 at HQ0 ⊢
  obtain ⟨m0, m1, m2, m3, m4⟩ := Mu.at m HQ0.out.1
  obtain ⟨q0, q1, q2⟩ := P3.at p HQ0.out.2.1
  go_wp2_with fail
  refine (Lag.sign m p HM.out HP.out _).mono ?_
  rintro e w1 ⟨rfl, hb⟩
  have HQ1 := hid (HQ0.out.below hb)
  clear hb HQ0 m0 m1 m2 m3 m4 q0 q1 q2
  generalize (m.sign p).2 = s at *
  cases hk : (m.sign p).1 with
  | false =>
    go_wp2_with fail
    go_ret
    exact ⟨by rw [HE.out, hk]; rfl, HQ1.out.2.2⟩
  | true =>
    by_cases c : 0 ≤ s
    · go_wp2_with fail
      go_ret
      exact ⟨by rw [HE.out, hk]; simp [c], HQ1.out.2.2⟩
    · go_wp2_with fail
      go_ret
      exact ⟨by rw [HE.out, hk]; simp, HQ1.out.2.2⟩
set_option maxRecDepth 100000 in
set_option maxHeartbeats 4000000 in
theorem Lag.read (m : Mu) (p : P3) (hm : m.In) (hp : PIn p) (w : World) : Calls Tryz.prog 26 #[m.val, pv p] w (Ans (.tuple #[wv (m.lag p).2, .bool (m.lag p).1]) w) := by
  have HM := hid hm
  have HP := hid hp
  have HO := hid (over_wr m p)
  clear hm hp
  unfold Mu.val pv
  have HQ0 := hid (M2.new2 w m p)
  cases hk : m.ovOk p with
  | false =>
    have E : Hid (m.lag p = (false, 0)) := hid (by unfold Mu.lag; rw [hk, if_neg (by simp)])
    have E2 : Hid (m.over p = (false, 0)) := hid (by unfold Mu.over; rw [hk, if_neg (by simp)])
    rw [E.out]
    clear hk
    go_enter Tryz.func26, Tryz.ntmps26
    go_wp2_with fail
    generalize (((w.alloc (.cells #[.int .u64 m.b, .int .i64 (hiW m.a), .int .u64 (loW m.a), .int .u64 m.w, .int .i64 m.n] 36)).alloc (.cells #[.int .u64 p.1, .int .u32 p.2.1, .int .u32 p.2.2] 29)).alloc (.cells #[.int .i64 0, .int .u64 0] 34)) = W0 at HQ0 ⊢
    obtain ⟨m0, m1, m2, m3, m4⟩ := Mu.at m HQ0.out.1
    obtain ⟨q0, q1, q2⟩ := P3.at p HQ0.out.2.1
    go_wp2_with fail
    refine (Lag.undivided m p HM.out HP.out _).mono ?_
    rw [E2.out]
    rintro e w1 ⟨rfl, hb⟩
    have HQ1 := hid ((HQ0.out.below hb).below ((Below.refl _ _).alloc (Nat.le_refl _) (.cells #[.int .i64 (hiW 0), .int .u64 (loW 0)] 34)))
    clear hb HQ0 m0 m1 m2 m3 m4 q0 q1 q2
    have HCr := hid HQ1.out.2.2.1
    go_wp2_with (first | ((with_reducible refine wpList_put_cs 34 [.int .i64 0, .int .u64 0] infoWide rfl (.tmp 4) (.tmp 19) rfl (w.heap.size + 2) _ HCr.out ?h801_1 ?h801_2 ?h801_3 ?h801_4 ?h801_5 ?h801_6); (case h801_1 => rfl); (case h801_2 => rfl); (case h801_3 => rfl); (case h801_4 => rfl); (case h801_5 => rfl); (intro W2 hW2); (have HW := hid (HQ1.out.put2 hW2)); (clear hW2)) | fail)
    obtain ⟨z0, z1⟩ := HW.out.1.two
    go_wp2_with fail
    refine bodyPost_ret (v := .tuple #[wv 0, .bool false]) (by simp [results, Tryz.results26, go_sem, z0, z1, hiW0, loW0]) rfl ⟨rfl, HW.out.2⟩
  | true =>
    have E : Hid (m.lag p = (true, m.ov p / m.w)) := hid (by unfold Mu.lag; rw [hk, if_pos rfl])
    have E2 : Hid (m.over p = (true, m.ov p)) := hid (by unfold Mu.over; rw [hk, if_pos rfl])
    have HW : Hid (0 < m.w ∧ m.w ≤ 33554432) := hid (by
      unfold Mu.ovOk at hk
      simp only [Bool.and_eq_true, decide_eq_true_eq] at hk
      have := right_w hk.1.1.1.1 hk.1.1.1.2
      omega)
    have HX : Hid (WR (m.ov p)) := hid (by have := HO.out; rw [E2.out] at this; exact this)
    have HD := hid (div_wr HX.out HW.out.1)
    rw [E.out]
    clear hk
    go_enter Tryz.func26, Tryz.ntmps26
    go_wp2_with fail
    generalize (((w.alloc (.cells #[.int .u64 m.b, .int .i64 (hiW m.a), .int .u64 (loW m.a), .int .u64 m.w, .int .i64 m.n] 36)).alloc (.cells #[.int .u64 p.1, .int .u32 p.2.1, .int .u32 p.2.2] 29)).alloc (.cells #[.int .i64 0, .int .u64 0] 34)) = W0 at HQ0 ⊢
    obtain ⟨m0, m1, m2, m3, m4⟩ := Mu.at m HQ0.out.1
    obtain ⟨q0, q1, q2⟩ := P3.at p HQ0.out.2.1
    go_wp2_with fail
    refine (Lag.undivided m p HM.out HP.out _).mono ?_
    rw [E2.out]
    rintro e w1 ⟨rfl, hb⟩
    have HQ1 := hid ((HQ0.out.below hb).below ((Below.refl _ _).alloc (Nat.le_refl _) (.cells #[.int .i64 (hiW (m.ov p)), .int .u64 (loW (m.ov p))] 34)))
    clear hb HQ0 m0 m1 m2 m3 m4 q0 q1 q2
    obtain ⟨m0, m1, m2, m3, m4⟩ := Mu.at m HQ1.out.1
    go_wp2_with fail
    refine (Wide.divF HX.out HW.out.1 (by have := HW.out; omega) _).mono ?_
    rintro e w2 ⟨rfl, hb⟩
    have HQ2 := hid ((HQ1.out.below hb).below ((Below.refl _ _).alloc (Nat.le_refl _) (.cells #[.int .i64 (hiW (m.ov p / m.w)), .int .u64 (loW (m.ov p / m.w))] 34)))
    clear hb HQ1 m0 m1 m2 m3 m4
    have HCr := hid HQ2.out.2.2.1
    go_wp2_with (first | ((with_reducible refine wpList_put_cs 34 [.int .i64 (hiW (m.ov p / m.w)), .int .u64 (loW (m.ov p / m.w))] infoWide rfl (.tmp 4) (.tmp 28) rfl (w.heap.size + 2) _ HCr.out ?h802_1 ?h802_2 ?h802_3 ?h802_4 ?h802_5 ?h802_6); (case h802_1 => rfl); (case h802_2 => rfl); (case h802_3 => rfl); (case h802_4 => rfl); (case h802_5 => rfl); (intro W2 hW2); (have HWW := hid (HQ2.out.put2 hW2)); (clear hW2)) | fail)
    obtain ⟨z0, z1⟩ := HWW.out.1.two
    go_wp2_with fail
    refine bodyPost_ret (v := .tuple #[wv (m.ov p / m.w), .bool true]) (by simp [results, Tryz.results26, go_sem, z0, z1, hiW0, loW0]) rfl ⟨rfl, HWW.out.2⟩
end

end Go.Proofs.YtkddkllepbhnhaaGreatDoor

/- Texts of AccountNone's proof, together. -/
import Derived.Test.YtlkhkhdacgeicaaGreatDoorAccountNoneZ18
import Derived.Test.YtlkhkhdacgeicaaGreatDoorAccountNoneZ5
import Derived.Test.YtlkhkhdacgeicaaGreatDoorOpen
import Derived.Test.YtlkhkhdacgeicaaGreatDoorAccountNoneZ14
import Derived.Test.YtlkhkhdacgeicaaGreatDoorAccountNoneZ11
import Derived.Test.YtlkhkhdacgeicaaGreatDoorAccountNoneZ12
import Derived.Deep.SlicePairs
import Derived.OpenShut
import Derived.Deep.LoopGhost
namespace Go.Proofs.YtlkhkhdacgeicaaGreatDoor
/- The contracts of the package mean: the virtual time; of some positions. -/
section
open Go.RowKit
def M1 (w : World) (m : Mu) (w' : World) : Prop := Cs w' w.heap.size m.cells ∧ Below w.heap.size w w'
theorem M1.below {w w1 w2 : World} {m : Mu} (h : M1 w m w1) (hb : Below w1.heap.size w1 w2) : M1 w m w2 := ⟨h.1.below hb, below_on h.2 hb⟩
theorem M1.new (w : World) (m : Mu) : M1 w m (w.alloc (.cells #[.int .u64 m.b, .int .i64 (hiW m.a), .int .u64 (loW m.a), .int .u64 m.w, .int .i64 m.n] 145)) := ⟨Cs.alloc_new6 w 145 m.cells, (Below.refl w.heap.size w).alloc (Nat.le_refl _) _⟩
theorem div_wr {a b : Int} (ha : WR a) (hb : 0 < b) : WR (a / b) := by
  unfold WR at *
  have h1 : -170141183460469231731687303715884105728 * b ≤ a := by
    have := Int.mul_le_mul_of_nonneg_left (show (1 : Int) ≤ b by omega) (show (0 : Int) ≤ 170141183460469231731687303715884105728 by decide)
    rw [Int.neg_mul]; omega
  have h2 : a < 170141183460469231731687303715884105728 * b := by
    have := Int.mul_le_mul_of_nonneg_left (show (1 : Int) ≤ b by omega) (show (0 : Int) ≤ 170141183460469231731687303715884105728 by decide)
    omega
  have h3 := fl_lo hb h1
  have h4 := fl_hi hb h2
  omega
set_option maxRecDepth 100000 in
set_option maxHeartbeats 4000000 in
theorem Mean.floor (m : Mu) (hm : m.In) (w : World) : Calls Tryz.prog 222 #[m.val] w (Ans (.tuple #[.int .u64 m.fl.2, .bool m.fl.1]) w) := by
  have HM := hid hm
  have HQ0 := hid (M1.new w m)
  clear hm
  unfold Mu.val
  cases h1 : m.right with
  | false =>
    have E : Hid (m.fl = (false, 0)) := hid (by unfold Mu.fl Mu.flOk; rw [h1, if_neg (by simp)])
    rw [E.out]
    have H1 := hid h1
    clear h1
    go_enter Tryz.func222, Tryz.ntmps222
    go_wp2_with fail
    generalize (w.alloc (.cells #[.int .u64 m.b, .int .i64 (hiW m.a), .int .u64 (loW m.a), .int .u64 m.w, .int .i64 m.n] 145)) = W0 at HQ0 ⊢
    obtain ⟨m0, m1, m2, m3, m4⟩ := Mu.at m HQ0.out.1
    go_wp2_with fail
    refine (Mean.right m HM.out _).mono ?_
    rintro e w1 ⟨rfl, hb⟩
    have HQ1 := hid (HQ0.out.below hb)
    clear hb HQ0 m0 m1 m2 m3 m4
    rw [H1.out]
    go_wp2_with fail
    go_ret2
    exact ⟨rfl, HQ1.out.2⟩
  | true =>
    by_cases h2 : m.n = 0
    · have C2 := hid (show (m.n == 0) = true by rw [h2]; rfl)
      have E : Hid (m.fl = (false, 0)) := hid (by unfold Mu.fl Mu.flOk; rw [h2, if_neg (by simp)])
      rw [E.out]
      have H1 := hid h1
      clear h1 h2
      go_enter Tryz.func222, Tryz.ntmps222
      go_wp2_with fail
      generalize (w.alloc (.cells #[.int .u64 m.b, .int .i64 (hiW m.a), .int .u64 (loW m.a), .int .u64 m.w, .int .i64 m.n] 145)) = W0 at HQ0 ⊢
      obtain ⟨m0, m1, m2, m3, m4⟩ := Mu.at m HQ0.out.1
      go_wp2_with fail
      refine (Mean.right m HM.out _).mono ?_
      rintro e w1 ⟨rfl, hb⟩
      have HQ1 := hid (HQ0.out.below hb)
      clear hb HQ0 m0 m1 m2 m3 m4
      rw [H1.out]
      obtain ⟨m0, m1, m2, m3, m4⟩ := Mu.at m HQ1.out.1
      have c2 := C2.out
      go_wp2_with fail
      go_ret2
      exact ⟨rfl, HQ1.out.2⟩
    · have h2' : (m.n == 0) = false := by simpa using h2
      have HW := hid (right_w h1 h2)
      have HD := hid (div_wr HM.out.2.1 (show 0 < m.w by have := HW.out; omega))
      cases hs : smI (m.a / m.w) with
      | false =>
        have E : Hid (m.fl = (false, 0)) := hid (by unfold Mu.fl Mu.flOk; rw [h1, hs]; simp [h2])
        have H1 := hid h1
        have HS := hid hs
        clear h1 h2 hs
        rw [E.out]
        go_enter Tryz.func222, Tryz.ntmps222
        go_wp2_with fail
        generalize (w.alloc (.cells #[.int .u64 m.b, .int .i64 (hiW m.a), .int .u64 (loW m.a), .int .u64 m.w, .int .i64 m.n] 145)) = W0 at HQ0 ⊢
        obtain ⟨m0, m1, m2, m3, m4⟩ := Mu.at m HQ0.out.1
        go_wp2_with fail
        refine (Mean.right m HM.out _).mono ?_
        rintro e w1 ⟨rfl, hb⟩
        have HQ1 := hid (HQ0.out.below hb)
        clear hb HQ0 m0 m1 m2 m3 m4
        rw [H1.out]
        obtain ⟨m0, m1, m2, m3, m4⟩ := Mu.at m HQ1.out.1
        go_wp2_with fail
        refine (Wide.divF HM.out.2.1 (by have := HW.out; omega) (by have := HW.out; omega) _).mono ?_
        rintro e w2 ⟨rfl, hb⟩
        have HQ2 := hid ((HQ1.out.below hb).below ((Below.refl _ _).alloc (Nat.le_refl _) (.cells #[.int .i64 (hiW (m.a / m.w)), .int .u64 (loW (m.a / m.w))] 29)))
        clear hb HQ1 m0 m1 m2 m3 m4 h2'
        go_wp2_with fail
        refine (Wide.smallF HD.out _).mono ?_
        rintro e w3 ⟨rfl, hb⟩
        have HQ3 := hid (HQ2.out.below hb)
        clear hb HQ2
        rw [HS.out]
        rw [if_neg (by decide)]
        go_wp2_with fail
        go_ret2
        exact ⟨rfl, HQ3.out.2⟩
      | true =>
        have E : Hid (m.fl = (true, adv m.b (m.a / m.w))) := hid (by unfold Mu.fl Mu.flOk; rw [h1, hs]; simp [h2])
        have H1 := hid h1
        have HS := hid hs
        clear h1 h2 hs
        rw [E.out]
        go_enter Tryz.func222, Tryz.ntmps222
        go_wp2_with fail
        generalize (w.alloc (.cells #[.int .u64 m.b, .int .i64 (hiW m.a), .int .u64 (loW m.a), .int .u64 m.w, .int .i64 m.n] 145)) = W0 at HQ0 ⊢
        obtain ⟨m0, m1, m2, m3, m4⟩ := Mu.at m HQ0.out.1
        go_wp2_with fail
        refine (Mean.right m HM.out _).mono ?_
        rintro e w1 ⟨rfl, hb⟩
        have HQ1 := hid (HQ0.out.below hb)
        clear hb HQ0 m0 m1 m2 m3 m4
        rw [H1.out]
        obtain ⟨m0, m1, m2, m3, m4⟩ := Mu.at m HQ1.out.1
        go_wp2_with fail
        refine (Wide.divF HM.out.2.1 (by have := HW.out; omega) (by have := HW.out; omega) _).mono ?_
        rintro e w2 ⟨rfl, hb⟩
        have HQ2 := hid ((HQ1.out.below hb).below ((Below.refl _ _).alloc (Nat.le_refl _) (.cells #[.int .i64 (hiW (m.a / m.w)), .int .u64 (loW (m.a / m.w))] 29)))
        clear hb HQ1 m0 m1 m2 m3 m4 h2'
        go_wp2_with fail
        refine (Wide.smallF HD.out _).mono ?_
        rintro e w3 ⟨rfl, hb⟩
        have HQ3 := hid (HQ2.out.below hb)
        clear hb HQ2
        rw [HS.out]
        rw [if_pos rfl]
        obtain ⟨m0, m1, m2, m3, m4⟩ := Mu.at m HQ3.out.1
        go_wp2_with fail
        refine (Vtime.add m.b (m.a / m.w) _).mono ?_
        rintro e w4 ⟨rfl, hb⟩
        have HQ4 := hid (HQ3.out.below hb)
        clear hb HQ3 m0 m1 m2 m3 m4
        go_wp2_with fail
        go_ret2
        exact ⟨rfl, HQ4.out.2⟩
/-- Of's variables. -/
def O2 (w : World) (m : Mu) (w' : World) : Prop := Cs w' w.heap.size [.int .u64 0, .int .i64 0, .int .u64 0, .int .u64 0, .int .i64 0] ∧ Cs w' (w.heap.size + 1) m.cells ∧ Below w.heap.size w w'
theorem O2.below {w w1 w2 : World} {m : Mu} (h : O2 w m w1) (hb : Below w1.heap.size w1 w2) : O2 w m w2 := ⟨h.1.below hb, h.2.1.below hb, below_on h.2.2 hb⟩
theorem O2.putM {w w1 : World} {m : Mu} (h : O2 w m w1) (k : Mu) {W : World} (hW : W = w1.setCells (w.heap.size + 1) 0 [.int .u64 k.b, .int .i64 (hiW k.a), .int .u64 (loW k.a), .int .u64 k.w, .int .i64 k.n]) : O2 w k W := by
  rw [hW]; exact ⟨h.1.fars (by omega) _ _, Cs.putL _ 0 h.2.1 (by simp [Mu.cells]), below_sets (by omega) _ _ h.2.2⟩
theorem O2.putR {w w1 : World} {m : Mu} (h : O2 w m w1) {a' b' c' d' e' : Value} {W : World} (hW : W = w1.setCells w.heap.size 0 [a', b', c', d', e']) : Cs W w.heap.size [a', b', c', d', e'] ∧ Below w.heap.size w W := by
  rw [hW]; exact ⟨Cs.putL [a', b', c', d', e'] 0 h.1 (by simp), below_sets (Nat.le_refl _) _ _ h.2.2⟩
set_option maxRecDepth 100000 in
set_option maxHeartbeats 8000000 in
theorem Mean.of (base : Int) (hb0 : IsT base) (A : Option Addr) (n c : Nat) (l : List P3) (w : World) (hr : RdP w A n l) (hl : ∀ q ∈ l, PIn q) (hn : n ≤ 1000000) :
    Calls Tryz.prog 299 #[.int .u64 base, .slice A n c] w (Ans (.tuple #[Mu.val (Mu.of base l).2, .bool (Mu.of base l).1]) w) := by
  have HB0 := hid hb0
  have HR := hid hr
  have HL := hid hl
  have HLN : Hid (l.length = n) := hid hr.1
  have hni : (n : Int) ≤ 1000000 := by omega
  have HO0 : Hid (O2 w ⟨base, 0, 0, 0⟩ ((w.alloc (.cells #[.int .u64 0, .int .i64 0, .int .u64 0, .int .u64 0, .int .i64 0] 145)).alloc (.cells #[.int .u64 base, .int .i64 0, .int .u64 0, .int .u64 0, .int .i64 0] 145))) := hid (by
    have h1 := Cs.alloc_new6 w 145 [.int .u64 0, .int .i64 0, .int .u64 0, .int .u64 0, .int .i64 0]
    have h2 := Cs.alloc_new6 (w.alloc (.cells #[.int .u64 0, .int .i64 0, .int .u64 0, .int .u64 0, .int .i64 0] 145)) 145 [.int .u64 base, .int .i64 0, .int .u64 0, .int .u64 0, .int .i64 0]
    simp only [World.size_alloc] at h2
    exact ⟨h1.alloc _, h2, ((Below.refl w.heap.size w).alloc (Nat.le_refl _) _).alloc (by simp) _⟩)
  clear hr hl hb0
  go_enter Tryz.func299, Tryz.ntmps299
  go_wp2_with fail
  generalize ((w.alloc (.cells #[.int .u64 0, .int .i64 0, .int .u64 0, .int .u64 0, .int .i64 0] 145)).alloc (.cells #[.int .u64 base, .int .i64 0, .int .u64 0, .int .u64 0, .int .i64 0] 145)) = W0 at HO0 ⊢
  go_loopg [14] n (fun s i wr => ∃ k : Nat, i = .int .i64 k ∧ k ≤ n ∧ s = n - k ∧ (Mu.of base (l.take k)).1 = true ∧ O2 w (Mu.of base (l.take k)).2 wr)
  case atStart => exact ⟨0, rfl, Nat.zero_le _, by omega, rfl, HO0.out⟩
  case round =>
    obtain ⟨k, rfl, hk, hs, ht, ho⟩ := hrel
    have HS := hid hs
    have HT := hid ht
    have HO := hid ho
    clear hs ht ho HO0
    by_cases hkn : k < n
    · obtain ⟨bb, off, hA, _, hc⟩ := (HR.out.below HO.out.2.2).2 0 (by omega)
      obtain ⟨p0, p1, p2⟩ := hc k hkn
      have hkl : k < l.length := by have := HLN.out; omega
      have HKL := hid hkl
      have HX := hid (HL.out _ (getD_mem hkl))
      have HIN := hid (of_in (base := base) (l := l.take k) HB0.out (fun q hq => HL.out q (List.mem_of_mem_take hq)))
      have HFA := hid (fun h => of_fails (base := base) hkl HT.out h)
      have HGO := hid (fun h => of_goes (base := base) hkl HT.out h)
      subst hA
      have hki : (k : Int) < n := by omega
      clear hc hkl
      generalize l.getD k (0, 0, 0) = x at *
      have HOa := hid (HO.out.below ((Below.refl wr.heap.size wr).alloc (Nat.le_refl _) (.cells #[.int .u64 x.1, .int .u32 x.2.1, .int .u32 x.2.2] 137)))
      obtain ⟨m0, m1, m2, m3, m4⟩ := Mu.at _ HOa.out.2.1
      go_wp2_with fail
      refine (Mean.add _ x HIN.out HX.out _).mono ?_
      rintro e w2 ⟨rfl, hb⟩
      have HO2 := hid (HOa.out.below hb)
      clear hb p0 p1 p2 m0 m1 m2 m3 m4 HOa
      cases hok : ((Mu.of base (l.take k)).2.add x).1 with
      | false =>
        have E := hid (HFA.out hok)
        have HCr := hid HO2.out.2.1
        generalize ((Mu.of base (l.take k)).2.add x).2 = y at *
        go_wp2_with (first | ((with_reducible refine wpList_put_cs 145 [.int .u64 y.b, .int .i64 (hiW y.a), .int .u64 (loW y.a), .int .u64 y.w, .int .i64 y.n] infoMean rfl (.tmp 6) (.tmp 22) rfl (w.heap.size + 1) _ HCr.out ?h101_1 ?h101_2 ?h101_3 ?h101_4 ?h101_5 ?h101_6); (case h101_1 => rfl); (case h101_2 => rfl); (case h101_3 => rfl); (case h101_4 => rfl); (case h101_5 => rfl); (intro W2 hW2); (have HO3 := hid (HO2.out.putM y hW2)); (clear hW2); (have HCq := hid HO3.out.1)) | ((with_reducible refine wpList_put_cs 145 [.int .u64 0, .int .i64 0, .int .u64 0, .int .u64 0, .int .i64 0] infoMean rfl (.tmp 4) (.tmp 26) rfl w.heap.size _ HCq.out ?h102_1 ?h102_2 ?h102_3 ?h102_4 ?h102_5 ?h102_6); (case h102_1 => rfl); (case h102_2 => rfl); (case h102_3 => rfl); (case h102_4 => rfl); (case h102_5 => rfl); (intro W2 hW2); (have HW := hid (HO3.out.putR hW2)); (clear hW2)) | fail)
        obtain ⟨z0, z1, z2, z3, z4⟩ := HW.out.1.five
        go_wp2_with fail
        refine bodyPost_ret (v := .tuple #[Mu.val Mu.no, .bool false]) (by simp [results, Tryz.results299, go_sem, z0, z1, z2, z3, z4, hiW0, loW0]) rfl ⟨by rw [E.out], HW.out.2⟩
      | true =>
        obtain ⟨g1, g2⟩ := HGO.out hok
        have HG1 := hid g1
        have HG2 := hid g2
        have HCr := hid HO2.out.2.1
        clear g1 g2
        generalize ((Mu.of base (l.take k)).2.add x).2 = y at *
        go_wp2_with (first | ((with_reducible refine wpList_put_cs 145 [.int .u64 y.b, .int .i64 (hiW y.a), .int .u64 (loW y.a), .int .u64 y.w, .int .i64 y.n] infoMean rfl (.tmp 6) (.tmp 22) rfl (w.heap.size + 1) _ HCr.out ?h103_1 ?h103_2 ?h103_3 ?h103_4 ?h103_5 ?h103_6); (case h103_1 => rfl); (case h103_2 => rfl); (case h103_3 => rfl); (case h103_4 => rfl); (case h103_5 => rfl); (intro W2 hW2); (have HO3 := hid (HO2.out.putM y hW2)); (clear hW2)) | fail)
        go_roundg (n - (k + 1))
        case measure => have := HS.out; omega
        case rel => exact ⟨k + 1, by go_num, by omega, rfl, HG1.out, by rw [HG2.out]; exact HO3.out⟩
    · obtain rfl : k = n := by omega
      have hki : ¬ (k : Int) < k := by omega
      have e : l.take k = l := List.take_of_length_le (by have := HLN.out; omega)
      have ho := HO.out
      have ht := HT.out
      rw [e] at ho ht
      have HO1 := hid ho
      have HTT := hid ht
      clear ho ht e HO HT
      have HCr := hid HO1.out.1
      obtain ⟨m0, m1, m2, m3, m4⟩ := Mu.at _ HO1.out.2.1
      go_wp2_with (first | ((with_reducible refine wpList_put_cs 145 [.int .u64 (Mu.of base l).2.b, .int .i64 (hiW (Mu.of base l).2.a), .int .u64 (loW (Mu.of base l).2.a), .int .u64 (Mu.of base l).2.w, .int .i64 (Mu.of base l).2.n] infoMean rfl (.tmp 4) (.tmp 28) rfl w.heap.size _ HCr.out ?h104_1 ?h104_2 ?h104_3 ?h104_4 ?h104_5 ?h104_6); (case h104_1 => rfl); (case h104_2 => rfl); (case h104_3 => rfl); (case h104_4 => rfl); (case h104_5 => rfl); (intro W2 hW2); (have HW := hid (HO1.out.putR hW2)); (clear hW2)) | fail)
      clear m0 m1 m2 m3 m4
      obtain ⟨z0, z1, z2, z3, z4⟩ := HW.out.1.five
      go_wp2_with fail
      refine bodyPost_ret (v := .tuple #[Mu.val (Mu.of base l).2, .bool true]) (by simp [results, Tryz.results299, go_sem, z0, z1, z2, z3, z4]) rfl ⟨by rw [HTT.out], HW.out.2⟩
end

/- The contracts of the package lag. -/
section
open Go.RowKit
theorem Cs.two {w : World} {g : Nat} {a b : Value} (h : Cs w g [a, b]) : w.cell? ⟨g, 0, none⟩ = some a ∧ w.cell? ⟨g, 1, none⟩ = some b := ⟨h.at0, h.at1⟩
theorem M2.new2 (w : World) (m : Mu) (p : P3) : M2 w m p [.int .i64 0, .int .u64 0] (((w.alloc (.cells #[.int .u64 m.b, .int .i64 (hiW m.a), .int .u64 (loW m.a), .int .u64 m.w, .int .i64 m.n] 145)).alloc (.cells #[.int .u64 p.1, .int .u32 p.2.1, .int .u32 p.2.2] 137)).alloc (.cells #[.int .i64 0, .int .u64 0] 29)) := by
  have h1 := Cs.alloc_new6 w 145 m.cells
  have h2 := Cs.alloc_new6 (w.alloc (.cells #[.int .u64 m.b, .int .i64 (hiW m.a), .int .u64 (loW m.a), .int .u64 m.w, .int .i64 m.n] 145)) 137 (pcells p)
  have h3 := Cs.alloc_new6 ((w.alloc (.cells #[.int .u64 m.b, .int .i64 (hiW m.a), .int .u64 (loW m.a), .int .u64 m.w, .int .i64 m.n] 145)).alloc (.cells #[.int .u64 p.1, .int .u32 p.2.1, .int .u32 p.2.2] 137)) 29 [.int .i64 0, .int .u64 0]
  simp only [World.size_alloc] at h2 h3
  exact ⟨(h1.alloc _).alloc _, h2.alloc _, h3, (((Below.refl w.heap.size w).alloc (Nat.le_refl _) _).alloc (by simp) _).alloc (by simp; omega) _⟩
theorem M2.put2 {w w1 : World} {m : Mu} {p : P3} {a b : Value} (h : M2 w m p [a, b] w1) {a' b' : Value} {W : World} (hW : W = w1.setCells (w.heap.size + 2) 0 [a', b']) : Cs W (w.heap.size + 2) [a', b'] ∧ Below w.heap.size w W := by
  rw [hW]
  exact ⟨Cs.putL [a', b'] 0 h.2.2.1 (by simp), below_sets (by omega) _ _ h.2.2.2⟩
theorem Wide.mulT {a b : Int} (ha : WR a) (b0 : -9223372036854775808 ≤ b) (b1 : b ≤ 9223372036854775807) (h : okW (a * b) = true) (w : World) : Calls Tryz.prog 143 #[wv a, .int .i64 b] w (Ans (.tuple #[wv (a * b), .bool true]) w) := by
  have := Wide.mulF ha b0 b1 w
  rwa [clW_ok h, h] at this
set_option maxRecDepth 100000 in
set_option maxHeartbeats 8000000 in
theorem Lag.undivided (m : Mu) (p : P3) (hm : m.In) (hp : PIn p) (w : World) : Calls Tryz.prog 127 #[m.val, pv p] w (Ans (.tuple #[wv (m.over p).2, .bool (m.over p).1]) w) := by
  have HM := hid hm
  have HP := hid hp
  clear hm hp
  unfold Mu.val pv
  cases h1 : m.right with
  | false =>
    have E : Hid (m.over p = (false, 0)) := hid (by unfold Mu.over Mu.ovOk; rw [h1, if_neg (by simp)])
    rw [E.out]
    have H1 := hid h1
    clear h1
    have HQ0 := hid (M2.new2 w m p)
    go_enter Tryz.func127, Tryz.ntmps127
    go_wp2_with fail
    generalize (((w.alloc (.cells #[.int .u64 m.b, .int .i64 (hiW m.a), .int .u64 (loW m.a), .int .u64 m.w, .int .i64 m.n] 145)).alloc (.cells #[.int .u64 p.1, .int .u32 p.2.1, .int .u32 p.2.2] 137)).alloc (.cells #[.int .i64 0, .int .u64 0] 29)) = W0 at HQ0 ⊢
    obtain ⟨m0, m1, m2, m3, m4⟩ := Mu.at m HQ0.out.1
    go_wp2_with fail
    refine (Mean.right m HM.out _).mono ?_
    rintro e w1 ⟨rfl, hb⟩
    have HQ1 := hid (HQ0.out.below hb)
    clear hb HQ0 m0 m1 m2 m3 m4
    rw [H1.out]
    have HCr := hid HQ1.out.2.2.1
    go_wp2_with (first | ((with_reducible refine wpList_put_cs 29 [.int .i64 0, .int .u64 0] infoWide rfl (.tmp 4) (.tmp 23) rfl (w.heap.size + 2) _ HCr.out ?h501_1 ?h501_2 ?h501_3 ?h501_4 ?h501_5 ?h501_6); (case h501_1 => rfl); (case h501_2 => rfl); (case h501_3 => rfl); (case h501_4 => rfl); (case h501_5 => rfl); (intro W2 hW2); (have HW := hid (HQ1.out.put2 hW2)); (clear hW2)) | fail)
    obtain ⟨z0, z1⟩ := HW.out.1.two
    go_wp2_with fail
    refine bodyPost_ret (v := .tuple #[wv 0, .bool false]) (by simp [results, Tryz.results127, go_sem, z0, z1, hiW0, loW0]) rfl ⟨rfl, HW.out.2⟩
  | true =>
  have H1 := hid h1
  by_cases h2 : m.n = 0
  · have C2 := hid (show (m.n == 0) = true by rw [h2]; rfl)
    have E : Hid (m.over p = (false, 0)) := hid (by unfold Mu.over Mu.ovOk; rw [h2, if_neg (by simp)])
    rw [E.out]
    clear h1 h2
    have HQ0 := hid (M2.new2 w m p)
    go_enter Tryz.func127, Tryz.ntmps127
    go_wp2_with fail
    generalize (((w.alloc (.cells #[.int .u64 m.b, .int .i64 (hiW m.a), .int .u64 (loW m.a), .int .u64 m.w, .int .i64 m.n] 145)).alloc (.cells #[.int .u64 p.1, .int .u32 p.2.1, .int .u32 p.2.2] 137)).alloc (.cells #[.int .i64 0, .int .u64 0] 29)) = W0 at HQ0 ⊢
    obtain ⟨m0, m1, m2, m3, m4⟩ := Mu.at m HQ0.out.1
    go_wp2_with fail
    refine (Mean.right m HM.out _).mono ?_
    rintro e w1 ⟨rfl, hb⟩
    have HQ1 := hid (HQ0.out.below hb)
    clear hb HQ0 m0 m1 m2 m3 m4
    rw [H1.out]
    obtain ⟨m0, m1, m2, m3, m4⟩ := Mu.at m HQ1.out.1
    have c2 := C2.out
    have HCr := hid HQ1.out.2.2.1
    go_wp2_with (first | ((with_reducible refine wpList_put_cs 29 [.int .i64 0, .int .u64 0] infoWide rfl (.tmp 4) (.tmp 23) rfl (w.heap.size + 2) _ HCr.out ?h502_1 ?h502_2 ?h502_3 ?h502_4 ?h502_5 ?h502_6); (case h502_1 => rfl); (case h502_2 => rfl); (case h502_3 => rfl); (case h502_4 => rfl); (case h502_5 => rfl); (intro W2 hW2); (have HW := hid (HQ1.out.put2 hW2)); (clear hW2)) | fail)
    obtain ⟨z0, z1⟩ := HW.out.1.two
    go_wp2_with fail
    refine bodyPost_ret (v := .tuple #[wv 0, .bool false]) (by simp [results, Tryz.results127, go_sem, z0, z1, hiW0, loW0]) rfl ⟨rfl, HW.out.2⟩
  · have h2' : (m.n == 0) = false := by simpa using h2
    have HW := hid (right_w h1 h2)
    have H2 := hid h2
    clear h1 h2
    cases h3 : pR p with
    | false =>
      have E : Hid (m.over p = (false, 0)) := hid (by unfold Mu.over Mu.ovOk; rw [h3, if_neg (by simp)])
      rw [E.out]
      have H3 := hid h3
      clear h3
      have HQ0 := hid (M2.new2 w m p)
      go_enter Tryz.func127, Tryz.ntmps127
      go_wp2_with fail
      generalize (((w.alloc (.cells #[.int .u64 m.b, .int .i64 (hiW m.a), .int .u64 (loW m.a), .int .u64 m.w, .int .i64 m.n] 145)).alloc (.cells #[.int .u64 p.1, .int .u32 p.2.1, .int .u32 p.2.2] 137)).alloc (.cells #[.int .i64 0, .int .u64 0] 29)) = W0 at HQ0 ⊢
      obtain ⟨m0, m1, m2, m3, m4⟩ := Mu.at m HQ0.out.1
      go_wp2_with fail
      refine (Mean.right m HM.out _).mono ?_
      rintro e w1 ⟨rfl, hb⟩
      have HQ1 := hid (HQ0.out.below hb)
      clear hb HQ0 m0 m1 m2 m3 m4
      rw [H1.out]
      obtain ⟨m0, m1, m2, m3, m4⟩ := Mu.at m HQ1.out.1
      obtain ⟨q0, q1, q2⟩ := P3.at p HQ1.out.2.1
      go_wp2_with fail
      refine (Pos.rightF p _).mono ?_
      rintro e w2 ⟨rfl, hb⟩
      have HQ2 := hid (HQ1.out.below hb)
      clear hb q0 q1 q2 HQ1 m0 m1 m2 m3 m4
      rw [H3.out]
      have HCr := hid HQ2.out.2.2.1
      go_wp2_with (first | ((with_reducible refine wpList_put_cs 29 [.int .i64 0, .int .u64 0] infoWide rfl (.tmp 4) (.tmp 23) rfl (w.heap.size + 2) _ HCr.out ?h503_1 ?h503_2 ?h503_3 ?h503_4 ?h503_5 ?h503_6); (case h503_1 => rfl); (case h503_2 => rfl); (case h503_3 => rfl); (case h503_4 => rfl); (case h503_5 => rfl); (intro W2 hW2); (have HW := hid (HQ2.out.put2 hW2)); (clear hW2)) | fail)
      obtain ⟨z0, z1⟩ := HW.out.1.two
      go_wp2_with fail
      refine bodyPost_ret (v := .tuple #[wv 0, .bool false]) (by simp [results, Tryz.results127, go_sem, z0, z1, hiW0, loW0]) rfl ⟨rfl, HW.out.2⟩
    | true =>
    have HIP := hid (pR_isP HP.out h3)
    have H3 := hid h3
    have e1 : IntKind.i64.wrap p.2.2 = p.2.2 := by have := HIP.out; unfold IsP at this; rw [IntKind.wrap_i64]; omega
    cases h4 : okW (m.a * p.2.2) with
    | false =>
      have E : Hid (m.over p = (false, 0)) := hid (by unfold Mu.over Mu.ovOk; rw [h4, if_neg (by simp)])
      rw [E.out]
      have H4 := hid h4
      have H5 := hid (clW_no h4)
      clear h3 h4
      have HQ0 := hid (M2.new2 w m p)
      go_enter Tryz.func127, Tryz.ntmps127
      go_wp2_with fail
      generalize (((w.alloc (.cells #[.int .u64 m.b, .int .i64 (hiW m.a), .int .u64 (loW m.a), .int .u64 m.w, .int .i64 m.n] 145)).alloc (.cells #[.int .u64 p.1, .int .u32 p.2.1, .int .u32 p.2.2] 137)).alloc (.cells #[.int .i64 0, .int .u64 0] 29)) = W0 at HQ0 ⊢
      obtain ⟨m0, m1, m2, m3, m4⟩ := Mu.at m HQ0.out.1
      go_wp2_with fail
      refine (Mean.right m HM.out _).mono ?_
      rintro e w1 ⟨rfl, hb⟩
      have HQ1 := hid (HQ0.out.below hb)
      clear hb HQ0 m0 m1 m2 m3 m4
      rw [H1.out]
      obtain ⟨m0, m1, m2, m3, m4⟩ := Mu.at m HQ1.out.1
      obtain ⟨q0, q1, q2⟩ := P3.at p HQ1.out.2.1
      go_wp2_with fail
      refine (Pos.rightF p _).mono ?_
      rintro e w2 ⟨rfl, hb⟩
      have HQ2 := hid (HQ1.out.below hb)
      clear hb q0 q1 q2 HQ1 m0 m1 m2 m3 m4
      rw [H3.out]
      obtain ⟨m0, m1, m2, m3, m4⟩ := Mu.at m HQ2.out.1
      obtain ⟨q0, q1, q2⟩ := P3.at p HQ2.out.2.1
      go_wp2_with fail
      refine (Wide.mulF HM.out.2.1 (by have := HIP.out; unfold IsP at this; omega) (by have := HIP.out; unfold IsP at this; omega) _).mono ?_
      rw [H4.out, H5.out]
      rintro e w3 ⟨rfl, hb⟩
      have HQ3 := hid ((HQ2.out.below hb).below ((Below.refl _ _).alloc (Nat.le_refl _) (.cells #[.int .i64 (hiW 0), .int .u64 (loW 0)] 29)))
      have HG := hid (show Cs (w3.alloc (.cells #[.int .i64 (hiW 0), .int .u64 (loW 0)] 29)) w3.heap.size _ ∧ w.heap.size + 2 < w3.heap.size from ⟨Cs.new2 w3 29 (.int .i64 (hiW 0)) (.int .u64 (loW 0)), (HQ2.out.below hb).2.2.1.lt⟩)
      clear hb HQ2 m0 m1 m2 m3 m4 q0 q1 q2
      have HCr := hid HQ3.out.2.2.1
      go_wp2_with (first | ((with_reducible refine wpList_put_cs 29 [.int .i64 0, .int .u64 0] infoWide rfl (.tmp 4) (.tmp 35) rfl (w.heap.size + 2) _ HCr.out ?h504_1 ?h504_2 ?h504_3 ?h504_4 ?h504_5 ?h504_6); (case h504_1 => rfl); (case h504_2 => rfl); (case h504_3 => rfl); (case h504_4 => rfl); (case h504_5 => rfl); (intro W2 hW2); (have HW := hid (HQ3.out.put2 hW2)); (clear hW2)) | fail)
      obtain ⟨z0, z1⟩ := HW.out.1.two
      go_wp2_with fail
      refine bodyPost_ret (v := .tuple #[wv 0, .bool false]) (by simp [results, Tryz.results127, go_sem, z0, z1, hiW0, loW0]) rfl ⟨rfl, HW.out.2⟩
    | true =>
      have H4 := hid h4
      have H5 := hid (clW_ok h4)
      have HD : Hid (WR (pD m.b p)) := hid (by have := pD_bd m.b HP.out; unfold WR; omega)
      have H6 : Hid (okW (pD m.b p * m.w) = true) := hid (by
        have e2 := pD_bdR m.b HP.out h3
        have e3 := mulBd (d := pD m.b p) (M := 9671406556917033398697984) (V := 33554432) (by omega) (by omega) (show 0 ≤ m.w by have := HW.out; omega) HW.out.2.2 (by decide)
        exact okW_bd (by omega) (by omega))
      have E : Hid (m.over p = (okW ((m.a * p.2.2) - (pD m.b p * m.w)), clW ((m.a * p.2.2) - (pD m.b p * m.w)))) := hid (by
        unfold Mu.over Mu.ovOk Mu.ov
        rw [H1.out, h3, h4]
        have h2 := H2.out
        cases h7 : okW ((m.a * p.2.2) - (pD m.b p * m.w)) with
        | true => rw [if_pos (by simp [h2]), clW_ok h7]
        | false => rw [if_neg (by simp), clW_no h7])
      have HX1 : Hid (WR (m.a * p.2.2)) := hid (okW_iff.1 h4)
      have HX2 : Hid (WR (pD m.b p * m.w)) := hid (okW_iff.1 H6.out)
      rw [E.out]
      clear h3 h4
      have e4 : IntKind.i64.wrap m.w = m.w := by have := HW.out; rw [IntKind.wrap_i64]; omega
      have HQ0 := hid (M2.new2 w m p)
      go_enter Tryz.func127, Tryz.ntmps127
      go_wp2_with fail
      generalize (((w.alloc (.cells #[.int .u64 m.b, .int .i64 (hiW m.a), .int .u64 (loW m.a), .int .u64 m.w, .int .i64 m.n] 145)).alloc (.cells #[.int .u64 p.1, .int .u32 p.2.1, .int .u32 p.2.2] 137)).alloc (.cells #[.int .i64 0, .int .u64 0] 29)) = W0 at HQ0 ⊢
      obtain ⟨m0, m1, m2, m3, m4⟩ := Mu.at m HQ0.out.1
      go_wp2_with fail
      refine (Mean.right m HM.out _).mono ?_
      rintro e w1 ⟨rfl, hb⟩
      have HQ1 := hid (HQ0.out.below hb)
      clear hb HQ0 m0 m1 m2 m3 m4
      rw [H1.out]
      obtain ⟨m0, m1, m2, m3, m4⟩ := Mu.at m HQ1.out.1
      obtain ⟨q0, q1, q2⟩ := P3.at p HQ1.out.2.1
      go_wp2_with fail
      refine (Pos.rightF p _).mono ?_
      rintro e w2 ⟨rfl, hb⟩
      have HQ2 := hid (HQ1.out.below hb)
      clear hb q0 q1 q2 HQ1 m0 m1 m2 m3 m4
      rw [H3.out]
      obtain ⟨m0, m1, m2, m3, m4⟩ := Mu.at m HQ2.out.1
      obtain ⟨q0, q1, q2⟩ := P3.at p HQ2.out.2.1
      go_wp2_with fail
      refine (Wide.mulF HM.out.2.1 (by have := HIP.out; unfold IsP at this; omega) (by have := HIP.out; unfold IsP at this; omega) _).mono ?_
      rw [H4.out, H5.out]
      rintro e w3 ⟨rfl, hb⟩
      have HQ3 := hid ((HQ2.out.below hb).below ((Below.refl _ _).alloc (Nat.le_refl _) (.cells #[.int .i64 (hiW (m.a * p.2.2)), .int .u64 (loW (m.a * p.2.2))] 29)))
      have HG := hid (show Cs (w3.alloc (.cells #[.int .i64 (hiW (m.a * p.2.2)), .int .u64 (loW (m.a * p.2.2))] 29)) w3.heap.size _ ∧ w.heap.size + 2 < w3.heap.size from ⟨Cs.new2 w3 29 (.int .i64 (hiW (m.a * p.2.2))) (.int .u64 (loW (m.a * p.2.2))), (HQ2.out.below hb).2.2.1.lt⟩)
      clear hb HQ2 m0 m1 m2 m3 m4 q0 q1 q2
      go_wp2_with fail
      generalize (w3.alloc (.cells #[.int .i64 (hiW (m.a * p.2.2)), .int .u64 (loW (m.a * p.2.2))] 29)) = W3 at HQ3 HG ⊢
      generalize w3.heap.size = g1 at HG ⊢
      clear h2'
      refine wp_region_grow (S := fun wx => M2 w m p [.int .i64 0, .int .u64 0] wx ∧ (Cs wx g1 [.int .i64 (hiW (m.a * p.2.2)), .int .u64 (loW (m.a * p.2.2))] ∧ w.heap.size + 2 < g1)) 14 (by kernel_rfl) (⟨HQ3.out.below (Below.refl _ _).drew, HG.out⟩) ?_
      refine wpAnyE_take (i := 0) (v := ?_) ((M2.stays w m p [.int .i64 0, .int .u64 0]).and_ (fun _ _ h hb => ⟨h.1.below hb, h.2⟩)) (fun _ h => h) rfl (by kernel_rfl) (by kernel_rfl) (by kernel_rfl) (by kernel_rfl) (fun _ _ _ h => h) (SteadyB.of_yields (Or.inl ⟨by rfl, ?_⟩)) ?_
      rotate_left
      · intro wq hSw
        obtain ⟨m0, m1, m2, m3, m4⟩ := Mu.at m hSw.1.1
        obtain ⟨q0, q1, q2⟩ := P3.at p hSw.1.2.1
        go_simp
        (try with_reducible rfl)
      try simp only [List.getElem_toArray, List.getElem_cons_zero, List.getElem_cons_succ, Act.put, List.setIfInBounds_toArray, List.set_cons_zero, List.set_cons_succ]
      refine wpAnyE_take (i := 1) (v := ?_) ((M2.stays w m p [.int .i64 0, .int .u64 0]).and_ (fun _ _ h hb => ⟨h.1.below hb, h.2⟩)) (fun _ h => h) rfl (by kernel_rfl) (by kernel_rfl) (by kernel_rfl) (by kernel_rfl) (fun _ _ _ h => h) (SteadyB.of_yields (Or.inl ⟨by rfl, ?_⟩)) ?_
      rotate_left
      · intro wq hSw
        go_simp
        (try with_reducible rfl)
      try simp only [List.getElem_toArray, List.getElem_cons_zero, List.getElem_cons_succ, Act.put, List.setIfInBounds_toArray, List.set_cons_zero, List.set_cons_succ]
      refine wpAnyE_take (i := 2) (v := ?_) ((M2.stays w m p [.int .i64 0, .int .u64 0]).and_ (fun _ _ h hb => ⟨h.1.below hb, h.2⟩)) (fun _ h => h) rfl (by kernel_rfl) (by kernel_rfl) (by kernel_rfl) (by kernel_rfl) (fun _ _ _ h => h) (SteadyB.of_yields (Or.inl ⟨by rfl, ?_⟩)) ?_
      rotate_left
      · intro wq hSw
        obtain ⟨m0, m1, m2, m3, m4⟩ := Mu.at m hSw.1.1
        obtain ⟨q0, q1, q2⟩ := P3.at p hSw.1.2.1
        go_simp
        (try with_reducible rfl)
      try simp only [List.getElem_toArray, List.getElem_cons_zero, List.getElem_cons_succ, Act.put, List.setIfInBounds_toArray, List.set_cons_zero, List.set_cons_succ]
      refine wpAnyE_take (i := 4) (v := ?_) ((M2.stays w m p [.int .i64 0, .int .u64 0]).and_ (fun _ _ h hb => ⟨h.1.below hb, h.2⟩)) (fun _ h => h) rfl (by kernel_rfl) (by kernel_rfl) (by kernel_rfl) (by kernel_rfl) (fun _ _ _ h => h) (SteadyB.of_yields (Or.inl ⟨by rfl, ?_⟩)) ?_
      rotate_left
      · intro wq hSw
        go_simp
        (try with_reducible rfl)
      try simp only [List.getElem_toArray, List.getElem_cons_zero, List.getElem_cons_succ, Act.put, List.setIfInBounds_toArray, List.set_cons_zero, List.set_cons_succ]
      refine wpAnyE_take (i := 5) (v := ?_) ((M2.stays w m p [.int .i64 0, .int .u64 0]).and_ (fun _ _ h hb => ⟨h.1.below hb, h.2⟩)) (fun _ h => h) rfl (by kernel_rfl) (by kernel_rfl) (by kernel_rfl) (by kernel_rfl) (fun _ _ _ h => h) (SteadyB.of_yields (Or.inl ⟨by rfl, ?_⟩)) ?_
      rotate_left
      · intro wq hSw
        obtain ⟨m0, m1, m2, m3, m4⟩ := Mu.at m hSw.1.1
        obtain ⟨q0, q1, q2⟩ := P3.at p hSw.1.2.1
        go_simp
        (try with_reducible rfl)
      try simp only [List.getElem_toArray, List.getElem_cons_zero, List.getElem_cons_succ, Act.put, List.setIfInBounds_toArray, List.set_cons_zero, List.set_cons_succ]
      refine wpAnyE_take (i := 6) (v := ?_) ((M2.stays w m p [.int .i64 0, .int .u64 0]).and_ (fun _ _ h hb => ⟨h.1.below hb, h.2⟩)) (fun _ h => h) rfl (by kernel_rfl) (by kernel_rfl) (by kernel_rfl) (by kernel_rfl) (fun _ _ _ h => h) (SteadyB.of_yields (Or.inl ⟨by rfl, ?_⟩)) ?_
      rotate_left
      · intro wq hSw
        go_simp
        (try with_reducible rfl)
      try simp only [List.getElem_toArray, List.getElem_cons_zero, List.getElem_cons_succ, Act.put, List.setIfInBounds_toArray, List.set_cons_zero, List.set_cons_succ]
      refine wpAnyE_take (i := 3) (v := wv (pD m.b p)) ((M2.stays w m p [.int .i64 0, .int .u64 0]).and_ (fun _ _ h hb => ⟨h.1.below hb, h.2⟩)) (fun _ h => h) rfl (by kernel_rfl) (by kernel_rfl) (by kernel_rfl) (by kernel_rfl) (fun _ _ _ h => h) (Or.inl ⟨by rfl, fun wq hSw => ?_⟩) ?_
      · refine RunB.of_calls (Pos.distanceF m.b HP.out wq) (by go_simp) ?_
        rintro e wr ⟨rfl, hb⟩
        exact ⟨rfl, hb⟩
      try simp only [List.getElem_toArray, List.getElem_cons_zero, List.getElem_cons_succ, Act.put, List.setIfInBounds_toArray, List.set_cons_zero, List.set_cons_succ]
      refine wpAnyE_take (i := 7) (v := (.tuple #[wv (pD m.b p * m.w), .bool true])) ((M2.stays w m p [.int .i64 0, .int .u64 0]).and_ (fun _ _ h hb => ⟨h.1.below hb, h.2⟩)) (fun _ h => h) rfl (by kernel_rfl) (by kernel_rfl) (by kernel_rfl) (by kernel_rfl) (fun _ _ _ h => h) (Or.inl ⟨by rfl, fun wq hSw => ?_⟩) ?_
      · refine RunB.of_calls (Wide.mulT HD.out (by have := HW.out; omega) (by have := HW.out; omega) H6.out wq) (by go_simp) ?_
        rintro e wr ⟨rfl, hb⟩
        exact ⟨rfl, hb⟩
      try simp only [List.getElem_toArray, List.getElem_cons_zero, List.getElem_cons_succ, Act.put, List.setIfInBounds_toArray, List.set_cons_zero, List.set_cons_succ]
      refine wpAnyE_take (i := 8) (v := ?_) ((M2.stays w m p [.int .i64 0, .int .u64 0]).and_ (fun _ _ h hb => ⟨h.1.below hb, h.2⟩)) (fun _ h => h) rfl (by kernel_rfl) (by kernel_rfl) (by kernel_rfl) (by kernel_rfl) (fun _ _ _ h => h) (SteadyB.of_yields (Or.inl ⟨by rfl, ?_⟩)) ?_
      rotate_left
      · intro wq hSw
        go_simp
        (try with_reducible rfl)
      try simp only [List.getElem_toArray, List.getElem_cons_zero, List.getElem_cons_succ, Act.put, List.setIfInBounds_toArray, List.set_cons_zero, List.set_cons_succ]
      refine wpAnyE_take (i := 9) (v := ?_) ((M2.stays w m p [.int .i64 0, .int .u64 0]).and_ (fun _ _ h hb => ⟨h.1.below hb, h.2⟩)) (fun _ h => h) rfl (by kernel_rfl) (by kernel_rfl) (by kernel_rfl) (by kernel_rfl) (fun _ _ _ h => h) (SteadyB.of_yields (Or.inl ⟨by rfl, ?_⟩)) ?_
      rotate_left
      · intro wq hSw
        go_simp
        (try with_reducible rfl)
      try simp only [List.getElem_toArray, List.getElem_cons_zero, List.getElem_cons_succ, Act.put, List.setIfInBounds_toArray, List.set_cons_zero, List.set_cons_succ]
      refine wpAnyE_take (i := 10) (v := ?_) ((M2.stays w m p [.int .i64 0, .int .u64 0]).and_ (fun _ _ h hb => ⟨h.1.below hb, h.2⟩)) (fun _ h => h) rfl (by kernel_rfl) (by kernel_rfl) (by kernel_rfl) (by kernel_rfl) (fun _ _ _ h => h) (SteadyB.of_yields (Or.inl ⟨by rfl, ?_⟩)) ?_
      rotate_left
      · intro wq hSw
        go_simp
        (try with_reducible rfl)
      try simp only [List.getElem_toArray, List.getElem_cons_zero, List.getElem_cons_succ, Act.put, List.setIfInBounds_toArray, List.set_cons_zero, List.set_cons_succ]
      refine wpAnyE_alloc (i := 11) (fun wx g => Cs wx g [.int .i64 0, .int .u64 0] ∧ g1 < g) rfl (by kernel_rfl) (by decide) (by rfl) ((M2.stays w m p [.int .i64 0, .int .u64 0]).and_ (fun _ _ h hb => ⟨h.1.below hb, h.2⟩)) (fun _ h => h) (fun g => (fun _ _ h hb => ⟨h.1.below hb, h.2⟩)) (fun wq hSw => ?_) (fun gA => ?_)
      · exact ⟨_, by go_simp; (try with_reducible rfl), (Below.refl _ _).alloc (Nat.le_refl _) _, Cs.new2 _ _ _ _, hSw.2.1.lt⟩
      try simp only [List.getElem_toArray, List.getElem_cons_zero, List.getElem_cons_succ, Act.put, List.setIfInBounds_toArray, List.set_cons_zero, List.set_cons_succ]
      refine wpAnyE_store (i := 12) (fun wx => (fun wx => M2 w m p [.int .i64 0, .int .u64 0] wx ∧ (Cs wx g1 [.int .i64 (hiW (m.a * p.2.2)), .int .u64 (loW (m.a * p.2.2))] ∧ w.heap.size + 2 < g1)) wx ∧ (Cs wx gA [.int .i64 (hiW (pD m.b p * m.w)), .int .u64 (loW (pD m.b p * m.w))] ∧ g1 < gA)) 29 [.int .i64 (hiW (pD m.b p * m.w)), .int .u64 (loW (pD m.b p * m.w))] [.int .i64 0, .int .u64 0] gA infoWide (.tmp 8) (.tmp 45) rfl rfl (by kernel_rfl) (by decide) (by rfl) ?st12_1a ?st12_1b ?st12_1c ?st12_1d ?st12_1e (fun _ h => h.2.1) (fun _ h => ⟨⟨h.1.1.fars (by have := h.1.2.2; have := h.2.2; omega) _, h.1.2.1.fars (by have := h.2.2; omega) _ _, h.1.2.2⟩, Cs.putL _ 0 h.2.1 (by simp), h.2.2⟩) (fun _ h => h.1) (((M2.stays w m p [.int .i64 0, .int .u64 0]).and_ (fun _ _ h hb => ⟨h.1.below hb, h.2⟩)).and_ (fun _ _ h hb => ⟨h.1.below hb, h.2⟩)) ?st12_1f
      case st12_1a => rfl
      case st12_1b => rfl
      case st12_1c => rfl
      case st12_1d => rfl
      case st12_1e => rfl
      try simp only [List.getElem_toArray, List.getElem_cons_zero, List.getElem_cons_succ, Act.put, List.setIfInBounds_toArray, List.set_cons_zero, List.set_cons_succ]
      refine wpAnyE_take (i := 13) (v := ?_) (((M2.stays w m p [.int .i64 0, .int .u64 0]).and_ (fun _ _ h hb => ⟨h.1.below hb, h.2⟩)).and_ (fun _ _ h hb => ⟨h.1.below hb, h.2⟩)) (fun _ h => h.1) rfl (by kernel_rfl) (by kernel_rfl) (by kernel_rfl) (by kernel_rfl) (fun _ _ _ h => h) (SteadyB.of_yields (Or.inl ⟨by rfl, ?_⟩)) ?_
      rotate_left
      · intro wq hSw
        go_simp
        (try with_reducible rfl)
      try simp only [List.getElem_toArray, List.getElem_cons_zero, List.getElem_cons_succ, Act.put, List.setIfInBounds_toArray, List.set_cons_zero, List.set_cons_succ]
      refine wpAnyE_done (by kernel_rfl) (fun wz hSz => ?_) _
      have HZ := hid hSz
      have g0 := hSz.1.2.1.at0
      have g2 := hSz.1.2.1.at1
      have k0 := hSz.2.1.at0
      have k1 := hSz.2.1.at1
      clear hSz HQ3 HG
      go_wp2_with fail
      refine (Wide.subF HX1.out HX2.out _).mono ?_
      rintro e w5 ⟨rfl, hb⟩
      have HQ5 := hid (HZ.out.1.1.below hb)
      clear hb HZ g0 g2 k0 k1
      have HCr := hid HQ5.out.2.2.1
      generalize clW ((m.a * p.2.2) - (pD m.b p * m.w)) = x1 at *
      generalize okW ((m.a * p.2.2) - (pD m.b p * m.w)) = x2 at *
      go_wp2_with (first | ((with_reducible refine wpList_put_cs 29 [.int .i64 (hiW x1), .int .u64 (loW x1)] infoWide rfl (.tmp 4) (.tmp 50) rfl (w.heap.size + 2) _ HCr.out ?h505_1 ?h505_2 ?h505_3 ?h505_4 ?h505_5 ?h505_6); (case h505_1 => rfl); (case h505_2 => rfl); (case h505_3 => rfl); (case h505_4 => rfl); (case h505_5 => rfl); (intro W2 hW2); (have HW2 := hid (HQ5.out.put2 hW2)); (clear hW2)) | fail)
      obtain ⟨z0, z1⟩ := HW2.out.1.two
      go_wp2_with fail
      refine bodyPost_ret (v := .tuple #[wv x1, .bool x2]) (by simp [results, Tryz.results127, go_sem, z0, z1, hiW0, loW0]) rfl ⟨rfl, HW2.out.2⟩
end

/- The contracts of the package lag, continued. -/
section
open Go.RowKit
theorem over_wr (m : Mu) (p : P3) : WR (m.over p).2 := by
  unfold Mu.over
  split
  · rename_i h
    unfold Mu.ovOk at h
    simp only [Bool.and_eq_true] at h
    exact okW_iff.1 h.2
  · unfold WR; omega
def M2' (w : World) (m : Mu) (p : P3) (w' : World) : Prop := Cs w' w.heap.size m.cells ∧ Cs w' (w.heap.size + 1) (pcells p) ∧ Below w.heap.size w w'
theorem M2'.below {w w1 w2 : World} {m : Mu} {p : P3} (h : M2' w m p w1) (hb : Below w1.heap.size w1 w2) : M2' w m p w2 := ⟨h.1.below hb, h.2.1.below hb, below_on h.2.2 hb⟩
theorem M2'.new (w : World) (m : Mu) (p : P3) : M2' w m p ((w.alloc (.cells #[.int .u64 m.b, .int .i64 (hiW m.a), .int .u64 (loW m.a), .int .u64 m.w, .int .i64 m.n] 145)).alloc (.cells #[.int .u64 p.1, .int .u32 p.2.1, .int .u32 p.2.2] 137)) := by
  have h1 := Cs.alloc_new6 w 145 m.cells
  have h2 := Cs.alloc_new6 (w.alloc (.cells #[.int .u64 m.b, .int .i64 (hiW m.a), .int .u64 (loW m.a), .int .u64 m.w, .int .i64 m.n] 145)) 137 (pcells p)
  simp only [World.size_alloc] at h2
  exact ⟨h1.alloc _, h2, ((Below.refl w.heap.size w).alloc (Nat.le_refl _) _).alloc (by simp) _⟩
def Mu.sign (m : Mu) (p : P3) : Bool × Int := ((m.over p).1, cmpI (m.over p).2 0)
set_option maxRecDepth 100000 in
set_option maxHeartbeats 4000000 in
theorem Lag.sign (m : Mu) (p : P3) (hm : m.In) (hp : PIn p) (w : World) : Calls Tryz.prog 137 #[m.val, pv p] w (Ans (.tuple #[.int .i64 (m.sign p).2, .bool (m.sign p).1]) w) := by
  have HM := hid hm
  have HP := hid hp
  have HO := hid (over_wr m p)
  clear hm hp
  unfold Mu.val pv
  have HQ0 := hid (M2'.new w m p)
  go_enter Tryz.func137, Tryz.ntmps137
  go_wp2_with fail
  generalize ((w.alloc (.cells #[.int .u64 m.b, .int .i64 (hiW m.a), .int .u64 (loW m.a), .int .u64 m.w, .int .i64 m.n] 145)).alloc (.cells #[.int .u64 p.1, .int .u32 p.2.1, .int .u32 p.2.2] 137)) = W0 at HQ0 ⊢
  obtain ⟨m0, m1, m2, m3, m4⟩ := Mu.at m HQ0.out.1
  obtain ⟨q0, q1, q2⟩ := P3.at p HQ0.out.2.1
  go_wp2_with fail
  refine (Lag.undivided m p HM.out HP.out _).mono ?_
  rintro e w1 ⟨rfl, hb⟩
  have HQ1 := hid ((HQ0.out.below hb).below ((Below.refl _ _).alloc (Nat.le_refl _) (.cells #[.int .i64 (hiW (m.over p).2), .int .u64 (loW (m.over p).2)] 29)))
  clear hb HQ0 m0 m1 m2 m3 m4 q0 q1 q2
  go_wp2_with fail
  refine (Wide.signF HO.out _).mono ?_
  rintro e w2 ⟨rfl, hb⟩
  have HQ2 := hid (HQ1.out.below hb)
  clear hb HQ1
  go_wp2_with fail
  go_ret2
  exact ⟨rfl, HQ2.out.2.2⟩
set_option maxRecDepth 100000 in
set_option maxHeartbeats 4000000 in
theorem Lag.eligible (m : Mu) (p : P3) (hm : m.In) (hp : PIn p) (w : World) : Calls Tryz.prog 214 #[m.val, pv p] w (Ans (.bool (m.elig p)) w) := by
  have HM := hid hm
  have HP := hid hp
  have HO := hid (over_wr m p)
  clear hm hp
  unfold Mu.val pv
  have HQ0 := hid (M2'.new w m p)
  have HE : Hid (m.elig p = ((m.sign p).1 && decide (0 ≤ (m.sign p).2))) := hid rfl
  go_enter Tryz.func214, Tryz.ntmps214
  go_wp2_with fail
  generalize ((w.alloc (.cells #[.int .u64 m.b, .int .i64 (hiW m.a), .int .u64 (loW m.a), .int .u64 m.w, .int .i64 m.n] 145)).alloc (.cells #[.int .u64 p.1, .int .u32 p.2.1, .int .u32 p.2.2] 137)) = W0 at HQ0 ⊢
  obtain ⟨m0, m1, m2, m3, m4⟩ := Mu.at m HQ0.out.1
  obtain ⟨q0, q1, q2⟩ := P3.at p HQ0.out.2.1
  go_wp2_with fail
  refine (Lag.sign m p HM.out HP.out _).mono ?_
  rintro e w1 ⟨rfl, hb⟩
  have HQ1 := hid (HQ0.out.below hb)
  clear hb HQ0 m0 m1 m2 m3 m4 q0 q1 q2
  generalize (m.sign p).2 = s at *
  cases hk : (m.sign p).1 with
  | false =>
    go_wp2_with fail
    go_ret
    exact ⟨by rw [HE.out, hk]; rfl, HQ1.out.2.2⟩
  | true =>
    by_cases c : 0 ≤ s
    · go_wp2_with fail
      go_ret
      exact ⟨by rw [HE.out, hk]; simp [c], HQ1.out.2.2⟩
    · go_wp2_with fail
      go_ret
      exact ⟨by rw [HE.out, hk]; simp, HQ1.out.2.2⟩
set_option maxRecDepth 100000 in
set_option maxHeartbeats 4000000 in
theorem Lag.read (m : Mu) (p : P3) (hm : m.In) (hp : PIn p) (w : World) : Calls Tryz.prog 81 #[m.val, pv p] w (Ans (.tuple #[wv (m.lag p).2, .bool (m.lag p).1]) w) := by
  have HM := hid hm
  have HP := hid hp
  have HO := hid (over_wr m p)
  clear hm hp
  unfold Mu.val pv
  have HQ0 := hid (M2.new2 w m p)
  cases hk : m.ovOk p with
  | false =>
    have E : Hid (m.lag p = (false, 0)) := hid (by unfold Mu.lag; rw [hk, if_neg (by simp)])
    have E2 : Hid (m.over p = (false, 0)) := hid (by unfold Mu.over; rw [hk, if_neg (by simp)])
    rw [E.out]
    clear hk
    go_enter Tryz.func81, Tryz.ntmps81
    go_wp2_with fail
    generalize (((w.alloc (.cells #[.int .u64 m.b, .int .i64 (hiW m.a), .int .u64 (loW m.a), .int .u64 m.w, .int .i64 m.n] 145)).alloc (.cells #[.int .u64 p.1, .int .u32 p.2.1, .int .u32 p.2.2] 137)).alloc (.cells #[.int .i64 0, .int .u64 0] 29)) = W0 at HQ0 ⊢
    obtain ⟨m0, m1, m2, m3, m4⟩ := Mu.at m HQ0.out.1
    obtain ⟨q0, q1, q2⟩ := P3.at p HQ0.out.2.1
    go_wp2_with fail
    refine (Lag.undivided m p HM.out HP.out _).mono ?_
    rw [E2.out]
    rintro e w1 ⟨rfl, hb⟩
    have HQ1 := hid ((HQ0.out.below hb).below ((Below.refl _ _).alloc (Nat.le_refl _) (.cells #[.int .i64 (hiW 0), .int .u64 (loW 0)] 29)))
    clear hb HQ0 m0 m1 m2 m3 m4 q0 q1 q2
    have HCr := hid HQ1.out.2.2.1
    go_wp2_with (first | ((with_reducible refine wpList_put_cs 29 [.int .i64 0, .int .u64 0] infoWide rfl (.tmp 4) (.tmp 19) rfl (w.heap.size + 2) _ HCr.out ?h801_1 ?h801_2 ?h801_3 ?h801_4 ?h801_5 ?h801_6); (case h801_1 => rfl); (case h801_2 => rfl); (case h801_3 => rfl); (case h801_4 => rfl); (case h801_5 => rfl); (intro W2 hW2); (have HW := hid (HQ1.out.put2 hW2)); (clear hW2)) | fail)
    obtain ⟨z0, z1⟩ := HW.out.1.two
    go_wp2_with fail
    refine bodyPost_ret (v := .tuple #[wv 0, .bool false]) (by simp [results, Tryz.results81, go_sem, z0, z1, hiW0, loW0]) rfl ⟨rfl, HW.out.2⟩
  | true =>
    have E : Hid (m.lag p = (true, m.ov p / m.w)) := hid (by unfold Mu.lag; rw [hk, if_pos rfl])
    have E2 : Hid (m.over p = (true, m.ov p)) := hid (by unfold Mu.over; rw [hk, if_pos rfl])
    have HW : Hid (0 < m.w ∧ m.w ≤ 33554432) := hid (by
      unfold Mu.ovOk at hk
      simp only [Bool.and_eq_true, decide_eq_true_eq] at hk
      have := right_w hk.1.1.1.1 hk.1.1.1.2
      omega)
    have HX : Hid (WR (m.ov p)) := hid (by have := HO.out; rw [E2.out] at this; exact this)
    have HD := hid (div_wr HX.out HW.out.1)
    rw [E.out]
    clear hk
    go_enter Tryz.func81, Tryz.ntmps81
    go_wp2_with fail
    generalize (((w.alloc (.cells #[.int .u64 m.b, .int .i64 (hiW m.a), .int .u64 (loW m.a), .int .u64 m.w, .int .i64 m.n] 145)).alloc (.cells #[.int .u64 p.1, .int .u32 p.2.1, .int .u32 p.2.2] 137)).alloc (.cells #[.int .i64 0, .int .u64 0] 29)) = W0 at HQ0 ⊢
    obtain ⟨m0, m1, m2, m3, m4⟩ := Mu.at m HQ0.out.1
    obtain ⟨q0, q1, q2⟩ := P3.at p HQ0.out.2.1
    go_wp2_with fail
    refine (Lag.undivided m p HM.out HP.out _).mono ?_
    rw [E2.out]
    rintro e w1 ⟨rfl, hb⟩
    have HQ1 := hid ((HQ0.out.below hb).below ((Below.refl _ _).alloc (Nat.le_refl _) (.cells #[.int .i64 (hiW (m.ov p)), .int .u64 (loW (m.ov p))] 29)))
    clear hb HQ0 m0 m1 m2 m3 m4 q0 q1 q2
    obtain ⟨m0, m1, m2, m3, m4⟩ := Mu.at m HQ1.out.1
    go_wp2_with fail
    refine (Wide.divF HX.out HW.out.1 (by have := HW.out; omega) _).mono ?_
    rintro e w2 ⟨rfl, hb⟩
    have HQ2 := hid ((HQ1.out.below hb).below ((Below.refl _ _).alloc (Nat.le_refl _) (.cells #[.int .i64 (hiW (m.ov p / m.w)), .int .u64 (loW (m.ov p / m.w))] 29)))
    clear hb HQ1 m0 m1 m2 m3 m4
    have HCr := hid HQ2.out.2.2.1
    go_wp2_with (first | ((with_reducible refine wpList_put_cs 29 [.int .i64 (hiW (m.ov p / m.w)), .int .u64 (loW (m.ov p / m.w))] infoWide rfl (.tmp 4) (.tmp 28) rfl (w.heap.size + 2) _ HCr.out ?h802_1 ?h802_2 ?h802_3 ?h802_4 ?h802_5 ?h802_6); (case h802_1 => rfl); (case h802_2 => rfl); (case h802_3 => rfl); (case h802_4 => rfl); (case h802_5 => rfl); (intro W2 hW2); (have HWW := hid (HQ2.out.put2 hW2)); (clear hW2)) | fail)
    obtain ⟨z0, z1⟩ := HWW.out.1.two
    go_wp2_with fail
    refine bodyPost_ret (v := .tuple #[wv (m.ov p / m.w), .bool true]) (by simp [results, Tryz.results81, go_sem, z0, z1, hiW0, loW0]) rfl ⟨rfl, HWW.out.2⟩
end

/- The contracts of the package mean: another base. -/
section
open Go.RowKit
/-- A mean, and what is answered. -/
def R2 (w : World) (m : Mu) (w' : World) : Prop := Cs w' w.heap.size m.cells ∧ Cs w' (w.heap.size + 1) [.int .u64 0, .int .i64 0, .int .u64 0, .int .u64 0, .int .i64 0] ∧ Below w.heap.size w w'
theorem R2.below {w w1 w2 : World} {m : Mu} (h : R2 w m w1) (hb : Below w1.heap.size w1 w2) : R2 w m w2 := ⟨h.1.below hb, h.2.1.below hb, below_on h.2.2 hb⟩
theorem R2.stays (w : World) (m : Mu) : Stays (R2 w m) := fun _ _ h hb => h.below hb
theorem R2.new (w : World) (m : Mu) : R2 w m ((w.alloc (.cells #[.int .u64 m.b, .int .i64 (hiW m.a), .int .u64 (loW m.a), .int .u64 m.w, .int .i64 m.n] 145)).alloc (.cells #[.int .u64 0, .int .i64 0, .int .u64 0, .int .u64 0, .int .i64 0] 145)) := by
  have h1 := Cs.alloc_new6 w 145 m.cells
  have h2 := Cs.alloc_new6 (w.alloc (.cells #[.int .u64 m.b, .int .i64 (hiW m.a), .int .u64 (loW m.a), .int .u64 m.w, .int .i64 m.n] 145)) 145 [.int .u64 0, .int .i64 0, .int .u64 0, .int .u64 0, .int .i64 0]
  simp only [World.size_alloc] at h2
  exact ⟨h1.alloc _, h2, ((Below.refl w.heap.size w).alloc (Nat.le_refl _) _).alloc (by simp) _⟩
theorem R2.put {w w1 : World} {m : Mu} (h : R2 w m w1) {a' b' c' d' e' : Value} {W : World} (hW : W = w1.setCells (w.heap.size + 1) 0 [a', b', c', d', e']) : Cs W (w.heap.size + 1) [a', b', c', d', e'] ∧ Below w.heap.size w W := by
  rw [hW]; exact ⟨Cs.putL _ 0 h.2.1 (by simp), below_sets (by omega) _ _ h.2.2⟩
theorem R2.fars {w w1 : World} {m : Mu} (h : R2 w m w1) {g : Nat} (hg : w.heap.size + 1 < g) (vs : List Value) : R2 w m (w1.setCells g 0 vs) :=
  ⟨h.1.fars (by omega) _ _, h.2.1.fars (by omega) _ _, below_sets (by omega) _ _ h.2.2⟩
set_option maxRecDepth 100000 in
set_option maxHeartbeats 8000000 in
theorem Mean.rebase (m : Mu) (t : Int) (hm : m.In) (w : World) : Calls Tryz.prog 223 #[m.val, .int .u64 t] w (Ans (.tuple #[Mu.val (m.reb t).2, .bool (m.reb t).1]) w) := by
  have HM := hid hm
  have HQ0 := hid (R2.new w m)
  clear hm
  unfold Mu.val
  cases h1 : m.right with
  | false =>
    have E : Hid (m.reb t = (false, Mu.no)) := hid (by unfold Mu.reb Mu.rebOk; rw [h1, if_neg (by simp)])
    rw [E.out]
    have H1 := hid h1
    clear h1
    go_enter Tryz.func223, Tryz.ntmps223
    go_wp2_with fail
    generalize ((w.alloc (.cells #[.int .u64 m.b, .int .i64 (hiW m.a), .int .u64 (loW m.a), .int .u64 m.w, .int .i64 m.n] 145)).alloc (.cells #[.int .u64 0, .int .i64 0, .int .u64 0, .int .u64 0, .int .i64 0] 145)) = W0 at HQ0 ⊢
    obtain ⟨m0, m1, m2, m3, m4⟩ := Mu.at m HQ0.out.1
    go_wp2_with fail
    refine (Mean.right m HM.out _).mono ?_
    rintro e w1 ⟨rfl, hb⟩
    have HQ1 := hid (HQ0.out.below hb)
    clear hb HQ0 m0 m1 m2 m3 m4
    rw [H1.out]
    have HCr := hid HQ1.out.2.1
    go_wp2_with (first | ((with_reducible refine wpList_put_cs 145 [.int .u64 0, .int .i64 0, .int .u64 0, .int .u64 0, .int .i64 0] infoMean rfl (.tmp 4) (.tmp 13) rfl (w.heap.size + 1) _ HCr.out ?h1201_1 ?h1201_2 ?h1201_3 ?h1201_4 ?h1201_5 ?h1201_6); (case h1201_1 => rfl); (case h1201_2 => rfl); (case h1201_3 => rfl); (case h1201_4 => rfl); (case h1201_5 => rfl); (intro W2 hW2); (have HW := hid (HQ1.out.put hW2)); (clear hW2)) | fail)
    obtain ⟨z0, z1, z2, z3, z4⟩ := HW.out.1.five
    go_wp2_with fail
    refine bodyPost_ret (v := .tuple #[Mu.val Mu.no, .bool false]) (by simp [results, Tryz.results223, go_sem, z0, z1, z2, z3, z4, hiW0, loW0]) rfl ⟨rfl, HW.out.2⟩
  | true =>
    have H1 := hid h1
    have HB := hid (right_bd h1)
    have HDB := hid (dif_bd t m.b)
    have HDW : Hid (WR (dif t m.b)) := hid (by have := HDB.out; unfold WR; omega)
    have HLS : Hid (okW (dif t m.b * m.w) = true) := hid (by
      have e3 := mulBd (d := dif t m.b) (M := 9223372036854775808) (V := 33554432) (by have := HDB.out; omega) (by have := HDB.out; omega) HB.out.2.1 HB.out.2.2 (by decide)
      exact okW_bd (by omega) (by omega))
    have HX2 : Hid (WR (dif t m.b * m.w)) := hid (okW_iff.1 HLS.out)
    have e4 : IntKind.i64.wrap m.w = m.w := by have := HB.out; rw [IntKind.wrap_i64]; omega
    clear h1
    cases h2 : okW (m.a - (dif t m.b * m.w)) with
    | false =>
      have E : Hid (m.reb t = (false, Mu.no)) := hid (by unfold Mu.reb Mu.rebOk; rw [H1.out, h2]; rw [if_neg (by simp)])
      have H2 := hid h2
      have H3 := hid (clW_no h2)
      rw [E.out]
      clear h2
      go_enter Tryz.func223, Tryz.ntmps223
      go_wp2_with fail
      generalize ((w.alloc (.cells #[.int .u64 m.b, .int .i64 (hiW m.a), .int .u64 (loW m.a), .int .u64 m.w, .int .i64 m.n] 145)).alloc (.cells #[.int .u64 0, .int .i64 0, .int .u64 0, .int .u64 0, .int .i64 0] 145)) = W0 at HQ0 ⊢
      obtain ⟨m0, m1, m2, m3, m4⟩ := Mu.at m HQ0.out.1
      go_wp2_with fail
      refine (Mean.right m HM.out _).mono ?_
      rintro e w1 ⟨rfl, hb⟩
      have HQ1 := hid (HQ0.out.below hb)
      clear hb HQ0 m0 m1 m2 m3 m4
      rw [H1.out]
      go_wp2_with fail
      refine wp_region_grow (S := R2 w m) 15 (by kernel_rfl) (HQ1.out.below (Below.refl _ _).drew) ?_
      refine wpAnyE_take (i := 0) (v := ?_) (R2.stays w m) (fun _ h => h) rfl (by kernel_rfl) (by kernel_rfl) (by kernel_rfl) (by kernel_rfl) (fun _ _ _ h => h) (SteadyB.of_yields (Or.inl ⟨by rfl, ?_⟩)) ?_
      rotate_left
      · intro wq hSw
        go_simp
        (try with_reducible rfl)
      try simp only [List.getElem_toArray, List.getElem_cons_zero, List.getElem_cons_succ, Act.put, List.setIfInBounds_toArray, List.set_cons_zero, List.set_cons_succ]
      refine wpAnyE_take (i := 1) (v := ?_) (R2.stays w m) (fun _ h => h) rfl (by kernel_rfl) (by kernel_rfl) (by kernel_rfl) (by kernel_rfl) (fun _ _ _ h => h) (SteadyB.of_yields (Or.inl ⟨by rfl, ?_⟩)) ?_
      rotate_left
      · intro wq hSw
        go_simp
        (try with_reducible rfl)
      try simp only [List.getElem_toArray, List.getElem_cons_zero, List.getElem_cons_succ, Act.put, List.setIfInBounds_toArray, List.set_cons_zero, List.set_cons_succ]
      refine wpAnyE_take (i := 2) (v := ?_) (R2.stays w m) (fun _ h => h) rfl (by kernel_rfl) (by kernel_rfl) (by kernel_rfl) (by kernel_rfl) (fun _ _ _ h => h) (SteadyB.of_yields (Or.inl ⟨by rfl, ?_⟩)) ?_
      rotate_left
      · intro wq hSw
        obtain ⟨m0, m1, m2, m3, m4⟩ := Mu.at m hSw.1
        go_simp
        (try with_reducible rfl)
      try simp only [List.getElem_toArray, List.getElem_cons_zero, List.getElem_cons_succ, Act.put, List.setIfInBounds_toArray, List.set_cons_zero, List.set_cons_succ]
      refine wpAnyE_take (i := 5) (v := ?_) (R2.stays w m) (fun _ h => h) rfl (by kernel_rfl) (by kernel_rfl) (by kernel_rfl) (by kernel_rfl) (fun _ _ _ h => h) (SteadyB.of_yields (Or.inl ⟨by rfl, ?_⟩)) ?_
      rotate_left
      · intro wq hSw
        go_simp
        (try with_reducible rfl)
      try simp only [List.getElem_toArray, List.getElem_cons_zero, List.getElem_cons_succ, Act.put, List.setIfInBounds_toArray, List.set_cons_zero, List.set_cons_succ]
      refine wpAnyE_take (i := 6) (v := ?_) (R2.stays w m) (fun _ h => h) rfl (by kernel_rfl) (by kernel_rfl) (by kernel_rfl) (by kernel_rfl) (fun _ _ _ h => h) (SteadyB.of_yields (Or.inl ⟨by rfl, ?_⟩)) ?_
      rotate_left
      · intro wq hSw
        obtain ⟨m0, m1, m2, m3, m4⟩ := Mu.at m hSw.1
        go_simp
        (try with_reducible rfl)
      try simp only [List.getElem_toArray, List.getElem_cons_zero, List.getElem_cons_succ, Act.put, List.setIfInBounds_toArray, List.set_cons_zero, List.set_cons_succ]
      refine wpAnyE_take (i := 7) (v := ?_) (R2.stays w m) (fun _ h => h) rfl (by kernel_rfl) (by kernel_rfl) (by kernel_rfl) (by kernel_rfl) (fun _ _ _ h => h) (SteadyB.of_yields (Or.inl ⟨by rfl, ?_⟩)) ?_
      rotate_left
      · intro wq hSw
        go_simp
        (try with_reducible rfl)
      try simp only [List.getElem_toArray, List.getElem_cons_zero, List.getElem_cons_succ, Act.put, List.setIfInBounds_toArray, List.set_cons_zero, List.set_cons_succ]
      refine wpAnyE_take (i := 3) (v := .int .i64 (dif t m.b)) (R2.stays w m) (fun _ h => h) rfl (by kernel_rfl) (by kernel_rfl) (by kernel_rfl) (by kernel_rfl) (fun _ _ _ h => h) (Or.inl ⟨by rfl, fun wq hSw => ?_⟩) ?_
      · refine RunB.of_calls (Vtime.since t m.b wq) (by go_simp) ?_
        rintro e wr ⟨rfl, hb⟩
        exact ⟨rfl, hb⟩
      try simp only [List.getElem_toArray, List.getElem_cons_zero, List.getElem_cons_succ, Act.put, List.setIfInBounds_toArray, List.set_cons_zero, List.set_cons_succ]
      refine wpAnyE_take (i := 4) (v := wv (dif t m.b)) (R2.stays w m) (fun _ h => h) rfl (by kernel_rfl) (by kernel_rfl) (by kernel_rfl) (by kernel_rfl) (fun _ _ _ h => h) (Or.inl ⟨by rfl, fun wq hSw => ?_⟩) ?_
      · refine RunB.of_calls (Wide.ofF HDB.out.1 HDB.out.2 wq) (by go_simp) ?_
        rintro e wr ⟨rfl, hb⟩
        exact ⟨rfl, hb⟩
      try simp only [List.getElem_toArray, List.getElem_cons_zero, List.getElem_cons_succ, Act.put, List.setIfInBounds_toArray, List.set_cons_zero, List.set_cons_succ]
      refine wpAnyE_take (i := 8) (v := (.tuple #[wv (dif t m.b * m.w), .bool true])) (R2.stays w m) (fun _ h => h) rfl (by kernel_rfl) (by kernel_rfl) (by kernel_rfl) (by kernel_rfl) (fun _ _ _ h => h) (Or.inl ⟨by rfl, fun wq hSw => ?_⟩) ?_
      · refine RunB.of_calls (Wide.mulT HDW.out (by have := HB.out; omega) (by have := HB.out; omega) HLS.out wq) (by go_simp) ?_
        rintro e wr ⟨rfl, hb⟩
        exact ⟨rfl, hb⟩
      try simp only [List.getElem_toArray, List.getElem_cons_zero, List.getElem_cons_succ, Act.put, List.setIfInBounds_toArray, List.set_cons_zero, List.set_cons_succ]
      refine wpAnyE_take (i := 9) (v := ?_) (R2.stays w m) (fun _ h => h) rfl (by kernel_rfl) (by kernel_rfl) (by kernel_rfl) (by kernel_rfl) (fun _ _ _ h => h) (SteadyB.of_yields (Or.inl ⟨by rfl, ?_⟩)) ?_
      rotate_left
      · intro wq hSw
        go_simp
        (try with_reducible rfl)
      try simp only [List.getElem_toArray, List.getElem_cons_zero, List.getElem_cons_succ, Act.put, List.setIfInBounds_toArray, List.set_cons_zero, List.set_cons_succ]
      refine wpAnyE_take (i := 10) (v := ?_) (R2.stays w m) (fun _ h => h) rfl (by kernel_rfl) (by kernel_rfl) (by kernel_rfl) (by kernel_rfl) (fun _ _ _ h => h) (SteadyB.of_yields (Or.inl ⟨by rfl, ?_⟩)) ?_
      rotate_left
      · intro wq hSw
        go_simp
        (try with_reducible rfl)
      try simp only [List.getElem_toArray, List.getElem_cons_zero, List.getElem_cons_succ, Act.put, List.setIfInBounds_toArray, List.set_cons_zero, List.set_cons_succ]
      refine wpAnyE_take (i := 11) (v := ?_) (R2.stays w m) (fun _ h => h) rfl (by kernel_rfl) (by kernel_rfl) (by kernel_rfl) (by kernel_rfl) (fun _ _ _ h => h) (SteadyB.of_yields (Or.inl ⟨by rfl, ?_⟩)) ?_
      rotate_left
      · intro wq hSw
        go_simp
        (try with_reducible rfl)
      try simp only [List.getElem_toArray, List.getElem_cons_zero, List.getElem_cons_succ, Act.put, List.setIfInBounds_toArray, List.set_cons_zero, List.set_cons_succ]
      refine wpAnyE_alloc (i := 12) (fun wx g => Cs wx g [.int .i64 0, .int .u64 0] ∧ w.heap.size + 1 < g) rfl (by kernel_rfl) (by decide) (by rfl) (R2.stays w m) (fun _ h => h) (fun g => (fun _ _ h hb => ⟨h.1.below hb, h.2⟩)) (fun wq hSw => ?_) (fun gA => ?_)
      · exact ⟨_, by go_simp; (try with_reducible rfl), (Below.refl _ _).alloc (Nat.le_refl _) _, Cs.new2 _ _ _ _, hSw.2.1.lt⟩
      try simp only [List.getElem_toArray, List.getElem_cons_zero, List.getElem_cons_succ, Act.put, List.setIfInBounds_toArray, List.set_cons_zero, List.set_cons_succ]
      refine wpAnyE_store (i := 13) (fun wx => (R2 w m) wx ∧ (Cs wx gA [.int .i64 (hiW (dif t m.b * m.w)), .int .u64 (loW (dif t m.b * m.w))] ∧ w.heap.size + 1 < gA)) 29 [.int .i64 (hiW (dif t m.b * m.w)), .int .u64 (loW (dif t m.b * m.w))] [.int .i64 0, .int .u64 0] gA infoWide (.tmp 6) (.tmp 24) rfl rfl (by kernel_rfl) (by decide) (by rfl) ?st13_1a ?st13_1b ?st13_1c ?st13_1d ?st13_1e (fun _ h => h.2.1) (fun _ h => ⟨h.1.fars h.2.2 _, Cs.putL _ 0 h.2.1 (by simp), h.2.2⟩) (fun _ h => h.1) ((R2.stays w m).and_ (fun _ _ h hb => ⟨h.1.below hb, h.2⟩)) ?st13_1f
      case st13_1a => rfl
      case st13_1b => rfl
      case st13_1c => rfl
      case st13_1d => rfl
      case st13_1e => rfl
      try simp only [List.getElem_toArray, List.getElem_cons_zero, List.getElem_cons_succ, Act.put, List.setIfInBounds_toArray, List.set_cons_zero, List.set_cons_succ]
      refine wpAnyE_take (i := 14) (v := ?_) ((R2.stays w m).and_ (fun _ _ h hb => ⟨h.1.below hb, h.2⟩)) (fun _ h => h.1) rfl (by kernel_rfl) (by kernel_rfl) (by kernel_rfl) (by kernel_rfl) (fun _ _ _ h => h) (SteadyB.of_yields (Or.inl ⟨by rfl, ?_⟩)) ?_
      rotate_left
      · intro wq hSw
        go_simp
        (try with_reducible rfl)
      try simp only [List.getElem_toArray, List.getElem_cons_zero, List.getElem_cons_succ, Act.put, List.setIfInBounds_toArray, List.set_cons_zero, List.set_cons_succ]
      refine wpAnyE_done (by kernel_rfl) (fun wz hSz => ?_) _
      have HZ := hid hSz
      have g0 := hSz.2.1.at0
      have g1 := hSz.2.1.at1
      obtain ⟨m0, m1, m2, m3, m4⟩ := Mu.at m hSz.1.1
      clear hSz HQ1
      go_wp2_with fail
      refine (Wide.subF HM.out.2.1 HX2.out _).mono ?_
      rw [H2.out, H3.out]
      rintro e w5 ⟨rfl, hb⟩
      have HQ5 := hid ((HZ.out.1.below hb).below ((Below.refl _ _).alloc (Nat.le_refl _) (.cells #[.int .i64 (hiW 0), .int .u64 (loW 0)] 29)))
      clear hb HZ g0 g1 m0 m1 m2 m3 m4
      have HCr := hid HQ5.out.2.1
      go_wp2_with (first | ((with_reducible refine wpList_put_cs 145 [.int .u64 0, .int .i64 0, .int .u64 0, .int .u64 0, .int .i64 0] infoMean rfl (.tmp 4) (.tmp 35) rfl (w.heap.size + 1) _ HCr.out ?h1202_1 ?h1202_2 ?h1202_3 ?h1202_4 ?h1202_5 ?h1202_6); (case h1202_1 => rfl); (case h1202_2 => rfl); (case h1202_3 => rfl); (case h1202_4 => rfl); (case h1202_5 => rfl); (intro W2 hW2); (have HW := hid (HQ5.out.put hW2)); (clear hW2)) | fail)
      obtain ⟨z0, z1, z2, z3, z4⟩ := HW.out.1.five
      go_wp2_with fail
      refine bodyPost_ret (v := .tuple #[Mu.val Mu.no, .bool false]) (by simp [results, Tryz.results223, go_sem, z0, z1, z2, z3, z4, hiW0, loW0]) rfl ⟨rfl, HW.out.2⟩
    | true =>
      have E : Hid (m.reb t = (true, ⟨t, (m.a - (dif t m.b * m.w)), m.w, m.n⟩)) := hid (by unfold Mu.reb Mu.rebOk; rw [H1.out, h2]; rw [if_pos (by rfl)])
      have H2 := hid h2
      have H3 := hid (clW_ok h2)
      rw [E.out]
      clear h2
      go_enter Tryz.func223, Tryz.ntmps223
      go_wp2_with fail
      generalize ((w.alloc (.cells #[.int .u64 m.b, .int .i64 (hiW m.a), .int .u64 (loW m.a), .int .u64 m.w, .int .i64 m.n] 145)).alloc (.cells #[.int .u64 0, .int .i64 0, .int .u64 0, .int .u64 0, .int .i64 0] 145)) = W0 at HQ0 ⊢
      obtain ⟨m0, m1, m2, m3, m4⟩ := Mu.at m HQ0.out.1
      go_wp2_with fail
      refine (Mean.right m HM.out _).mono ?_
      rintro e w1 ⟨rfl, hb⟩
      have HQ1 := hid (HQ0.out.below hb)
      clear hb HQ0 m0 m1 m2 m3 m4
      rw [H1.out]
      go_wp2_with fail
      refine wp_region_grow (S := R2 w m) 15 (by kernel_rfl) (HQ1.out.below (Below.refl _ _).drew) ?_
      refine wpAnyE_take (i := 0) (v := ?_) (R2.stays w m) (fun _ h => h) rfl (by kernel_rfl) (by kernel_rfl) (by kernel_rfl) (by kernel_rfl) (fun _ _ _ h => h) (SteadyB.of_yields (Or.inl ⟨by rfl, ?_⟩)) ?_
      rotate_left
      · intro wq hSw
        go_simp
        (try with_reducible rfl)
      try simp only [List.getElem_toArray, List.getElem_cons_zero, List.getElem_cons_succ, Act.put, List.setIfInBounds_toArray, List.set_cons_zero, List.set_cons_succ]
      refine wpAnyE_take (i := 1) (v := ?_) (R2.stays w m) (fun _ h => h) rfl (by kernel_rfl) (by kernel_rfl) (by kernel_rfl) (by kernel_rfl) (fun _ _ _ h => h) (SteadyB.of_yields (Or.inl ⟨by rfl, ?_⟩)) ?_
      rotate_left
      · intro wq hSw
        go_simp
        (try with_reducible rfl)
      try simp only [List.getElem_toArray, List.getElem_cons_zero, List.getElem_cons_succ, Act.put, List.setIfInBounds_toArray, List.set_cons_zero, List.set_cons_succ]
      refine wpAnyE_take (i := 2) (v := ?_) (R2.stays w m) (fun _ h => h) rfl (by kernel_rfl) (by kernel_rfl) (by kernel_rfl) (by kernel_rfl) (fun _ _ _ h => h) (SteadyB.of_yields (Or.inl ⟨by rfl, ?_⟩)) ?_
      rotate_left
      · intro wq hSw
        obtain ⟨m0, m1, m2, m3, m4⟩ := Mu.at m hSw.1
        go_simp
        (try with_reducible rfl)
      try simp only [List.getElem_toArray, List.getElem_cons_zero, List.getElem_cons_succ, Act.put, List.setIfInBounds_toArray, List.set_cons_zero, List.set_cons_succ]
      refine wpAnyE_take (i := 5) (v := ?_) (R2.stays w m) (fun _ h => h) rfl (by kernel_rfl) (by kernel_rfl) (by kernel_rfl) (by kernel_rfl) (fun _ _ _ h => h) (SteadyB.of_yields (Or.inl ⟨by rfl, ?_⟩)) ?_
      rotate_left
      · intro wq hSw
        go_simp
        (try with_reducible rfl)
      try simp only [List.getElem_toArray, List.getElem_cons_zero, List.getElem_cons_succ, Act.put, List.setIfInBounds_toArray, List.set_cons_zero, List.set_cons_succ]
      refine wpAnyE_take (i := 6) (v := ?_) (R2.stays w m) (fun _ h => h) rfl (by kernel_rfl) (by kernel_rfl) (by kernel_rfl) (by kernel_rfl) (fun _ _ _ h => h) (SteadyB.of_yields (Or.inl ⟨by rfl, ?_⟩)) ?_
      rotate_left
      · intro wq hSw
        obtain ⟨m0, m1, m2, m3, m4⟩ := Mu.at m hSw.1
        go_simp
        (try with_reducible rfl)
      try simp only [List.getElem_toArray, List.getElem_cons_zero, List.getElem_cons_succ, Act.put, List.setIfInBounds_toArray, List.set_cons_zero, List.set_cons_succ]
      refine wpAnyE_take (i := 7) (v := ?_) (R2.stays w m) (fun _ h => h) rfl (by kernel_rfl) (by kernel_rfl) (by kernel_rfl) (by kernel_rfl) (fun _ _ _ h => h) (SteadyB.of_yields (Or.inl ⟨by rfl, ?_⟩)) ?_
      rotate_left
      · intro wq hSw
        go_simp
        (try with_reducible rfl)
      try simp only [List.getElem_toArray, List.getElem_cons_zero, List.getElem_cons_succ, Act.put, List.setIfInBounds_toArray, List.set_cons_zero, List.set_cons_succ]
      refine wpAnyE_take (i := 3) (v := .int .i64 (dif t m.b)) (R2.stays w m) (fun _ h => h) rfl (by kernel_rfl) (by kernel_rfl) (by kernel_rfl) (by kernel_rfl) (fun _ _ _ h => h) (Or.inl ⟨by rfl, fun wq hSw => ?_⟩) ?_
      · refine RunB.of_calls (Vtime.since t m.b wq) (by go_simp) ?_
        rintro e wr ⟨rfl, hb⟩
        exact ⟨rfl, hb⟩
      try simp only [List.getElem_toArray, List.getElem_cons_zero, List.getElem_cons_succ, Act.put, List.setIfInBounds_toArray, List.set_cons_zero, List.set_cons_succ]
      refine wpAnyE_take (i := 4) (v := wv (dif t m.b)) (R2.stays w m) (fun _ h => h) rfl (by kernel_rfl) (by kernel_rfl) (by kernel_rfl) (by kernel_rfl) (fun _ _ _ h => h) (Or.inl ⟨by rfl, fun wq hSw => ?_⟩) ?_
      · refine RunB.of_calls (Wide.ofF HDB.out.1 HDB.out.2 wq) (by go_simp) ?_
        rintro e wr ⟨rfl, hb⟩
        exact ⟨rfl, hb⟩
      try simp only [List.getElem_toArray, List.getElem_cons_zero, List.getElem_cons_succ, Act.put, List.setIfInBounds_toArray, List.set_cons_zero, List.set_cons_succ]
      refine wpAnyE_take (i := 8) (v := (.tuple #[wv (dif t m.b * m.w), .bool true])) (R2.stays w m) (fun _ h => h) rfl (by kernel_rfl) (by kernel_rfl) (by kernel_rfl) (by kernel_rfl) (fun _ _ _ h => h) (Or.inl ⟨by rfl, fun wq hSw => ?_⟩) ?_
      · refine RunB.of_calls (Wide.mulT HDW.out (by have := HB.out; omega) (by have := HB.out; omega) HLS.out wq) (by go_simp) ?_
        rintro e wr ⟨rfl, hb⟩
        exact ⟨rfl, hb⟩
      try simp only [List.getElem_toArray, List.getElem_cons_zero, List.getElem_cons_succ, Act.put, List.setIfInBounds_toArray, List.set_cons_zero, List.set_cons_succ]
      refine wpAnyE_take (i := 9) (v := ?_) (R2.stays w m) (fun _ h => h) rfl (by kernel_rfl) (by kernel_rfl) (by kernel_rfl) (by kernel_rfl) (fun _ _ _ h => h) (SteadyB.of_yields (Or.inl ⟨by rfl, ?_⟩)) ?_
      rotate_left
      · intro wq hSw
        go_simp
        (try with_reducible rfl)
      try simp only [List.getElem_toArray, List.getElem_cons_zero, List.getElem_cons_succ, Act.put, List.setIfInBounds_toArray, List.set_cons_zero, List.set_cons_succ]
      refine wpAnyE_take (i := 10) (v := ?_) (R2.stays w m) (fun _ h => h) rfl (by kernel_rfl) (by kernel_rfl) (by kernel_rfl) (by kernel_rfl) (fun _ _ _ h => h) (SteadyB.of_yields (Or.inl ⟨by rfl, ?_⟩)) ?_
      rotate_left
      · intro wq hSw
        go_simp
        (try with_reducible rfl)
      try simp only [List.getElem_toArray, List.getElem_cons_zero, List.getElem_cons_succ, Act.put, List.setIfInBounds_toArray, List.set_cons_zero, List.set_cons_succ]
      refine wpAnyE_take (i := 11) (v := ?_) (R2.stays w m) (fun _ h => h) rfl (by kernel_rfl) (by kernel_rfl) (by kernel_rfl) (by kernel_rfl) (fun _ _ _ h => h) (SteadyB.of_yields (Or.inl ⟨by rfl, ?_⟩)) ?_
      rotate_left
      · intro wq hSw
        go_simp
        (try with_reducible rfl)
      try simp only [List.getElem_toArray, List.getElem_cons_zero, List.getElem_cons_succ, Act.put, List.setIfInBounds_toArray, List.set_cons_zero, List.set_cons_succ]
      refine wpAnyE_alloc (i := 12) (fun wx g => Cs wx g [.int .i64 0, .int .u64 0] ∧ w.heap.size + 1 < g) rfl (by kernel_rfl) (by decide) (by rfl) (R2.stays w m) (fun _ h => h) (fun g => (fun _ _ h hb => ⟨h.1.below hb, h.2⟩)) (fun wq hSw => ?_) (fun gA => ?_)
      · exact ⟨_, by go_simp; (try with_reducible rfl), (Below.refl _ _).alloc (Nat.le_refl _) _, Cs.new2 _ _ _ _, hSw.2.1.lt⟩
      try simp only [List.getElem_toArray, List.getElem_cons_zero, List.getElem_cons_succ, Act.put, List.setIfInBounds_toArray, List.set_cons_zero, List.set_cons_succ]
      refine wpAnyE_store (i := 13) (fun wx => (R2 w m) wx ∧ (Cs wx gA [.int .i64 (hiW (dif t m.b * m.w)), .int .u64 (loW (dif t m.b * m.w))] ∧ w.heap.size + 1 < gA)) 29 [.int .i64 (hiW (dif t m.b * m.w)), .int .u64 (loW (dif t m.b * m.w))] [.int .i64 0, .int .u64 0] gA infoWide (.tmp 6) (.tmp 24) rfl rfl (by kernel_rfl) (by decide) (by rfl) ?st13_2a ?st13_2b ?st13_2c ?st13_2d ?st13_2e (fun _ h => h.2.1) (fun _ h => ⟨h.1.fars h.2.2 _, Cs.putL _ 0 h.2.1 (by simp), h.2.2⟩) (fun _ h => h.1) ((R2.stays w m).and_ (fun _ _ h hb => ⟨h.1.below hb, h.2⟩)) ?st13_2f
      case st13_2a => rfl
      case st13_2b => rfl
      case st13_2c => rfl
      case st13_2d => rfl
      case st13_2e => rfl
      try simp only [List.getElem_toArray, List.getElem_cons_zero, List.getElem_cons_succ, Act.put, List.setIfInBounds_toArray, List.set_cons_zero, List.set_cons_succ]
      refine wpAnyE_take (i := 14) (v := ?_) ((R2.stays w m).and_ (fun _ _ h hb => ⟨h.1.below hb, h.2⟩)) (fun _ h => h.1) rfl (by kernel_rfl) (by kernel_rfl) (by kernel_rfl) (by kernel_rfl) (fun _ _ _ h => h) (SteadyB.of_yields (Or.inl ⟨by rfl, ?_⟩)) ?_
      rotate_left
      · intro wq hSw
        go_simp
        (try with_reducible rfl)
      try simp only [List.getElem_toArray, List.getElem_cons_zero, List.getElem_cons_succ, Act.put, List.setIfInBounds_toArray, List.set_cons_zero, List.set_cons_succ]
      refine wpAnyE_done (by kernel_rfl) (fun wz hSz => ?_) _
      have HZ := hid hSz
      have g0 := hSz.2.1.at0
      have g1 := hSz.2.1.at1
      obtain ⟨m0, m1, m2, m3, m4⟩ := Mu.at m hSz.1.1
      clear hSz HQ1
      go_wp2_with fail
      refine (Wide.subF HM.out.2.1 HX2.out _).mono ?_
      rw [H2.out, H3.out]
      rintro e w5 ⟨rfl, hb⟩
      have HQ5 := hid ((HZ.out.1.below hb).below ((Below.refl _ _).alloc (Nat.le_refl _) (.cells #[.int .i64 (hiW (m.a - (dif t m.b * m.w))), .int .u64 (loW (m.a - (dif t m.b * m.w)))] 29)))
      clear hb HZ g0 g1 m0 m1 m2 m3 m4
      have HCr := hid HQ5.out.2.1
      obtain ⟨m0, m1, m2, m3, m4⟩ := Mu.at m HQ5.out.1
      go_wp2_with (first | ((with_reducible refine wpList_put_cs 145 [.int .u64 t, .int .i64 (hiW (m.a - (dif t m.b * m.w))), .int .u64 (loW (m.a - (dif t m.b * m.w))), .int .u64 m.w, .int .i64 m.n] infoMean rfl (.tmp 4) (.tmp 42) rfl (w.heap.size + 1) _ HCr.out ?h1203_1 ?h1203_2 ?h1203_3 ?h1203_4 ?h1203_5 ?h1203_6); (case h1203_1 => rfl); (case h1203_2 => rfl); (case h1203_3 => rfl); (case h1203_4 => rfl); (case h1203_5 => rfl); (intro W2 hW2); (have HW := hid (HQ5.out.put hW2)); (clear hW2)) | fail)
      clear m0 m1 m2 m3 m4
      obtain ⟨z0, z1, z2, z3, z4⟩ := HW.out.1.five
      go_wp2_with fail
      refine bodyPost_ret (v := .tuple #[Mu.val ⟨t, (m.a - (dif t m.b * m.w)), m.w, m.n⟩, .bool true]) (by simp [results, Tryz.results223, go_sem, z0, z1, z2, z3, z4, hiW0, loW0]) rfl ⟨rfl, HW.out.2⟩
end

/- The contracts of the package place. -/
section
open Go.RowKit
/-- A mean, and what is answered. -/
def R3 (w : World) (m : Mu) (r : List Value) (w' : World) : Prop := Cs w' w.heap.size m.cells ∧ Cs w' (w.heap.size + 1) r ∧ Below w.heap.size w w'
theorem R3.below {w w1 w2 : World} {m : Mu} {r : List Value} (h : R3 w m r w1) (hb : Below w1.heap.size w1 w2) : R3 w m r w2 := ⟨h.1.below hb, h.2.1.below hb, below_on h.2.2 hb⟩
theorem R3.stays (w : World) (m : Mu) (r : List Value) : Stays (R3 w m r) := fun _ _ h hb => h.below hb
theorem R3.newW (w : World) (m : Mu) : R3 w m [.int .i64 0, .int .u64 0] ((w.alloc (.cells #[.int .u64 m.b, .int .i64 (hiW m.a), .int .u64 (loW m.a), .int .u64 m.w, .int .i64 m.n] 145)).alloc (.cells #[.int .i64 0, .int .u64 0] 29)) := by
  have h1 := Cs.alloc_new6 w 145 m.cells
  have h2 := Cs.alloc_new6 (w.alloc (.cells #[.int .u64 m.b, .int .i64 (hiW m.a), .int .u64 (loW m.a), .int .u64 m.w, .int .i64 m.n] 145)) 29 [.int .i64 0, .int .u64 0]
  simp only [World.size_alloc] at h2
  exact ⟨h1.alloc _, h2, ((Below.refl w.heap.size w).alloc (Nat.le_refl _) _).alloc (by simp) _⟩
theorem R3.newP (w : World) (m : Mu) : R3 w m [.int .u64 0, .int .u32 0, .int .u32 0] ((w.alloc (.cells #[.int .u64 m.b, .int .i64 (hiW m.a), .int .u64 (loW m.a), .int .u64 m.w, .int .i64 m.n] 145)).alloc (.cells #[.int .u64 0, .int .u32 0, .int .u32 0] 137)) := by
  have h1 := Cs.alloc_new6 w 145 m.cells
  have h2 := Cs.alloc_new6 (w.alloc (.cells #[.int .u64 m.b, .int .i64 (hiW m.a), .int .u64 (loW m.a), .int .u64 m.w, .int .i64 m.n] 145)) 137 [.int .u64 0, .int .u32 0, .int .u32 0]
  simp only [World.size_alloc] at h2
  exact ⟨h1.alloc _, h2, ((Below.refl w.heap.size w).alloc (Nat.le_refl _) _).alloc (by simp) _⟩
theorem R3.put2 {w w1 : World} {m : Mu} {a b : Value} (h : R3 w m [a, b] w1) {a' b' : Value} {W : World} (hW : W = w1.setCells (w.heap.size + 1) 0 [a', b']) : Cs W (w.heap.size + 1) [a', b'] ∧ Below w.heap.size w W := by
  rw [hW]; exact ⟨Cs.putL _ 0 h.2.1 (by simp), below_sets (by omega) _ _ h.2.2⟩
theorem R3.put3 {w w1 : World} {m : Mu} {a b c : Value} (h : R3 w m [a, b, c] w1) {a' b' c' : Value} {W : World} (hW : W = w1.setCells (w.heap.size + 1) 0 [a', b', c']) : Cs W (w.heap.size + 1) [a', b', c'] ∧ Below w.heap.size w W := by
  rw [hW]; exact ⟨Cs.putL _ 0 h.2.1 (by simp), below_sets (by omega) _ _ h.2.2⟩
theorem R3.fars {w w1 : World} {m : Mu} {r : List Value} (h : R3 w m r w1) {g : Nat} (hg : w.heap.size + 1 < g) (vs : List Value) : R3 w m r (w1.setCells g 0 vs) :=
  ⟨h.1.fars (by omega) _ _, h.2.1.fars (by omega) _ _, below_sets (by omega) _ _ h.2.2⟩
set_option maxRecDepth 100000 in
set_option maxHeartbeats 8000000 in
theorem Place.comesIn (m : Mu) (v o : Int) (hm : m.In) (hr : m.right = true) (hn : m.n ≠ 0) (v0 : 0 ≤ v) (v1 : v ≤ 4294967295) (o0 : -9223372036854775808 ≤ o) (o1 : o ≤ 9223372036854775807) (w : World) :
    Calls Tryz.prog 168 #[m.val, .int .u32 v, .int .i64 o] w (Ans (.tuple #[wv (if m.plOk1 v o = true then (m.plD v o) else 0), .bool (m.plOk1 v o)]) w) := by
  have HM := hid hm
  have HW := hid (right_w hr hn)
  have HV := hid (And.intro v0 v1)
  have HO := hid (And.intro o0 o1)
  have HQ0 := hid (R3.newW w m)
  have e1 : IntKind.i64.wrap v = v := by rw [IntKind.wrap_i64]; omega
  clear hm hr hn o0 o1
  unfold Mu.val
  cases h1 : okW (m.a * v) with
  | false =>
    have E : Hid (m.plOk1 v o = false) := hid (by unfold Mu.plOk1; rw [h1]; rfl)
    rw [E.out, if_neg (by decide)]
    have H1 := hid h1
    have H2 := hid (clW_no h1)
    clear h1 v0 v1
    go_enter Tryz.func168, Tryz.ntmps168
    go_wp2_with fail
    generalize ((w.alloc (.cells #[.int .u64 m.b, .int .i64 (hiW m.a), .int .u64 (loW m.a), .int .u64 m.w, .int .i64 m.n] 145)).alloc (.cells #[.int .i64 0, .int .u64 0] 29)) = W0 at HQ0 ⊢
    obtain ⟨m0, m1, m2, m3, m4⟩ := Mu.at m HQ0.out.1
    go_wp2_with fail
    refine (Wide.mulF HM.out.2.1 (by have := HV.out; omega) (by have := HV.out; omega) _).mono ?_
    rw [H1.out, H2.out]
    rintro e w3 ⟨rfl, hb⟩
    have HQ3 := hid ((HQ0.out.below hb).below ((Below.refl _ _).alloc (Nat.le_refl _) (.cells #[.int .i64 (hiW 0), .int .u64 (loW 0)] 29)))
    have HG : Hid (Cs (w3.alloc (.cells #[.int .i64 (hiW 0), .int .u64 (loW 0)] 29)) w3.heap.size [.int .i64 (hiW 0), .int .u64 (loW 0)] ∧ w.heap.size + 1 < w3.heap.size) := hid ⟨Cs.new2 w3 _ _ _, (HQ0.out.below hb).2.1.lt⟩
    clear hb HQ0 m0 m1 m2 m3 m4
    have HCr := hid HQ3.out.2.1
    go_wp2_with (first | ((with_reducible refine wpList_put_cs 29 [.int .i64 0, .int .u64 0] infoWide rfl (.tmp 6) (.tmp 26) rfl (w.heap.size + 1) _ HCr.out ?h5001_1 ?h5001_2 ?h5001_3 ?h5001_4 ?h5001_5 ?h5001_6); (case h5001_1 => rfl); (case h5001_2 => rfl); (case h5001_3 => rfl); (case h5001_4 => rfl); (case h5001_5 => rfl); (intro W2 hW2); (have HW := hid (HQ3.out.put2 hW2)); (clear hW2)) | fail)
    obtain ⟨z0, z1⟩ := HW.out.1.two
    go_wp2_with fail
    refine bodyPost_ret (v := .tuple #[wv 0, .bool false]) (by simp [results, Tryz.results168, go_sem, z0, z1, hiW0, loW0]) rfl ⟨rfl, HW.out.2⟩
  | true =>
    have H1 := hid h1
    have H2 := hid (clW_ok h1)
    have HOW : Hid (WR o) := hid (by have := HO.out; unfold WR; omega)
    have H6 : Hid (okW (o * (m.w + v)) = true) := hid (by
      have e3 := mulBd (d := o) (v := m.w + v) (M := 9223372036854775808) (V := 4328521727) (by have := HO.out; omega) (by have := HO.out; omega) (by have := HW.out; omega) (by have := HW.out; omega) (by decide)
      exact okW_bd (by omega) (by omega))
    have HX1 : Hid (WR (m.a * v)) := hid (okW_iff.1 h1)
    have HX2 : Hid (WR (o * (m.w + v))) := hid (okW_iff.1 H6.out)
    have e2 : IntKind.u64.wrap v = v := by rw [IntKind.wrap_u64]; omega
    have e3 : IntKind.u64.wrap (m.w + v) = m.w + v := by have := HW.out; rw [IntKind.wrap_u64]; omega
    have e4 : IntKind.i64.wrap (m.w + v) = m.w + v := by have := HW.out; rw [IntKind.wrap_i64]; omega
    clear v0 v1
    cases h3 : okW ((m.a * v) - (o * (m.w + v))) with
    | false =>
      have E : Hid (m.plOk1 v o = false) := hid (by unfold Mu.plOk1; rw [h3]; simp)
      rw [E.out, if_neg (by decide)]
      have H3 := hid h3
      have H4 := hid (clW_no h3)
      clear h1 h3
      go_enter Tryz.func168, Tryz.ntmps168
      go_wp2_with fail
      generalize ((w.alloc (.cells #[.int .u64 m.b, .int .i64 (hiW m.a), .int .u64 (loW m.a), .int .u64 m.w, .int .i64 m.n] 145)).alloc (.cells #[.int .i64 0, .int .u64 0] 29)) = W0 at HQ0 ⊢
      obtain ⟨m0, m1, m2, m3, m4⟩ := Mu.at m HQ0.out.1
      go_wp2_with fail
      refine (Wide.mulF HM.out.2.1 (by have := HV.out; omega) (by have := HV.out; omega) _).mono ?_
      rw [H1.out, H2.out]
      rintro e w3 ⟨rfl, hb⟩
      have HQ3 := hid ((HQ0.out.below hb).below ((Below.refl _ _).alloc (Nat.le_refl _) (.cells #[.int .i64 (hiW (m.a * v)), .int .u64 (loW (m.a * v))] 29)))
      have HG : Hid (Cs (w3.alloc (.cells #[.int .i64 (hiW (m.a * v)), .int .u64 (loW (m.a * v))] 29)) w3.heap.size [.int .i64 (hiW (m.a * v)), .int .u64 (loW (m.a * v))] ∧ w.heap.size + 1 < w3.heap.size) := hid ⟨Cs.new2 w3 _ _ _, (HQ0.out.below hb).2.1.lt⟩
      clear hb HQ0 m0 m1 m2 m3 m4
      go_wp2_with fail
      generalize (w3.alloc (.cells #[.int .i64 (hiW (m.a * v)), .int .u64 (loW (m.a * v))] 29)) = W3 at HQ3 HG ⊢
      generalize w3.heap.size = g1 at HG ⊢
      refine wp_region_grow (S := fun wx => R3 w m [.int .i64 0, .int .u64 0] wx ∧ (Cs wx g1 [.int .i64 (hiW (m.a * v)), .int .u64 (loW (m.a * v))] ∧ w.heap.size + 1 < g1)) 15 (by kernel_rfl) (⟨HQ3.out.below (Below.refl _ _).drew, HG.out⟩) ?_
      refine wpAnyE_take (i := 0) (v := ?_) (((R3.stays w m [.int .i64 0, .int .u64 0]).and_ (fun _ _ h hb => ⟨h.1.below hb, h.2⟩) : Stays (fun wx => R3 w m [.int .i64 0, .int .u64 0] wx ∧ (Cs wx g1 [.int .i64 (hiW (m.a * v)), .int .u64 (loW (m.a * v))] ∧ w.heap.size + 1 < g1)))) (fun _ h => h) rfl (by kernel_rfl) (by kernel_rfl) (by kernel_rfl) (by kernel_rfl) (fun _ _ _ h => h) (SteadyB.of_yields (Or.inl ⟨by rfl, ?_⟩)) ?_
      rotate_left
      · intro wq hSw
        go_simp
        (try with_reducible rfl)
      try simp only [List.getElem_toArray, List.getElem_cons_zero, List.getElem_cons_succ, Act.put, List.setIfInBounds_toArray, List.set_cons_zero, List.set_cons_succ]
      refine wpAnyE_take (i := 2) (v := ?_) (((R3.stays w m [.int .i64 0, .int .u64 0]).and_ (fun _ _ h hb => ⟨h.1.below hb, h.2⟩) : Stays (fun wx => R3 w m [.int .i64 0, .int .u64 0] wx ∧ (Cs wx g1 [.int .i64 (hiW (m.a * v)), .int .u64 (loW (m.a * v))] ∧ w.heap.size + 1 < g1)))) (fun _ h => h) rfl (by kernel_rfl) (by kernel_rfl) (by kernel_rfl) (by kernel_rfl) (fun _ _ _ h => h) (SteadyB.of_yields (Or.inl ⟨by rfl, ?_⟩)) ?_
      rotate_left
      · intro wq hSw
        go_simp
        (try with_reducible rfl)
      try simp only [List.getElem_toArray, List.getElem_cons_zero, List.getElem_cons_succ, Act.put, List.setIfInBounds_toArray, List.set_cons_zero, List.set_cons_succ]
      refine wpAnyE_take (i := 3) (v := ?_) (((R3.stays w m [.int .i64 0, .int .u64 0]).and_ (fun _ _ h hb => ⟨h.1.below hb, h.2⟩) : Stays (fun wx => R3 w m [.int .i64 0, .int .u64 0] wx ∧ (Cs wx g1 [.int .i64 (hiW (m.a * v)), .int .u64 (loW (m.a * v))] ∧ w.heap.size + 1 < g1)))) (fun _ h => h) rfl (by kernel_rfl) (by kernel_rfl) (by kernel_rfl) (by kernel_rfl) (fun _ _ _ h => h) (SteadyB.of_yields (Or.inl ⟨by rfl, ?_⟩)) ?_
      rotate_left
      · intro wq hSw
        obtain ⟨m0, m1, m2, m3, m4⟩ := Mu.at m hSw.1.1
        go_simp
        (try with_reducible rfl)
      try simp only [List.getElem_toArray, List.getElem_cons_zero, List.getElem_cons_succ, Act.put, List.setIfInBounds_toArray, List.set_cons_zero, List.set_cons_succ]
      refine wpAnyE_take (i := 4) (v := ?_) (((R3.stays w m [.int .i64 0, .int .u64 0]).and_ (fun _ _ h hb => ⟨h.1.below hb, h.2⟩) : Stays (fun wx => R3 w m [.int .i64 0, .int .u64 0] wx ∧ (Cs wx g1 [.int .i64 (hiW (m.a * v)), .int .u64 (loW (m.a * v))] ∧ w.heap.size + 1 < g1)))) (fun _ h => h) rfl (by kernel_rfl) (by kernel_rfl) (by kernel_rfl) (by kernel_rfl) (fun _ _ _ h => h) (SteadyB.of_yields (Or.inl ⟨by rfl, ?_⟩)) ?_
      rotate_left
      · intro wq hSw
        go_simp
        (try with_reducible rfl)
      try simp only [List.getElem_toArray, List.getElem_cons_zero, List.getElem_cons_succ, Act.put, List.setIfInBounds_toArray, List.set_cons_zero, List.set_cons_succ]
      refine wpAnyE_take (i := 5) (v := ?_) (((R3.stays w m [.int .i64 0, .int .u64 0]).and_ (fun _ _ h hb => ⟨h.1.below hb, h.2⟩) : Stays (fun wx => R3 w m [.int .i64 0, .int .u64 0] wx ∧ (Cs wx g1 [.int .i64 (hiW (m.a * v)), .int .u64 (loW (m.a * v))] ∧ w.heap.size + 1 < g1)))) (fun _ h => h) rfl (by kernel_rfl) (by kernel_rfl) (by kernel_rfl) (by kernel_rfl) (fun _ _ _ h => h) (SteadyB.of_yields (Or.inl ⟨by rfl, ?_⟩)) ?_
      rotate_left
      · intro wq hSw
        go_simp
        (try with_reducible rfl)
      try simp only [List.getElem_toArray, List.getElem_cons_zero, List.getElem_cons_succ, Act.put, List.setIfInBounds_toArray, List.set_cons_zero, List.set_cons_succ]
      refine wpAnyE_take (i := 6) (v := ?_) (((R3.stays w m [.int .i64 0, .int .u64 0]).and_ (fun _ _ h hb => ⟨h.1.below hb, h.2⟩) : Stays (fun wx => R3 w m [.int .i64 0, .int .u64 0] wx ∧ (Cs wx g1 [.int .i64 (hiW (m.a * v)), .int .u64 (loW (m.a * v))] ∧ w.heap.size + 1 < g1)))) (fun _ h => h) rfl (by kernel_rfl) (by kernel_rfl) (by kernel_rfl) (by kernel_rfl) (fun _ _ _ h => h) (SteadyB.of_yields (Or.inl ⟨by rfl, ?_⟩)) ?_
      rotate_left
      · intro wq hSw
        go_simp
        (try with_reducible rfl)
      try simp only [List.getElem_toArray, List.getElem_cons_zero, List.getElem_cons_succ, Act.put, List.setIfInBounds_toArray, List.set_cons_zero, List.set_cons_succ]
      refine wpAnyE_take (i := 7) (v := ?_) (((R3.stays w m [.int .i64 0, .int .u64 0]).and_ (fun _ _ h hb => ⟨h.1.below hb, h.2⟩) : Stays (fun wx => R3 w m [.int .i64 0, .int .u64 0] wx ∧ (Cs wx g1 [.int .i64 (hiW (m.a * v)), .int .u64 (loW (m.a * v))] ∧ w.heap.size + 1 < g1)))) (fun _ h => h) rfl (by kernel_rfl) (by kernel_rfl) (by kernel_rfl) (by kernel_rfl) (fun _ _ _ h => h) (SteadyB.of_yields (Or.inl ⟨by rfl, ?_⟩)) ?_
      rotate_left
      · intro wq hSw
        go_simp
        (try with_reducible rfl)
      try simp only [List.getElem_toArray, List.getElem_cons_zero, List.getElem_cons_succ, Act.put, List.setIfInBounds_toArray, List.set_cons_zero, List.set_cons_succ]
      refine wpAnyE_take (i := 1) (v := wv o) (((R3.stays w m [.int .i64 0, .int .u64 0]).and_ (fun _ _ h hb => ⟨h.1.below hb, h.2⟩) : Stays (fun wx => R3 w m [.int .i64 0, .int .u64 0] wx ∧ (Cs wx g1 [.int .i64 (hiW (m.a * v)), .int .u64 (loW (m.a * v))] ∧ w.heap.size + 1 < g1)))) (fun _ h => h) rfl (by kernel_rfl) (by kernel_rfl) (by kernel_rfl) (by kernel_rfl) (fun _ _ _ h => h) (Or.inl ⟨by rfl, fun wq hSw => ?_⟩) ?_
      · refine RunB.of_calls (Wide.ofF HO.out.1 HO.out.2 wq) (by go_simp) ?_
        rintro e wr ⟨rfl, hb⟩
        exact ⟨rfl, hb⟩
      try simp only [List.getElem_toArray, List.getElem_cons_zero, List.getElem_cons_succ, Act.put, List.setIfInBounds_toArray, List.set_cons_zero, List.set_cons_succ]
      refine wpAnyE_take (i := 8) (v := (.tuple #[wv (o * (m.w + v)), .bool true])) (((R3.stays w m [.int .i64 0, .int .u64 0]).and_ (fun _ _ h hb => ⟨h.1.below hb, h.2⟩) : Stays (fun wx => R3 w m [.int .i64 0, .int .u64 0] wx ∧ (Cs wx g1 [.int .i64 (hiW (m.a * v)), .int .u64 (loW (m.a * v))] ∧ w.heap.size + 1 < g1)))) (fun _ h => h) rfl (by kernel_rfl) (by kernel_rfl) (by kernel_rfl) (by kernel_rfl) (fun _ _ _ h => h) (Or.inl ⟨by rfl, fun wq hSw => ?_⟩) ?_
      · refine RunB.of_calls (Wide.mulT HOW.out (by have := HW.out; have := HV.out; omega) (by have := HW.out; have := HV.out; omega) H6.out wq) (by go_simp) ?_
        rintro e wr ⟨rfl, hb⟩
        exact ⟨rfl, hb⟩
      try simp only [List.getElem_toArray, List.getElem_cons_zero, List.getElem_cons_succ, Act.put, List.setIfInBounds_toArray, List.set_cons_zero, List.set_cons_succ]
      refine wpAnyE_take (i := 9) (v := ?_) (((R3.stays w m [.int .i64 0, .int .u64 0]).and_ (fun _ _ h hb => ⟨h.1.below hb, h.2⟩) : Stays (fun wx => R3 w m [.int .i64 0, .int .u64 0] wx ∧ (Cs wx g1 [.int .i64 (hiW (m.a * v)), .int .u64 (loW (m.a * v))] ∧ w.heap.size + 1 < g1)))) (fun _ h => h) rfl (by kernel_rfl) (by kernel_rfl) (by kernel_rfl) (by kernel_rfl) (fun _ _ _ h => h) (SteadyB.of_yields (Or.inl ⟨by rfl, ?_⟩)) ?_
      rotate_left
      · intro wq hSw
        go_simp
        (try with_reducible rfl)
      try simp only [List.getElem_toArray, List.getElem_cons_zero, List.getElem_cons_succ, Act.put, List.setIfInBounds_toArray, List.set_cons_zero, List.set_cons_succ]
      refine wpAnyE_take (i := 10) (v := ?_) (((R3.stays w m [.int .i64 0, .int .u64 0]).and_ (fun _ _ h hb => ⟨h.1.below hb, h.2⟩) : Stays (fun wx => R3 w m [.int .i64 0, .int .u64 0] wx ∧ (Cs wx g1 [.int .i64 (hiW (m.a * v)), .int .u64 (loW (m.a * v))] ∧ w.heap.size + 1 < g1)))) (fun _ h => h) rfl (by kernel_rfl) (by kernel_rfl) (by kernel_rfl) (by kernel_rfl) (fun _ _ _ h => h) (SteadyB.of_yields (Or.inl ⟨by rfl, ?_⟩)) ?_
      rotate_left
      · intro wq hSw
        go_simp
        (try with_reducible rfl)
      try simp only [List.getElem_toArray, List.getElem_cons_zero, List.getElem_cons_succ, Act.put, List.setIfInBounds_toArray, List.set_cons_zero, List.set_cons_succ]
      refine wpAnyE_take (i := 11) (v := ?_) (((R3.stays w m [.int .i64 0, .int .u64 0]).and_ (fun _ _ h hb => ⟨h.1.below hb, h.2⟩) : Stays (fun wx => R3 w m [.int .i64 0, .int .u64 0] wx ∧ (Cs wx g1 [.int .i64 (hiW (m.a * v)), .int .u64 (loW (m.a * v))] ∧ w.heap.size + 1 < g1)))) (fun _ h => h) rfl (by kernel_rfl) (by kernel_rfl) (by kernel_rfl) (by kernel_rfl) (fun _ _ _ h => h) (SteadyB.of_yields (Or.inl ⟨by rfl, ?_⟩)) ?_
      rotate_left
      · intro wq hSw
        go_simp
        (try with_reducible rfl)
      try simp only [List.getElem_toArray, List.getElem_cons_zero, List.getElem_cons_succ, Act.put, List.setIfInBounds_toArray, List.set_cons_zero, List.set_cons_succ]
      refine wpAnyE_alloc (i := 12) (fun wx g => Cs wx g [.int .i64 0, .int .u64 0] ∧ g1 < g) rfl (by kernel_rfl) (by decide) (by rfl) (((R3.stays w m [.int .i64 0, .int .u64 0]).and_ (fun _ _ h hb => ⟨h.1.below hb, h.2⟩) : Stays (fun wx => R3 w m [.int .i64 0, .int .u64 0] wx ∧ (Cs wx g1 [.int .i64 (hiW (m.a * v)), .int .u64 (loW (m.a * v))] ∧ w.heap.size + 1 < g1)))) (fun _ h => h) (fun g => (fun _ _ h hb => ⟨h.1.below hb, h.2⟩)) (fun wq hSw => ?_) (fun gA => ?_)
      · exact ⟨_, by go_simp; (try with_reducible rfl), (Below.refl _ _).alloc (Nat.le_refl _) _, Cs.new2 _ _ _ _, hSw.2.1.lt⟩
      try simp only [List.getElem_toArray, List.getElem_cons_zero, List.getElem_cons_succ, Act.put, List.setIfInBounds_toArray, List.set_cons_zero, List.set_cons_succ]
      refine wpAnyE_store (i := 13) (fun wx => (fun wx => R3 w m [.int .i64 0, .int .u64 0] wx ∧ (Cs wx g1 [.int .i64 (hiW (m.a * v)), .int .u64 (loW (m.a * v))] ∧ w.heap.size + 1 < g1)) wx ∧ (Cs wx gA [.int .i64 (hiW (o * (m.w + v))), .int .u64 (loW (o * (m.w + v)))] ∧ g1 < gA)) 29 [.int .i64 (hiW (o * (m.w + v))), .int .u64 (loW (o * (m.w + v)))] [.int .i64 0, .int .u64 0] gA infoWide (.tmp 10) (.tmp 37) rfl rfl (by kernel_rfl) (by decide) (by rfl) ?st13_1a ?st13_1b ?st13_1c ?st13_1d ?st13_1e (fun _ h => h.2.1) (fun _ h => ⟨⟨h.1.1.fars (by have := h.1.2.2; have := h.2.2; omega) _, h.1.2.1.fars (by have := h.2.2; omega) _ _, h.1.2.2⟩, Cs.putL _ 0 h.2.1 (by simp), h.2.2⟩) (fun _ h => h.1) (((R3.stays w m [.int .i64 0, .int .u64 0]).and_ (fun _ _ h hb => ⟨h.1.below hb, h.2⟩) : Stays (fun wx => R3 w m [.int .i64 0, .int .u64 0] wx ∧ (Cs wx g1 [.int .i64 (hiW (m.a * v)), .int .u64 (loW (m.a * v))] ∧ w.heap.size + 1 < g1))).and_ (fun _ _ h hb => ⟨h.1.below hb, h.2⟩)) ?st13_1f
      case st13_1a => rfl
      case st13_1b => rfl
      case st13_1c => rfl
      case st13_1d => rfl
      case st13_1e => rfl
      try simp only [List.getElem_toArray, List.getElem_cons_zero, List.getElem_cons_succ, Act.put, List.setIfInBounds_toArray, List.set_cons_zero, List.set_cons_succ]
      refine wpAnyE_take (i := 14) (v := ?_) (((R3.stays w m [.int .i64 0, .int .u64 0]).and_ (fun _ _ h hb => ⟨h.1.below hb, h.2⟩) : Stays (fun wx => R3 w m [.int .i64 0, .int .u64 0] wx ∧ (Cs wx g1 [.int .i64 (hiW (m.a * v)), .int .u64 (loW (m.a * v))] ∧ w.heap.size + 1 < g1))).and_ (fun _ _ h hb => ⟨h.1.below hb, h.2⟩)) (fun _ h => h.1) rfl (by kernel_rfl) (by kernel_rfl) (by kernel_rfl) (by kernel_rfl) (fun _ _ _ h => h) (SteadyB.of_yields (Or.inl ⟨by rfl, ?_⟩)) ?_
      rotate_left
      · intro wq hSw
        go_simp
        (try with_reducible rfl)
      try simp only [List.getElem_toArray, List.getElem_cons_zero, List.getElem_cons_succ, Act.put, List.setIfInBounds_toArray, List.set_cons_zero, List.set_cons_succ]
      refine wpAnyE_done (by kernel_rfl) (fun wz hSz => ?_) _
      have HZ := hid hSz
      have g0 := hSz.1.2.1.at0
      have g2 := hSz.1.2.1.at1
      have k0 := hSz.2.1.at0
      have k1 := hSz.2.1.at1
      clear hSz HQ3 HG
      go_wp2_with fail
      refine (Wide.subF HX1.out HX2.out _).mono ?_
      rw [H4.out, H3.out]
      rintro e w5 ⟨rfl, hb⟩
      have HQ5 := hid ((HZ.out.1.1.below hb).below ((Below.refl _ _).alloc (Nat.le_refl _) (.cells #[.int .i64 (hiW 0), .int .u64 (loW 0)] 29)))
      clear hb HZ g0 g2 k0 k1
      have HCr := hid HQ5.out.2.1
      go_wp2_with (first | ((with_reducible refine wpList_put_cs 29 [.int .i64 0, .int .u64 0] infoWide rfl (.tmp 6) (.tmp 47) rfl (w.heap.size + 1) _ HCr.out ?h5002_1 ?h5002_2 ?h5002_3 ?h5002_4 ?h5002_5 ?h5002_6); (case h5002_1 => rfl); (case h5002_2 => rfl); (case h5002_3 => rfl); (case h5002_4 => rfl); (case h5002_5 => rfl); (intro W2 hW2); (have HW := hid (HQ5.out.put2 hW2)); (clear hW2)) | fail)
      obtain ⟨z0, z1⟩ := HW.out.1.two
      go_wp2_with fail
      refine bodyPost_ret (v := .tuple #[wv 0, .bool false]) (by simp [results, Tryz.results168, go_sem, z0, z1, hiW0, loW0]) rfl ⟨rfl, HW.out.2⟩
    | true =>
      have E : Hid (m.plOk1 v o = true) := hid (by unfold Mu.plOk1; rw [h1, h3]; rfl)
      rw [E.out, if_pos rfl]
      have H3 := hid h3
      have H4 := hid (clW_ok h3)
      have HX : Hid (WR ((m.a * v) - (o * (m.w + v)))) := hid (okW_iff.1 h3)
      clear h1 h3
      go_enter Tryz.func168, Tryz.ntmps168
      go_wp2_with fail
      generalize ((w.alloc (.cells #[.int .u64 m.b, .int .i64 (hiW m.a), .int .u64 (loW m.a), .int .u64 m.w, .int .i64 m.n] 145)).alloc (.cells #[.int .i64 0, .int .u64 0] 29)) = W0 at HQ0 ⊢
      obtain ⟨m0, m1, m2, m3, m4⟩ := Mu.at m HQ0.out.1
      go_wp2_with fail
      refine (Wide.mulF HM.out.2.1 (by have := HV.out; omega) (by have := HV.out; omega) _).mono ?_
      rw [H1.out, H2.out]
      rintro e w3 ⟨rfl, hb⟩
      have HQ3 := hid ((HQ0.out.below hb).below ((Below.refl _ _).alloc (Nat.le_refl _) (.cells #[.int .i64 (hiW (m.a * v)), .int .u64 (loW (m.a * v))] 29)))
      have HG : Hid (Cs (w3.alloc (.cells #[.int .i64 (hiW (m.a * v)), .int .u64 (loW (m.a * v))] 29)) w3.heap.size [.int .i64 (hiW (m.a * v)), .int .u64 (loW (m.a * v))] ∧ w.heap.size + 1 < w3.heap.size) := hid ⟨Cs.new2 w3 _ _ _, (HQ0.out.below hb).2.1.lt⟩
      clear hb HQ0 m0 m1 m2 m3 m4
      go_wp2_with fail
      generalize (w3.alloc (.cells #[.int .i64 (hiW (m.a * v)), .int .u64 (loW (m.a * v))] 29)) = W3 at HQ3 HG ⊢
      generalize w3.heap.size = g1 at HG ⊢
      refine wp_region_grow (S := fun wx => R3 w m [.int .i64 0, .int .u64 0] wx ∧ (Cs wx g1 [.int .i64 (hiW (m.a * v)), .int .u64 (loW (m.a * v))] ∧ w.heap.size + 1 < g1)) 15 (by kernel_rfl) (⟨HQ3.out.below (Below.refl _ _).drew, HG.out⟩) ?_
      refine wpAnyE_take (i := 0) (v := ?_) (((R3.stays w m [.int .i64 0, .int .u64 0]).and_ (fun _ _ h hb => ⟨h.1.below hb, h.2⟩) : Stays (fun wx => R3 w m [.int .i64 0, .int .u64 0] wx ∧ (Cs wx g1 [.int .i64 (hiW (m.a * v)), .int .u64 (loW (m.a * v))] ∧ w.heap.size + 1 < g1)))) (fun _ h => h) rfl (by kernel_rfl) (by kernel_rfl) (by kernel_rfl) (by kernel_rfl) (fun _ _ _ h => h) (SteadyB.of_yields (Or.inl ⟨by rfl, ?_⟩)) ?_
      rotate_left
      · intro wq hSw
        go_simp
        (try with_reducible rfl)
      try simp only [List.getElem_toArray, List.getElem_cons_zero, List.getElem_cons_succ, Act.put, List.setIfInBounds_toArray, List.set_cons_zero, List.set_cons_succ]
      refine wpAnyE_take (i := 2) (v := ?_) (((R3.stays w m [.int .i64 0, .int .u64 0]).and_ (fun _ _ h hb => ⟨h.1.below hb, h.2⟩) : Stays (fun wx => R3 w m [.int .i64 0, .int .u64 0] wx ∧ (Cs wx g1 [.int .i64 (hiW (m.a * v)), .int .u64 (loW (m.a * v))] ∧ w.heap.size + 1 < g1)))) (fun _ h => h) rfl (by kernel_rfl) (by kernel_rfl) (by kernel_rfl) (by kernel_rfl) (fun _ _ _ h => h) (SteadyB.of_yields (Or.inl ⟨by rfl, ?_⟩)) ?_
      rotate_left
      · intro wq hSw
        go_simp
        (try with_reducible rfl)
      try simp only [List.getElem_toArray, List.getElem_cons_zero, List.getElem_cons_succ, Act.put, List.setIfInBounds_toArray, List.set_cons_zero, List.set_cons_succ]
      refine wpAnyE_take (i := 3) (v := ?_) (((R3.stays w m [.int .i64 0, .int .u64 0]).and_ (fun _ _ h hb => ⟨h.1.below hb, h.2⟩) : Stays (fun wx => R3 w m [.int .i64 0, .int .u64 0] wx ∧ (Cs wx g1 [.int .i64 (hiW (m.a * v)), .int .u64 (loW (m.a * v))] ∧ w.heap.size + 1 < g1)))) (fun _ h => h) rfl (by kernel_rfl) (by kernel_rfl) (by kernel_rfl) (by kernel_rfl) (fun _ _ _ h => h) (SteadyB.of_yields (Or.inl ⟨by rfl, ?_⟩)) ?_
      rotate_left
      · intro wq hSw
        obtain ⟨m0, m1, m2, m3, m4⟩ := Mu.at m hSw.1.1
        go_simp
        (try with_reducible rfl)
      try simp only [List.getElem_toArray, List.getElem_cons_zero, List.getElem_cons_succ, Act.put, List.setIfInBounds_toArray, List.set_cons_zero, List.set_cons_succ]
      refine wpAnyE_take (i := 4) (v := ?_) (((R3.stays w m [.int .i64 0, .int .u64 0]).and_ (fun _ _ h hb => ⟨h.1.below hb, h.2⟩) : Stays (fun wx => R3 w m [.int .i64 0, .int .u64 0] wx ∧ (Cs wx g1 [.int .i64 (hiW (m.a * v)), .int .u64 (loW (m.a * v))] ∧ w.heap.size + 1 < g1)))) (fun _ h => h) rfl (by kernel_rfl) (by kernel_rfl) (by kernel_rfl) (by kernel_rfl) (fun _ _ _ h => h) (SteadyB.of_yields (Or.inl ⟨by rfl, ?_⟩)) ?_
      rotate_left
      · intro wq hSw
        go_simp
        (try with_reducible rfl)
      try simp only [List.getElem_toArray, List.getElem_cons_zero, List.getElem_cons_succ, Act.put, List.setIfInBounds_toArray, List.set_cons_zero, List.set_cons_succ]
      refine wpAnyE_take (i := 5) (v := ?_) (((R3.stays w m [.int .i64 0, .int .u64 0]).and_ (fun _ _ h hb => ⟨h.1.below hb, h.2⟩) : Stays (fun wx => R3 w m [.int .i64 0, .int .u64 0] wx ∧ (Cs wx g1 [.int .i64 (hiW (m.a * v)), .int .u64 (loW (m.a * v))] ∧ w.heap.size + 1 < g1)))) (fun _ h => h) rfl (by kernel_rfl) (by kernel_rfl) (by kernel_rfl) (by kernel_rfl) (fun _ _ _ h => h) (SteadyB.of_yields (Or.inl ⟨by rfl, ?_⟩)) ?_
      rotate_left
      · intro wq hSw
        go_simp
        (try with_reducible rfl)
      try simp only [List.getElem_toArray, List.getElem_cons_zero, List.getElem_cons_succ, Act.put, List.setIfInBounds_toArray, List.set_cons_zero, List.set_cons_succ]
      refine wpAnyE_take (i := 6) (v := ?_) (((R3.stays w m [.int .i64 0, .int .u64 0]).and_ (fun _ _ h hb => ⟨h.1.below hb, h.2⟩) : Stays (fun wx => R3 w m [.int .i64 0, .int .u64 0] wx ∧ (Cs wx g1 [.int .i64 (hiW (m.a * v)), .int .u64 (loW (m.a * v))] ∧ w.heap.size + 1 < g1)))) (fun _ h => h) rfl (by kernel_rfl) (by kernel_rfl) (by kernel_rfl) (by kernel_rfl) (fun _ _ _ h => h) (SteadyB.of_yields (Or.inl ⟨by rfl, ?_⟩)) ?_
      rotate_left
      · intro wq hSw
        go_simp
        (try with_reducible rfl)
      try simp only [List.getElem_toArray, List.getElem_cons_zero, List.getElem_cons_succ, Act.put, List.setIfInBounds_toArray, List.set_cons_zero, List.set_cons_succ]
      refine wpAnyE_take (i := 7) (v := ?_) (((R3.stays w m [.int .i64 0, .int .u64 0]).and_ (fun _ _ h hb => ⟨h.1.below hb, h.2⟩) : Stays (fun wx => R3 w m [.int .i64 0, .int .u64 0] wx ∧ (Cs wx g1 [.int .i64 (hiW (m.a * v)), .int .u64 (loW (m.a * v))] ∧ w.heap.size + 1 < g1)))) (fun _ h => h) rfl (by kernel_rfl) (by kernel_rfl) (by kernel_rfl) (by kernel_rfl) (fun _ _ _ h => h) (SteadyB.of_yields (Or.inl ⟨by rfl, ?_⟩)) ?_
      rotate_left
      · intro wq hSw
        go_simp
        (try with_reducible rfl)
      try simp only [List.getElem_toArray, List.getElem_cons_zero, List.getElem_cons_succ, Act.put, List.setIfInBounds_toArray, List.set_cons_zero, List.set_cons_succ]
      refine wpAnyE_take (i := 1) (v := wv o) (((R3.stays w m [.int .i64 0, .int .u64 0]).and_ (fun _ _ h hb => ⟨h.1.below hb, h.2⟩) : Stays (fun wx => R3 w m [.int .i64 0, .int .u64 0] wx ∧ (Cs wx g1 [.int .i64 (hiW (m.a * v)), .int .u64 (loW (m.a * v))] ∧ w.heap.size + 1 < g1)))) (fun _ h => h) rfl (by kernel_rfl) (by kernel_rfl) (by kernel_rfl) (by kernel_rfl) (fun _ _ _ h => h) (Or.inl ⟨by rfl, fun wq hSw => ?_⟩) ?_
      · refine RunB.of_calls (Wide.ofF HO.out.1 HO.out.2 wq) (by go_simp) ?_
        rintro e wr ⟨rfl, hb⟩
        exact ⟨rfl, hb⟩
      try simp only [List.getElem_toArray, List.getElem_cons_zero, List.getElem_cons_succ, Act.put, List.setIfInBounds_toArray, List.set_cons_zero, List.set_cons_succ]
      refine wpAnyE_take (i := 8) (v := (.tuple #[wv (o * (m.w + v)), .bool true])) (((R3.stays w m [.int .i64 0, .int .u64 0]).and_ (fun _ _ h hb => ⟨h.1.below hb, h.2⟩) : Stays (fun wx => R3 w m [.int .i64 0, .int .u64 0] wx ∧ (Cs wx g1 [.int .i64 (hiW (m.a * v)), .int .u64 (loW (m.a * v))] ∧ w.heap.size + 1 < g1)))) (fun _ h => h) rfl (by kernel_rfl) (by kernel_rfl) (by kernel_rfl) (by kernel_rfl) (fun _ _ _ h => h) (Or.inl ⟨by rfl, fun wq hSw => ?_⟩) ?_
      · refine RunB.of_calls (Wide.mulT HOW.out (by have := HW.out; have := HV.out; omega) (by have := HW.out; have := HV.out; omega) H6.out wq) (by go_simp) ?_
        rintro e wr ⟨rfl, hb⟩
        exact ⟨rfl, hb⟩
      try simp only [List.getElem_toArray, List.getElem_cons_zero, List.getElem_cons_succ, Act.put, List.setIfInBounds_toArray, List.set_cons_zero, List.set_cons_succ]
      refine wpAnyE_take (i := 9) (v := ?_) (((R3.stays w m [.int .i64 0, .int .u64 0]).and_ (fun _ _ h hb => ⟨h.1.below hb, h.2⟩) : Stays (fun wx => R3 w m [.int .i64 0, .int .u64 0] wx ∧ (Cs wx g1 [.int .i64 (hiW (m.a * v)), .int .u64 (loW (m.a * v))] ∧ w.heap.size + 1 < g1)))) (fun _ h => h) rfl (by kernel_rfl) (by kernel_rfl) (by kernel_rfl) (by kernel_rfl) (fun _ _ _ h => h) (SteadyB.of_yields (Or.inl ⟨by rfl, ?_⟩)) ?_
      rotate_left
      · intro wq hSw
        go_simp
        (try with_reducible rfl)
      try simp only [List.getElem_toArray, List.getElem_cons_zero, List.getElem_cons_succ, Act.put, List.setIfInBounds_toArray, List.set_cons_zero, List.set_cons_succ]
      refine wpAnyE_take (i := 10) (v := ?_) (((R3.stays w m [.int .i64 0, .int .u64 0]).and_ (fun _ _ h hb => ⟨h.1.below hb, h.2⟩) : Stays (fun wx => R3 w m [.int .i64 0, .int .u64 0] wx ∧ (Cs wx g1 [.int .i64 (hiW (m.a * v)), .int .u64 (loW (m.a * v))] ∧ w.heap.size + 1 < g1)))) (fun _ h => h) rfl (by kernel_rfl) (by kernel_rfl) (by kernel_rfl) (by kernel_rfl) (fun _ _ _ h => h) (SteadyB.of_yields (Or.inl ⟨by rfl, ?_⟩)) ?_
      rotate_left
      · intro wq hSw
        go_simp
        (try with_reducible rfl)
      try simp only [List.getElem_toArray, List.getElem_cons_zero, List.getElem_cons_succ, Act.put, List.setIfInBounds_toArray, List.set_cons_zero, List.set_cons_succ]
      refine wpAnyE_take (i := 11) (v := ?_) (((R3.stays w m [.int .i64 0, .int .u64 0]).and_ (fun _ _ h hb => ⟨h.1.below hb, h.2⟩) : Stays (fun wx => R3 w m [.int .i64 0, .int .u64 0] wx ∧ (Cs wx g1 [.int .i64 (hiW (m.a * v)), .int .u64 (loW (m.a * v))] ∧ w.heap.size + 1 < g1)))) (fun _ h => h) rfl (by kernel_rfl) (by kernel_rfl) (by kernel_rfl) (by kernel_rfl) (fun _ _ _ h => h) (SteadyB.of_yields (Or.inl ⟨by rfl, ?_⟩)) ?_
      rotate_left
      · intro wq hSw
        go_simp
        (try with_reducible rfl)
      try simp only [List.getElem_toArray, List.getElem_cons_zero, List.getElem_cons_succ, Act.put, List.setIfInBounds_toArray, List.set_cons_zero, List.set_cons_succ]
      refine wpAnyE_alloc (i := 12) (fun wx g => Cs wx g [.int .i64 0, .int .u64 0] ∧ g1 < g) rfl (by kernel_rfl) (by decide) (by rfl) (((R3.stays w m [.int .i64 0, .int .u64 0]).and_ (fun _ _ h hb => ⟨h.1.below hb, h.2⟩) : Stays (fun wx => R3 w m [.int .i64 0, .int .u64 0] wx ∧ (Cs wx g1 [.int .i64 (hiW (m.a * v)), .int .u64 (loW (m.a * v))] ∧ w.heap.size + 1 < g1)))) (fun _ h => h) (fun g => (fun _ _ h hb => ⟨h.1.below hb, h.2⟩)) (fun wq hSw => ?_) (fun gA => ?_)
      · exact ⟨_, by go_simp; (try with_reducible rfl), (Below.refl _ _).alloc (Nat.le_refl _) _, Cs.new2 _ _ _ _, hSw.2.1.lt⟩
      try simp only [List.getElem_toArray, List.getElem_cons_zero, List.getElem_cons_succ, Act.put, List.setIfInBounds_toArray, List.set_cons_zero, List.set_cons_succ]
      refine wpAnyE_store (i := 13) (fun wx => (fun wx => R3 w m [.int .i64 0, .int .u64 0] wx ∧ (Cs wx g1 [.int .i64 (hiW (m.a * v)), .int .u64 (loW (m.a * v))] ∧ w.heap.size + 1 < g1)) wx ∧ (Cs wx gA [.int .i64 (hiW (o * (m.w + v))), .int .u64 (loW (o * (m.w + v)))] ∧ g1 < gA)) 29 [.int .i64 (hiW (o * (m.w + v))), .int .u64 (loW (o * (m.w + v)))] [.int .i64 0, .int .u64 0] gA infoWide (.tmp 10) (.tmp 37) rfl rfl (by kernel_rfl) (by decide) (by rfl) ?st13_2a ?st13_2b ?st13_2c ?st13_2d ?st13_2e (fun _ h => h.2.1) (fun _ h => ⟨⟨h.1.1.fars (by have := h.1.2.2; have := h.2.2; omega) _, h.1.2.1.fars (by have := h.2.2; omega) _ _, h.1.2.2⟩, Cs.putL _ 0 h.2.1 (by simp), h.2.2⟩) (fun _ h => h.1) (((R3.stays w m [.int .i64 0, .int .u64 0]).and_ (fun _ _ h hb => ⟨h.1.below hb, h.2⟩) : Stays (fun wx => R3 w m [.int .i64 0, .int .u64 0] wx ∧ (Cs wx g1 [.int .i64 (hiW (m.a * v)), .int .u64 (loW (m.a * v))] ∧ w.heap.size + 1 < g1))).and_ (fun _ _ h hb => ⟨h.1.below hb, h.2⟩)) ?st13_2f
      case st13_2a => rfl
      case st13_2b => rfl
      case st13_2c => rfl
      case st13_2d => rfl
      case st13_2e => rfl
      try simp only [List.getElem_toArray, List.getElem_cons_zero, List.getElem_cons_succ, Act.put, List.setIfInBounds_toArray, List.set_cons_zero, List.set_cons_succ]
      refine wpAnyE_take (i := 14) (v := ?_) (((R3.stays w m [.int .i64 0, .int .u64 0]).and_ (fun _ _ h hb => ⟨h.1.below hb, h.2⟩) : Stays (fun wx => R3 w m [.int .i64 0, .int .u64 0] wx ∧ (Cs wx g1 [.int .i64 (hiW (m.a * v)), .int .u64 (loW (m.a * v))] ∧ w.heap.size + 1 < g1))).and_ (fun _ _ h hb => ⟨h.1.below hb, h.2⟩)) (fun _ h => h.1) rfl (by kernel_rfl) (by kernel_rfl) (by kernel_rfl) (by kernel_rfl) (fun _ _ _ h => h) (SteadyB.of_yields (Or.inl ⟨by rfl, ?_⟩)) ?_
      rotate_left
      · intro wq hSw
        go_simp
        (try with_reducible rfl)
      try simp only [List.getElem_toArray, List.getElem_cons_zero, List.getElem_cons_succ, Act.put, List.setIfInBounds_toArray, List.set_cons_zero, List.set_cons_succ]
      refine wpAnyE_done (by kernel_rfl) (fun wz hSz => ?_) _
      have HZ := hid hSz
      have g0 := hSz.1.2.1.at0
      have g2 := hSz.1.2.1.at1
      have k0 := hSz.2.1.at0
      have k1 := hSz.2.1.at1
      clear hSz HQ3 HG
      go_wp2_with fail
      refine (Wide.subF HX1.out HX2.out _).mono ?_
      rw [H4.out, H3.out]
      rintro e w5 ⟨rfl, hb⟩
      have HQ5 := hid ((HZ.out.1.1.below hb).below ((Below.refl _ _).alloc (Nat.le_refl _) (.cells #[.int .i64 (hiW ((m.a * v) - (o * (m.w + v)))), .int .u64 (loW ((m.a * v) - (o * (m.w + v))))] 29)))
      clear hb HZ g0 g2 k0 k1
      obtain ⟨m0, m1, m2, m3, m4⟩ := Mu.at m HQ5.out.1
      go_wp2_with fail
      refine (Wide.divF HX.out (by have := HW.out; omega) (by have := HW.out; omega) _).mono ?_
      rintro e w6 ⟨rfl, hb⟩
      have HQ6 := hid ((HQ5.out.below hb).below ((Below.refl _ _).alloc (Nat.le_refl _) (.cells #[.int .i64 (hiW (((m.a * v) - (o * (m.w + v))) / m.w)), .int .u64 (loW (((m.a * v) - (o * (m.w + v))) / m.w))] 29)))
      clear hb HQ5 m0 m1 m2 m3 m4
      have HCr := hid HQ6.out.2.1
      go_wp2_with (first | ((with_reducible refine wpList_put_cs 29 [.int .i64 (hiW (((m.a * v) - (o * (m.w + v))) / m.w)), .int .u64 (loW (((m.a * v) - (o * (m.w + v))) / m.w))] infoWide rfl (.tmp 6) (.tmp 56) rfl (w.heap.size + 1) _ HCr.out ?h5003_1 ?h5003_2 ?h5003_3 ?h5003_4 ?h5003_5 ?h5003_6); (case h5003_1 => rfl); (case h5003_2 => rfl); (case h5003_3 => rfl); (case h5003_4 => rfl); (case h5003_5 => rfl); (intro W2 hW2); (have HW9 := hid (HQ6.out.put2 hW2)); (clear hW2)) | fail)
      obtain ⟨z0, z1⟩ := HW9.out.1.two
      go_wp2_with fail
      refine bodyPost_ret (v := .tuple #[wv (((m.a * v) - (o * (m.w + v))) / m.w), .bool true]) (by simp [results, Tryz.results168, go_sem, z0, z1, hiW0, loW0]) rfl ⟨rfl, HW9.out.2⟩
def Mu.place (m : Mu) (clock v o : Int) : Bool × P3 :=
  if m.right = true then (if m.n = 0 then (atOk 0 v, atP clock 0 v) else if m.plOk1 v o = true then (atOk (m.plD v o) v, atP m.b (m.plD v o) v) else (false, (0, 0, 0))) else (false, (0, 0, 0))
theorem plD_wr {m : Mu} {v o : Int} (hw : 0 < m.w) (h : m.plOk1 v o = true) : WR (m.plD v o) := by
  unfold Mu.plOk1 at h
  simp only [Bool.and_eq_true] at h
  exact div_wr (okW_iff.1 h.2) hw
set_option maxRecDepth 100000 in
set_option maxHeartbeats 8000000 in
theorem Place.place (m : Mu) (clock v o : Int) (hm : m.In) (v0 : 0 ≤ v) (v1 : v ≤ 4294967295) (o0 : -9223372036854775808 ≤ o) (o1 : o ≤ 9223372036854775807) (w : World) :
    Calls Tryz.prog 131 #[m.val, .int .u64 clock, .int .u32 v, .int .i64 o] w (Ans (.tuple #[pv (m.place clock v o).2, .bool (m.place clock v o).1]) w) := by
  have HM := hid hm
  have HV := hid (And.intro v0 v1)
  have HO := hid (And.intro o0 o1)
  have HQ0 := hid (R3.newP w m)
  clear hm v0 v1 o0 o1
  unfold Mu.val
  cases h1 : m.right with
  | false =>
    have E : Hid (m.place clock v o = (false, (0, 0, 0))) := hid (by unfold Mu.place; rw [h1, if_neg (by decide)])
    rw [E.out]
    have H1 := hid h1
    clear h1
    go_enter Tryz.func131, Tryz.ntmps131
    go_wp2_with fail
    generalize ((w.alloc (.cells #[.int .u64 m.b, .int .i64 (hiW m.a), .int .u64 (loW m.a), .int .u64 m.w, .int .i64 m.n] 145)).alloc (.cells #[.int .u64 0, .int .u32 0, .int .u32 0] 137)) = W0 at HQ0 ⊢
    obtain ⟨m0, m1, m2, m3, m4⟩ := Mu.at m HQ0.out.1
    go_wp2_with fail
    refine (Mean.right m HM.out _).mono ?_
    rintro e w1 ⟨rfl, hb⟩
    have HQ1 := hid (HQ0.out.below hb)
    clear hb HQ0 m0 m1 m2 m3 m4
    rw [H1.out]
    have HCr := hid HQ1.out.2.1
    go_wp2_with (first | ((with_reducible refine wpList_put_cs 137 [.int .u64 0, .int .u32 0, .int .u32 0] infoPos rfl (.tmp 8) (.tmp 15) rfl (w.heap.size + 1) _ HCr.out ?h5004_1 ?h5004_2 ?h5004_3 ?h5004_4 ?h5004_5 ?h5004_6); (case h5004_1 => rfl); (case h5004_2 => rfl); (case h5004_3 => rfl); (case h5004_4 => rfl); (case h5004_5 => rfl); (intro W2 hW2); (have HW := hid (HQ1.out.put3 hW2)); (clear hW2)) | fail)
    obtain ⟨z0, z1, z2⟩ := HW.out.1.three
    go_wp2_with fail
    refine bodyPost_ret (v := .tuple #[pv (0, 0, 0), .bool false]) (by simp [results, Tryz.results131, go_sem, z0, z1, z2]) rfl ⟨rfl, HW.out.2⟩
  | true =>
    have H1 := hid h1
    by_cases h2 : m.n = 0
    · have C2 := hid (show (m.n == 0) = true by rw [h2]; rfl)
      have E : Hid (m.place clock v o = (atOk 0 v, atP clock 0 v)) := hid (by unfold Mu.place; rw [h1, if_pos rfl, if_pos h2])
      rw [E.out]
      clear h1 h2
      go_enter Tryz.func131, Tryz.ntmps131
      go_wp2_with fail
      generalize ((w.alloc (.cells #[.int .u64 m.b, .int .i64 (hiW m.a), .int .u64 (loW m.a), .int .u64 m.w, .int .i64 m.n] 145)).alloc (.cells #[.int .u64 0, .int .u32 0, .int .u32 0] 137)) = W0 at HQ0 ⊢
      obtain ⟨m0, m1, m2, m3, m4⟩ := Mu.at m HQ0.out.1
      go_wp2_with fail
      refine (Mean.right m HM.out _).mono ?_
      rintro e w1 ⟨rfl, hb⟩
      have HQ1 := hid (HQ0.out.below hb)
      clear hb HQ0 m0 m1 m2 m3 m4
      rw [H1.out]
      obtain ⟨m0, m1, m2, m3, m4⟩ := Mu.at m HQ1.out.1
      have c2 := C2.out
      go_wp2_with fail
      have HA := Pos.atF clock (d := 0) (v := v) (by unfold WR; omega) HV.out.1 HV.out.2 w1
      unfold wv at HA
      rw [hiW0, loW0] at HA
      refine HA.mono ?_
      rintro e w2 ⟨rfl, hb⟩
      have HQ2 := hid (HQ1.out.below hb)
      clear hb HA HQ1 m0 m1 m2 m3 m4 c2
      have HCr := hid HQ2.out.2.1
      generalize atP clock 0 v = y at *
      generalize atOk 0 v = y2 at *
      go_wp2_with (first | ((with_reducible refine wpList_put_cs 137 [.int .u64 y.1, .int .u32 y.2.1, .int .u32 y.2.2] infoPos rfl (.tmp 8) (.tmp 23) rfl (w.heap.size + 1) _ HCr.out ?h5005_1 ?h5005_2 ?h5005_3 ?h5005_4 ?h5005_5 ?h5005_6); (case h5005_1 => rfl); (case h5005_2 => rfl); (case h5005_3 => rfl); (case h5005_4 => rfl); (case h5005_5 => rfl); (intro W2 hW2); (have HWy := hid (HQ2.out.put3 hW2)); (clear hW2)) | fail)
      obtain ⟨z0, z1, z2⟩ := HWy.out.1.three
      go_wp2_with fail
      refine bodyPost_ret (v := .tuple #[pv y, .bool y2]) (by simp [results, Tryz.results131, go_sem, z0, z1, z2]) rfl ⟨rfl, HWy.out.2⟩
    · have h2' : (m.n == 0) = false := by simpa using h2
      have HW := hid (right_w h1 h2)
      have HN := hid h2
      cases h3 : m.plOk1 v o with
      | false =>
        have E : Hid (m.place clock v o = (false, (0, 0, 0))) := hid (by unfold Mu.place; rw [h1, if_pos rfl, if_neg h2, h3, if_neg (by decide)])
        rw [E.out]
        have H3 := hid h3
        clear h1 h2 h3
        go_enter Tryz.func131, Tryz.ntmps131
        go_wp2_with fail
        generalize ((w.alloc (.cells #[.int .u64 m.b, .int .i64 (hiW m.a), .int .u64 (loW m.a), .int .u64 m.w, .int .i64 m.n] 145)).alloc (.cells #[.int .u64 0, .int .u32 0, .int .u32 0] 137)) = W0 at HQ0 ⊢
        obtain ⟨m0, m1, m2, m3, m4⟩ := Mu.at m HQ0.out.1
        go_wp2_with fail
        refine (Mean.right m HM.out _).mono ?_
        rintro e w1 ⟨rfl, hb⟩
        have HQ1 := hid (HQ0.out.below hb)
        clear hb HQ0 m0 m1 m2 m3 m4
        rw [H1.out]
        obtain ⟨m0, m1, m2, m3, m4⟩ := Mu.at m HQ1.out.1
        go_wp2_with fail
        refine (Place.comesIn m v o HM.out H1.out HN.out HV.out.1 HV.out.2 HO.out.1 HO.out.2 _).mono ?_
        rw [H3.out]
        rw [if_neg (by decide)]
        rintro e w2 ⟨rfl, hb⟩
        have HQ2 := hid ((HQ1.out.below hb).below ((Below.refl _ _).alloc (Nat.le_refl _) (.cells #[.int .i64 (hiW 0), .int .u64 (loW 0)] 29)))
        clear hb HQ1 m0 m1 m2 m3 m4 h2'
        have HCr := hid HQ2.out.2.1
        go_wp2_with (first | ((with_reducible refine wpList_put_cs 137 [.int .u64 0, .int .u32 0, .int .u32 0] infoPos rfl (.tmp 8) (.tmp 34) rfl (w.heap.size + 1) _ HCr.out ?h5006_1 ?h5006_2 ?h5006_3 ?h5006_4 ?h5006_5 ?h5006_6); (case h5006_1 => rfl); (case h5006_2 => rfl); (case h5006_3 => rfl); (case h5006_4 => rfl); (case h5006_5 => rfl); (intro W2 hW2); (have HW := hid (HQ2.out.put3 hW2)); (clear hW2)) | fail)
        obtain ⟨z0, z1, z2⟩ := HW.out.1.three
        go_wp2_with fail
        refine bodyPost_ret (v := .tuple #[pv (0, 0, 0), .bool false]) (by simp [results, Tryz.results131, go_sem, z0, z1, z2]) rfl ⟨rfl, HW.out.2⟩
      | true =>
        have E : Hid (m.place clock v o = (atOk (m.plD v o) v, atP m.b (m.plD v o) v)) := hid (by unfold Mu.place; rw [h1, if_pos rfl, if_neg h2, h3, if_pos rfl])
        rw [E.out]
        have HD := hid (plD_wr (by have := HW.out; omega) h3)
        have H3 := hid h3
        clear h1 h2 h3
        go_enter Tryz.func131, Tryz.ntmps131
        go_wp2_with fail
        generalize ((w.alloc (.cells #[.int .u64 m.b, .int .i64 (hiW m.a), .int .u64 (loW m.a), .int .u64 m.w, .int .i64 m.n] 145)).alloc (.cells #[.int .u64 0, .int .u32 0, .int .u32 0] 137)) = W0 at HQ0 ⊢
        obtain ⟨m0, m1, m2, m3, m4⟩ := Mu.at m HQ0.out.1
        go_wp2_with fail
        refine (Mean.right m HM.out _).mono ?_
        rintro e w1 ⟨rfl, hb⟩
        have HQ1 := hid (HQ0.out.below hb)
        clear hb HQ0 m0 m1 m2 m3 m4
        rw [H1.out]
        obtain ⟨m0, m1, m2, m3, m4⟩ := Mu.at m HQ1.out.1
        go_wp2_with fail
        refine (Place.comesIn m v o HM.out H1.out HN.out HV.out.1 HV.out.2 HO.out.1 HO.out.2 _).mono ?_
        rw [H3.out]
        rw [if_pos rfl]
        rintro e w2 ⟨rfl, hb⟩
        have HQ2 := hid ((HQ1.out.below hb).below ((Below.refl _ _).alloc (Nat.le_refl _) (.cells #[.int .i64 (hiW (m.plD v o)), .int .u64 (loW (m.plD v o))] 29)))
        clear hb HQ1 m0 m1 m2 m3 m4 h2'
        obtain ⟨m0, m1, m2, m3, m4⟩ := Mu.at m HQ2.out.1
        go_wp2_with fail
        refine (Pos.atF m.b HD.out HV.out.1 HV.out.2 _).mono ?_
        rintro e w3 ⟨rfl, hb⟩
        have HQ3 := hid (HQ2.out.below hb)
        clear hb HQ2 m0 m1 m2 m3 m4
        have HCr := hid HQ3.out.2.1
        generalize atP m.b (m.plD v o) v = y at *
        generalize atOk (m.plD v o) v = y2 at *
        go_wp2_with (first | ((with_reducible refine wpList_put_cs 137 [.int .u64 y.1, .int .u32 y.2.1, .int .u32 y.2.2] infoPos rfl (.tmp 8) (.tmp 40) rfl (w.heap.size + 1) _ HCr.out ?h5007_1 ?h5007_2 ?h5007_3 ?h5007_4 ?h5007_5 ?h5007_6); (case h5007_1 => rfl); (case h5007_2 => rfl); (case h5007_3 => rfl); (case h5007_4 => rfl); (case h5007_5 => rfl); (intro W2 hW2); (have HWy := hid (HQ3.out.put3 hW2)); (clear hW2)) | fail)
        obtain ⟨z0, z1, z2⟩ := HWy.out.1.three
        go_wp2_with fail
        refine bodyPost_ret (v := .tuple #[pv y, .bool y2]) (by simp [results, Tryz.results131, go_sem, z0, z1, z2]) rfl ⟨rfl, HWy.out.2⟩
end

/- The contracts of the package clamp: windows, sizes. -/
section
open Go.RowKit
theorem mxW_words : hiW mxW = 9223372036854775807 ∧ loW mxW = 18446744073709551615 := by unfold mxW hiW loW; decide
set_option maxRecDepth 100000 in
set_option maxHeartbeats 1000000 in
theorem Clamp.greatest (w : World) : Calls Tryz.prog 202 #[] w (Ans (wv mxW) w) := by
  obtain ⟨e1, e2⟩ := mxW_words
  unfold wv
  rw [e1, e2]
  clear e1 e2
  go_enter Tryz.func202, Tryz.ntmps202
  go_wp2_with fail
  refine bodyPost_ret (v := .agg #[.int .i64 9223372036854775807, .int .u64 18446744073709551615]) (by simp [results, Tryz.results202, go_sem]) rfl ⟨rfl, ?_⟩
  exact (Below.refl w.heap.size w).alloc (Nat.le_refl _) _
theorem Wide.negF {a : Int} (ha : WR a) (w : World) : Calls Tryz.prog 219 #[wv a] w (Ans (.tuple #[wv (clW (-a)), .bool (okW (-a))]) w) := by
  have e0 : -a = 0 - a := by omega
  rw [e0]
  exact (Wide.neg _ _ a (isW_of ha) w).mono (by rintro e w' ⟨h, l, ok, rfl, hr, hb⟩; obtain ⟨rfl, rfl, rfl⟩ := wres_F hr; exact ⟨rfl, hb⟩)
theorem cmpI_ge0 {x : Int} : 0 ≤ cmpI x 0 ↔ 0 ≤ x := by unfold cmpI; split <;> (try split) <;> omega
end

end Go.Proofs.YtlkhkhdacgeicaaGreatDoor

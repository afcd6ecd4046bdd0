/- Texts of MeanShifts's proof, together. -/
import Derived.Test.YtoioeginfhkjjaaGreatDoorMeanShiftsZ19
import Derived.Test.YtoioeginfhkjjaaGreatDoorOpenP
import Derived.Test.YtoioeginfhkjjaaGreatDoorMeanShiftsZ0
namespace Go.Proofs.YtoioeginfhkjjaaGreatDoor
/- The contracts of the package mean: the virtual time; of some positions. -/
section
open Go.RowKit

def M1 (w : World) (m : Mu) (w' : World) : Prop := Cs w' w.heap.size m.cells ∧ Below w.heap.size w w'
theorem M1.below {w w1 w2 : World} {m : Mu} (h : M1 w m w1) (hb : Below w1.heap.size w1 w2) : M1 w m w2 := ⟨h.1.below hb, below_on h.2 hb⟩
theorem M1.new (w : World) (m : Mu) : M1 w m (w.alloc (.cells #[.int .u64 m.b, .int .i64 (hiW m.a), .int .u64 (loW m.a), .int .u64 m.w, .int .i64 m.n] 36)) := ⟨Cs.alloc_new6 w 36 m.cells, (Below.refl w.heap.size w).alloc (Nat.le_refl _) _⟩
theorem div_wr {a b : Int} (ha : WR a) (hb : 0 < b) : WR (a / b) := by
  unfold WR at *
  have h1 : -170141183460469231731687303715884105728 * b ≤ a := by
    have := Int.mul_le_mul_of_nonneg_left (show (1 : Int) ≤ b by omega) (show (0 : Int) ≤ 170141183460469231731687303715884105728 by decide)
    rw [Int.neg_mul]; omega
  have h2 : a < 170141183460469231731687303715884105728 * b := by
    have := Int.mul_le_mul_of_nonneg_left (show (1 : Int) ≤ b by omega) (show (0 : Int) ≤ 170141183460469231731687303715884105728 by decide)
    omega
  have h3 := fl_lo hb h1
  have h4 := fl_hi hb h2
  omega

set_option maxRecDepth 100000 in
set_option maxHeartbeats 4000000 in
theorem Mean.floor (m : Mu) (hm : m.In) (w : World) : Calls Tryz.prog 29 #[m.val] w (Ans (.tuple #[.int .u64 m.fl.2, .bool m.fl.1]) w) := by
  have HM := hid hm
  have HQ0 := hid (M1.new w m)
  clear hm
  unfold Mu.val
  cases h1 : m.right with
  | false =>
    have E : Hid (m.fl = (false, 0)) := hid (by unfold Mu.fl Mu.flOk; rw [h1, if_neg (by simp)])
    rw [E.out]
    have H1 := hid h1
    clear h1
    go_enter Tryz.func29, Tryz.ntmps29
    go_wp2_with fail
    generalize (w.alloc (.cells #[.int .u64 m.b, .int .i64 (hiW m.a), .int .u64 (loW m.a), .int .u64 m.w, .int .i64 m.n] 36)) = W0 at HQ0 ⊢
    obtain ⟨m0, m1, m2, m3, m4⟩ := Mu.at m HQ0.out.1
    go_wp2_with fail
    refine (Mean.right m HM.out _).mono ?_
    rintro e w1 ⟨rfl, hb⟩
    have HQ1 := hid (HQ0.out.below hb)
    clear hb HQ0 m0 m1 m2 m3 m4
    rw [H1.out]
    go_wp2_with fail
    go_ret2
    exact ⟨rfl, HQ1.out.2⟩
  | true =>
    by_cases h2 : m.n = 0
    · have C2 := hid (show (m.n == 0) = true by rw [h2]; rfl)
      have E : Hid (m.fl = (false, 0)) := hid (by unfold Mu.fl Mu.flOk; rw [h2, if_neg (by simp)])
      rw [E.out]
      have H1 := hid h1
      clear h1 h2
      go_enter Tryz.func29, Tryz.ntmps29
      go_wp2_with fail
      generalize (w.alloc (.cells #[.int .u64 m.b, .int .i64 (hiW m.a), .int .u64 (loW m.a), .int .u64 m.w, .int .i64 m.n] 36)) = W0 at HQ0 ⊢
      obtain ⟨m0, m1, m2, m3, m4⟩ := Mu.at m HQ0.out.1
      go_wp2_with fail
      refine (Mean.right m HM.out _).mono ?_
      rintro e w1 ⟨rfl, hb⟩
      have HQ1 := hid (HQ0.out.below hb)
      clear hb HQ0 m0 m1 m2 m3 m4
      rw [H1.out]
      obtain ⟨m0, m1, m2, m3, m4⟩ := Mu.at m HQ1.out.1
      have c2 := C2.out
      go_wp2_with fail
      go_ret2
      exact ⟨rfl, HQ1.out.2⟩
    · have h2' : (m.n == 0) = false := by simpa using h2
      have HW := hid (right_w h1 h2)
      have HD := hid (div_wr HM.out.2.1 (show 0 < m.w by have := HW.out; omega))
      cases hs : smI (m.a / m.w) with
      | false =>
        have E : Hid (m.fl = (false, 0)) := hid (by unfold Mu.fl Mu.flOk; rw [h1, hs]; simp [h2])
        have H1 := hid h1
        have HS := hid hs
        clear h1 h2 hs
        rw [E.out]
        go_enter Tryz.func29, Tryz.ntmps29
        go_wp2_with fail
        generalize (w.alloc (.cells #[.int .u64 m.b, .int .i64 (hiW m.a), .int .u64 (loW m.a), .int .u64 m.w, .int .i64 m.n] 36)) = W0 at HQ0 ⊢
        obtain ⟨m0, m1, m2, m3, m4⟩ := Mu.at m HQ0.out.1
        go_wp2_with fail
        refine (Mean.right m HM.out _).mono ?_
        rintro e w1 ⟨rfl, hb⟩
        have HQ1 := hid (HQ0.out.below hb)
        clear hb HQ0 m0 m1 m2 m3 m4
        rw [H1.out]
        obtain ⟨m0, m1, m2, m3, m4⟩ := Mu.at m HQ1.out.1
        go_wp2_with fail
        refine (Wide.divF HM.out.2.1 (by have := HW.out; omega) (by have := HW.out; omega) _).mono ?_
        rintro e w2 ⟨rfl, hb⟩
        have HQ2 := hid ((HQ1.out.below hb).below ((Below.refl _ _).alloc (Nat.le_refl _) (.cells #[.int .i64 (hiW (m.a / m.w)), .int .u64 (loW (m.a / m.w))] 34)))
        clear hb HQ1 m0 m1 m2 m3 m4 h2'
        go_wp2_with fail
        refine (Wide.smallF HD.out _).mono ?_
        rintro e w3 ⟨rfl, hb⟩
        have HQ3 := hid (HQ2.out.below hb)
        clear hb HQ2
        rw [HS.out]
        rw [if_neg (by decide)]
        go_wp2_with fail
        go_ret2
        exact ⟨rfl, HQ3.out.2⟩
      | true =>
        have E : Hid (m.fl = (true, adv m.b (m.a / m.w))) := hid (by unfold Mu.fl Mu.flOk; rw [h1, hs]; simp [h2])
        have H1 := hid h1
        have HS := hid hs
        clear h1 h2 hs
        rw [E.out]
        go_enter Tryz.func29, Tryz.ntmps29
        go_wp2_with fail
        generalize (w.alloc (.cells #[.int .u64 m.b, .int .i64 (hiW m.a), .int .u64 (loW m.a), .int .u64 m.w, .int .i64 m.n] 36)) = W0 at HQ0 ⊢
        obtain ⟨m0, m1, m2, m3, m4⟩ := Mu.at m HQ0.out.1
        go_wp2_with fail
        refine (Mean.right m HM.out _).mono ?_
        rintro e w1 ⟨rfl, hb⟩
        have HQ1 := hid (HQ0.out.below hb)
        clear hb HQ0 m0 m1 m2 m3 m4
        rw [H1.out]
        obtain ⟨m0, m1, m2, m3, m4⟩ := Mu.at m HQ1.out.1
        go_wp2_with fail
        refine (Wide.divF HM.out.2.1 (by have := HW.out; omega) (by have := HW.out; omega) _).mono ?_
        rintro e w2 ⟨rfl, hb⟩
        have HQ2 := hid ((HQ1.out.below hb).below ((Below.refl _ _).alloc (Nat.le_refl _) (.cells #[.int .i64 (hiW (m.a / m.w)), .int .u64 (loW (m.a / m.w))] 34)))
        clear hb HQ1 m0 m1 m2 m3 m4 h2'
        go_wp2_with fail
        refine (Wide.smallF HD.out _).mono ?_
        rintro e w3 ⟨rfl, hb⟩
        have HQ3 := hid (HQ2.out.below hb)
        clear hb HQ2
        rw [HS.out]
        rw [if_pos rfl]
        obtain ⟨m0, m1, m2, m3, m4⟩ := Mu.at m HQ3.out.1
        go_wp2_with fail
        refine (Vtime.add m.b (m.a / m.w) _).mono ?_
        rintro e w4 ⟨rfl, hb⟩
        have HQ4 := hid (HQ3.out.below hb)
        clear hb HQ3 m0 m1 m2 m3 m4
        go_wp2_with fail
        go_ret2
        exact ⟨rfl, HQ4.out.2⟩

/-- Of's variables. -/
def O2 (w : World) (m : Mu) (w' : World) : Prop := Cs w' w.heap.size [.int .u64 0, .int .i64 0, .int .u64 0, .int .u64 0, .int .i64 0] ∧ Cs w' (w.heap.size + 1) m.cells ∧ Below w.heap.size w w'
theorem O2.below {w w1 w2 : World} {m : Mu} (h : O2 w m w1) (hb : Below w1.heap.size w1 w2) : O2 w m w2 := ⟨h.1.below hb, h.2.1.below hb, below_on h.2.2 hb⟩
theorem O2.putM {w w1 : World} {m : Mu} (h : O2 w m w1) (k : Mu) {W : World} (hW : W = w1.setCells (w.heap.size + 1) 0 [.int .u64 k.b, .int .i64 (hiW k.a), .int .u64 (loW k.a), .int .u64 k.w, .int .i64 k.n]) : O2 w k W := by
  rw [hW]; exact ⟨h.1.fars (by omega) _ _, Cs.putL _ 0 h.2.1 (by simp [Mu.cells]), below_sets (by omega) _ _ h.2.2⟩
theorem O2.putR {w w1 : World} {m : Mu} (h : O2 w m w1) {a' b' c' d' e' : Value} {W : World} (hW : W = w1.setCells w.heap.size 0 [a', b', c', d', e']) : Cs W w.heap.size [a', b', c', d', e'] ∧ Below w.heap.size w W := by
  rw [hW]; exact ⟨Cs.putL [a', b', c', d', e'] 0 h.1 (by simp), below_sets (Nat.le_refl _) _ _ h.2.2⟩

set_option maxRecDepth 100000 in
set_option maxHeartbeats 8000000 in
theorem Mean.of (base : Int) (hb0 : IsT base) (A : Option Addr) (n c : Nat) (l : List P3) (w : World) (hr : RdP w A n l) (hl : ∀ q ∈ l, PIn q) (hn : n ≤ 1000000) :
    Calls Tryz.prog 18 #[.int .u64 base, .slice A n c] w (Ans (.tuple #[Mu.val (Mu.of base l).2, .bool (Mu.of base l).1]) w) := by
  have HB0 := hid hb0
  have HR := hid hr
  have HL := hid hl
  have HLN : Hid (l.length = n) := hid hr.1
  have hni : (n : Int) ≤ 1000000 := by omega
  have HO0 : Hid (O2 w ⟨base, 0, 0, 0⟩ ((w.alloc (.cells #[.int .u64 0, .int .i64 0, .int .u64 0, .int .u64 0, .int .i64 0] 36)).alloc (.cells #[.int .u64 base, .int .i64 0, .int .u64 0, .int .u64 0, .int .i64 0] 36))) := hid (by
    have h1 := Cs.alloc_new6 w 36 [.int .u64 0, .int .i64 0, .int .u64 0, .int .u64 0, .int .i64 0]
    have h2 := Cs.alloc_new6 (w.alloc (.cells #[.int .u64 0, .int .i64 0, .int .u64 0, .int .u64 0, .int .i64 0] 36)) 36 [.int .u64 base, .int .i64 0, .int .u64 0, .int .u64 0, .int .i64 0]
    simp only [World.size_alloc] at h2
    exact ⟨h1.alloc _, h2, ((Below.refl w.heap.size w).alloc (Nat.le_refl _) _).alloc (by simp) _⟩)
  clear hr hl hb0
  go_enter Tryz.func18, Tryz.ntmps18
  go_wp2_with fail
  generalize ((w.alloc (.cells #[.int .u64 0, .int .i64 0, .int .u64 0, .int .u64 0, .int .i64 0] 36)).alloc (.cells #[.int .u64 base, .int .i64 0, .int .u64 0, .int .u64 0, .int .i64 0] 36)) = W0 at HO0 ⊢
  go_loopg [14] n (fun s i wr => ∃ k : Nat, i = .int .i64 k ∧ k ≤ n ∧ s = n - k ∧ (Mu.of base (l.take k)).1 = true ∧ O2 w (Mu.of base (l.take k)).2 wr)
  case atStart => exact ⟨0, rfl, Nat.zero_le _, by omega, rfl, HO0.out⟩
  case round =>
    obtain ⟨k, rfl, hk, hs, ht, ho⟩ := hrel
    have HS := hid hs
    have HT := hid ht
    have HO := hid ho
    clear hs ht ho HO0
    by_cases hkn : k < n
    · obtain ⟨bb, off, hA, _, hc⟩ := (HR.out.below HO.out.2.2).2 0 (by omega)
      obtain ⟨p0, p1, p2⟩ := hc k hkn
      have hkl : k < l.length := by have := HLN.out; omega
      have HKL := hid hkl
      have HX := hid (HL.out _ (getD_mem hkl))
      have HIN := hid (of_in (base := base) (l := l.take k) HB0.out (fun q hq => HL.out q (List.mem_of_mem_take hq)))
      have HFA := hid (fun h => of_fails (base := base) hkl HT.out h)
      have HGO := hid (fun h => of_goes (base := base) hkl HT.out h)
      subst hA
      have hki : (k : Int) < n := by omega
      clear hc hkl
      generalize l.getD k (0, 0, 0) = x at *
      have HOa := hid (HO.out.below ((Below.refl wr.heap.size wr).alloc (Nat.le_refl _) (.cells #[.int .u64 x.1, .int .u32 x.2.1, .int .u32 x.2.2] 29)))
      obtain ⟨m0, m1, m2, m3, m4⟩ := Mu.at _ HOa.out.2.1
      go_wp2_with fail
      refine (Mean.add _ x HIN.out HX.out _).mono ?_
      rintro e w2 ⟨rfl, hb⟩
      have HO2 := hid (HOa.out.below hb)
      clear hb p0 p1 p2 m0 m1 m2 m3 m4 HOa
      cases hok : ((Mu.of base (l.take k)).2.add x).1 with
      | false =>
        have E := hid (HFA.out hok)
        have HCr := hid HO2.out.2.1
        generalize ((Mu.of base (l.take k)).2.add x).2 = y at *
        go_wp2_with (first | ((with_reducible refine wpList_put_cs 36 [.int .u64 y.b, .int .i64 (hiW y.a), .int .u64 (loW y.a), .int .u64 y.w, .int .i64 y.n] infoMean rfl (.tmp 6) (.tmp 22) rfl (w.heap.size + 1) _ HCr.out ?h101_1 ?h101_2 ?h101_3 ?h101_4 ?h101_5 ?h101_6); (case h101_1 => rfl); (case h101_2 => rfl); (case h101_3 => rfl); (case h101_4 => rfl); (case h101_5 => rfl); (intro W2 hW2); (have HO3 := hid (HO2.out.putM y hW2)); (clear hW2); (have HCq := hid HO3.out.1)) | ((with_reducible refine wpList_put_cs 36 [.int .u64 0, .int .i64 0, .int .u64 0, .int .u64 0, .int .i64 0] infoMean rfl (.tmp 4) (.tmp 26) rfl w.heap.size _ HCq.out ?h102_1 ?h102_2 ?h102_3 ?h102_4 ?h102_5 ?h102_6); (case h102_1 => rfl); (case h102_2 => rfl); (case h102_3 => rfl); (case h102_4 => rfl); (case h102_5 => rfl); (intro W2 hW2); (have HW := hid (HO3.out.putR hW2)); (clear hW2)) | fail)
        obtain ⟨z0, z1, z2, z3, z4⟩ := HW.out.1.five
        go_wp2_with fail
        refine bodyPost_ret (v := .tuple #[Mu.val Mu.no, .bool false]) (by simp [results, Tryz.results18, go_sem, z0, z1, z2, z3, z4, hiW0, loW0]) rfl ⟨by rw [E.out], HW.out.2⟩
      | true =>
        obtain ⟨g1, g2⟩ := HGO.out hok
        have HG1 := hid g1
        have HG2 := hid g2
        have HCr := hid HO2.out.2.1
        clear g1 g2
        generalize ((Mu.of base (l.take k)).2.add x).2 = y at *
        go_wp2_with (first | ((with_reducible refine wpList_put_cs 36 [.int .u64 y.b, .int .i64 (hiW y.a), .int .u64 (loW y.a), .int .u64 y.w, .int .i64 y.n] infoMean rfl (.tmp 6) (.tmp 22) rfl (w.heap.size + 1) _ HCr.out ?h103_1 ?h103_2 ?h103_3 ?h103_4 ?h103_5 ?h103_6); (case h103_1 => rfl); (case h103_2 => rfl); (case h103_3 => rfl); (case h103_4 => rfl); (case h103_5 => rfl); (intro W2 hW2); (have HO3 := hid (HO2.out.putM y hW2)); (clear hW2)) | fail)
        go_roundg (n - (k + 1))
        case measure => have := HS.out; omega
        case rel => exact ⟨k + 1, by go_num, by omega, rfl, HG1.out, by rw [HG2.out]; exact HO3.out⟩
    · obtain rfl : k = n := by omega
      have hki : ¬ (k : Int) < k := by omega
      have e : l.take k = l := List.take_of_length_le (by have := HLN.out; omega)
      have ho := HO.out
      have ht := HT.out
      rw [e] at ho ht
      have HO1 := hid ho
      have HTT := hid ht
      clear ho ht e HO HT
      have HCr := hid HO1.out.1
      obtain ⟨m0, m1, m2, m3, m4⟩ := Mu.at _ HO1.out.2.1
      go_wp2_with (first | ((with_reducible refine wpList_put_cs 36 [.int .u64 (Mu.of base l).2.b, .int .i64 (hiW (Mu.of base l).2.a), .int .u64 (loW (Mu.of base l).2.a), .int .u64 (Mu.of base l).2.w, .int .i64 (Mu.of base l).2.n] infoMean rfl (.tmp 4) (.tmp 28) rfl w.heap.size _ HCr.out ?h104_1 ?h104_2 ?h104_3 ?h104_4 ?h104_5 ?h104_6); (case h104_1 => rfl); (case h104_2 => rfl); (case h104_3 => rfl); (case h104_4 => rfl); (case h104_5 => rfl); (intro W2 hW2); (have HW := hid (HO1.out.putR hW2)); (clear hW2)) | fail)
      clear m0 m1 m2 m3 m4
      obtain ⟨z0, z1, z2, z3, z4⟩ := HW.out.1.five
      go_wp2_with fail
      refine bodyPost_ret (v := .tuple #[Mu.val (Mu.of base l).2, .bool true]) (by simp [results, Tryz.results18, go_sem, z0, z1, z2, z3, z4]) rfl ⟨by rw [HTT.out], HW.out.2⟩
end

/- Plain facts on digits of base 10000, the lowest first: nothing of the program. -/
section
open Go.RowKit

def val : List Int → Int
  | [] => 0
  | d :: ds => d + 10000 * val ds
def Dg (zs : List Int) : Prop := ∀ z ∈ zs, 0 ≤ z ∧ z ≤ 9999

theorem Dg.nil : Dg [] := fun _ h => by cases h
theorem Dg.cons {z : Int} {zs : List Int} (h0 : 0 ≤ z) (h1 : z ≤ 9999) (h : Dg zs) : Dg (z :: zs) := fun x hx => by
  rcases List.mem_cons.1 hx with rfl | hx
  · exact ⟨h0, h1⟩
  · exact h x hx
theorem Dg.tail {z : Int} {zs : List Int} (h : Dg (z :: zs)) : Dg zs := fun x hx => h x (List.mem_cons_of_mem _ hx)
theorem Dg.head {z : Int} {zs : List Int} (h : Dg (z :: zs)) : 0 ≤ z ∧ z ≤ 9999 := h z List.mem_cons_self
theorem Dg.append {xs ys : List Int} (h : Dg xs) (g : Dg ys) : Dg (xs ++ ys) := fun x hx => by
  rcases List.mem_append.1 hx with hx | hx
  · exact h x hx
  · exact g x hx
theorem Dg.take {zs : List Int} (h : Dg zs) (k : Nat) : Dg (zs.take k) := fun x hx => h x (List.mem_of_mem_take hx)
theorem Dg.one {z : Int} (h0 : 0 ≤ z) (h1 : z ≤ 9999) : Dg [z] := Dg.cons h0 h1 Dg.nil
theorem Dg.getD {zs : List Int} (h : Dg zs) (k : Nat) : 0 ≤ zs.getD k 0 ∧ zs.getD k 0 ≤ 9999 := by
  by_cases hk : k < zs.length
  · have : zs.getD k 0 = zs[k] := by simp [List.getD, hk]
    rw [this]; exact h _ (List.getElem_mem hk)
  · have : zs.getD k 0 = 0 := by simp [List.getD, List.getElem?_eq_none (by omega : zs.length ≤ k)]
    rw [this]; decide

theorem val_nonneg : ∀ {zs : List Int}, Dg zs → 0 ≤ val zs
  | [], _ => by simp [val]
  | z :: zs, h => by have := val_nonneg h.tail; have := h.head; simp only [val]; omega
theorem val_append : ∀ (xs ys : List Int), val (xs ++ ys) = val xs + 10000 ^ xs.length * val ys
  | [], ys => by simp [val]
  | x :: xs, ys => by
    simp only [List.cons_append, val, List.length_cons, val_append xs ys, Int.pow_succ]
    rw [Int.mul_add, ← Int.add_assoc, Int.mul_comm (10000 ^ xs.length) 10000, Int.mul_assoc]
theorem val_snoc (xs : List Int) (d : Int) : val (xs ++ [d]) = val xs + 10000 ^ xs.length * d := by
  rw [val_append]; simp [val]
theorem val_lt : ∀ {zs : List Int}, Dg zs → val zs < 10000 ^ zs.length
  | [], _ => by simp [val]
  | z :: zs, h => by
    have h1 := val_lt h.tail
    have h2 := h.head
    simp only [val, List.length_cons, Int.pow_succ]
    omega
/-- Without noughts ahead of the highest digit. -/
def Nm (zs : List Int) : Prop := zs.getLast? ≠ some 0
theorem Nm.nil : Nm [] := by simp [Nm]
theorem getLast?_getD {zs : List Int} {k : Nat} (hl : zs.length = k + 1) : zs.getLast? = some (zs.getD k 0) := by
  rw [List.getLast?_eq_getElem?, hl]
  simp [List.getD, show k < zs.length by omega]
theorem Nm.of_ne {zs : List Int} {k : Nat} (hl : zs.length = k + 1) (h : zs.getD k 0 ≠ 0) : Nm zs := by
  unfold Nm; rw [getLast?_getD hl]; simpa using h
theorem Nm.ne {zs : List Int} {k : Nat} (hl : zs.length = k + 1) (h : Nm zs) : zs.getD k 0 ≠ 0 := by
  unfold Nm at h; rw [getLast?_getD hl] at h; simpa using h
/-- A nought at the end is nothing. -/
theorem val_take_nought {zs : List Int} {k : Nat} (hk : k < zs.length) (h : zs.getD k 0 = 0) : val (zs.take (k + 1)) = val (zs.take k) := by
  have e : zs.getD k 0 = zs[k] := by simp [List.getD, hk]
  rw [List.take_succ_eq_append_getElem hk, val_snoc, ← e, h]; simp
theorem take_snocD {zs : List Int} {k : Nat} (hk : k < zs.length) : zs.take (k + 1) = zs.take k ++ [zs.getD k 0] := by
  have e : zs.getD k 0 = zs[k] := by simp [List.getD, hk]
  rw [List.take_succ_eq_append_getElem hk, e]
theorem take_getD {zs : List Int} {k j : Nat} (hj : j < k) : (zs.take k).getD j 0 = zs.getD j 0 := by
  simp [List.getD, List.getElem?_take_of_lt hj]
/-- A digit is above 0: so is the number. -/
theorem val_pos {zs : List Int} (h : Dg zs) (hn : Nm zs) (hne : zs ≠ []) : 0 < val zs := by
  obtain ⟨k, hl⟩ : ∃ k, zs.length = k + 1 := ⟨zs.length - 1, by have := List.length_pos_iff.2 hne; omega⟩
  have h0 := hn.ne hl
  have h1 := h.getD k
  have e := take_snocD (zs := zs) (k := k) (by omega)
  rw [List.take_of_length_le (by omega)] at e
  rw [e, val_snoc]
  have h2 := val_nonneg (h.take k)
  have h3 : 0 < (10000 : Int) ^ (zs.take k).length * zs.getD k 0 := Int.mul_pos (Int.pow_pos (by decide)) (by omega)
  omega
theorem val_zero {zs : List Int} (h : Dg zs) (hn : Nm zs) : val zs = 0 ↔ zs = [] := by
  constructor
  · intro h0
    by_cases hne : zs = []
    · exact hne
    · have := val_pos h hn hne; omega
  · rintro rfl; rfl
end

end Go.Proofs.YtoioeginfhkjjaaGreatDoor

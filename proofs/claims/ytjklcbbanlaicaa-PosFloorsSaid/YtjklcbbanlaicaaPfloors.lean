/- PosFloors: the walk. -/
import Derived.Test.YtjklcbbanlaicaaOpenP
import Derived.Test.YtjklcbbanlaicaaRef4
namespace Go.Proofs.Ytjklcbbanlaicaa
open Go.RowKit

theorem fold_bd (f : Int → Int × Int × Int → Int) (hf : ∀ m q, -9223372036854775808 ≤ m → m ≤ 9223372036854775807 → -9223372036854775808 ≤ f m q ∧ f m q ≤ 9223372036854775807) :
    ∀ (ps : List (Int × Int × Int)) (m : Int), -9223372036854775808 ≤ m → m ≤ 9223372036854775807 → -9223372036854775808 ≤ ps.foldl f m ∧ ps.foldl f m ≤ 9223372036854775807
  | [], _, h0, h1 => ⟨h0, h1⟩
  | q :: ps, m, h0, h1 => by
    rw [List.foldl_cons]
    exact fold_bd f hf ps _ (hf m q h0 h1).1 (hf m q h0 h1).2
theorem loL_bd (base : Int) (ps : List (Int × Int × Int)) : -9223372036854775808 ≤ loL base ps ∧ loL base ps ≤ 9223372036854775807 := by
  cases ps with
  | nil => exact ⟨by simp [loL], by simp [loL]⟩
  | cons p ps => exact fold_bd _ (fun m q h0 h1 => by have := dif_bd q.1 base; omega) ps _ (dif_bd _ _).1 (dif_bd _ _).2
theorem hiL_bd (base : Int) (ps : List (Int × Int × Int)) : -9223372036854775808 ≤ hiL base ps ∧ hiL base ps ≤ 9223372036854775807 := by
  cases ps with
  | nil => exact ⟨by simp [hiL], by simp [hiL]⟩
  | cons p ps => exact fold_bd _ (fun m q h0 h1 => by have := dif_bd q.1 base; omega) ps _ (dif_bd _ _).1 (dif_bd _ _).2

/-- Two variables of type Big, and their numbers. -/
def LH (w0 : World) (g h : Nat) (s1 : Bool) (A1 : Option Addr) (n1 c1 : Nat) (x : Int) (s2 : Bool) (A2 : Option Addr) (n2 c2 : Nat) (y : Int) (w : World) : Prop :=
  Var w g s1 A1 n1 c1 ∧ Var w h s2 A2 n2 c2 ∧ IsB w 70 s1 A1 n1 c1 x ∧ IsB w 70 s2 A2 n2 c2 y ∧ Below w0.heap.size w0 w
theorem LH.below {w0 : World} {g h : Nat} {s1 : Bool} {A1 : Option Addr} {n1 c1 : Nat} {x : Int} {s2 : Bool} {A2 : Option Addr} {n2 c2 : Nat} {y : Int} {w w' : World} (k : LH w0 g h s1 A1 n1 c1 x s2 A2 n2 c2 y w) (hb : Below w.heap.size w w') :
    LH w0 g h s1 A1 n1 c1 x s2 A2 n2 c2 y w' := ⟨k.1.below hb, k.2.1.below hb, k.2.2.1.below hb, k.2.2.2.1.below hb, below_keep k.2.2.2.2 hb⟩
theorem LH.alloc {w0 : World} {g h : Nat} {s1 : Bool} {A1 : Option Addr} {n1 c1 : Nat} {x : Int} {s2 : Bool} {A2 : Option Addr} {n2 c2 : Nat} {y : Int} {w : World} (k : LH w0 g h s1 A1 n1 c1 x s2 A2 n2 c2 y w) (ob : Obj) :
    LH w0 g h s1 A1 n1 c1 x s2 A2 n2 c2 y (w.alloc ob) := k.below ((Below.refl _ _).alloc (Nat.le_refl _) ob)
theorem LH.drew {w0 : World} {g h : Nat} {s1 : Bool} {A1 : Option Addr} {n1 c1 : Nat} {x : Int} {s2 : Bool} {A2 : Option Addr} {n2 c2 : Nat} {y : Int} {w : World} (k : LH w0 g h s1 A1 n1 c1 x s2 A2 n2 c2 y w) :
    LH w0 g h s1 A1 n1 c1 x s2 A2 n2 c2 y w.drew := ⟨k.1.drew, k.2.1.drew, k.2.2.1.drew, k.2.2.2.1.drew, k.2.2.2.2.drew⟩
theorem LH.put1 {w0 : World} {g h : Nat} {s1 : Bool} {A1 : Option Addr} {n1 c1 : Nat} {x : Int} {s2 : Bool} {A2 : Option Addr} {n2 c2 : Nat} {y : Int} {w : World} (k : LH w0 g h s1 A1 n1 c1 x s2 A2 n2 c2 y w) (gh : g ≠ h) (hg : w0.heap.size ≤ g)
    {s : Bool} {A : Option Addr} {n c : Nat} {z : Int} (hz : IsB w 70 s A n c z) : LH w0 g h s A n c z s2 A2 n2 c2 y ((w.setCell ⟨g, 0, none⟩ (.bool s)).setCell ⟨g, 1, none⟩ (.slice A n c)) :=
  ⟨k.1.store _ _ _ _, k.2.1.far gh _ _ _ _, hz.storeV k.1 _ _ _ _, k.2.2.2.1.storeV k.1 _ _ _ _, (k.2.2.2.2.setCell hg _).setCell hg _⟩
theorem LH.put2 {w0 : World} {g h : Nat} {s1 : Bool} {A1 : Option Addr} {n1 c1 : Nat} {x : Int} {s2 : Bool} {A2 : Option Addr} {n2 c2 : Nat} {y : Int} {w : World} (k : LH w0 g h s1 A1 n1 c1 x s2 A2 n2 c2 y w) (gh : g ≠ h) (hg : w0.heap.size ≤ h)
    {s : Bool} {A : Option Addr} {n c : Nat} {z : Int} (hz : IsB w 70 s A n c z) : LH w0 g h s1 A1 n1 c1 x s A n c z ((w.setCell ⟨h, 0, none⟩ (.bool s)).setCell ⟨h, 1, none⟩ (.slice A n c)) :=
  ⟨k.1.far (Ne.symm gh) _ _ _ _, k.2.1.store _ _ _ _, k.2.2.1.storeV k.2.1 _ _ _ _, hz.storeV k.2.1 _ _ _ _, (k.2.2.2.2.setCell hg _).setCell hg _⟩
theorem LH.see {w0 : World} {g h : Nat} {s1 : Bool} {A1 : Option Addr} {n1 c1 : Nat} {x : Int} {s2 : Bool} {A2 : Option Addr} {n2 c2 : Nat} {y : Int} {w : World} (k : LH w0 g h s1 A1 n1 c1 x s2 A2 n2 c2 y w) :
    (w.cell? ⟨g, 0, none⟩ = some (.bool s1) ∧ w.cell? ⟨g, 1, none⟩ = some (.slice A1 n1 c1) ∧ w.cell? ⟨h, 0, none⟩ = some (.bool s2) ∧ w.cell? ⟨h, 1, none⟩ = some (.slice A2 n2 c2)) ∧ LH w0 g h s1 A1 n1 c1 x s2 A2 n2 c2 y w :=
  ⟨⟨k.1.1, k.1.2.1, k.2.1.1, k.2.1.2.1⟩, k⟩

set_option maxHeartbeats 1000000 in
theorem Pfloors.away (base : Int) (A : Option Addr) (n c : Nat) (w : World) (hn : 100 < n) :
    Calls Try.prog 15 #[.int .u64 base, .slice A n c] w (Ans (.bool true) w) := by
  have h2 : (100 : Int) < (n : Int) := by omega
  clear hn
  go_enter Try.func15, Try.ntmps15
  go_wp2_with fail
  refine (Law4.awake _).mono ?_
  rintro e w1 ⟨rfl, hb1⟩
  go_wp2_with fail
  go_ret
  exact ⟨rfl, hb1⟩

set_option maxRecDepth 100000 in
set_option maxHeartbeats 8000000 in
theorem Pfloors.walk (base : Int) (b0 : 0 ≤ base) (b1 : base ≤ 18446744073709551615) (A : Option Addr) (n c : Nat) (ps : List (Int × Int × Int)) (w : World) (hz : RdP w A n ps) (hi : InP ps) (hn : n ≤ 100) :
    Calls Try.prog 15 #[.int .u64 base, .slice A n c] w (Ans (.bool true) w) := by
  have HZ := hid hz
  have HL := hid hz.1
  have HI := hid hi
  have B0 := hid (And.intro b0 b1)
  have l1 : ¬ (100 : Int) < (n : Int) := by omega
  clear hz hi b0 b1
  go_enter Try.func15, Try.ntmps15
  go_wp2_with fail
  refine (Law4.awake _).mono ?_
  rintro e w1 ⟨rfl, hb1⟩
  have HB1 := hid hb1
  clear hb1
  go_wp2_with fail
  refine (Pos.floors base A n c ps _ (HZ.out.below HB1.out) (by omega)).mono ?_
  rintro e w2 ⟨rfl, hb2⟩
  have HB2 := hid (below_keep HB1.out hb2)
  have hsz := HB2.out.size
  clear hb2
  go_wp2_with fail
  go_loopg [25] n (fun g i wr => ∃ (k : Nat) (s1 : Bool) (A1 : Option Addr) (n1 c1 : Nat) (s2 : Bool) (A2 : Option Addr) (n2 c2 : Nat), i = .int .i64 k ∧ g = n - k ∧ k ≤ n ∧ LH w w2.heap.size (w2.heap.size + 1) s1 A1 n1 c1 (loL base (ps.take k)) s2 A2 n2 c2 (hiL base (ps.take k)) wr)
  case atStart =>
    have hv2 := Var.new (w2.alloc (.cells #[.bool false, .slice none 0 0] 26)) 26 false none 0 0
    exact ⟨0, false, none, 0, 0, false, none, 0, 0, rfl, rfl, Nat.zero_le _, (Var.new _ _ _ _ _ _).alloc _, by simpa using hv2, IsB.zero _ _, IsB.zero _ _, (HB2.out.alloc hsz _).alloc (by simp; omega) _⟩
  case round =>
    obtain ⟨k, s1, A1, n1, c1, s2, A2, n2, c2, rfl, hg, hk, hLH⟩ := hrel
    have HG := hid hg
    have K0 := hid hLH
    clear hg hLH
    by_cases hlt : k < n
    · obtain ⟨b, off, e2, hbl, hc⟩ := (HZ.out.below K0.out.2.2.2.2).2 k hlt
      subst e2
      obtain ⟨hc0, hc1, hc2⟩ := hc k hlt
      have HS := hid (And.intro (loL_step base ps (k := k) (by have := HL.out; omega)) (hiL_step base ps (k := k) (by have := HL.out; omega)))
      have HQ := hid (HI.out.get (k := k) (by have := HL.out; omega))
      generalize ps.getD k (0, 0, 0) = z at *
      obtain ⟨z0, z1, z2⟩ := z
      dsimp only at hc0 hc1 hc2
      clear hc
      go_wp2_with fail
      refine (Ref3.since z0 base HQ.out.1 HQ.out.2 B0.out.1 B0.out.2 _).mono ?_
      rintro e w3 ⟨s3, A3, n3, c3, rfl, hB, hb3⟩
      have H3 := hid (hB.alloc (.cells #[.bool s3, .slice A3 n3 c3] 26))
      have K3 := hid (((K0.out.alloc _).below hb3).alloc (.cells #[.bool s3, .slice A3 n3 c3] 26))
      have D3 := hid (Var.new w3 26 s3 A3 n3 c3)
      have hw3 : w2.heap.size + 1 < w3.heap.size := ((K0.out.alloc (.cells #[.int .u64 z0, .int .u32 z1, .int .u32 z2] 75)).below hb3).2.1.lt
      clear hB hb3 hc0 hc1 hc2
      by_cases hk0 : k = 0
      · subst hk0
        go_upto_region 12 with fail
        generalize w3.alloc (.cells #[.bool s3, .slice A3 n3 c3] 26) = w4 at *
        have H4 := hid H3.out
        obtain ⟨v0, v1, v2, v3, _⟩ := K3.out.1
        obtain ⟨d0, d1, _, _, _⟩ := D3.out
        go_upto_region 14 with fail
        have K5 := hid (K3.out.put1 (by omega) (by omega) H3.out)
        have D5 := hid (D3.out.far (b := w2.heap.size) (by omega) 0 1 (.bool s3) (.slice A3 n3 c3))
        have H5 := hid (H3.out.storeV K3.out.1 0 1 (.bool s3) (.slice A3 n3 c3))
        clear v0 v1 v2 v3 d0 d1
        generalize (w4.setCell ⟨w2.heap.size, 0, none⟩ (.bool s3)).setCell ⟨w2.heap.size, 1, none⟩ (.slice A3 n3 c3) = w5 at *
        obtain ⟨v0, v1, v2, v3, _⟩ := K5.out.2.1
        obtain ⟨d0, d1, _, _, _⟩ := D5.out
        go_wp2_with fail
        go_roundg (n - 1)
        case measure => have := HG.out; omega
        case rel => exact ⟨1, s3, A3, n3, c3, s3, A3, n3, c3, by go_num, rfl, by omega, by rw [HS.out.1, HS.out.2, if_pos trivial, if_pos trivial]; exact K5.out.put2 (by omega) (by omega) H5.out⟩
      · have ck : ((k : Int) == 0) = false := by rw [beq_eq_false_iff_ne]; omega
        rw [if_neg hk0, if_neg hk0] at HS
        go_upto_region 11 with fail
        generalize w3.alloc (.cells #[.bool s3, .slice A3 n3 c3] 26) = w4 at *
        have H4 := hid H3.out
        obtain ⟨v0, v1, v2, v3, _⟩ := K3.out.1
        obtain ⟨d0, d1, _, _, _⟩ := D3.out
        go_wp2_with fail
        refine (Ref.cmp 70 s3 s1 A3 A1 n3 c3 n1 c1 _ _ _ H3.out K3.out.2.2.1 (by decide)).mono ?_
        rintro e w5 ⟨rfl, hb5⟩
        have K5 := hid (K3.out.below hb5)
        have D5 := hid (D3.out.below hb5)
        have H5 := hid (H3.out.below hb5)
        clear hb5 v0 v1 v2 v3 d0 d1
        by_cases g1 : dif z0 base < loL base (ps.take k)
        · have f1 : decide (cmpI (dif z0 base) (loL base (ps.take k)) < 0) = true := by rw [decide_eq_true_eq, cmpI_lt g1]; decide
          have HLO := hid (show loL base (ps.take (k + 1)) = dif z0 base by rw [HS.out.1]; omega)
          clear g1
          obtain ⟨v0, v1, v2, v3, _⟩ := K5.out.1
          obtain ⟨d0, d1, _, _, _⟩ := D5.out
          go_upto_region 13 with fail
          have K6 := hid (K5.out.put1 (by omega) (by omega) H5.out)
          have D6 := hid (D5.out.far (b := w2.heap.size) (by omega) 0 1 (.bool s3) (.slice A3 n3 c3))
          have H6 := hid (H5.out.storeV K5.out.1 0 1 (.bool s3) (.slice A3 n3 c3))
          clear v0 v1 v2 v3 d0 d1 f1
          generalize (w5.setCell ⟨w2.heap.size, 0, none⟩ (.bool s3)).setCell ⟨w2.heap.size, 1, none⟩ (.slice A3 n3 c3) = w6 at *
          obtain ⟨v0, v1, v2, v3, _⟩ := K6.out.2.1
          obtain ⟨d0, d1, _, _, _⟩ := D6.out
          go_wp2_with fail
          refine (Ref.cmp 70 s3 s2 A3 A2 n3 c3 n2 c2 _ _ _ H6.out K6.out.2.2.2.1 (by decide)).mono ?_
          rintro e w7 ⟨rfl, hb7⟩
          have K7 := hid (K6.out.below hb7)
          have D7 := hid (D6.out.below hb7)
          have H7 := hid (H6.out.below hb7)
          clear hb7 v0 v1 v2 v3 d0 d1
          by_cases g2 : hiL base (ps.take k) < dif z0 base
          · have f2 : decide (0 < cmpI (dif z0 base) (hiL base (ps.take k))) = true := by rw [decide_eq_true_eq, cmpI_gt g2]; decide
            have EHI := hid (show hiL base (ps.take (k + 1)) = dif z0 base by rw [HS.out.2]; omega)
            clear g2
            obtain ⟨v0, v1, v2, v3, _⟩ := K7.out.2.1
            obtain ⟨d0, d1, _, _, _⟩ := D7.out
            go_wp2_with fail
            go_roundg (n - (k + 1))
            case measure => have := HG.out; omega
            case rel => exact ⟨k + 1, s3, A3, n3, c3, s3, A3, n3, c3, by go_num, rfl, by omega, by rw [HLO.out, EHI.out]; exact K7.out.put2 (by omega) (by omega) H7.out⟩
          · have f2 : decide (0 < cmpI (dif z0 base) (hiL base (ps.take k))) = false := by
              rw [decide_eq_false_iff_not]
              rcases Int.lt_or_eq_of_le (show dif z0 base ≤ hiL base (ps.take k) by omega) with h | h
              · rw [cmpI_lt h]; decide
              · rw [h, cmpI_eq]; decide
            have EHI := hid (show hiL base (ps.take (k + 1)) = hiL base (ps.take k) by rw [HS.out.2]; omega)
            clear g2
            go_wp2_with fail
            go_roundg (n - (k + 1))
            case measure => have := HG.out; omega
            case rel => exact ⟨k + 1, s3, A3, n3, c3, s2, A2, n2, c2, by go_num, rfl, by omega, by rw [HLO.out, EHI.out]; exact K7.out⟩
        · have f1 : decide (cmpI (dif z0 base) (loL base (ps.take k)) < 0) = false := by
            rw [decide_eq_false_iff_not]
            rcases Int.lt_or_eq_of_le (show loL base (ps.take k) ≤ dif z0 base by omega) with h | h
            · rw [cmpI_gt h]; decide
            · rw [h, cmpI_eq]; decide
          have HLO := hid (show loL base (ps.take (k + 1)) = loL base (ps.take k) by rw [HS.out.1]; omega)
          clear g1
          go_upto_region 13 with fail
          clear f1
          obtain ⟨v0, v1, v2, v3, _⟩ := K5.out.2.1
          obtain ⟨d0, d1, _, _, _⟩ := D5.out
          go_wp2_with fail
          refine (Ref.cmp 70 s3 s2 A3 A2 n3 c3 n2 c2 _ _ _ H5.out K5.out.2.2.2.1 (by decide)).mono ?_
          rintro e w7 ⟨rfl, hb7⟩
          have K7 := hid (K5.out.below hb7)
          have D7 := hid (D5.out.below hb7)
          have H7 := hid (H5.out.below hb7)
          clear hb7 v0 v1 v2 v3 d0 d1
          by_cases g2 : hiL base (ps.take k) < dif z0 base
          · have f2 : decide (0 < cmpI (dif z0 base) (hiL base (ps.take k))) = true := by rw [decide_eq_true_eq, cmpI_gt g2]; decide
            have EHI := hid (show hiL base (ps.take (k + 1)) = dif z0 base by rw [HS.out.2]; omega)
            clear g2
            obtain ⟨v0, v1, v2, v3, _⟩ := K7.out.2.1
            obtain ⟨d0, d1, _, _, _⟩ := D7.out
            go_wp2_with fail
            go_roundg (n - (k + 1))
            case measure => have := HG.out; omega
            case rel => exact ⟨k + 1, s1, A1, n1, c1, s3, A3, n3, c3, by go_num, rfl, by omega, by rw [HLO.out, EHI.out]; exact K7.out.put2 (by omega) (by omega) H7.out⟩
          · have f2 : decide (0 < cmpI (dif z0 base) (hiL base (ps.take k))) = false := by
              rw [decide_eq_false_iff_not]
              rcases Int.lt_or_eq_of_le (show dif z0 base ≤ hiL base (ps.take k) by omega) with h | h
              · rw [cmpI_lt h]; decide
              · rw [h, cmpI_eq]; decide
            have EHI := hid (show hiL base (ps.take (k + 1)) = hiL base (ps.take k) by rw [HS.out.2]; omega)
            clear g2
            go_wp2_with fail
            go_roundg (n - (k + 1))
            case measure => have := HG.out; omega
            case rel => exact ⟨k + 1, s1, A1, n1, c1, s2, A2, n2, c2, by go_num, rfl, by omega, by rw [HLO.out, EHI.out]; exact K7.out⟩
    · have e : ps.take k = ps := List.take_of_length_le (by have := HL.out; omega)
      rw [e] at K0
      clear e
      have f1 : ∀ x : Int, (cmpI x x == 0) = true := fun x => by rw [cmpI_eq]; rfl
      have L1 := hid (loL_bd base ps)
      have L2 := hid (hiL_bd base ps)
      go_wp2_with fail
      go_region_held3 (fun w' => (w'.cell? ⟨w2.heap.size, 0, none⟩ = some (.bool s1) ∧ w'.cell? ⟨w2.heap.size, 1, none⟩ = some (.slice A1 n1 c1) ∧ w'.cell? ⟨(w2.heap.size + 1), 0, none⟩ = some (.bool s2) ∧ w'.cell? ⟨(w2.heap.size + 1), 1, none⟩ = some (.slice A2 n2 c2)) ∧ LH w w2.heap.size (w2.heap.size + 1) s1 A1 n1 c1 (loL base ps) s2 A2 n2 c2 (hiL base ps) w')
        (first | with_reducible exact LH.see (LH.drew K0.out) | with_reducible exact LH.see (LH.below (And.right (by assumption : (_ ∧ _ ∧ _ ∧ _) ∧ LH w w2.heap.size (w2.heap.size + 1) s1 A1 n1 c1 (loL base ps) s2 A2 n2 c2 (hiL base ps) _)) hb3))
        (first
          | (go_at_call_of 41 (Value.int .i64 (loL base ps)); refine (Ref.N (loL base ps) L1.out.1 L1.out.2 _).mono ?_; rintro e w3 ⟨s3, A3, n3, c3, rfl, hB, hb3⟩; have H3 := hid (hB.mono (show 5 ≤ 70 by decide)); have K3 := hid (LH.below (And.right (by assumption : (_ ∧ _ ∧ _ ∧ _) ∧ LH w w2.heap.size (w2.heap.size + 1) s1 A1 n1 c1 (loL base ps) s2 A2 n2 c2 (hiL base ps) _)) hb3); clear hB)
          | (go_at_call_of 40 (Value.agg #[Value.bool s3, Value.slice A3 n3 c3]); refine (Ref.cmp 70 s3 s1 A3 A1 n3 c3 n1 c1 _ _ _ H3.out K3.out.2.2.1 (by decide)).mono ?_; rintro e w4 ⟨rfl, hb3⟩)
          | (go_at_call_of 41 (Value.int .i64 (hiL base ps)); refine (Ref.N (hiL base ps) L2.out.1 L2.out.2 _).mono ?_; rintro e w5 ⟨s5, A5, n5, c5, rfl, hB, hb3⟩; have H5 := hid (hB.mono (show 5 ≤ 70 by decide)); have K5 := hid (LH.below (And.right (by assumption : (_ ∧ _ ∧ _ ∧ _) ∧ LH w w2.heap.size (w2.heap.size + 1) s1 A1 n1 c1 (loL base ps) s2 A2 n2 c2 (hiL base ps) _)) hb3); clear hB)
          | (go_at_call_of 40 (Value.agg #[Value.bool s5, Value.slice A5 n5 c5]); refine (Ref.cmp 70 s5 s2 A5 A2 n5 c5 n2 c2 _ _ _ H5.out K5.out.2.2.2.1 (by decide)).mono ?_; rintro e w6 ⟨rfl, hb3⟩))
      have HFIN := hid (And.right (by assumption : (_ ∧ _ ∧ _ ∧ _) ∧ LH w w2.heap.size (w2.heap.size + 1) s1 A1 n1 c1 (loL base ps) s2 A2 n2 c2 (hiL base ps) w6)).2.2.2.2
      go_wp2
      go_ret
      exact ⟨by simp, HFIN.out⟩

theorem Pfloors.law (base : Int) (A : Option Addr) (n c : Nat) (ps : List (Int × Int × Int)) (w : World) (w0 : (Lit.int .u64 base).wf = true) (h : RdP w A n ps ∧ InP ps ∧ n ≤ 9223372036854775807) :
    Calls Try.prog 15 #[.int .u64 base, .slice A n c] w fun e w' => e = .returned (.bool true) ∧ Below w.heap.size w w' := by
  by_cases hn : n ≤ 100
  · exact Pfloors.walk base (bounds_u64 w0).1 (bounds_u64 w0).2 A n c ps w h.1 h.2.1 hn
  · exact Pfloors.away base A n c w (by omega)

end Go.Proofs.Ytjklcbbanlaicaa

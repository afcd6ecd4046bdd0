/- The contracts of the document's answer for layer 1, continued: which is larger, by digits. -/
import Derived.Test.YtjklcbbanlaicaaDoorRefE
namespace Go.Proofs.YtjklcbbanlaicaaDoor
open Go.RowKit

/-- What stands in memory while two Bigs are read. -/
def QInv (w0 : World) (A : Option Addr) (n : Nat) (xs : List Int) (B : Option Addr) (m : Nat) (ys : List Int) (w : World) : Prop :=
  Rd w A n xs ∧ Rd w B m ys ∧ Below w0.heap.size w0 w
theorem QInv.below {w0 : World} {A : Option Addr} {n : Nat} {xs : List Int} {B : Option Addr} {m : Nat} {ys : List Int} {w w' : World}
    (h : QInv w0 A n xs B m ys w) (hb : Below w.heap.size w w') : QInv w0 A n xs B m ys w' := ⟨h.1.below hb, h.2.1.below hb, h.2.2.trans (hb.mono h.2.2.size)⟩
theorem QInv.drew {w0 : World} {A : Option Addr} {n : Nat} {xs : List Int} {B : Option Addr} {m : Nat} {ys : List Int} {w : World}
    (h : QInv w0 A n xs B m ys w) : QInv w0 A n xs B m ys w.drew := ⟨h.1, h.2.1, h.2.2.drew⟩

set_option maxRecDepth 100000 in
set_option maxHeartbeats 4000000 in
theorem Ref.larger (s t : Bool) (A B : Option Addr) (n c m d : Nat) (xs ys : List Int) (w : World) (hx : Rd w A n xs) (hy : Rd w B m ys) (dx : Dg xs) (dy : Dg ys) (hn : n ≤ 1000000) (hm : m ≤ 1000000) :
    Calls Tryd.prog 44 #[.agg #[.bool s, .slice A n c], .agg #[.bool t, .slice B m d]] w fun e w' => e = .returned (.int .i64 (cmpI (val xs) (val ys))) ∧ Below w.heap.size w w' := by
  have HX := hid hx
  have HY := hid hy
  have DX := hid dx
  have DY := hid dy
  clear hx hy dx dy
  go_enter Tryd.func44, Tryd.ntmps44
  go_wp2_with fail
  go_loopg [5] (max n m) (fun g i wr => ∃ v : Int, i = .int .i64 v ∧ -1 ≤ v ∧ v < max (n : Int) (m : Int) ∧ g = (v + 1).toNat ∧ (∀ j : Nat, v < j → dg xs j = dg ys j) ∧
      (wr.cell? ⟨w.heap.size, 0, none⟩ = some (.bool s) ∧ wr.cell? ⟨w.heap.size, 1, none⟩ = some (.slice A n c) ∧ wr.cell? ⟨w.heap.size + 1, 0, none⟩ = some (.bool t) ∧ wr.cell? ⟨w.heap.size + 1, 1, none⟩ = some (.slice B m d)) ∧
      QInv w A n xs B m ys wr)
  case atStart =>
    exact ⟨_, rfl, by omega, by omega, by omega, fun j hj => by rw [dg_ge (by have := HX.out.1; omega), dg_ge (by have := HY.out.1; omega)], ⟨by simp [go_sem], by simp [go_sem], by simp [go_sem], by simp [go_sem]⟩, ⟨(HX.out.alloc _).alloc _, (HY.out.alloc _).alloc _, ((Below.refl _ _).alloc (Nat.le_refl _) _).alloc (by simp) _⟩⟩
  case round =>
    obtain ⟨v, rfl, v0, v1, hg, hv, hS, hp⟩ := hrel
    have HG := hid hg
    have HV := hid hv
    have HP := hid hp
    have HS0 := hid (And.intro hS hp)
    clear hg hv hp hS
    by_cases hend : v < 0
    · have f1 : ¬ 0 ≤ v := by omega
      go_wp2_with fail
      go_ret
      have e : val xs = val ys := larger_none (fun j _ => HV.out j (by omega))
      exact ⟨by rw [e, cmpI_eq]; rfl, HP.out.2.2⟩
    · obtain ⟨k, rfl⟩ := Int.eq_ofNat_of_zero_le (show 0 ≤ v by omega)
      have hk0 : (0 : Int) ≤ (k : Int) := by omega
      clear hend
      by_cases h1 : dg xs k < dg ys k
      · go_wp2_with fail
        go_region_held3 (fun w' => (w'.cell? ⟨w.heap.size, 0, none⟩ = some (.bool s) ∧ w'.cell? ⟨w.heap.size, 1, none⟩ = some (.slice A n c) ∧ w'.cell? ⟨w.heap.size + 1, 0, none⟩ = some (.bool t) ∧ w'.cell? ⟨w.heap.size + 1, 1, none⟩ = some (.slice B m d)) ∧ QInv w A n xs B m ys w')
          (first | exact ⟨HS0.out.1, HS0.out.2.drew⟩ | exact keepP (by assumption) hb2 (fun h => QInv.below h hb2))
          (first
            | (go_at_call_of 46 (Value.agg #[.bool s, .slice A n c]); refine (Ref.digit s A n c k xs _ (And.left (And.right (by assumption : (_ ∧ _ ∧ _ ∧ _) ∧ QInv w A n xs B m ys _))) (by omega) (by omega)).mono ?_; rintro e w2 ⟨rfl, hb2⟩)
            | (go_at_call_of 46 (Value.agg #[.bool t, .slice B m d]); refine (Ref.digit t B m d k ys _ (And.left (And.right (And.right (by assumption : (_ ∧ _ ∧ _ ∧ _) ∧ QInv w A n xs B m ys _)))) (by omega) (by omega)).mono ?_; rintro e w2 ⟨rfl, hb2⟩))
        obtain ⟨_, hP3⟩ : (w2.cell? ⟨w.heap.size, 0, none⟩ = some (.bool s) ∧ w2.cell? ⟨w.heap.size, 1, none⟩ = some (.slice A n c) ∧ w2.cell? ⟨w.heap.size + 1, 0, none⟩ = some (.bool t) ∧ w2.cell? ⟨w.heap.size + 1, 1, none⟩ = some (.slice B m d)) ∧ QInv w A n xs B m ys w2 := by assumption
        have HP3 := hid hP3
        have HLT := hid (cmpI_lt (larger_at DX.out DY.out (fun j hj => HV.out j (by omega)) h1))
        clear hP3 hb2
        go_wp2_with fail
        go_ret
        exact ⟨by rw [HLT.out]; rfl, HP3.out.2.2⟩
      · go_wp2_with fail
        go_region_held3 (fun w' => (w'.cell? ⟨w.heap.size, 0, none⟩ = some (.bool s) ∧ w'.cell? ⟨w.heap.size, 1, none⟩ = some (.slice A n c) ∧ w'.cell? ⟨w.heap.size + 1, 0, none⟩ = some (.bool t) ∧ w'.cell? ⟨w.heap.size + 1, 1, none⟩ = some (.slice B m d)) ∧ QInv w A n xs B m ys w')
          (first | exact ⟨HS0.out.1, HS0.out.2.drew⟩ | exact keepP (by assumption) hb2 (fun h => QInv.below h hb2))
          (first
            | (go_at_call_of 46 (Value.agg #[.bool s, .slice A n c]); refine (Ref.digit s A n c k xs _ (And.left (And.right (by assumption : (_ ∧ _ ∧ _ ∧ _) ∧ QInv w A n xs B m ys _))) (by omega) (by omega)).mono ?_; rintro e w2 ⟨rfl, hb2⟩)
            | (go_at_call_of 46 (Value.agg #[.bool t, .slice B m d]); refine (Ref.digit t B m d k ys _ (And.left (And.right (And.right (by assumption : (_ ∧ _ ∧ _ ∧ _) ∧ QInv w A n xs B m ys _)))) (by omega) (by omega)).mono ?_; rintro e w2 ⟨rfl, hb2⟩))
        have hS3 : (w2.cell? ⟨w.heap.size, 0, none⟩ = some (.bool s) ∧ w2.cell? ⟨w.heap.size, 1, none⟩ = some (.slice A n c) ∧ w2.cell? ⟨w.heap.size + 1, 0, none⟩ = some (.bool t) ∧ w2.cell? ⟨w.heap.size + 1, 1, none⟩ = some (.slice B m d)) ∧ QInv w A n xs B m ys w2 := by assumption
        have HS3 := hid hS3
        clear hS3 hb2
        by_cases h2 : dg ys k < dg xs k
        · go_wp2_with fail
          go_region_held3 (fun w' => (w'.cell? ⟨w.heap.size, 0, none⟩ = some (.bool s) ∧ w'.cell? ⟨w.heap.size, 1, none⟩ = some (.slice A n c) ∧ w'.cell? ⟨w.heap.size + 1, 0, none⟩ = some (.bool t) ∧ w'.cell? ⟨w.heap.size + 1, 1, none⟩ = some (.slice B m d)) ∧ QInv w A n xs B m ys w')
            (first | exact ⟨HS3.out.1, HS3.out.2.drew⟩ | exact keepP (by assumption) hb2 (fun h => QInv.below h hb2))
            (first
              | (go_at_call_of 46 (Value.agg #[.bool s, .slice A n c]); refine (Ref.digit s A n c k xs _ (And.left (And.right (by assumption : (_ ∧ _ ∧ _ ∧ _) ∧ QInv w A n xs B m ys _))) (by omega) (by omega)).mono ?_; rintro e w4 ⟨rfl, hb2⟩)
              | (go_at_call_of 46 (Value.agg #[.bool t, .slice B m d]); refine (Ref.digit t B m d k ys _ (And.left (And.right (And.right (by assumption : (_ ∧ _ ∧ _ ∧ _) ∧ QInv w A n xs B m ys _)))) (by omega) (by omega)).mono ?_; rintro e w4 ⟨rfl, hb2⟩))
          obtain ⟨_, hP3⟩ : (w4.cell? ⟨w.heap.size, 0, none⟩ = some (.bool s) ∧ w4.cell? ⟨w.heap.size, 1, none⟩ = some (.slice A n c) ∧ w4.cell? ⟨w.heap.size + 1, 0, none⟩ = some (.bool t) ∧ w4.cell? ⟨w.heap.size + 1, 1, none⟩ = some (.slice B m d)) ∧ QInv w A n xs B m ys w4 := by assumption
          have HP3 := hid hP3
          have HGT := hid (cmpI_gt (larger_at DY.out DX.out (fun j hj => (HV.out j (by omega)).symm) h2))
          clear hP3 hb2
          go_wp2_with fail
          go_ret
          exact ⟨by rw [HGT.out]; rfl, HP3.out.2.2⟩
        · have heq := hid (show dg xs k = dg ys k by omega)
          go_wp2_with fail
          go_region_held3 (fun w' => (w'.cell? ⟨w.heap.size, 0, none⟩ = some (.bool s) ∧ w'.cell? ⟨w.heap.size, 1, none⟩ = some (.slice A n c) ∧ w'.cell? ⟨w.heap.size + 1, 0, none⟩ = some (.bool t) ∧ w'.cell? ⟨w.heap.size + 1, 1, none⟩ = some (.slice B m d)) ∧ QInv w A n xs B m ys w')
            (first | exact ⟨HS3.out.1, HS3.out.2.drew⟩ | exact keepP (by assumption) hb2 (fun h => QInv.below h hb2))
            (first
              | (go_at_call_of 46 (Value.agg #[.bool s, .slice A n c]); refine (Ref.digit s A n c k xs _ (And.left (And.right (by assumption : (_ ∧ _ ∧ _ ∧ _) ∧ QInv w A n xs B m ys _))) (by omega) (by omega)).mono ?_; rintro e w4 ⟨rfl, hb2⟩)
              | (go_at_call_of 46 (Value.agg #[.bool t, .slice B m d]); refine (Ref.digit t B m d k ys _ (And.left (And.right (And.right (by assumption : (_ ∧ _ ∧ _ ∧ _) ∧ QInv w A n xs B m ys _)))) (by omega) (by omega)).mono ?_; rintro e w4 ⟨rfl, hb2⟩))
          have hS5 : (w4.cell? ⟨w.heap.size, 0, none⟩ = some (.bool s) ∧ w4.cell? ⟨w.heap.size, 1, none⟩ = some (.slice A n c) ∧ w4.cell? ⟨w.heap.size + 1, 0, none⟩ = some (.bool t) ∧ w4.cell? ⟨w.heap.size + 1, 1, none⟩ = some (.slice B m d)) ∧ QInv w A n xs B m ys w4 := by assumption
          have HS5 := hid hS5
          clear hS5 hb2
          go_wp2_with fail
          go_roundg k
          case measure => have := HG.out; omega
          case rel =>
            refine ⟨(k : Int) - 1, rfl, by omega, by omega, by omega, fun j hj => ?_, HS5.out.1, HS5.out.2⟩
            rcases Nat.lt_or_ge k j with h3 | h3
            · exact HV.out j (by omega)
            · obtain rfl : j = k := by omega
              exact heq.out

end Go.Proofs.YtjklcbbanlaicaaDoor

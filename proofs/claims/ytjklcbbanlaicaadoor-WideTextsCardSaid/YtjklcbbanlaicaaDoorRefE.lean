/- The contracts of the document's answer for layer 1, continued: differences of digits, which is larger. -/
import Derived.Test.YtjklcbbanlaicaaDoorRefD
namespace Go.Proofs.YtjklcbbanlaicaaDoor
open Go.RowKit

/-- The same, and the sign of the first one. -/
def PM (s : Bool) (w0 : World) (A : Option Addr) (n : Nat) (xs : List Int) (B : Option Addr) (m : Nat) (ys : List Int) (Ao : Option Addr) (no co : Nat) (zs : List Int) (w : World) : Prop :=
  w.cell? ⟨w0.heap.size, 0, none⟩ = some (.bool s) ∧ PInv w0 A n xs B m ys Ao no co zs w
theorem PM.below {s : Bool} {w0 : World} {A : Option Addr} {n : Nat} {xs : List Int} {B : Option Addr} {m : Nat} {ys : List Int} {Ao : Option Addr} {no co : Nat} {zs : List Int} {w w' : World}
    (h : PM s w0 A n xs B m ys Ao no co zs w) (hb : Below w.heap.size w w') : PM s w0 A n xs B m ys Ao no co zs w' := ⟨keep1 hb h.1, h.2.below hb⟩

set_option maxRecDepth 100000 in
set_option maxHeartbeats 4000000 in
theorem Ref.minus (s t : Bool) (A B : Option Addr) (n c m d : Nat) (xs ys : List Int) (w : World) (hx : Rd w A n xs) (hy : Rd w B m ys) (dx : Dg xs) (dy : Dg ys) (hmn : m ≤ n) (hle : val ys ≤ val xs) (hK : n ≤ 1000000) :
    Calls Tryd.prog 45 #[.agg #[.bool s, .slice A n c], .agg #[.bool t, .slice B m d]] w (SAns n (val xs - val ys) w) := by
  have HX := hid hx
  have HY := hid hy
  have DX := hid dx
  have DY := hid dy
  have HLE := hid hle
  clear hx hy dx dy hle
  go_enter Tryd.func45, Tryd.ntmps45
  go_wp2_with fail
  go_loopg [5, 6, 7] n (fun g o cr i wr => ∃ (k : Nat) (bw : Int) (Ao : Option Addr) (co : Nat) (zs : List Int), i = .int .i64 k ∧ cr = .int .i64 bw ∧ o = .slice Ao k co ∧ g = n - k ∧ k ≤ n ∧ 0 ≤ bw ∧ bw ≤ 1 ∧
      (val (xs.take k) - val (ys.take k) = val zs - 10000 ^ k * bw ∧ Dg zs) ∧
      (wr.cell? ⟨w.heap.size, 0, none⟩ = some (.bool s) ∧ wr.cell? ⟨w.heap.size, 1, none⟩ = some (.slice A n c) ∧ wr.cell? ⟨w.heap.size + 1, 0, none⟩ = some (.bool t) ∧ wr.cell? ⟨w.heap.size + 1, 1, none⟩ = some (.slice B m d)) ∧
      PInv w A n xs B m ys Ao k co zs wr)
  case atStart =>
    exact ⟨0, 0, none, 0, [], rfl, rfl, rfl, rfl, by omega, by decide, by decide, ⟨by simp [val], Dg.nil⟩, ⟨by simp [go_sem], by simp [go_sem], by simp [go_sem], by simp [go_sem]⟩, ⟨(HX.out.alloc _).alloc _, (HY.out.alloc _).alloc _, Own.nil _ _, ((Below.refl _ _).alloc (Nat.le_refl _) _).alloc (by simp) _⟩⟩
  case round =>
    obtain ⟨k, bw, Ao, co, zs, rfl, rfl, rfl, hg, hk, c0, c1, hv, hS, hp⟩ := hrel
    have HG := hid hg
    have HV := hid hv
    have HP := hid hp
    have HC := hid hS
    obtain ⟨x0, x1, y0, y1⟩ := hS
    clear hg hv hp
    have hlen := HP.out.2.2.1.len
    by_cases hend : n ≤ k
    · have f1 : ¬ (k : Int) < (n : Int) := by omega
      go_wp2_with fail
      go_ret
      obtain rfl : k = n := by omega
      exact ⟨Ao, k, co, zs, rfl, ⟨HP.out.2.2.1.rd, Nat.le_refl _, HP.out.2.2.1.cap, HV.out.2, minus_end (by have := HX.out.1; omega) (by have := HY.out.1; omega) hlen HV.out.2 HV.out.1 (by omega) HLE.out⟩, HP.out.2.2.2⟩
    · have h1 : (k : Int) < (n : Int) := by omega
      have hk0 : (0 : Int) ≤ (k : Int) := by omega
      obtain ⟨b, off, rfl, hcell⟩ := HP.out.1.2 (by omega)
      have hcd : wr.cell? ⟨b, off + k, none⟩ = some (.int .i64 (dg xs k)) := hcell k (by omega)
      have HCD := hid hcd
      clear hcell hend
      obtain ⟨b0, b1⟩ := DX.out.dg k
      obtain ⟨b2, b3⟩ := DY.out.dg k
      have e1 : IntKind.i64.wrap (dg xs k - dg ys k) = dg xs k - dg ys k := by rw [IntKind.wrap_i64]; omega
      have e2 : IntKind.i64.wrap (dg xs k - dg ys k - bw) = dg xs k - dg ys k - bw := by rw [IntKind.wrap_i64]; omega
      have HS0 := hid (show (wr.cell? ⟨w.heap.size, 1, none⟩ = some (.slice (some ⟨b, off, none⟩) n c) ∧ wr.cell? ⟨b, off + k, none⟩ = some (.int .i64 (dg xs k)) ∧ wr.cell? ⟨w.heap.size + 1, 0, none⟩ = some (.bool t) ∧ wr.cell? ⟨w.heap.size + 1, 1, none⟩ = some (.slice B m d)) ∧ PM s w (some ⟨b, off, none⟩) n xs B m ys Ao k co zs wr from ⟨⟨HC.out.2.1, hcd, HC.out.2.2.1, HC.out.2.2.2⟩, HC.out.1, HP.out⟩)
      go_wp2_with fail
      go_region_held3 (fun w' => (w'.cell? ⟨w.heap.size, 1, none⟩ = some (.slice (some ⟨b, off, none⟩) n c) ∧ w'.cell? ⟨b, off + k, none⟩ = some (.int .i64 (dg xs k)) ∧ w'.cell? ⟨w.heap.size + 1, 0, none⟩ = some (.bool t) ∧ w'.cell? ⟨w.heap.size + 1, 1, none⟩ = some (.slice B m d)) ∧ PM s w (some ⟨b, off, none⟩) n xs B m ys Ao k co zs w')
        (first | exact ⟨HS0.out.1, HS0.out.2.1, HS0.out.2.2.drew⟩ | exact keepP (by assumption) hb2 (fun h => PM.below h hb2))
        (first
          | (go_at_call_of 46 (Value.agg #[.bool t, .slice B m d]); refine (Ref.digit t B m d k ys _ (And.left (And.right (And.right (And.right (by assumption : (_ ∧ _ ∧ _ ∧ _) ∧ PM s w (some ⟨b, off, none⟩) n xs B m ys Ao k co zs _))))) (by omega) (by omega)).mono ?_; rintro e w2 ⟨rfl, hb2⟩))
      obtain ⟨⟨x1, xd, y0, y1⟩, x0, hP3⟩ : (w2.cell? ⟨w.heap.size, 1, none⟩ = some (.slice (some ⟨b, off, none⟩) n c) ∧ w2.cell? ⟨b, off + k, none⟩ = some (.int .i64 (dg xs k)) ∧ w2.cell? ⟨w.heap.size + 1, 0, none⟩ = some (.bool t) ∧ w2.cell? ⟨w.heap.size + 1, 1, none⟩ = some (.slice B m d)) ∧ PM s w (some ⟨b, off, none⟩) n xs B m ys Ao k co zs w2 := by assumption
      have HP3 := hid hP3
      have hsz : w.heap.size + 1 < w2.heap.size := World.block_lt_of_cell? w2 _ y0
      clear hP3 hb2 e1 e2
      by_cases hneg : dg xs k - dg ys k - bw < 0
      · go_wp2_with (first | (at_builtin; refine wpList_append_int _ rfl (.tmp 31) (.tmp 33) rfl (w.heap.size + 2) Ao k co zs rfl (HP3.out.2.2.1.alloc _) w2.heap.size (dg xs k - dg ys k - bw + 10000) rfl (by simp) (by omega) (by simp; omega) ?_; intro A' c' w3 hown hgrow; have HO := hid hown; have HGR := hid hgrow; clear hown hgrow))
        go_roundg (n - (k + 1))
        case measure => have := HG.out; omega
        case rel =>
          have hrow : ∀ g, g < w.heap.size + 2 → some g ≠ (Value.slice Ao k co).ownBlock := fun g hg => HP3.out.2.2.1.row hg
          have hbel : Below w.heap.size w w3 := (HP3.out.2.2.2.alloc HP3.out.2.2.2.size _).grown HGR.out (by have := HP3.out.2.2.2.size; simp; omega) (fun g hg => by have := HP3.out.2.2.1.rowGe g hg; omega)
          exact ⟨k + 1, 1, A', c', zs ++ [dg xs k - dg ys k - bw + 10000], by go_num, rfl, rfl, rfl, by omega, by decide, by decide, ⟨minus_step hlen HV.out.1 _ _ (by omega), HV.out.2.append (Dg.one (by omega) (by omega))⟩,
            ⟨far1 x0 HGR.out (hrow _ (by omega)), far1 x1 HGR.out (hrow _ (by omega)), far1 y0 HGR.out (hrow _ (by omega)), far1 y1 HGR.out (hrow _ (by omega))⟩, HX.out.below hbel, HY.out.below hbel, HO.out, hbel⟩
      · go_wp2_with (first | (at_builtin; refine wpList_append_int _ rfl (.tmp 31) (.tmp 33) rfl (w.heap.size + 2) Ao k co zs rfl (HP3.out.2.2.1.alloc _) w2.heap.size (dg xs k - dg ys k - bw) rfl (by simp) (by omega) (by simp; omega) ?_; intro A' c' w3 hown hgrow; have HO := hid hown; have HGR := hid hgrow; clear hown hgrow))
        go_roundg (n - (k + 1))
        case measure => have := HG.out; omega
        case rel =>
          have hrow : ∀ g, g < w.heap.size + 2 → some g ≠ (Value.slice Ao k co).ownBlock := fun g hg => HP3.out.2.2.1.row hg
          have hbel : Below w.heap.size w w3 := (HP3.out.2.2.2.alloc HP3.out.2.2.2.size _).grown HGR.out (by have := HP3.out.2.2.2.size; simp; omega) (fun g hg => by have := HP3.out.2.2.1.rowGe g hg; omega)
          exact ⟨k + 1, 0, A', c', zs ++ [dg xs k - dg ys k - bw], by go_num, rfl, rfl, rfl, by omega, by decide, by decide, ⟨minus_step hlen HV.out.1 _ _ (by omega), HV.out.2.append (Dg.one (by omega) (by omega))⟩,
            ⟨far1 x0 HGR.out (hrow _ (by omega)), far1 x1 HGR.out (hrow _ (by omega)), far1 y0 HGR.out (hrow _ (by omega)), far1 y1 HGR.out (hrow _ (by omega))⟩, HX.out.below hbel, HY.out.below hbel, HO.out, hbel⟩

end Go.Proofs.YtjklcbbanlaicaaDoor

/- The contracts of the document's answer for layer 1, continued: sums, differences, which is larger, of digits. -/
import Derived.Test.YtjklcbbanlaicaaDoorDig
import Derived.Test.YtjklcbbanlaicaaDoorRefC
import Derived.Deep.RegionHeld3
import Derived.Deep.RegionWith
namespace Go.Proofs.YtjklcbbanlaicaaDoor
open Go.RowKit

theorem Own.below {w w' : World} {base : Nat} {A : Option Addr} {n c : Nat} {zs : List Int} (h : Own w base A n c zs) (hb : Below w.heap.size w w') : Own w' base A n c zs := by
  obtain ⟨h1, h2⟩ := h
  refine ⟨h1, ?_⟩
  rcases h2 with h2 | ⟨g, cap, cur, hv, hg, hh, r⟩
  · exact .inl h2
  · refine .inr ⟨g, cap, cur, hv, hg, ?_, r⟩
    rw [hb.block g ?_]
    · exact hh
    · rcases Nat.lt_or_ge g w.heap.size with h1 | h1
      · exact h1
      · rw [Array.getElem?_eq_none h1] at hh; cases hh
theorem Own.drew {w : World} {base : Nat} {A : Option Addr} {n c : Nat} {zs : List Int} (h : Own w base A n c zs) : Own w.drew base A n c zs := h

/-- What stands in memory while two Bigs are gone through, digit by digit. -/
def PInv (w0 : World) (A : Option Addr) (n : Nat) (xs : List Int) (B : Option Addr) (m : Nat) (ys : List Int) (Ao : Option Addr) (no co : Nat) (zs : List Int) (w : World) : Prop :=
  Rd w A n xs ∧ Rd w B m ys ∧ Own w (w0.heap.size + 2) Ao no co zs ∧ Below w0.heap.size w0 w
theorem PInv.below {w0 : World} {A : Option Addr} {n : Nat} {xs : List Int} {B : Option Addr} {m : Nat} {ys : List Int} {Ao : Option Addr} {no co : Nat} {zs : List Int} {w w' : World}
    (h : PInv w0 A n xs B m ys Ao no co zs w) (hb : Below w.heap.size w w') : PInv w0 A n xs B m ys Ao no co zs w' :=
  ⟨h.1.below hb, h.2.1.below hb, h.2.2.1.below hb, h.2.2.2.trans (hb.mono h.2.2.2.size)⟩
theorem PInv.drew {w0 : World} {A : Option Addr} {n : Nat} {xs : List Int} {B : Option Addr} {m : Nat} {ys : List Int} {Ao : Option Addr} {no co : Nat} {zs : List Int} {w : World}
    (h : PInv w0 A n xs B m ys Ao no co zs w) : PInv w0 A n xs B m ys Ao no co zs w.drew := ⟨h.1, h.2.1, h.2.2.1, h.2.2.2.drew⟩
theorem keepP {w w' : World} {Q : World → Prop} {b0 o0 b1 o1 b2 o2 b3 o3 : Nat} {v0 v1 v2 v3 : Value}
    (h : (w.cell? ⟨b0, o0, none⟩ = some v0 ∧ w.cell? ⟨b1, o1, none⟩ = some v1 ∧ w.cell? ⟨b2, o2, none⟩ = some v2 ∧ w.cell? ⟨b3, o3, none⟩ = some v3) ∧ Q w) (hb : Below w.heap.size w w') (hq : Q w → Q w') :
    (w'.cell? ⟨b0, o0, none⟩ = some v0 ∧ w'.cell? ⟨b1, o1, none⟩ = some v1 ∧ w'.cell? ⟨b2, o2, none⟩ = some v2 ∧ w'.cell? ⟨b3, o3, none⟩ = some v3) ∧ Q w' := ⟨keep4 h.1 hb, hq h.2⟩

/-- What a call that answers digits leaves. -/
def SAns (M : Nat) (v : Int) (w : World) (e : Ending) (w' : World) : Prop :=
  ∃ (A : Option Addr) (n c : Nat) (zs : List Int), e = .returned (.slice A n c) ∧ (Rd w' A n zs ∧ n ≤ M ∧ n ≤ c ∧ Dg zs ∧ val zs = v) ∧ Below w.heap.size w w'

set_option maxRecDepth 100000 in
set_option maxHeartbeats 4000000 in
theorem Ref.plus (s t : Bool) (A B : Option Addr) (n c m d : Nat) (xs ys : List Int) (w : World) (hx : Rd w A n xs) (hy : Rd w B m ys) (dx : Dg xs) (dy : Dg ys) (K : Nat) (hn : n ≤ K) (hm : m ≤ K) (hK : K ≤ 1000000) :
    Calls Tryd.prog 43 #[.agg #[.bool s, .slice A n c], .agg #[.bool t, .slice B m d]] w (SAns (K + 1) (val xs + val ys) w) := by
  have HX := hid hx
  have HY := hid hy
  have DX := hid dx
  have DY := hid dy
  clear hx hy dx dy
  go_enter Tryd.func43, Tryd.ntmps43
  go_wp2_with fail
  go_loopg [5, 6, 7] (K + 1) (fun g o cr i wr => ∃ (k : Nat) (cy : Int) (Ao : Option Addr) (co : Nat) (zs : List Int), i = .int .i64 k ∧ cr = .int .i64 cy ∧ o = .slice Ao k co ∧ g = K + 1 - k ∧ k ≤ K + 1 ∧ 0 ≤ cy ∧ cy ≤ 1 ∧
      (val (xs.take k) + val (ys.take k) = val zs + 10000 ^ k * cy ∧ Dg zs ∧ (k = K + 1 → cy = 0)) ∧
      (wr.cell? ⟨w.heap.size, 0, none⟩ = some (.bool s) ∧ wr.cell? ⟨w.heap.size, 1, none⟩ = some (.slice A n c) ∧ wr.cell? ⟨w.heap.size + 1, 0, none⟩ = some (.bool t) ∧ wr.cell? ⟨w.heap.size + 1, 1, none⟩ = some (.slice B m d)) ∧
      PInv w A n xs B m ys Ao k co zs wr)
  case atStart =>
    exact ⟨0, 0, none, 0, [], rfl, rfl, rfl, rfl, by omega, by decide, by decide, ⟨by simp [val], Dg.nil, fun _ => rfl⟩, ⟨by simp [go_sem], by simp [go_sem], by simp [go_sem], by simp [go_sem]⟩, ⟨(HX.out.alloc _).alloc _, (HY.out.alloc _).alloc _, Own.nil _ _, ((Below.refl _ _).alloc (Nat.le_refl _) _).alloc (by simp) _⟩⟩
  case round =>
    obtain ⟨k, cy, Ao, co, zs, rfl, rfl, rfl, hg, hk, c0, c1, hv, hS, hp⟩ := hrel
    have HG := hid hg
    have HV := hid hv
    have HP := hid hp
    have HC := hid hS
    obtain ⟨x0, x1, y0, y1⟩ := hS
    clear hg hv hp
    have hlen := HP.out.2.2.1.len
    by_cases hend : n ≤ k ∧ m ≤ k ∧ cy = 0
    · obtain ⟨e1, e2, rfl⟩ := hend
      have f1 : ¬ (k : Int) < (n : Int) := by omega
      have f2 : ¬ (k : Int) < (m : Int) := by omega
      go_wp2_with fail
      go_ret
      refine ⟨Ao, k, co, zs, rfl, ⟨HP.out.2.2.1.rd, hk, HP.out.2.2.1.cap, HV.out.2.1, ?_⟩, HP.out.2.2.2⟩
      have h1 := HV.out.1
      rw [val_take_all xs (by have := HX.out.1; omega), val_take_all ys (by have := HY.out.1; omega)] at h1
      omega
    · have hkK : k ≤ K := by have := HV.out.2.2; omega
      have hcond : (k : Int) < (n : Int) ∨ (¬ (k : Int) < (n : Int) ∧ (k : Int) < (m : Int)) ∨ (¬ (k : Int) < (n : Int) ∧ ¬ (k : Int) < (m : Int) ∧ 0 < cy) := by omega
      clear hend
      obtain ⟨b0, b1⟩ := DX.out.dg k
      obtain ⟨b2, b3⟩ := DY.out.dg k
      have e1 : IntKind.i64.wrap (dg xs k + dg ys k) = dg xs k + dg ys k := by rw [IntKind.wrap_i64]; omega
      have e2 : IntKind.i64.wrap (dg xs k + dg ys k + cy) = dg xs k + dg ys k + cy := by rw [IntKind.wrap_i64]; omega
      have hS0 : (wr.cell? ⟨w.heap.size, 0, none⟩ = some (.bool s) ∧ wr.cell? ⟨w.heap.size, 1, none⟩ = some (.slice A n c) ∧ wr.cell? ⟨w.heap.size + 1, 0, none⟩ = some (.bool t) ∧ wr.cell? ⟨w.heap.size + 1, 1, none⟩ = some (.slice B m d)) ∧ PInv w A n xs B m ys Ao k co zs wr := ⟨HC.out, HP.out⟩
      have HS0 := hid hS0
      clear hS0
      rcases hcond with h1 | ⟨h1, h2⟩ | ⟨h1, h2, h3⟩
      all_goals
        go_wp2_with fail
        go_region_held3 (fun w' => (w'.cell? ⟨w.heap.size, 0, none⟩ = some (.bool s) ∧ w'.cell? ⟨w.heap.size, 1, none⟩ = some (.slice A n c) ∧ w'.cell? ⟨w.heap.size + 1, 0, none⟩ = some (.bool t) ∧ w'.cell? ⟨w.heap.size + 1, 1, none⟩ = some (.slice B m d)) ∧ PInv w A n xs B m ys Ao k co zs w')
          (first | exact ⟨HS0.out.1, HS0.out.2.drew⟩ | exact keepP (by assumption) hb2 (fun h => PInv.below h hb2))
          (first
            | (go_at_call_of 46 (Value.agg #[.bool s, .slice A n c]); refine (Ref.digit s A n c k xs _ (And.left (And.right (by assumption : (_ ∧ _ ∧ _ ∧ _) ∧ PInv w A n xs B m ys Ao k co zs _))) (by omega) (by omega)).mono ?_; rintro e w2 ⟨rfl, hb2⟩)
            | (go_at_call_of 46 (Value.agg #[.bool t, .slice B m d]); refine (Ref.digit t B m d k ys _ (And.left (And.right (And.right (by assumption : (_ ∧ _ ∧ _ ∧ _) ∧ PInv w A n xs B m ys Ao k co zs _)))) (by omega) (by omega)).mono ?_; rintro e w2 ⟨rfl, hb2⟩))
        obtain ⟨⟨x0, x1, y0, y1⟩, hP3⟩ : (w2.cell? ⟨w.heap.size, 0, none⟩ = some (.bool s) ∧ w2.cell? ⟨w.heap.size, 1, none⟩ = some (.slice A n c) ∧ w2.cell? ⟨w.heap.size + 1, 0, none⟩ = some (.bool t) ∧ w2.cell? ⟨w.heap.size + 1, 1, none⟩ = some (.slice B m d)) ∧ PInv w A n xs B m ys Ao k co zs w2 := by assumption
        have HP3 := hid hP3
        have hsz : w.heap.size + 1 < w2.heap.size := World.block_lt_of_cell? w2 _ y0
        have s0 : 0 ≤ dg xs k + dg ys k + cy := by omega
        have s1 : dg xs k + dg ys k + cy ≤ 19999 := by omega
        clear hP3 hb2 e1 e2
        go_wp2_with (first | (at_builtin; refine wpList_append_int _ rfl (.tmp 36) (.tmp 39) rfl (w.heap.size + 2) Ao k co zs rfl (HP3.out.2.2.1.alloc _) w2.heap.size ((dg xs k + dg ys k + cy) % 10000) rfl (by simp) (by omega) (by simp; omega) ?_; intro A' c' w3 hown hgrow; have HO := hid hown; have HGR := hid hgrow; clear hown hgrow))
        go_roundg (K + 1 - (k + 1))
        case measure => have := HG.out; omega
        case rel =>
          have hrow : ∀ g, g < w.heap.size + 2 → some g ≠ (Value.slice Ao k co).ownBlock := fun g hg => HP3.out.2.2.1.row hg
          have hbel : Below w.heap.size w w3 := (HP3.out.2.2.2.alloc HP3.out.2.2.2.size _).grown HGR.out (by have := HP3.out.2.2.2.size; simp; omega) (fun g hg => by have := HP3.out.2.2.1.rowGe g hg; omega)
          refine ⟨k + 1, (dg xs k + dg ys k + cy) / 10000, A', c', zs ++ [(dg xs k + dg ys k + cy) % 10000], by go_num, rfl, rfl, rfl, by omega, by omega, by omega, ⟨plus_step hlen HV.out.1, HV.out.2.1.append (Dg.one (by omega) (by omega)), ?_⟩,
            ⟨far1 x0 HGR.out (hrow _ (by omega)), far1 x1 HGR.out (hrow _ (by omega)), far1 y0 HGR.out (hrow _ (by omega)), far1 y1 HGR.out (hrow _ (by omega))⟩, HX.out.below hbel, HY.out.below hbel, HO.out, hbel⟩
          intro hk1
          have a1 : dg xs k = 0 := dg_ge (by have := HX.out.1; omega)
          have a2 : dg ys k = 0 := dg_ge (by have := HY.out.1; omega)
          omega

end Go.Proofs.YtjklcbbanlaicaaDoor

/- Texts of DtreePlays's proof, together. -/
import Derived.Test.YtbcepkfdlaioaaaGreatDtreePlaysZ17
import Derived.Test.YtbcepkfdlaioaaaGreatRefC
import Derived.Deep.RegionHeld3
import Derived.Deep.RegionWith
import Derived.Laws.OwnMore
namespace Go.Proofs.YtbcepkfdlaioaaaGreat

section
open Go.RowKit
theorem Own.below {w w' : World} {base : Nat} {A : Option Addr} {n c : Nat} {zs : List Int} (h : Own w base A n c zs) (hb : Below w.heap.size w w') : Own w' base A n c zs := by
 obtain ⟨h1, h2⟩ := h
 refine ⟨h1, ?_⟩
 rcases h2 with h2 | ⟨g, cap, cur, hv, hg, hh, r⟩
 ·exact .inl h2
 ·refine .inr ⟨g, cap, cur, hv, hg, ?_, r⟩
  rw [hb.block g ?_]
  ·exact hh
  ·rcases Nat.lt_or_ge g w.heap.size with h1 | h1
   ·exact h1
   ·rw [Array.getElem?_eq_none h1] at hh; cases hh
def PInv (w0 : World) (A : Option Addr) (n : Nat) (xs : List Int) (B : Option Addr) (m : Nat) (ys : List Int) (Ao : Option Addr) (no co : Nat) (zs : List Int) (w : World) : Prop :=
 Rd w A n xs ∧ Rd w B m ys ∧ Own w (w0.heap.size + 2) Ao no co zs ∧ Below w0.heap.size w0 w
theorem PInv.below {w0 : World} {A : Option Addr} {n : Nat} {xs : List Int} {B : Option Addr} {m : Nat} {ys : List Int} {Ao : Option Addr} {no co : Nat} {zs : List Int} {w w' : World}
  (h : PInv w0 A n xs B m ys Ao no co zs w) (hb : Below w.heap.size w w') : PInv w0 A n xs B m ys Ao no co zs w' :=
 ⟨h.1.below hb, h.2.1.below hb, h.2.2.1.below hb, h.2.2.2.trans (hb.mono h.2.2.2.size)⟩
theorem PInv.drew {w0 : World} {A : Option Addr} {n : Nat} {xs : List Int} {B : Option Addr} {m : Nat} {ys : List Int} {Ao : Option Addr} {no co : Nat} {zs : List Int} {w : World}
  (h : PInv w0 A n xs B m ys Ao no co zs w) : PInv w0 A n xs B m ys Ao no co zs w.drew := ⟨h.1, h.2.1, h.2.2.1, h.2.2.2.drew⟩
theorem keepP {w w' : World} {Q : World → Prop} {b0 o0 b1 o1 b2 o2 b3 o3 : Nat} {v0 v1 v2 v3 : Value}
  (h : (w.cell? ⟨b0, o0, none⟩ = some v0 ∧ w.cell? ⟨b1, o1, none⟩ = some v1 ∧ w.cell? ⟨b2, o2, none⟩ = some v2 ∧ w.cell? ⟨b3, o3, none⟩ = some v3) ∧ Q w) (hb : Below w.heap.size w w') (hq : Q w → Q w') :
  (w'.cell? ⟨b0, o0, none⟩ = some v0 ∧ w'.cell? ⟨b1, o1, none⟩ = some v1 ∧ w'.cell? ⟨b2, o2, none⟩ = some v2 ∧ w'.cell? ⟨b3, o3, none⟩ = some v3) ∧ Q w' := ⟨keep4 h.1 hb, hq h.2⟩
def SAns (M : Nat) (v : Int) (w : World) (e : Ending) (w' : World) : Prop :=
 ∃ (A : Option Addr) (n c : Nat) (zs : List Int), e = .returned (.slice A n c) ∧ (Rd w' A n zs ∧ n ≤ M ∧ n ≤ c ∧ Dg zs ∧ val zs = v) ∧ Below w.heap.size w w'
set_option maxRecDepth 100000 in
set_option maxHeartbeats 4000000 in
theorem Ref.plus (s t : Bool) (A B : Option Addr) (n c m d : Nat) (xs ys : List Int) (w : World) (hx : Rd w A n xs) (hy : Rd w B m ys) (dx : Dg xs) (dy : Dg ys) (K : Nat) (hn : n ≤ K) (hm : m ≤ K) (hK : K ≤ 1000000) :
  Calls Tryz.prog 102 #[.agg #[.bool s, .slice A n c], .agg #[.bool t, .slice B m d]] w (SAns (K + 1) (val xs + val ys) w) := by
 have HX := hid hx
 have HY := hid hy
 have DX := hid dx
 have DY := hid dy
 clear hx hy dx dy
 go_enter Tryz.func102, Tryz.ntmps102
 go_wp2_with fail
 go_loopg [5, 6, 7] (K + 1) (fun g o cr i wr => ∃ (k : Nat) (cy : Int) (Ao : Option Addr) (co : Nat) (zs : List Int), i = .int .i64 k ∧ cr = .int .i64 cy ∧ o = .slice Ao k co ∧ g = K + 1 - k ∧ k ≤ K + 1 ∧ 0 ≤ cy ∧ cy ≤ 1 ∧
   (val (xs.take k) + val (ys.take k) = val zs + 10000 ^ k * cy ∧ Dg zs ∧ (k = K + 1 → cy = 0)) ∧
   (wr.cell? ⟨w.heap.size, 0, none⟩ = some (.bool s) ∧ wr.cell? ⟨w.heap.size, 1, none⟩ = some (.slice A n c) ∧ wr.cell? ⟨w.heap.size + 1, 0, none⟩ = some (.bool t) ∧ wr.cell? ⟨w.heap.size + 1, 1, none⟩ = some (.slice B m d)) ∧
   PInv w A n xs B m ys Ao k co zs wr)
 case atStart =>
  exact ⟨0, 0, none, 0, [], rfl, rfl, rfl, rfl, by omega, by decide, by decide, ⟨by simp [val], Dg.nil, fun _ => rfl⟩, ⟨by simp [go_sem], by simp [go_sem], by simp [go_sem], by simp [go_sem]⟩, ⟨(HX.out.alloc _).alloc _, (HY.out.alloc _).alloc _, Own.nil _ _, ((Below.refl _ _).alloc (Nat.le_refl _) _).alloc (by simp) _⟩⟩
 case round =>
  obtain ⟨k, cy, Ao, co, zs, rfl, rfl, rfl, hg, hk, c0, c1, hv, hS, hp⟩ := hrel
  have HG := hid hg
  have HV := hid hv
  have HP := hid hp
  have HC := hid hS
  obtain ⟨x0, x1, y0, y1⟩ := hS
  clear hg hv hp
  have hlen := HP.out.2.2.1.len
  by_cases hend : n ≤ k ∧ m ≤ k ∧ cy = 0
  ·obtain ⟨e1, e2, rfl⟩ := hend
   have f1 : ¬ (k : Int) < (n : Int) := by omega
   have f2 : ¬ (k : Int) < (m : Int) := by omega
   go_wp2_with fail
   go_ret
   refine ⟨Ao, k, co, zs, rfl, ⟨HP.out.2.2.1.rd, hk, HP.out.2.2.1.cap, HV.out.2.1, ?_⟩, HP.out.2.2.2⟩
   have h1 := HV.out.1
   rw [val_take_all xs (by have := HX.out.1; omega), val_take_all ys (by have := HY.out.1; omega)] at h1
   omega
  ·have hkK : k ≤ K := by have := HV.out.2.2; omega
   have hcond : (k : Int) < (n : Int) ∨ (¬ (k : Int) < (n : Int) ∧ (k : Int) < (m : Int)) ∨ (¬ (k : Int) < (n : Int) ∧ ¬ (k : Int) < (m : Int) ∧ 0 < cy) := by omega
   clear hend
   obtain ⟨b0, b1⟩ := DX.out.dg k
   obtain ⟨b2, b3⟩ := DY.out.dg k
   have e1 : IntKind.i64.wrap (dg xs k + dg ys k) = dg xs k + dg ys k := by rw [IntKind.wrap_i64]; omega
   have e2 : IntKind.i64.wrap (dg xs k + dg ys k + cy) = dg xs k + dg ys k + cy := by rw [IntKind.wrap_i64]; omega
   have hS0 : (wr.cell? ⟨w.heap.size, 0, none⟩ = some (.bool s) ∧ wr.cell? ⟨w.heap.size, 1, none⟩ = some (.slice A n c) ∧ wr.cell? ⟨w.heap.size + 1, 0, none⟩ = some (.bool t) ∧ wr.cell? ⟨w.heap.size + 1, 1, none⟩ = some (.slice B m d)) ∧ PInv w A n xs B m ys Ao k co zs wr := ⟨HC.out, HP.out⟩
   have HS0 := hid hS0
   clear hS0
   rcases hcond with h1 | ⟨h1, h2⟩ | ⟨h1, h2, h3⟩
   all_goals
    go_wp2_with fail
    go_region_held3 (fun w' => (w'.cell? ⟨w.heap.size, 0, none⟩ = some (.bool s) ∧ w'.cell? ⟨w.heap.size, 1, none⟩ = some (.slice A n c) ∧ w'.cell? ⟨w.heap.size + 1, 0, none⟩ = some (.bool t) ∧ w'.cell? ⟨w.heap.size + 1, 1, none⟩ = some (.slice B m d)) ∧ PInv w A n xs B m ys Ao k co zs w')
     (first | exact ⟨HS0.out.1, HS0.out.2.drew⟩ | exact keepP (by assumption) hb2 (fun h => PInv.below h hb2))
     (first
      | (go_at_call_of 94 (Value.agg #[.bool s, .slice A n c]); refine (Ref.digit s A n c k xs _ (And.left (And.right (by assumption : (_ ∧ _ ∧ _ ∧ _) ∧ PInv w A n xs B m ys Ao k co zs _))) (by omega) (by omega)).mono ?_; rintro e w2 ⟨rfl, hb2⟩)
      | (go_at_call_of 94 (Value.agg #[.bool t, .slice B m d]); refine (Ref.digit t B m d k ys _ (And.left (And.right (And.right (by assumption : (_ ∧ _ ∧ _ ∧ _) ∧ PInv w A n xs B m ys Ao k co zs _)))) (by omega) (by omega)).mono ?_; rintro e w2 ⟨rfl, hb2⟩))
    obtain ⟨⟨x0, x1, y0, y1⟩, hP3⟩ : (w2.cell? ⟨w.heap.size, 0, none⟩ = some (.bool s) ∧ w2.cell? ⟨w.heap.size, 1, none⟩ = some (.slice A n c) ∧ w2.cell? ⟨w.heap.size + 1, 0, none⟩ = some (.bool t) ∧ w2.cell? ⟨w.heap.size + 1, 1, none⟩ = some (.slice B m d)) ∧ PInv w A n xs B m ys Ao k co zs w2 := by assumption
    have HP3 := hid hP3
    have hsz : w.heap.size + 1 < w2.heap.size := World.block_lt_of_cell? w2 _ y0
    have s0 : 0 ≤ dg xs k + dg ys k + cy := by omega
    have s1 : dg xs k + dg ys k + cy ≤ 19999 := by omega
    clear hP3 hb2 e1 e2
    go_wp2_with (first | (at_builtin; refine wpList_append_int _ rfl (.tmp 36) (.tmp 39) rfl (w.heap.size + 2) Ao k co zs rfl (HP3.out.2.2.1.alloc _) w2.heap.size ((dg xs k + dg ys k + cy) % 10000) rfl (by simp) (by omega) (by simp; omega) ?_; intro A' c' w3 hown hgrow; have HO := hid hown; have HGR := hid hgrow; clear hown hgrow))
    go_roundg (K + 1 - (k + 1))
    case measure => have := HG.out; omega
    case rel =>
     have hrow : ∀ g, g < w.heap.size + 2 → some g ≠ (Value.slice Ao k co).ownBlock := fun g hg => HP3.out.2.2.1.row hg
     have hbel : Below w.heap.size w w3 := (HP3.out.2.2.2.alloc HP3.out.2.2.2.size _).grown HGR.out (by have := HP3.out.2.2.2.size; simp; omega) (fun g hg => by have := HP3.out.2.2.1.rowGe g hg; omega)
     refine ⟨k + 1, (dg xs k + dg ys k + cy) / 10000, A', c', zs ++ [(dg xs k + dg ys k + cy) % 10000], by go_num, rfl, rfl, rfl, by omega, by omega, by omega, ⟨plus_step hlen HV.out.1, HV.out.2.1.append (Dg.one (by omega) (by omega)), ?_⟩,
      ⟨far1 x0 HGR.out (hrow _ (by omega)), far1 x1 HGR.out (hrow _ (by omega)), far1 y0 HGR.out (hrow _ (by omega)), far1 y1 HGR.out (hrow _ (by omega))⟩, HX.out.below hbel, HY.out.below hbel, HO.out, hbel⟩
     intro hk1
     have a1 : dg xs k = 0 := dg_ge (by have := HX.out.1; omega)
     have a2 : dg ys k = 0 := dg_ge (by have := HY.out.1; omega)
     omega
end


section
open Go.RowKit
def PM (s : Bool) (w0 : World) (A : Option Addr) (n : Nat) (xs : List Int) (B : Option Addr) (m : Nat) (ys : List Int) (Ao : Option Addr) (no co : Nat) (zs : List Int) (w : World) : Prop :=
 w.cell? ⟨w0.heap.size, 0, none⟩ = some (.bool s) ∧ PInv w0 A n xs B m ys Ao no co zs w
theorem PM.below {s : Bool} {w0 : World} {A : Option Addr} {n : Nat} {xs : List Int} {B : Option Addr} {m : Nat} {ys : List Int} {Ao : Option Addr} {no co : Nat} {zs : List Int} {w w' : World}
  (h : PM s w0 A n xs B m ys Ao no co zs w) (hb : Below w.heap.size w w') : PM s w0 A n xs B m ys Ao no co zs w' := ⟨keep1 hb h.1, h.2.below hb⟩
set_option maxRecDepth 100000 in
set_option maxHeartbeats 4000000 in
theorem Ref.minus (s t : Bool) (A B : Option Addr) (n c m d : Nat) (xs ys : List Int) (w : World) (hx : Rd w A n xs) (hy : Rd w B m ys) (dx : Dg xs) (dy : Dg ys) (hmn : m ≤ n) (hle : val ys ≤ val xs) (hK : n ≤ 1000000) :
  Calls Tryz.prog 104 #[.agg #[.bool s, .slice A n c], .agg #[.bool t, .slice B m d]] w (SAns n (val xs - val ys) w) := by
 have HX := hid hx
 have HY := hid hy
 have DX := hid dx
 have DY := hid dy
 have HLE := hid hle
 clear hx hy dx dy hle
 go_enter Tryz.func104, Tryz.ntmps104
 go_wp2_with fail
 go_loopg [5, 6, 7] n (fun g o cr i wr => ∃ (k : Nat) (bw : Int) (Ao : Option Addr) (co : Nat) (zs : List Int), i = .int .i64 k ∧ cr = .int .i64 bw ∧ o = .slice Ao k co ∧ g = n - k ∧ k ≤ n ∧ 0 ≤ bw ∧ bw ≤ 1 ∧
   (val (xs.take k) - val (ys.take k) = val zs - 10000 ^ k * bw ∧ Dg zs) ∧
   (wr.cell? ⟨w.heap.size, 0, none⟩ = some (.bool s) ∧ wr.cell? ⟨w.heap.size, 1, none⟩ = some (.slice A n c) ∧ wr.cell? ⟨w.heap.size + 1, 0, none⟩ = some (.bool t) ∧ wr.cell? ⟨w.heap.size + 1, 1, none⟩ = some (.slice B m d)) ∧
   PInv w A n xs B m ys Ao k co zs wr)
 case atStart =>
  exact ⟨0, 0, none, 0, [], rfl, rfl, rfl, rfl, by omega, by decide, by decide, ⟨by simp [val], Dg.nil⟩, ⟨by simp [go_sem], by simp [go_sem], by simp [go_sem], by simp [go_sem]⟩, ⟨(HX.out.alloc _).alloc _, (HY.out.alloc _).alloc _, Own.nil _ _, ((Below.refl _ _).alloc (Nat.le_refl _) _).alloc (by simp) _⟩⟩
 case round =>
  obtain ⟨k, bw, Ao, co, zs, rfl, rfl, rfl, hg, hk, c0, c1, hv, hS, hp⟩ := hrel
  have HG := hid hg
  have HV := hid hv
  have HP := hid hp
  have HC := hid hS
  obtain ⟨x0, x1, y0, y1⟩ := hS
  clear hg hv hp
  have hlen := HP.out.2.2.1.len
  by_cases hend : n ≤ k
  ·have f1 : ¬ (k : Int) < (n : Int) := by omega
   go_wp2_with fail
   go_ret
   obtain rfl : k = n := by omega
   exact ⟨Ao, k, co, zs, rfl, ⟨HP.out.2.2.1.rd, Nat.le_refl _, HP.out.2.2.1.cap, HV.out.2, minus_end (by have := HX.out.1; omega) (by have := HY.out.1; omega) hlen HV.out.2 HV.out.1 (by omega) HLE.out⟩, HP.out.2.2.2⟩
  ·have h1 : (k : Int) < (n : Int) := by omega
   have hk0 : (0 : Int) ≤ (k : Int) := by omega
   obtain ⟨b, off, rfl, hcell⟩ := HP.out.1.2 (by omega)
   have hcd : wr.cell? ⟨b, off + k, none⟩ = some (.int .i64 (dg xs k)) := hcell k (by omega)
   have HCD := hid hcd
   clear hcell hend
   obtain ⟨b0, b1⟩ := DX.out.dg k
   obtain ⟨b2, b3⟩ := DY.out.dg k
   have e1 : IntKind.i64.wrap (dg xs k - dg ys k) = dg xs k - dg ys k := by rw [IntKind.wrap_i64]; omega
   have e2 : IntKind.i64.wrap (dg xs k - dg ys k - bw) = dg xs k - dg ys k - bw := by rw [IntKind.wrap_i64]; omega
   have HS0 := hid (show (wr.cell? ⟨w.heap.size, 1, none⟩ = some (.slice (some ⟨b, off, none⟩) n c) ∧ wr.cell? ⟨b, off + k, none⟩ = some (.int .i64 (dg xs k)) ∧ wr.cell? ⟨w.heap.size + 1, 0, none⟩ = some (.bool t) ∧ wr.cell? ⟨w.heap.size + 1, 1, none⟩ = some (.slice B m d)) ∧ PM s w (some ⟨b, off, none⟩) n xs B m ys Ao k co zs wr from ⟨⟨HC.out.2.1, hcd, HC.out.2.2.1, HC.out.2.2.2⟩, HC.out.1, HP.out⟩)
   go_wp2_with fail
   go_region_held3 (fun w' => (w'.cell? ⟨w.heap.size, 1, none⟩ = some (.slice (some ⟨b, off, none⟩) n c) ∧ w'.cell? ⟨b, off + k, none⟩ = some (.int .i64 (dg xs k)) ∧ w'.cell? ⟨w.heap.size + 1, 0, none⟩ = some (.bool t) ∧ w'.cell? ⟨w.heap.size + 1, 1, none⟩ = some (.slice B m d)) ∧ PM s w (some ⟨b, off, none⟩) n xs B m ys Ao k co zs w')
    (first | exact ⟨HS0.out.1, HS0.out.2.1, HS0.out.2.2.drew⟩ | exact keepP (by assumption) hb2 (fun h => PM.below h hb2))
    (first
     | (go_at_call_of 94 (Value.agg #[.bool t, .slice B m d]); refine (Ref.digit t B m d k ys _ (And.left (And.right (And.right (And.right (by assumption : (_ ∧ _ ∧ _ ∧ _) ∧ PM s w (some ⟨b, off, none⟩) n xs B m ys Ao k co zs _))))) (by omega) (by omega)).mono ?_; rintro e w2 ⟨rfl, hb2⟩))
   obtain ⟨⟨x1, xd, y0, y1⟩, x0, hP3⟩ : (w2.cell? ⟨w.heap.size, 1, none⟩ = some (.slice (some ⟨b, off, none⟩) n c) ∧ w2.cell? ⟨b, off + k, none⟩ = some (.int .i64 (dg xs k)) ∧ w2.cell? ⟨w.heap.size + 1, 0, none⟩ = some (.bool t) ∧ w2.cell? ⟨w.heap.size + 1, 1, none⟩ = some (.slice B m d)) ∧ PM s w (some ⟨b, off, none⟩) n xs B m ys Ao k co zs w2 := by assumption
   have HP3 := hid hP3
   have hsz : w.heap.size + 1 < w2.heap.size := World.block_lt_of_cell? w2 _ y0
   clear hP3 hb2 e1 e2
   by_cases hneg : dg xs k - dg ys k - bw < 0
   ·go_wp2_with (first | (at_builtin; refine wpList_append_int _ rfl (.tmp 31) (.tmp 33) rfl (w.heap.size + 2) Ao k co zs rfl (HP3.out.2.2.1.alloc _) w2.heap.size (dg xs k - dg ys k - bw + 10000) rfl (by simp) (by omega) (by simp; omega) ?_; intro A' c' w3 hown hgrow; have HO := hid hown; have HGR := hid hgrow; clear hown hgrow))
    go_roundg (n - (k + 1))
    case measure => have := HG.out; omega
    case rel =>
     have hrow : ∀ g, g < w.heap.size + 2 → some g ≠ (Value.slice Ao k co).ownBlock := fun g hg => HP3.out.2.2.1.row hg
     have hbel : Below w.heap.size w w3 := (HP3.out.2.2.2.alloc HP3.out.2.2.2.size _).grown HGR.out (by have := HP3.out.2.2.2.size; simp; omega) (fun g hg => by have := HP3.out.2.2.1.rowGe g hg; omega)
     exact ⟨k + 1, 1, A', c', zs ++ [dg xs k - dg ys k - bw + 10000], by go_num, rfl, rfl, rfl, by omega, by decide, by decide, ⟨minus_step hlen HV.out.1 _ _ (by omega), HV.out.2.append (Dg.one (by omega) (by omega))⟩,
      ⟨far1 x0 HGR.out (hrow _ (by omega)), far1 x1 HGR.out (hrow _ (by omega)), far1 y0 HGR.out (hrow _ (by omega)), far1 y1 HGR.out (hrow _ (by omega))⟩, HX.out.below hbel, HY.out.below hbel, HO.out, hbel⟩
   ·go_wp2_with (first | (at_builtin; refine wpList_append_int _ rfl (.tmp 31) (.tmp 33) rfl (w.heap.size + 2) Ao k co zs rfl (HP3.out.2.2.1.alloc _) w2.heap.size (dg xs k - dg ys k - bw) rfl (by simp) (by omega) (by simp; omega) ?_; intro A' c' w3 hown hgrow; have HO := hid hown; have HGR := hid hgrow; clear hown hgrow))
    go_roundg (n - (k + 1))
    case measure => have := HG.out; omega
    case rel =>
     have hrow : ∀ g, g < w.heap.size + 2 → some g ≠ (Value.slice Ao k co).ownBlock := fun g hg => HP3.out.2.2.1.row hg
     have hbel : Below w.heap.size w w3 := (HP3.out.2.2.2.alloc HP3.out.2.2.2.size _).grown HGR.out (by have := HP3.out.2.2.2.size; simp; omega) (fun g hg => by have := HP3.out.2.2.1.rowGe g hg; omega)
     exact ⟨k + 1, 0, A', c', zs ++ [dg xs k - dg ys k - bw], by go_num, rfl, rfl, rfl, by omega, by decide, by decide, ⟨minus_step hlen HV.out.1 _ _ (by omega), HV.out.2.append (Dg.one (by omega) (by omega))⟩,
      ⟨far1 x0 HGR.out (hrow _ (by omega)), far1 x1 HGR.out (hrow _ (by omega)), far1 y0 HGR.out (hrow _ (by omega)), far1 y1 HGR.out (hrow _ (by omega))⟩, HX.out.below hbel, HY.out.below hbel, HO.out, hbel⟩
end


section
open Go.RowKit
def QInv (w0 : World) (A : Option Addr) (n : Nat) (xs : List Int) (B : Option Addr) (m : Nat) (ys : List Int) (w : World) : Prop :=
 Rd w A n xs ∧ Rd w B m ys ∧ Below w0.heap.size w0 w
theorem QInv.below {w0 : World} {A : Option Addr} {n : Nat} {xs : List Int} {B : Option Addr} {m : Nat} {ys : List Int} {w w' : World}
  (h : QInv w0 A n xs B m ys w) (hb : Below w.heap.size w w') : QInv w0 A n xs B m ys w' := ⟨h.1.below hb, h.2.1.below hb, h.2.2.trans (hb.mono h.2.2.size)⟩
theorem QInv.drew {w0 : World} {A : Option Addr} {n : Nat} {xs : List Int} {B : Option Addr} {m : Nat} {ys : List Int} {w : World}
  (h : QInv w0 A n xs B m ys w) : QInv w0 A n xs B m ys w.drew := ⟨h.1, h.2.1, h.2.2.drew⟩
set_option maxRecDepth 100000 in
set_option maxHeartbeats 4000000 in
theorem Ref.larger (s t : Bool) (A B : Option Addr) (n c m d : Nat) (xs ys : List Int) (w : World) (hx : Rd w A n xs) (hy : Rd w B m ys) (dx : Dg xs) (dy : Dg ys) (hn : n ≤ 1000000) (hm : m ≤ 1000000) :
  Calls Tryz.prog 103 #[.agg #[.bool s, .slice A n c], .agg #[.bool t, .slice B m d]] w fun e w' => e = .returned (.int .i64 (cmpI (val xs) (val ys))) ∧ Below w.heap.size w w' := by
 have HX := hid hx
 have HY := hid hy
 have DX := hid dx
 have DY := hid dy
 clear hx hy dx dy
 go_enter Tryz.func103, Tryz.ntmps103
 go_wp2_with fail
 go_loopg [5] (max n m) (fun g i wr => ∃ v : Int, i = .int .i64 v ∧ -1 ≤ v ∧ v < max (n : Int) (m : Int) ∧ g = (v + 1).toNat ∧ (∀ j : Nat, v < j → dg xs j = dg ys j) ∧
   (wr.cell? ⟨w.heap.size, 0, none⟩ = some (.bool s) ∧ wr.cell? ⟨w.heap.size, 1, none⟩ = some (.slice A n c) ∧ wr.cell? ⟨w.heap.size + 1, 0, none⟩ = some (.bool t) ∧ wr.cell? ⟨w.heap.size + 1, 1, none⟩ = some (.slice B m d)) ∧
   QInv w A n xs B m ys wr)
 case atStart =>
  exact ⟨_, rfl, by omega, by omega, by omega, fun j hj => by rw [dg_ge (by have := HX.out.1; omega), dg_ge (by have := HY.out.1; omega)], ⟨by simp [go_sem], by simp [go_sem], by simp [go_sem], by simp [go_sem]⟩, ⟨(HX.out.alloc _).alloc _, (HY.out.alloc _).alloc _, ((Below.refl _ _).alloc (Nat.le_refl _) _).alloc (by simp) _⟩⟩
 case round =>
  obtain ⟨v, rfl, v0, v1, hg, hv, hS, hp⟩ := hrel
  have HG := hid hg
  have HV := hid hv
  have HP := hid hp
  have HS0 := hid (And.intro hS hp)
  clear hg hv hp hS
  by_cases hend : v < 0
  ·have f1 : ¬ 0 ≤ v := by omega
   go_wp2_with fail
   go_ret
   have e : val xs = val ys := larger_none (fun j _ => HV.out j (by omega))
   exact ⟨by rw [e, cmpI_eq]; rfl, HP.out.2.2⟩
  ·obtain ⟨k, rfl⟩ := Int.eq_ofNat_of_zero_le (show 0 ≤ v by omega)
   have hk0 : (0 : Int) ≤ (k : Int) := by omega
   clear hend
   by_cases h1 : dg xs k < dg ys k
   ·go_wp2_with fail
    go_region_held3 (fun w' => (w'.cell? ⟨w.heap.size, 0, none⟩ = some (.bool s) ∧ w'.cell? ⟨w.heap.size, 1, none⟩ = some (.slice A n c) ∧ w'.cell? ⟨w.heap.size + 1, 0, none⟩ = some (.bool t) ∧ w'.cell? ⟨w.heap.size + 1, 1, none⟩ = some (.slice B m d)) ∧ QInv w A n xs B m ys w')
     (first | exact ⟨HS0.out.1, HS0.out.2.drew⟩ | exact keepP (by assumption) hb2 (fun h => QInv.below h hb2))
     (first
      | (go_at_call_of 94 (Value.agg #[.bool s, .slice A n c]); refine (Ref.digit s A n c k xs _ (And.left (And.right (by assumption : (_ ∧ _ ∧ _ ∧ _) ∧ QInv w A n xs B m ys _))) (by omega) (by omega)).mono ?_; rintro e w2 ⟨rfl, hb2⟩)
      | (go_at_call_of 94 (Value.agg #[.bool t, .slice B m d]); refine (Ref.digit t B m d k ys _ (And.left (And.right (And.right (by assumption : (_ ∧ _ ∧ _ ∧ _) ∧ QInv w A n xs B m ys _)))) (by omega) (by omega)).mono ?_; rintro e w2 ⟨rfl, hb2⟩))
    obtain ⟨_, hP3⟩ : (w2.cell? ⟨w.heap.size, 0, none⟩ = some (.bool s) ∧ w2.cell? ⟨w.heap.size, 1, none⟩ = some (.slice A n c) ∧ w2.cell? ⟨w.heap.size + 1, 0, none⟩ = some (.bool t) ∧ w2.cell? ⟨w.heap.size + 1, 1, none⟩ = some (.slice B m d)) ∧ QInv w A n xs B m ys w2 := by assumption
    have HP3 := hid hP3
    have HLT := hid (cmpI_lt (larger_at DX.out DY.out (fun j hj => HV.out j (by omega)) h1))
    clear hP3 hb2
    go_wp2_with fail
    go_ret
    exact ⟨by rw [HLT.out]; rfl, HP3.out.2.2⟩
   ·go_wp2_with fail
    go_region_held3 (fun w' => (w'.cell? ⟨w.heap.size, 0, none⟩ = some (.bool s) ∧ w'.cell? ⟨w.heap.size, 1, none⟩ = some (.slice A n c) ∧ w'.cell? ⟨w.heap.size + 1, 0, none⟩ = some (.bool t) ∧ w'.cell? ⟨w.heap.size + 1, 1, none⟩ = some (.slice B m d)) ∧ QInv w A n xs B m ys w')
     (first | exact ⟨HS0.out.1, HS0.out.2.drew⟩ | exact keepP (by assumption) hb2 (fun h => QInv.below h hb2))
     (first
      | (go_at_call_of 94 (Value.agg #[.bool s, .slice A n c]); refine (Ref.digit s A n c k xs _ (And.left (And.right (by assumption : (_ ∧ _ ∧ _ ∧ _) ∧ QInv w A n xs B m ys _))) (by omega) (by omega)).mono ?_; rintro e w2 ⟨rfl, hb2⟩)
      | (go_at_call_of 94 (Value.agg #[.bool t, .slice B m d]); refine (Ref.digit t B m d k ys _ (And.left (And.right (And.right (by assumption : (_ ∧ _ ∧ _ ∧ _) ∧ QInv w A n xs B m ys _)))) (by omega) (by omega)).mono ?_; rintro e w2 ⟨rfl, hb2⟩))
    have hS3 : (w2.cell? ⟨w.heap.size, 0, none⟩ = some (.bool s) ∧ w2.cell? ⟨w.heap.size, 1, none⟩ = some (.slice A n c) ∧ w2.cell? ⟨w.heap.size + 1, 0, none⟩ = some (.bool t) ∧ w2.cell? ⟨w.heap.size + 1, 1, none⟩ = some (.slice B m d)) ∧ QInv w A n xs B m ys w2 := by assumption
    have HS3 := hid hS3
    clear hS3 hb2
    by_cases h2 : dg ys k < dg xs k
    ·go_wp2_with fail
     go_region_held3 (fun w' => (w'.cell? ⟨w.heap.size, 0, none⟩ = some (.bool s) ∧ w'.cell? ⟨w.heap.size, 1, none⟩ = some (.slice A n c) ∧ w'.cell? ⟨w.heap.size + 1, 0, none⟩ = some (.bool t) ∧ w'.cell? ⟨w.heap.size + 1, 1, none⟩ = some (.slice B m d)) ∧ QInv w A n xs B m ys w')
      (first | exact ⟨HS3.out.1, HS3.out.2.drew⟩ | exact keepP (by assumption) hb2 (fun h => QInv.below h hb2))
      (first
       | (go_at_call_of 94 (Value.agg #[.bool s, .slice A n c]); refine (Ref.digit s A n c k xs _ (And.left (And.right (by assumption : (_ ∧ _ ∧ _ ∧ _) ∧ QInv w A n xs B m ys _))) (by omega) (by omega)).mono ?_; rintro e w4 ⟨rfl, hb2⟩)
       | (go_at_call_of 94 (Value.agg #[.bool t, .slice B m d]); refine (Ref.digit t B m d k ys _ (And.left (And.right (And.right (by assumption : (_ ∧ _ ∧ _ ∧ _) ∧ QInv w A n xs B m ys _)))) (by omega) (by omega)).mono ?_; rintro e w4 ⟨rfl, hb2⟩))
     obtain ⟨_, hP3⟩ : (w4.cell? ⟨w.heap.size, 0, none⟩ = some (.bool s) ∧ w4.cell? ⟨w.heap.size, 1, none⟩ = some (.slice A n c) ∧ w4.cell? ⟨w.heap.size + 1, 0, none⟩ = some (.bool t) ∧ w4.cell? ⟨w.heap.size + 1, 1, none⟩ = some (.slice B m d)) ∧ QInv w A n xs B m ys w4 := by assumption
     have HP3 := hid hP3
     have HGT := hid (cmpI_gt (larger_at DY.out DX.out (fun j hj => (HV.out j (by omega)).symm) h2))
     clear hP3 hb2
     go_wp2_with fail
     go_ret
     exact ⟨by rw [HGT.out]; rfl, HP3.out.2.2⟩
    ·have heq := hid (show dg xs k = dg ys k by omega)
     go_wp2_with fail
     go_region_held3 (fun w' => (w'.cell? ⟨w.heap.size, 0, none⟩ = some (.bool s) ∧ w'.cell? ⟨w.heap.size, 1, none⟩ = some (.slice A n c) ∧ w'.cell? ⟨w.heap.size + 1, 0, none⟩ = some (.bool t) ∧ w'.cell? ⟨w.heap.size + 1, 1, none⟩ = some (.slice B m d)) ∧ QInv w A n xs B m ys w')
      (first | exact ⟨HS3.out.1, HS3.out.2.drew⟩ | exact keepP (by assumption) hb2 (fun h => QInv.below h hb2))
      (first
       | (go_at_call_of 94 (Value.agg #[.bool s, .slice A n c]); refine (Ref.digit s A n c k xs _ (And.left (And.right (by assumption : (_ ∧ _ ∧ _ ∧ _) ∧ QInv w A n xs B m ys _))) (by omega) (by omega)).mono ?_; rintro e w4 ⟨rfl, hb2⟩)
       | (go_at_call_of 94 (Value.agg #[.bool t, .slice B m d]); refine (Ref.digit t B m d k ys _ (And.left (And.right (And.right (by assumption : (_ ∧ _ ∧ _ ∧ _) ∧ QInv w A n xs B m ys _)))) (by omega) (by omega)).mono ?_; rintro e w4 ⟨rfl, hb2⟩))
     have hS5 : (w4.cell? ⟨w.heap.size, 0, none⟩ = some (.bool s) ∧ w4.cell? ⟨w.heap.size, 1, none⟩ = some (.slice A n c) ∧ w4.cell? ⟨w.heap.size + 1, 0, none⟩ = some (.bool t) ∧ w4.cell? ⟨w.heap.size + 1, 1, none⟩ = some (.slice B m d)) ∧ QInv w A n xs B m ys w4 := by assumption
     have HS5 := hid hS5
     clear hS5 hb2
     go_wp2_with fail
     go_roundg k
     case measure => have := HG.out; omega
     case rel =>
      refine ⟨(k : Int) - 1, rfl, by omega, by omega, by omega, fun j hj => ?_, HS5.out.1, HS5.out.2⟩
      rcases Nat.lt_or_ge k j with h3 | h3
      ·exact HV.out j (by omega)
      ·obtain rfl : j = k := by omega
       exact heq.out
end


section
open Go.RowKit
def NoInt (w : World) (g : Nat) : Prop := ∀ o k, w.cell? ⟨g, o, none⟩ ≠ some (.int .i64 k)
theorem NoInt.below {w w' : World} {g : Nat} (h : NoInt w g) (hg : g < w.heap.size) (hb : Below w.heap.size w w') : NoInt w' g := fun o k e => h o k ((hb.cell (p := ⟨g, o, none⟩) hg).symm.trans e)
theorem NoInt.new (w : World) (t : TypeId) (s : Bool) (A : Option Addr) (n c : Nat) : NoInt (w.alloc (.cells #[.bool s, .slice A n c] t)) w.heap.size := fun o k => by
 rw [World.cell?_alloc_new]
 match o with
 | 0 => simp
 | 1 => simp
 | o + 2 => simp
theorem Rd.ne_block {w : World} {A : Option Addr} {n : Nat} {zs : List Int} (h : Rd w A n zs) {g : Nat} (hg : NoInt w g) : ∀ b off, A = some ⟨b, off, none⟩ → 0 < n → b ≠ g := by
 rintro b off rfl hn rfl
 obtain ⟨b', off', e, hc⟩ := h.2 hn
 injection e with e; injection e with e1 e2
 subst e1 e2
 exact hg _ _ (hc 0 hn)
theorem IsB.store {w : World} {L : Nat} {s : Bool} {A : Option Addr} {n c : Nat} {z : Int} (h : IsB w L s A n c z) {g : Nat} (hg : NoInt w g) (o o' : Nat) (u v : Value) : IsB ((w.setCell ⟨g, o, none⟩ u).setCell ⟨g, o', none⟩ v) L s A n c z := by
 obtain ⟨zs, h1, h2⟩ := h
 have hne := h1.ne_block hg
 exact ⟨zs, (h1.setCell hne o u).setCell hne o' v, h2⟩
theorem neg_sgn (s : Bool) (v : Int) : (0 - if s = true then -v else v) = if (!s) = true then -v else v := by cases s <;> simp
set_option maxHeartbeats 1000000 in
theorem Ref.neg (L : Nat) (s : Bool) (A : Option Addr) (n c : Nat) (z : Int) (w : World) (hz : IsB w L s A n c z) (hL : L ≤ 1000000) :
  Calls Tryz.prog 92 #[.agg #[.bool s, .slice A n c]] w (BAns L (0 - z) w) := by
 obtain ⟨zs, h1, h2, h3, h4, h5, h6, h7⟩ := hz
 have HZ := hid (show 0 - z = if (!s) = true then -val zs else val zs by rw [h7]; exact neg_sgn s _)
 have H1 := hid h1
 have H4 := hid h4
 clear h1 h4 h5 h6 h7
 generalize 0 - z = y at *
 go_enter Tryz.func92, Tryz.ntmps92
 go_wp2_with fail
 refine (Ref.trim L _ A n c zs _ ((H1.out.alloc _).alloc _) h2 (by omega) h3 H4.out y HZ).mono ?_
 rintro e w1 ⟨s', A', n', c', rfl, hB, hb⟩
 have HB := hid hB
 have NI := hid ((NoInt.new _ _ _ _ _ _).below (by simp) hb)
 obtain ⟨hc, hf⟩ := bcell hb
 clear hB
 go_wp2
 refine bodyPost_ret (v := .agg #[.bool s', .slice A' n' c']) (by simp [results, Tryz.results92, go_sem, hc]) rfl ⟨_, _, _, _, rfl, HB.out.store (by simpa using NI.out) _ _ _ _, ?_⟩
 exact ((((Below.refl _ _).alloc (Nat.le_refl _) _).alloc (by simp) _).trans (hb.mono (by simp; omega))).setCell (by simp) _ |>.setCell (by simp) _
theorem keepSt {w0 w : World} {b0 o0 b1 o1 b2 o2 b3 o3 g o o' : Nat} {v0 v1 v2 v3 u v : Value}
  (h : (w.cell? ⟨b0, o0, none⟩ = some v0 ∧ w.cell? ⟨b1, o1, none⟩ = some v1 ∧ w.cell? ⟨b2, o2, none⟩ = some v2 ∧ w.cell? ⟨b3, o3, none⟩ = some v3) ∧ Below w0.heap.size w0 w)
  (h0 : b0 ≠ g) (h1 : b1 ≠ g) (h2 : b2 ≠ g) (h3 : b3 ≠ g) (hg : w0.heap.size ≤ g) :
  (((w.setCell ⟨g, o, none⟩ u).setCell ⟨g, o', none⟩ v).cell? ⟨b0, o0, none⟩ = some v0 ∧ ((w.setCell ⟨g, o, none⟩ u).setCell ⟨g, o', none⟩ v).cell? ⟨b1, o1, none⟩ = some v1 ∧
   ((w.setCell ⟨g, o, none⟩ u).setCell ⟨g, o', none⟩ v).cell? ⟨b2, o2, none⟩ = some v2 ∧ ((w.setCell ⟨g, o, none⟩ u).setCell ⟨g, o', none⟩ v).cell? ⟨b3, o3, none⟩ = some v3) ∧ Below w0.heap.size w0 ((w.setCell ⟨g, o, none⟩ u).setCell ⟨g, o', none⟩ v) := by
 have far : ∀ (w : World) (b q p : Nat) (x y : Value), b ≠ g → w.cell? ⟨b, q, none⟩ = some x → (w.setCell ⟨g, p, none⟩ y).cell? ⟨b, q, none⟩ = some x := fun w b q p x y hb hx =>
  (World.cell?_setCell_other w ⟨g, p, none⟩ ⟨b, q, none⟩ y (fun e => by injection e with e1; exact hb e1.symm)).trans hx
 exact ⟨⟨far _ _ _ _ _ _ h0 (far _ _ _ _ _ _ h0 h.1.1), far _ _ _ _ _ _ h1 (far _ _ _ _ _ _ h1 h.1.2.1), far _ _ _ _ _ _ h2 (far _ _ _ _ _ _ h2 h.1.2.2.1), far _ _ _ _ _ _ h3 (far _ _ _ _ _ _ h3 h.1.2.2.2)⟩, (h.2.setCell hg _).setCell hg _⟩
theorem below_keep {w0 w w' : World} (h : Below w0.heap.size w0 w) (hb : Below w.heap.size w w') : Below w0.heap.size w0 w' := h.trans (hb.mono h.size)
def Fresh (w : World) (g : Nat) : Prop := w.cell? ⟨g, 0, none⟩ = some (.bool false) ∧ w.cell? ⟨g, 1, none⟩ = some (.slice none 0 0) ∧ w.frozen? ⟨g, 0, none⟩ = false ∧ w.frozen? ⟨g, 1, none⟩ = false ∧ NoInt w g
theorem Fresh.below {w w' : World} {g : Nat} (h : Fresh w g) (hb : Below w.heap.size w w') : Fresh w' g := by
 have hg := World.block_lt_of_cell? w _ h.1
 exact ⟨keep1 hb h.1, keep1 hb h.2.1, (hb.frozen (p := ⟨g, 0, none⟩) hg).trans h.2.2.1, (hb.frozen (p := ⟨g, 1, none⟩) hg).trans h.2.2.2.1, h.2.2.2.2.below hg hb⟩
theorem Fresh.new (w : World) (t : TypeId) : Fresh (w.alloc (.cells #[.bool false, .slice none 0 0] t)) w.heap.size :=
 ⟨by simp, by simp, by simp [go_sem], by simp [go_sem], NoInt.new _ _ _ _ _ _⟩
theorem sgn_diff {s t : Bool} (h : ¬ s = t) (a b : Int) : ((if s = true then -a else a) + if t = true then -b else b) = if s = true then -(a - b) else a - b := by
 cases s <;> cases t <;> simp_all <;> omega
theorem sgn_diff' {s t : Bool} (h : ¬ s = t) (a b : Int) : ((if s = true then -a else a) + if t = true then -b else b) = if t = true then -(b - a) else b - a := by
 cases s <;> cases t <;> simp_all <;> omega
theorem sgn_both (s : Bool) (a b : Int) : ((if s = true then -a else a) + if s = true then -b else b) = if s = true then -(a + b) else a + b := by cases s <;> simp; omega
def AddW (w : World) (s t : Bool) (A B : Option Addr) (n c m d : Nat) (W0 : World) : Prop :=
 (W0.cell? ⟨w.heap.size, 0, none⟩ = some (.bool s) ∧ W0.cell? ⟨w.heap.size, 1, none⟩ = some (.slice A n c) ∧ W0.cell? ⟨w.heap.size + 1, 0, none⟩ = some (.bool t) ∧ W0.cell? ⟨w.heap.size + 1, 1, none⟩ = some (.slice B m d)) ∧ Below w.heap.size w W0
theorem AddW.new (w : World) (s t : Bool) (A B : Option Addr) (n c m d : Nat) (ty : TypeId) :
  AddW w s t A B n c m d (((w.alloc (Obj.cells #[Value.bool s, Value.slice A n c] ty)).alloc (Obj.cells #[Value.bool t, Value.slice B m d] ty)).alloc (Obj.cells #[Value.bool false, Value.slice none 0 0] ty)) ∧
  Fresh (((w.alloc (Obj.cells #[Value.bool s, Value.slice A n c] ty)).alloc (Obj.cells #[Value.bool t, Value.slice B m d] ty)).alloc (Obj.cells #[Value.bool false, Value.slice none 0 0] ty)) (w.heap.size + 1 + 1) :=
 ⟨⟨⟨by simp [go_sem], by simp [go_sem], by simp [go_sem], by simp [go_sem]⟩, (((Below.refl _ _).alloc (Nat.le_refl _) _).alloc (by simp) _).alloc (by simp; omega) _⟩, by
  have h := Fresh.new ((w.alloc (Obj.cells #[Value.bool s, Value.slice A n c] ty)).alloc (Obj.cells #[Value.bool t, Value.slice B m d] ty)) ty
  simpa using h⟩
set_option maxRecDepth 100000 in
set_option maxHeartbeats 4000000 in
theorem Ref.add (K : Nat) (s t : Bool) (A B : Option Addr) (n c m d : Nat) (x y : Int) (w : World) (hx : IsB w K s A n c x) (hy : IsB w K t B m d y) (hK : K ≤ 1000000) :
  Calls Tryz.prog 93 #[.agg #[.bool s, .slice A n c], .agg #[.bool t, .slice B m d]] w (BAns (K + 1) (x + y) w) := by
 obtain ⟨xs, hX, hn, hnc, dX, nX, sX, eX⟩ := hx
 obtain ⟨ys, hY, hm, hmd, dY, nY, sY, eY⟩ := hy
 have HX := hid hX
 have HY := hid hY
 have HD := hid (And.intro dX dY)
 have HN := hid (And.intro nX nY)
 obtain ⟨z, hz⟩ : ∃ z, z = x + y := ⟨_, rfl⟩
 rw [← hz]
 by_cases hst : s = t
 ·subst hst
  have HE := hid (show z = if s = true then -(val xs + val ys) else val xs + val ys by rw [hz, eX, eY]; exact sgn_both s _ _)
  clear hX hY dX dY nX nY eX eY sX sY hz
  go_enter Tryz.func93, Tryz.ntmps93
  go_wp2_with fail
  obtain ⟨W0, hW⟩ : ∃ W0, W0 = ((w.alloc (Obj.cells #[Value.bool s, Value.slice A n c] 98)).alloc (Obj.cells #[Value.bool s, Value.slice B m d] 98)).alloc (Obj.cells #[Value.bool false, Value.slice none 0 0] 98) := ⟨_, rfl⟩
  rw [← hW]
  have hN := AddW.new w s s A B n c m d 98
  rw [← hW] at hN
  have HS0 := hid hN.1
  have HF := hid hN.2
  clear hN hW
  go_region_held3 (fun w' => (w'.cell? ⟨w.heap.size, 0, none⟩ = some (.bool s) ∧ w'.cell? ⟨w.heap.size, 1, none⟩ = some (.slice A n c) ∧ w'.cell? ⟨w.heap.size + 1, 0, none⟩ = some (.bool s) ∧ w'.cell? ⟨w.heap.size + 1, 1, none⟩ = some (.slice B m d)) ∧ Below w.heap.size w w')
   (first | exact ⟨HS0.out.1, HS0.out.2.drew⟩ | exact keepP (by assumption) hb2 (fun h => below_keep h hb2) | exact keepSt (by assumption) (by omega) (by omega) (by omega) (by omega) (by omega))
   (first
    | (go_at_call 102; refine (Ref.plus s s A B n c m d xs ys _ (HX.out.below (And.right (by assumption : (_ ∧ _ ∧ _ ∧ _) ∧ Below w.heap.size w _))) (HY.out.below (And.right (by assumption : (_ ∧ _ ∧ _ ∧ _) ∧ Below w.heap.size w _))) HD.out.1 HD.out.2 K hn hm hK).mono ?_; rintro e w2 ⟨Ap, np, cp, ps, rfl, ⟨hr2, hn2, hc2, hd2, hv2⟩, hb2⟩; have HP := hid (And.intro hr2 hd2); have HV := hid hv2; have HF2 := hid (Fresh.below (w := W0.drew) HF.out hb2); clear hr2 hd2 hv2)
    | (go_at_call 95; refine (Ref.trim (K + 1) s Ap np cp ps _ HP.out.1 (by omega) (by omega) (by omega) HP.out.2 z (hid (by rw [HV.out]; exact HE.out))).mono ?_; rintro e w3 ⟨s', A', n', c', rfl, hB, hb2⟩; have HB := hid hB; have HF3 := hid (HF2.out.below hb2); obtain ⟨t0, t1, t2, t3, _⟩ := HF3.out; clear hB))
  obtain ⟨_, hfin⟩ : (_ ∧ _ ∧ _ ∧ _) ∧ Below w.heap.size w ((w3.setCell ⟨w.heap.size + 1 + 1, 0, none⟩ (.bool s')).setCell ⟨w.heap.size + 1 + 1, 1, none⟩ (.slice A' n' c')) := by assumption
  have HFIN := hid hfin
  clear hfin
  go_wp2
  refine bodyPost_ret (v := .agg #[.bool s', .slice A' n' c']) (by simp [results, Tryz.results93, go_sem, t0, t1]) rfl ⟨_, _, _, _, rfl, HB.out.store HF3.out.2.2.2.2 _ _ _ _, HFIN.out⟩
 ·have HE := hid (And.intro hz (And.intro eX eY))
  have hst' : (s == t) = false := by simpa using hst
  have hnn := hid hst
  clear hX hY dX dY nX nY eX eY sX sY hz hst
  go_enter Tryz.func93, Tryz.ntmps93
  go_wp2_with fail
  obtain ⟨W0, hW⟩ : ∃ W0, W0 = ((w.alloc (Obj.cells #[Value.bool s, Value.slice A n c] 98)).alloc (Obj.cells #[Value.bool t, Value.slice B m d] 98)).alloc (Obj.cells #[Value.bool false, Value.slice none 0 0] 98) := ⟨_, rfl⟩
  rw [← hW]
  have hN := AddW.new w s t A B n c m d 98
  rw [← hW] at hN
  have HS00 := hid hN.1
  have HF0 := hid hN.2
  clear hN hW
  refine (Ref.larger s t A B n c m d xs ys _ (HX.out.below HS00.out.2) (HY.out.below HS00.out.2) HD.out.1 HD.out.2 (by omega) (by omega)).mono ?_
  rintro e w1 ⟨rfl, hb1⟩
  have HS0 := hid (show AddW w s t A B n c m d w1 from ⟨keep4 HS00.out.1 hb1, below_keep HS00.out.2 hb1⟩)
  have HF := hid (HF0.out.below hb1)
  clear HS00 HF0 hb1
  by_cases hle : val ys ≤ val xs
  ·have hc0 : 0 ≤ cmpI (val xs) (val ys) := by have := cmpI_pos (val ys) (val xs); have := cmpI_anti (val xs) (val ys); omega
   have HLE := hid (And.intro hle (show m ≤ n by have := len_of_le HD.out.1 HD.out.2 HN.out.2 hle; have := HX.out.1; have := HY.out.1; omega))
   clear hle
   generalize cmpI (val xs) (val ys) = cc at hc0 ⊢
   go_wp2_with fail
   go_region_held3 (fun w' => (w'.cell? ⟨w.heap.size, 0, none⟩ = some (.bool s) ∧ w'.cell? ⟨w.heap.size, 1, none⟩ = some (.slice A n c) ∧ w'.cell? ⟨w.heap.size + 1, 0, none⟩ = some (.bool t) ∧ w'.cell? ⟨w.heap.size + 1, 1, none⟩ = some (.slice B m d)) ∧ Below w.heap.size w w')
    (first | exact ⟨HS0.out.1, HS0.out.2.drew⟩ | exact keepP (by assumption) hb2 (fun h => below_keep h hb2) | exact keepSt (by assumption) (by omega) (by omega) (by omega) (by omega) (by omega))
    (first
     | (go_at_call 104; refine (Ref.minus s t A B n c m d xs ys _ (HX.out.below (And.right (by assumption : (_ ∧ _ ∧ _ ∧ _) ∧ Below w.heap.size w _))) (HY.out.below (And.right (by assumption : (_ ∧ _ ∧ _ ∧ _) ∧ Below w.heap.size w _))) HD.out.1 HD.out.2 HLE.out.2 HLE.out.1 (by omega)).mono ?_; rintro e w2 ⟨Ap, np, cp, ps, rfl, ⟨hr2, hn2, hc2, hd2, hv2⟩, hb2⟩; have HP := hid (And.intro hr2 hd2); have HV := hid hv2; have HF2 := hid (Fresh.below (w := w1.drew) HF.out hb2); clear hr2 hd2 hv2)
     | (go_at_call 95; refine (Ref.trim (K + 1) s Ap np cp ps _ HP.out.1 (by omega) (by omega) (by omega) HP.out.2 z (hid (by rw [HV.out, HE.out.1, HE.out.2.1, HE.out.2.2]; exact sgn_diff hnn.out _ _))).mono ?_; rintro e w3 ⟨s', A', n', c', rfl, hB, hb2⟩; have HB := hid hB; have HF3 := hid (HF2.out.below hb2); obtain ⟨t0, t1, t2, t3, _⟩ := HF3.out; clear hB))
   obtain ⟨_, hfin⟩ : (_ ∧ _ ∧ _ ∧ _) ∧ Below w.heap.size w ((w3.setCell ⟨w.heap.size + 1 + 1, 0, none⟩ (.bool s')).setCell ⟨w.heap.size + 1 + 1, 1, none⟩ (.slice A' n' c')) := by assumption
   have HFIN := hid hfin
   clear hfin
   go_wp2
   refine bodyPost_ret (v := .agg #[.bool s', .slice A' n' c']) (by simp [results, Tryz.results93, go_sem, t0, t1]) rfl ⟨_, _, _, _, rfl, HB.out.store HF3.out.2.2.2.2 _ _ _ _, HFIN.out⟩
  ·have hc0 : ¬ 0 ≤ cmpI (val xs) (val ys) := by have := cmpI_pos (val ys) (val xs); have := cmpI_anti (val xs) (val ys); omega
   have HLE := hid (And.intro (show val xs ≤ val ys by omega) (show n ≤ m by have := len_of_le HD.out.2 HD.out.1 HN.out.1 (show val xs ≤ val ys by omega); have := HX.out.1; have := HY.out.1; omega))
   clear hle
   generalize cmpI (val xs) (val ys) = cc at hc0 ⊢
   go_wp2_with fail
   go_region_held3 (fun w' => (w'.cell? ⟨w.heap.size, 0, none⟩ = some (.bool s) ∧ w'.cell? ⟨w.heap.size, 1, none⟩ = some (.slice A n c) ∧ w'.cell? ⟨w.heap.size + 1, 0, none⟩ = some (.bool t) ∧ w'.cell? ⟨w.heap.size + 1, 1, none⟩ = some (.slice B m d)) ∧ Below w.heap.size w w')
    (first | exact ⟨HS0.out.1, HS0.out.2.drew⟩ | exact keepP (by assumption) hb2 (fun h => below_keep h hb2) | exact keepSt (by assumption) (by omega) (by omega) (by omega) (by omega) (by omega))
    (first
     | (go_at_call 104; refine (Ref.minus t s B A m d n c ys xs _ (HY.out.below (And.right (by assumption : (_ ∧ _ ∧ _ ∧ _) ∧ Below w.heap.size w _))) (HX.out.below (And.right (by assumption : (_ ∧ _ ∧ _ ∧ _) ∧ Below w.heap.size w _))) HD.out.2 HD.out.1 HLE.out.2 HLE.out.1 (by omega)).mono ?_; rintro e w2 ⟨Ap, np, cp, ps, rfl, ⟨hr2, hn2, hc2, hd2, hv2⟩, hb2⟩; have HP := hid (And.intro hr2 hd2); have HV := hid hv2; have HF2 := hid (Fresh.below (w := w1.drew) HF.out hb2); clear hr2 hd2 hv2)
     | (go_at_call 95; refine (Ref.trim (K + 1) t Ap np cp ps _ HP.out.1 (by omega) (by omega) (by omega) HP.out.2 z (hid (by rw [HV.out, HE.out.1, HE.out.2.1, HE.out.2.2]; exact sgn_diff' hnn.out _ _))).mono ?_; rintro e w3 ⟨s', A', n', c', rfl, hB, hb2⟩; have HB := hid hB; have HF3 := hid (HF2.out.below hb2); obtain ⟨t0, t1, t2, t3, _⟩ := HF3.out; clear hB))
   obtain ⟨_, hfin⟩ : (_ ∧ _ ∧ _ ∧ _) ∧ Below w.heap.size w ((w3.setCell ⟨w.heap.size + 1 + 1, 0, none⟩ (.bool s')).setCell ⟨w.heap.size + 1 + 1, 1, none⟩ (.slice A' n' c')) := by assumption
   have HFIN := hid hfin
   clear hfin
   go_wp2
   refine bodyPost_ret (v := .agg #[.bool s', .slice A' n' c']) (by simp [results, Tryz.results93, go_sem, t0, t1]) rfl ⟨_, _, _, _, rfl, HB.out.store HF3.out.2.2.2.2 _ _ _ _, HFIN.out⟩
end


section
open Go.RowKit
theorem IsB.flip {w : World} {L : Nat} {s : Bool} {A : Option Addr} {n c : Nat} {v : Int} (h : IsB w L s A n c v) (hv : 0 < v) : IsB w L true A n c (-v) := by
 obtain ⟨zs, h1, h2, h3, h4, h5, h6, h7⟩ := h
 have hn := val_nonneg h4
 have hs : s = false := by
  cases s
  ·rfl
  ·simp at h7; omega
 subst hs
 refine ⟨zs, h1, h2, h3, h4, h5, fun _ e => ?_, by simp at h7; simp [h7]⟩
 subst e
 simp [val] at h7; omega
theorem addsub (x y : Int) : x + (0 - y) = x - y := by omega
set_option maxRecDepth 100000 in
set_option maxHeartbeats 4000000 in
theorem Ref.sub (K : Nat) (s t : Bool) (A B : Option Addr) (n c m d : Nat) (x y : Int) (w : World) (hx : IsB w K s A n c x) (hy : IsB w K t B m d y) (hK : K ≤ 1000000) :
  Calls Tryz.prog 90 #[.agg #[.bool s, .slice A n c], .agg #[.bool t, .slice B m d]] w (BAns (K + 1) (x - y) w) := by
 have HX := hid hx
 have HY := hid hy
 clear hx hy
 go_enter Tryz.func90, Tryz.ntmps90
 go_wp2_with fail
 obtain ⟨W0, hW⟩ : ∃ W0, W0 = ((w.alloc (Obj.cells #[Value.bool s, Value.slice A n c] 98)).alloc (Obj.cells #[Value.bool t, Value.slice B m d] 98)).alloc (Obj.cells #[Value.bool false, Value.slice none 0 0] 98) := ⟨_, rfl⟩
 rw [← hW]
 have hN := AddW.new w s t A B n c m d 98
 rw [← hW] at hN
 have HS0 := hid hN.1
 have HF := hid hN.2
 clear hN hW
 go_region_held3 (fun w' => (w'.cell? ⟨w.heap.size, 0, none⟩ = some (.bool s) ∧ w'.cell? ⟨w.heap.size, 1, none⟩ = some (.slice A n c) ∧ w'.cell? ⟨w.heap.size + 1, 0, none⟩ = some (.bool t) ∧ w'.cell? ⟨w.heap.size + 1, 1, none⟩ = some (.slice B m d)) ∧ Below w.heap.size w w')
  (first | exact ⟨HS0.out.1, HS0.out.2.drew⟩ | exact keepP (by assumption) hb2 (fun h => below_keep h hb2) | exact keepSt (by assumption) (by omega) (by omega) (by omega) (by omega) (by omega))
  (first
   | (go_at_call 92; refine (Ref.neg K t B m d y _ (HY.out.below (And.right (by assumption : (_ ∧ _ ∧ _ ∧ _) ∧ Below w.heap.size w _))) (by omega)).mono ?_; rintro e w2 ⟨sp, Ap, np, cp, rfl, hB2, hb2⟩; have HP := hid hB2; have HX2 := hid (HX.out.below (below_keep (And.right (by assumption : (_ ∧ _ ∧ _ ∧ _) ∧ Below w.heap.size w _)) hb2)); have HF2 := hid (Fresh.below (w := W0.drew) HF.out hb2); clear hB2)
   | (go_at_call 93; refine (Ref.add K s sp A Ap n c np cp x (0 - y) _ HX2.out HP.out hK).mono ?_; rintro e w3 ⟨s', A', n', c', rfl, hB, hb2⟩; have HB := hid hB; have HF3 := hid (HF2.out.below hb2); obtain ⟨t0, t1, t2, t3, _⟩ := HF3.out; clear hB))
 obtain ⟨_, hfin⟩ : (_ ∧ _ ∧ _ ∧ _) ∧ Below w.heap.size w ((w3.setCell ⟨w.heap.size + 1 + 1, 0, none⟩ (.bool s')).setCell ⟨w.heap.size + 1 + 1, 1, none⟩ (.slice A' n' c')) := by assumption
 have HFIN := hid hfin
 clear hfin
 go_wp2
 refine bodyPost_ret (v := .agg #[.bool s', .slice A' n' c']) (by simp [results, Tryz.results90, go_sem, t0, t1]) rfl ⟨_, _, _, _, rfl, ?_, HFIN.out⟩
 rw [← addsub]
 exact HB.out.store HF3.out.2.2.2.2 _ _ _ _
set_option maxHeartbeats 1000000 in
theorem Ref.N (x : Int) (x0 : -9223372036854775808 ≤ x) (x1 : x ≤ 9223372036854775807) (w : World) :
  Calls Tryz.prog 101 #[.int .i64 x] w (BAns 5 x w) := by
 by_cases h : 0 ≤ x
 ·go_enter Tryz.func101, Tryz.ntmps101
  go_wp2_with fail
  refine (Ref.U x h (by omega) _).mono ?_
  rintro e w1 ⟨s', A', n', c', rfl, hB, hb⟩
  have HB := hid hB
  have HF := hid ((Fresh.new _ _).below hb)
  obtain ⟨t0, t1, t2, t3, _⟩ := HF.out
  clear hB
  go_wp2
  refine bodyPost_ret (v := .agg #[.bool s', .slice A' n' c']) (by simp [results, Tryz.results101, go_sem, t0, t1]) rfl ⟨_, _, _, _, rfl, HB.out.store HF.out.2.2.2.2 _ _ _ _, ?_⟩
  exact ((((Below.refl _ _).alloc (Nat.le_refl _) _).trans (hb.mono (by simp))).setCell (by simp) _).setCell (by simp) _
 ·have e1 : wrap64 (x + 1) = x + 1 := by unfold wrap64; omega
  have e2 : IntKind.u64.wrap (-(x + 1)) = -(x + 1) := by rw [IntKind.wrap_u64]; omega
  go_enter Tryz.func101, Tryz.ntmps101
  go_wp2_with fail
  refine (Ref.U (-(x + 1) + 1) (by omega) (by omega) _).mono ?_
  rintro e w1 ⟨s', A', n', c', rfl, hB, hb⟩
  have hv : -(-(x + 1) + 1) = x := by omega
  have HB := hid (hB.flip (by omega))
  rw [hv] at HB
  have HF := hid ((Fresh.new _ _).below hb)
  obtain ⟨t0, t1, t2, t3, _⟩ := HF.out
  have hsz : w.heap.size < w1.heap.size := by have := hb.size; simp at this; omega
  clear hB
  go_wp2
  refine bodyPost_ret (v := .agg #[.bool true, .slice A' n' c']) (by simp [results, Tryz.results101, go_sem, t0, t1, hsz]) rfl ⟨_, _, _, _, rfl, ?_, ?_⟩
  ·exact (HB.out.store HF.out.2.2.2.2 _ _ _ _).alloc _
  ·exact (((((Below.refl _ _).alloc (Nat.le_refl _) _).trans (hb.mono (by simp))).setCell (by simp) _).setCell (by simp) _).alloc (by simp; omega) _
end


section
open Go.RowKit
theorem cmpI_sub (x y : Int) : cmpI (x - y) 0 = cmpI x y := by
 rcases Int.lt_trichotomy x y with h | h | h
 ·rw [cmpI_lt h, cmpI_lt (by omega)]
 ·subst h; rw [Int.sub_self, cmpI_eq, cmpI_eq]
 ·rw [cmpI_gt h, cmpI_gt (by omega)]
set_option maxHeartbeats 1000000 in
theorem Ref.cmp (K : Nat) (s t : Bool) (A B : Option Addr) (n c m d : Nat) (x y : Int) (w : World) (hx : IsB w K s A n c x) (hy : IsB w K t B m d y) (hK : K ≤ 1000000) :
  Calls Tryz.prog 74 #[.agg #[.bool s, .slice A n c], .agg #[.bool t, .slice B m d]] w fun e w' => e = .returned (.int .i64 (cmpI x y)) ∧ Below w.heap.size w w' := by
 have HX := hid hx
 have HY := hid hy
 clear hx hy
 go_enter Tryz.func74, Tryz.ntmps74
 go_wp2_with fail
 refine (Ref.sub K s t A B n c m d x y _ ((HX.out.alloc _).alloc _) ((HY.out.alloc _).alloc _) hK).mono ?_
 rintro e w1 ⟨s', A', n', c', rfl, hB, hb⟩
 have HB := hid hB
 clear hB
 go_wp2_with fail
 refine (Ref.sign _ s' A' n' c' _ _ HB.out).mono ?_
 rintro e w2 ⟨rfl, hb2⟩
 go_wp2
 go_ret
 exact ⟨by rw [cmpI_sub]; rfl, (((Below.refl _ _).alloc (Nat.le_refl _) _).alloc (by simp) _).trans ((hb.trans (hb2.mono hb.size)).mono (by simp; omega))⟩
end


section
open Go.RowKit
theorem Own.at {w : World} {base g N : Nat} {ws : List Int} (h : Own w base (some ⟨g, 0, none⟩) N N ws) {j : Nat} (hj : j < N) : w.cell? ⟨g, j, none⟩ = some (.int .i64 (dg ws j)) := by
 have h1 := World.ownsRow.cellAt h j (by omega)
 rw [h1, List.getElem?_map]
 have := h.len
 simp [dg, List.getD, show j < ws.length by omega]
theorem Own.hot {w : World} {base g N : Nat} {ws : List Int} (h : Own w base (some ⟨g, 0, none⟩) N N ws) (j : Nat) : w.frozen? ⟨g, j, none⟩ = false := World.ownsRow.frozenAt h j
theorem Own.put {w : World} {base g N : Nat} {ws : List Int} (h : Own w base (some ⟨g, 0, none⟩) N N ws) (j : Nat) (z : Int) : Own (w.setCell ⟨g, j, none⟩ (.int .i64 z)) base (some ⟨g, 0, none⟩) N N (ws.set j z) := by
 have h1 := (World.ownsRow.stored h j (.int .i64 z)).1
 unfold Own
 rw [List.map_set]
 exact h1
theorem Fresh.setCell {w : World} {g : Nat} (h : Fresh w g) {b : Nat} (hb : b ≠ g) (o : Nat) (v : Value) : Fresh (w.setCell ⟨b, o, none⟩ v) g := by
 have far : ∀ (p : Nat), (w.setCell ⟨b, o, none⟩ v).cell? ⟨g, p, none⟩ = w.cell? ⟨g, p, none⟩ := fun p => World.cell?_setCell_other w ⟨b, o, none⟩ ⟨g, p, none⟩ v (fun e => by injection e with e1; exact hb e1)
 refine ⟨(far 0).trans h.1, (far 1).trans h.2.1, ?_, ?_, fun p k e => h.2.2.2.2 p k ((far p).symm.trans e)⟩
 ·simpa [go_sem] using h.2.2.1
 ·simpa [go_sem] using h.2.2.2.1
def MInv (w0 : World) (s t : Bool) (A B : Option Addr) (n c m d : Nat) (N : Nat) (ws : List Int) (w : World) : Prop :=
 (w.cell? ⟨w0.heap.size, 0, none⟩ = some (.bool s) ∧ w.cell? ⟨w0.heap.size, 1, none⟩ = some (.slice A n c) ∧ w.cell? ⟨w0.heap.size + 1, 0, none⟩ = some (.bool t) ∧ w.cell? ⟨w0.heap.size + 1, 1, none⟩ = some (.slice B m d)) ∧
 Fresh w (w0.heap.size + 2) ∧ Own w (w0.heap.size + 3) (some ⟨w0.heap.size + 3, 0, none⟩) N N ws ∧ Below w0.heap.size w0 w ∧ w0.heap.size + 3 < w.heap.size
theorem MInv.below {w0 : World} {s t : Bool} {A B : Option Addr} {n c m d N : Nat} {ws : List Int} {w w' : World} (h : MInv w0 s t A B n c m d N ws w) (hb : Below w.heap.size w w') : MInv w0 s t A B n c m d N ws w' :=
 ⟨keep4 h.1 hb, h.2.1.below hb, h.2.2.1.below hb, below_keep h.2.2.2.1 hb, Nat.lt_of_lt_of_le h.2.2.2.2 hb.size⟩
theorem MInv.put {w0 : World} {s t : Bool} {A B : Option Addr} {n c m d N : Nat} {ws : List Int} {w : World} (h : MInv w0 s t A B n c m d N ws w) (j : Nat) (z : Int) :
  MInv w0 s t A B n c m d N (ws.set j z) (w.setCell ⟨w0.heap.size + 3, j, none⟩ (.int .i64 z)) := by
 have far : ∀ (b q : Nat) (x : Value), b ≠ w0.heap.size + 3 → w.cell? ⟨b, q, none⟩ = some x → (w.setCell ⟨w0.heap.size + 3, j, none⟩ (.int .i64 z)).cell? ⟨b, q, none⟩ = some x := fun b q x hb hx =>
  (World.cell?_setCell_other w ⟨w0.heap.size + 3, j, none⟩ ⟨b, q, none⟩ _ (fun e => by injection e with e1; exact hb e1.symm)).trans hx
 exact ⟨⟨far _ _ _ (by omega) h.1.1, far _ _ _ (by omega) h.1.2.1, far _ _ _ (by omega) h.1.2.2.1, far _ _ _ (by omega) h.1.2.2.2⟩, h.2.1.setCell (by omega) _ _, h.2.2.1.put _ _, h.2.2.2.1.setCell (show w0.heap.size ≤ w0.heap.size + 3 by omega) _, by simpa using h.2.2.2.2⟩
theorem MInv.drew {w0 : World} {s t : Bool} {A B : Option Addr} {n c m d N : Nat} {ws : List Int} {w : World} (h : MInv w0 s t A B n c m d N ws w) : MInv w0 s t A B n c m d N ws w.drew :=
 ⟨h.1, h.2.1, h.2.2.1, h.2.2.2.1.drew, h.2.2.2.2⟩
theorem mul_sgn {x y X Y V : Int} (s t : Bool) (hx : x = if s = true then -X else X) (hy : y = if t = true then -Y else Y) (hV : V = X * Y) : x * y = if (s != t) = true then -V else V := by
 subst hx hy hV
 cases s <;> cases t <;> simp [Int.neg_mul, Int.mul_neg]
theorem MInv.made {w w1 : World} {s t : Bool} {A B : Option Addr} {n c m d N : Nat} {ty : TypeId} {row : Value}
  (hr : row = .slice (some ⟨(((w.alloc (.cells #[.bool s, .slice A n c] ty)).alloc (.cells #[.bool t, .slice B m d] ty)).alloc (.cells #[.bool false, .slice none 0 0] ty)).heap.size, 0, none⟩) N N)
  (ho : w1.ownsRow (w.heap.size + 3) 3 1 row N (madeCells (Value.int IntKind.i64 0).cells (N * 1)).toList)
  (hg : (((w.alloc (.cells #[.bool s, .slice A n c] ty)).alloc (.cells #[.bool t, .slice B m d] ty)).alloc (.cells #[.bool false, .slice none 0 0] ty)).grownBy w1 none) (hN : 0 < N) :
  MInv w s t A B n c m d N (List.replicate N 0) w1 := by
 obtain ⟨hS, hF⟩ := AddW.new w s t A B n c m d ty
 obtain ⟨W0, hW⟩ : ∃ W0, W0 = ((w.alloc (Obj.cells #[Value.bool s, Value.slice A n c] ty)).alloc (Obj.cells #[Value.bool t, Value.slice B m d] ty)).alloc (Obj.cells #[Value.bool false, Value.slice none 0 0] ty) := ⟨_, rfl⟩
 rw [← hW] at hr hg hS hF
 have hsz : W0.heap.size = w.heap.size + 3 := by rw [hW]; simp
 have hb : Below W0.heap.size W0 w1 := (Below.refl _ W0).grown hg (Nat.le_refl _) (fun k e => by cases e)
 have hown : Own w1 (w.heap.size + 3) (some ⟨w.heap.size + 3, 0, none⟩) N N (List.replicate N 0) := by
  rw [hr, hsz] at ho
  unfold Own
  rw [List.map_replicate]
  have e : (madeCells (Value.int IntKind.i64 0).cells (N * 1)).toList = List.replicate N (Value.int .i64 0) := by
   rw [Nat.mul_one]; exact toList_madeCells_one _ _
  rw [e] at ho
  exact ho
 exact ⟨keep4 hS.1 hb, hF.below hb, hown, below_keep hS.2 hb, World.block_lt_of_cell? w1 _ (hown.at hN)⟩
set_option maxRecDepth 100000 in
set_option maxHeartbeats 4000000 in
theorem Ref.mul (K L : Nat) (s t : Bool) (A B : Option Addr) (n c m d : Nat) (x y : Int) (w : World) (hx : IsB w K s A n c x) (hy : IsB w L t B m d y) (hK : K ≤ 1000000) (hL : L ≤ 1000000) :
  Calls Tryz.prog 75 #[.agg #[.bool s, .slice A n c], .agg #[.bool t, .slice B m d]] w (BAns (K + L + 1) (x * y) w) := by
 obtain ⟨xs, hX, hn, hnc, dX, nX, sX, eX⟩ := hx
 obtain ⟨ys, hY, hm, hmd, dY, nY, sY, eY⟩ := hy
 have HX := hid hX
 have HY := hid hY
 have HD := hid (And.intro dX dY)
 have HE := hid (And.intro eX eY)
 clear hX hY dX dY nX nY sX sY eX eY
 obtain ⟨i0, hi, hz0, hz1, hz2⟩ := info_parts infoInt
 have wN1 : IntKind.i64.wrap ((n : Int) + (m : Int)) = (n : Int) + (m : Int) := by rw [IntKind.wrap_i64]; omega
 have wN2 : IntKind.i64.wrap ((n : Int) + (m : Int) + 1) = (n : Int) + (m : Int) + 1 := by rw [IntKind.wrap_i64]; omega
 go_enter Tryz.func75, Tryz.ntmps75
 go_wp2_with (first | (refine wpList_make_full _ rfl _ _ _ rfl (w.heap.size + 3) 3 i0 (.int .i64 0) 1 Tryz.underlying89 hi hz0 hz1 .i64 .i64 _ _ (n + m + 1) rfl rfl (by simp) (by simp) (by rw [hz2]; omega) (by unfold maxLen; omega) (by simp) ?_; intro w1 hown hgrow; have HM := hid (MInv.made rfl hown hgrow (by omega)); clear hown hgrow; obtain ⟨x0, x1, y0, y1⟩ := HM.out.1))
 clear wN1 wN2
 go_loopg [23] n (fun g r wr => ∃ (i : Nat) (ws : List Int), r = .int .i64 i ∧ g = n - i ∧ i ≤ n ∧ (val ws = val (xs.take i) * val ys ∧ Dg ws ∧ ∀ j, i + m ≤ j → dg ws j = 0) ∧ MInv w s t A B n c m d (n + m + 1) ws wr)
 case atStart =>
  exact ⟨0, _, rfl, rfl, Nat.zero_le _, ⟨by rw [val_nought]; simp [val], Dg.nought _, fun j _ => dg_nought _ _⟩, HM.out⟩
 case round =>
  obtain ⟨i, ws, rfl, hg, hi, hv, hM⟩ := hrel
  have HG := hid hg
  have HV := hid hv
  have HM := hid hM
  clear hg hv hM
  obtain ⟨x0, x1, y0, y1⟩ := HM.out.1
  by_cases hend : i = n
  ·subst hend
   have f1 : ¬ (i : Int) < (i : Int) := by omega
   have HZ := hid (mul_sgn s t HE.out.1 HE.out.2 (show val ws = val xs * val ys by rw [HV.out.1, val_take_all xs (by have := HX.out.1; omega)]))
   go_wp2_with fail
   refine (Ref.trim (K + L + 1) (s != t) _ (i + m + 1) (i + m + 1) ws _ HM.out.2.2.1.rd (by omega) (by omega) (Nat.le_refl _) HV.out.2.1 (x * y) HZ).mono ?_
   rintro e w2 ⟨s', A', n', c', rfl, hB, hb⟩
   have HB := hid hB
   have HF := hid (HM.out.2.1.below hb)
   obtain ⟨t0, t1, t2, t3, _⟩ := HF.out
   clear hB
   go_wp2
   refine bodyPost_ret (v := .agg #[.bool s', .slice A' n' c']) (by simp [results, Tryz.results75, go_sem, t0, t1]) rfl ⟨_, _, _, _, rfl, HB.out.store HF.out.2.2.2.2 _ _ _ _, ?_⟩
   exact ((below_keep HM.out.2.2.2.1 hb).setCell (show w.heap.size ≤ w.heap.size + 2 by omega) _).setCell (show w.heap.size ≤ w.heap.size + 2 by omega) _
  ·have hin : (i : Int) < (n : Int) := by omega
   obtain ⟨b, off, hA, hcx⟩ := (HX.out.below HM.out.2.2.2.1).2 (by omega)
   subst hA
   have hci : wr.cell? ⟨b, off + i, none⟩ = some (.int .i64 (dg xs i)) := hcx i (by omega)
   clear hcx
   obtain ⟨b0, b1⟩ := HD.out.1.dg i
   have wI : IntKind.i64.wrap ((i : Int) + 1) = ((i + 1 : Nat) : Int) := by rw [IntKind.wrap_i64]; omega
   go_wp2_with fail
   go_loopg [8, 9] (m + 1) (fun g cr k2 w2 => ∃ (k : Nat) (cy : Int) (zs : List Int), k2 = .int .i64 k ∧ cr = .int .i64 cy ∧ g = m + 1 - k ∧ k ≤ m + 1 ∧ 0 ≤ cy ∧ cy ≤ 9999 ∧
    (val zs = val ws + 10000 ^ i * (dg xs i * val (ys.take k)) - 10000 ^ (i + k) * cy ∧ Dg zs ∧ (∀ j, i + k ≤ j → dg zs j = dg ws j) ∧ (k = m + 1 → cy = 0) ∧ (∀ j, i + 1 + m ≤ j → dg zs j = 0)) ∧ MInv w s t (some ⟨b, off, none⟩) B n c m d (n + m + 1) zs w2)
   case atStart =>
    exact ⟨0, 0, ws, rfl, rfl, rfl, by omega, by decide, by decide, ⟨by simp [val], HV.out.2.1, fun j _ => rfl, fun _ => rfl, fun j hj => HV.out.2.2 j (by omega)⟩, HM.out⟩
   case round =>
    obtain ⟨k, cy, zs, rfl, rfl, hg, hk, c0, c1, hv, hM⟩ := hrel
    have HG2 := hid hg
    have HV2 := hid hv
    have HM2 := hid hM
    clear hg hv hM
    obtain ⟨x0, x1, y0, y1⟩ := HM2.out.1
    by_cases hend2 : m ≤ k ∧ cy = 0
    ·obtain ⟨e1, rfl⟩ := hend2
     have f1 : ¬ (k : Int) < (m : Int) := by omega
     go_wp2_with fail
     go_roundg (n - (i + 1))
     case measure => have := HG.out; omega
     case rel =>
      exact ⟨i + 1, zs, by first | rfl | go_num, rfl, by omega, ⟨mul_row (by have := HY.out.1; omega) HV2.out.1 HV.out.1, HV2.out.2.1, HV2.out.2.2.2.2⟩, HM2.out⟩
    ·have hkm : k ≤ m := by have := HV2.out.2.2.2.1; omega
     have hcond : (k : Int) < (m : Int) ∨ (¬ (k : Int) < (m : Int) ∧ 0 < cy) := by omega
     obtain ⟨b2, b3⟩ := HD.out.2.dg k
     obtain ⟨j, hj⟩ : ∃ j, j = i + k := ⟨_, rfl⟩
     obtain ⟨b4, b5⟩ := HV2.out.2.1.dg j
     have p0 : 0 ≤ dg xs i * dg ys k := Int.mul_nonneg b0 b2
     have p1 : dg xs i * dg ys k ≤ 9999 * 9999 := Int.le_trans (Int.mul_le_mul_of_nonneg_right b1 b2) (Int.mul_le_mul_of_nonneg_left b3 (by decide))
     have e0 : IntKind.i64.wrap ((i : Int) + (k : Int)) = (j : Int) := by rw [IntKind.wrap_i64]; omega
     have e1 : IntKind.i64.wrap (dg xs i * dg ys k) = dg xs i * dg ys k := by rw [IntKind.wrap_i64]; omega
     have e2 : IntKind.i64.wrap (dg zs j + dg xs i * dg ys k) = dg zs j + dg xs i * dg ys k := by rw [IntKind.wrap_i64]; omega
     have e3 : IntKind.i64.wrap (dg zs j + dg xs i * dg ys k + cy) = dg zs j + dg xs i * dg ys k + cy := by rw [IntKind.wrap_i64]; omega
     have hlt : (j : Int) < (n : Int) + (m : Int) + 1 := by omega
     have hlt0 : (0 : Int) ≤ (j : Int) := by omega
     have hlt1 : j < n + m + 1 := by omega
     have HJ := hid hj
     clear hj
     have z0 : wr.cell? ⟨w.heap.size + 1 + 1 + 1, j, none⟩ = some (.int .i64 (dg zs j)) := HM2.out.2.2.1.at (by omega)
     have hS0 : (wr.cell? ⟨w.heap.size + 1, 0, none⟩ = some (.bool t) ∧ wr.cell? ⟨w.heap.size + 1, 1, none⟩ = some (.slice B m d) ∧ wr.cell? ⟨w.heap.size + 1 + 1 + 1, j, none⟩ = some (.int .i64 (dg zs j)) ∧ wr.cell? ⟨w.heap.size, 0, none⟩ = some (.bool s)) ∧ MInv w s t (some ⟨b, off, none⟩) B n c m d (n + m + 1) zs wr := ⟨⟨y0, y1, z0, x0⟩, HM2.out⟩
     have HS0 := hid hS0
     clear hS0
     rcases hcond with h1 | ⟨h1, h2⟩
     all_goals
      go_wp2_with fail
      go_region_held3 (fun w' => (w'.cell? ⟨w.heap.size + 1, 0, none⟩ = some (.bool t) ∧ w'.cell? ⟨w.heap.size + 1, 1, none⟩ = some (.slice B m d) ∧ w'.cell? ⟨w.heap.size + 1 + 1 + 1, j, none⟩ = some (.int .i64 (dg zs j)) ∧ w'.cell? ⟨w.heap.size, 0, none⟩ = some (.bool s)) ∧ MInv w s t (some ⟨b, off, none⟩) B n c m d (n + m + 1) zs w')
       (first | exact ⟨HS0.out.1, HS0.out.2.drew⟩ | exact keepP (by assumption) hb2 (fun h => MInv.below h hb2))
       (first | (go_at_call 94; refine (Ref.digit t B m d k ys _ (HY.out.below (And.right (by assumption : (_ ∧ _ ∧ _ ∧ _) ∧ MInv w s t (some ⟨b, off, none⟩) B n c m d (n + m + 1) zs _)).2.2.2.1) (by omega) (by omega)).mono ?_; rintro e w2 ⟨rfl, hb2⟩))
      obtain ⟨⟨_, _, z2, _⟩, hP3⟩ : (w2.cell? ⟨w.heap.size + 1, 0, none⟩ = some (.bool t) ∧ w2.cell? ⟨w.heap.size + 1, 1, none⟩ = some (.slice B m d) ∧ w2.cell? ⟨w.heap.size + 1 + 1 + 1, j, none⟩ = some (.int .i64 (dg zs j)) ∧ w2.cell? ⟨w.heap.size, 0, none⟩ = some (.bool s)) ∧ MInv w s t (some ⟨b, off, none⟩) B n c m d (n + m + 1) zs w2 := by assumption
      have HP3 := hid hP3
      have z3 : w2.frozen? ⟨w.heap.size + 1 + 1 + 1, j, none⟩ = false := hP3.2.2.1.hot _
      have s0 : 0 ≤ dg zs j + dg xs i * dg ys k + cy := by omega
      have s1 : dg zs j + dg xs i * dg ys k + cy ≤ 99999999 := by omega
      clear hP3 hb2 e1 e2 e3
      go_wp2_with fail
      go_roundg (m + 1 - (k + 1))
      case measure => have := HG2.out; omega
      case rel =>
       have hj := HJ.out
       subst hj
       refine ⟨k + 1, (dg zs (i + k) + dg xs i * dg ys k + cy) / 10000, zs.set (i + k) ((dg zs (i + k) + dg xs i * dg ys k + cy) % 10000), by go_num, rfl, rfl, by omega, by omega, by omega,
        ⟨mul_step (by have := HP3.out.2.2.1.len; omega) HV2.out.1 rfl, HV2.out.2.1.set _ (by omega) (by omega), fun l hl => ?_, fun hk1 => ?_, fun l hl => ?_⟩, HP3.out.put _ _⟩
       ·rw [dg_set_other _ _ _ _ (by omega)]; exact HV2.out.2.2.1 l (by omega)
       ·have a1 : dg zs (i + k) = 0 := by rw [HV2.out.2.2.1 _ (Nat.le_refl _)]; exact HV.out.2.2 _ (by omega)
        have a2 : dg ys k = 0 := dg_ge (by have := HY.out.1; omega)
        rw [a1, a2, Int.mul_zero]; omega
       ·rw [dg_set_other _ _ _ _ (by omega)]; exact HV2.out.2.2.2.2 l hl
end


section
open Go.RowKit
theorem NoInt.store {w : World} {g : Nat} (h : NoInt w g) {u0 u1 : Value} (x0 : w.cell? ⟨g, 0, none⟩ = some u0) (x1 : w.cell? ⟨g, 1, none⟩ = some u1) (s : Bool) (A : Option Addr) (n c : Nat) :
  NoInt ((w.setCell ⟨g, 0, none⟩ (.bool s)).setCell ⟨g, 1, none⟩ (.slice A n c)) g := by
 intro o k e
 by_cases e1 : o = 1
 ·subst e1; simp [go_sem, x1] at e
 ·rw [World.cell?_setCell_other _ ⟨g, 1, none⟩ ⟨g, o, none⟩ _ (fun e => by injection e with _ e2; exact e1 e2.symm)] at e
  by_cases e0 : o = 0
  ·subst e0; simp [go_sem, x0] at e
  ·rw [World.cell?_setCell_other _ ⟨g, 0, none⟩ ⟨g, o, none⟩ _ (fun e => by injection e with _ e2; exact e0 e2.symm)] at e
   exact h o k e
def Var (w : World) (g : Nat) (s : Bool) (A : Option Addr) (n c : Nat) : Prop := w.cell? ⟨g, 0, none⟩ = some (.bool s) ∧ w.cell? ⟨g, 1, none⟩ = some (.slice A n c) ∧ w.frozen? ⟨g, 0, none⟩ = false ∧ w.frozen? ⟨g, 1, none⟩ = false ∧ NoInt w g
theorem Var.below {w w' : World} {g : Nat} {s : Bool} {A : Option Addr} {n c : Nat} (h : Var w g s A n c) (hb : Below w.heap.size w w') : Var w' g s A n c := by
 have hg := World.block_lt_of_cell? w _ h.1
 exact ⟨keep1 hb h.1, keep1 hb h.2.1, (hb.frozen (p := ⟨g, 0, none⟩) hg).trans h.2.2.1, (hb.frozen (p := ⟨g, 1, none⟩) hg).trans h.2.2.2.1, h.2.2.2.2.below hg hb⟩
theorem Var.new (w : World) (t : TypeId) (s : Bool) (A : Option Addr) (n c : Nat) : Var (w.alloc (.cells #[.bool s, .slice A n c] t)) w.heap.size s A n c :=
 ⟨by simp [go_sem], by simp [go_sem], by simp [go_sem], by simp [go_sem], NoInt.new _ _ _ _ _ _⟩
theorem Var.store {w : World} {g : Nat} {s : Bool} {A : Option Addr} {n c : Nat} (h : Var w g s A n c) (s' : Bool) (A' : Option Addr) (n' c' : Nat) : Var ((w.setCell ⟨g, 0, none⟩ (.bool s')).setCell ⟨g, 1, none⟩ (.slice A' n' c')) g s' A' n' c' :=
 ⟨by simp [go_sem, h.1], by simp [go_sem, h.2.1], by simp [go_sem, h.2.2.1], by simp [go_sem, h.2.2.2.1], h.2.2.2.2.store h.1 h.2.1 _ _ _ _⟩
set_option maxRecDepth 100000 in
set_option maxHeartbeats 4000000 in
theorem Ref.power (N : Nat) (hN : N ≤ 1000) (w : World) :
  Calls Tryz.prog 91 #[.int .i64 N] w (BAns (5 + N) (2 ^ N) w) := by
 go_enter Tryz.func91, Tryz.ntmps91
 go_wp2_with fail
 refine (Ref.N 1 (by decide) (by decide) _).mono ?_
 rintro e w1 ⟨s1, A1, n1, c1, rfl, hB1, hb1⟩
 have hF := (Fresh.new w 98).below hb1
 have hlt : w.heap.size < w1.heap.size := World.block_lt_of_cell? w1 _ hF.1
 have HB1 := hid hB1
 have HF := hid hF
 have HBW := hid (((Below.refl _ w).alloc (Nat.le_refl _) (Obj.cells #[Value.bool false, Value.slice none 0 0] 98)).trans (hb1.mono (by simp)))
 clear hB1 hb1 hF
 go_wp2_with fail
 go_loopg [4] N (fun g i wr => ∃ (k : Nat) (s : Bool) (A : Option Addr) (n c : Nat), i = .int .i64 k ∧ g = N - k ∧ k ≤ N ∧ IsB wr (5 + k) s A n c (2 ^ k) ∧ Var wr w1.heap.size s A n c ∧ Fresh wr w.heap.size ∧ Below w.heap.size w wr)
 case atStart =>
  have hba := (Below.refl _ w1).alloc (Nat.le_refl _) (Obj.cells #[.bool s1, .slice A1 n1 c1] 98)
  exact ⟨0, s1, A1, n1, c1, rfl, rfl, Nat.zero_le _, HB1.out.alloc _, Var.new _ _ _ _ _ _, HF.out.below hba, below_keep HBW.out hba⟩
 case round =>
  obtain ⟨k, s, A, n, c, rfl, hg, hk, hB, hV, hF, hb⟩ := hrel
  have HG := hid hg
  have HB := hid hB
  have HV := hid hV
  have HF := hid hF
  have HBW := hid hb
  obtain ⟨x0, x1, _⟩ := hV
  clear hg hB hF hb
  by_cases hend : k = N
  ·subst hend
   have f1 : ¬ (k : Int) < (k : Int) := by omega
   obtain ⟨t0, t1, t2, t3, _⟩ := HF.out
   go_wp2_with fail
   exact bodyPost_ret (v := .agg #[.bool s, .slice A n c]) (by simp [results, Tryz.results91, go_sem, t0, t1]) rfl ⟨_, _, _, _, rfl, HB.out.store HF.out.2.2.2.2 _ _ _ _, (HBW.out.setCell (Nat.le_refl _) _).setCell (Nat.le_refl _) _⟩
  ·have h1 : (k : Int) < (N : Int) := by omega
   go_wp2_with fail
   refine (Ref.add (5 + k) s s A A n c n c _ _ _ HB.out HB.out (by omega)).mono ?_
   rintro e w2 ⟨s', A', n', c', rfl, hB2, hb2⟩
   have HB2 := hid hB2
   have HV2 := hid (HV.out.below hb2)
   have HF2 := hid (HF.out.below hb2)
   have HBW2 := hid (below_keep HBW.out hb2)
   clear hB2 hb2
   obtain ⟨y0, y1, y2, y3, _⟩ := HV2.out
   have wk : IntKind.i64.wrap ((k : Int) + 1) = ((k + 1 : Nat) : Int) := by rw [IntKind.wrap_i64]; omega
   go_wp2_with fail
   go_roundg (N - (k + 1))
   case measure => have := HG.out; omega
   case rel =>
    have e2 : (2 : Int) ^ k + 2 ^ k = 2 ^ (k + 1) := by rw [Int.pow_succ]; omega
    exact ⟨k + 1, s', A', n', c', by first | rfl | go_num, rfl, by omega, e2 ▸ HB2.out.store HV2.out.2.2.2.2 _ _ _ _, HV2.out.store _ _ _ _, (HF2.out.setCell (by omega) _ _).setCell (by omega) _ _, (HBW2.out.setCell (by simp; omega) _).setCell (by simp; omega) _⟩
end

end Go.Proofs.YtbcepkfdlaioaaaGreat

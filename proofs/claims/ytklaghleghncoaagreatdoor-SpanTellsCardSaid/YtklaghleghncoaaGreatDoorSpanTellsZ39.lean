/- Texts of SpanTells's proof, together. -/
import Derived.Test.YtklaghleghncoaaGreatDoorOrdG
import Derived.Test.YtklaghleghncoaaGreatDoorSpanTellsZ24
import Derived.Test.YtklaghleghncoaaGreatDoorSpanTellsZ25
import Derived.Test.YtklaghleghncoaaGreatDoorSpanTellsZ26
import Derived.Test.YtklaghleghncoaaGreatDoorSpanTellsZ27
import Derived.Test.YtklaghleghncoaaGreatDoorSpanTellsZ34
import Derived.Test.YtklaghleghncoaaGreatDoorSpanTellsZ12
import Derived.Test.YtklaghleghncoaaGreatDoorSpanTellsZ35
import Derived.Test.YtklaghleghncoaaGreatDoorOpenI
import Derived.Test.YtklaghleghncoaaGreatDoorSpanTellsZ28
import Derived.Deep.SlicePairs
namespace Go.Proofs.YtklaghleghncoaaGreatDoor
/- Variables that hold Bigs, stored whole; the document's means. -/
section
open Go.RowKit
theorem infoBig : (Tryz.prog.info? 41).map (·.size) = some 2 := by kernel_rfl
theorem Rd.setCells {A : Option Addr} {n : Nat} {zs : List Int} {g : Nat} : ∀ (vs : List Value) (o : Nat) {w : World}, (∀ b off, A = some ⟨b, off, none⟩ → 0 < n → b ≠ g) → Rd w A n zs → Rd (w.setCells g o vs) A n zs
  | [], _, _, _, h => h
  | v :: r, o, _, hne, h => Rd.setCells r (o + 1) hne (h.setCell hne o v)
theorem IsB.sets {w : World} {L : Nat} {s : Bool} {A : Option Addr} {n c : Nat} {z : Int} (h : IsB w L s A n c z) {g : Nat} (hg : NoInt w g) (o : Nat) (vs : List Value) : IsB (w.setCells g o vs) L s A n c z := by
  obtain ⟨zs, h1, h2⟩ := h
  exact ⟨zs, Rd.setCells vs o (h1.ne_block hg) h1, h2⟩
theorem Var.cs {w : World} {g : Nat} {s : Bool} {A : Option Addr} {n c : Nat} (h : Var w g s A n c) : Cs w g [.bool s, .slice A n c] := fun i v hv => by
  rcases i with _ | _ | i
  · injection hv with hv; subst hv; exact ⟨h.1, h.2.2.1⟩
  · injection hv with hv; subst hv; exact ⟨h.2.1, h.2.2.2.1⟩
  · cases hv
theorem Var.sets {w : World} {g : Nat} {s : Bool} {A : Option Addr} {n c : Nat} (h : Var w g s A n c) (s' : Bool) (A' : Option Addr) (n' c' : Nat) : Var (w.setCells g 0 [.bool s', .slice A' n' c']) g s' A' n' c' := h.store s' A' n' c'
theorem Var.finB {w W : World} {g : Nat} {s0 : Bool} {A0 : Option Addr} {n0 c0 : Nat} (hv : Var W g s0 A0 n0 c0) (hb : Below w.heap.size w W) (hg : w.heap.size ≤ g) {L : Nat} {s : Bool} {A : Option Addr} {n c : Nat} {z : Int} (h : IsB W L s A n c z) :
    IsB ((W.setCell ⟨g, 0, none⟩ (.bool s)).setCell ⟨g, 1, none⟩ (.slice A n c)) L s A n c z ∧ Below w.heap.size w ((W.setCell ⟨g, 0, none⟩ (.bool s)).setCell ⟨g, 1, none⟩ (.slice A n c)) :=
  ⟨h.storeV hv _ _ _ _, (hb.setCell hg _).setCell hg _⟩
theorem Var.fars {g : Nat} {s : Bool} {A : Option Addr} {n c : Nat} {b : Nat} (hb : b ≠ g) : ∀ (vs : List Value) (o : Nat) {w : World}, Var w g s A n c → Var (w.setCells b o vs) g s A n c
  | [], _, _, h => h
  | v :: r, o, _, h => Var.fars hb r (o + 1) (h.far1 hb o v)
/-- A mean of the document's: its numbers, and its sum's parts. -/
abbrev rmV (m : Mu) (x : Bq) : Value := .agg #[.int .u64 m.b, .bool x.1, .slice x.2.1 x.2.2.1 x.2.2.2, .int .u64 m.w, .int .i64 m.n]
def rmC (m : Mu) (x : Bq) : List Value := [.int .u64 m.b, .bool x.1, .slice x.2.1 x.2.2.1 x.2.2.2, .int .u64 m.w, .int .i64 m.n]
theorem infoRm : (Tryz.prog.info? 43).map (·.size) = some 5 := by kernel_rfl
theorem rm_at {w : World} {g : Nat} {m : Mu} {x : Bq} (h : Cs w g (rmC m x)) : w.cell? ⟨g, 0, none⟩ = some (.int .u64 m.b) ∧ w.cell? ⟨g, 1, none⟩ = some (.bool x.1) ∧ w.cell? ⟨g, 2, none⟩ = some (.slice x.2.1 x.2.2.1 x.2.2.2) ∧ w.cell? ⟨g, 3, none⟩ = some (.int .u64 m.w) ∧ w.cell? ⟨g, 4, none⟩ = some (.int .i64 m.n) := ⟨h.at0, h.at1, h.at2, h.at3, h.at4⟩
def rmZ : List Value := [.int .u64 0, .bool false, .slice none 0 0, .int .u64 0, .int .i64 0]
end

/- Sums of the document's answer whose digits are their own: what is stored over later can't be theirs. -/
section
open Go.RowKit
/-- Digits that lie in no block below base. -/
def frA (base : Nat) (A : Option Addr) (n : Nat) : Prop := ∀ b off, A = some ⟨b, off, none⟩ → 0 < n → base ≤ b
theorem frA.mono {base base' : Nat} {A : Option Addr} {n : Nat} (h : frA base A n) (hb : base' ≤ base) : frA base' A n := fun b off e hn => Nat.le_trans hb (h b off e hn)
theorem frA.zero (base : Nat) : frA base none 0 := fun _ _ e => by cases e
theorem Own.fr {w : World} {base : Nat} {A : Option Addr} {n c : Nat} {zs : List Int} (h : Own w base A n c zs) : frA base A n := fun b off e _ => h.rowGe b (by subst e; first | rfl | simp [Value.ownBlock])
def SAnsF (M : Nat) (v : Int) (w : World) (e : Ending) (w' : World) : Prop :=
  ∃ (A : Option Addr) (n c : Nat) (zs : List Int), e = .returned (.slice A n c) ∧ (Rd w' A n zs ∧ n ≤ M ∧ n ≤ c ∧ Dg zs ∧ val zs = v) ∧ Below w.heap.size w w' ∧ frA w.heap.size A n
def BAnsF (base : Nat) (L : Nat) (z : Int) (w : World) (e : Ending) (w' : World) : Prop :=
  ∃ (s : Bool) (A : Option Addr) (n c : Nat), e = .returned (.agg #[.bool s, .slice A n c]) ∧ IsB w' L s A n c z ∧ Below w.heap.size w w' ∧ frA base A n
theorem IsB.setF {w : World} {L : Nat} {s : Bool} {A : Option Addr} {n c : Nat} {z : Int} (h : IsB w L s A n c z) {g : Nat} (hg : frA (g + 1) A n) (o : Nat) (vs : List Value) : IsB (w.setCells g o vs) L s A n c z := by
  obtain ⟨zs, h1, h2⟩ := h
  exact ⟨zs, Rd.setCells vs o (fun b off e hn hb => by have := hg b off e hn; omega) h1, h2⟩
set_option maxRecDepth 100000 in
set_option maxHeartbeats 4000000 in
theorem Ref.plusF (s t : Bool) (A B : Option Addr) (n c m d : Nat) (xs ys : List Int) (w : World) (hx : Rd w A n xs) (hy : Rd w B m ys) (dx : Dg xs) (dy : Dg ys) (K : Nat) (hn : n ≤ K) (hm : m ≤ K) (hK : K ≤ 1000000) :
    Calls Tryz.prog 116 #[.agg #[.bool s, .slice A n c], .agg #[.bool t, .slice B m d]] w (SAnsF (K + 1) (val xs + val ys) w) := by
  have HX := hid hx
  have HY := hid hy
  have DX := hid dx
  have DY := hid dy
  clear hx hy dx dy
  go_enter Tryz.func116, Tryz.ntmps116
  go_wp2_with fail
  go_loopg [5, 6, 7] (K + 1) (fun g o cr i wr => ∃ (k : Nat) (cy : Int) (Ao : Option Addr) (co : Nat) (zs : List Int), i = .int .i64 k ∧ cr = .int .i64 cy ∧ o = .slice Ao k co ∧ g = K + 1 - k ∧ k ≤ K + 1 ∧ 0 ≤ cy ∧ cy ≤ 1 ∧
      (val (xs.take k) + val (ys.take k) = val zs + 10000 ^ k * cy ∧ Dg zs ∧ (k = K + 1 → cy = 0)) ∧
      (wr.cell? ⟨w.heap.size, 0, none⟩ = some (.bool s) ∧ wr.cell? ⟨w.heap.size, 1, none⟩ = some (.slice A n c) ∧ wr.cell? ⟨w.heap.size + 1, 0, none⟩ = some (.bool t) ∧ wr.cell? ⟨w.heap.size + 1, 1, none⟩ = some (.slice B m d)) ∧
      PInv w A n xs B m ys Ao k co zs wr)
  case atStart =>
    exact ⟨0, 0, none, 0, [], rfl, rfl, rfl, rfl, by omega, by decide, by decide, ⟨by simp [val], Dg.nil, fun _ => rfl⟩, ⟨by simp [go_sem], by simp [go_sem], by simp [go_sem], by simp [go_sem]⟩, ⟨(HX.out.alloc _).alloc _, (HY.out.alloc _).alloc _, Own.nil _ _, ((Below.refl _ _).alloc (Nat.le_refl _) _).alloc (by simp) _⟩⟩
  case round =>
    obtain ⟨k, cy, Ao, co, zs, rfl, rfl, rfl, hg, hk, c0, c1, hv, hS, hp⟩ := hrel
    have HG := hid hg
    have HV := hid hv
    have HP := hid hp
    have HC := hid hS
    obtain ⟨x0, x1, y0, y1⟩ := hS
    clear hg hv hp
    have hlen := HP.out.2.2.1.len
    by_cases hend : n ≤ k ∧ m ≤ k ∧ cy = 0
    · obtain ⟨e1, e2, rfl⟩ := hend
      have f1 : ¬ (k : Int) < (n : Int) := by omega
      have f2 : ¬ (k : Int) < (m : Int) := by omega
      go_wp2_with fail
      go_ret
      refine ⟨Ao, k, co, zs, rfl, ⟨HP.out.2.2.1.rd, hk, HP.out.2.2.1.cap, HV.out.2.1, ?_⟩, HP.out.2.2.2, (Own.fr HP.out.2.2.1).mono (by omega)⟩
      have h1 := HV.out.1
      rw [val_take_all xs (by have := HX.out.1; omega), val_take_all ys (by have := HY.out.1; omega)] at h1
      omega
    · have hkK : k ≤ K := by have := HV.out.2.2; omega
      have hcond : (k : Int) < (n : Int) ∨ (¬ (k : Int) < (n : Int) ∧ (k : Int) < (m : Int)) ∨ (¬ (k : Int) < (n : Int) ∧ ¬ (k : Int) < (m : Int) ∧ 0 < cy) := by omega
      clear hend
      obtain ⟨b0, b1⟩ := DX.out.dg k
      obtain ⟨b2, b3⟩ := DY.out.dg k
      have e1 : IntKind.i64.wrap (dg xs k + dg ys k) = dg xs k + dg ys k := by rw [IntKind.wrap_i64]; omega
      have e2 : IntKind.i64.wrap (dg xs k + dg ys k + cy) = dg xs k + dg ys k + cy := by rw [IntKind.wrap_i64]; omega
      have hS0 : (wr.cell? ⟨w.heap.size, 0, none⟩ = some (.bool s) ∧ wr.cell? ⟨w.heap.size, 1, none⟩ = some (.slice A n c) ∧ wr.cell? ⟨w.heap.size + 1, 0, none⟩ = some (.bool t) ∧ wr.cell? ⟨w.heap.size + 1, 1, none⟩ = some (.slice B m d)) ∧ PInv w A n xs B m ys Ao k co zs wr := ⟨HC.out, HP.out⟩
      have HS0 := hid hS0
      clear hS0
      rcases hcond with h1 | ⟨h1, h2⟩ | ⟨h1, h2, h3⟩
      all_goals
        go_wp2_with fail
        go_region_held3 (fun w' => (w'.cell? ⟨w.heap.size, 0, none⟩ = some (.bool s) ∧ w'.cell? ⟨w.heap.size, 1, none⟩ = some (.slice A n c) ∧ w'.cell? ⟨w.heap.size + 1, 0, none⟩ = some (.bool t) ∧ w'.cell? ⟨w.heap.size + 1, 1, none⟩ = some (.slice B m d)) ∧ PInv w A n xs B m ys Ao k co zs w')
          (first | exact ⟨HS0.out.1, HS0.out.2.drew⟩ | exact keepP (by assumption) hb2 (fun h => PInv.below h hb2))
          (first
            | (go_at_call_of 153 (Value.agg #[.bool s, .slice A n c]); refine (Ref.digit s A n c k xs _ (And.left (And.right (by assumption : (_ ∧ _ ∧ _ ∧ _) ∧ PInv w A n xs B m ys Ao k co zs _))) (by omega) (by omega)).mono ?_; rintro e w2 ⟨rfl, hb2⟩)
            | (go_at_call_of 153 (Value.agg #[.bool t, .slice B m d]); refine (Ref.digit t B m d k ys _ (And.left (And.right (And.right (by assumption : (_ ∧ _ ∧ _ ∧ _) ∧ PInv w A n xs B m ys Ao k co zs _)))) (by omega) (by omega)).mono ?_; rintro e w2 ⟨rfl, hb2⟩))
        obtain ⟨⟨x0, x1, y0, y1⟩, hP3⟩ : (w2.cell? ⟨w.heap.size, 0, none⟩ = some (.bool s) ∧ w2.cell? ⟨w.heap.size, 1, none⟩ = some (.slice A n c) ∧ w2.cell? ⟨w.heap.size + 1, 0, none⟩ = some (.bool t) ∧ w2.cell? ⟨w.heap.size + 1, 1, none⟩ = some (.slice B m d)) ∧ PInv w A n xs B m ys Ao k co zs w2 := by assumption
        have HP3 := hid hP3
        have hsz : w.heap.size + 1 < w2.heap.size := World.block_lt_of_cell? w2 _ y0
        have s0 : 0 ≤ dg xs k + dg ys k + cy := by omega
        have s1 : dg xs k + dg ys k + cy ≤ 19999 := by omega
        clear hP3 hb2 e1 e2
        go_wp2_with (first | (at_builtin; refine wpList_append_int _ rfl (.tmp 36) (.tmp 39) rfl (w.heap.size + 2) Ao k co zs rfl (HP3.out.2.2.1.alloc _) w2.heap.size ((dg xs k + dg ys k + cy) % 10000) rfl (by simp) (by omega) (by simp; omega) ?_; intro A' c' w3 hown hgrow; have HO := hid hown; have HGR := hid hgrow; clear hown hgrow))
        go_roundg (K + 1 - (k + 1))
        case measure => have := HG.out; omega
        case rel =>
          have hrow : ∀ g, g < w.heap.size + 2 → some g ≠ (Value.slice Ao k co).ownBlock := fun g hg => HP3.out.2.2.1.row hg
          have hbel : Below w.heap.size w w3 := (HP3.out.2.2.2.alloc HP3.out.2.2.2.size _).grown HGR.out (by have := HP3.out.2.2.2.size; simp; omega) (fun g hg => by have := HP3.out.2.2.1.rowGe g hg; omega)
          refine ⟨k + 1, (dg xs k + dg ys k + cy) / 10000, A', c', zs ++ [(dg xs k + dg ys k + cy) % 10000], by go_num, rfl, rfl, rfl, by omega, by omega, by omega, ⟨plus_step hlen HV.out.1, HV.out.2.1.append (Dg.one (by omega) (by omega)), ?_⟩,
            ⟨far1 x0 HGR.out (hrow _ (by omega)), far1 x1 HGR.out (hrow _ (by omega)), far1 y0 HGR.out (hrow _ (by omega)), far1 y1 HGR.out (hrow _ (by omega))⟩, HX.out.below hbel, HY.out.below hbel, HO.out, hbel⟩
          intro hk1
          have a1 : dg xs k = 0 := dg_ge (by have := HX.out.1; omega)
          have a2 : dg ys k = 0 := dg_ge (by have := HY.out.1; omega)
          omega
set_option maxRecDepth 100000 in
set_option maxHeartbeats 4000000 in
theorem Ref.minusF (s t : Bool) (A B : Option Addr) (n c m d : Nat) (xs ys : List Int) (w : World) (hx : Rd w A n xs) (hy : Rd w B m ys) (dx : Dg xs) (dy : Dg ys) (hmn : m ≤ n) (hle : val ys ≤ val xs) (hK : n ≤ 1000000) :
    Calls Tryz.prog 118 #[.agg #[.bool s, .slice A n c], .agg #[.bool t, .slice B m d]] w (SAnsF n (val xs - val ys) w) := by
  have HX := hid hx
  have HY := hid hy
  have DX := hid dx
  have DY := hid dy
  have HLE := hid hle
  clear hx hy dx dy hle
  go_enter Tryz.func118, Tryz.ntmps118
  go_wp2_with fail
  go_loopg [5, 6, 7] n (fun g o cr i wr => ∃ (k : Nat) (bw : Int) (Ao : Option Addr) (co : Nat) (zs : List Int), i = .int .i64 k ∧ cr = .int .i64 bw ∧ o = .slice Ao k co ∧ g = n - k ∧ k ≤ n ∧ 0 ≤ bw ∧ bw ≤ 1 ∧
      (val (xs.take k) - val (ys.take k) = val zs - 10000 ^ k * bw ∧ Dg zs) ∧
      (wr.cell? ⟨w.heap.size, 0, none⟩ = some (.bool s) ∧ wr.cell? ⟨w.heap.size, 1, none⟩ = some (.slice A n c) ∧ wr.cell? ⟨w.heap.size + 1, 0, none⟩ = some (.bool t) ∧ wr.cell? ⟨w.heap.size + 1, 1, none⟩ = some (.slice B m d)) ∧
      PInv w A n xs B m ys Ao k co zs wr)
  case atStart =>
    exact ⟨0, 0, none, 0, [], rfl, rfl, rfl, rfl, by omega, by decide, by decide, ⟨by simp [val], Dg.nil⟩, ⟨by simp [go_sem], by simp [go_sem], by simp [go_sem], by simp [go_sem]⟩, ⟨(HX.out.alloc _).alloc _, (HY.out.alloc _).alloc _, Own.nil _ _, ((Below.refl _ _).alloc (Nat.le_refl _) _).alloc (by simp) _⟩⟩
  case round =>
    obtain ⟨k, bw, Ao, co, zs, rfl, rfl, rfl, hg, hk, c0, c1, hv, hS, hp⟩ := hrel
    have HG := hid hg
    have HV := hid hv
    have HP := hid hp
    have HC := hid hS
    obtain ⟨x0, x1, y0, y1⟩ := hS
    clear hg hv hp
    have hlen := HP.out.2.2.1.len
    by_cases hend : n ≤ k
    · have f1 : ¬ (k : Int) < (n : Int) := by omega
      go_wp2_with fail
      go_ret
      obtain rfl : k = n := by omega
      exact ⟨Ao, k, co, zs, rfl, ⟨HP.out.2.2.1.rd, Nat.le_refl _, HP.out.2.2.1.cap, HV.out.2, minus_end (by have := HX.out.1; omega) (by have := HY.out.1; omega) hlen HV.out.2 HV.out.1 (by omega) HLE.out⟩, HP.out.2.2.2, (Own.fr HP.out.2.2.1).mono (by omega)⟩
    · have h1 : (k : Int) < (n : Int) := by omega
      have hk0 : (0 : Int) ≤ (k : Int) := by omega
      obtain ⟨b, off, rfl, hcell⟩ := HP.out.1.2 (by omega)
      have hcd : wr.cell? ⟨b, off + k, none⟩ = some (.int .i64 (dg xs k)) := hcell k (by omega)
      have HCD := hid hcd
      clear hcell hend
      obtain ⟨b0, b1⟩ := DX.out.dg k
      obtain ⟨b2, b3⟩ := DY.out.dg k
      have e1 : IntKind.i64.wrap (dg xs k - dg ys k) = dg xs k - dg ys k := by rw [IntKind.wrap_i64]; omega
      have e2 : IntKind.i64.wrap (dg xs k - dg ys k - bw) = dg xs k - dg ys k - bw := by rw [IntKind.wrap_i64]; omega
      have HS0 := hid (show (wr.cell? ⟨w.heap.size, 1, none⟩ = some (.slice (some ⟨b, off, none⟩) n c) ∧ wr.cell? ⟨b, off + k, none⟩ = some (.int .i64 (dg xs k)) ∧ wr.cell? ⟨w.heap.size + 1, 0, none⟩ = some (.bool t) ∧ wr.cell? ⟨w.heap.size + 1, 1, none⟩ = some (.slice B m d)) ∧ PM s w (some ⟨b, off, none⟩) n xs B m ys Ao k co zs wr from ⟨⟨HC.out.2.1, hcd, HC.out.2.2.1, HC.out.2.2.2⟩, HC.out.1, HP.out⟩)
      go_wp2_with fail
      go_region_held3 (fun w' => (w'.cell? ⟨w.heap.size, 1, none⟩ = some (.slice (some ⟨b, off, none⟩) n c) ∧ w'.cell? ⟨b, off + k, none⟩ = some (.int .i64 (dg xs k)) ∧ w'.cell? ⟨w.heap.size + 1, 0, none⟩ = some (.bool t) ∧ w'.cell? ⟨w.heap.size + 1, 1, none⟩ = some (.slice B m d)) ∧ PM s w (some ⟨b, off, none⟩) n xs B m ys Ao k co zs w')
        (first | exact ⟨HS0.out.1, HS0.out.2.1, HS0.out.2.2.drew⟩ | exact keepP (by assumption) hb2 (fun h => PM.below h hb2))
        (first
          | (go_at_call_of 153 (Value.agg #[.bool t, .slice B m d]); refine (Ref.digit t B m d k ys _ (And.left (And.right (And.right (And.right (by assumption : (_ ∧ _ ∧ _ ∧ _) ∧ PM s w (some ⟨b, off, none⟩) n xs B m ys Ao k co zs _))))) (by omega) (by omega)).mono ?_; rintro e w2 ⟨rfl, hb2⟩))
      obtain ⟨⟨x1, xd, y0, y1⟩, x0, hP3⟩ : (w2.cell? ⟨w.heap.size, 1, none⟩ = some (.slice (some ⟨b, off, none⟩) n c) ∧ w2.cell? ⟨b, off + k, none⟩ = some (.int .i64 (dg xs k)) ∧ w2.cell? ⟨w.heap.size + 1, 0, none⟩ = some (.bool t) ∧ w2.cell? ⟨w.heap.size + 1, 1, none⟩ = some (.slice B m d)) ∧ PM s w (some ⟨b, off, none⟩) n xs B m ys Ao k co zs w2 := by assumption
      have HP3 := hid hP3
      have hsz : w.heap.size + 1 < w2.heap.size := World.block_lt_of_cell? w2 _ y0
      clear hP3 hb2 e1 e2
      by_cases hneg : dg xs k - dg ys k - bw < 0
      · go_wp2_with (first | (at_builtin; refine wpList_append_int _ rfl (.tmp 31) (.tmp 33) rfl (w.heap.size + 2) Ao k co zs rfl (HP3.out.2.2.1.alloc _) w2.heap.size (dg xs k - dg ys k - bw + 10000) rfl (by simp) (by omega) (by simp; omega) ?_; intro A' c' w3 hown hgrow; have HO := hid hown; have HGR := hid hgrow; clear hown hgrow))
        go_roundg (n - (k + 1))
        case measure => have := HG.out; omega
        case rel =>
          have hrow : ∀ g, g < w.heap.size + 2 → some g ≠ (Value.slice Ao k co).ownBlock := fun g hg => HP3.out.2.2.1.row hg
          have hbel : Below w.heap.size w w3 := (HP3.out.2.2.2.alloc HP3.out.2.2.2.size _).grown HGR.out (by have := HP3.out.2.2.2.size; simp; omega) (fun g hg => by have := HP3.out.2.2.1.rowGe g hg; omega)
          exact ⟨k + 1, 1, A', c', zs ++ [dg xs k - dg ys k - bw + 10000], by go_num, rfl, rfl, rfl, by omega, by decide, by decide, ⟨minus_step hlen HV.out.1 _ _ (by omega), HV.out.2.append (Dg.one (by omega) (by omega))⟩,
            ⟨far1 x0 HGR.out (hrow _ (by omega)), far1 x1 HGR.out (hrow _ (by omega)), far1 y0 HGR.out (hrow _ (by omega)), far1 y1 HGR.out (hrow _ (by omega))⟩, HX.out.below hbel, HY.out.below hbel, HO.out, hbel⟩
      · go_wp2_with (first | (at_builtin; refine wpList_append_int _ rfl (.tmp 31) (.tmp 33) rfl (w.heap.size + 2) Ao k co zs rfl (HP3.out.2.2.1.alloc _) w2.heap.size (dg xs k - dg ys k - bw) rfl (by simp) (by omega) (by simp; omega) ?_; intro A' c' w3 hown hgrow; have HO := hid hown; have HGR := hid hgrow; clear hown hgrow))
        go_roundg (n - (k + 1))
        case measure => have := HG.out; omega
        case rel =>
          have hrow : ∀ g, g < w.heap.size + 2 → some g ≠ (Value.slice Ao k co).ownBlock := fun g hg => HP3.out.2.2.1.row hg
          have hbel : Below w.heap.size w w3 := (HP3.out.2.2.2.alloc HP3.out.2.2.2.size _).grown HGR.out (by have := HP3.out.2.2.2.size; simp; omega) (fun g hg => by have := HP3.out.2.2.1.rowGe g hg; omega)
          exact ⟨k + 1, 0, A', c', zs ++ [dg xs k - dg ys k - bw], by go_num, rfl, rfl, rfl, by omega, by decide, by decide, ⟨minus_step hlen HV.out.1 _ _ (by omega), HV.out.2.append (Dg.one (by omega) (by omega))⟩,
            ⟨far1 x0 HGR.out (hrow _ (by omega)), far1 x1 HGR.out (hrow _ (by omega)), far1 y0 HGR.out (hrow _ (by omega)), far1 y1 HGR.out (hrow _ (by omega))⟩, HX.out.below hbel, HY.out.below hbel, HO.out, hbel⟩
set_option maxHeartbeats 2000000 in
theorem Ref.trimF (L : Nat) (s : Bool) (A : Option Addr) (n c : Nat) (zs : List Int) (w : World) (hr : Rd w A n zs) (hL : n ≤ L) (hL2 : L ≤ 4000000) (hc : n ≤ c) (hd : Dg zs) (z : Int) (base : Nat) (hF : frA base A n) (HZ : Hid (z = if s then -val zs else val zs)) :
    Calls Tryz.prog 115 #[.agg #[.bool s, .slice A n c]] w (BAnsF base L z w) := by
  have HFR := hid hF
  have HR := hid hr
  have HD := hid hd
  clear hr hd hF
  go_enter Tryz.func115, Tryz.ntmps115
  go_wp2_with fail
  go_loopg [] n (fun g wr => ∃ k : Nat, g = k ∧ k ≤ n ∧ wr.cell? ⟨w.heap.size, 0, none⟩ = some (.bool s) ∧ wr.cell? ⟨w.heap.size, 1, none⟩ = some (.slice A k c) ∧ wr.frozen? ⟨w.heap.size, 1, none⟩ = false ∧ wr.cell? ⟨w.heap.size + 1, 0, none⟩ = some (.bool false) ∧ wr.cell? ⟨w.heap.size + 1, 1, none⟩ = some (.slice none 0 0) ∧ wr.frozen? ⟨w.heap.size + 1, 0, none⟩ = false ∧ wr.frozen? ⟨w.heap.size + 1, 1, none⟩ = false ∧ Rd wr A k (zs.take k) ∧ val zs = val (zs.take k) ∧ w.heap.size + 1 < wr.heap.size ∧ Below w.heap.size w wr)
  case atStart =>
    exact ⟨n, rfl, Nat.le_refl _, by simp [go_sem], by simp [go_sem], by simp [go_sem], by simp [go_sem], by simp [go_sem], by simp [go_sem], by simp [go_sem], by rw [List.take_of_length_le (by have := HR.out.1; omega)]; exact (HR.out.alloc _).alloc _, by rw [List.take_of_length_le (by have := HR.out.1; omega)], by simp, ((Below.refl _ _).alloc (Nat.le_refl _) _).alloc (by simp) _⟩
  case round =>
    obtain ⟨k, hg, hk, x0, x1, hf, y0, y1, g0, g1, hrd, hv, hs, hb⟩ := hrel
    have HG := hid hg
    clear hg
    have HRD := hid hrd
    have HV := hid hv
    have HB := hid hb
    clear hrd hv hb
    by_cases h0 : k = 0
    · subst h0
      go_wp2_with fail
      have ez : z = 0 := by
        have h1 := HZ.out; have h2 := HV.out
        simp [val] at h2; rw [h2] at h1; simpa using h1
      have HE := hid ez
      clear ez
      refine bodyPost_ret (v := .agg #[.bool false, .slice none 0 0]) (by simp [results, Tryz.results115, go_sem, y0, y1]) rfl ⟨_, _, _, _, rfl, by rw [HE.out]; exact IsB.zero _ _, ?_⟩
      exact ⟨(HB.out.setCell (by simp) _).setCell (by simp) _, frA.zero _⟩
    · obtain ⟨j, rfl⟩ : ∃ j, k = j + 1 := ⟨k - 1, by omega⟩
      obtain ⟨b, off, rfl, hcell⟩ := HRD.out.2 (by omega)
      have hcj := hcell j (by omega)
      rw [take_getD (by omega)] at hcj
      have hj0 : (0 : Int) < ((j + 1 : Nat) : Int) := by omega
      clear hcell
      by_cases h1 : zs.getD j 0 = 0
      · rw [h1] at hcj
        go_wp2_with fail
        go_roundg j
        case measure => have := HG.out; omega
        case rel =>
          refine ⟨j, rfl, by omega, by simp [go_sem, x0], ?_, by simp [go_sem, hf], by simp [go_sem, y0], by simp [go_sem, y1], by simp [go_sem, g0], by simp [go_sem, g1], ?_, ?_, by simpa using hs, HB.out.setCell (by simp) _⟩
          · simp [go_sem, x1]
          · have h3 := (HRD.out.take (k := j) (by omega)).setCell (g := w.heap.size) (fun b' off' e' _ => by
              injection e' with e'; injection e' with e'; subst e'
              have := HR.out.lt rfl (by omega); omega) 1 (.slice (some ⟨b, off, none⟩) j c)
            rw [List.take_take, show min j (j + 1) = j by omega] at h3
            exact h3
          · rw [HV.out]; exact val_take_nought (by have := HR.out.1; omega) h1
      · have h2 : (zs.getD j 0 == 0) = false := by simpa using h1
        have H1 := hid h1
        clear h1
        generalize zs.getD j 0 = d at hcj h2
        go_wp2_with fail
        refine bodyPost_ret (v := .agg #[.bool s, .slice (some ⟨b, off, none⟩) (j + 1) c]) (by simp [results, Tryz.results115, go_sem, y0, y1]) rfl ⟨_, _, _, _, rfl, ?_, ?_, fun b' off' e' _ => HFR.out b' off' e' (by omega)⟩
        · have hb : b < w.heap.size := HR.out.lt rfl (by omega)
          have hlen : (zs.take (j + 1)).length = j + 1 := HRD.out.1
          refine ⟨zs.take (j + 1), ?_, by omega, by omega, HD.out.take _, Nm.of_ne hlen (by rw [take_getD (by omega)]; exact H1.out), fun _ e => (by rw [e] at hlen; simp at hlen), by rw [HZ.out, HV.out]⟩
          exact (HRD.out.setCell (g := w.heap.size + 1) (fun b' off' e' _ => by injection e' with e'; injection e' with e'; omega) 0 _).setCell (g := w.heap.size + 1) (fun b' off' e' _ => by injection e' with e'; injection e' with e'; omega) 1 _
        · exact (HB.out.setCell (by simp) _).setCell (by simp) _
set_option maxRecDepth 100000 in
set_option maxHeartbeats 4000000 in
theorem Ref.addF (K : Nat) (s t : Bool) (A B : Option Addr) (n c m d : Nat) (x y : Int) (w : World) (hx : IsB w K s A n c x) (hy : IsB w K t B m d y) (hK : K ≤ 1000000) :
    Calls Tryz.prog 66 #[.agg #[.bool s, .slice A n c], .agg #[.bool t, .slice B m d]] w (BAnsF w.heap.size (K + 1) (x + y) w) := by
  obtain ⟨xs, hX, hn, hnc, dX, nX, sX, eX⟩ := hx
  obtain ⟨ys, hY, hm, hmd, dY, nY, sY, eY⟩ := hy
  have HX := hid hX
  have HY := hid hY
  have HD := hid (And.intro dX dY)
  have HN := hid (And.intro nX nY)
  obtain ⟨z, hz⟩ : ∃ z, z = x + y := ⟨_, rfl⟩
  rw [← hz]
  by_cases hst : s = t
  · subst hst
    have HE := hid (show z = if s = true then -(val xs + val ys) else val xs + val ys by rw [hz, eX, eY]; exact sgn_both s _ _)
    clear hX hY dX dY nX nY eX eY sX sY hz
    go_enter Tryz.func66, Tryz.ntmps66
    go_wp2_with fail
    obtain ⟨W0, hW⟩ : ∃ W0, W0 = ((w.alloc (Obj.cells #[Value.bool s, Value.slice A n c] 41)).alloc (Obj.cells #[Value.bool s, Value.slice B m d] 41)).alloc (Obj.cells #[Value.bool false, Value.slice none 0 0] 41) := ⟨_, rfl⟩
    rw [← hW]
    have hN := AddW.new w s s A B n c m d 41
    rw [← hW] at hN
    have HS0 := hid hN.1
    have HF := hid hN.2
    clear hN hW
    go_region_held3 (fun w' => (w'.cell? ⟨w.heap.size, 0, none⟩ = some (.bool s) ∧ w'.cell? ⟨w.heap.size, 1, none⟩ = some (.slice A n c) ∧ w'.cell? ⟨w.heap.size + 1, 0, none⟩ = some (.bool s) ∧ w'.cell? ⟨w.heap.size + 1, 1, none⟩ = some (.slice B m d)) ∧ Below w.heap.size w w')
      (first | exact ⟨HS0.out.1, HS0.out.2.drew⟩ | exact keepP (by assumption) hb2 (fun h => below_keep h hb2) | exact keepSt (by assumption) (by omega) (by omega) (by omega) (by omega) (by omega))
      (first
        | (go_at_call 116; refine (Ref.plusF s s A B n c m d xs ys _ (HX.out.below (And.right (by assumption : (_ ∧ _ ∧ _ ∧ _) ∧ Below w.heap.size w _))) (HY.out.below (And.right (by assumption : (_ ∧ _ ∧ _ ∧ _) ∧ Below w.heap.size w _))) HD.out.1 HD.out.2 K hn hm hK).mono ?_; rintro e w2 ⟨Ap, np, cp, ps, rfl, ⟨hr2, hn2, hc2, hd2, hv2⟩, hb2, hfr2⟩; have HFR := hid (show frA w.heap.size Ap np from fun b off e h => Nat.le_trans (Below.size (And.right (by assumption : (_ ∧ _ ∧ _ ∧ _) ∧ Below w.heap.size w _))) (hfr2 b off e h)); clear hfr2; have HP := hid (And.intro hr2 hd2); have HV := hid hv2; have HF2 := hid (Fresh.below (w := W0.drew) HF.out hb2); clear hr2 hd2 hv2)
        | (go_at_call 115; refine (Ref.trimF (K + 1) s Ap np cp ps _ HP.out.1 (by omega) (by omega) (by omega) HP.out.2 z w.heap.size HFR.out (hid (by rw [HV.out]; exact HE.out))).mono ?_; rintro e w3 ⟨s', A', n', c', rfl, hB, hb2, hfr3⟩; have HFT := hid hfr3; clear hfr3; have HB := hid hB; have HF3 := hid (HF2.out.below hb2); obtain ⟨t0, t1, t2, t3, _⟩ := HF3.out; clear hB))
    obtain ⟨_, hfin⟩ : (_ ∧ _ ∧ _ ∧ _) ∧ Below w.heap.size w ((w3.setCell ⟨w.heap.size + 1 + 1, 0, none⟩ (.bool s')).setCell ⟨w.heap.size + 1 + 1, 1, none⟩ (.slice A' n' c')) := by assumption
    have HFIN := hid hfin
    clear hfin
    go_wp2
    refine bodyPost_ret (v := .agg #[.bool s', .slice A' n' c']) (by simp [results, Tryz.results66, go_sem, t0, t1]) rfl ⟨_, _, _, _, rfl, HB.out.store HF3.out.2.2.2.2 _ _ _ _, HFIN.out, HFT.out⟩
  · have HE := hid (And.intro hz (And.intro eX eY))
    have hst' : (s == t) = false := by simpa using hst
    have hnn := hid hst
    clear hX hY dX dY nX nY eX eY sX sY hz hst
    go_enter Tryz.func66, Tryz.ntmps66
    go_wp2_with fail
    obtain ⟨W0, hW⟩ : ∃ W0, W0 = ((w.alloc (Obj.cells #[Value.bool s, Value.slice A n c] 41)).alloc (Obj.cells #[Value.bool t, Value.slice B m d] 41)).alloc (Obj.cells #[Value.bool false, Value.slice none 0 0] 41) := ⟨_, rfl⟩
    rw [← hW]
    have hN := AddW.new w s t A B n c m d 41
    rw [← hW] at hN
    have HS00 := hid hN.1
    have HF0 := hid hN.2
    clear hN hW
    refine (Ref.larger s t A B n c m d xs ys _ (HX.out.below HS00.out.2) (HY.out.below HS00.out.2) HD.out.1 HD.out.2 (by omega) (by omega)).mono ?_
    rintro e w1 ⟨rfl, hb1⟩
    have HS0 := hid (show AddW w s t A B n c m d w1 from ⟨keep4 HS00.out.1 hb1, below_keep HS00.out.2 hb1⟩)
    have HF := hid (HF0.out.below hb1)
    clear HS00 HF0 hb1
    by_cases hle : val ys ≤ val xs
    · have hc0 : 0 ≤ cmpI (val xs) (val ys) := by have := cmpI_pos (val ys) (val xs); have := cmpI_anti (val xs) (val ys); omega
      have HLE := hid (And.intro hle (show m ≤ n by have := len_of_le HD.out.1 HD.out.2 HN.out.2 hle; have := HX.out.1; have := HY.out.1; omega))
      clear hle
      generalize cmpI (val xs) (val ys) = cc at hc0 ⊢
      go_wp2_with fail
      go_region_held3 (fun w' => (w'.cell? ⟨w.heap.size, 0, none⟩ = some (.bool s) ∧ w'.cell? ⟨w.heap.size, 1, none⟩ = some (.slice A n c) ∧ w'.cell? ⟨w.heap.size + 1, 0, none⟩ = some (.bool t) ∧ w'.cell? ⟨w.heap.size + 1, 1, none⟩ = some (.slice B m d)) ∧ Below w.heap.size w w')
        (first | exact ⟨HS0.out.1, HS0.out.2.drew⟩ | exact keepP (by assumption) hb2 (fun h => below_keep h hb2) | exact keepSt (by assumption) (by omega) (by omega) (by omega) (by omega) (by omega))
        (first
          | (go_at_call 118; refine (Ref.minusF s t A B n c m d xs ys _ (HX.out.below (And.right (by assumption : (_ ∧ _ ∧ _ ∧ _) ∧ Below w.heap.size w _))) (HY.out.below (And.right (by assumption : (_ ∧ _ ∧ _ ∧ _) ∧ Below w.heap.size w _))) HD.out.1 HD.out.2 HLE.out.2 HLE.out.1 (by omega)).mono ?_; rintro e w2 ⟨Ap, np, cp, ps, rfl, ⟨hr2, hn2, hc2, hd2, hv2⟩, hb2, hfr2⟩; have HFR := hid (show frA w.heap.size Ap np from fun b off e h => Nat.le_trans (Below.size (And.right (by assumption : (_ ∧ _ ∧ _ ∧ _) ∧ Below w.heap.size w _))) (hfr2 b off e h)); clear hfr2; have HP := hid (And.intro hr2 hd2); have HV := hid hv2; have HF2 := hid (Fresh.below (w := w1.drew) HF.out hb2); clear hr2 hd2 hv2)
          | (go_at_call 115; refine (Ref.trimF (K + 1) s Ap np cp ps _ HP.out.1 (by omega) (by omega) (by omega) HP.out.2 z w.heap.size HFR.out (hid (by rw [HV.out, HE.out.1, HE.out.2.1, HE.out.2.2]; exact sgn_diff hnn.out _ _))).mono ?_; rintro e w3 ⟨s', A', n', c', rfl, hB, hb2, hfr3⟩; have HFT := hid hfr3; clear hfr3; have HB := hid hB; have HF3 := hid (HF2.out.below hb2); obtain ⟨t0, t1, t2, t3, _⟩ := HF3.out; clear hB))
      obtain ⟨_, hfin⟩ : (_ ∧ _ ∧ _ ∧ _) ∧ Below w.heap.size w ((w3.setCell ⟨w.heap.size + 1 + 1, 0, none⟩ (.bool s')).setCell ⟨w.heap.size + 1 + 1, 1, none⟩ (.slice A' n' c')) := by assumption
      have HFIN := hid hfin
      clear hfin
      go_wp2
      refine bodyPost_ret (v := .agg #[.bool s', .slice A' n' c']) (by simp [results, Tryz.results66, go_sem, t0, t1]) rfl ⟨_, _, _, _, rfl, HB.out.store HF3.out.2.2.2.2 _ _ _ _, HFIN.out, HFT.out⟩
    · have hc0 : ¬ 0 ≤ cmpI (val xs) (val ys) := by have := cmpI_pos (val ys) (val xs); have := cmpI_anti (val xs) (val ys); omega
      have HLE := hid (And.intro (show val xs ≤ val ys by omega) (show n ≤ m by have := len_of_le HD.out.2 HD.out.1 HN.out.1 (show val xs ≤ val ys by omega); have := HX.out.1; have := HY.out.1; omega))
      clear hle
      generalize cmpI (val xs) (val ys) = cc at hc0 ⊢
      go_wp2_with fail
      go_region_held3 (fun w' => (w'.cell? ⟨w.heap.size, 0, none⟩ = some (.bool s) ∧ w'.cell? ⟨w.heap.size, 1, none⟩ = some (.slice A n c) ∧ w'.cell? ⟨w.heap.size + 1, 0, none⟩ = some (.bool t) ∧ w'.cell? ⟨w.heap.size + 1, 1, none⟩ = some (.slice B m d)) ∧ Below w.heap.size w w')
        (first | exact ⟨HS0.out.1, HS0.out.2.drew⟩ | exact keepP (by assumption) hb2 (fun h => below_keep h hb2) | exact keepSt (by assumption) (by omega) (by omega) (by omega) (by omega) (by omega))
        (first
          | (go_at_call 118; refine (Ref.minusF t s B A m d n c ys xs _ (HY.out.below (And.right (by assumption : (_ ∧ _ ∧ _ ∧ _) ∧ Below w.heap.size w _))) (HX.out.below (And.right (by assumption : (_ ∧ _ ∧ _ ∧ _) ∧ Below w.heap.size w _))) HD.out.2 HD.out.1 HLE.out.2 HLE.out.1 (by omega)).mono ?_; rintro e w2 ⟨Ap, np, cp, ps, rfl, ⟨hr2, hn2, hc2, hd2, hv2⟩, hb2, hfr2⟩; have HFR := hid (show frA w.heap.size Ap np from fun b off e h => Nat.le_trans (Below.size (And.right (by assumption : (_ ∧ _ ∧ _ ∧ _) ∧ Below w.heap.size w _))) (hfr2 b off e h)); clear hfr2; have HP := hid (And.intro hr2 hd2); have HV := hid hv2; have HF2 := hid (Fresh.below (w := w1.drew) HF.out hb2); clear hr2 hd2 hv2)
          | (go_at_call 115; refine (Ref.trimF (K + 1) t Ap np cp ps _ HP.out.1 (by omega) (by omega) (by omega) HP.out.2 z w.heap.size HFR.out (hid (by rw [HV.out, HE.out.1, HE.out.2.1, HE.out.2.2]; exact sgn_diff' hnn.out _ _))).mono ?_; rintro e w3 ⟨s', A', n', c', rfl, hB, hb2, hfr3⟩; have HFT := hid hfr3; clear hfr3; have HB := hid hB; have HF3 := hid (HF2.out.below hb2); obtain ⟨t0, t1, t2, t3, _⟩ := HF3.out; clear hB))
      obtain ⟨_, hfin⟩ : (_ ∧ _ ∧ _ ∧ _) ∧ Below w.heap.size w ((w3.setCell ⟨w.heap.size + 1 + 1, 0, none⟩ (.bool s')).setCell ⟨w.heap.size + 1 + 1, 1, none⟩ (.slice A' n' c')) := by assumption
      have HFIN := hid hfin
      clear hfin
      go_wp2
      refine bodyPost_ret (v := .agg #[.bool s', .slice A' n' c']) (by simp [results, Tryz.results66, go_sem, t0, t1]) rfl ⟨_, _, _, _, rfl, HB.out.store HF3.out.2.2.2.2 _ _ _ _, HFIN.out, HFT.out⟩
end

/- The contracts of the document's means and lags: as the law hands a mean on; may it be; the lag times all weights. -/
section
open Go.RowKit
set_option maxRecDepth 100000 in
set_option maxHeartbeats 2000000 in
theorem Ref8.right_0 (m : Mu) (s1 : Bool) (A1 : Option Addr) (n1 c1 : Nat) (h : m.n = 0) (hw : m.w = 0) (w : World) (hB : IsB w 18 s1 A1 n1 c1 m.a) : Calls Tryz.prog 105 #[rmV m (s1, A1, n1, c1)] w (Ans (.bool m.right) w) := by
  have HBB := hid (hB.alloc (.cells #[.int .u64 m.b, .bool s1, .slice A1 n1 c1, .int .u64 m.w, .int .i64 m.n] 43))
  have HB0 := hid ((Below.refl w.heap.size w).alloc (Nat.le_refl _) (.cells #[.int .u64 m.b, .bool s1, .slice A1 n1 c1, .int .u64 m.w, .int .i64 m.n] 43))
  clear hB
  have c0 : (m.n == 0) = true := by rw [h]; rfl
  have c1' : (m.w == 0) = true := by rw [hw]; rfl
  have E : Hid ((cmpI m.a 0 == 0) = m.right) := hid (by
    unfold Mu.right
    rw [if_pos h, hw, Bool.eq_iff_iff]
    simp only [beq_iff_eq, cmpI_zero, Bool.and_eq_true, decide_eq_true_eq, and_true])
  clear h hw
  go_enter Tryz.func105, Tryz.ntmps105
  go_wp2_with fail
  refine (Ref.sign 18 s1 A1 n1 c1 m.a _ HBB.out).mono ?_
  rintro e w1 ⟨rfl, hb⟩
  have HB1 := hid (below_on HB0.out hb)
  clear hb
  go_wp2_with fail
  go_ret
  exact ⟨by rw [← E.out]; rfl, HB1.out⟩
set_option maxRecDepth 100000 in
set_option maxHeartbeats 2000000 in
theorem Ref8.right_1 (m : Mu) (s1 : Bool) (A1 : Option Addr) (n1 c1 : Nat) (h : m.n = 0) (hw : m.w ≠ 0) (w : World) (hB : IsB w 18 s1 A1 n1 c1 m.a) : Calls Tryz.prog 105 #[rmV m (s1, A1, n1, c1)] w (Ans (.bool m.right) w) := by
  have HBB := hid (hB.alloc (.cells #[.int .u64 m.b, .bool s1, .slice A1 n1 c1, .int .u64 m.w, .int .i64 m.n] 43))
  have HB0 := hid ((Below.refl w.heap.size w).alloc (Nat.le_refl _) (.cells #[.int .u64 m.b, .bool s1, .slice A1 n1 c1, .int .u64 m.w, .int .i64 m.n] 43))
  clear hB
  have c0 : (m.n == 0) = true := by rw [h]; rfl
  have c1' : (m.w == 0) = false := by simpa using hw
  have E : Hid (m.right = false) := hid (by unfold Mu.right; rw [if_pos h, decide_eq_false hw]; simp)
  rw [E.out]
  clear h hw
  go_enter Tryz.func105, Tryz.ntmps105
  go_wp2_with fail
  go_ret
  exact ⟨rfl, HB0.out⟩
set_option maxRecDepth 100000 in
set_option maxHeartbeats 2000000 in
theorem Ref8.right_2 (m : Mu) (s1 : Bool) (A1 : Option Addr) (n1 c1 : Nat) (h : m.n ≠ 0) (h1 : ¬ 1 ≤ m.n) (w : World) (hB : IsB w 18 s1 A1 n1 c1 m.a) : Calls Tryz.prog 105 #[rmV m (s1, A1, n1, c1)] w (Ans (.bool m.right) w) := by
  have HBB := hid (hB.alloc (.cells #[.int .u64 m.b, .bool s1, .slice A1 n1 c1, .int .u64 m.w, .int .i64 m.n] 43))
  have HB0 := hid ((Below.refl w.heap.size w).alloc (Nat.le_refl _) (.cells #[.int .u64 m.b, .bool s1, .slice A1 n1 c1, .int .u64 m.w, .int .i64 m.n] 43))
  clear hB
  have c0 : (m.n == 0) = false := by simpa using h
  have E : Hid (m.right = false) := hid (by unfold Mu.right; rw [if_neg h]; simp; omega)
  rw [E.out]
  clear h
  go_enter Tryz.func105, Tryz.ntmps105
  go_wp2_with fail
  go_ret
  exact ⟨rfl, HB0.out⟩
set_option maxRecDepth 100000 in
set_option maxHeartbeats 2000000 in
theorem Ref8.right_3 (m : Mu) (s1 : Bool) (A1 : Option Addr) (n1 c1 : Nat) (h : m.n ≠ 0) (h1 : 1 ≤ m.n) (h2 : ¬ m.n ≤ 32) (w : World) (hB : IsB w 18 s1 A1 n1 c1 m.a) : Calls Tryz.prog 105 #[rmV m (s1, A1, n1, c1)] w (Ans (.bool m.right) w) := by
  have HBB := hid (hB.alloc (.cells #[.int .u64 m.b, .bool s1, .slice A1 n1 c1, .int .u64 m.w, .int .i64 m.n] 43))
  have HB0 := hid ((Below.refl w.heap.size w).alloc (Nat.le_refl _) (.cells #[.int .u64 m.b, .bool s1, .slice A1 n1 c1, .int .u64 m.w, .int .i64 m.n] 43))
  clear hB
  have c0 : (m.n == 0) = false := by simpa using h
  have E : Hid (m.right = false) := hid (by unfold Mu.right; rw [if_neg h]; simp; omega)
  rw [E.out]
  clear h
  go_enter Tryz.func105, Tryz.ntmps105
  go_wp2_with fail
  go_ret
  exact ⟨rfl, HB0.out⟩
set_option maxRecDepth 100000 in
set_option maxHeartbeats 2000000 in
theorem Ref8.right_4 (m : Mu) (s1 : Bool) (A1 : Option Addr) (n1 c1 : Nat) (h : m.n ≠ 0) (h1 : 1 ≤ m.n) (h2 : m.n ≤ 32) (h3 : ¬ m.n ≤ m.w) (w : World) (hB : IsB w 18 s1 A1 n1 c1 m.a) : Calls Tryz.prog 105 #[rmV m (s1, A1, n1, c1)] w (Ans (.bool m.right) w) := by
  have HBB := hid (hB.alloc (.cells #[.int .u64 m.b, .bool s1, .slice A1 n1 c1, .int .u64 m.w, .int .i64 m.n] 43))
  have HB0 := hid ((Below.refl w.heap.size w).alloc (Nat.le_refl _) (.cells #[.int .u64 m.b, .bool s1, .slice A1 n1 c1, .int .u64 m.w, .int .i64 m.n] 43))
  clear hB
  have c0 : (m.n == 0) = false := by simpa using h
  have E : Hid (m.right = false) := hid (by unfold Mu.right; rw [if_neg h]; simp; omega)
  rw [E.out]
  have e1 : IntKind.u64.wrap m.n = m.n := by rw [IntKind.wrap_u64]; omega
  have e2 : IntKind.u64.wrap (m.n * 1048576) = m.n * 1048576 := by rw [IntKind.wrap_u64]; omega
  clear h
  go_enter Tryz.func105, Tryz.ntmps105
  go_wp2_with fail
  go_ret
  exact ⟨rfl, HB0.out⟩
set_option maxRecDepth 100000 in
set_option maxHeartbeats 2000000 in
theorem Ref8.right_5 (m : Mu) (s1 : Bool) (A1 : Option Addr) (n1 c1 : Nat) (h : m.n ≠ 0) (h1 : 1 ≤ m.n) (h2 : m.n ≤ 32) (h3 : m.n ≤ m.w) (h4 : ¬ m.w ≤ m.n * 1048576) (w : World) (hB : IsB w 18 s1 A1 n1 c1 m.a) : Calls Tryz.prog 105 #[rmV m (s1, A1, n1, c1)] w (Ans (.bool m.right) w) := by
  have HBB := hid (hB.alloc (.cells #[.int .u64 m.b, .bool s1, .slice A1 n1 c1, .int .u64 m.w, .int .i64 m.n] 43))
  have HB0 := hid ((Below.refl w.heap.size w).alloc (Nat.le_refl _) (.cells #[.int .u64 m.b, .bool s1, .slice A1 n1 c1, .int .u64 m.w, .int .i64 m.n] 43))
  clear hB
  have c0 : (m.n == 0) = false := by simpa using h
  have E : Hid (m.right = false) := hid (by unfold Mu.right; rw [if_neg h]; simp; omega)
  rw [E.out]
  have e1 : IntKind.u64.wrap m.n = m.n := by rw [IntKind.wrap_u64]; omega
  have e2 : IntKind.u64.wrap (m.n * 1048576) = m.n * 1048576 := by rw [IntKind.wrap_u64]; omega
  clear h
  go_enter Tryz.func105, Tryz.ntmps105
  go_wp2_with fail
  go_ret
  exact ⟨rfl, HB0.out⟩
set_option maxRecDepth 100000 in
set_option maxHeartbeats 2000000 in
theorem Ref8.right_6 (m : Mu) (s1 : Bool) (A1 : Option Addr) (n1 c1 : Nat) (h : m.n ≠ 0) (h1 : 1 ≤ m.n) (h2 : m.n ≤ 32) (h3 : m.n ≤ m.w) (h4 : m.w ≤ m.n * 1048576) (w : World) (hB : IsB w 18 s1 A1 n1 c1 m.a) : Calls Tryz.prog 105 #[rmV m (s1, A1, n1, c1)] w (Ans (.bool m.right) w) := by
  have HBB := hid (hB.alloc (.cells #[.int .u64 m.b, .bool s1, .slice A1 n1 c1, .int .u64 m.w, .int .i64 m.n] 43))
  have HB0 := hid ((Below.refl w.heap.size w).alloc (Nat.le_refl _) (.cells #[.int .u64 m.b, .bool s1, .slice A1 n1 c1, .int .u64 m.w, .int .i64 m.n] 43))
  clear hB
  have c0 : (m.n == 0) = false := by simpa using h
  have E : Hid (m.right = true) := hid (by unfold Mu.right; rw [if_neg h]; simp; omega)
  rw [E.out]
  have e1 : IntKind.u64.wrap m.n = m.n := by rw [IntKind.wrap_u64]; omega
  have e2 : IntKind.u64.wrap (m.n * 1048576) = m.n * 1048576 := by rw [IntKind.wrap_u64]; omega
  clear h
  go_enter Tryz.func105, Tryz.ntmps105
  go_wp2_with fail
  go_ret
  exact ⟨rfl, HB0.out⟩
theorem Ref8.right (m : Mu) (s1 : Bool) (A1 : Option Addr) (n1 c1 : Nat) (w : World) (hB : IsB w 18 s1 A1 n1 c1 m.a) : Calls Tryz.prog 105 #[rmV m (s1, A1, n1, c1)] w (Ans (.bool m.right) w) := by
  by_cases h : m.n = 0
  · by_cases hw : m.w = 0
    · exact Ref8.right_0 m s1 A1 n1 c1 h hw w hB
    · exact Ref8.right_1 m s1 A1 n1 c1 h hw w hB
  · by_cases h1 : 1 ≤ m.n
    · by_cases h2 : m.n ≤ 32
      · by_cases h3 : m.n ≤ m.w
        · by_cases h4 : m.w ≤ m.n * 1048576
          · exact Ref8.right_6 m s1 A1 n1 c1 h h1 h2 h3 h4 w hB
          · exact Ref8.right_5 m s1 A1 n1 c1 h h1 h2 h3 h4 w hB
        · exact Ref8.right_4 m s1 A1 n1 c1 h h1 h2 h3 w hB
      · exact Ref8.right_3 m s1 A1 n1 c1 h h1 h2 w hB
    · exact Ref8.right_2 m s1 A1 n1 c1 h h1 w hB
end

/- The document's mean: a position more. -/
section
open Go.RowKit
theorem IsB.narrowR {w : World} {L : Nat} {s : Bool} {A : Option Addr} {n c : Nat} {z : Int} (h : IsB w L s A n c z) (hz : WR z) : IsB w 18 s A n c z := by
  obtain ⟨zs, h1, h2, h3, h4, h5, h6, h7⟩ := h
  refine ⟨zs, h1, ?_, h3, h4, h5, h6, h7⟩
  rcases Nat.lt_or_ge 18 n with hn | hn
  rotate_left
  · exact hn
  exfalso
  have hl := h1.1
  have hs := val_split zs 18
  have hlen : (zs.take 18).length = 18 := by rw [List.length_take]; omega
  rw [hlen] at hs
  have hne : zs.drop 18 ≠ [] := fun h => by have := congrArg List.length h; simp at this; omega
  have hnm : Nm (zs.drop 18) := by
    unfold Nm at *
    rw [List.getLast?_drop, if_neg (by omega)]
    exact h5
  have hp := val_pos (h4.drop 18) hnm hne
  have ht := val_nonneg (h4.take 18)
  have e : (10000 : Int) ^ 18 = 1000000000000000000000000000000000000000000000000000000000000000000000000 := by decide
  rw [e] at hs
  unfold WR at hz
  split at h7 <;> omega
def bqF (b L : Nat) (z : Int) (x : Bq) (w : World) : Prop := IsB w L x.1 x.2.1 x.2.2.1 x.2.2.2 z ∧ frA b x.2.1 x.2.2.1
theorem bqF.stays (b L : Nat) (z : Int) (x : Bq) : Stays (bqF b L z x) := fun _ _ h hb => ⟨IsB.below h.1 hb, h.2⟩
/-- What a call that answers a mean of the document's, and whether there is one, leaves: its digits are its own. -/
def RmOkF (r : Bool × Mu) (w : World) (e : Ending) (w' : World) : Prop := ∃ y : Bq, e = .returned (.tuple #[rmV r.2 y, .bool r.1]) ∧ bqR 18 r.2.a y w' ∧ Below w.heap.size w w' ∧ frA w.heap.size y.2.1 y.2.2.1
def AD (w : World) (m : Mu) (s1 : Bool) (A1 : Option Addr) (n1 c1 : Nat) (p : P3) (W : World) : Prop :=
  ((Cs W w.heap.size (rmC m (s1, A1, n1, c1)) ∧ Cs W (w.heap.size + 1) (pcells p) ∧ Cs W (w.heap.size + 2) rmZ) ∧ IsB W 18 s1 A1 n1 c1 m.a) ∧ Below w.heap.size w W
theorem AD.below {w : World} {m : Mu} {s1 : Bool} {A1 : Option Addr} {n1 c1 : Nat} {p : P3} {W W' : World} (h : AD w m s1 A1 n1 c1 p W) (hb : Below W.heap.size W W') : AD w m s1 A1 n1 c1 p W' :=
  ⟨⟨⟨h.1.1.1.below hb, h.1.1.2.1.below hb, h.1.1.2.2.below hb⟩, h.1.2.below hb⟩, below_on h.2 hb⟩
theorem AD.lt {w : World} {m : Mu} {s1 : Bool} {A1 : Option Addr} {n1 c1 : Nat} {p : P3} {W : World} (h : AD w m s1 A1 n1 c1 p W) : w.heap.size + 2 < W.heap.size := World.block_lt_of_cell? W _ (h.1.1.2.2 0 _ rfl).1
theorem AD.sets {w : World} {m : Mu} {s1 : Bool} {A1 : Option Addr} {n1 c1 : Nat} {p : P3} {W : World} (h : AD w m s1 A1 n1 c1 p W) {g : Nat} (hg : w.heap.size + 2 < g) (hn : NoInt W g) (vs : List Value) : AD w m s1 A1 n1 c1 p (W.setCells g 0 vs) :=
  ⟨⟨⟨h.1.1.1.fars (by omega) _ _, h.1.1.2.1.fars (by omega) _ _, h.1.1.2.2.fars (by omega) _ _⟩, h.1.2.sets hn 0 vs⟩, below_sets (by omega) _ _ h.2⟩
theorem AD.new (w : World) (m : Mu) (s1 : Bool) (A1 : Option Addr) (n1 c1 : Nat) (p : P3) (hB : IsB w 18 s1 A1 n1 c1 m.a) : AD w m s1 A1 n1 c1 p (((w.alloc (.cells #[.int .u64 m.b, .bool s1, .slice A1 n1 c1, .int .u64 m.w, .int .i64 m.n] 43)).alloc (.cells #[.int .u64 p.1, .int .u32 p.2.1, .int .u32 p.2.2] 31)).alloc (.cells #[.int .u64 0, .bool false, .slice none 0 0, .int .u64 0, .int .i64 0] 43)) := by
  have h2 := Cs.alloc_new6 (w.alloc (.cells #[.int .u64 m.b, .bool s1, .slice A1 n1 c1, .int .u64 m.w, .int .i64 m.n] 43)) 31 (pcells p)
  have h3 := Cs.alloc_new6 ((w.alloc (.cells #[.int .u64 m.b, .bool s1, .slice A1 n1 c1, .int .u64 m.w, .int .i64 m.n] 43)).alloc (.cells #[.int .u64 p.1, .int .u32 p.2.1, .int .u32 p.2.2] 31)) 43 rmZ
  simp only [World.size_alloc] at h2 h3
  exact ⟨⟨⟨((Cs.alloc_new6 w 43 (rmC m (s1, A1, n1, c1))).alloc _).alloc _, h2.alloc _, h3⟩, ((hB.alloc _).alloc _).alloc _⟩, (((Below.refl w.heap.size w).alloc (Nat.le_refl _) _).alloc (by simp) _).alloc (by simp; omega) _⟩
/-- The answer's variable, stored whole. -/
theorem AD.put {w : World} {m : Mu} {s1 : Bool} {A1 : Option Addr} {n1 c1 : Nat} {p : P3} {W W2 : World} (h : AD w m s1 A1 n1 c1 p W) {k : Mu} {y : Bq} (h2 : W2 = W.setCells (w.heap.size + 2) 0 (rmC k y)) : Cs W2 (w.heap.size + 2) (rmC k y) ∧ Below w.heap.size w W2 := by
  subst h2
  exact ⟨Cs.putL (rmC k y) 0 h.1.1.2.2 (by simp [rmC, rmZ]), below_sets (by omega) _ _ h.2⟩
set_option maxRecDepth 100000 in
set_option maxHeartbeats 16000000 in
theorem Ref8.addF (m : Mu) (s1 : Bool) (A1 : Option Addr) (n1 c1 : Nat) (p : P3) (hm : m.In) (hp : PIn p) (w : World) (hB : IsB w 18 s1 A1 n1 c1 m.a) : Calls Tryz.prog 49 #[rmV m (s1, A1, n1, c1), pv p] w (RmOkF (m.add p) w) := by
  have HM := hid hm
  have HP := hid hp
  have HQ0 := hid (AD.new w m s1 A1 n1 c1 p hB)
  clear hm hp hB
  unfold rmV pv
  go_enter Tryz.func49, Tryz.ntmps49
  go_wp2_with fail
  generalize (((w.alloc (.cells #[.int .u64 m.b, .bool s1, .slice A1 n1 c1, .int .u64 m.w, .int .i64 m.n] 43)).alloc (.cells #[.int .u64 p.1, .int .u32 p.2.1, .int .u32 p.2.2] 31)).alloc (.cells #[.int .u64 0, .bool false, .slice none 0 0, .int .u64 0, .int .i64 0] 43)) = W0 at HQ0 ⊢
  have hsT1 : Stays (fun wx => AD w m s1 A1 n1 c1 p wx) := fun _ _ h hb => h.below hb
  refine wp_region_grow (S := fun wx => AD w m s1 A1 n1 c1 p wx) 9 (by kernel_rfl) (hsT1 _ _ (HQ0.out) (Below.refl _ _).drew) ?_
  refine wpAnyE_take (i := 0) (v := ?_) (hsT1) (fun _ h => h) rfl (by kernel_rfl) (by kernel_rfl) (by kernel_rfl) (by kernel_rfl) (fun _ _ _ h => h) (SteadyB.of_yields (Or.inl ⟨by rfl, ?_⟩)) ?_
  rotate_left
  · intro wq hSw
    go_simp
    (try with_reducible rfl)
  try simp only [List.getElem_toArray, List.getElem_cons_zero, List.getElem_cons_succ, Act.put, List.setIfInBounds_toArray, List.set_cons_zero, List.set_cons_succ]
  refine wpAnyE_take (i := 1) (v := ?_) (hsT1) (fun _ h => h) rfl (by kernel_rfl) (by kernel_rfl) (by kernel_rfl) (by kernel_rfl) (fun _ _ _ h => h) (SteadyB.of_yields (Or.inl ⟨by rfl, ?_⟩)) ?_
  rotate_left
  · intro wq hSw
    obtain ⟨m0, m1, m2, m3, m4⟩ := rm_at hSw.1.1.1
    obtain ⟨q0, q1, q2⟩ := P3.at p hSw.1.1.2.1
    go_simp
    (try with_reducible rfl)
  try simp only [List.getElem_toArray, List.getElem_cons_zero, List.getElem_cons_succ, Act.put, List.setIfInBounds_toArray, List.set_cons_zero, List.set_cons_succ]
  refine wpAnyE_take (i := 2) (v := ?_) (hsT1) (fun _ h => h) rfl (by kernel_rfl) (by kernel_rfl) (by kernel_rfl) (by kernel_rfl) (fun _ _ _ h => h) (SteadyB.of_yields (Or.inl ⟨by rfl, ?_⟩)) ?_
  rotate_left
  · intro wq hSw
    obtain ⟨m0, m1, m2, m3, m4⟩ := rm_at hSw.1.1.1
    obtain ⟨q0, q1, q2⟩ := P3.at p hSw.1.1.2.1
    go_simp
    (try with_reducible rfl)
  try simp only [List.getElem_toArray, List.getElem_cons_zero, List.getElem_cons_succ, Act.put, List.setIfInBounds_toArray, List.set_cons_zero, List.set_cons_succ]
  refine wpAnyE_take (i := 3) (v := ?_) (hsT1) (fun _ h => h) rfl (by kernel_rfl) (by kernel_rfl) (by kernel_rfl) (by kernel_rfl) (fun _ _ _ h => h) (SteadyB.of_yields (Or.inl ⟨by rfl, ?_⟩)) ?_
  rotate_left
  · intro wq hSw
    go_simp
    (try with_reducible rfl)
  try simp only [List.getElem_toArray, List.getElem_cons_zero, List.getElem_cons_succ, Act.put, List.setIfInBounds_toArray, List.set_cons_zero, List.set_cons_succ]
  refine wpAnyE_take (i := 4) (v := ?_) (hsT1) (fun _ h => h) rfl (by kernel_rfl) (by kernel_rfl) (by kernel_rfl) (by kernel_rfl) (fun _ _ _ h => h) (SteadyB.of_yields (Or.inl ⟨by rfl, ?_⟩)) ?_
  rotate_left
  · intro wq hSw
    obtain ⟨m0, m1, m2, m3, m4⟩ := rm_at hSw.1.1.1
    obtain ⟨q0, q1, q2⟩ := P3.at p hSw.1.1.2.1
    go_simp
    (try with_reducible rfl)
  try simp only [List.getElem_toArray, List.getElem_cons_zero, List.getElem_cons_succ, Act.put, List.setIfInBounds_toArray, List.set_cons_zero, List.set_cons_succ]
  refine wpF.fst (j := 7) (dst := some 6) (T := fun wx g => Var wx g false none 0 0 ∧ w.heap.size + 2 < g) ?_
  refine wpF_call (k := 5) _ (bqV) (bqR 77 (pD m.b p)) rfl rfl rfl (Or.inl (by kernel_rfl)) (by kernel_rfl) (by decide) (by decide) (by decide) (by kernel_rfl) (by intro cs b h; cases h) (by rfl) (fun _ => rfl) (hsT1) (fun _ h => h) (fun g => fun _ _ h hb => ⟨h.1.below hb, h.2⟩) (fun yq => bqR.stays 77 (pD m.b p) yq) (fun aq wq hSw => ?_) (fun wq hSw => ?_) (fun yq => ?_)
  · (first | exact ⟨_, by go_simp; (try with_reducible rfl), (Below.refl _ _).alloc (Nat.le_refl _) _, Var.new _ _ _ _ _ _, hSw.lt⟩ | exact ⟨_, by go_simp; (try with_reducible rfl), (Below.refl _ _).alloc (Nat.le_refl _) _, Var.new _ _ _ _ _ _, hSw.1.lt⟩ | exact ⟨_, by go_simp; (try with_reducible rfl), (Below.refl _ _).alloc (Nat.le_refl _) _, Var.new _ _ _ _ _ _, hSw.1.1.lt⟩ | exact ⟨_, by go_simp; (try with_reducible rfl), (Below.refl _ _).alloc (Nat.le_refl _) _, Var.new _ _ _ _ _ _, hSw.1.1.1.lt⟩)
  · exact RunI.big (Ref4.distance p.1 p.2.1 p.2.2 m.b HP.out.1.1 HP.out.1.2 HP.out.2.1.1 HP.out.2.1.2 HP.out.2.2.1 HP.out.2.2.2 HM.out.1.1 HM.out.1.2 wq) (by go_simp)
  obtain ⟨s2, A2, n2, c2⟩ := yq
  dsimp only [bqV, bqR]
  try simp only [List.getElem_toArray, List.getElem_cons_zero, List.getElem_cons_succ, Act.put, List.setIfInBounds_toArray, List.set_cons_zero, List.set_cons_succ]
  refine wpF_call (k := 6) _ (bqV) (bqF (w.heap.size + 3) 78 (m.a + pD m.b p)) rfl rfl rfl (Or.inl (by kernel_rfl)) (by kernel_rfl) (by decide) (by decide) (by decide) (by kernel_rfl) (by intro cs b h; cases h) (by rfl) (fun _ => rfl) (Stays.and_ (hsT1) (bqR.stays 77 (pD m.b p) (s2, A2, n2, c2))) (fun _ h => h.1) (fun g => fun _ _ h hb => ⟨h.1.below hb, h.2⟩) (fun yq => bqF.stays (w.heap.size + 3) 78 (m.a + pD m.b p) yq) (fun aq wq hSw => ?_) (fun wq hSw => ?_) (fun yq => ?_)
  · (first | exact ⟨_, by go_simp; (try with_reducible rfl), (Below.refl _ _).alloc (Nat.le_refl _) _, Var.new _ _ _ _ _ _, hSw.lt⟩ | exact ⟨_, by go_simp; (try with_reducible rfl), (Below.refl _ _).alloc (Nat.le_refl _) _, Var.new _ _ _ _ _ _, hSw.1.lt⟩ | exact ⟨_, by go_simp; (try with_reducible rfl), (Below.refl _ _).alloc (Nat.le_refl _) _, Var.new _ _ _ _ _ _, hSw.1.1.lt⟩ | exact ⟨_, by go_simp; (try with_reducible rfl), (Below.refl _ _).alloc (Nat.le_refl _) _, Var.new _ _ _ _ _ _, hSw.1.1.1.lt⟩)
  · have hlt : w.heap.size + 3 ≤ wq.heap.size := by first | exact hSw.1.lt | exact hSw.1.1.lt
    exact RunI.of_calls (Ref.addF 77 s1 s2 A1 A2 n1 c1 n2 c2 m.a (pD m.b p) wq (by first | exact hSw.1.1.2.mono (by decide) | exact hSw.1.1.1.2.mono (by decide)) hSw.2 (by decide)) (by go_simp) (fun e w' h => by obtain ⟨s, A, n, c, he, hB, hb, hf⟩ := h; exact ⟨(s, A, n, c), he, ⟨hB, hf.mono hlt⟩, hb⟩)
  obtain ⟨s3, A3, n3, c3⟩ := yq
  dsimp only [bqV, bqR, bqF]
  try simp only [List.getElem_toArray, List.getElem_cons_zero, List.getElem_cons_succ, Act.put, List.setIfInBounds_toArray, List.set_cons_zero, List.set_cons_succ]
  refine wpF_done _ rfl rfl (by kernel_rfl) (by decide) (by rfl) (Stays.and_ (Stays.and_ (hsT1) (bqR.stays 77 (pD m.b p) (s2, A2, n2, c2))) (bqF.stays (w.heap.size + 3) 78 (m.a + pD m.b p) (s3, A3, n3, c3))) (fun _ h => h.1.1) (fun g => fun _ _ h hb => ⟨h.1.below hb, h.2⟩) (fun wq hSw => ?_) (fun gA => ?_)
  · (first | exact ⟨_, by go_simp; (try with_reducible rfl), (Below.refl _ _).alloc (Nat.le_refl _) _, Var.new _ _ _ _ _ _, hSw.lt⟩ | exact ⟨_, by go_simp; (try with_reducible rfl), (Below.refl _ _).alloc (Nat.le_refl _) _, Var.new _ _ _ _ _ _, hSw.1.lt⟩ | exact ⟨_, by go_simp; (try with_reducible rfl), (Below.refl _ _).alloc (Nat.le_refl _) _, Var.new _ _ _ _ _ _, hSw.1.1.lt⟩ | exact ⟨_, by go_simp; (try with_reducible rfl), (Below.refl _ _).alloc (Nat.le_refl _) _, Var.new _ _ _ _ _ _, hSw.1.1.1.lt⟩)
  try simp only [List.getElem_toArray, List.getElem_cons_zero, List.getElem_cons_succ, Act.put, List.setIfInBounds_toArray, List.set_cons_zero, List.set_cons_succ]
  refine wpAnyE_store (i := 8) (fun wx => (fun wx => AD w m s1 A1 n1 c1 p wx) wx ∧ ((Var wx gA s3 A3 n3 c3 ∧ IsB wx 78 s3 A3 n3 c3 (m.a + pD m.b p)) ∧ w.heap.size + 2 < gA ∧ frA (w.heap.size + 3) A3 n3)) 41 [.bool s3, .slice A3 n3 c3] [.bool false, .slice none 0 0] gA infoBig (.tmp 6) (.tmp 13) rfl rfl (by kernel_rfl) (by decide) (by rfl) ?sv2a ?sv2b ?sv2c ?sv2d ?sv2e (fun _ h => h.2.1.cs) (fun _ h => ⟨h.1.1.1.sets h.2.2 h.2.1.2.2.2.2 _, ⟨h.2.1.sets s3 A3 n3 c3, h.1.2.1.sets h.2.1.2.2.2.2 0 _⟩, h.2.2, h.1.2.2⟩) (fun _ h => h.1) ((fun _ _ h hb => ⟨h.1.below hb, ⟨h.2.1.1.below hb, h.2.1.2.below hb⟩, h.2.2⟩)) ?sv2f
  case sv2a => rfl
  case sv2b => rfl
  case sv2c => rfl
  case sv2d => rfl
  case sv2e => rfl
  try simp only [List.getElem_toArray, List.getElem_cons_zero, List.getElem_cons_succ, Act.put, List.setIfInBounds_toArray, List.set_cons_zero, List.set_cons_succ]
  refine wpAnyE_done (by kernel_rfl) (fun wz hSz => ?_) _
  have HQ1 := hid hSz
  clear hSz HQ0
  generalize gA = ga at HQ1 ⊢
  obtain ⟨m0, m1, m2, m3, m4⟩ := rm_at HQ1.out.1.1.1.1
  obtain ⟨q0, q1, q2⟩ := P3.at p HQ1.out.1.1.1.2.1
  obtain ⟨a0, a1, a2, a3, _⟩ := HQ1.out.2.1.1
  have al := HQ1.out.2.1.1.lt
  go_wp2_with fail
  clear m0 m1 m2 m3 m4 q0 q1 q2 a0 a1 a2 a3 al
  refine (Ref8.right m s1 A1 n1 c1 _ HQ1.out.1.1.2).mono ?_
  cases h1 : m.right with
  | false =>
    have E : Hid (m.add p = (false, Mu.no)) := hid (by unfold Mu.add Mu.addOk; rw [h1]; rfl)
    rintro e w2 ⟨rfl, hb⟩
    replace HQ1 := hid (And.intro (HQ1.out.1.below hb) (And.intro (And.intro (HQ1.out.2.1.1.below hb) (HQ1.out.2.1.2.below hb)) HQ1.out.2.2))
    clear hb h1
    have HCr := hid HQ1.out.1.1.1.2.2
    go_wp2_with (first | ((with_reducible refine wpList_put_cs 43 (rmC Mu.no (false, none, 0, 0)) infoRm rfl (.tmp 4) (.tmp 32) rfl (w.heap.size + 2) _ HCr.out ?pp1_1 ?pp1_2 ?pp1_3 ?pp1_4 ?pp1_5 ?pp1_6); (case pp1_1 => rfl); (case pp1_2 => rfl); (case pp1_3 => rfl); (case pp1_4 => rfl); (case pp1_5 => rfl); (intro W2 hW2); (have HW := hid (HQ1.out.1.put hW2)); (have HW2 := hid hW2); (clear hW2)) | fail)
    obtain ⟨z0, z1, z2, z3, z4⟩ := rm_at HW.out.1
    go_wp2_with fail
    rw [E.out]
    refine bodyPost_ret (v := .tuple #[rmV Mu.no (false, none, 0, 0), .bool false]) (by simp [results, Tryz.results49, go_sem, z0, z1, z2, z3, z4]) rfl ⟨(false, none, 0, 0), rfl, IsB.zero _ _, HW.out.2, frA.zero _⟩
  | true =>
    have H1 := hid h1
    rintro e w2 ⟨rfl, hb⟩
    replace HQ1 := hid (And.intro (HQ1.out.1.below hb) (And.intro (And.intro (HQ1.out.2.1.1.below hb) (HQ1.out.2.1.2.below hb)) HQ1.out.2.2))
    clear hb h1
    obtain ⟨m0, m1, m2, m3, m4⟩ := rm_at HQ1.out.1.1.1.1
    obtain ⟨q0, q1, q2⟩ := P3.at p HQ1.out.1.1.1.2.1
    obtain ⟨a0, a1, a2, a3, _⟩ := HQ1.out.2.1.1
    have al := HQ1.out.2.1.1.lt
    go_wp2_with fail
    clear m0 m1 m2 m3 m4 q0 q1 q2 a0 a1 a2 a3 al
    refine (Ref4.right p.1 p.2.1 p.2.2 _).mono ?_
    rw [show (decide (1 ≤ p.2.2 ∧ p.2.2 ≤ 1048576) && decide (p.2.1 < p.2.2)) = pR p from rfl]
    cases h3 : pR p with
    | false =>
      have E : Hid (m.add p = (false, Mu.no)) := hid (by unfold Mu.add Mu.addOk; rw [H1.out, h3]; rfl)
      rintro e w3 ⟨rfl, hb⟩
      replace HQ1 := hid (And.intro (HQ1.out.1.below hb) (And.intro (And.intro (HQ1.out.2.1.1.below hb) (HQ1.out.2.1.2.below hb)) HQ1.out.2.2))
      clear hb h3
      have HCr := hid HQ1.out.1.1.1.2.2
      go_wp2_with (first | ((with_reducible refine wpList_put_cs 43 (rmC Mu.no (false, none, 0, 0)) infoRm rfl (.tmp 4) (.tmp 32) rfl (w.heap.size + 2) _ HCr.out ?pp2_1 ?pp2_2 ?pp2_3 ?pp2_4 ?pp2_5 ?pp2_6); (case pp2_1 => rfl); (case pp2_2 => rfl); (case pp2_3 => rfl); (case pp2_4 => rfl); (case pp2_5 => rfl); (intro W2 hW2); (have HW := hid (HQ1.out.1.put hW2)); (have HW2 := hid hW2); (clear hW2)) | fail)
      obtain ⟨z0, z1, z2, z3, z4⟩ := rm_at HW.out.1
      go_wp2_with fail
      rw [E.out]
      refine bodyPost_ret (v := .tuple #[rmV Mu.no (false, none, 0, 0), .bool false]) (by simp [results, Tryz.results49, go_sem, z0, z1, z2, z3, z4]) rfl ⟨(false, none, 0, 0), rfl, IsB.zero _ _, HW.out.2, frA.zero _⟩
    | true =>
      have H3 := hid h3
      rintro e w3 ⟨rfl, hb⟩
      replace HQ1 := hid (And.intro (HQ1.out.1.below hb) (And.intro (And.intro (HQ1.out.2.1.1.below hb) (HQ1.out.2.1.2.below hb)) HQ1.out.2.2))
      clear hb h3
      obtain ⟨m0, m1, m2, m3, m4⟩ := rm_at HQ1.out.1.1.1.1
      obtain ⟨q0, q1, q2⟩ := P3.at p HQ1.out.1.1.1.2.1
      obtain ⟨a0, a1, a2, a3, _⟩ := HQ1.out.2.1.1
      have al := HQ1.out.2.1.1.lt
      by_cases h4 : 32 ≤ m.n
      · have E : Hid (m.add p = (false, Mu.no)) := hid (by unfold Mu.add Mu.addOk; rw [H1.out, H3.out, show decide (m.n < 32) = false from decide_eq_false (by omega)]; rfl)
        have HCr := hid HQ1.out.1.1.1.2.2
        go_wp2_with (first | ((with_reducible refine wpList_put_cs 43 (rmC Mu.no (false, none, 0, 0)) infoRm rfl (.tmp 4) (.tmp 32) rfl (w.heap.size + 2) _ HCr.out ?pp3_1 ?pp3_2 ?pp3_3 ?pp3_4 ?pp3_5 ?pp3_6); (case pp3_1 => rfl); (case pp3_2 => rfl); (case pp3_3 => rfl); (case pp3_4 => rfl); (case pp3_5 => rfl); (intro W2 hW2); (have HW := hid (HQ1.out.1.put hW2)); (have HW2 := hid hW2); (clear hW2)) | fail)
        obtain ⟨z0, z1, z2, z3, z4⟩ := rm_at HW.out.1
        go_wp2_with fail
        rw [E.out]
        refine bodyPost_ret (v := .tuple #[rmV Mu.no (false, none, 0, 0), .bool false]) (by simp [results, Tryz.results49, go_sem, z0, z1, z2, z3, z4]) rfl ⟨(false, none, 0, 0), rfl, IsB.zero _ _, HW.out.2, frA.zero _⟩
      · go_wp2_with fail
        clear m0 m1 m2 m3 m4 q0 q1 q2 a0 a1 a2 a3 al
        cases h5 : okW (m.a + pD m.b p) with
        | false =>
          have E : Hid (m.add p = (false, Mu.no)) := hid (by unfold Mu.add Mu.addOk; rw [H1.out, H3.out, h5, show decide (m.n < 32) = true from decide_eq_true (by omega)]; rfl)
          have hno : ¬ (-170141183460469231731687303715884105728 ≤ (m.a + pD m.b p) ∧ (m.a + pD m.b p) < 170141183460469231731687303715884105728) := fun h => by have := okW_no h5; unfold WR at this; omega
          refine (Ref.is 78 (by decide) s3 A3 n3 c3 (m.a + pD m.b p) _ HQ1.out.2.1.2 false ⟨fun h => absurd h (by decide), fun h => absurd h hno⟩).mono ?_
          rintro e w4 ⟨rfl, hb⟩
          replace HQ1 := hid (And.intro (HQ1.out.1.below hb) (And.intro (And.intro (HQ1.out.2.1.1.below hb) (HQ1.out.2.1.2.below hb)) HQ1.out.2.2))
          clear hb h5 hno
          have HCr := hid HQ1.out.1.1.1.2.2
          go_wp2_with (first | ((with_reducible refine wpList_put_cs 43 (rmC Mu.no (false, none, 0, 0)) infoRm rfl (.tmp 4) (.tmp 32) rfl (w.heap.size + 2) _ HCr.out ?pp4_1 ?pp4_2 ?pp4_3 ?pp4_4 ?pp4_5 ?pp4_6); (case pp4_1 => rfl); (case pp4_2 => rfl); (case pp4_3 => rfl); (case pp4_4 => rfl); (case pp4_5 => rfl); (intro W2 hW2); (have HW := hid (HQ1.out.1.put hW2)); (have HW2 := hid hW2); (clear hW2)) | fail)
          obtain ⟨z0, z1, z2, z3, z4⟩ := rm_at HW.out.1
          go_wp2_with fail
          rw [E.out]
          refine bodyPost_ret (v := .tuple #[rmV Mu.no (false, none, 0, 0), .bool false]) (by simp [results, Tryz.results49, go_sem, z0, z1, z2, z3, z4]) rfl ⟨(false, none, 0, 0), rfl, IsB.zero _ _, HW.out.2, frA.zero _⟩
        | true =>
          have E : Hid (m.add p = (true, ⟨m.b, (m.a + pD m.b p), m.w + p.2.2, m.n + 1⟩)) := hid (by unfold Mu.add Mu.addOk; rw [H1.out, H3.out, h5, show decide (m.n < 32) = true from decide_eq_true (by omega)]; rfl)
          have hyes : (-170141183460469231731687303715884105728 ≤ (m.a + pD m.b p) ∧ (m.a + pD m.b p) < 170141183460469231731687303715884105728) := by have := okW_iff.1 h5; unfold WR at this; omega
          have HWR := hid (okW_iff.1 h5)
          refine (Ref.is 78 (by decide) s3 A3 n3 c3 (m.a + pD m.b p) _ HQ1.out.2.1.2 true ⟨fun _ => hyes, fun _ => rfl⟩).mono ?_
          rintro e w4 ⟨rfl, hb⟩
          replace HQ1 := hid (And.intro (HQ1.out.1.below hb) (And.intro (And.intro (HQ1.out.2.1.1.below hb) (HQ1.out.2.1.2.below hb)) HQ1.out.2.2))
          clear hb h5 hyes
          have hw : 0 ≤ m.w ∧ m.w ≤ 33554432 ∧ 0 ≤ m.n := by
            by_cases hn : m.n = 0
            · have h := H1.out; unfold Mu.right at h; rw [if_pos hn] at h; simp only [Bool.and_eq_true, decide_eq_true_eq] at h; omega
            · have := right_w H1.out hn; omega
          have e1 : IntKind.u64.wrap p.2.2 = p.2.2 := by have := HP.out.2.2; rw [IntKind.wrap_u64]; omega
          have e2 : IntKind.u64.wrap (m.w + p.2.2) = m.w + p.2.2 := by have := HP.out.2.2; rw [IntKind.wrap_u64]; omega
          have e3 : IntKind.i64.wrap (m.n + 1) = m.n + 1 := by rw [IntKind.wrap_i64]; omega
          obtain ⟨m0, m1, m2, m3, m4⟩ := rm_at HQ1.out.1.1.1.1
          obtain ⟨q0, q1, q2⟩ := P3.at p HQ1.out.1.1.1.2.1
          obtain ⟨a0, a1, a2, a3, _⟩ := HQ1.out.2.1.1
          have al := HQ1.out.2.1.1.lt
          have HCr := hid HQ1.out.1.1.1.2.2
          go_wp2_with (first | ((with_reducible refine wpList_put_cs 43 (rmC ⟨m.b, (m.a + pD m.b p), m.w + p.2.2, m.n + 1⟩ (s3, A3, n3, c3)) infoRm rfl (.tmp 4) (.tmp 45) rfl (w.heap.size + 2) _ HCr.out ?pp5_1 ?pp5_2 ?pp5_3 ?pp5_4 ?pp5_5 ?pp5_6); (case pp5_1 => rfl); (case pp5_2 => rfl); (case pp5_3 => rfl); (case pp5_4 => rfl); (case pp5_5 => rfl); (intro W2 hW2); (have HW := hid (HQ1.out.1.put hW2)); (have HW2 := hid hW2); (clear hW2)) | fail)
          clear m0 m1 m2 m3 m4 q0 q1 q2 a0 a1 a2 a3 al
          obtain ⟨z0, z1, z2, z3, z4⟩ := rm_at HW.out.1
          have HBF : Hid (IsB W2 18 s3 A3 n3 c3 (m.a + pD m.b p)) := hid (by rw [HW2.out]; exact (HQ1.out.2.1.2.narrowR HWR.out).setF HQ1.out.2.2.2 0 _)
          clear e1 e2 e3
          go_wp2_with fail
          rw [E.out]
          refine bodyPost_ret (v := .tuple #[rmV ⟨m.b, (m.a + pD m.b p), m.w + p.2.2, m.n + 1⟩ (s3, A3, n3, c3), .bool true]) (by simp [results, Tryz.results49, go_sem, z0, z1, z2, z3, z4]) rfl ⟨(s3, A3, n3, c3), rfl, HBF.out, HW.out.2, HQ1.out.2.2.2.mono (by omega)⟩
end

/- The document's mean of positions. -/
section
open Go.RowKit
theorem of_taken {base : Int} {l : List P3} {k : Nat} (hk : k < l.length) (h : (Mu.of base (l.take k)).1 = true) : Mu.of base (l.take (k + 1)) = (Mu.of base (l.take k)).2.add (l.getD k (0, 0, 0)) := by
  have e : l.getD k (0, 0, 0) = l[k] := by simp [List.getD, hk]
  rw [List.take_succ_eq_append_getElem hk, e]
  unfold Mu.of at *
  rw [List.foldl_append]
  exact if_pos h
theorem ofStep_dead (l : List P3) : ∀ s : Bool × Mu, s.1 = false → l.foldl ofStep s = s := by
  induction l with
  | nil => intro s _; rfl
  | cons p ps ih =>
    intro s h
    rw [List.foldl_cons, show ofStep s p = s by unfold ofStep; rw [if_neg (by rw [h]; decide)]]
    exact ih s h
theorem of_dead {base : Int} {l : List P3} {k : Nat} (h : (Mu.of base (l.take k)).1 = false) : Mu.of base l = Mu.of base (l.take k) := by
  have e : l = l.take k ++ l.drop k := (List.take_append_drop k l).symm
  unfold Mu.of at *
  conv => lhs; rw [e, List.foldl_append]
  exact ofStep_dead _ _ h
theorem add_no {m : Mu} {p : P3} (h : (m.add p).1 = false) : m.add p = (false, Mu.no) := by
  unfold Mu.add at *
  split at h
  · cases h
  · rename_i hn; rw [if_neg hn]
/-- The answer's variable, and the mean's on the way. -/
def OFS (w : World) (m : Mu) (y : Bq) (W : World) : Prop :=
  (Cs W w.heap.size rmZ ∧ Cs W (w.heap.size + 1) (rmC m y)) ∧ (bqR 18 m.a y W ∧ frA (w.heap.size + 2) y.2.1 y.2.2.1) ∧ Below w.heap.size w W
theorem OFS.below {w : World} {m : Mu} {y : Bq} {W W' : World} (h : OFS w m y W) (hb : Below W.heap.size W W') : OFS w m y W' :=
  ⟨⟨h.1.1.below hb, h.1.2.below hb⟩, ⟨IsB.below h.2.1.1 hb, h.2.1.2⟩, below_on h.2.2 hb⟩
theorem OFS.lt {w : World} {m : Mu} {y : Bq} {W : World} (h : OFS w m y W) : w.heap.size + 2 ≤ W.heap.size := World.block_lt_of_cell? W _ (h.1.2 0 _ rfl).1
theorem OFS.new (w : World) (base : Int) : OFS w ⟨base, 0, 0, 0⟩ (false, none, 0, 0) ((w.alloc (.cells #[.int .u64 0, .bool false, .slice none 0 0, .int .u64 0, .int .i64 0] 43)).alloc (.cells #[.int .u64 base, .bool false, .slice none 0 0, .int .u64 0, .int .i64 0] 43)) := by
  have h1 := Cs.alloc_new6 w 43 rmZ
  have h2 := Cs.alloc_new6 (w.alloc (.cells #[.int .u64 0, .bool false, .slice none 0 0, .int .u64 0, .int .i64 0] 43)) 43 (rmC ⟨base, 0, 0, 0⟩ (false, none, 0, 0))
  simp only [World.size_alloc] at h2
  exact ⟨⟨h1.alloc _, h2⟩, ⟨IsB.zero _ _, frA.zero _⟩, ((Below.refl w.heap.size w).alloc (Nat.le_refl _) _).alloc (by simp) _⟩
/-- The mean's variable turns. -/
theorem OFS.turn {w : World} {m : Mu} {y : Bq} {W W2 : World} (h : OFS w m y W) {k : Mu} {z : Bq} (hB : bqR 18 k.a z W) (hf : frA (w.heap.size + 2) z.2.1 z.2.2.1) (h2 : W2 = W.setCells (w.heap.size + 1) 0 (rmC k z)) : OFS w k z W2 := by
  subst h2
  exact ⟨⟨h.1.1.fars (by omega) _ _, Cs.putL (rmC k z) 0 h.1.2 (by simp [rmC])⟩, ⟨IsB.setF hB hf 0 _, hf⟩, below_sets (by omega) _ _ h.2.2⟩
/-- The answer's variable is stored. -/
theorem OFS.fin {w : World} {m : Mu} {y : Bq} {W W2 : World} (h : OFS w m y W) {k : Mu} {z : Bq} (hB : bqR 18 k.a z W) (hf : frA (w.heap.size + 2) z.2.1 z.2.2.1) (h2 : W2 = W.setCells w.heap.size 0 (rmC k z)) : Cs W2 w.heap.size (rmC k z) ∧ bqR 18 k.a z W2 ∧ Below w.heap.size w W2 := by
  subst h2
  exact ⟨Cs.putL (rmC k z) 0 h.1.1 (by simp [rmC, rmZ]), IsB.setF hB (hf.mono (by omega)) 0 _, below_sets (Nat.le_refl _) _ _ h.2.2⟩
set_option maxRecDepth 100000 in
set_option maxHeartbeats 16000000 in
theorem Ref8.ofF (base : Int) (hb0 : IsT base) (A : Option Addr) (n c : Nat) (l : List P3) (w : World) (hr : RdP w A n l) (hl : ∀ q ∈ l, PIn q) (hn : n ≤ 1000000) : Calls Tryz.prog 10 #[.int .u64 base, .slice A n c] w (RmOkF (Mu.of base l) w) := by
  have HR := hid hr
  have HL := hid hl
  have HLN := hid hr.1
  have HTT := hid hb0
  have HS0 := hid (OFS.new w base)
  have hni : (n : Int) ≤ 1000000 := by omega
  clear hr hl hb0
  go_enter Tryz.func10, Tryz.ntmps10
  go_wp2_with fail
  generalize ((w.alloc (.cells #[.int .u64 0, .bool false, .slice none 0 0, .int .u64 0, .int .i64 0] 43)).alloc (.cells #[.int .u64 base, .bool false, .slice none 0 0, .int .u64 0, .int .i64 0] 43)) = W0 at HS0 ⊢
  go_loopg [15] n (fun s i wr => ∃ (k : Nat) (y : Bq), i = .int .i64 k ∧ k ≤ n ∧ s = n - k ∧ (Mu.of base (l.take k)).1 = true ∧ OFS w (Mu.of base (l.take k)).2 y wr)
  case atStart => exact ⟨0, (false, none, 0, 0), rfl, Nat.zero_le _, by omega, rfl, HS0.out⟩
  case round =>
    obtain ⟨k, ⟨s1, A1, n1, c1⟩, rfl, hk, hs, hok, hns⟩ := hrel
    have HS := hid hs
    have HO := hid hns
    have HOK := hid hok
    clear hs hns hok HS0
    by_cases hkn : k < n
    · obtain ⟨bb, off, hA, _, hc⟩ := (HR.out.below HO.out.2.2).2 0 (by omega)
      obtain ⟨p0, p1, p2⟩ := hc k hkn
      have hkl : k < l.length := by have := HLN.out; omega
      have HX := hid (HL.out _ (getD_mem hkl))
      have HTK := hid (of_taken hkl HOK.out)
      have HM := hid (of_in (base := base) (l := l.take k) HTT.out (fun q hq => HL.out q (List.mem_of_mem_take hq)))
      generalize l.getD k (0, 0, 0) = x at *
      generalize (Mu.of base (l.take k)).2 = m at *
      subst hA
      have hki : (k : Int) < n := by omega
      clear hc hkl
      have HOa := hid (HO.out.below ((Below.refl wr.heap.size wr).alloc (Nat.le_refl _) (.cells #[.int .u64 x.1, .int .u32 x.2.1, .int .u32 x.2.2] 31)))
      have HXc := hid (show Cs (wr.alloc (.cells #[.int .u64 x.1, .int .u32 x.2.1, .int .u32 x.2.2] 31)) wr.heap.size (pcells x) from Cs.alloc_new6 wr 31 (pcells x))
      go_upto_region 5 with fail
      clear p0 p1 p2
      generalize (wr.alloc (.cells #[.int .u64 x.1, .int .u32 x.2.1, .int .u32 x.2.2] 31)) = Wa at HOa HXc ⊢
      generalize wr.heap.size = gp at HXc ⊢
      obtain ⟨m0, m1, m2, m3, m4⟩ := rm_at HOa.out.1.2
      obtain ⟨q0, q1, q2⟩ := P3.at x HXc.out
      go_wp2_with fail
      clear m0 m1 m2 m3 m4 q0 q1 q2 HXc
      obtain ⟨ok, m2, hadd⟩ : ∃ ok m2, m.add x = (ok, m2) := ⟨_, _, rfl⟩
      have HT2 := hid (HTK.out.trans hadd)
      have HNO := hid (fun (h : ok = false) => congrArg Prod.snd (hadd.symm.trans (add_no (m := m) (p := x) (by rw [hadd]; exact h))))
      refine (Ref8.addF m s1 A1 n1 c1 x HM.out HX.out _ HOa.out.2.1.1).mono ?_
      rw [hadd]
      rintro e w2 ⟨⟨s2, A2, n2, c2⟩, rfl, hB2, hb, hf⟩
      have HO3 := hid ((HOa.out.below hb).below ((Below.refl w2.heap.size w2).alloc (Nat.le_refl _) (.cells #[.int .u64 m2.b, .bool s2, .slice A2 n2 c2, .int .u64 m2.w, .int .i64 m2.n] 43)))
      have HF2 : Hid (frA (w.heap.size + 2) A2 n2) := hid (hf.mono HOa.out.lt)
      have HB2 : Hid (bqR 18 m2.a (s2, A2, n2, c2) (w2.alloc (.cells #[.int .u64 m2.b, .bool s2, .slice A2 n2 c2, .int .u64 m2.w, .int .i64 m2.n] 43))) := hid (IsB.alloc hB2 _)
      clear hb hf hB2 hadd HTK HO HOa
      dsimp only
      cases ok with
      | false =>
        have e0 : m2 = Mu.no := HNO.out rfl
        have E : Hid (Mu.of base l = (false, Mu.no)) := hid (by rw [of_dead (k := k + 1) (by rw [HT2.out]), HT2.out, e0])
        have HCr := hid HO3.out.1.1
        clear e0
        go_wp2_with (first | ((with_reducible refine wpList_put_cs 43 (rmC Mu.no (false, none, 0, 0)) infoRm rfl (.tmp 4) (.tmp 27) rfl (w.heap.size) _ HCr.out ?rf1_1 ?rf1_2 ?rf1_3 ?rf1_4 ?rf1_5 ?rf1_6); (case rf1_1 => rfl); (case rf1_2 => rfl); (case rf1_3 => rfl); (case rf1_4 => rfl); (case rf1_5 => rfl); (intro W2 hW2); (have HW := hid (HO3.out.fin (k := Mu.no) (z := (false, none, 0, 0)) (IsB.zero _ _) (frA.zero _) hW2)); (clear hW2)) | fail)
        obtain ⟨z0, z1, z2, z3, z4⟩ := rm_at HW.out.1
        go_wp2_with fail
        rw [E.out]
        refine bodyPost_ret (v := .tuple #[rmV Mu.no (false, none, 0, 0), .bool false]) (by simp [results, Tryz.results10, go_sem, z0, z1, z2, z3, z4]) rfl ⟨(false, none, 0, 0), rfl, IsB.zero _ _, HW.out.2.2, frA.zero _⟩
      | true =>
        have HCr := hid HO3.out.1.2
        go_wp2_with (first | ((with_reducible refine wpList_put_cs 43 (rmC m2 (s2, A2, n2, c2)) infoRm rfl (.tmp 6) (.tmp 28) rfl (w.heap.size + 1) _ HCr.out ?rf2_1 ?rf2_2 ?rf2_3 ?rf2_4 ?rf2_5 ?rf2_6); (case rf2_1 => rfl); (case rf2_2 => rfl); (case rf2_3 => rfl); (case rf2_4 => rfl); (case rf2_5 => rfl); (intro W2 hW2); (have HO4 := hid (HO3.out.turn (k := m2) (z := (s2, A2, n2, c2)) HB2.out HF2.out hW2)); (clear hW2)) | fail)
        go_roundg (n - (k + 1))
        case measure => have := HS.out; omega
        case rel => exact ⟨k + 1, (s2, A2, n2, c2), by go_num, by omega, rfl, by rw [HT2.out], by rw [HT2.out]; exact HO4.out⟩
    · obtain rfl : k = n := by omega
      have hki : ¬ (k : Int) < k := by omega
      have e : l.take k = l := List.take_of_length_le (by have := HLN.out; omega)
      obtain ⟨m, hm⟩ : ∃ m, Mu.of base l = (true, m) := ⟨(Mu.of base l).2, Prod.ext (by have := HOK.out; rwa [e] at this) rfl⟩
      have ho := HO.out
      rw [e, hm] at ho
      have E := hid hm
      have HO5 : Hid (OFS w m (s1, A1, n1, c1) wr) := hid ho
      clear ho hm e HO HOK
      have HCr := hid HO5.out.1.1
      obtain ⟨m0, m1, m2, m3, m4⟩ := rm_at HO5.out.1.2
      go_wp2_with (first | ((with_reducible refine wpList_put_cs 43 (rmC m (s1, A1, n1, c1)) infoRm rfl (.tmp 4) (.tmp 30) rfl (w.heap.size) _ HCr.out ?rf3_1 ?rf3_2 ?rf3_3 ?rf3_4 ?rf3_5 ?rf3_6); (case rf3_1 => rfl); (case rf3_2 => rfl); (case rf3_3 => rfl); (case rf3_4 => rfl); (case rf3_5 => rfl); (intro W2 hW2); (have HW := hid (HO5.out.fin (k := m) (z := (s1, A1, n1, c1)) HO5.out.2.1.1 HO5.out.2.1.2 hW2)); (clear hW2)) | fail)
      clear m0 m1 m2 m3 m4
      obtain ⟨z0, z1, z2, z3, z4⟩ := rm_at HW.out.1
      go_wp2_with fail
      rw [E.out]
      refine bodyPost_ret (v := .tuple #[rmV m (s1, A1, n1, c1), .bool true]) (by simp [results, Tryz.results10, go_sem, z0, z1, z2, z3, z4]) rfl ⟨(s1, A1, n1, c1), rfl, HW.out.2.1, HW.out.2.2, HO5.out.2.1.2.mono (by omega)⟩
end

/- The contracts of the package clamp: how far from 0, and what lags carry. -/
section
open Go.RowKit
/-- A wide number, and what is answered. -/
def Rz2 (w : World) (x : Int) (r : List Value) (w' : World) : Prop := Cs w' w.heap.size [.int .i64 (hiW x), .int .u64 (loW x)] ∧ Cs w' (w.heap.size + 1) r ∧ Below w.heap.size w w'
theorem Rz2.below {w w1 w2 : World} {x : Int} {r : List Value} (h : Rz2 w x r w1) (hb : Below w1.heap.size w1 w2) : Rz2 w x r w2 := ⟨h.1.below hb, h.2.1.below hb, below_on h.2.2 hb⟩
theorem Rz2.new (w : World) (x : Int) : Rz2 w x [.int .i64 0, .int .u64 0] ((w.alloc (.cells #[.int .i64 (hiW x), .int .u64 (loW x)] 34)).alloc (.cells #[.int .i64 0, .int .u64 0] 34)) := by
  have h2 := Cs.alloc_new6 (w.alloc (.cells #[.int .i64 (hiW x), .int .u64 (loW x)] 34)) 34 [.int .i64 0, .int .u64 0]
  simp only [World.size_alloc] at h2
  exact ⟨(Cs.alloc_new6 w 34 [.int .i64 (hiW x), .int .u64 (loW x)]).alloc _, h2, ((Below.refl w.heap.size w).alloc (Nat.le_refl _) _).alloc (by simp) _⟩
theorem Rz2.put {w w1 : World} {x : Int} {a b : Value} (h : Rz2 w x [a, b] w1) {a' b' : Value} {W : World} (hW : W = w1.setCells (w.heap.size + 1) 0 [a', b']) : Cs W (w.heap.size + 1) [a', b'] ∧ Below w.heap.size w W := by
  rw [hW]; exact ⟨Cs.putL _ 0 h.2.1 (by simp), below_sets (by omega) _ _ h.2.2⟩
set_option maxRecDepth 100000 in
set_option maxHeartbeats 4000000 in
theorem Clamp.size (x : Int) (hx : WR x) (w : World) : Calls Tryz.prog 18 #[wv x] w (Ans (wv (szI x)) w) := by
  have HX := hid hx
  have HQ0 := hid (Rz2.new w x)
  unfold wv
  by_cases c : 0 ≤ x
  · have C1 := hid (cmpI_ge0.2 c)
    have E : Hid (szI x = x) := hid (by unfold szI; rw [if_pos c])
    rw [E.out]
    clear hx c E
    go_enter Tryz.func18, Tryz.ntmps18
    go_wp2_with fail
    generalize ((w.alloc (.cells #[.int .i64 (hiW x), .int .u64 (loW x)] 34)).alloc (.cells #[.int .i64 0, .int .u64 0] 34)) = W0 at HQ0 ⊢
    obtain ⟨k0, k1⟩ := HQ0.out.1.two
    go_wp2_with fail
    refine (Wide.signF HX.out _).mono ?_
    rintro e w1 ⟨rfl, hb⟩
    have HQ1 := hid (HQ0.out.below hb)
    clear hb HQ0 k0 k1
    obtain ⟨k0, k1⟩ := HQ1.out.1.two
    have c1 := C1.out
    have HCr := hid HQ1.out.2.1
    go_wp2_with (first | ((with_reducible refine wpList_put_cs 34 [.int .i64 (hiW x), .int .u64 (loW x)] infoWide rfl (.tmp 2) (.tmp 8) rfl (w.heap.size + 1) _ HCr.out ?h30001_1 ?h30001_2 ?h30001_3 ?h30001_4 ?h30001_5 ?h30001_6); (case h30001_1 => rfl); (case h30001_2 => rfl); (case h30001_3 => rfl); (case h30001_4 => rfl); (case h30001_5 => rfl); (intro W2 hW2); (have HW := hid (HQ1.out.put hW2)); (clear hW2)) | fail)
    obtain ⟨z0, z1⟩ := HW.out.1.two
    go_wp2_with fail
    refine bodyPost_ret (v := wv x) (by simp [results, Tryz.results18, go_sem, z0, z1, hiW0, loW0]) rfl ⟨rfl, HW.out.2⟩
  · have C1 := hid (show ¬ 0 ≤ cmpI x 0 from fun h => c (cmpI_ge0.1 h))
    cases hk : okW (-x) with
    | true =>
      have E : Hid (szI x = -x) := hid (by
        have := okW_iff.1 hk
        unfold WR at this
        unfold szI; rw [if_neg c, if_neg (by omega)])
      rw [E.out]
      have H1 := hid hk
      have H2 := hid (clW_ok hk)
      clear hx c E hk
      go_enter Tryz.func18, Tryz.ntmps18
      go_wp2_with fail
      generalize ((w.alloc (.cells #[.int .i64 (hiW x), .int .u64 (loW x)] 34)).alloc (.cells #[.int .i64 0, .int .u64 0] 34)) = W0 at HQ0 ⊢
      obtain ⟨k0, k1⟩ := HQ0.out.1.two
      go_wp2_with fail
      refine (Wide.signF HX.out _).mono ?_
      rintro e w1 ⟨rfl, hb⟩
      have HQ1 := hid (HQ0.out.below hb)
      clear hb HQ0 k0 k1
      obtain ⟨k0, k1⟩ := HQ1.out.1.two
      have c1 := C1.out
      go_wp2_with fail
      refine (Wide.negF HX.out _).mono ?_
      rw [H1.out, H2.out]
      rintro e w2 ⟨rfl, hb⟩
      have HQ2 := hid ((HQ1.out.below hb).below ((Below.refl _ _).alloc (Nat.le_refl _) (.cells #[.int .i64 (hiW (-x)), .int .u64 (loW (-x))] 34)))
      have HG : Hid (Cs (w2.alloc (.cells #[.int .i64 (hiW (-x)), .int .u64 (loW (-x))] 34)) w2.heap.size [.int .i64 (hiW (-x)), .int .u64 (loW (-x))]) := hid (Cs.new2 w2 _ _ _)
      clear hb HQ1 k0 k1 c1
      obtain ⟨k0, k1⟩ := HG.out.two
      have HCr := hid HQ2.out.2.1
      go_wp2_with (first | ((with_reducible refine wpList_put_cs 34 [.int .i64 (hiW (-x)), .int .u64 (loW (-x))] infoWide rfl (.tmp 2) (.tmp 17) rfl (w.heap.size + 1) _ HCr.out ?h30002_1 ?h30002_2 ?h30002_3 ?h30002_4 ?h30002_5 ?h30002_6); (case h30002_1 => rfl); (case h30002_2 => rfl); (case h30002_3 => rfl); (case h30002_4 => rfl); (case h30002_5 => rfl); (intro W2 hW2); (have HW := hid (HQ2.out.put hW2)); (clear hW2)) | fail)
      obtain ⟨z0, z1⟩ := HW.out.1.two
      go_wp2_with fail
      refine bodyPost_ret (v := wv (-x)) (by simp [results, Tryz.results18, go_sem, z0, z1, hiW0, loW0]) rfl ⟨rfl, HW.out.2⟩
    | false =>
      have E : Hid (szI x = mxW) := hid (by
        have := okW_no hk
        unfold WR at this hx
        unfold szI; rw [if_neg c, if_pos (by omega)])
      rw [E.out]
      have H1 := hid hk
      have H2 := hid (clW_no hk)
      clear hx c E hk
      go_enter Tryz.func18, Tryz.ntmps18
      go_wp2_with fail
      generalize ((w.alloc (.cells #[.int .i64 (hiW x), .int .u64 (loW x)] 34)).alloc (.cells #[.int .i64 0, .int .u64 0] 34)) = W0 at HQ0 ⊢
      obtain ⟨k0, k1⟩ := HQ0.out.1.two
      go_wp2_with fail
      refine (Wide.signF HX.out _).mono ?_
      rintro e w1 ⟨rfl, hb⟩
      have HQ1 := hid (HQ0.out.below hb)
      clear hb HQ0 k0 k1
      obtain ⟨k0, k1⟩ := HQ1.out.1.two
      have c1 := C1.out
      go_wp2_with fail
      refine (Wide.negF HX.out _).mono ?_
      rw [H1.out, H2.out]
      rintro e w2 ⟨rfl, hb⟩
      have HQ2 := hid ((HQ1.out.below hb).below ((Below.refl _ _).alloc (Nat.le_refl _) (.cells #[.int .i64 (hiW 0), .int .u64 (loW 0)] 34)))
      clear hb HQ1 k0 k1 c1
      go_wp2_with fail
      refine (Clamp.greatest _).mono ?_
      rintro e w3 ⟨rfl, hb⟩
      have HQ3 := hid (HQ2.out.below hb)
      clear hb HQ2
      have HCr := hid HQ3.out.2.1
      go_wp2_with (first | ((with_reducible refine wpList_put_cs 34 [.int .i64 (hiW mxW), .int .u64 (loW mxW)] infoWide rfl (.tmp 2) (.tmp 16) rfl (w.heap.size + 1) _ HCr.out ?h30003_1 ?h30003_2 ?h30003_3 ?h30003_4 ?h30003_5 ?h30003_6); (case h30003_1 => rfl); (case h30003_2 => rfl); (case h30003_3 => rfl); (case h30003_4 => rfl); (case h30003_5 => rfl); (intro W2 hW2); (have HW := hid (HQ3.out.put hW2)); (clear hW2)) | fail)
      obtain ⟨z0, z1⟩ := HW.out.1.two
      go_wp2_with fail
      refine bodyPost_ret (v := wv mxW) (by simp [results, Tryz.results18, go_sem, z0, z1, hiW0, loW0]) rfl ⟨rfl, HW.out.2⟩
/-- Wide numbers, as a list of their words. -/
def wds (l : List Int) : List (Int × Int) := l.map fun x => (hiW x, loW x)
theorem vW_wds {x : Int} : vW (hiW x, loW x) = x := by unfold vW hiW loW; simp only; omega
theorem wds_length (l : List Int) : (wds l).length = l.length := by unfold wds; rw [List.length_map]
theorem wds_get {l : List Int} {k : Nat} (hk : k < l.length) : (wds l).getD k (0, 0) = (hiW (l.getD k 0), loW (l.getD k 0)) := by
  unfold wds; simp [List.getD, hk]
theorem wds_all {l : List Int} (h : ∀ x ∈ l, WR x) : AllW (wds l) := fun p hp => by
  obtain ⟨x, hx, rfl⟩ := List.mem_map.1 hp
  rw [vW_wds]; exact isW_of (h x hx)
theorem RdW.new3 (w : World) (t : TypeId) (a b c : Int) : RdW (w.alloc (.cells #[.int .i64 (hiW a), .int .u64 (loW a), .int .i64 (hiW b), .int .u64 (loW b), .int .i64 (hiW c), .int .u64 (loW c)] t)) (some ⟨w.heap.size, 0, none⟩) 3 (wds [a, b, c]) :=
  ⟨rfl, fun _ _ => ⟨_, 0, rfl, by simp, fun j hj => by
    rcases j with _ | _ | _ | j
    · simp [wds]
    · simp [wds]
    · simp [wds]
    · omega⟩⟩
theorem RdW.new2 (w : World) (t : TypeId) (a b : Int) : RdW (w.alloc (.cells #[.int .i64 (hiW a), .int .u64 (loW a), .int .i64 (hiW b), .int .u64 (loW b)] t)) (some ⟨w.heap.size, 0, none⟩) 2 (wds [a, b]) :=
  ⟨rfl, fun _ _ => ⟨_, 0, rfl, by simp, fun j hj => by
    rcases j with _ | _ | j
    · simp [wds]
    · simp [wds]
    · omega⟩⟩
/-- Three that aren't below 0, together. -/
theorem Wide.sum3 {a b : Int} (a0 : 0 ≤ a) (ha : WR a) (b0 : 0 ≤ b) (hb : WR b) (A : Option Addr) (c : Nat) (w : World) (hr : RdW w A 3 (wds [a, b, 2])) :
    Calls Tryz.prog 65 #[.slice A 3 c] w (Ans (.tuple #[wv (clW (a + b + 2)), .bool (okW (a + b + 2))]) w) := by
  have hall : ∀ x ∈ [a, b, 2], WR x := by
    intro x hx
    simp only [List.mem_cons, List.not_mem_nil, or_false] at hx
    rcases hx with rfl | rfl | rfl
    · exact ha
    · exact hb
    · unfold WR; omega
  refine (Wide.sum A 3 c (wds [a, b, 2]) w hr (wds_all hall) (by decide)).mono ?_
  have e0 : sumZ ((wds [a, b, 2]).take 0) = 0 := rfl
  have e1 : sumZ ((wds [a, b, 2]).take 1) = a := by show vW (hiW a, loW a) + 0 = a; rw [vW_wds]; omega
  have e2 : sumZ ((wds [a, b, 2]).take 2) = a + b := by show vW (hiW a, loW a) + (vW (hiW b, loW b) + 0) = a + b; rw [vW_wds, vW_wds]; omega
  have e3 : sumZ (wds [a, b, 2]) = a + b + 2 := by show vW (hiW a, loW a) + (vW (hiW b, loW b) + (vW (hiW 2, loW 2) + 0)) = a + b + 2; rw [vW_wds, vW_wds, vW_wds]; omega
  rintro e w' ⟨h, l, ok, rfl, hs, hb'⟩
  rcases hs with ⟨rfl, g1, g2⟩ | ⟨rfl, rfl, rfl, j, hj, hw⟩
  · rw [e3] at g2
    have hk := okW_iff.2 g2.wr
    rw [clW_ok hk, hk]
    obtain ⟨rfl, rfl⟩ := g2.words
    exact ⟨rfl, hb'⟩
  · have hk : okW (a + b + 2) = false := by
      cases e : okW (a + b + 2)
      · rfl
      · have hwr := okW_iff.1 e
        exfalso
        apply hw
        have hj3 : j ≤ 3 := hj
        unfold WR at *
        rcases j with _ | _ | _ | _ | j
        · rw [e0]; omega
        · rw [e1]; omega
        · rw [e2]; omega
        · rw [show sumZ ((wds [a, b, 2]).take 3) = a + b + 2 from e3]; omega
        · omega
    rw [clW_no hk, hk]
    exact ⟨by unfold wv; rw [hiW0, loW0], hb'⟩
set_option maxRecDepth 100000 in
set_option maxHeartbeats 8000000 in
theorem Clamp.carried (A : Option Addr) (n c : Nat) (l : List Int) (w : World) (hz : RdW w A n (wds l)) (hi : ∀ x ∈ l, WR x) (hn : n ≤ 9223372036854775807) :
    Calls Tryz.prog 20 #[.slice A n c] w (Ans (wv (carI l)) w) := by
  have HZ := hid hz
  have HL : Hid (l.length = n) := hid (by rw [← wds_length]; exact hz.1)
  have HI := hid hi
  have HN := hid hn
  clear hz hi hn
  go_enter Tryz.func20, Tryz.ntmps20
  go_wp2_with fail
  go_loopg [9] n (fun g i wr => ∃ k : Nat, k ≤ n ∧ g = n - k ∧ i = .int .i64 k ∧ carS (l.take k) ≤ mxW ∧ Vs w [(w.heap.size + 1, [.int .i64 (hiW (carS (l.take k))), .int .u64 (loW (carS (l.take k)))]), (w.heap.size, [.int .i64 0, .int .u64 0])] wr)
  case atStart =>
    refine ⟨0, Nat.zero_le _, by omega, rfl, (by rw [List.take_zero, carS_nil]; decide), Vs.more (Vs.more (Vs.nil (((Below.refl _ _).alloc (Nat.le_refl _) _).alloc (by simp) _)) ((Cs.new2 _ _ _ _).alloc _)) ?_⟩
    have := Cs.new2 (w.alloc (.cells #[.int .i64 0, .int .u64 0] 34)) 34 (.int .i64 0) (.int .u64 0)
    rw [List.take_zero, carS_nil, hiW0, loW0]
    simpa using this
  case round =>
    obtain ⟨k, hk, hg, rfl, hle, hV⟩ := hrel
    have hn' := HN.out
    have HG := hid hg
    have HLE := hid hle
    have V := hid hV
    clear hg hV hle
    by_cases hlt : k < n
    · obtain ⟨b, off, rfl, hbl, hc⟩ := (HZ.out.below V.out.2).2 k hlt
      obtain ⟨hc0, hc1⟩ := hc k hlt
      have hkl : k < l.length := by have := HL.out; omega
      have HS := hid (carS_take hkl)
      rw [wds_get hkl] at hc0 hc1
      have HX : Hid (WR (l.getD k 0)) := hid (by
        have e : l.getD k 0 = l[k] := by simp [List.getD, hkl]
        rw [e]; exact HI.out _ (List.getElem_mem hkl))
      have HA0 : Hid (0 ≤ carS (l.take k) ∧ WR (carS (l.take k))) := hid (by
        have h1 := carS_nn (l := l.take k) (fun x hx => HI.out x (List.mem_of_mem_take hx))
        have h2 := HLE.out
        unfold mxW at h2
        exact ⟨h1, by unfold WR; omega⟩)
      have HZX := hid (szI_bd HX.out)
      have HZW := hid (szI_wr HX.out)
      have hki : (k : Int) < n := by omega
      clear hkl
      generalize carS (l.take k) = a at *
      generalize l.getD k 0 = x at *
      dsimp only at hc0 hc1
      clear hc
      go_wp2_with fail
      have V1 := hid (Vs.more (V.out.alloc (.cells #[.int .i64 (hiW x), .int .u64 (loW x)] 34)) (Cs.new2 wr 34 (.int .i64 (hiW x)) (.int .u64 (loW x))))
      clear hc0 hc1 V
      generalize wr.alloc (.cells #[.int .i64 (hiW x), .int .u64 (loW x)] 34) = W1 at V1 ⊢
      generalize wr.heap.size = gx at V1 ⊢
      have s0 := (V1.out.at 1 rfl).at0
      have s1 := (V1.out.at 1 rfl).at1
      have x0 := (V1.out.at 0 rfl).at0
      have x1 := (V1.out.at 0 rfl).at1
      go_region_with (first
        | (go_at_call 18; refine (Clamp.size x HX.out _).mono ?_; rintro e w2 ⟨rfl, hb2⟩; have V2 := hid (V1.out.drew.below hb2); clear hb2; have s0 := (V2.out.at 1 rfl).at0; have s1 := (V2.out.at 1 rfl).at1)
        | (go_at_call 56; refine (Wide.ofF (x := 2) (by decide) (by decide) _).mono ?_; rintro e w3 ⟨rfl, hb2⟩; have V3 := hid (V2.out.below hb2); have V4 := hid (V3.out.alloc (.cells #[.int .i64 (hiW a), .int .u64 (loW a), .int .i64 (hiW (szI x)), .int .u64 (loW (szI x)), .int .i64 (hiW 2), .int .u64 (loW 2)] 34)); have HR := hid (RdW.new3 w3 34 a (szI x) 2); clear hb2; have s0 := (V3.out.at 1 rfl).at0; have s1 := (V3.out.at 1 rfl).at1)
        | (go_at_call 65; refine (Wide.sum3 HA0.out.1 HA0.out.2 HZX.out.1 HZW.out _ _ _ HR.out).mono ?_; rintro e w4 ⟨rfl, hb2⟩; have V5 := hid (V4.out.below hb2); clear hb2; have s0 := (V5.out.at 1 rfl).at0; have s1 := (V5.out.at 1 rfl).at1; have s2 := (V5.out.at 1 rfl).fr0; have s3 := (V5.out.at 1 rfl).fr1; have sz := (V5.out.at 1 rfl).lt))
      all_goals
        cases hk : okW (a + szI x + 2) with
        | true =>
          rw [clW_ok hk]
          have HK := hid (okW_iff.1 hk)
          clear hk
          go_wp2_with fail
          go_roundg (n - (k + 1))
          case measure => have := HG.out; omega
          case rel =>
            have e : carS (l.take (k + 1)) = a + szI x + 2 := by have := HS.out; omega
            refine ⟨k + 1, by omega, rfl, by go_num, ?_, ?_⟩
            · rw [e]; have := HK.out; unfold WR at this; unfold mxW; omega
            · rw [e]
              exact Vs.more (Vs.more (Vs.nil ((V5.out.2.setCell (by simp) _).setCell (by simp) _)) (((V5.out.at 2 rfl).far (by omega) _ _).far (by omega) _ _)) ((V5.out.at 1 rfl).put2 _ _)
        | false =>
          have HK : Hid (carI l = mxW) := hid (carI_stop (k := k + 1) HI.out (by
            have h1 := HS.out
            have h2 := okW_no hk
            have h3 := HA0.out.1
            have h4 := HZX.out.1
            unfold WR at h2
            unfold mxW
            omega))
          rw [clW_no hk]
          clear hk
          go_wp2_with fail
          refine (Clamp.greatest _).mono ?_
          rintro e w5 ⟨rfl, hb5⟩
          have V6 : Hid (Vs w [(w.heap.size, [.int .i64 0, .int .u64 0])] w5) := hid (Vs.below (Vs.more (Vs.nil ((V5.out.2.setCell (by simp) _).setCell (by simp) _)) (((V5.out.at 2 rfl).far (by omega) _ _).far (by omega) _ _)) hb5)
          clear hb5
          have r0 := (V6.out.at 0 rfl).at0
          have r1 := (V6.out.at 0 rfl).at1
          have r2 := (V6.out.at 0 rfl).fr0
          have r3 := (V6.out.at 0 rfl).fr1
          go_wp2_with fail
          refine bodyPost_ret (v := wv mxW) (by simp [results, Tryz.results20, go_sem, r0, r1]) rfl ⟨by rw [HK.out], ?_⟩
          exact (V6.out.2.setCell (by simp) _).setCell (by simp) _
    · have e : l.take k = l := List.take_of_length_le (by have := HL.out; omega)
      have hki : ¬ (k : Int) < n := by omega
      have E : Hid (carI l = carS l) := hid (carI_go (by have := HLE.out; rwa [e] at this))
      rw [e] at V
      have r0 := (V.out.at 1 rfl).at0
      have r1 := (V.out.at 1 rfl).at1
      have t0 := (V.out.at 0 rfl).at0
      have t1 := (V.out.at 0 rfl).at1
      have r2 := (V.out.at 1 rfl).fr0
      have r3 := (V.out.at 1 rfl).fr1
      clear e
      go_wp2_with fail
      refine bodyPost_ret (v := wv (carS l)) (by simp [results, Tryz.results20, go_sem, r0, r1]) rfl ⟨by rw [E.out], ?_⟩
      exact (V.out.2.setCell (by simp) _).setCell (by simp) _
end

/- A slice of items: how it is opened, for the laws' frames. -/
section
open Go.ChangeShapes Go.WideShapes Go.ChangeAt Go.RowKit Go.Joins Go.Deep
set_option maxRecDepth 100000 in
theorem open_items {H : Type} {enc : TypeId × Value → H} {W : World} {base b0 : Nat} {spare : Nat → Bool} {held : Bool} {r : Reach} {v : Value} {d : DataW H} {p : List MemPlace}
    (hv : Value.okWide Tryz.prog W r b0 60 v) (h : DataW.Trod enc Tryz.prog W base spare held 60 v d p) :
    ∃ (a : Option Addr) (n c : Nat) (ps : List It), v = .slice a n c ∧ (RdI W a n ps ∧ InI ps) ∧ n ≤ 9223372036854775807 := by
  obtain ⟨a, n, c, rfl⟩ := okWide_slice Tryz.underlying60 hv
  obtain ⟨fuel, hf⟩ := h
  rcases open_slice Tryz.underlying60 hf with ⟨hcs, _⟩ | ⟨x, l, cp, m, nn, D, Pl, hcs, _, hl, hm, hmm, _, hx⟩
  · simp [Value.cells] at hcs
    obtain ⟨rfl, rfl, rfl⟩ := hcs
    exact ⟨_, _, _, [], rfl, ⟨⟨rfl, fun i hi => absurd hi (by omega)⟩, (by intro p hp; cases hp)⟩, by omega⟩
  · simp [Value.cells] at hcs
    obtain ⟨rfl, rfl, rfl⟩ := hcs
    have hlm : n ≤ m := by rw [hmm]; split <;> omega
    have each : ∀ i, i < n → ∃ q : It, (W.cell? (x.add (i * 7)) = some (.int .u64 q.t) ∧ W.cell? (x.add (i * 7 + 1)) = some (.int .u32 q.r) ∧ W.cell? (x.add (i * 7 + 2)) = some (.int .u32 q.v) ∧ W.cell? (x.add (i * 7 + 3)) = some (.int .i64 q.i) ∧ W.cell? (x.add (i * 7 + 4)) = some (.int .u64 q.u) ∧ W.cell? (x.add (i * 7 + 5)) = some (.int .u32 q.s) ∧ W.cell? (x.add (i * 7 + 6)) = some (.int .u32 q.y)) ∧ q.In := by
      intro i hi
      obtain ⟨cs', h1, h2⟩ := hx i (by omega)
      rw [cellsItemI] at h1
      obtain ⟨_, hlen, hcell⟩ := World.cells?_some h1
      match cs', hlen with
      | [u0, u1, u2, u3, u4, u5, u6], _ =>
        obtain ⟨q, hq, hin⟩ := item_cells h2
        have e0 := hcell 0 (by omega)
        have e1 := hcell 1 (by omega)
        have e2 := hcell 2 (by omega)
        have e3 := hcell 3 (by omega)
        have e4 := hcell 4 (by omega)
        have e5 := hcell 5 (by omega)
        have e6 := hcell 6 (by omega)
        rw [add_add] at e0 e1 e2 e3 e4 e5 e6
        simp [It.cells] at hq
        obtain ⟨q0, q1, q2, q3, q4, q5, q6⟩ := hq
        subst q0 q1 q2 q3 q4 q5 q6
        simp at e0 e1 e2 e3 e4 e5 e6
        exact ⟨q, ⟨e0, e1, e2, e3, e4, e5, e6⟩, hin⟩
    have hget : ∀ (f : Nat → It) (j : Nat), j < n → ((List.range n).map f).getD j It.zero = f j := fun f j hj => by simp [List.getD, hj]
    refine ⟨_, _, _, (List.range n).map (fun i => if hi : i < n then (each i hi).choose else It.zero), rfl, ⟨⟨by simp, fun i hi => ?_⟩, ?_⟩, by unfold maxLen at hm; omega⟩
    · obtain ⟨u, h0⟩ : ∃ u, W.cell? (x.add 0) = some u := by
        obtain ⟨q, hq, _⟩ := each 0 (by omega)
        exact ⟨_, hq.1⟩
      have ex := spot_none h0
      refine ⟨x.block, x.off, by rw [← ex], World.block_lt_of_cell? W _ (by rw [show x.add 0 = x by simp [Addr.add]] at h0; exact h0), fun j hj => ?_⟩
      rw [hget _ j hj, dif_pos hj]
      have hj' := (each j hj).choose_spec.1
      generalize (each j hj).choose = q at *
      rw [ex] at hj'
      simp only [add_at, ← Nat.add_assoc] at hj'
      exact hj'
    · intro q hq
      rw [List.mem_map] at hq
      obtain ⟨j, hj, rfl⟩ := hq
      have hj' : j < n := List.mem_range.1 hj
      rw [dif_pos hj']
      exact (each j hj').choose_spec.2
end

end Go.Proofs.YtklaghleghncoaaGreatDoor

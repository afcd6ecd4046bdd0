/- The contract of the document's text. -/
import Derived.Test.YtjklcbbanlaicaaDoorTextP
import Derived.Test.YtjklcbbanlaicaaDoorRefQ
namespace Go.Proofs.YtjklcbbanlaicaaDoor
open Go.RowKit

theorem bdrop (b : UInt8) (R : List UInt8) : (⟨(b :: R).toArray⟩ : ByteArray).extract 1 (R.length + 1) = ⟨R.toArray⟩ := by
  apply ByteArray.ext
  rw [ByteArray.data_extract]
  simp
theorem txt_plus {x : Int} {u : Nat} (h : x = if false = true then -(u : Int) else (u : Int)) : txtOf x = Lib.decDigits u := by
  have e : x = u := h
  exact txt_pos (by omega) (by unfold absI; rw [if_neg (by omega)]; omega)
theorem txt_minus {x : Int} {u : Nat} (h0 : 0 < u) (h : x = if true = true then -(u : Int) else (u : Int)) : txtOf x = 45 :: Lib.decDigits u := by
  have e : x = -(u : Int) := h
  exact txt_neg (by omega) (by unfold absI; rw [if_pos (by omega)]; omega)
theorem tmod10 (u : Nat) : ((u : Int)).tmod 10 = ((u % 10 : Nat) : Int) := by rw [Int.tmod_eq_emod_of_nonneg (by omega)]; omega
theorem tdiv10 (u : Nat) : ((u : Int)).tdiv 10 = ((u / 10 : Nat) : Int) := by rw [Int.tdiv_eq_ediv_of_nonneg (by omega)]; omega

set_option maxRecDepth 100000 in
set_option maxHeartbeats 4000000 in
theorem Ref.text (K : Nat) (hK : K ≤ 1000) (s : Bool) (A : Option Addr) (n c : Nat) (x : Int) (w : World) (hx : IsB w K s A n c x) :
    Calls Tryd.prog 12 #[.agg #[.bool s, .slice A n c]] w fun e w' => e = .returned (.string ⟨(txtOf x).toArray⟩) ∧ Below w.heap.size w w' := by
  obtain ⟨zs, hr, hnK, hnc, hd, hnm, hs, hxv⟩ := hx
  have HR := hid hr
  have HL := hid hr.1
  have HX := hid (And.intro hd (And.intro hnm (And.intro hs hxv)))
  have hn : n ≤ 1000 := by omega
  clear hr hd hnm hs hxv
  go_enter Tryd.func12, Tryd.ntmps12
  go_wp2_with fail
  go_loopg [3, 10] n (fun g a i wr => ∃ k : Nat, k ≤ n ∧ g = n - k ∧ i = .int .i64 k ∧ a = .string ⟨(pads (zs.take k)).toArray⟩ ∧ (wr.cell? ⟨w.heap.size, 0, none⟩ = some (.bool s) ∧ w.heap.size < wr.heap.size) ∧ Below w.heap.size w wr)
  case atStart =>
    exact ⟨0, Nat.zero_le _, rfl, rfl, rfl, ⟨by simp [go_sem], by simp⟩, (Below.refl _ _).alloc (Nat.le_refl _) _⟩
  case round =>
    obtain ⟨k, hk, hg, rfl, rfl, hc, hb⟩ := hrel
    have HC := hid hc
    have HB := hid hb
    have HG := hid hg
    clear hg hc hb
    by_cases hlt : k < n
    · obtain ⟨b, off, rfl, hcs⟩ := (HR.out.below HB.out).2 (by omega)
      have hcell := hcs k hlt
      clear hcs
      obtain ⟨z0, z1⟩ := HX.out.1.getD k
      have HS := hid (pads_take zs (k := k) (by have := HL.out; omega))
      generalize zs.getD k 0 = z at *
      obtain ⟨D, rfl⟩ := Int.eq_ofNat_of_zero_le z0
      go_wp2_with fail
      go_loopg [3, 5, 6] 4 (fun g a d i wx => ∃ j : Nat, j ≤ 4 ∧ g = 4 - j ∧ i = .int .i64 j ∧ d = .int .i64 ((D / 10 ^ j : Nat) : Int) ∧ a = .string ⟨(pad j D ++ pads (zs.take k)).toArray⟩ ∧ (wx.cell? ⟨w.heap.size, 0, none⟩ = some (.bool s) ∧ w.heap.size < wx.heap.size) ∧ Below w.heap.size w wx)
      case atStart =>
        exact ⟨0, by decide, rfl, rfl, by simp, by simp [pad], HC.out, HB.out⟩
      case round =>
        obtain ⟨j, hj, hg, rfl, rfl, rfl, hc, hb⟩ := hrel
        have HC2 := hid hc
        have HB2 := hid hb
        have HG2 := hid hg
        clear hg hc hb
        by_cases hj4 : j < 4
        · obtain ⟨u, hu⟩ : ∃ u, u = D / 10 ^ j := ⟨_, rfl⟩
          have HU := hid hu
          rw [← hu]
          have h1 := tmod10 u
          have h2 := tdiv10 u
          have h3 : IntKind.u8.wrap (48 + ((u % 10 : Nat) : Int)) = 48 + ((u % 10 : Nat) : Int) := by rw [IntKind.wrap_u8]; omega
          obtain ⟨bt, hbt⟩ : ∃ bt, bt = UInt8.ofNat (48 + u % 10) := ⟨_, rfl⟩
          have hb8 : bt.toNat = 48 + u % 10 := by rw [hbt, UInt8.toNat_ofNat']; omega
          have HBT := hid hbt
          have h7 : u ≤ 9999 := by have := Nat.div_le_self D (10 ^ j); omega
          have hcv : (convert 55 9 (.slice (some ⟨wr.heap.size, 0, none⟩) 1 1)).run Tryd.prog (wr.alloc (Obj.cells #[.int .u8 (48 + (u : Int) % 10)] 5)) = .ok (.string ⟨[bt].toArray⟩) (wr.alloc (Obj.cells #[.int .u8 (48 + (u : Int) % 10)] 5)) := by
            have h := run_convert_bytes_back (P := Tryd.prog) (wr.alloc (Obj.cells #[.int .u8 (48 + (u : Int) % 10)] 5)) 55 9 5 ⟨wr.heap.size, 0, none⟩ 1 [bt] Tryd.underlying55 Tryd.underlying5 Tryd.underlying9 (fun j hj => by
              obtain rfl : j = 0 := by simpa using hj
              rw [Lib.add_plain, World.cell?_alloc_new]
              simp only [List.getElem_cons_zero, hb8]
              simp)
            exact h
          have h4 := pad_length j D
          have h5 : (pads (zs.take k)).length ≤ 4000 := by rw [pads_length, List.length_take]; omega
          clear hu hb8 hbt
          go_wp2_with fail
          have e1 : (⟨#[bt]⟩ : ByteArray) ++ ⟨(pad j D ++ pads (zs.take k)).toArray⟩ = ⟨(pad (j + 1) D ++ pads (zs.take k)).toArray⟩ := by
            rw [pad_front, ← HU.out, ← HBT.out]; exact bcat [_] _
          have e2 : D / 10 ^ (j + 1) = u / 10 := by rw [Nat.pow_succ, ← Nat.div_div_eq_div_mul, ← HU.out]
          go_roundg (4 - (j + 1))
          case measure => have := HG2.out; omega
          case rel => exact ⟨j + 1, by omega, rfl, by go_num, by rw [e2]; go_num, congrArg Value.string e1, ⟨cell_alloc _ HC2.out.1, by have := HC2.out.2; simp; omega⟩, HB2.out.alloc HB2.out.size _⟩
        · obtain rfl : j = 4 := by omega
          go_wp2_with fail
          go_roundg (n - (k + 1))
          case measure => have := HG.out; omega
          case rel => exact ⟨k + 1, by omega, rfl, by go_num, by rw [HS.out]; rfl, HC2.out, HB2.out⟩
    · have e : zs.take k = zs := List.take_of_length_le (by have := HL.out; omega)
      rw [e]
      by_cases hz : zs = []
      · subst hz
        have hx0 : x = 0 := by rw [HX.out.2.2.2]; simp [val]
        subst hx0
        go_wp2_with fail
        go_loopg [3] 0 (fun g a wx => g = 0 ∧ a = .string ⟨#[]⟩ ∧ (wx.cell? ⟨w.heap.size, 0, none⟩ = some (.bool s) ∧ w.heap.size < wx.heap.size) ∧ Below w.heap.size w wx)
        case atStart => exact ⟨rfl, rfl, HC.out, HB.out⟩
        case round =>
          obtain ⟨hg, rfl, hc, hb⟩ := hrel
          have HB2 := hid hb
          clear hc hb hg
          go_wp2_with fail
          go_ret
          exact ⟨by rw [show txtOf 0 = [48] from by rw [txt_pos (u := 0) (by decide) rfl, dec_small (by decide)]; rfl]; rfl, HB2.out⟩
      · obtain ⟨m, em, hm⟩ := pads_dec zs HX.out.1 hz
        have hv := val_pos HX.out.1 HX.out.2.1 hz
        obtain ⟨u, hu⟩ := Int.eq_ofNat_of_zero_le (show 0 ≤ val zs by omega)
        have HXU := hid (And.intro hu HX.out.2.2.2)
        rw [hu] at em hm hv
        rw [show ((u : Int)).toNat = u from rfl] at em hm
        obtain ⟨d0, r0, ed, hd0⟩ := dec_head u u (Nat.le_refl _) (by omega)
        have HED := hid ed
        have HU0 := hid (show 0 < u by omega)
        have HLN := hid hm
        rw [em]
        clear em hm hu hv
        go_wp2_with fail
        go_loopg [3] m (fun g a wx => ∃ i : Nat, i ≤ m ∧ g = i ∧ a = .string ⟨(List.replicate i 48 ++ Lib.decDigits u).toArray⟩ ∧ (wx.cell? ⟨w.heap.size, 0, none⟩ = some (.bool s) ∧ w.heap.size < wx.heap.size) ∧ Below w.heap.size w wx)
        case atStart => exact ⟨m, Nat.le_refl _, rfl, rfl, HC.out, HB.out⟩
        case round =>
          obtain ⟨i, hi, hg, rfl, hc, hb⟩ := hrel
          have HC2 := hid hc
          have HB2 := hid hb
          have HG2 := hid hg
          clear hg hc hb
          cases i with
          | zero =>
            rw [show List.replicate 0 (48 : UInt8) ++ Lib.decDigits u = d0 :: r0 from HED.out]
            have hix : (((({ data := (d0 :: r0).toArray } : ByteArray)[0]'(by simp [ByteArray.size])).toNat : Int) == 48) = false := by
              have e : (({ data := (d0 :: r0).toArray } : ByteArray)[0]'(by simp [ByteArray.size])) = d0 := rfl
              rw [e, beq_eq_false_iff_ne]
              intro h
              exact hd0 (UInt8.toNat_inj.1 (show d0.toNat = (48 : UInt8).toNat from by simpa using Int.ofNat_inj.1 h))
            have hlr : r0.length ≤ 4000 := by have h := HLN.out; rw [HED.out, List.length_cons] at h; have := HL.out; omega
            have hbc := bcat [45] (d0 :: r0)
            have HBC := hid hbc
            clear hbc
            obtain ⟨c0, c1⟩ := HC2.out
            have HU := HXU.out.2
            rw [HXU.out.1] at HU
            have HU2 := hid HU
            clear HU
            cases s
            · go_wp2_with fail
              all_goals go_ret
              all_goals exact ⟨by rw [txt_plus HU2.out, HED.out]; rfl, HB2.out⟩
            · go_wp2_with fail
              all_goals go_ret
              all_goals exact ⟨by rw [txt_minus HU0.out HU2.out, HED.out]; exact congrArg (fun x => Ending.returned (.string x)) HBC.out, HB2.out⟩
          | succ i =>
            rw [List.replicate_succ, List.cons_append]
            have h1 : 1 ≤ (List.replicate i (48 : UInt8) ++ Lib.decDigits u).length := by rw [List.length_append, HED.out, List.length_cons]; omega
            obtain ⟨R, hR⟩ : ∃ R, R = List.replicate i (48 : UInt8) ++ Lib.decDigits u := ⟨_, rfl⟩
            have HRR := hid hR
            rw [← hR] at h1 ⊢
            clear hR
            have hix : (((({ data := (48 :: R).toArray } : ByteArray)[0]'(by simp [ByteArray.size])).toNat : Int) == 48) = true := rfl
            have hlen : (1 : Int) < (R.length : Int) + 1 := by omega
            have HX2 := hid (bdrop 48 R)
            go_wp2_with fail
            go_roundg i
            case measure => have := HG2.out; omega
            case rel => exact ⟨i, by omega, rfl, congrArg Value.string (HX2.out.trans (by rw [HRR.out])), HC2.out, HB2.out⟩
end Go.Proofs.YtjklcbbanlaicaaDoor

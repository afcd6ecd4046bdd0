/- The contract of wide's String. -/
import Derived.Test.YtegohmeapamoaaaGreatDoorRep
import Derived.Test.YtegohmeapamoaaaGreatDoorLimitsKeepZ7
namespace Go.Proofs.YtegohmeapamoaaaGreatDoor
open Go.RowKit Go.Shelf Go.Lib
/-- The decimal text of a number. -/
def txtOf (n : Int) : List UInt8 := if n < 0 then 45 :: Lib.decDigits n.natAbs else Lib.decDigits n.natAbs
theorem txt_neg {a : Int} {u : Nat} (h : a < 0) (e : (u : Int) = absI a) : txtOf a = 45 :: Lib.decDigits u := by
  unfold txtOf absI at *; rw [if_pos h] at *; rw [show a.natAbs = u by omega]
theorem txt_pos {a : Int} {u : Nat} (h : ¬ a < 0) (e : (u : Int) = absI a) : txtOf a = Lib.decDigits u := by
  unfold txtOf absI at *; rw [if_neg h] at *; rw [show a.natAbs = u by omega]
theorem dec_len19 {u : Nat} (h : u < 10000000000000000000) : (Lib.decDigits u).length ≤ 19 ∧ 1 ≤ (Lib.decDigits u).length := by
  obtain ⟨m, _, e⟩ := pad_dec 18 u (by simpa using h)
  refine ⟨by omega, ?_⟩
  rw [Lib.decDigits_length]; unfold Lib.nDigits; split <;> omega
theorem dec_len20 {u : Nat} (h : u < 100000000000000000000) : (Lib.decDigits u).length ≤ 20 := by
  obtain ⟨m, _, e⟩ := pad_dec 19 u (by simpa using h)
  omega
theorem bcat (x y : List UInt8) : (⟨x.toArray⟩ : ByteArray) ++ ⟨y.toArray⟩ = ⟨(x ++ y).toArray⟩ := by
  apply ByteArray.ext
  simp [ByteArray.data_append]
theorem bcat' (x y : List UInt8) : (⟨⟨x⟩⟩ : ByteArray) ++ ⟨y.toArray⟩ = ⟨(x ++ y).toArray⟩ := bcat x y
theorem dec_join19 {q r : Nat} (hq : 0 < q) (hr : r < 10000000000000000000) : Lib.decDigits q ++ List.replicate (19 - (Lib.decDigits r).length) 48 ++ Lib.decDigits r = Lib.decDigits (q * 10000000000000000000 + r) := by
  obtain ⟨m, e, hm⟩ := pad_dec 18 r (by simpa using hr)
  have h := dec_pad 19 q r hq (by simpa using hr)
  rw [show (10 : Nat) ^ 19 = 10000000000000000000 by decide] at h
  rw [h, e, ← List.append_assoc, show 19 - (Lib.decDigits r).length = m by omega]
set_option maxRecDepth 100000 in
set_option maxHeartbeats 2000000 in
theorem Wide.string (h1 l1 a : Int) (ha : IsW h1 l1 a) (w : World) (htab : Tab10 w.heap.size w) :
    Calls Tryz.prog 287 #[.agg #[.int .i64 h1, .int .u64 l1]] w fun e w' =>
      e = .returned (.string ⟨(txtOf a).toArray⟩) ∧ Below w.heap.size w w' := by
  have sg : h1 < 0 ↔ a < 0 := by obtain ⟨a1, a2, a3, a4, a5⟩ := ha; omega
  have SG := hid sg
  have HA := hid ha
  clear sg ha
  go_enter Tryz.func287, Tryz.ntmps287
  go_wp2_with fail
  refine (Wide.size _ _ _ HA.out _).mono ?_
  rintro e w1 ⟨h, l, rfl, ⟨hsz, hh⟩, hb⟩
  have HSZ := hid hsz
  obtain ⟨n1, n2, n3, n4, n5⟩ := hsz
  clear n5
  go_wp2_with fail
  refine (Div.div64 h l 10000000000000000000 n1 (by omega) n3 n4 (by decide) _).mono ?_
  rintro e w2 ⟨q, r, rfl, ⟨e1, r0, r1, q0, q1⟩, hb2⟩
  obtain ⟨q, rfl⟩ := Int.eq_ofNat_of_zero_le q0
  obtain ⟨r, rfl⟩ := Int.eq_ofNat_of_zero_le r0
  have E1 := hid (show ((q * 10000000000000000000 + r : Nat) : Int) = absI a by have := HSZ.out.2.2.2.2; omega)
  have B2 := hb.trans (hb2.mono hb.size)
  have hr : r < 10000000000000000000 := by omega
  have hq : q < 18446744073709551616 := by omega
  clear hb hb2 e1
  have T2 : Below w.heap.size w w2 := ((Below.refl _ _).alloc (Nat.le_refl _) _).trans (B2.mono (by simp))
  have HT := hid (htab.on T2)
  have HB2 := hid T2
  have K2 := hid (keep2 (b0 := w.heap.size) (o0 := 0) (b1 := w.heap.size) (o1 := 1) (v0 := .int .i64 h1) (v1 := .int .u64 l1) ⟨by rw [World.cell?_alloc_new]; rfl, by rw [World.cell?_alloc_new]; rfl⟩ B2)
  have hs : w.heap.size < w2.heap.size := by have := B2.size; simp at this; omega
  clear T2
  go_wp2_with fail
  refine (Txt.format r (by omega) _ HT.out.here).mono ?_
  rintro e w3 ⟨rfl, hb3⟩
  have T3 : Below w.heap.size w w3 := HB2.out.trans (hb3.mono (by omega))
  have HT3 := hid (htab.on T3)
  have HB3 := hid T3
  obtain ⟨g0, g1⟩ := keep2 K2.out hb3
  have K3 := hid (And.intro g0 g1)
  have hs3 : w.heap.size < w3.heap.size := by have := hb3.size; omega
  have HL := hid (dec_len19 hr)
  have HQ := hid (And.intro hq hr)
  clear T3 B2 hq hr r0 r1 q1 n1 n2 n3 n4 hh hs hb3
  by_cases c2 : q = 0
  · subst c2
    obtain ⟨m1, m2⟩ := HL.out
    by_cases c1 : h1 < 0
    · go_wp2_with fail
      go_ret
      exact ⟨by rw [txt_neg (SG.out.1 c1) (by simpa using E1.out)]; exact congrArg (fun x => Ending.returned (.string x)) (bcat [45] _), HB3.out⟩
    · go_wp2_with fail
      go_ret
      exact ⟨by rw [txt_pos (by have := SG.out; omega) (by simpa using E1.out)]; rfl, HB3.out⟩
  · have c2' : ((q : Int) == 0) = false := by simpa using c2
    have HQL := hid (dec_len20 (Nat.lt_trans HQ.out.1 (by decide)))
    have HJ := hid (dec_join19 (Nat.pos_of_ne_zero c2) HQ.out.2)
    go_wp2_with fail
    refine (Txt.format q HQ.out.1 _ HT3.out.here).mono ?_
    rintro e w4 ⟨rfl, hb4⟩
    have T4 : Below w.heap.size w w4 := HB3.out.trans (hb4.mono (by omega))
    have HB4 := hid T4
    have hs4 : w.heap.size < w4.heap.size := by have := hb4.size; omega
    have K4 := hid (keep2 K3.out hb4)
    clear T4 g0 g1 hb4
    go_wp2_with fail
    have hk : wrap64 (19 - ((Lib.decDigits r).length : Int)) = ((19 - (Lib.decDigits r).length : Nat) : Int) := by have := HL.out; unfold wrap64; omega
    rw [hk]
    clear hk
    refine (Txt.zeros _ (by omega) _).mono ?_
    rintro e w5 ⟨rfl, hb5⟩
    have HB5 := hid (HB4.out.trans (hb5.mono (by omega)))
    have hs5 : w.heap.size < w5.heap.size := by have := hb5.size; omega
    obtain ⟨g0, g1⟩ := keep2 K4.out hb5
    clear hb5
    obtain ⟨m1, m2⟩ := HL.out
    have m3 := HQL.out
    by_cases c1 : h1 < 0
    · go_wp2_with fail
      go_ret
      exact ⟨by rw [txt_neg (SG.out.1 c1) E1.out, ← HJ.out]; exact congrArg (fun x => Ending.returned (.string x)) (by rw [← List.toArray_replicate, bcat (Lib.decDigits q) (List.replicate _ _), bcat (_ ++ _) (Lib.decDigits r), bcat' [45]]; rfl), HB5.out⟩
    · go_wp2_with fail
      go_ret
      exact ⟨by rw [txt_pos (by have := SG.out; omega) E1.out, ← HJ.out]; exact congrArg (fun x => Ending.returned (.string x)) (by rw [← List.toArray_replicate, bcat (Lib.decDigits q) (List.replicate _ _), bcat (_ ++ _) (Lib.decDigits r)]), HB5.out⟩
end Go.Proofs.YtegohmeapamoaaaGreatDoor

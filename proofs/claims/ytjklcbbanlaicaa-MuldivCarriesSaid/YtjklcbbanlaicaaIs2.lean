/- The contracts of the document's answer for layer 2 (turnstoneref02), continued: are these the quotient, and what is left? (Where they are.) -/
import Derived.Test.YtjklcbbanlaicaaGreat
namespace Go.Proofs.Ytjklcbbanlaicaa
open Go.RowKit

/-- What stands in memory while a quotient is held against its number. -/
def IQ (w0 : World) (s1 : Bool) (A1 : Option Addr) (n1 c1 : Nat) (a : Int) (s2 : Bool) (A2 : Option Addr) (n2 c2 : Nat) (q : Int) (s3 : Bool) (A3 : Option Addr) (n3 c3 : Nat) (r : Int) (w : World) : Prop :=
  Below w0.heap.size w0 w ∧ IsB w 500 s1 A1 n1 c1 a ∧ IsB w 300 s2 A2 n2 c2 q ∧ IsB w 300 s3 A3 n3 c3 r
theorem IQ.below {w0 : World} {s1 : Bool} {A1 : Option Addr} {n1 c1 : Nat} {a : Int} {s2 : Bool} {A2 : Option Addr} {n2 c2 : Nat} {q : Int} {s3 : Bool} {A3 : Option Addr} {n3 c3 : Nat} {r : Int} {w w' : World}
    (h : IQ w0 s1 A1 n1 c1 a s2 A2 n2 c2 q s3 A3 n3 c3 r w) (hb : Below w.heap.size w w') : IQ w0 s1 A1 n1 c1 a s2 A2 n2 c2 q s3 A3 n3 c3 r w' := ⟨below_keep h.1 hb, h.2.1.below hb, h.2.2.1.below hb, h.2.2.2.below hb⟩
theorem keepS {w w' : World} {Q : World → Prop} {b0 o0 b1 o1 b2 o2 b3 o3 b4 o4 b5 o5 : Nat} {v0 v1 v2 v3 v4 v5 : Value}
    (h : (w.cell? ⟨b0, o0, none⟩ = some v0 ∧ w.cell? ⟨b1, o1, none⟩ = some v1 ∧ w.cell? ⟨b2, o2, none⟩ = some v2 ∧ w.cell? ⟨b3, o3, none⟩ = some v3 ∧ w.cell? ⟨b4, o4, none⟩ = some v4 ∧ w.cell? ⟨b5, o5, none⟩ = some v5) ∧ Q w) (hb : Below w.heap.size w w') (hq : Q w → Q w') :
    (w'.cell? ⟨b0, o0, none⟩ = some v0 ∧ w'.cell? ⟨b1, o1, none⟩ = some v1 ∧ w'.cell? ⟨b2, o2, none⟩ = some v2 ∧ w'.cell? ⟨b3, o3, none⟩ = some v3 ∧ w'.cell? ⟨b4, o4, none⟩ = some v4 ∧ w'.cell? ⟨b5, o5, none⟩ = some v5) ∧ Q w' := ⟨keep6 h.1 hb, hq h.2⟩

set_option maxRecDepth 100000 in
set_option maxHeartbeats 4000000 in
theorem Ref2.is (b a q r : Int) (b0 : 0 ≤ b) (b1 : b ≤ 18446744073709551615) (r0 : 0 ≤ r) (r1 : r < b) (he : q * b + r = a) (s1 s2 s3 : Bool) (A1 A2 A3 : Option Addr) (n1 c1 n2 c2 n3 c3 : Nat) (w : World)
    (h1 : IsB w 500 s1 A1 n1 c1 a) (h2 : IsB w 300 s2 A2 n2 c2 q) (h3 : IsB w 300 s3 A3 n3 c3 r) :
    Calls Try.prog 33 #[.agg #[.bool s1, .slice A1 n1 c1], .int .u64 b, .agg #[.bool s2, .slice A2 n2 c2], .agg #[.bool s3, .slice A3 n3 c3]] w fun e w' => e = .returned (.bool true) ∧ Below w.heap.size w w' := by
  have f1 : decide (0 ≤ cmpI r 0) = true := by
    rw [decide_eq_true_eq]
    rcases Int.lt_or_eq_of_le r0 with h | h
    · rw [cmpI_gt h]; decide
    · rw [← h, cmpI_eq]; decide
  have f2 : decide (cmpI r b < 0) = true := by rw [cmpI_lt r1]; rfl
  have f3 : (cmpI (q * b + r) a == 0) = true := by rw [he, cmpI_eq]; rfl
  have H1 := hid h1
  have H2 := hid h2
  have H3 := hid h3
  clear h1 h2 h3 he r0 r1
  go_enter Try.func33, Try.ntmps33
  go_wp2_with fail
  obtain ⟨W0, hW⟩ : ∃ W0, W0 = ((w.alloc (Obj.cells #[Value.bool s1, Value.slice A1 n1 c1] 26)).alloc (Obj.cells #[Value.bool s2, Value.slice A2 n2 c2] 26)).alloc (Obj.cells #[Value.bool s3, Value.slice A3 n3 c3] 26) := ⟨_, rfl⟩
  rw [← hW]
  have HS0 : Hid ((W0.cell? ⟨w.heap.size, 0, none⟩ = some (.bool s1) ∧ W0.cell? ⟨w.heap.size, 1, none⟩ = some (.slice A1 n1 c1) ∧ W0.cell? ⟨w.heap.size + 1, 0, none⟩ = some (.bool s2) ∧ W0.cell? ⟨w.heap.size + 1, 1, none⟩ = some (.slice A2 n2 c2) ∧ W0.cell? ⟨w.heap.size + 1 + 1, 0, none⟩ = some (.bool s3) ∧ W0.cell? ⟨w.heap.size + 1 + 1, 1, none⟩ = some (.slice A3 n3 c3)) ∧ IQ w s1 A1 n1 c1 a s2 A2 n2 c2 q s3 A3 n3 c3 r W0) :=
    hid (by rw [hW]; exact ⟨⟨by simp [go_sem], by simp [go_sem], by simp [go_sem], by simp [go_sem], by simp [go_sem], by simp [go_sem]⟩, (((Below.refl _ _).alloc (Nat.le_refl _) _).alloc (by simp) _).alloc (by simp; omega) _, ((H1.out.alloc _).alloc _).alloc _, ((H2.out.alloc _).alloc _).alloc _, ((H3.out.alloc _).alloc _).alloc _⟩)
  clear hW
  go_region_held3 (fun w' => (w'.cell? ⟨w.heap.size, 0, none⟩ = some (.bool s1) ∧ w'.cell? ⟨w.heap.size, 1, none⟩ = some (.slice A1 n1 c1) ∧ w'.cell? ⟨w.heap.size + 1, 0, none⟩ = some (.bool s2) ∧ w'.cell? ⟨w.heap.size + 1, 1, none⟩ = some (.slice A2 n2 c2) ∧ w'.cell? ⟨w.heap.size + 1 + 1, 0, none⟩ = some (.bool s3) ∧ w'.cell? ⟨w.heap.size + 1 + 1, 1, none⟩ = some (.slice A3 n3 c3)) ∧ IQ w s1 A1 n1 c1 a s2 A2 n2 c2 q s3 A3 n3 c3 r w')
    (first | exact ⟨HS0.out.1, HS0.out.2.1.drew, HS0.out.2.2⟩ | exact keepS (by assumption) hb2 (fun h => IQ.below h hb2))
    (first
      | (go_at_call 85; refine (Ref.sign 300 s3 A3 n3 c3 r _ (And.right (by assumption : (_ ∧ _ ∧ _ ∧ _ ∧ _ ∧ _) ∧ IQ w s1 A1 n1 c1 a s2 A2 n2 c2 q s3 A3 n3 c3 r _)).2.2.2).mono ?_; rintro e w2 ⟨rfl, hb2⟩)
      | (go_at_call 34; refine (Ref.U b b0 b1 _).mono ?_; rintro e w3 ⟨s4, A4, n4, c4, rfl, hB, hb2⟩; have H4 := hid hB; have HI := hid (IQ.below (And.right (by assumption : (_ ∧ _ ∧ _ ∧ _ ∧ _ ∧ _) ∧ IQ w s1 A1 n1 c1 a s2 A2 n2 c2 q s3 A3 n3 c3 r _)) hb2); clear hB)
      | (go_at_call 37; refine (Ref.mul 300 5 s2 s4 A2 A4 n2 c2 n4 c4 q b _ HI.out.2.2.1 H4.out (by decide) (by decide)).mono ?_; rintro e w4 ⟨s5, A5, n5, c5, rfl, hB, hb2⟩; have H5 := hid hB; have HJ := hid (IQ.below HI.out hb2); clear hB)
      | (go_at_call 19; refine (Ref.add 306 s5 s3 A5 A3 n5 c5 n3 c3 (q * b) r _ H5.out (HJ.out.2.2.2.mono (by decide)) (by decide)).mono ?_; rintro e w5 ⟨s6, A6, n6, c6, rfl, hB, hb2⟩; have H6 := hid (hB.mono (show 307 ≤ 500 by decide)); have HK := hid (IQ.below HJ.out hb2); clear hB)
      | (go_at_call 40; refine (Ref.cmp 500 s6 s1 A6 A1 n6 c6 n1 c1 (q * b + r) a _ H6.out HK.out.2.1 (by decide)).mono ?_; rintro e w6 ⟨rfl, hb2⟩)
      | (go_at_call 40; refine (Ref.cmp 300 s3 s4 A3 A4 n3 c3 n4 c4 r b _ HI.out.2.2.2 (H4.out.mono (by decide)) (by decide)).mono ?_; rintro e w6 ⟨rfl, hb2⟩))
  obtain ⟨_, hfin⟩ : (_ ∧ _ ∧ _ ∧ _ ∧ _ ∧ _) ∧ IQ w s1 A1 n1 c1 a s2 A2 n2 c2 q s3 A3 n3 c3 r _ := by assumption
  have HFIN := hid hfin.1
  clear hfin
  go_wp2
  go_ret
  exact ⟨rfl, HFIN.out⟩

end Go.Proofs.Ytjklcbbanlaicaa

/- The contracts of the document's answer for layer 1, continued: comparing. -/
import Derived.Test.YtjklcbbanlaicaaDoorRefH
namespace Go.Proofs.YtjklcbbanlaicaaDoor
open Go.RowKit

theorem cmpI_sub (x y : Int) : cmpI (x - y) 0 = cmpI x y := by
  rcases Int.lt_trichotomy x y with h | h | h
  · rw [cmpI_lt h, cmpI_lt (by omega)]
  · subst h; rw [Int.sub_self, cmpI_eq, cmpI_eq]
  · rw [cmpI_gt h, cmpI_gt (by omega)]

set_option maxHeartbeats 1000000 in
theorem Ref.cmp (K : Nat) (s t : Bool) (A B : Option Addr) (n c m d : Nat) (x y : Int) (w : World) (hx : IsB w K s A n c x) (hy : IsB w K t B m d y) (hK : K ≤ 1000000) :
    Calls Tryd.prog 18 #[.agg #[.bool s, .slice A n c], .agg #[.bool t, .slice B m d]] w fun e w' => e = .returned (.int .i64 (cmpI x y)) ∧ Below w.heap.size w w' := by
  have HX := hid hx
  have HY := hid hy
  clear hx hy
  go_enter Tryd.func18, Tryd.ntmps18
  go_wp2_with fail
  refine (Ref.sub K s t A B n c m d x y _ ((HX.out.alloc _).alloc _) ((HY.out.alloc _).alloc _) hK).mono ?_
  rintro e w1 ⟨s', A', n', c', rfl, hB, hb⟩
  have HB := hid hB
  clear hB
  go_wp2_with fail
  refine (Ref.sign _ s' A' n' c' _ _ HB.out).mono ?_
  rintro e w2 ⟨rfl, hb2⟩
  go_wp2
  go_ret
  exact ⟨by rw [cmpI_sub]; rfl, (((Below.refl _ _).alloc (Nat.le_refl _) _).alloc (by simp) _).trans ((hb.trans (hb2.mono hb.size)).mono (by simp; omega))⟩

end Go.Proofs.YtjklcbbanlaicaaDoor

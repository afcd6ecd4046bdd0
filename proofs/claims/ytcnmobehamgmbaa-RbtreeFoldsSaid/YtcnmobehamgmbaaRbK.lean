/- The tree of numbers: is a thing there, a thing more, a thing less. -/
import Derived.Test.YtcnmobehamgmbaaRbJ
import Derived.BigQuiet
import Derived.Deep.QuietTactic
namespace Go.Proofs.Ytcnmobehamgmbaa
open Go.RowKit

/-- A whole tree lies here. -/
def TreeAt (w : World) (th : Nat) (t : Tr Int) : Prop := Env w th (ptr t) t.list.length ∧ In w t ∧ t.blocks.Nodup
theorem TreeAt.below {w w' : World} {th : Nat} {t : Tr Int} (h : TreeAt w th t) (hb : Below w.heap.size w w') : TreeAt w' th t := ⟨h.1.below hb, h.2.1.below hb, h.2.2⟩

set_option maxRecDepth 100000 in
set_option maxHeartbeats 1000000 in
theorem Rb.has (th : Nat) (t : Tr Int) (x : Int) (w : World) (h : TreeAt w th t) :
    Calls Try.prog 44 #[.pointer (some ⟨th, 0, none⟩), .int .i64 x] w (Ans (.bool (Tr.has ltI x t)) w) := by
  have HT := hid h
  obtain ⟨_, _, t0, _⟩ := h.1
  have e3 := t0.at3
  have HL := hid (t0.at0)
  clear t0 h
  go_enter Try.func44, Try.ntmps44
  go_wp2_with fail
  go_loopg [5] t.size (fun s a wr => Below w.heap.size w wr ∧ ∃ u : Tr Int, a = ptr u ∧ s = u.size ∧ In w u ∧ Tr.has ltI x u = Tr.has ltI x t)
  case atStart => exact ⟨Below.refl _ _, t, rfl, rfl, HT.out.2.1, rfl⟩
  case round =>
    obtain ⟨hb, u, rfl, hs, hi, he⟩ := hrel
    have HB := hid hb
    have HS := hid hs
    have HE := hid he
    have HI := hid (hi.below hb)
    have HIw := hid hi
    have e0 := keep1 hb HL.out
    clear hb hs he hi e3
    cases u with
    | nil =>
      simp only [ptr_nil]
      clear e0
      go_wp2_with fail
      go_ret
      exact ⟨by rw [← HE.out]; rfl, HB.out⟩
    | node g c l y r =>
      obtain ⟨⟨v, _, hc⟩, hl, hr⟩ := id HI.out
      have c0 := hc.at0
      have c2 := hc.at2
      have c3 := hc.at3
      clear hc hl hr
      simp only [ptr_node]
      have HQ : Hid (Tr.has ltI x (.node g c l y r) = if ltI x y then Tr.has ltI x l else if ltI y x then Tr.has ltI x r else true) := hid rfl
      cases h1 : ltI x y with
      | true =>
        have H1 := hid h1
        clear h1
        go_wp2_with fail
        go_still_tail 9, (by kernel_rfl)
        change wpList _ _ _ _ _ wr.drew
        go_wp2_with fail
        refine (Law6.lessI x y _).mono ?_
        rintro e w1 ⟨rfl, rfl⟩
        rw [H1.out]
        go_wp2_with fail
        go_roundg l.size
        case measure => have := HS.out; simp only [Tr.size] at this; omega
        case rel => exact ⟨HB.out.drew, l, rfl, rfl, HIw.out.2.1, by rw [← HE.out, HQ.out, if_pos H1.out]⟩
      | false =>
        have H1 := hid h1
        clear h1
        cases h2 : ltI y x with
        | true =>
          have H2 := hid h2
          clear h2
          go_wp2_with fail
          go_still_tail 9, (by kernel_rfl)
          change wpList _ _ _ _ _ wr.drew
          go_wp2_with fail
          refine (Law6.lessI x y _).mono ?_
          rintro e w1 ⟨rfl, rfl⟩
          rw [H1.out]
          go_wp2_with fail
          have X := hid (And.intro HB.out.drew (And.intro (show wr.drew.cell? ⟨g, 0, none⟩ = _ from c0) (And.intro (show wr.drew.cell? ⟨g, 3, none⟩ = _ from c3) (show wr.drew.cell? ⟨th, 0, none⟩ = _ from e0))))
          clear c0 c2 c3 e0 HI HB
          generalize wr.drew = w9 at X ⊢
          obtain ⟨hb9, c0, c3, e0⟩ := X
          have HB := hid hb9
          clear hb9
          go_still_tail 9, (by kernel_rfl)
          change wpList _ _ _ _ _ w9.drew
          go_wp2_with fail
          refine (Law6.lessI y x _).mono ?_
          rintro e w1 ⟨rfl, rfl⟩
          rw [H2.out]
          go_wp2_with fail
          go_roundg r.size
          case measure => have := HS.out; simp only [Tr.size] at this; omega
          case rel => exact ⟨HB.out.drew, r, rfl, rfl, HIw.out.2.2, by rw [← HE.out, HQ.out, if_neg (by rw [H1.out]; simp), if_pos H2.out]⟩
        | false =>
          have H2 := hid h2
          clear h2
          go_wp2_with fail
          go_still_tail 9, (by kernel_rfl)
          change wpList _ _ _ _ _ wr.drew
          go_wp2_with fail
          refine (Law6.lessI x y _).mono ?_
          rintro e w1 ⟨rfl, rfl⟩
          rw [H1.out]
          go_wp2_with fail
          have X := hid (And.intro HB.out.drew (And.intro (show wr.drew.cell? ⟨g, 0, none⟩ = _ from c0) (And.intro (show wr.drew.cell? ⟨g, 3, none⟩ = _ from c3) (show wr.drew.cell? ⟨th, 0, none⟩ = _ from e0))))
          clear c0 c2 c3 e0 HI HB
          generalize wr.drew = w9 at X ⊢
          obtain ⟨hb9, c0, c3, e0⟩ := X
          have HB := hid hb9
          clear hb9
          go_still_tail 9, (by kernel_rfl)
          change wpList _ _ _ _ _ w9.drew
          go_wp2_with fail
          refine (Law6.lessI y x _).mono ?_
          rintro e w1 ⟨rfl, rfl⟩
          rw [H2.out]
          go_wp2_with fail
          go_ret
          exact ⟨by rw [← HE.out, HQ.out, if_neg (by rw [H1.out]; simp), if_neg (by rw [H2.out]; simp)]; rfl, HB.out.drew⟩

end Go.Proofs.Ytcnmobehamgmbaa

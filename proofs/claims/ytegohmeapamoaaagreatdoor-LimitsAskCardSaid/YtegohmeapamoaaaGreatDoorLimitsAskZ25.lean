/- Texts of LimitsAsk's proof, together. -/
import Derived.Test.YtegohmeapamoaaaGreatDoorLimitsAskZ17
import Derived.Test.YtegohmeapamoaaaGreatDoorLimitsAskZ0
import Derived.Test.YtegohmeapamoaaaGreatDoorLimitsAskZ24
import Derived.Test.YtegohmeapamoaaaGreatDoorLimitsAskZ7
import Derived.Deep.CutBlock
import Derived.Deep.DeepCutAuto
import Derived.Deep.RegionWith
import Derived.Deep.LoopGhost
namespace Go.Proofs.YtegohmeapamoaaaGreatDoor
/- What the statements of layer 1 ask of a wide number and one of the document's: the same, or told as it is. -/
section
open Go.RowKit
set_option maxHeartbeats 1000000 in
theorem Law.of (h l n : Int) (hw : IsW h l n) (w : World) :
    Calls Tryz.prog 28 #[.agg #[.int .i64 h, .int .u64 l]] w (BAns 18 n w) := by
  obtain ⟨h0, h1, l0, l1, rfl⟩ := hw
  go_enter Tryz.func28, Tryz.ntmps28
  go_wp2_with fail
  refine (Ref.wide h l h0 h1 l0 l1 _).mono ?_
  rintro e w1 ⟨s', A', n', c', rfl, hB, hb⟩
  have hF := (Fresh.new (w.alloc (.cells #[.int .i64 h, .int .u64 l] 26)) 39).below hb
  simp only [World.size_alloc] at hF
  have HB := hid hB
  have HF := hid hF
  obtain ⟨t0, t1, t2, t3, _⟩ := hF
  clear hB
  go_wp2
  refine bodyPost_ret (v := .agg #[.bool s', .slice A' n' c']) (by simp [results, Tryz.results28, go_sem, t0, t1]) rfl ⟨_, _, _, _, rfl, HB.out.store HF.out.2.2.2.2 _ _ _ _, ?_⟩
  exact (((((Below.refl _ _).alloc (Nat.le_refl _) _).alloc (by simp) _).trans (hb.mono (by simp; omega))).setCell (by simp) _).setCell (by simp) _
end

/- The contracts of the document's answer for layer 1, continued: a quotient by a small number, and what is left. -/
section
open Go.RowKit
theorem Var.far1 {w : World} {g : Nat} {s : Bool} {A : Option Addr} {n c : Nat} (h : Var w g s A n c) {b : Nat} (hb : b ≠ g) (o : Nat) (u : Value) : Var (w.setCell ⟨b, o, none⟩ u) g s A n c := by
  have far : ∀ (p : Nat), (w.setCell ⟨b, o, none⟩ u).cell? ⟨g, p, none⟩ = w.cell? ⟨g, p, none⟩ := fun p => World.cell?_setCell_other w ⟨b, o, none⟩ ⟨g, p, none⟩ u (fun e => by injection e with e1; exact hb e1)
  refine ⟨(far 0).trans h.1, (far 1).trans h.2.1, ?_, ?_, fun p k e => h.2.2.2.2 p k ((far p).symm.trans e)⟩
  · simpa [go_sem] using h.2.2.1
  · simpa [go_sem] using h.2.2.2.1
end

end Go.Proofs.YtegohmeapamoaaaGreatDoor

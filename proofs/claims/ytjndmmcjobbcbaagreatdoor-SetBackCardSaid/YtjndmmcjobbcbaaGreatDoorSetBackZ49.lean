/- Texts of SetBack's proof, together. -/
import Derived.Test.YtjndmmcjobbcbaaGreatDoorCkI
import Derived.Shelf.SlMaps.Clone
import Derived.Test.YtjndmmcjobbcbaaGreatDoorCkW
namespace Go.Proofs.YtjndmmcjobbcbaaGreatDoor
/- The checker's hook for maps' clones; both hooks. -/
namespace Ck
open Go Go.RowKit
set_option maxRecDepth 100000 in
set_option maxHeartbeats 2000000 in
theorem mapsCloneI (b : Nat) (es : Array MapEntry) (ck : Nat) (w : World) (hb : w.heap[b]? = some (.map es ck)) :
    Calls Tryz.prog 70 #[.map (some b)] w fun e w' => e = .returned (.map (some w.heap.size)) ∧ w' = w.alloc (.map es ck) := by
  have hq := fun w => run_eql_map_nil_sl (P := Tryz.prog) w 128 _ _ (some b) Tryz.underlying128
  go_enter Tryz.func70, Tryz.ntmps70
  go_wp2
  rw [run_callFunc_extern Tryz.func123 (by kernel_rfl) (by kernel_rfl) (by kernel_rfl) (e := Extern.MapsClone.clone) (by kernel_rfl), run_maps_clone_sl w 128 hb]
  simp only [Result.andThen]
  rw [Oper.upon_value]
  go_wp2
  rw [run_typeAssert_map_sl _ 128 _ _ _ _ Tryz.underlying128]
  simp only [Result.andThen]
  rw [Oper.upon_value]
  go_wp2
  go_ret
  exact ⟨rfl, rfl⟩
set_option maxRecDepth 100000 in
set_option maxHeartbeats 2000000 in
theorem mapsCloneR (b : Nat) (es : Array MapEntry) (ck : Nat) (w : World) (hb : w.heap[b]? = some (.map es ck)) :
    Calls Tryz.prog 100 #[.map (some b)] w fun e w' => e = .returned (.map (some w.heap.size)) ∧ w' = w.alloc (.map es ck) := by
  have hq := fun w => run_eql_map_nil_sl (P := Tryz.prog) w 115 _ _ (some b) Tryz.underlying115
  go_enter Tryz.func100, Tryz.ntmps100
  go_wp2
  rw [run_callFunc_extern Tryz.func123 (by kernel_rfl) (by kernel_rfl) (by kernel_rfl) (e := Extern.MapsClone.clone) (by kernel_rfl), run_maps_clone_sl w 115 hb]
  simp only [Result.andThen]
  rw [Oper.upon_value]
  go_wp2
  rw [run_typeAssert_map_sl _ 115 _ _ _ _ Tryz.underlying115]
  simp only [Result.andThen]
  rw [Oper.upon_value]
  go_wp2
  go_ret
  exact ⟨rfl, rfl⟩
def cloneHook : CallF := fun f args σ =>
  if f = 70 ∨ f = 100 then match args.toList with
    | [.map (some b)] => if b < σ.next then match σ.m b with
      | some (.other (.map es ck)) => some [(.map (some σ.next), (σ.read b).grow (.other (.map es ck)))]
      | _ => none
      else none
    | _ => none
  else none
theorem cloneHook_spec {f : FuncId} {args : Array Value} {σ : St} {outs : List (Value × St)} (h : cloneHook f args σ = some outs) :
    (f = 70 ∨ f = 100) ∧ ∃ b es ck, args.toList = [.map (some b)] ∧ b < σ.next ∧ σ.m b = some (.other (.map es ck)) ∧ outs = [(.map (some σ.next), (σ.read b).grow (.other (.map es ck)))] := by
  unfold cloneHook at h
  split at h
  · rename_i hf
    split at h
    · rename_i b hargs
      split at h
      · rename_i hb
        split at h
        · rename_i es ck hm
          cases h
          exact ⟨hf, b, es, ck, hargs, hb, hm, rfl⟩
        · cases h
      · cases h
    · cases h
  · cases h
theorem cloneHook_ok {ks : List Nat} {hk : CallF} : CallOK ⟨Tryz.prog, [], ks, hk⟩ cloneHook := by
  intro f args σ outs h
  obtain ⟨hf, b, es, ck, hargs, hb, hm, rfl⟩ := cloneHook_spec h
  have p1 : LProp σ (σ.read b) := LProp.readOf σ b
  refine ⟨⟨by simp, fun x hx => by simp at hx; subst hx; exact p1.trans (LProp.growOf _ _)⟩, fun φ args' L w hg hrel hw hp hgood => ?_⟩
  have hpre := hp _ (List.mem_singleton.2 rfl)
  have hrel2 := hrel.toList
  rw [hargs] at hrel2
  obtain ⟨v', m', he', hv, hm'⟩ := hrel2.cons_inv
  rw [hm'.nil_inv] at he'
  cases hv with
  | sc h => simp [scal] at h
  | map hφb =>
  rename_i b' eb
  have hargs' : args' = #[.map (some b')] := by
    rw [← Array.toList_inj]; exact he'
  subst hargs'
  have hLb : L b = some (.other (.map es ck)) := (hpre.2 b (.inl (bit_or.2 (.inr rfl))) hb).trans hm
  obtain ⟨r, e2, ob, hφb', hhb, hob⟩ := hgood.obj b _ hLb
  rw [hφb] at hφb'
  cases hφb'
  obtain ⟨rfl, hx⟩ := hob
  cases ob <;> first | exact hx.elim | skip
  rename_i es' ck'
  obtain ⟨rfl, hes⟩ := hx
  have hcall : Calls Tryz.prog f #[.map (some b')] w fun e w' => e = .returned (.map (some w.heap.size)) ∧ w' = w.alloc (.map es' ck') := by
    rcases hf with rfl | rfl
    · exact mapsCloneI b' es' ck' w hhb
    · exact mapsCloneR b' es' ck' w hhb
  refine hcall.mono ?_
  rintro e w' ⟨rfl, rfl⟩
  refine ⟨_, List.mem_singleton.2 rfl, _, _, _, rfl, ?_, Step.trans p1 (LProp.growOf _ _) hpre.1 (Step.same hgood hw (hpre.2.first (LProp.growOf _ _)) rfl rfl rfl rfl ⟨rfl, rfl, rfl⟩)
    (sim_grow hgood (p1.wf hw) hpre.2 hpre.1 fun ψ hψ => ⟨rfl, rfl, hes.mono hψ⟩)⟩
  exact .map (if_pos rfl)
/-- Both hooks. -/
def setHook : CallF := fun f args σ => match reqsHook f args σ with
  | some r => some r
  | none => cloneHook f args σ
theorem setHook_ok {ks : List Nat} {hk : CallF} : CallOK ⟨Tryz.prog, [], ks, hk⟩ setHook := by
  intro f args σ outs h
  unfold setHook at h
  split at h
  · rename_i r hr
    cases h
    exact reqsHook_ok (ks := ks) (hk := hk) f args σ _ hr
  · exact cloneHook_ok (ks := ks) (hk := hk) f args σ _ h
#print axioms setHook_ok
end Ck

/- The example of the layer of sets, by the checker with its hook for a set's requests. -/
section
open Go Go.RowKit Ck
theorem aw15A : True' Tryz.prog 91 := holds_sound (n := 3000) mixed (knownC aw14 known0) (by kernel_rfl)
theorem aw16a : True' Tryz.prog 45 := holds_hook (n := 3000) mixed setHook_ok (knownC aw15A known0) (by kernel_rfl)
end

end Go.Proofs.YtjndmmcjobbcbaaGreatDoor

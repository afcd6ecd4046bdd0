/- The checker's hook for maps' clones; both hooks. -/
import Derived.Test.YtjchnkmolhgpmaaGreatDoorCkI
import Derived.Shelf.SlMaps.Clone
namespace Go.Proofs.YtjchnkmolhgpmaaGreatDoor.Ck
open Go Go.RowKit
set_option maxRecDepth 100000 in
set_option maxHeartbeats 2000000 in
theorem mapsCloneI (b : Nat) (es : Array MapEntry) (ck : Nat) (w : World) (hb : w.heap[b]? = some (.map es ck)) :
    Calls Tryz.prog 67 #[.map (some b)] w fun e w' => e = .returned (.map (some w.heap.size)) ∧ w' = w.alloc (.map es ck) := by
  have hq := fun w => run_eql_map_nil_sl (P := Tryz.prog) w 112 _ _ (some b) Tryz.underlying112
  go_enter Tryz.func67, Tryz.ntmps67
  go_wp2
  rw [run_callFunc_extern Tryz.func69 (by kernel_rfl) (by kernel_rfl) (by kernel_rfl) (e := Extern.MapsClone.clone) (by kernel_rfl), run_maps_clone_sl w 112 hb]
  simp only [Result.andThen]
  rw [Oper.upon_value]
  go_wp2
  rw [run_typeAssert_map_sl _ 112 _ _ _ _ Tryz.underlying112]
  simp only [Result.andThen]
  rw [Oper.upon_value]
  go_wp2
  go_ret
  exact ⟨rfl, rfl⟩
set_option maxRecDepth 100000 in
set_option maxHeartbeats 2000000 in
theorem mapsCloneR (b : Nat) (es : Array MapEntry) (ck : Nat) (w : World) (hb : w.heap[b]? = some (.map es ck)) :
    Calls Tryz.prog 33 #[.map (some b)] w fun e w' => e = .returned (.map (some w.heap.size)) ∧ w' = w.alloc (.map es ck) := by
  have hq := fun w => run_eql_map_nil_sl (P := Tryz.prog) w 47 _ _ (some b) Tryz.underlying47
  go_enter Tryz.func33, Tryz.ntmps33
  go_wp2
  rw [run_callFunc_extern Tryz.func69 (by kernel_rfl) (by kernel_rfl) (by kernel_rfl) (e := Extern.MapsClone.clone) (by kernel_rfl), run_maps_clone_sl w 47 hb]
  simp only [Result.andThen]
  rw [Oper.upon_value]
  go_wp2
  rw [run_typeAssert_map_sl _ 47 _ _ _ _ Tryz.underlying47]
  simp only [Result.andThen]
  rw [Oper.upon_value]
  go_wp2
  go_ret
  exact ⟨rfl, rfl⟩
def cloneHook : CallF := fun f args σ =>
  if f = 67 ∨ f = 33 then match args.toList with
    | [.map (some b)] => if b < σ.next then match σ.m b with
      | some (.other (.map es ck)) => some [(.map (some σ.next), (σ.read b).grow (.other (.map es ck)))]
      | _ => none
      else none
    | _ => none
  else none
theorem cloneHook_spec {f : FuncId} {args : Array Value} {σ : St} {outs : List (Value × St)} (h : cloneHook f args σ = some outs) :
    (f = 67 ∨ f = 33) ∧ ∃ b es ck, args.toList = [.map (some b)] ∧ b < σ.next ∧ σ.m b = some (.other (.map es ck)) ∧ outs = [(.map (some σ.next), (σ.read b).grow (.other (.map es ck)))] := by
  unfold cloneHook at h
  split at h
  · rename_i hf
    split at h
    · rename_i b hargs
      split at h
      · rename_i hb
        split at h
        · rename_i es ck hm
          cases h
          exact ⟨hf, b, es, ck, hargs, hb, hm, rfl⟩
        · cases h
      · cases h
    · cases h
  · cases h
theorem cloneHook_ok {ks : List Nat} {hk : CallF} : CallOK ⟨Tryz.prog, [], ks, hk⟩ cloneHook := by
  intro f args σ outs h
  obtain ⟨hf, b, es, ck, hargs, hb, hm, rfl⟩ := cloneHook_spec h
  have p1 : LProp σ (σ.read b) := LProp.readOf σ b
  refine ⟨⟨by simp, fun x hx => by simp at hx; subst hx; exact p1.trans (LProp.growOf _ _)⟩, fun φ args' L w hg hrel hw hp hgood => ?_⟩
  have hpre := hp _ (List.mem_singleton.2 rfl)
  have hrel2 := hrel.toList
  rw [hargs] at hrel2
  obtain ⟨v', m', he', hv, hm'⟩ := hrel2.cons_inv
  rw [hm'.nil_inv] at he'
  cases hv with
  | sc h => simp [scal] at h
  | map hφb =>
  rename_i b' eb
  have hargs' : args' = #[.map (some b')] := by
    rw [← Array.toList_inj]; exact he'
  subst hargs'
  have hLb : L b = some (.other (.map es ck)) := (hpre.2 b (.inl (bit_or.2 (.inr rfl))) hb).trans hm
  obtain ⟨r, e2, ob, hφb', hhb, hob⟩ := hgood.obj b _ hLb
  rw [hφb] at hφb'
  cases hφb'
  obtain ⟨rfl, hx⟩ := hob
  cases ob <;> first | exact hx.elim | skip
  rename_i es' ck'
  obtain ⟨rfl, hes⟩ := hx
  have hcall : Calls Tryz.prog f #[.map (some b')] w fun e w' => e = .returned (.map (some w.heap.size)) ∧ w' = w.alloc (.map es' ck') := by
    rcases hf with rfl | rfl
    · exact mapsCloneI b' es' ck' w hhb
    · exact mapsCloneR b' es' ck' w hhb
  refine hcall.mono ?_
  rintro e w' ⟨rfl, rfl⟩
  refine ⟨_, List.mem_singleton.2 rfl, _, _, _, rfl, ?_, Step.trans p1 (LProp.growOf _ _) hpre.1 (Step.same hgood hw (hpre.2.first (LProp.growOf _ _)) rfl rfl rfl rfl ⟨rfl, rfl, rfl⟩)
    (sim_grow hgood (p1.wf hw) hpre.2 hpre.1 fun ψ hψ => ⟨rfl, rfl, hes.mono hψ⟩)⟩
  exact .map (if_pos rfl)
def setHook : CallF := fun f args σ => match reqsHook f args σ with
  | some r => some r
  | none => cloneHook f args σ
theorem setHook_ok {ks : List Nat} {hk : CallF} : CallOK ⟨Tryz.prog, [], ks, hk⟩ setHook := by
  intro f args σ outs h
  unfold setHook at h
  split at h
  · rename_i r hr
    cases h
    exact reqsHook_ok (ks := ks) (hk := hk) f args σ _ hr
  · exact cloneHook_ok (ks := ks) (hk := hk) f args σ _ h
#print axioms setHook_ok
end Go.Proofs.YtjchnkmolhgpmaaGreatDoor.Ck

/- The checker's hook for a set's requests: a call of Reqs is answered by its contract. -/
import Derived.Test.YtjchnkmolhgpmaaGreatDoorSettleShiftsZ18
import Derived.Test.YtjchnkmolhgpmaaGreatDoorCkF
namespace Go.Proofs.YtjchnkmolhgpmaaGreatDoor.Ck
open Go Go.RowKit
def reqsAt (args : List Value) (σ : St) : Option (Nat × Nat × List Rq) :=
  match args with
  | [.pointer (some ⟨S, 0, none⟩)] => if S < σ.next then match σ.m S with
    | some (.cells c _ _) => match (c[1]? : Option Value) with
      | some (.map (some b)) => if b < σ.next then match σ.m b with
        | some (.other (.map es ck)) => (mapReqs es ck).map fun rs => (S, b, rs)
        | _ => none
        else none
      | _ => none
    | _ => none
    else none
  | _ => none
theorem reqsAt_spec {args : List Value} {σ : St} {S b : Nat} {rs : List Rq} (h : reqsAt args σ = some (S, b, rs)) :
    args = [.pointer (some ⟨S, 0, none⟩)] ∧ S < σ.next ∧ (∃ c T k, σ.m S = some (.cells c T k) ∧ c[1]? = some (.map (some b))) ∧ b < σ.next ∧ ∃ es ck, σ.m b = some (.other (.map es ck)) ∧ mapReqs es ck = some rs := by
  unfold reqsAt at h
  split at h
  · rename_i S'
    split at h
    · rename_i hS
      split at h
      · rename_i c T k hm
        split at h
        · rename_i b' hc
          split at h
          · rename_i hb
            split at h
            · rename_i es ck hmb
              simp only [Option.map_eq_some_iff, Prod.mk.injEq] at h
              obtain ⟨rs', hr, rfl, rfl, rfl⟩ := h
              exact ⟨rfl, hS, ⟨c, T, k, hm, hc⟩, hb, es, ck, hmb, hr⟩
            · cases h
          · cases h
        · cases h
      · cases h
    · cases h
  · cases h
def reqsEnd (σ : St) (S b : Nat) : List Rq → Value × St
  | [] => (.slice none 0 0, (σ.read S).read b)
  | rs => (.slice (some ⟨σ.next, 0, none⟩) rs.length rs.length, ((σ.read S).read b).grow (.cells (rs.flatMap Rq.cells).toArray 59 10))
def reqsHook : CallF := fun f args σ =>
  if f = 17 then match reqsAt args.toList σ with
    | some (S, b, rs) => some [reqsEnd σ S b rs]
    | none => none
  else none
theorem sim_made {φ : Emb} {L : Nat → Option LObj} {w w' : World} {σ : St} {o : LObj} {ob : Obj} {r e : Nat} (hg : Good φ L w) (hw : WF σ) (ha : Agree L σ (σ.grow o)) (hc : Clear φ L σ (σ.grow o))
    (hr : w.heap.size ≤ r) (hh : w'.heap[r]? = some ob) (ho : ∀ ψ, ObjR ψ e o ob) (hb : Below w.heap.size w w') :
    Step σ (σ.grow o) φ (fun c => if σ.next = c then some (r, e) else φ c) L (fun c => if σ.next = c then some o else L c) w w' := by
  have hcl := hc σ.next (Nat.le_refl _) (by simp [St.grow])
  have hle : Le φ (fun c => if σ.next = c then some (r, e) else φ c) := fun b x hx => by
    have : σ.next ≠ b := fun h => by rw [← h, hcl.1] at hx; cases hx
    simp [this, hx]
  have hN : ∀ c, St.N σ (σ.grow o) c ↔ σ.next = c := fun c => by simp [St.N, St.grow]; omega
  have key : ∀ x, L x ≠ none → ∀ r e, φ x = some (r, e) → r < w.heap.size := fun x hx r e hp => by
    obtain ⟨o', ho'⟩ := Option.ne_none_iff_exists'.1 hx
    obtain ⟨r', e', ob', h1, h2, _⟩ := hg.obj x o' ho'
    rw [hp] at h1; cases h1
    exact (Array.getElem?_eq_some_iff.1 h2).1
  refine ⟨⟨hle, fun b h1 h2 => ?_, ?_, fun c h1 h2 => ?_, fun c h1 h2 => ?_, hb.size, fun r hr _ => hb.block r hr, fun b h1 _ r' e' hp => ?_, ⟨hb.os, hb.tape, hb.output⟩, fun b c hb => ?_⟩, fun c hc' => ?_⟩
  · rw [hN]
    by_cases hb : σ.next = b
    · exact hb
    · simp [hb] at h2; exact absurd h1 h2
  · refine ⟨fun c x hx => ?_, fun c d h1 h2 r e1 e2 h3 h4 => ?_⟩
    · split at hx
      · rename_i h; subst h; cases hx
        exact ⟨r, e, ob, by simp, hh, ho _⟩
      · rename_i h
        obtain ⟨r', e', ob', h1, h2, h3⟩ := hg.obj c x hx
        have hlt : r' < w.heap.size := (Array.getElem?_eq_some_iff.1 h2).1
        exact ⟨r', e', ob', hle _ _ h1, (hb.block r' hlt).trans h2, h3.mono hle⟩
    · by_cases hc1 : σ.next = c
      · by_cases hd1 : σ.next = d
        · omega
        · rw [if_pos hc1] at h3
          rw [if_neg hd1] at h2 h4
          cases h3
          have := key d h2 _ _ h4; omega
      · by_cases hd1 : σ.next = d
        · rw [if_neg hc1] at h1 h3
          rw [if_pos hd1] at h4
          cases h4
          have := key c h1 _ _ h3; omega
        · rw [if_neg hc1] at h1 h3
          rw [if_neg hd1] at h2 h4
          exact hg.inj c d h1 h2 _ _ _ h3 h4
  · rw [hN] at h2; simp [h2]
  · rw [hN] at h1; simp [h1, h2]
  · rw [hN] at h1
    simp [h1] at hp
    exact .inl (by omega)
  · have : σ.next ≠ b := fun h => by rw [← h, hcl.2] at hb; cases hb
    simp [this, hb]
  · simp only [St.m, St.grow, Tree.get_set]
    split
    · rfl
    · rename_i h
      rcases hc' with hc' | hc'
      · exact ha c (.inr hc') (hw.wr c hc')
      · rw [hN] at hc'; exact absurd hc' h
theorem sim_past {φ : Emb} {L : Nat → Option LObj} {w w' : World} {σ σ' : St} (hg : Good φ L w) (hw : WF σ) (ha : Agree L σ σ') (hn : σ'.next = σ.next) (hm : σ'.mem = σ.mem) (hwr : σ'.wr = σ.wr) (hb : Below w.heap.size w w') : Step σ σ' φ φ L L w w' :=
  have h := Step.same hg hw ha hn hm hwr rfl ⟨rfl, rfl, rfl⟩
  ⟨⟨.refl φ, fun b h h' => absurd h h', ⟨fun b o hbo => by
      obtain ⟨r, e, ob, h1, h2, h3⟩ := hg.obj b o hbo
      exact ⟨r, e, ob, h1, (hb.block r (Array.getElem?_eq_some_iff.1 h2).1).trans h2, h3⟩, hg.inj⟩, fun _ _ _ => rfl, fun _ _ h => h, hb.size, fun r hr _ => hb.block r hr, fun b h => by unfold St.N at h; omega, ⟨hb.os, hb.tape, hb.output⟩, fun _ _ h => h⟩, h.here⟩
theorem es_same {φ : Emb} : ∀ {l m : List MapEntry} {ps : List (Int × Rq)}, entsOf l = some ps → EL φ l m → m = l
  | [], [], _, _, _ => rfl
  | x :: l, y :: m, ps, h, hr => by
    unfold entsOf at h
    split at h
    · rename_i p r h1 h2
      obtain ⟨e1, _, e3⟩ := entOf_eq h1
      obtain ⟨⟨hk, hv, hb⟩, hrest⟩ := hr
      rw [es_same h2 hrest]
      obtain ⟨xk, xv, xb⟩ := x
      obtain ⟨yk, yv, yb⟩ := y
      simp only at e1 e3 hk hv hb
      subst e1
      rw [Rq.dec_eq e3] at hv
      rw [Rq.dec_eq e3]
      have hsc : scal1 p.2.val = true := by simp [scal1, scal]
      rw [VRel.eq1 rfl hk, VRel.eq1 hsc hv, hb]
    · cases h
  | [], _ :: _, _, _, h => h.elim
  | _ :: _, [], _, _, h => h.elim
theorem mapReqs_ents {es : Array MapEntry} {ck : Nat} {rs : List Rq} (h : mapReqs es ck = some rs) : ∃ ps, entsOf es.toList = some ps := by
  unfold mapReqs at h
  split at h
  · exact ⟨_, by assumption⟩
  · cases h
theorem cells_scalR {c : Rq} {v : Value} (h : v ∈ c.cells) : scal v = true := by
  simp only [Rq.cells, List.mem_cons, List.not_mem_nil, or_false] at h
  rcases h with rfl | rfl | rfl | rfl | rfl | rfl | rfl | rfl | rfl | rfl <;> rfl
theorem row_obj {T : TypeId} {rs : List Rq} {cur : Array Value} {d : Nat} (hsz : cur.size = (rs.length + d) * 10) (ht : cur.toList.take (rs.length * 10) = rs.flatMap Rq.cells) (ψ : Emb) : ObjR ψ d (.cells (rs.flatMap Rq.cells).toArray T 10) (.cells cur T (0, 0)) := by
  have hl : (rs.flatMap Rq.cells).length = rs.length * 10 := by
    rw [← ht, List.length_take]
    have : cur.toList.length = cur.size := by simp
    omega
  refine ⟨rfl, rfl, by simp only [List.size_toArray]; omega, by omega, fun i v v' hv hv' => ?_⟩
  have hv1 : (rs.flatMap Rq.cells)[i]? = some v := by simpa using hv
  have hi : i < rs.length * 10 := by
    have := (List.getElem?_eq_some_iff.1 hv1).1
    omega
  have hv2 : cur.toList[i]? = some v := by
    rw [← ht, List.getElem?_take_of_lt hi] at hv1
    exact hv1
  have hv3 : cur.toList[i]? = some v' := by simpa using hv'
  rw [hv2] at hv3
  cases hv3
  obtain ⟨c, _, hc⟩ := List.mem_flatMap.1 (List.mem_of_getElem? hv1)
  exact .sc (cells_scalR hc)
theorem reqsHook_spec {f : FuncId} {args : Array Value} {σ : St} {outs : List (Value × St)} (h : reqsHook f args σ = some outs) : ∃ S b rs, f = 17 ∧ reqsAt args.toList σ = some (S, b, rs) ∧ outs = [reqsEnd σ S b rs] := by
  unfold reqsHook at h
  split at h
  · rename_i hf
    split at h
    · rename_i S b rs hat
      cases h
      exact ⟨S, b, rs, hf, hat, rfl⟩
    · cases h
  · cases h
theorem reqsHook_ok {ks : List Nat} {hk : CallF} : CallOK ⟨Tryz.prog, [], ks, hk⟩ reqsHook := by
  intro f args σ outs h
  obtain ⟨S, b, rs, rfl, hat, rfl⟩ := reqsHook_spec h
  obtain ⟨hargs, hS, ⟨c, T, k, hmS, hc1⟩, hb, es, ck, hmb, hmr⟩ := reqsAt_spec hat
  have p1 : LProp σ ((σ.read S).read b) := (LProp.readOf σ S).trans (LProp.readOf _ b)
  have hend : LProp σ (reqsEnd σ S b rs).2 := by
    cases rs
    · exact p1
    · exact p1.trans (LProp.growOf _ _)
  have hrd : (reqsEnd σ S b rs).2.rd.testBit S = true ∧ (reqsEnd σ S b rs).2.rd.testBit b = true := by
    cases rs <;> exact ⟨bit_or.2 (.inl (bit_or.2 (.inr rfl))), bit_or.2 (.inr rfl)⟩
  refine ⟨⟨by simp, fun x hx => by simp at hx; subst hx; exact hend⟩, fun φ args' L w hg hrel hw hp hgood => ?_⟩
  have hpre := hp _ (List.mem_singleton.2 rfl)
  have hrel2 := hrel.toList
  rw [hargs] at hrel2
  obtain ⟨v', m', he', hv, hm'⟩ := hrel2.cons_inv
  rw [hm'.nil_inv] at he'
  cases hv with
  | sc h => simp [scal] at h
  | ptr hφS =>
  rename_i S' eS
  have hargs' : args' = #[.pointer (some ⟨S', 0, none⟩)] := by
    rw [← Array.toList_inj]; exact he'
  subst hargs'
  have hLS : L S = some (.cells c T k) := (hpre.2 S (.inl hrd.1) hS).trans hmS
  have hLb : L b = some (.other (.map es ck)) := (hpre.2 b (.inl hrd.2) hb).trans hmb
  obtain ⟨c', hh, hsz, _, hcr⟩ := hgood.cells hLS hφS
  have h1 : 1 < c.size := (Array.getElem?_eq_some_iff.1 hc1).1
  have h1' : 1 < c'.size := by omega
  have hv1 := hcr 1 _ c'[1] hc1 (Array.getElem?_eq_getElem h1')
  have hc1' : c'[1]? = some c'[1] := Array.getElem?_eq_getElem h1'
  generalize c'[1] = u at hv1 hc1'
  cases hv1 with
  | sc h => simp [scal] at h
  | map hφb =>
  rename_i b' eb
  obtain ⟨r, e2, ob, hφb', hhb, hob⟩ := hgood.obj b _ hLb
  rw [hφb] at hφb'
  cases hφb'
  obtain ⟨rfl, hx⟩ := hob
  cases ob <;> first | exact hx.elim | skip
  rename_i es' ck'
  obtain ⟨rfl, hes⟩ := hx
  obtain ⟨ps, hps⟩ := mapReqs_ents hmr
  have hes' : es' = es := by
    rw [← Array.toList_inj]; exact es_same hps hes
  subst hes'
  obtain ⟨D0, hown, hle, hrise, hperm⟩ := map_reqs (P := Tryz.prog) (k := 3) Tryz.underlying3 hhb hmr
  have hcell : w.cell? ⟨S', 1, none⟩ = some (.map (some b')) := by
    unfold World.cell?
    rw [hh]
    simp [hc1']
  refine (Reqs.all S' b' es'.size D0 (R := RqR) (fun v y h => let ⟨c, h1, _⟩ := RqR_eq h; ⟨c, h1⟩) (by have := hown.size_le; omega) w hcell hown).mono ?_
  rintro e w' ⟨v, ss, ts, rfl, hG, hnil, hpm, hts, hrow, hbel⟩
  obtain rfl : ts = rs := reqs_one (hpm.trans (hperm ss hG)) hts hrise
  have h0 : (reqsEnd σ S b ts).2.next = (reqsEnd σ S b ts).2.next := rfl
  rcases hrow with ⟨hlen, ⟨rfl, hn0⟩ | ⟨g, cap, cur, rfl, hbg, hgc, hle2, hcap, hsz2, htake⟩⟩
  · obtain rfl : ts = [] := List.length_eq_zero_iff.1 hn0
    exact ⟨_, List.mem_singleton.2 rfl, _, φ, L, rfl, .sc rfl, sim_past hgood hw hpre.2 rfl rfl rfl hbel⟩
  · obtain ⟨d, rfl⟩ : ∃ d, cap = ts.length + d := ⟨cap - ts.length, by omega⟩
    cases ts with
    | nil =>
      have : ss = [] := List.Perm.nil_eq hpm |>.symm
      have := hnil.2 this
      cases this
    | cons t0 ts =>
      refine ⟨_, List.mem_singleton.2 rfl, _, _, _, rfl, ?_, Step.trans p1 (LProp.growOf _ _) hpre.1 (Step.same hgood hw (hpre.2.first (LProp.growOf _ _)) rfl rfl rfl rfl ⟨rfl, rfl, rfl⟩)
        (sim_made hgood (p1.wf hw) hpre.2 hpre.1 hbg hgc (row_obj hsz2 htake) hbel)⟩
      exact .slice (if_pos rfl)
#print axioms reqsHook_ok
end Go.Proofs.YtjchnkmolhgpmaaGreatDoor.Ck

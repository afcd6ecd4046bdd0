/- The checker's hook for functions of numbers alone: answered by their contracts. -/
import Derived.Test.YtlkhkhdacgeicaaGreatDoorCkJ
import Derived.Test.YtlkhkhdacgeicaaGreatDoorAccountNoneZ18
import Derived.Test.YtlkhkhdacgeicaaGreatDoorAccountNoneZ27
import Derived.Test.YtlkhkhdacgeicaaGreatDoorAccountNoneZ14
import Derived.Test.YtlkhkhdacgeicaaGreatDoorAccountNoneZ19
import Derived.Test.YtlkhkhdacgeicaaGreatDoorClC
namespace Go.Proofs.YtlkhkhdacgeicaaGreatDoor.Ck
open Go Go.RowKit
abbrev PureF := List Value → Option Value
/-- A function that answers by a rule, whatever the world. -/
def PureOK (P : Program) (f : FuncId) (r : PureF) : Prop := ∀ args v, r args = some v → ∀ w, Calls P f args.toArray w (Ans v w)
def pfind : List (FuncId × PureF) → FuncId → Option PureF
  | [], _ => none
  | e :: l, f => match Nat.beq e.1 f with
    | true => some e.2
    | false => pfind l f
theorem pfind_spec : ∀ {l : List (FuncId × PureF)} {f : FuncId} {r : PureF}, pfind l f = some r → (f, r) ∈ l
  | [], _, _, h => by cases h
  | e :: l, f, r, h => by
    unfold pfind at h
    split at h
    · rename_i he
      cases h
      have he' := Nat.eq_of_beq_eq_true he
      subst he'
      simp
    · exact List.mem_cons_of_mem _ (pfind_spec h)
def pureHook (tbl : List (FuncId × PureF)) : CallF := fun f args σ => match pfind tbl f with
  | some r => if args.all scal1 = true then match r args.toList with
    | some v => if scal2 v = true then some [(v, σ)] else none
    | none => none
    else none
  | none => none
theorem pureHook_spec {tbl : List (FuncId × PureF)} {f : FuncId} {args : Array Value} {σ : St} {outs : List (Value × St)} (h : pureHook tbl f args σ = some outs) :
    ∃ r v, (f, r) ∈ tbl ∧ args.all scal1 = true ∧ r args.toList = some v ∧ scal2 v = true ∧ outs = [(v, σ)] := by
  unfold pureHook at h
  split at h
  · rename_i r hr
    split at h
    · rename_i ha
      split at h
      · rename_i v hv
        split at h
        · rename_i hs
          cases h
          exact ⟨r, v, pfind_spec hr, ha, hv, hs, rfl⟩
        · cases h
      · cases h
    · cases h
  · cases h
theorem ARel.eq1 {φ : Emb} {a b : Array Value} (ha : a.all scal1 = true) (h : ARel φ a b) : b = a := by
  rw [Array.all_eq_true_iff_forall_mem] at ha
  apply Array.ext h.1
  intro i h1 h2
  exact VRel.eq1 (ha _ (Array.getElem_mem h2)) (h.2 i _ _ (Array.getElem?_eq_getElem h2) (Array.getElem?_eq_getElem h1))
theorem pureHook_ok {P : Program} {ks : List Nat} {hk : CallF} {tbl : List (FuncId × PureF)} (ht : ∀ e ∈ tbl, PureOK P e.1 e.2) : CallOK ⟨P, [], ks, hk⟩ (pureHook tbl) := by
  intro f args σ outs h
  obtain ⟨r, v, hm, ha, hv, hs, rfl⟩ := pureHook_spec h
  refine ⟨⟨by simp, fun x hx => by simp at hx; subst hx; exact .refl σ⟩, fun φ args' L w hg hrel hw hp hgood => ?_⟩
  have hpre := hp _ (List.mem_singleton.2 rfl)
  obtain rfl := ARel.eq1 ha hrel
  refine (ht _ hm args'.toList v hv w).mono ?_
  rintro e w' ⟨rfl, hb⟩
  exact ⟨_, List.mem_singleton.2 rfl, _, φ, L, rfl, .same2 hs, sim_past hgood hw hpre.2 rfl rfl rfl hb⟩
instance decIsT (n : Int) : Decidable (IsT n) := by unfold IsT; infer_instance
instance decWR (n : Int) : Decidable (WR n) := by unfold WR; infer_instance
instance decPIn (p : P3) : Decidable (PIn p) := by unfold PIn; infer_instance
instance decMu (m : Mu) : Decidable m.In := by unfold Mu.In; infer_instance
instance decIt (a : It) : Decidable a.In := by unfold It.In; infer_instance
instance decRq (r : Rq) : Decidable r.In := by unfold Rq.In; infer_instance
def pD : Value → Option P3
  | .agg cs => match cs.toList with
    | [a, b, c] => (numOf .u64 a).bind fun t => (numOf .u32 b).bind fun r => (numOf .u32 c).bind fun v => if PIn (t, r, v) then some (t, r, v) else none
    | _ => none
  | _ => none
theorem agg_list {cs : Array Value} {l : List Value} (h : cs.toList = l) : Value.agg cs = .agg l.toArray := by
  rw [← h]
theorem pD_eq {v : Value} {p : P3} (h : pD v = some p) : v = pv p ∧ PIn p := by
  unfold pD at h
  split at h
  · split at h
    · rename_i a b c hl
      simp only [Option.bind_eq_some_iff] at h
      obtain ⟨t, h1, r, h2, v, h3, h4⟩ := h
      split at h4
      · rename_i hin
        cases h4
        rw [agg_list hl, numOf_eq h1, numOf_eq h2, numOf_eq h3]
        exact ⟨rfl, hin⟩
      · cases h4
    · cases h
  · cases h
def mD : Value → Option Mu
  | .agg cs => match cs.toList with
    | [a, b, c, d, e] => (numOf .u64 a).bind fun t => (numOf .i64 b).bind fun h => (numOf .u64 c).bind fun l => (numOf .u64 d).bind fun x => (numOf .i64 e).bind fun n =>
      if (Mu.mk t (h * 18446744073709551616 + l) x n).In ∧ 0 ≤ l ∧ l < 18446744073709551616 then some ⟨t, h * 18446744073709551616 + l, x, n⟩ else none
    | _ => none
  | _ => none
theorem mD_eq {v : Value} {m : Mu} (h : mD v = some m) : v = m.val ∧ m.In := by
  unfold mD at h
  split at h
  · split at h
    · rename_i a b c d e hl
      simp only [Option.bind_eq_some_iff] at h
      obtain ⟨t, h1, hh, h2, l, h3, x, h4, n, h5, h6⟩ := h
      split at h6
      · rename_i hin
        cases h6
        obtain ⟨hin, l0, l1⟩ := hin
        have e1 : hiW (hh * 18446744073709551616 + l) = hh := by unfold hiW; omega
        have e2 : loW (hh * 18446744073709551616 + l) = l := by unfold loW; omega
        rw [agg_list hl, numOf_eq h1, numOf_eq h2, numOf_eq h3, numOf_eq h4, numOf_eq h5]
        refine ⟨?_, hin⟩
        simp only [Mu.val, e1, e2]
      · cases h6
    · cases h
  · cases h
def iD : Value → Option It
  | .agg cs => match cs.toList with
    | [a, b, c, d, e, f, g] => (numOf .u64 a).bind fun t => (numOf .u32 b).bind fun r => (numOf .u32 c).bind fun v => (numOf .i64 d).bind fun i => (numOf .u64 e).bind fun u => (numOf .u32 f).bind fun s => (numOf .u32 g).bind fun y =>
      if (It.mk t r v i u s y).In then some ⟨t, r, v, i, u, s, y⟩ else none
    | _ => none
  | _ => none
theorem iD_eq {v : Value} {a : It} (h : iD v = some a) : v = a.val ∧ a.In := by
  unfold iD at h
  split at h
  · split at h
    · rename_i a b c d e f g hl
      simp only [Option.bind_eq_some_iff] at h
      obtain ⟨t, h1, r, h2, v, h3, i, h4, u, h5, s, h6, y, h7, h8⟩ := h
      split at h8
      · rename_i hin
        cases h8
        rw [agg_list hl, numOf_eq h1, numOf_eq h2, numOf_eq h3, numOf_eq h4, numOf_eq h5, numOf_eq h6, numOf_eq h7]
        exact ⟨rfl, hin⟩
      · cases h8
    · cases h
  · cases h
def rD (v : Value) : Option Rq := (Rq.dec v).bind fun r => if r.In then some r else none
theorem rD_eq {v : Value} {r : Rq} (h : rD v = some r) : v = r.val ∧ r.In := by
  simp only [rD, Option.bind_eq_some_iff] at h
  obtain ⟨r', h1, h2⟩ := h
  split at h2
  · rename_i hin; cases h2; exact ⟨Rq.dec_eq h1, hin⟩
  · cases h2
def tD (v : Value) : Option Int := (numOf .u64 v).bind fun n => if IsT n then some n else none
theorem tD_eq {v : Value} {n : Int} (h : tD v = some n) : v = .int .u64 n ∧ IsT n := by
  simp only [tD, Option.bind_eq_some_iff] at h
  obtain ⟨r', h1, h2⟩ := h
  split at h2
  · rename_i hin; cases h2; exact ⟨numOf_eq h1, hin⟩
  · cases h2
def fMP (r : Mu → P3 → Value) : PureF
  | [a, b] => (mD a).bind fun m => (pD b).map fun p => r m p
  | _ => none
theorem fMP_ok {P : Program} {f : FuncId} {r : Mu → P3 → Value} (h : ∀ m p, m.In → PIn p → ∀ w, Calls P f #[m.val, pv p] w (Ans (r m p) w)) : PureOK P f (fMP r) := fun args v hv w => by
  unfold fMP at hv
  split at hv
  · simp only [Option.bind_eq_some_iff, Option.map_eq_some_iff] at hv
    obtain ⟨m, h1, p, h2, rfl⟩ := hv
    obtain ⟨rfl, hm⟩ := mD_eq h1
    obtain ⟨rfl, hp⟩ := pD_eq h2
    exact h m p hm hp w
  · cases hv
def fM (r : Mu → Value) : PureF
  | [a] => (mD a).map r
  | _ => none
theorem fM_ok {P : Program} {f : FuncId} {r : Mu → Value} (h : ∀ m, m.In → ∀ w, Calls P f #[m.val] w (Ans (r m) w)) : PureOK P f (fM r) := fun args v hv w => by
  unfold fM at hv
  split at hv
  · simp only [Option.map_eq_some_iff] at hv
    obtain ⟨m, h1, rfl⟩ := hv
    obtain ⟨rfl, hm⟩ := mD_eq h1
    exact h m hm w
  · cases hv
def fMT (r : Mu → Int → Value) : PureF
  | [a, b] => (mD a).bind fun m => (numOf .u64 b).map fun t => r m t
  | _ => none
theorem fMT_ok {P : Program} {f : FuncId} {r : Mu → Int → Value} (h : ∀ m t, m.In → ∀ w, Calls P f #[m.val, .int .u64 t] w (Ans (r m t) w)) : PureOK P f (fMT r) := fun args v hv w => by
  unfold fMT at hv
  split at hv
  · simp only [Option.bind_eq_some_iff, Option.map_eq_some_iff] at hv
    obtain ⟨m, h1, t, h2, rfl⟩ := hv
    obtain ⟨rfl, hm⟩ := mD_eq h1
    rw [numOf_eq h2]
    exact h m t hm w
  · cases hv
def fII (r : It → It → Value) : PureF
  | [a, b] => (iD a).bind fun x => (iD b).map fun y => r x y
  | _ => none
theorem fII_ok {P : Program} {f : FuncId} {r : It → It → Value} (h : ∀ a b, a.In → b.In → ∀ w, Calls P f #[a.val, b.val] w (Ans (r a b) w)) : PureOK P f (fII r) := fun args v hv w => by
  unfold fII at hv
  split at hv
  · simp only [Option.bind_eq_some_iff, Option.map_eq_some_iff] at hv
    obtain ⟨m, h1, p, h2, rfl⟩ := hv
    obtain ⟨rfl, hm⟩ := iD_eq h1
    obtain ⟨rfl, hp⟩ := iD_eq h2
    exact h m p hm hp w
  · cases hv
def fRT (r : Rq → Int → Value) : PureF
  | [a, b] => (rD a).bind fun x => (tD b).map fun n => r x n
  | _ => none
theorem fRT_ok {P : Program} {f : FuncId} {r : Rq → Int → Value} (h : ∀ q n, q.In → IsT n → ∀ w, Calls P f #[q.val, .int .u64 n] w (Ans (r q n) w)) : PureOK P f (fRT r) := fun args v hv w => by
  unfold fRT at hv
  split at hv
  · simp only [Option.bind_eq_some_iff, Option.map_eq_some_iff] at hv
    obtain ⟨m, h1, p, h2, rfl⟩ := hv
    obtain ⟨rfl, hm⟩ := rD_eq h1
    obtain ⟨rfl, hp⟩ := tD_eq h2
    exact h m p hm hp w
  · cases hv
def wD : Value → Option Int
  | .agg cs => match cs.toList with
    | [a, b] => (numOf .i64 a).bind fun h => (numOf .u64 b).bind fun l =>
      if WR (h * 18446744073709551616 + l) ∧ 0 ≤ l ∧ l < 18446744073709551616 then some (h * 18446744073709551616 + l) else none
    | _ => none
  | _ => none
theorem wD_eq {v : Value} {x : Int} (h : wD v = some x) : v = wv x ∧ WR x := by
  unfold wD at h
  split at h
  · split at h
    · rename_i a b hl
      simp only [Option.bind_eq_some_iff] at h
      obtain ⟨hh, h1, l, h2, h3⟩ := h
      split at h3
      · rename_i hin
        cases h3
        obtain ⟨hin, l0, l1⟩ := hin
        have e1 : hiW (hh * 18446744073709551616 + l) = hh := by unfold hiW; omega
        have e2 : loW (hh * 18446744073709551616 + l) = l := by unfold loW; omega
        rw [agg_list hl, numOf_eq h1, numOf_eq h2, wv, e1, e2]
        exact ⟨rfl, hin⟩
      · cases h3
    · cases h
  · cases h
def fWW (r : Int → Int → Value) : PureF
  | [a, b] => (wD a).bind fun x => (wD b).map fun y => r x y
  | _ => none
theorem fWW_ok {P : Program} {f : FuncId} {r : Int → Int → Value} (h : ∀ a b, WR a → WR b → ∀ w, Calls P f #[wv a, wv b] w (Ans (r a b) w)) : PureOK P f (fWW r) := fun args v hv w => by
  unfold fWW at hv
  split at hv
  · simp only [Option.bind_eq_some_iff, Option.map_eq_some_iff] at hv
    obtain ⟨m, h1, p, h2, rfl⟩ := hv
    obtain ⟨rfl, hm⟩ := wD_eq h1
    obtain ⟨rfl, hp⟩ := wD_eq h2
    exact h m p hm hp w
  · cases hv
def fW (r : Int → Value) : PureF
  | [a] => (wD a).map r
  | _ => none
theorem fW_ok {P : Program} {f : FuncId} {r : Int → Value} (h : ∀ a, WR a → ∀ w, Calls P f #[wv a] w (Ans (r a) w)) : PureOK P f (fW r) := fun args v hv w => by
  unfold fW at hv
  split at hv
  · simp only [Option.map_eq_some_iff] at hv
    obtain ⟨m, h1, rfl⟩ := hv
    obtain ⟨rfl, hm⟩ := wD_eq h1
    exact h m hm w
  · cases hv
def fPP (r : P3 → P3 → Value) : PureF
  | [a, b] => (pD a).bind fun x => (pD b).map fun y => r x y
  | _ => none
theorem fPP_ok {P : Program} {f : FuncId} {r : P3 → P3 → Value} (h : ∀ a b, PIn a → PIn b → ∀ w, Calls P f #[pv a, pv b] w (Ans (r a b) w)) : PureOK P f (fPP r) := fun args v hv w => by
  unfold fPP at hv
  split at hv
  · simp only [Option.bind_eq_some_iff, Option.map_eq_some_iff] at hv
    obtain ⟨m, h1, p, h2, rfl⟩ := hv
    obtain ⟨rfl, hm⟩ := pD_eq h1
    obtain ⟨rfl, hp⟩ := pD_eq h2
    exact h m p hm hp w
  · cases hv
def fPT (r : P3 → Int → Value) : PureF
  | [a, b] => (pD a).bind fun x => (numOf .u64 b).map fun y => r x y
  | _ => none
theorem fPT_ok {P : Program} {f : FuncId} {r : P3 → Int → Value} (h : ∀ a b, PIn a → ∀ w, Calls P f #[pv a, .int .u64 b] w (Ans (r a b) w)) : PureOK P f (fPT r) := fun args v hv w => by
  unfold fPT at hv
  split at hv
  · simp only [Option.bind_eq_some_iff, Option.map_eq_some_iff] at hv
    obtain ⟨m, h1, t, h2, rfl⟩ := hv
    obtain ⟨rfl, hm⟩ := pD_eq h1
    rw [numOf_eq h2]
    exact h m t hm w
  · cases hv
def fI (r : It → Value) : PureF
  | [a] => (iD a).map r
  | _ => none
theorem fI_ok {P : Program} {f : FuncId} {r : It → Value} (h : ∀ a, a.In → ∀ w, Calls P f #[a.val] w (Ans (r a) w)) : PureOK P f (fI r) := fun args v hv w => by
  unfold fI at hv
  split at hv
  · simp only [Option.map_eq_some_iff] at hv
    obtain ⟨m, h1, rfl⟩ := hv
    obtain ⟨rfl, hm⟩ := iD_eq h1
    exact h m hm w
  · cases hv
def fR (r : Rq → Value) : PureF
  | [a] => (rD a).map r
  | _ => none
theorem fR_ok {P : Program} {f : FuncId} {r : Rq → Value} (h : ∀ a, a.In → ∀ w, Calls P f #[a.val] w (Ans (r a) w)) : PureOK P f (fR r) := fun args v hv w => by
  unfold fR at hv
  split at hv
  · simp only [Option.map_eq_some_iff] at hv
    obtain ⟨m, h1, rfl⟩ := hv
    obtain ⟨rfl, hm⟩ := rD_eq h1
    exact h m hm w
  · cases hv
def fNew : PureF
  | [a, b, c] => (pD a).bind fun p => (numOf .i64 b).bind fun i => (tD c).bind fun n => if -9223372036854775808 ≤ i ∧ i ≤ 9223372036854775807 then some (.tuple #[Rq.val (Rq.new p i n).1, .bool (Rq.new p i n).2]) else none
  | _ => none
theorem fNew_ok : PureOK Tryz.prog 133 fNew := fun args v hv w => by
  unfold fNew at hv
  split at hv
  · simp only [Option.bind_eq_some_iff] at hv
    obtain ⟨p, h1, i, h2, n, h3, h4⟩ := hv
    split at h4
    · rename_i hi
      cases h4
      obtain ⟨rfl, hp⟩ := pD_eq h1
      obtain ⟨rfl, hn⟩ := tD_eq h3
      rw [numOf_eq h2]
      exact Req.new p hp i n hi hn w
    · cases h4
  · cases hv
def fPlace : PureF
  | [a, b, c, d] => (mD a).bind fun m => (numOf .u64 b).bind fun t => (numOf .u32 c).bind fun v => (numOf .i64 d).bind fun o =>
    if 0 ≤ v ∧ v ≤ 4294967295 ∧ -9223372036854775808 ≤ o ∧ o ≤ 9223372036854775807 then some (.tuple #[pv (m.place t v o).2, .bool (m.place t v o).1]) else none
  | _ => none
theorem fPlace_ok : PureOK Tryz.prog 131 fPlace := fun args v hv w => by
  unfold fPlace at hv
  split at hv
  · simp only [Option.bind_eq_some_iff] at hv
    obtain ⟨m, h1, t, h2, y, h3, o, h4, h5⟩ := hv
    split at h5
    · rename_i hi
      cases h5
      obtain ⟨rfl, hm⟩ := mD_eq h1
      rw [numOf_eq h2, numOf_eq h3, numOf_eq h4]
      exact Place.place m t y o hm hi.1 hi.2.1 hi.2.2.1 hi.2.2.2 w
    · cases h5
  · cases hv
/-- The functions of numbers alone. -/
def numTbl : List (FuncId × PureF) := [
  (206, fMP fun m p => .tuple #[Mu.val (m.add p).2, .bool (m.add p).1]),
  (208, fMP fun m p => .tuple #[Mu.val (m.take p).2, .bool (m.take p).1]),
  (223, fMT fun m t => .tuple #[Mu.val (m.reb t).2, .bool (m.reb t).1]),
  (222, fM fun m => .tuple #[.int .u64 m.fl.2, .bool m.fl.1]),
  (137, fMP fun m p => .tuple #[.int .i64 (m.sign p).2, .bool (m.sign p).1]),
  (81, fMP fun m p => .tuple #[wv (m.lag p).2, .bool (m.lag p).1]),
  (233, fII fun a b => .bool (It.ahead a b)),
  (248, fII fun a b => .bool (It.due a b)),
  (154, fRT fun r n => .tuple #[Rq.val (r.serve n).1, .bool (r.serve n).2.1, .bool (r.serve n).2.2]),
  (133, fNew),
  (214, fMP fun m p => .bool (m.elig p)),
  (181, fI fun a => .bool (It.right a)),
  (148, fR fun a => .bool a.right),
  (145, fWW fun a b => .tuple #[wv (clW (a + b)), .bool (okW (a + b))]),
  (163, fWW fun a b => .tuple #[wv (clW (a - b)), .bool (okW (a - b))]),
  (201, fW fun a => wv (szI a)),
  (250, fPP fun a b => .int .i64 (cmpP a b)),
  (144, fPT fun p t => wv (Go.Proofs.YtlkhkhdacgeicaaGreatDoor.pD t p)),
  (131, fPlace)]
theorem numTbl_ok : ∀ e ∈ numTbl, PureOK Tryz.prog e.1 e.2 := fun e he => by
  simp only [numTbl, List.mem_cons, List.not_mem_nil, or_false] at he
  rcases he with rfl | rfl | rfl | rfl | rfl | rfl | rfl | rfl | rfl | rfl | rfl | rfl | rfl | rfl | rfl | rfl | rfl | rfl | rfl
  · exact fMP_ok fun m p hm hp w => Mean.add m p hm hp w
  · exact fMP_ok fun m p hm hp w => Mean.take m p hm hp w
  · exact fMT_ok fun m t hm w => Mean.rebase m t hm w
  · exact fM_ok fun m hm w => Mean.floor m hm w
  · exact fMP_ok fun m p hm hp w => Lag.sign m p hm hp w
  · exact fMP_ok fun m p hm hp w => Lag.read m p hm hp w
  · exact fII_ok fun a b ha hb w => Item.ahead a b ha hb w
  · exact fII_ok fun a b ha hb w => Item.due a b ha hb w
  · exact fRT_ok fun r n hr hn w => Req.serve r hr n hn w
  · exact fNew_ok
  · exact fMP_ok fun m p hm hp w => Lag.eligible m p hm hp w
  · exact fI_ok fun a _ w => Item.right a w
  · exact fR_ok fun a ha w => Req.right a ha w
  · exact fWW_ok fun a b ha hb w => Wide.addF ha hb w
  · exact fWW_ok fun a b ha hb w => Wide.subF ha hb w
  · exact fW_ok fun a ha w => Clamp.size a ha w
  · exact fPP_ok fun a b ha hb w => Pos.cmpF ha hb w
  · exact fPT_ok fun a t ha w => Pos.distanceF t ha w
  · exact fPlace_ok
/-- All hooks. -/
def allHook : CallF := fun f args σ => match pureHook numTbl f args σ with
  | some r => some r
  | none => setHook f args σ
theorem allHook_ok {ks : List Nat} {hk : CallF} : CallOK ⟨Tryz.prog, [], ks, hk⟩ allHook := by
  intro f args σ outs h
  unfold allHook at h
  split at h
  · rename_i r hr
    cases h
    exact pureHook_ok (ks := ks) (hk := hk) numTbl_ok f args σ _ hr
  · exact setHook_ok (ks := ks) (hk := hk) f args σ _ h
#print axioms allHook_ok
end Go.Proofs.YtlkhkhdacgeicaaGreatDoor.Ck

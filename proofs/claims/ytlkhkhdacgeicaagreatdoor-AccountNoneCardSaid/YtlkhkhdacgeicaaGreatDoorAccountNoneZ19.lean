/- Texts of AccountNone's proof, together. -/
import Derived.Test.YtlkhkhdacgeicaaGreatDoorAccountNoneZ18
import Derived.Test.YtlkhkhdacgeicaaGreatDoorBits
import Derived.Test.YtlkhkhdacgeicaaGreatDoorAccountNoneZ5
import Derived.Test.YtlkhkhdacgeicaaGreatDoorAccountNoneZ11
import Derived.Test.YtlkhkhdacgeicaaGreatDoorAccountNoneZ14
import Derived.Deep.LoopGhost
import Derived.Deep.QuietTactic
import Derived.BigQuiet
import Derived.Laws.OwnMore
import Derived.Deep.AppendLies
import Derived.Deep.RegionHeld3
import Derived.Deep.RegionWith
import Derived.OwnWalk
import Derived.Deep.CutBlock
import Derived.Deep.DeepCutAuto
namespace Go.Proofs.YtlkhkhdacgeicaaGreatDoor
/- Items: the soonest. -/
section
open Go.RowKit
abbrev It.zero : It := It.mk 0 0 0 0 0 0 0
theorem It.zero_in : It.zero.In := by unfold It.In; refine ⟨?_, ?_, ?_, ?_, ?_, ?_, ?_⟩ <;> exact ⟨by decide, by decide⟩
end

/- Requests, as numbers; many variables, each at its place. -/
section
open Go.RowKit
/-- Many variables of one's own: addresses, with what they hold. -/
def VS (w : World) (L : List (Nat × List Value)) (W : World) : Prop :=
  (∀ (k g : Nat) (vs : List Value), L[k]? = some (g, vs) → Cs W g vs ∧ w.heap.size ≤ g ∧ g < W.heap.size) ∧ (L.map (·.1)).Nodup ∧ Below w.heap.size w W
theorem VS.nil (w : World) : VS w [] w := ⟨fun k g vs h => by simp at h, List.nodup_nil, Below.refl _ _⟩
theorem VS.cs {w W : World} {L : List (Nat × List Value)} (h : VS w L W) (k : Nat) {g : Nat} {vs : List Value} (e : L[k]? = some (g, vs)) : Cs W g vs := (h.1 k g vs e).1
theorem VS.bel {w W : World} {L : List (Nat × List Value)} (h : VS w L W) : Below w.heap.size w W := h.2.2
theorem VS.below {w W W2 : World} {L : List (Nat × List Value)} (h : VS w L W) (hb : Below W.heap.size W W2) : VS w L W2 :=
  ⟨fun k g vs e => ⟨(h.1 k g vs e).1.below hb, (h.1 k g vs e).2.1, Nat.lt_of_lt_of_le (h.1 k g vs e).2.2 hb.size⟩, h.2.1, below_on h.2.2 hb⟩
theorem VS.new {w W : World} {L : List (Nat × List Value)} (h : VS w L W) (T : TypeId) (vs : List Value) : VS w (L ++ [(W.heap.size, vs)]) (W.alloc (.cells vs.toArray T)) := by
  have hb := (Below.refl W.heap.size W).alloc (Nat.le_refl _) (.cells vs.toArray T)
  have h2 := h.below hb
  refine ⟨fun k g us e => ?_, ?_, h2.2.2⟩
  · rw [List.getElem?_append] at e
    split at e
    · exact h2.1 k g us e
    · rcases hk : k - L.length with _ | j
      · rw [hk] at e
        simp at e
        obtain ⟨rfl, rfl⟩ := e
        exact ⟨Cs.alloc_new6 W T vs, h.2.2.size, by simp⟩
      · rw [hk] at e; simp at e
  · rw [List.map_append, List.nodup_append]
    refine ⟨h.2.1, by simp, fun a ha b hb e => ?_⟩
    simp at hb
    obtain ⟨x, hx, e2⟩ := List.mem_map.1 ha
    obtain ⟨k, hk⟩ := List.getElem?_of_mem hx
    have := (h.1 k x.1 x.2 hk).2.2
    omega
theorem VS.puts {w W : World} {L : List (Nat × List Value)} (h : VS w L W) (k : Nat) {g : Nat} {us : List Value} (e : L[k]? = some (g, us)) (o : Nat) (vs : List Value) (hl : o + vs.length ≤ us.length) : VS w (L.set k (g, setL us o vs)) (W.setCells g o vs) := by
  have hg := h.1 k g us e
  have hsz : ∀ (vs : List Value) (o : Nat) (W : World), (W.setCells g o vs).heap.size = W.heap.size := by
    intro vs
    induction vs with
    | nil => intro o W; rfl
    | cons v r ih => intro o W; exact (ih (o + 1) _).trans (by simp)
  have hkl : k < L.length := by
    rcases Nat.lt_or_ge k L.length with c | c
    · exact c
    · rw [List.getElem?_eq_none c] at e; cases e
  refine ⟨fun j b ts ej => ?_, ?_, below_sets hg.2.1 _ _ h.2.2⟩
  · rw [hsz]
    by_cases c : k = j
    · subst c
      rw [List.getElem?_set_self hkl] at ej
      injection ej with ej
      injection ej with e1 e2
      subst e1 e2
      exact ⟨Cs.putL vs o hg.1 hl, hg.2⟩
    · rw [List.getElem?_set_ne c] at ej
      have hj := h.1 j b ts ej
      refine ⟨hj.1.fars ?_ _ _, hj.2⟩
      intro e'
      subst e'
      have n := List.pairwise_iff_getElem.1 h.2.1
      have hjl : j < L.length := by
        rcases Nat.lt_or_ge j L.length with d | d
        · exact d
        · rw [List.getElem?_eq_none d] at ej; cases ej
      rw [List.getElem?_eq_getElem hkl] at e
      rw [List.getElem?_eq_getElem hjl] at ej
      injection e with e
      injection ej with ej
      rcases Nat.lt_or_gt_of_ne c with d | d
      · have := n k j (by simpa using hkl) (by simpa using hjl) d
        simp [e, ej] at this
      · have := n j k (by simpa using hjl) (by simpa using hkl) d
        simp [e, ej] at this
  · have : (L.set k (g, setL us o vs)).map (·.1) = L.map (·.1) := by
      rw [List.map_set]
      apply List.ext_getElem?
      intro i
      by_cases c : k = i
      · subst c
        rw [List.getElem?_set_self (by simpa using hkl)]
        simp [e]
      · rw [List.getElem?_set_ne c]
    rw [this]; exact h.2.1
/-- The same, with what is stored said. -/
theorem VS.put {w W : World} {L : List (Nat × List Value)} (h : VS w L W) (k : Nat) {g : Nat} {us : List Value} (e : L[k]? = some (g, us)) (o : Nat) (vs : List Value) (hl : o + vs.length ≤ us.length) {W2 : World} (hW : W2 = W.setCells g o vs) : VS w (L.set k (g, setL us o vs)) W2 := by
  rw [hW]; exact h.puts k e o vs hl
theorem VS.put1 {w W : World} {L : List (Nat × List Value)} (h : VS w L W) (k : Nat) {g : Nat} {us : List Value} (e : L[k]? = some (g, us)) (o : Nat) (v : Value) (hl : o < us.length) : VS w (L.set k (g, us.set o v)) (W.setCell ⟨g, o, none⟩ v) := h.puts k e o [v] (by simp; omega)
theorem VS.less {w W : World} {L : List (Nat × List Value)} (M : List (Nat × List Value)) (h : VS w (L ++ M) W) : VS w L W :=
  ⟨fun k g vs e => h.1 k g vs (by rw [List.getElem?_append_left]; exact e; exact (List.getElem?_eq_some_iff.1 e).1), (List.nodup_append.1 (by have := h.2.1; rwa [List.map_append] at this)).1, h.2.2⟩
theorem VS.stays (w : World) (L : List (Nat × List Value)) : Stays (VS w L) := fun _ _ h hb => h.below hb
/-- A value of several cells is stored into one of the variables. -/
theorem wpList_put_vs {ops : Array Oper} {rest : List Oper} {op : Oper} {a : Act} {w W : World} {Q : Exit → Act → World → Prop} {L : List (Nat × List Value)} (h : VS w L W) (k : Nat) (T : TypeId) (vs : List Value) {n : Nat} (hT : (Tryz.prog.info? T).map (·.size) = some n) (hgd : op.guard = none) (x y : Operand) (ho : op.op = .store T x y)
    (g : Nat) (us : List Value) (hk : L[k]? = some (g, us)) (o : Nat) (hn : vs.length = n) (hl : o + n ≤ us.length) (h1 : vs.all (·.oneCell') = true) (hx : a.eval x = .pointer (some ⟨g, o, none⟩)) (hy : a.eval y = .agg vs.toArray)
    (hK : ∀ W2, VS w (L.set k (g, setL us o vs)) W2 → wpList Tryz.prog ops Q rest (a.put op.dst undef) W2) : wpList Tryz.prog ops Q (op :: rest) a W :=
  wpList_store_mid hgd T x y ho g o vs.toArray hx hy (by
      intro j hj
      have hc := h.cs k hk
      have hj' : o + j < us.length := by simp at hj; omega
      exact ⟨by rw [(hc _ _ (List.getElem?_eq_getElem hj')).1]; rfl, (hc _ _ (List.getElem?_eq_getElem hj')).2⟩) (by rw [hT, ← hn]; simp) (by simpa using h1) (hK _ (by simpa using h.puts k hk o vs (by omega)))
/-- A request, in whole numbers. -/
structure Rq where
  a : It
  l : Int
  s : Int
  z : Bool
def Rq.cells (r : Rq) : List Value := [.int .u64 r.a.t, .int .u32 r.a.r, .int .u32 r.a.v, .int .i64 r.a.i, .int .u64 r.a.u, .int .u32 r.a.s, .int .u32 r.a.y, .int .u64 r.l, .int .u64 r.s, .bool r.z]
abbrev Rq.val (r : Rq) : Value := .agg #[.int .u64 r.a.t, .int .u32 r.a.r, .int .u32 r.a.v, .int .i64 r.a.i, .int .u64 r.a.u, .int .u32 r.a.s, .int .u32 r.a.y, .int .u64 r.l, .int .u64 r.s, .bool r.z]
def Rq.In (r : Rq) : Prop := r.a.In ∧ IsT r.l ∧ IsT r.s
abbrev Rq.no : Rq := ⟨It.zero, 0, 0, false⟩
theorem Rq.no_in : Rq.no.In := ⟨It.zero_in, ⟨by decide, by decide⟩, ⟨by decide, by decide⟩⟩
theorem Rq.at {w : World} {g : Nat} (r : Rq) (h : Cs w g r.cells) : w.cell? ⟨g, 0, none⟩ = some (.int .u64 r.a.t) ∧ w.cell? ⟨g, 1, none⟩ = some (.int .u32 r.a.r) ∧ w.cell? ⟨g, 2, none⟩ = some (.int .u32 r.a.v) ∧ w.cell? ⟨g, 3, none⟩ = some (.int .i64 r.a.i) ∧ w.cell? ⟨g, 4, none⟩ = some (.int .u64 r.a.u) ∧ w.cell? ⟨g, 5, none⟩ = some (.int .u32 r.a.s) ∧ w.cell? ⟨g, 6, none⟩ = some (.int .u32 r.a.y) ∧ w.cell? ⟨g, 7, none⟩ = some (.int .u64 r.l) ∧ w.cell? ⟨g, 8, none⟩ = some (.int .u64 r.s) ∧ w.cell? ⟨g, 9, none⟩ = some (.bool r.z) :=
  ⟨(h 0 _ rfl).1, (h 1 _ rfl).1, (h 2 _ rfl).1, (h 3 _ rfl).1, (h 4 _ rfl).1, (h 5 _ rfl).1, (h 6 _ rfl).1, (h 7 _ rfl).1, (h 8 _ rfl).1, (h 9 _ rfl).1⟩
def slI (n : Int) : Bool := decide (1 ≤ n ∧ n ≤ 1099511627776)
def gw (n : Int) : Int := IntKind.u64.wrap (1048576 * n)
theorem gw_T (n : Int) : IsT (gw n) := by unfold gw IsT; rw [IntKind.wrap_u64]; omega
def dueP (p : P3) (n : Int) : P3 := atP p.1 (gw n + p.2.1) p.2.2
def Rq.pp (r : Rq) : P3 := (r.a.t, r.a.r, r.a.v)
def Rq.due (r : Rq) : P3 := dueP r.pp r.l
def Rq.right (r : Rq) : Bool := r.a.right && slI r.l && slI r.s && (r.a.u == r.due.1 && r.a.s == r.due.2.1 && r.a.y == r.due.2.2)
def Rq.whr (r : Rq) : Rq × Bool := if r.right = true then (r, true) else (Rq.no, false)
/-- From another position on. -/
def Rq.from_ (r : Rq) (p : P3) : Rq := ⟨⟨p.1, p.2.1, p.2.2, r.a.i, (dueP p r.l).1, (dueP p r.l).2.1, (dueP p r.l).2.2⟩, r.l, r.s, r.z⟩
def Rq.new (p : P3) (id n : Int) : Rq × Bool := (Rq.from_ ⟨⟨0, 0, 0, id, 0, 0, 0⟩, n, n, false⟩ p).whr
def Rq.left (r : Rq) (n : Int) : Int := if r.l = n then r.s else r.l - n
def Rq.went (r : Rq) (n : Int) : Rq := Rq.from_ ⟨r.a, r.left n, r.s, r.z⟩ (dueP r.pp n)
def Rq.srvOk (r : Rq) (n : Int) : Bool := r.right && decide (1 ≤ n ∧ n ≤ r.l)
def Rq.serve (r : Rq) (n : Int) : Rq × Bool × Bool := if r.srvOk n = true then ((r.went n).whr.1, decide (r.l = n) && (r.went n).whr.2, (r.went n).whr.2) else (Rq.no, false, false)
theorem atP_in (base d : Int) {v : Int} (h0 : 0 ≤ v) (h1 : v ≤ 4294967295) : PIn (atP base d v) := by
  unfold atP
  split
  · rename_i h
    obtain ⟨a, b, _, _⟩ := atOk_iff.1 h
    have c := Int.emod_nonneg d (show v ≠ 0 by omega)
    have e := Int.emod_lt_of_pos d (show 0 < v by omega)
    exact ⟨adv_T _ _, ⟨c, by show d % v ≤ 4294967295; omega⟩, h0, h1⟩
  · exact ⟨⟨by decide, by decide⟩, ⟨by decide, by decide⟩, by decide, by decide⟩
theorem dueP_in {p : P3} (hp : PIn p) (n : Int) : PIn (dueP p n) := atP_in _ _ hp.2.2.1 hp.2.2.2
theorem Rq.pp_in {r : Rq} (h : r.In) : PIn r.pp := ⟨h.1.1, h.1.2.1, h.1.2.2.1⟩
theorem Rq.from_in {r : Rq} (h : r.In) {p : P3} (hp : PIn p) : (r.from_ p).In :=
  ⟨⟨hp.1, hp.2.1, hp.2.2, h.1.2.2.2.1, (dueP_in hp _).1, (dueP_in hp _).2.1, (dueP_in hp _).2.2⟩, h.2⟩
end

/- The contracts of the package req. -/
section
open Go.RowKit
theorem infoReq : (Tryz.prog.info? 162).map (·.size) = some 10 := by kernel_rfl
set_option maxHeartbeats 400000 in
theorem Req.slice (n : Int) (w : World) : Calls Tryz.prog 182 #[.int .u64 n] w (Ans (.bool (slI n)) w) := by
  unfold slI
  by_cases h1 : 1 ≤ n
  · by_cases h2 : n ≤ 1099511627776
    · have e : decide (1 ≤ n ∧ n ≤ 1099511627776) = true := by rw [decide_eq_true_eq]; exact ⟨h1, h2⟩
      rw [e]
      clear e
      go_enter Tryz.func182, Tryz.ntmps182
      go_wp2
      go_ret
      exact ⟨rfl, Below.refl _ _⟩
    · have e : decide (1 ≤ n ∧ n ≤ 1099511627776) = false := by rw [decide_eq_false_iff_not]; omega
      rw [e]
      clear e
      go_enter Tryz.func182, Tryz.ntmps182
      go_wp2
      go_ret
      exact ⟨rfl, Below.refl _ _⟩
  · have e : decide (1 ≤ n ∧ n ≤ 1099511627776) = false := by rw [decide_eq_false_iff_not]; omega
    rw [e]
    clear e
    go_enter Tryz.func182, Tryz.ntmps182
    go_wp2
    go_ret
    exact ⟨rfl, Below.refl _ _⟩
theorem Pos.moveD (t r v n : Int) (hp : PIn (t, r, v)) (w : World) : Calls Tryz.prog 191 #[.agg #[.int .u64 t, .int .u32 r, .int .u32 v], .int .u64 (gw n)] w (Ans (.tuple #[pv (dueP (t, r, v) n), .bool (atOk (gw n + r) v)]) w) :=
  Pos.moveF (p := (t, r, v)) hp (gw_T n).1 (gw_T n).2 w
section
attribute [local go_sem] Pos.eqB
set_option maxRecDepth 100000 in
set_option maxHeartbeats 8000000 in
theorem Req.due (r : Rq) (hr : r.In) (w : World) : Calls Tryz.prog 183 #[r.val] w (Ans (pv r.due) w) := by
  have HR := hid hr
  obtain ⟨d, hd⟩ : ∃ d, dueP (r.a.t, r.a.r, r.a.v) r.l = d := ⟨_, rfl⟩
  have HD : Hid (dueP (r.a.t, r.a.r, r.a.v) r.l = d) := hid hd
  have e1 : IntKind.u64.wrap (1048576 * r.l) = gw r.l := rfl
  rw [show r.due = d from hd]
  clear hr hd
  unfold Rq.val
  have HV0 : Hid (VS w [(w.heap.size, r.cells), (w.heap.size + 1, [.int .u64 0, .int .u32 0, .int .u32 0])] ((w.alloc (.cells #[.int .u64 r.a.t, .int .u32 r.a.r, .int .u32 r.a.v, .int .i64 r.a.i, .int .u64 r.a.u, .int .u32 r.a.s, .int .u32 r.a.y, .int .u64 r.l, .int .u64 r.s, .bool r.z] 162)).alloc (.cells #[.int .u64 0, .int .u32 0, .int .u32 0] 137))) := hid (by have h := (((VS.nil w).new 162 r.cells).new 137 [.int .u64 0, .int .u32 0, .int .u32 0]); (try simp only [World.size_alloc] at h); exact h)
  go_enter Tryz.func183, Tryz.ntmps183
  go_wp2_with fail
  generalize ((w.alloc (.cells #[.int .u64 r.a.t, .int .u32 r.a.r, .int .u32 r.a.v, .int .i64 r.a.i, .int .u64 r.a.u, .int .u32 r.a.s, .int .u32 r.a.y, .int .u64 r.l, .int .u64 r.s, .bool r.z] 162)).alloc (.cells #[.int .u64 0, .int .u32 0, .int .u32 0] 137)) = W0 at HV0 ⊢
  obtain ⟨c0, c1, c2, c3, c4, c5, c6, c7, c8, c9⟩ := Rq.at r (HV0.out.cs 0 rfl)
  go_wp2_with fail
  refine (Pos.moveD r.a.t r.a.r r.a.v r.l (Rq.pp_in HR.out) _).mono ?_
  rw [HD.out]
  rintro e w1 ⟨rfl, hb⟩
  have HV1 := hid (HV0.out.below hb)
  clear hb HV0 e1 c0 c1 c2 c3 c4 c5 c6 c7 c8 c9
  have HV2 : Hid (VS w [(w.heap.size, r.cells), (w.heap.size + 1, [.int .u64 0, .int .u32 0, .int .u32 0]), (w1.heap.size, [.int .u64 0, .int .u32 0, .int .u32 0])] (w1.alloc (.cells #[.int .u64 0, .int .u32 0, .int .u32 0] 137))) := hid (HV1.out.new 137 [.int .u64 0, .int .u32 0, .int .u32 0])
  clear HV1
  go_wp2_with (first | ((with_reducible refine wpList_put_vs HV2.out 2 137 [.int .u64 d.1, .int .u32 d.2.1, .int .u32 d.2.2] infoPos rfl (.tmp 3) (.tmp 13) rfl (w1.heap.size) ([.int .u64 0, .int .u32 0, .int .u32 0]) ?vs1a 0 ?vs1b ?vs1c ?vs1d ?vs1e ?vs1f ?vs1g); (case vs1a => rfl); (case vs1b => rfl); (case vs1c => exact of_decide_eq_true rfl); (case vs1d => rfl); (case vs1e => rfl); (case vs1f => rfl); (intro W2 hW2); (have HV3 : Hid (VS w [(w.heap.size, r.cells), (w.heap.size + 1, [.int .u64 0, .int .u32 0, .int .u32 0]), (w1.heap.size, [.int .u64 d.1, .int .u32 d.2.1, .int .u32 d.2.2])] W2) := hid hW2); (clear hW2 HV2); (obtain ⟨q0, q1, q2⟩ := P3.at d (HV3.out.cs 2 rfl))) | ((with_reducible refine wpList_put_vs HV3.out 1 137 [.int .u64 d.1, .int .u32 d.2.1, .int .u32 d.2.2] infoPos rfl (.tmp 2) (.tmp 15) rfl (w.heap.size + 1) ([.int .u64 0, .int .u32 0, .int .u32 0]) ?vs2a 0 ?vs2b ?vs2c ?vs2d ?vs2e ?vs2f ?vs2g); (case vs2a => rfl); (case vs2b => rfl); (case vs2c => exact of_decide_eq_true rfl); (case vs2d => rfl); (case vs2e => rfl); (case vs2f => rfl); (intro W2 hW2); (have HV4 : Hid (VS w [(w.heap.size, r.cells), (w.heap.size + 1, [.int .u64 d.1, .int .u32 d.2.1, .int .u32 d.2.2]), (w1.heap.size, [.int .u64 d.1, .int .u32 d.2.1, .int .u32 d.2.2])] W2) := hid hW2); (clear hW2 HV3); (clear q0 q1 q2); (obtain ⟨q0, q1, q2⟩ := P3.at d (HV4.out.cs 1 rfl))) | fail)
  refine bodyPost_ret (v := pv d) (by simp [results, Tryz.results183, go_sem, q0, q1, q2]) rfl ⟨rfl, HV4.out.bel⟩
set_option maxRecDepth 100000 in
set_option maxHeartbeats 8000000 in
theorem Req.right (r : Rq) (hr : r.In) (w : World) : Calls Tryz.prog 148 #[r.val] w (Ans (.bool r.right) w) := by
  have HR := hid hr
  clear hr
  unfold Rq.val
  cases h1 : It.right r.a with
  | false =>
    have H1 := hid h1
    clear h1
    have HE : Hid (r.right = false) := hid (by unfold Rq.right; rw [H1.out]; rfl)
    rw [HE.out]
    have HV0 : Hid (VS w [(w.heap.size, r.cells)] (w.alloc (.cells #[.int .u64 r.a.t, .int .u32 r.a.r, .int .u32 r.a.v, .int .i64 r.a.i, .int .u64 r.a.u, .int .u32 r.a.s, .int .u32 r.a.y, .int .u64 r.l, .int .u64 r.s, .bool r.z] 162))) := hid (by have h := ((VS.nil w).new 162 r.cells); (try simp only [World.size_alloc] at h); exact h)
    go_enter Tryz.func148, Tryz.ntmps148
    go_wp2_with fail
    generalize (w.alloc (.cells #[.int .u64 r.a.t, .int .u32 r.a.r, .int .u32 r.a.v, .int .i64 r.a.i, .int .u64 r.a.u, .int .u32 r.a.s, .int .u32 r.a.y, .int .u64 r.l, .int .u64 r.s, .bool r.z] 162)) = W0 at HV0 ⊢
    refine wp_region_grow (S := VS w [(w.heap.size, r.cells)]) 22 (by kernel_rfl) (HV0.out.below (Below.refl _ _).drew) ?_
    refine wpAnyE_take (i := 0) (v := ?_) (VS.stays w _) (fun _ h => h) rfl (by kernel_rfl) (by kernel_rfl) (by kernel_rfl) (by kernel_rfl) (fun _ _ _ h => h) (SteadyB.of_yields (Or.inl ⟨by rfl, ?_⟩)) ?_
    rotate_left
    · intro wq hSw
      go_simp
      (try with_reducible rfl)
    try simp only [List.getElem_toArray, List.getElem_cons_zero, List.getElem_cons_succ, Act.put, List.setIfInBounds_toArray, List.set_cons_zero, List.set_cons_succ]
    refine wpAnyE_take (i := 1) (v := ?_) (VS.stays w _) (fun _ h => h) rfl (by kernel_rfl) (by kernel_rfl) (by kernel_rfl) (by kernel_rfl) (fun _ _ _ h => h) (SteadyB.of_yields (Or.inl ⟨by rfl, ?_⟩)) ?_
    rotate_left
    · intro wq hSw
      obtain ⟨c0, c1, c2, c3, c4, c5, c6, c7, c8, c9⟩ := Rq.at r (hSw.cs 0 rfl)
      go_simp
      (try with_reducible rfl)
    try simp only [List.getElem_toArray, List.getElem_cons_zero, List.getElem_cons_succ, Act.put, List.setIfInBounds_toArray, List.set_cons_zero, List.set_cons_succ]
    refine wpAnyE_take (i := 2) (v := .bool false) (VS.stays w _) (fun _ h => h) rfl (by kernel_rfl) (by kernel_rfl) (by kernel_rfl) (by kernel_rfl) (fun _ _ _ h => h) (Or.inl ⟨by rfl, fun wq hSw => ?_⟩) ?_
    · refine RunB.of_calls ((Item.right r.a wq).mono (by rintro e w' ⟨rfl, hb⟩; exact ⟨by rw [H1.out], hb⟩ : ∀ e w', Ans (.bool (It.right r.a)) wq e w' → Ans (.bool false) wq e w')) (by go_simp) ?_
      rintro e wr ⟨rfl, hb⟩
      exact ⟨rfl, hb⟩
    try simp only [List.getElem_toArray, List.getElem_cons_zero, List.getElem_cons_succ, Act.put, List.setIfInBounds_toArray, List.set_cons_zero, List.set_cons_succ]
    refine wpAnyE_take (i := 3) (v := ?_) (VS.stays w _) (fun _ h => h) rfl (by kernel_rfl) (by kernel_rfl) (by kernel_rfl) (by kernel_rfl) (fun _ _ _ h => h) (SteadyB.of_yields (Or.inl ⟨by rfl, ?_⟩)) ?_
    rotate_left
    · intro wq hSw
      go_simp
      (try with_reducible rfl)
    try simp only [List.getElem_toArray, List.getElem_cons_zero, List.getElem_cons_succ, Act.put, List.setIfInBounds_toArray, List.set_cons_zero, List.set_cons_succ]
    refine wpAnyE_take (i := 4) (v := undef) (VS.stays w _) (fun _ h => h) rfl (by kernel_rfl) (by kernel_rfl) (by kernel_rfl) (by kernel_rfl) (fun _ _ _ h => h) (Or.inr ⟨by rfl, rfl⟩) ?_
    try simp only [List.getElem_toArray, List.getElem_cons_zero, List.getElem_cons_succ, Act.put, List.setIfInBounds_toArray, List.set_cons_zero, List.set_cons_succ]
    refine wpAnyE_take (i := 5) (v := undef) (VS.stays w _) (fun _ h => h) rfl (by kernel_rfl) (by kernel_rfl) (by kernel_rfl) (by kernel_rfl) (fun _ _ _ h => h) (Or.inr ⟨by rfl, rfl⟩) ?_
    try simp only [List.getElem_toArray, List.getElem_cons_zero, List.getElem_cons_succ, Act.put, List.setIfInBounds_toArray, List.set_cons_zero, List.set_cons_succ]
    refine wpAnyE_take (i := 6) (v := undef) (VS.stays w _) (fun _ h => h) rfl (by kernel_rfl) (by kernel_rfl) (by kernel_rfl) (by kernel_rfl) (fun _ _ _ h => h) (Or.inr ⟨by rfl, rfl⟩) ?_
    try simp only [List.getElem_toArray, List.getElem_cons_zero, List.getElem_cons_succ, Act.put, List.setIfInBounds_toArray, List.set_cons_zero, List.set_cons_succ]
    refine wpAnyE_take (i := 7) (v := ?_) (VS.stays w _) (fun _ h => h) rfl (by kernel_rfl) (by kernel_rfl) (by kernel_rfl) (by kernel_rfl) (fun _ _ _ h => h) (SteadyB.of_yields (Or.inl ⟨by rfl, ?_⟩)) ?_
    rotate_left
    · intro wq hSw
      go_simp
      (try with_reducible rfl)
    try simp only [List.getElem_toArray, List.getElem_cons_zero, List.getElem_cons_succ, Act.put, List.setIfInBounds_toArray, List.set_cons_zero, List.set_cons_succ]
    refine wpAnyE_take (i := 8) (v := ?_) (VS.stays w _) (fun _ h => h) rfl (by kernel_rfl) (by kernel_rfl) (by kernel_rfl) (by kernel_rfl) (fun _ _ _ h => h) (SteadyB.of_yields (Or.inl ⟨by rfl, ?_⟩)) ?_
    rotate_left
    · intro wq hSw
      go_simp
      (try with_reducible rfl)
    try simp only [List.getElem_toArray, List.getElem_cons_zero, List.getElem_cons_succ, Act.put, List.setIfInBounds_toArray, List.set_cons_zero, List.set_cons_succ]
    refine wpAnyE_take (i := 9) (v := undef) (VS.stays w _) (fun _ h => h) rfl (by kernel_rfl) (by kernel_rfl) (by kernel_rfl) (by kernel_rfl) (fun _ _ _ h => h) (Or.inr ⟨by rfl, rfl⟩) ?_
    try simp only [List.getElem_toArray, List.getElem_cons_zero, List.getElem_cons_succ, Act.put, List.setIfInBounds_toArray, List.set_cons_zero, List.set_cons_succ]
    refine wpAnyE_take (i := 10) (v := undef) (VS.stays w _) (fun _ h => h) rfl (by kernel_rfl) (by kernel_rfl) (by kernel_rfl) (by kernel_rfl) (fun _ _ _ h => h) (Or.inr ⟨by rfl, rfl⟩) ?_
    try simp only [List.getElem_toArray, List.getElem_cons_zero, List.getElem_cons_succ, Act.put, List.setIfInBounds_toArray, List.set_cons_zero, List.set_cons_succ]
    refine wpAnyE_take (i := 11) (v := undef) (VS.stays w _) (fun _ h => h) rfl (by kernel_rfl) (by kernel_rfl) (by kernel_rfl) (by kernel_rfl) (fun _ _ _ h => h) (Or.inr ⟨by rfl, rfl⟩) ?_
    try simp only [List.getElem_toArray, List.getElem_cons_zero, List.getElem_cons_succ, Act.put, List.setIfInBounds_toArray, List.set_cons_zero, List.set_cons_succ]
    refine wpAnyE_take (i := 12) (v := ?_) (VS.stays w _) (fun _ h => h) rfl (by kernel_rfl) (by kernel_rfl) (by kernel_rfl) (by kernel_rfl) (fun _ _ _ h => h) (SteadyB.of_yields (Or.inl ⟨by rfl, ?_⟩)) ?_
    rotate_left
    · intro wq hSw
      go_simp
      (try with_reducible rfl)
    try simp only [List.getElem_toArray, List.getElem_cons_zero, List.getElem_cons_succ, Act.put, List.setIfInBounds_toArray, List.set_cons_zero, List.set_cons_succ]
    refine wpAnyE_take (i := 13) (v := ?_) (VS.stays w _) (fun _ h => h) rfl (by kernel_rfl) (by kernel_rfl) (by kernel_rfl) (by kernel_rfl) (fun _ _ _ h => h) (SteadyB.of_yields (Or.inl ⟨by rfl, ?_⟩)) ?_
    rotate_left
    · intro wq hSw
      go_simp
      (try with_reducible rfl)
    try simp only [List.getElem_toArray, List.getElem_cons_zero, List.getElem_cons_succ, Act.put, List.setIfInBounds_toArray, List.set_cons_zero, List.set_cons_succ]
    refine wpAnyE_take (i := 14) (v := undef) (VS.stays w _) (fun _ h => h) rfl (by kernel_rfl) (by kernel_rfl) (by kernel_rfl) (by kernel_rfl) (fun _ _ _ h => h) (Or.inr ⟨by rfl, rfl⟩) ?_
    try simp only [List.getElem_toArray, List.getElem_cons_zero, List.getElem_cons_succ, Act.put, List.setIfInBounds_toArray, List.set_cons_zero, List.set_cons_succ]
    refine wpAnyE_take (i := 15) (v := undef) (VS.stays w _) (fun _ h => h) rfl (by kernel_rfl) (by kernel_rfl) (by kernel_rfl) (by kernel_rfl) (fun _ _ _ h => h) (Or.inr ⟨by rfl, rfl⟩) ?_
    try simp only [List.getElem_toArray, List.getElem_cons_zero, List.getElem_cons_succ, Act.put, List.setIfInBounds_toArray, List.set_cons_zero, List.set_cons_succ]
    refine wpAnyE_take (i := 16) (v := undef) (VS.stays w _) (fun _ h => h) rfl (by kernel_rfl) (by kernel_rfl) (by kernel_rfl) (by kernel_rfl) (fun _ _ _ h => h) (Or.inr ⟨by rfl, rfl⟩) ?_
    try simp only [List.getElem_toArray, List.getElem_cons_zero, List.getElem_cons_succ, Act.put, List.setIfInBounds_toArray, List.set_cons_zero, List.set_cons_succ]
    refine wpAnyE_take (i := 17) (v := undef) (VS.stays w _) (fun _ h => h) rfl (by kernel_rfl) (by kernel_rfl) (by kernel_rfl) (by kernel_rfl) (fun _ _ _ h => h) (Or.inr ⟨by rfl, rfl⟩) ?_
    try simp only [List.getElem_toArray, List.getElem_cons_zero, List.getElem_cons_succ, Act.put, List.setIfInBounds_toArray, List.set_cons_zero, List.set_cons_succ]
    refine wpAnyE_take (i := 18) (v := undef) (VS.stays w _) (fun _ h => h) rfl (by kernel_rfl) (by kernel_rfl) (by kernel_rfl) (by kernel_rfl) (fun _ _ _ h => h) (Or.inr ⟨by rfl, rfl⟩) ?_
    try simp only [List.getElem_toArray, List.getElem_cons_zero, List.getElem_cons_succ, Act.put, List.setIfInBounds_toArray, List.set_cons_zero, List.set_cons_succ]
    refine wpAnyE_take (i := 19) (v := undef) (VS.stays w _) (fun _ h => h) rfl (by kernel_rfl) (by kernel_rfl) (by kernel_rfl) (by kernel_rfl) (fun _ _ _ h => h) (Or.inr ⟨by rfl, rfl⟩) ?_
    try simp only [List.getElem_toArray, List.getElem_cons_zero, List.getElem_cons_succ, Act.put, List.setIfInBounds_toArray, List.set_cons_zero, List.set_cons_succ]
    refine wpAnyE_take (i := 20) (v := ?_) (VS.stays w _) (fun _ h => h) rfl (by kernel_rfl) (by kernel_rfl) (by kernel_rfl) (by kernel_rfl) (fun _ _ _ h => h) (SteadyB.of_yields (Or.inl ⟨by rfl, ?_⟩)) ?_
    rotate_left
    · intro wq hSw
      go_simp
      (try with_reducible rfl)
    try simp only [List.getElem_toArray, List.getElem_cons_zero, List.getElem_cons_succ, Act.put, List.setIfInBounds_toArray, List.set_cons_zero, List.set_cons_succ]
    refine wpAnyE_take (i := 21) (v := ?_) (VS.stays w _) (fun _ h => h) rfl (by kernel_rfl) (by kernel_rfl) (by kernel_rfl) (by kernel_rfl) (fun _ _ _ h => h) (SteadyB.of_yields (Or.inl ⟨by rfl, ?_⟩)) ?_
    rotate_left
    · intro wq hSw
      go_simp
      (try with_reducible rfl)
    try simp only [List.getElem_toArray, List.getElem_cons_zero, List.getElem_cons_succ, Act.put, List.setIfInBounds_toArray, List.set_cons_zero, List.set_cons_succ]
    refine wpAnyE_done (by kernel_rfl) (fun wz hSz => ?_) _
    go_wp2_with fail
    go_ret
    exact ⟨rfl, hSz.bel⟩
  | true =>
    cases h2 : slI r.l with
    | false =>
      have H1 := hid h1
      have H2 := hid h2
      clear h1 h2
      have HE : Hid (r.right = false) := hid (by unfold Rq.right; rw [H1.out, H2.out]; rfl)
      rw [HE.out]
      have HV0 : Hid (VS w [(w.heap.size, r.cells)] (w.alloc (.cells #[.int .u64 r.a.t, .int .u32 r.a.r, .int .u32 r.a.v, .int .i64 r.a.i, .int .u64 r.a.u, .int .u32 r.a.s, .int .u32 r.a.y, .int .u64 r.l, .int .u64 r.s, .bool r.z] 162))) := hid (by have h := ((VS.nil w).new 162 r.cells); (try simp only [World.size_alloc] at h); exact h)
      go_enter Tryz.func148, Tryz.ntmps148
      go_wp2_with fail
      generalize (w.alloc (.cells #[.int .u64 r.a.t, .int .u32 r.a.r, .int .u32 r.a.v, .int .i64 r.a.i, .int .u64 r.a.u, .int .u32 r.a.s, .int .u32 r.a.y, .int .u64 r.l, .int .u64 r.s, .bool r.z] 162)) = W0 at HV0 ⊢
      refine wp_region_grow (S := VS w [(w.heap.size, r.cells)]) 22 (by kernel_rfl) (HV0.out.below (Below.refl _ _).drew) ?_
      refine wpAnyE_take (i := 0) (v := ?_) (VS.stays w _) (fun _ h => h) rfl (by kernel_rfl) (by kernel_rfl) (by kernel_rfl) (by kernel_rfl) (fun _ _ _ h => h) (SteadyB.of_yields (Or.inl ⟨by rfl, ?_⟩)) ?_
      rotate_left
      · intro wq hSw
        go_simp
        (try with_reducible rfl)
      try simp only [List.getElem_toArray, List.getElem_cons_zero, List.getElem_cons_succ, Act.put, List.setIfInBounds_toArray, List.set_cons_zero, List.set_cons_succ]
      refine wpAnyE_take (i := 1) (v := ?_) (VS.stays w _) (fun _ h => h) rfl (by kernel_rfl) (by kernel_rfl) (by kernel_rfl) (by kernel_rfl) (fun _ _ _ h => h) (SteadyB.of_yields (Or.inl ⟨by rfl, ?_⟩)) ?_
      rotate_left
      · intro wq hSw
        obtain ⟨c0, c1, c2, c3, c4, c5, c6, c7, c8, c9⟩ := Rq.at r (hSw.cs 0 rfl)
        go_simp
        (try with_reducible rfl)
      try simp only [List.getElem_toArray, List.getElem_cons_zero, List.getElem_cons_succ, Act.put, List.setIfInBounds_toArray, List.set_cons_zero, List.set_cons_succ]
      refine wpAnyE_take (i := 2) (v := .bool true) (VS.stays w _) (fun _ h => h) rfl (by kernel_rfl) (by kernel_rfl) (by kernel_rfl) (by kernel_rfl) (fun _ _ _ h => h) (Or.inl ⟨by rfl, fun wq hSw => ?_⟩) ?_
      · refine RunB.of_calls ((Item.right r.a wq).mono (by rintro e w' ⟨rfl, hb⟩; exact ⟨by rw [H1.out], hb⟩ : ∀ e w', Ans (.bool (It.right r.a)) wq e w' → Ans (.bool true) wq e w')) (by go_simp) ?_
        rintro e wr ⟨rfl, hb⟩
        exact ⟨rfl, hb⟩
      try simp only [List.getElem_toArray, List.getElem_cons_zero, List.getElem_cons_succ, Act.put, List.setIfInBounds_toArray, List.set_cons_zero, List.set_cons_succ]
      refine wpAnyE_take (i := 3) (v := ?_) (VS.stays w _) (fun _ h => h) rfl (by kernel_rfl) (by kernel_rfl) (by kernel_rfl) (by kernel_rfl) (fun _ _ _ h => h) (SteadyB.of_yields (Or.inl ⟨by rfl, ?_⟩)) ?_
      rotate_left
      · intro wq hSw
        go_simp
        (try with_reducible rfl)
      try simp only [List.getElem_toArray, List.getElem_cons_zero, List.getElem_cons_succ, Act.put, List.setIfInBounds_toArray, List.set_cons_zero, List.set_cons_succ]
      refine wpAnyE_take (i := 4) (v := ?_) (VS.stays w _) (fun _ h => h) rfl (by kernel_rfl) (by kernel_rfl) (by kernel_rfl) (by kernel_rfl) (fun _ _ _ h => h) (SteadyB.of_yields (Or.inl ⟨by rfl, ?_⟩)) ?_
      rotate_left
      · intro wq hSw
        go_simp
        (try with_reducible rfl)
      try simp only [List.getElem_toArray, List.getElem_cons_zero, List.getElem_cons_succ, Act.put, List.setIfInBounds_toArray, List.set_cons_zero, List.set_cons_succ]
      refine wpAnyE_take (i := 5) (v := ?_) (VS.stays w _) (fun _ h => h) rfl (by kernel_rfl) (by kernel_rfl) (by kernel_rfl) (by kernel_rfl) (fun _ _ _ h => h) (SteadyB.of_yields (Or.inl ⟨by rfl, ?_⟩)) ?_
      rotate_left
      · intro wq hSw
        obtain ⟨c0, c1, c2, c3, c4, c5, c6, c7, c8, c9⟩ := Rq.at r (hSw.cs 0 rfl)
        go_simp
        (try with_reducible rfl)
      try simp only [List.getElem_toArray, List.getElem_cons_zero, List.getElem_cons_succ, Act.put, List.setIfInBounds_toArray, List.set_cons_zero, List.set_cons_succ]
      refine wpAnyE_take (i := 6) (v := .bool false) (VS.stays w _) (fun _ h => h) rfl (by kernel_rfl) (by kernel_rfl) (by kernel_rfl) (by kernel_rfl) (fun _ _ _ h => h) (Or.inl ⟨by rfl, fun wq hSw => ?_⟩) ?_
      · refine RunB.of_calls ((Req.slice r.l wq).mono (by rintro e w' ⟨rfl, hb⟩; exact ⟨by rw [H2.out], hb⟩ : ∀ e w', Ans (.bool (slI r.l)) wq e w' → Ans (.bool false) wq e w')) (by go_simp) ?_
        rintro e wr ⟨rfl, hb⟩
        exact ⟨rfl, hb⟩
      try simp only [List.getElem_toArray, List.getElem_cons_zero, List.getElem_cons_succ, Act.put, List.setIfInBounds_toArray, List.set_cons_zero, List.set_cons_succ]
      refine wpAnyE_take (i := 7) (v := ?_) (VS.stays w _) (fun _ h => h) rfl (by kernel_rfl) (by kernel_rfl) (by kernel_rfl) (by kernel_rfl) (fun _ _ _ h => h) (SteadyB.of_yields (Or.inl ⟨by rfl, ?_⟩)) ?_
      rotate_left
      · intro wq hSw
        go_simp
        (try with_reducible rfl)
      try simp only [List.getElem_toArray, List.getElem_cons_zero, List.getElem_cons_succ, Act.put, List.setIfInBounds_toArray, List.set_cons_zero, List.set_cons_succ]
      refine wpAnyE_take (i := 8) (v := ?_) (VS.stays w _) (fun _ h => h) rfl (by kernel_rfl) (by kernel_rfl) (by kernel_rfl) (by kernel_rfl) (fun _ _ _ h => h) (SteadyB.of_yields (Or.inl ⟨by rfl, ?_⟩)) ?_
      rotate_left
      · intro wq hSw
        go_simp
        (try with_reducible rfl)
      try simp only [List.getElem_toArray, List.getElem_cons_zero, List.getElem_cons_succ, Act.put, List.setIfInBounds_toArray, List.set_cons_zero, List.set_cons_succ]
      refine wpAnyE_take (i := 9) (v := undef) (VS.stays w _) (fun _ h => h) rfl (by kernel_rfl) (by kernel_rfl) (by kernel_rfl) (by kernel_rfl) (fun _ _ _ h => h) (Or.inr ⟨by rfl, rfl⟩) ?_
      try simp only [List.getElem_toArray, List.getElem_cons_zero, List.getElem_cons_succ, Act.put, List.setIfInBounds_toArray, List.set_cons_zero, List.set_cons_succ]
      refine wpAnyE_take (i := 10) (v := undef) (VS.stays w _) (fun _ h => h) rfl (by kernel_rfl) (by kernel_rfl) (by kernel_rfl) (by kernel_rfl) (fun _ _ _ h => h) (Or.inr ⟨by rfl, rfl⟩) ?_
      try simp only [List.getElem_toArray, List.getElem_cons_zero, List.getElem_cons_succ, Act.put, List.setIfInBounds_toArray, List.set_cons_zero, List.set_cons_succ]
      refine wpAnyE_take (i := 11) (v := undef) (VS.stays w _) (fun _ h => h) rfl (by kernel_rfl) (by kernel_rfl) (by kernel_rfl) (by kernel_rfl) (fun _ _ _ h => h) (Or.inr ⟨by rfl, rfl⟩) ?_
      try simp only [List.getElem_toArray, List.getElem_cons_zero, List.getElem_cons_succ, Act.put, List.setIfInBounds_toArray, List.set_cons_zero, List.set_cons_succ]
      refine wpAnyE_take (i := 12) (v := ?_) (VS.stays w _) (fun _ h => h) rfl (by kernel_rfl) (by kernel_rfl) (by kernel_rfl) (by kernel_rfl) (fun _ _ _ h => h) (SteadyB.of_yields (Or.inl ⟨by rfl, ?_⟩)) ?_
      rotate_left
      · intro wq hSw
        go_simp
        (try with_reducible rfl)
      try simp only [List.getElem_toArray, List.getElem_cons_zero, List.getElem_cons_succ, Act.put, List.setIfInBounds_toArray, List.set_cons_zero, List.set_cons_succ]
      refine wpAnyE_take (i := 13) (v := ?_) (VS.stays w _) (fun _ h => h) rfl (by kernel_rfl) (by kernel_rfl) (by kernel_rfl) (by kernel_rfl) (fun _ _ _ h => h) (SteadyB.of_yields (Or.inl ⟨by rfl, ?_⟩)) ?_
      rotate_left
      · intro wq hSw
        go_simp
        (try with_reducible rfl)
      try simp only [List.getElem_toArray, List.getElem_cons_zero, List.getElem_cons_succ, Act.put, List.setIfInBounds_toArray, List.set_cons_zero, List.set_cons_succ]
      refine wpAnyE_take (i := 14) (v := undef) (VS.stays w _) (fun _ h => h) rfl (by kernel_rfl) (by kernel_rfl) (by kernel_rfl) (by kernel_rfl) (fun _ _ _ h => h) (Or.inr ⟨by rfl, rfl⟩) ?_
      try simp only [List.getElem_toArray, List.getElem_cons_zero, List.getElem_cons_succ, Act.put, List.setIfInBounds_toArray, List.set_cons_zero, List.set_cons_succ]
      refine wpAnyE_take (i := 15) (v := undef) (VS.stays w _) (fun _ h => h) rfl (by kernel_rfl) (by kernel_rfl) (by kernel_rfl) (by kernel_rfl) (fun _ _ _ h => h) (Or.inr ⟨by rfl, rfl⟩) ?_
      try simp only [List.getElem_toArray, List.getElem_cons_zero, List.getElem_cons_succ, Act.put, List.setIfInBounds_toArray, List.set_cons_zero, List.set_cons_succ]
      refine wpAnyE_take (i := 16) (v := undef) (VS.stays w _) (fun _ h => h) rfl (by kernel_rfl) (by kernel_rfl) (by kernel_rfl) (by kernel_rfl) (fun _ _ _ h => h) (Or.inr ⟨by rfl, rfl⟩) ?_
      try simp only [List.getElem_toArray, List.getElem_cons_zero, List.getElem_cons_succ, Act.put, List.setIfInBounds_toArray, List.set_cons_zero, List.set_cons_succ]
      refine wpAnyE_take (i := 17) (v := undef) (VS.stays w _) (fun _ h => h) rfl (by kernel_rfl) (by kernel_rfl) (by kernel_rfl) (by kernel_rfl) (fun _ _ _ h => h) (Or.inr ⟨by rfl, rfl⟩) ?_
      try simp only [List.getElem_toArray, List.getElem_cons_zero, List.getElem_cons_succ, Act.put, List.setIfInBounds_toArray, List.set_cons_zero, List.set_cons_succ]
      refine wpAnyE_take (i := 18) (v := undef) (VS.stays w _) (fun _ h => h) rfl (by kernel_rfl) (by kernel_rfl) (by kernel_rfl) (by kernel_rfl) (fun _ _ _ h => h) (Or.inr ⟨by rfl, rfl⟩) ?_
      try simp only [List.getElem_toArray, List.getElem_cons_zero, List.getElem_cons_succ, Act.put, List.setIfInBounds_toArray, List.set_cons_zero, List.set_cons_succ]
      refine wpAnyE_take (i := 19) (v := undef) (VS.stays w _) (fun _ h => h) rfl (by kernel_rfl) (by kernel_rfl) (by kernel_rfl) (by kernel_rfl) (fun _ _ _ h => h) (Or.inr ⟨by rfl, rfl⟩) ?_
      try simp only [List.getElem_toArray, List.getElem_cons_zero, List.getElem_cons_succ, Act.put, List.setIfInBounds_toArray, List.set_cons_zero, List.set_cons_succ]
      refine wpAnyE_take (i := 20) (v := ?_) (VS.stays w _) (fun _ h => h) rfl (by kernel_rfl) (by kernel_rfl) (by kernel_rfl) (by kernel_rfl) (fun _ _ _ h => h) (SteadyB.of_yields (Or.inl ⟨by rfl, ?_⟩)) ?_
      rotate_left
      · intro wq hSw
        go_simp
        (try with_reducible rfl)
      try simp only [List.getElem_toArray, List.getElem_cons_zero, List.getElem_cons_succ, Act.put, List.setIfInBounds_toArray, List.set_cons_zero, List.set_cons_succ]
      refine wpAnyE_take (i := 21) (v := ?_) (VS.stays w _) (fun _ h => h) rfl (by kernel_rfl) (by kernel_rfl) (by kernel_rfl) (by kernel_rfl) (fun _ _ _ h => h) (SteadyB.of_yields (Or.inl ⟨by rfl, ?_⟩)) ?_
      rotate_left
      · intro wq hSw
        go_simp
        (try with_reducible rfl)
      try simp only [List.getElem_toArray, List.getElem_cons_zero, List.getElem_cons_succ, Act.put, List.setIfInBounds_toArray, List.set_cons_zero, List.set_cons_succ]
      refine wpAnyE_done (by kernel_rfl) (fun wz hSz => ?_) _
      go_wp2_with fail
      go_ret
      exact ⟨rfl, hSz.bel⟩
    | true =>
      cases h3 : slI r.s with
      | false =>
        have H1 := hid h1
        have H2 := hid h2
        have H3 := hid h3
        clear h1 h2 h3
        have HE : Hid (r.right = false) := hid (by unfold Rq.right; rw [H1.out, H2.out, H3.out]; rfl)
        rw [HE.out]
        have HV0 : Hid (VS w [(w.heap.size, r.cells)] (w.alloc (.cells #[.int .u64 r.a.t, .int .u32 r.a.r, .int .u32 r.a.v, .int .i64 r.a.i, .int .u64 r.a.u, .int .u32 r.a.s, .int .u32 r.a.y, .int .u64 r.l, .int .u64 r.s, .bool r.z] 162))) := hid (by have h := ((VS.nil w).new 162 r.cells); (try simp only [World.size_alloc] at h); exact h)
        go_enter Tryz.func148, Tryz.ntmps148
        go_wp2_with fail
        generalize (w.alloc (.cells #[.int .u64 r.a.t, .int .u32 r.a.r, .int .u32 r.a.v, .int .i64 r.a.i, .int .u64 r.a.u, .int .u32 r.a.s, .int .u32 r.a.y, .int .u64 r.l, .int .u64 r.s, .bool r.z] 162)) = W0 at HV0 ⊢
        refine wp_region_grow (S := VS w [(w.heap.size, r.cells)]) 22 (by kernel_rfl) (HV0.out.below (Below.refl _ _).drew) ?_
        refine wpAnyE_take (i := 0) (v := ?_) (VS.stays w _) (fun _ h => h) rfl (by kernel_rfl) (by kernel_rfl) (by kernel_rfl) (by kernel_rfl) (fun _ _ _ h => h) (SteadyB.of_yields (Or.inl ⟨by rfl, ?_⟩)) ?_
        rotate_left
        · intro wq hSw
          go_simp
          (try with_reducible rfl)
        try simp only [List.getElem_toArray, List.getElem_cons_zero, List.getElem_cons_succ, Act.put, List.setIfInBounds_toArray, List.set_cons_zero, List.set_cons_succ]
        refine wpAnyE_take (i := 1) (v := ?_) (VS.stays w _) (fun _ h => h) rfl (by kernel_rfl) (by kernel_rfl) (by kernel_rfl) (by kernel_rfl) (fun _ _ _ h => h) (SteadyB.of_yields (Or.inl ⟨by rfl, ?_⟩)) ?_
        rotate_left
        · intro wq hSw
          obtain ⟨c0, c1, c2, c3, c4, c5, c6, c7, c8, c9⟩ := Rq.at r (hSw.cs 0 rfl)
          go_simp
          (try with_reducible rfl)
        try simp only [List.getElem_toArray, List.getElem_cons_zero, List.getElem_cons_succ, Act.put, List.setIfInBounds_toArray, List.set_cons_zero, List.set_cons_succ]
        refine wpAnyE_take (i := 2) (v := .bool true) (VS.stays w _) (fun _ h => h) rfl (by kernel_rfl) (by kernel_rfl) (by kernel_rfl) (by kernel_rfl) (fun _ _ _ h => h) (Or.inl ⟨by rfl, fun wq hSw => ?_⟩) ?_
        · refine RunB.of_calls ((Item.right r.a wq).mono (by rintro e w' ⟨rfl, hb⟩; exact ⟨by rw [H1.out], hb⟩ : ∀ e w', Ans (.bool (It.right r.a)) wq e w' → Ans (.bool true) wq e w')) (by go_simp) ?_
          rintro e wr ⟨rfl, hb⟩
          exact ⟨rfl, hb⟩
        try simp only [List.getElem_toArray, List.getElem_cons_zero, List.getElem_cons_succ, Act.put, List.setIfInBounds_toArray, List.set_cons_zero, List.set_cons_succ]
        refine wpAnyE_take (i := 3) (v := ?_) (VS.stays w _) (fun _ h => h) rfl (by kernel_rfl) (by kernel_rfl) (by kernel_rfl) (by kernel_rfl) (fun _ _ _ h => h) (SteadyB.of_yields (Or.inl ⟨by rfl, ?_⟩)) ?_
        rotate_left
        · intro wq hSw
          go_simp
          (try with_reducible rfl)
        try simp only [List.getElem_toArray, List.getElem_cons_zero, List.getElem_cons_succ, Act.put, List.setIfInBounds_toArray, List.set_cons_zero, List.set_cons_succ]
        refine wpAnyE_take (i := 4) (v := ?_) (VS.stays w _) (fun _ h => h) rfl (by kernel_rfl) (by kernel_rfl) (by kernel_rfl) (by kernel_rfl) (fun _ _ _ h => h) (SteadyB.of_yields (Or.inl ⟨by rfl, ?_⟩)) ?_
        rotate_left
        · intro wq hSw
          go_simp
          (try with_reducible rfl)
        try simp only [List.getElem_toArray, List.getElem_cons_zero, List.getElem_cons_succ, Act.put, List.setIfInBounds_toArray, List.set_cons_zero, List.set_cons_succ]
        refine wpAnyE_take (i := 5) (v := ?_) (VS.stays w _) (fun _ h => h) rfl (by kernel_rfl) (by kernel_rfl) (by kernel_rfl) (by kernel_rfl) (fun _ _ _ h => h) (SteadyB.of_yields (Or.inl ⟨by rfl, ?_⟩)) ?_
        rotate_left
        · intro wq hSw
          obtain ⟨c0, c1, c2, c3, c4, c5, c6, c7, c8, c9⟩ := Rq.at r (hSw.cs 0 rfl)
          go_simp
          (try with_reducible rfl)
        try simp only [List.getElem_toArray, List.getElem_cons_zero, List.getElem_cons_succ, Act.put, List.setIfInBounds_toArray, List.set_cons_zero, List.set_cons_succ]
        refine wpAnyE_take (i := 6) (v := .bool true) (VS.stays w _) (fun _ h => h) rfl (by kernel_rfl) (by kernel_rfl) (by kernel_rfl) (by kernel_rfl) (fun _ _ _ h => h) (Or.inl ⟨by rfl, fun wq hSw => ?_⟩) ?_
        · refine RunB.of_calls ((Req.slice r.l wq).mono (by rintro e w' ⟨rfl, hb⟩; exact ⟨by rw [H2.out], hb⟩ : ∀ e w', Ans (.bool (slI r.l)) wq e w' → Ans (.bool true) wq e w')) (by go_simp) ?_
          rintro e wr ⟨rfl, hb⟩
          exact ⟨rfl, hb⟩
        try simp only [List.getElem_toArray, List.getElem_cons_zero, List.getElem_cons_succ, Act.put, List.setIfInBounds_toArray, List.set_cons_zero, List.set_cons_succ]
        refine wpAnyE_take (i := 7) (v := ?_) (VS.stays w _) (fun _ h => h) rfl (by kernel_rfl) (by kernel_rfl) (by kernel_rfl) (by kernel_rfl) (fun _ _ _ h => h) (SteadyB.of_yields (Or.inl ⟨by rfl, ?_⟩)) ?_
        rotate_left
        · intro wq hSw
          go_simp
          (try with_reducible rfl)
        try simp only [List.getElem_toArray, List.getElem_cons_zero, List.getElem_cons_succ, Act.put, List.setIfInBounds_toArray, List.set_cons_zero, List.set_cons_succ]
        refine wpAnyE_take (i := 8) (v := ?_) (VS.stays w _) (fun _ h => h) rfl (by kernel_rfl) (by kernel_rfl) (by kernel_rfl) (by kernel_rfl) (fun _ _ _ h => h) (SteadyB.of_yields (Or.inl ⟨by rfl, ?_⟩)) ?_
        rotate_left
        · intro wq hSw
          go_simp
          (try with_reducible rfl)
        try simp only [List.getElem_toArray, List.getElem_cons_zero, List.getElem_cons_succ, Act.put, List.setIfInBounds_toArray, List.set_cons_zero, List.set_cons_succ]
        refine wpAnyE_take (i := 9) (v := ?_) (VS.stays w _) (fun _ h => h) rfl (by kernel_rfl) (by kernel_rfl) (by kernel_rfl) (by kernel_rfl) (fun _ _ _ h => h) (SteadyB.of_yields (Or.inl ⟨by rfl, ?_⟩)) ?_
        rotate_left
        · intro wq hSw
          go_simp
          (try with_reducible rfl)
        try simp only [List.getElem_toArray, List.getElem_cons_zero, List.getElem_cons_succ, Act.put, List.setIfInBounds_toArray, List.set_cons_zero, List.set_cons_succ]
        refine wpAnyE_take (i := 10) (v := ?_) (VS.stays w _) (fun _ h => h) rfl (by kernel_rfl) (by kernel_rfl) (by kernel_rfl) (by kernel_rfl) (fun _ _ _ h => h) (SteadyB.of_yields (Or.inl ⟨by rfl, ?_⟩)) ?_
        rotate_left
        · intro wq hSw
          obtain ⟨c0, c1, c2, c3, c4, c5, c6, c7, c8, c9⟩ := Rq.at r (hSw.cs 0 rfl)
          go_simp
          (try with_reducible rfl)
        try simp only [List.getElem_toArray, List.getElem_cons_zero, List.getElem_cons_succ, Act.put, List.setIfInBounds_toArray, List.set_cons_zero, List.set_cons_succ]
        refine wpAnyE_take (i := 11) (v := .bool false) (VS.stays w _) (fun _ h => h) rfl (by kernel_rfl) (by kernel_rfl) (by kernel_rfl) (by kernel_rfl) (fun _ _ _ h => h) (Or.inl ⟨by rfl, fun wq hSw => ?_⟩) ?_
        · refine RunB.of_calls ((Req.slice r.s wq).mono (by rintro e w' ⟨rfl, hb⟩; exact ⟨by rw [H3.out], hb⟩ : ∀ e w', Ans (.bool (slI r.s)) wq e w' → Ans (.bool false) wq e w')) (by go_simp) ?_
          rintro e wr ⟨rfl, hb⟩
          exact ⟨rfl, hb⟩
        try simp only [List.getElem_toArray, List.getElem_cons_zero, List.getElem_cons_succ, Act.put, List.setIfInBounds_toArray, List.set_cons_zero, List.set_cons_succ]
        refine wpAnyE_take (i := 12) (v := ?_) (VS.stays w _) (fun _ h => h) rfl (by kernel_rfl) (by kernel_rfl) (by kernel_rfl) (by kernel_rfl) (fun _ _ _ h => h) (SteadyB.of_yields (Or.inl ⟨by rfl, ?_⟩)) ?_
        rotate_left
        · intro wq hSw
          go_simp
          (try with_reducible rfl)
        try simp only [List.getElem_toArray, List.getElem_cons_zero, List.getElem_cons_succ, Act.put, List.setIfInBounds_toArray, List.set_cons_zero, List.set_cons_succ]
        refine wpAnyE_take (i := 13) (v := ?_) (VS.stays w _) (fun _ h => h) rfl (by kernel_rfl) (by kernel_rfl) (by kernel_rfl) (by kernel_rfl) (fun _ _ _ h => h) (SteadyB.of_yields (Or.inl ⟨by rfl, ?_⟩)) ?_
        rotate_left
        · intro wq hSw
          go_simp
          (try with_reducible rfl)
        try simp only [List.getElem_toArray, List.getElem_cons_zero, List.getElem_cons_succ, Act.put, List.setIfInBounds_toArray, List.set_cons_zero, List.set_cons_succ]
        refine wpAnyE_take (i := 14) (v := undef) (VS.stays w _) (fun _ h => h) rfl (by kernel_rfl) (by kernel_rfl) (by kernel_rfl) (by kernel_rfl) (fun _ _ _ h => h) (Or.inr ⟨by rfl, rfl⟩) ?_
        try simp only [List.getElem_toArray, List.getElem_cons_zero, List.getElem_cons_succ, Act.put, List.setIfInBounds_toArray, List.set_cons_zero, List.set_cons_succ]
        refine wpAnyE_take (i := 15) (v := undef) (VS.stays w _) (fun _ h => h) rfl (by kernel_rfl) (by kernel_rfl) (by kernel_rfl) (by kernel_rfl) (fun _ _ _ h => h) (Or.inr ⟨by rfl, rfl⟩) ?_
        try simp only [List.getElem_toArray, List.getElem_cons_zero, List.getElem_cons_succ, Act.put, List.setIfInBounds_toArray, List.set_cons_zero, List.set_cons_succ]
        refine wpAnyE_take (i := 16) (v := undef) (VS.stays w _) (fun _ h => h) rfl (by kernel_rfl) (by kernel_rfl) (by kernel_rfl) (by kernel_rfl) (fun _ _ _ h => h) (Or.inr ⟨by rfl, rfl⟩) ?_
        try simp only [List.getElem_toArray, List.getElem_cons_zero, List.getElem_cons_succ, Act.put, List.setIfInBounds_toArray, List.set_cons_zero, List.set_cons_succ]
        refine wpAnyE_take (i := 17) (v := undef) (VS.stays w _) (fun _ h => h) rfl (by kernel_rfl) (by kernel_rfl) (by kernel_rfl) (by kernel_rfl) (fun _ _ _ h => h) (Or.inr ⟨by rfl, rfl⟩) ?_
        try simp only [List.getElem_toArray, List.getElem_cons_zero, List.getElem_cons_succ, Act.put, List.setIfInBounds_toArray, List.set_cons_zero, List.set_cons_succ]
        refine wpAnyE_take (i := 18) (v := undef) (VS.stays w _) (fun _ h => h) rfl (by kernel_rfl) (by kernel_rfl) (by kernel_rfl) (by kernel_rfl) (fun _ _ _ h => h) (Or.inr ⟨by rfl, rfl⟩) ?_
        try simp only [List.getElem_toArray, List.getElem_cons_zero, List.getElem_cons_succ, Act.put, List.setIfInBounds_toArray, List.set_cons_zero, List.set_cons_succ]
        refine wpAnyE_take (i := 19) (v := undef) (VS.stays w _) (fun _ h => h) rfl (by kernel_rfl) (by kernel_rfl) (by kernel_rfl) (by kernel_rfl) (fun _ _ _ h => h) (Or.inr ⟨by rfl, rfl⟩) ?_
        try simp only [List.getElem_toArray, List.getElem_cons_zero, List.getElem_cons_succ, Act.put, List.setIfInBounds_toArray, List.set_cons_zero, List.set_cons_succ]
        refine wpAnyE_take (i := 20) (v := ?_) (VS.stays w _) (fun _ h => h) rfl (by kernel_rfl) (by kernel_rfl) (by kernel_rfl) (by kernel_rfl) (fun _ _ _ h => h) (SteadyB.of_yields (Or.inl ⟨by rfl, ?_⟩)) ?_
        rotate_left
        · intro wq hSw
          go_simp
          (try with_reducible rfl)
        try simp only [List.getElem_toArray, List.getElem_cons_zero, List.getElem_cons_succ, Act.put, List.setIfInBounds_toArray, List.set_cons_zero, List.set_cons_succ]
        refine wpAnyE_take (i := 21) (v := ?_) (VS.stays w _) (fun _ h => h) rfl (by kernel_rfl) (by kernel_rfl) (by kernel_rfl) (by kernel_rfl) (fun _ _ _ h => h) (SteadyB.of_yields (Or.inl ⟨by rfl, ?_⟩)) ?_
        rotate_left
        · intro wq hSw
          go_simp
          (try with_reducible rfl)
        try simp only [List.getElem_toArray, List.getElem_cons_zero, List.getElem_cons_succ, Act.put, List.setIfInBounds_toArray, List.set_cons_zero, List.set_cons_succ]
        refine wpAnyE_done (by kernel_rfl) (fun wz hSz => ?_) _
        go_wp2_with fail
        go_ret
        exact ⟨rfl, hSz.bel⟩
      | true =>
        have H1 := hid h1
        have H2 := hid h2
        have H3 := hid h3
        clear h1 h2 h3
        have HE : Hid (r.right = (r.a.u == r.due.1 && r.a.s == r.due.2.1 && r.a.y == r.due.2.2)) := hid (by unfold Rq.right; rw [H1.out, H2.out, H3.out]; rfl)
        rw [HE.out]
        have HV0 : Hid (VS w [(w.heap.size, r.cells)] (w.alloc (.cells #[.int .u64 r.a.t, .int .u32 r.a.r, .int .u32 r.a.v, .int .i64 r.a.i, .int .u64 r.a.u, .int .u32 r.a.s, .int .u32 r.a.y, .int .u64 r.l, .int .u64 r.s, .bool r.z] 162))) := hid (by have h := ((VS.nil w).new 162 r.cells); (try simp only [World.size_alloc] at h); exact h)
        go_enter Tryz.func148, Tryz.ntmps148
        go_wp2_with fail
        generalize (w.alloc (.cells #[.int .u64 r.a.t, .int .u32 r.a.r, .int .u32 r.a.v, .int .i64 r.a.i, .int .u64 r.a.u, .int .u32 r.a.s, .int .u32 r.a.y, .int .u64 r.l, .int .u64 r.s, .bool r.z] 162)) = W0 at HV0 ⊢
        refine wp_region_grow (S := VS w [(w.heap.size, r.cells)]) 22 (by kernel_rfl) (HV0.out.below (Below.refl _ _).drew) ?_
        refine wpAnyE_take (i := 0) (v := ?_) (VS.stays w _) (fun _ h => h) rfl (by kernel_rfl) (by kernel_rfl) (by kernel_rfl) (by kernel_rfl) (fun _ _ _ h => h) (SteadyB.of_yields (Or.inl ⟨by rfl, ?_⟩)) ?_
        rotate_left
        · intro wq hSw
          go_simp
          (try with_reducible rfl)
        try simp only [List.getElem_toArray, List.getElem_cons_zero, List.getElem_cons_succ, Act.put, List.setIfInBounds_toArray, List.set_cons_zero, List.set_cons_succ]
        refine wpAnyE_take (i := 1) (v := ?_) (VS.stays w _) (fun _ h => h) rfl (by kernel_rfl) (by kernel_rfl) (by kernel_rfl) (by kernel_rfl) (fun _ _ _ h => h) (SteadyB.of_yields (Or.inl ⟨by rfl, ?_⟩)) ?_
        rotate_left
        · intro wq hSw
          obtain ⟨c0, c1, c2, c3, c4, c5, c6, c7, c8, c9⟩ := Rq.at r (hSw.cs 0 rfl)
          go_simp
          (try with_reducible rfl)
        try simp only [List.getElem_toArray, List.getElem_cons_zero, List.getElem_cons_succ, Act.put, List.setIfInBounds_toArray, List.set_cons_zero, List.set_cons_succ]
        refine wpAnyE_take (i := 2) (v := .bool true) (VS.stays w _) (fun _ h => h) rfl (by kernel_rfl) (by kernel_rfl) (by kernel_rfl) (by kernel_rfl) (fun _ _ _ h => h) (Or.inl ⟨by rfl, fun wq hSw => ?_⟩) ?_
        · refine RunB.of_calls ((Item.right r.a wq).mono (by rintro e w' ⟨rfl, hb⟩; exact ⟨by rw [H1.out], hb⟩ : ∀ e w', Ans (.bool (It.right r.a)) wq e w' → Ans (.bool true) wq e w')) (by go_simp) ?_
          rintro e wr ⟨rfl, hb⟩
          exact ⟨rfl, hb⟩
        try simp only [List.getElem_toArray, List.getElem_cons_zero, List.getElem_cons_succ, Act.put, List.setIfInBounds_toArray, List.set_cons_zero, List.set_cons_succ]
        refine wpAnyE_take (i := 3) (v := ?_) (VS.stays w _) (fun _ h => h) rfl (by kernel_rfl) (by kernel_rfl) (by kernel_rfl) (by kernel_rfl) (fun _ _ _ h => h) (SteadyB.of_yields (Or.inl ⟨by rfl, ?_⟩)) ?_
        rotate_left
        · intro wq hSw
          go_simp
          (try with_reducible rfl)
        try simp only [List.getElem_toArray, List.getElem_cons_zero, List.getElem_cons_succ, Act.put, List.setIfInBounds_toArray, List.set_cons_zero, List.set_cons_succ]
        refine wpAnyE_take (i := 4) (v := ?_) (VS.stays w _) (fun _ h => h) rfl (by kernel_rfl) (by kernel_rfl) (by kernel_rfl) (by kernel_rfl) (fun _ _ _ h => h) (SteadyB.of_yields (Or.inl ⟨by rfl, ?_⟩)) ?_
        rotate_left
        · intro wq hSw
          go_simp
          (try with_reducible rfl)
        try simp only [List.getElem_toArray, List.getElem_cons_zero, List.getElem_cons_succ, Act.put, List.setIfInBounds_toArray, List.set_cons_zero, List.set_cons_succ]
        refine wpAnyE_take (i := 5) (v := ?_) (VS.stays w _) (fun _ h => h) rfl (by kernel_rfl) (by kernel_rfl) (by kernel_rfl) (by kernel_rfl) (fun _ _ _ h => h) (SteadyB.of_yields (Or.inl ⟨by rfl, ?_⟩)) ?_
        rotate_left
        · intro wq hSw
          obtain ⟨c0, c1, c2, c3, c4, c5, c6, c7, c8, c9⟩ := Rq.at r (hSw.cs 0 rfl)
          go_simp
          (try with_reducible rfl)
        try simp only [List.getElem_toArray, List.getElem_cons_zero, List.getElem_cons_succ, Act.put, List.setIfInBounds_toArray, List.set_cons_zero, List.set_cons_succ]
        refine wpAnyE_take (i := 6) (v := .bool true) (VS.stays w _) (fun _ h => h) rfl (by kernel_rfl) (by kernel_rfl) (by kernel_rfl) (by kernel_rfl) (fun _ _ _ h => h) (Or.inl ⟨by rfl, fun wq hSw => ?_⟩) ?_
        · refine RunB.of_calls ((Req.slice r.l wq).mono (by rintro e w' ⟨rfl, hb⟩; exact ⟨by rw [H2.out], hb⟩ : ∀ e w', Ans (.bool (slI r.l)) wq e w' → Ans (.bool true) wq e w')) (by go_simp) ?_
          rintro e wr ⟨rfl, hb⟩
          exact ⟨rfl, hb⟩
        try simp only [List.getElem_toArray, List.getElem_cons_zero, List.getElem_cons_succ, Act.put, List.setIfInBounds_toArray, List.set_cons_zero, List.set_cons_succ]
        refine wpAnyE_take (i := 7) (v := ?_) (VS.stays w _) (fun _ h => h) rfl (by kernel_rfl) (by kernel_rfl) (by kernel_rfl) (by kernel_rfl) (fun _ _ _ h => h) (SteadyB.of_yields (Or.inl ⟨by rfl, ?_⟩)) ?_
        rotate_left
        · intro wq hSw
          go_simp
          (try with_reducible rfl)
        try simp only [List.getElem_toArray, List.getElem_cons_zero, List.getElem_cons_succ, Act.put, List.setIfInBounds_toArray, List.set_cons_zero, List.set_cons_succ]
        refine wpAnyE_take (i := 8) (v := ?_) (VS.stays w _) (fun _ h => h) rfl (by kernel_rfl) (by kernel_rfl) (by kernel_rfl) (by kernel_rfl) (fun _ _ _ h => h) (SteadyB.of_yields (Or.inl ⟨by rfl, ?_⟩)) ?_
        rotate_left
        · intro wq hSw
          go_simp
          (try with_reducible rfl)
        try simp only [List.getElem_toArray, List.getElem_cons_zero, List.getElem_cons_succ, Act.put, List.setIfInBounds_toArray, List.set_cons_zero, List.set_cons_succ]
        refine wpAnyE_take (i := 9) (v := ?_) (VS.stays w _) (fun _ h => h) rfl (by kernel_rfl) (by kernel_rfl) (by kernel_rfl) (by kernel_rfl) (fun _ _ _ h => h) (SteadyB.of_yields (Or.inl ⟨by rfl, ?_⟩)) ?_
        rotate_left
        · intro wq hSw
          go_simp
          (try with_reducible rfl)
        try simp only [List.getElem_toArray, List.getElem_cons_zero, List.getElem_cons_succ, Act.put, List.setIfInBounds_toArray, List.set_cons_zero, List.set_cons_succ]
        refine wpAnyE_take (i := 10) (v := ?_) (VS.stays w _) (fun _ h => h) rfl (by kernel_rfl) (by kernel_rfl) (by kernel_rfl) (by kernel_rfl) (fun _ _ _ h => h) (SteadyB.of_yields (Or.inl ⟨by rfl, ?_⟩)) ?_
        rotate_left
        · intro wq hSw
          obtain ⟨c0, c1, c2, c3, c4, c5, c6, c7, c8, c9⟩ := Rq.at r (hSw.cs 0 rfl)
          go_simp
          (try with_reducible rfl)
        try simp only [List.getElem_toArray, List.getElem_cons_zero, List.getElem_cons_succ, Act.put, List.setIfInBounds_toArray, List.set_cons_zero, List.set_cons_succ]
        refine wpAnyE_take (i := 11) (v := .bool true) (VS.stays w _) (fun _ h => h) rfl (by kernel_rfl) (by kernel_rfl) (by kernel_rfl) (by kernel_rfl) (fun _ _ _ h => h) (Or.inl ⟨by rfl, fun wq hSw => ?_⟩) ?_
        · refine RunB.of_calls ((Req.slice r.s wq).mono (by rintro e w' ⟨rfl, hb⟩; exact ⟨by rw [H3.out], hb⟩ : ∀ e w', Ans (.bool (slI r.s)) wq e w' → Ans (.bool true) wq e w')) (by go_simp) ?_
          rintro e wr ⟨rfl, hb⟩
          exact ⟨rfl, hb⟩
        try simp only [List.getElem_toArray, List.getElem_cons_zero, List.getElem_cons_succ, Act.put, List.setIfInBounds_toArray, List.set_cons_zero, List.set_cons_succ]
        refine wpAnyE_take (i := 12) (v := ?_) (VS.stays w _) (fun _ h => h) rfl (by kernel_rfl) (by kernel_rfl) (by kernel_rfl) (by kernel_rfl) (fun _ _ _ h => h) (SteadyB.of_yields (Or.inl ⟨by rfl, ?_⟩)) ?_
        rotate_left
        · intro wq hSw
          go_simp
          (try with_reducible rfl)
        try simp only [List.getElem_toArray, List.getElem_cons_zero, List.getElem_cons_succ, Act.put, List.setIfInBounds_toArray, List.set_cons_zero, List.set_cons_succ]
        refine wpAnyE_take (i := 13) (v := ?_) (VS.stays w _) (fun _ h => h) rfl (by kernel_rfl) (by kernel_rfl) (by kernel_rfl) (by kernel_rfl) (fun _ _ _ h => h) (SteadyB.of_yields (Or.inl ⟨by rfl, ?_⟩)) ?_
        rotate_left
        · intro wq hSw
          go_simp
          (try with_reducible rfl)
        try simp only [List.getElem_toArray, List.getElem_cons_zero, List.getElem_cons_succ, Act.put, List.setIfInBounds_toArray, List.set_cons_zero, List.set_cons_succ]
        refine wpAnyE_take (i := 14) (v := ?_) (VS.stays w _) (fun _ h => h) rfl (by kernel_rfl) (by kernel_rfl) (by kernel_rfl) (by kernel_rfl) (fun _ _ _ h => h) (SteadyB.of_yields (Or.inl ⟨by rfl, ?_⟩)) ?_
        rotate_left
        · intro wq hSw
          go_simp
          (try with_reducible rfl)
        try simp only [List.getElem_toArray, List.getElem_cons_zero, List.getElem_cons_succ, Act.put, List.setIfInBounds_toArray, List.set_cons_zero, List.set_cons_succ]
        refine wpAnyE_take (i := 15) (v := ?_) (VS.stays w _) (fun _ h => h) rfl (by kernel_rfl) (by kernel_rfl) (by kernel_rfl) (by kernel_rfl) (fun _ _ _ h => h) (SteadyB.of_yields (Or.inl ⟨by rfl, ?_⟩)) ?_
        rotate_left
        · intro wq hSw
          go_simp
          (try with_reducible rfl)
        try simp only [List.getElem_toArray, List.getElem_cons_zero, List.getElem_cons_succ, Act.put, List.setIfInBounds_toArray, List.set_cons_zero, List.set_cons_succ]
        refine wpAnyE_take (i := 16) (v := ?_) (VS.stays w _) (fun _ h => h) rfl (by kernel_rfl) (by kernel_rfl) (by kernel_rfl) (by kernel_rfl) (fun _ _ _ h => h) (SteadyB.of_yields (Or.inl ⟨by rfl, ?_⟩)) ?_
        rotate_left
        · intro wq hSw
          obtain ⟨c0, c1, c2, c3, c4, c5, c6, c7, c8, c9⟩ := Rq.at r (hSw.cs 0 rfl)
          go_simp
          (try with_reducible rfl)
        try simp only [List.getElem_toArray, List.getElem_cons_zero, List.getElem_cons_succ, Act.put, List.setIfInBounds_toArray, List.set_cons_zero, List.set_cons_succ]
        refine wpAnyE_take (i := 17) (v := ?_) (VS.stays w _) (fun _ h => h) rfl (by kernel_rfl) (by kernel_rfl) (by kernel_rfl) (by kernel_rfl) (fun _ _ _ h => h) (SteadyB.of_yields (Or.inl ⟨by rfl, ?_⟩)) ?_
        rotate_left
        · intro wq hSw
          obtain ⟨c0, c1, c2, c3, c4, c5, c6, c7, c8, c9⟩ := Rq.at r (hSw.cs 0 rfl)
          go_simp
          (try with_reducible rfl)
        try simp only [List.getElem_toArray, List.getElem_cons_zero, List.getElem_cons_succ, Act.put, List.setIfInBounds_toArray, List.set_cons_zero, List.set_cons_succ]
        refine wpAnyE_take (i := 18) (v := pv r.due) (VS.stays w _) (fun _ h => h) rfl (by kernel_rfl) (by kernel_rfl) (by kernel_rfl) (by kernel_rfl) (fun _ _ _ h => h) (Or.inl ⟨by rfl, fun wq hSw => ?_⟩) ?_
        · refine RunB.of_calls (Req.due r HR.out wq) (by go_simp) ?_
          rintro e wr ⟨rfl, hb⟩
          exact ⟨rfl, hb⟩
        try simp only [List.getElem_toArray, List.getElem_cons_zero, List.getElem_cons_succ, Act.put, List.setIfInBounds_toArray, List.set_cons_zero, List.set_cons_succ]
        refine wpAnyE_take (i := 19) (v := .bool (r.a.u == r.due.1 && r.a.s == r.due.2.1 && r.a.y == r.due.2.2)) (VS.stays w _) (fun _ h => h) rfl (by kernel_rfl) (by kernel_rfl) (by kernel_rfl) (by kernel_rfl) (fun _ _ _ h => h) (SteadyB.of_yields (Or.inl ⟨by rfl, ?_⟩)) ?_
        · intro wq hSw
          go_simp
          by_cases q1 : r.a.u = r.due.1 <;> by_cases q2 : r.a.s = r.due.2.1 <;> by_cases q3 : r.a.y = r.due.2.2 <;> simp [q1, q2, q3]
        try simp only [List.getElem_toArray, List.getElem_cons_zero, List.getElem_cons_succ, Act.put, List.setIfInBounds_toArray, List.set_cons_zero, List.set_cons_succ]
        refine wpAnyE_take (i := 20) (v := ?_) (VS.stays w _) (fun _ h => h) rfl (by kernel_rfl) (by kernel_rfl) (by kernel_rfl) (by kernel_rfl) (fun _ _ _ h => h) (SteadyB.of_yields (Or.inl ⟨by rfl, ?_⟩)) ?_
        rotate_left
        · intro wq hSw
          go_simp
          (try with_reducible rfl)
        try simp only [List.getElem_toArray, List.getElem_cons_zero, List.getElem_cons_succ, Act.put, List.setIfInBounds_toArray, List.set_cons_zero, List.set_cons_succ]
        refine wpAnyE_take (i := 21) (v := ?_) (VS.stays w _) (fun _ h => h) rfl (by kernel_rfl) (by kernel_rfl) (by kernel_rfl) (by kernel_rfl) (fun _ _ _ h => h) (SteadyB.of_yields (Or.inl ⟨by rfl, ?_⟩)) ?_
        rotate_left
        · intro wq hSw
          go_simp
          (try with_reducible rfl)
        try simp only [List.getElem_toArray, List.getElem_cons_zero, List.getElem_cons_succ, Act.put, List.setIfInBounds_toArray, List.set_cons_zero, List.set_cons_succ]
        refine wpAnyE_done (by kernel_rfl) (fun wz hSz => ?_) _
        go_wp2_with fail
        go_ret
        exact ⟨rfl, hSz.bel⟩
end
end

/- The contracts of the package req: those that answer a request. -/
section
open Go.RowKit
set_option maxRecDepth 100000 in
set_option maxHeartbeats 8000000 in
theorem Req.whr (r : Rq) (hr : r.In) (w : World) : Calls Tryz.prog 153 #[r.val] w (Ans (.tuple #[Rq.val r.whr.1, .bool r.whr.2]) w) := by
  have HR := hid hr
  clear hr
  unfold Rq.whr
  cases h1 : r.right with
  | false =>
    rw [if_neg (by decide)]
    have H1 := hid h1
    clear h1
    unfold Rq.val
    have HV0 : Hid (VS w [(w.heap.size, r.cells), (w.heap.size + 1, Rq.no.cells)] ((w.alloc (.cells #[.int .u64 r.a.t, .int .u32 r.a.r, .int .u32 r.a.v, .int .i64 r.a.i, .int .u64 r.a.u, .int .u32 r.a.s, .int .u32 r.a.y, .int .u64 r.l, .int .u64 r.s, .bool r.z] 162)).alloc (.cells #[.int .u64 0, .int .u32 0, .int .u32 0, .int .i64 0, .int .u64 0, .int .u32 0, .int .u32 0, .int .u64 0, .int .u64 0, .bool false] 162))) := hid (by have h := (((VS.nil w).new 162 r.cells).new 162 Rq.no.cells); (try simp only [World.size_alloc] at h); exact h)
    go_enter Tryz.func153, Tryz.ntmps153
    go_wp2_with fail
    generalize ((w.alloc (.cells #[.int .u64 r.a.t, .int .u32 r.a.r, .int .u32 r.a.v, .int .i64 r.a.i, .int .u64 r.a.u, .int .u32 r.a.s, .int .u32 r.a.y, .int .u64 r.l, .int .u64 r.s, .bool r.z] 162)).alloc (.cells #[.int .u64 0, .int .u32 0, .int .u32 0, .int .i64 0, .int .u64 0, .int .u32 0, .int .u32 0, .int .u64 0, .int .u64 0, .bool false] 162)) = W0 at HV0 ⊢
    obtain ⟨c0, c1, c2, c3, c4, c5, c6, c7, c8, c9⟩ := Rq.at r (HV0.out.cs 0 rfl)
    go_wp2_with fail
    refine (Req.right r HR.out _).mono ?_
    rintro e w1 ⟨rfl, hb⟩
    rw [H1.out]
    have HV1 := hid (HV0.out.below hb)
    clear hb HV0 
    clear c0 c1 c2 c3 c4 c5 c6 c7 c8 c9
    go_wp2_with (first | ((with_reducible refine wpList_put_vs HV1.out 1 162 [.int .u64 0, .int .u32 0, .int .u32 0, .int .i64 0, .int .u64 0, .int .u32 0, .int .u32 0, .int .u64 0, .int .u64 0, .bool false] infoReq rfl (.tmp 2) (.tmp 7) rfl (w.heap.size + 1) (Rq.no.cells) ?vs501a 0 ?vs501b ?vs501c ?vs501d ?vs501e ?vs501f ?vs501g); (case vs501a => rfl); (case vs501b => rfl); (case vs501c => exact of_decide_eq_true rfl); (case vs501d => rfl); (case vs501e => rfl); (case vs501f => rfl); (intro W2 hW2); (have HV2 : Hid (VS w [(w.heap.size, r.cells), (w.heap.size + 1, Rq.no.cells)] W2) := hid hW2); (clear hW2 HV1)) | fail)
    obtain ⟨z0, z1, z2, z3, z4, z5, z6, z7, z8, z9⟩ := Rq.at Rq.no (HV2.out.cs 1 rfl)
    go_wp2_with fail
    refine bodyPost_ret (v := .tuple #[Rq.val Rq.no, .bool false]) (by simp [results, Tryz.results153, go_sem, z0, z1, z2, z3, z4, z5, z6, z7, z8, z9]) rfl ⟨rfl, HV2.out.bel⟩
  | true =>
    rw [if_pos rfl]
    have H1 := hid h1
    clear h1
    unfold Rq.val
    have HV0 : Hid (VS w [(w.heap.size, r.cells), (w.heap.size + 1, Rq.no.cells)] ((w.alloc (.cells #[.int .u64 r.a.t, .int .u32 r.a.r, .int .u32 r.a.v, .int .i64 r.a.i, .int .u64 r.a.u, .int .u32 r.a.s, .int .u32 r.a.y, .int .u64 r.l, .int .u64 r.s, .bool r.z] 162)).alloc (.cells #[.int .u64 0, .int .u32 0, .int .u32 0, .int .i64 0, .int .u64 0, .int .u32 0, .int .u32 0, .int .u64 0, .int .u64 0, .bool false] 162))) := hid (by have h := (((VS.nil w).new 162 r.cells).new 162 Rq.no.cells); (try simp only [World.size_alloc] at h); exact h)
    go_enter Tryz.func153, Tryz.ntmps153
    go_wp2_with fail
    generalize ((w.alloc (.cells #[.int .u64 r.a.t, .int .u32 r.a.r, .int .u32 r.a.v, .int .i64 r.a.i, .int .u64 r.a.u, .int .u32 r.a.s, .int .u32 r.a.y, .int .u64 r.l, .int .u64 r.s, .bool r.z] 162)).alloc (.cells #[.int .u64 0, .int .u32 0, .int .u32 0, .int .i64 0, .int .u64 0, .int .u32 0, .int .u32 0, .int .u64 0, .int .u64 0, .bool false] 162)) = W0 at HV0 ⊢
    obtain ⟨c0, c1, c2, c3, c4, c5, c6, c7, c8, c9⟩ := Rq.at r (HV0.out.cs 0 rfl)
    go_wp2_with fail
    refine (Req.right r HR.out _).mono ?_
    rintro e w1 ⟨rfl, hb⟩
    rw [H1.out]
    have HV1 := hid (HV0.out.below hb)
    clear hb HV0 
    clear c0 c1 c2 c3 c4 c5 c6 c7 c8 c9
    obtain ⟨c0, c1, c2, c3, c4, c5, c6, c7, c8, c9⟩ := Rq.at r (HV1.out.cs 0 rfl)
    go_wp2_with (first | ((with_reducible refine wpList_put_vs HV1.out 1 162 [.int .u64 r.a.t, .int .u32 r.a.r, .int .u32 r.a.v, .int .i64 r.a.i, .int .u64 r.a.u, .int .u32 r.a.s, .int .u32 r.a.y, .int .u64 r.l, .int .u64 r.s, .bool r.z] infoReq rfl (.tmp 2) (.tmp 8) rfl (w.heap.size + 1) (Rq.no.cells) ?vs502a 0 ?vs502b ?vs502c ?vs502d ?vs502e ?vs502f ?vs502g); (case vs502a => rfl); (case vs502b => rfl); (case vs502c => exact of_decide_eq_true rfl); (case vs502d => rfl); (case vs502e => rfl); (case vs502f => rfl); (intro W2 hW2); (have HV2 : Hid (VS w [(w.heap.size, r.cells), (w.heap.size + 1, r.cells)] W2) := hid hW2); (clear hW2 HV1)) | fail)
    clear c0 c1 c2 c3 c4 c5 c6 c7 c8 c9
    obtain ⟨z0, z1, z2, z3, z4, z5, z6, z7, z8, z9⟩ := Rq.at r (HV2.out.cs 1 rfl)
    go_wp2_with fail
    refine bodyPost_ret (v := .tuple #[Rq.val r, .bool true]) (by simp [results, Tryz.results153, go_sem, z0, z1, z2, z3, z4, z5, z6, z7, z8, z9]) rfl ⟨rfl, HV2.out.bel⟩
set_option maxRecDepth 100000 in
set_option maxHeartbeats 8000000 in
theorem Req.from_ (r : Rq) (hr : r.In) (p : P3) (hp : PIn p) (w : World) : Calls Tryz.prog 149 #[r.val, pv p] w (Ans (.tuple #[Rq.val (r.from_ p).whr.1, .bool (r.from_ p).whr.2]) w) := by
  have HR1 : Hid (Rq.In (Rq.mk (It.mk p.1 p.2.1 p.2.2 r.a.i r.a.u r.a.s r.a.y) r.l r.s r.z)) := hid ⟨⟨hp.1, hp.2.1, hp.2.2, hr.1.2.2.2.1, hr.1.2.2.2.2⟩, hr.2⟩
  have hr2 : Rq.In (r.from_ p) := Rq.from_in hr hp
  obtain ⟨d, hd⟩ : ∃ d, dueP p r.l = d := ⟨_, rfl⟩
  have he : r.from_ p = (Rq.mk (It.mk p.1 p.2.1 p.2.2 r.a.i d.1 d.2.1 d.2.2) r.l r.s r.z) := by unfold Rq.from_; rw [hd]
  have HD : Hid (Rq.due (Rq.mk (It.mk p.1 p.2.1 p.2.2 r.a.i r.a.u r.a.s r.a.y) r.l r.s r.z) = d) := hid hd
  rw [he] at hr2
  have HR2 := hid hr2
  rw [he]
  clear hr hp hd he hr2
  obtain ⟨⟨x, b⟩, hx⟩ : ∃ x, Rq.whr (Rq.mk (It.mk p.1 p.2.1 p.2.2 r.a.i d.1 d.2.1 d.2.2) r.l r.s r.z) = x := ⟨_, rfl⟩
  have HX := hid hx
  rw [hx]
  clear hx
  unfold Rq.val
  have HV0 : Hid (VS w [(w.heap.size, r.cells), (w.heap.size + 1, (pcells p)), (w.heap.size + 2, Rq.no.cells)] (((w.alloc (.cells #[.int .u64 r.a.t, .int .u32 r.a.r, .int .u32 r.a.v, .int .i64 r.a.i, .int .u64 r.a.u, .int .u32 r.a.s, .int .u32 r.a.y, .int .u64 r.l, .int .u64 r.s, .bool r.z] 162)).alloc (.cells #[.int .u64 p.1, .int .u32 p.2.1, .int .u32 p.2.2] 137)).alloc (.cells #[.int .u64 0, .int .u32 0, .int .u32 0, .int .i64 0, .int .u64 0, .int .u32 0, .int .u32 0, .int .u64 0, .int .u64 0, .bool false] 162))) := hid (by have h := ((((VS.nil w).new 162 r.cells).new 137 (pcells p)).new 162 Rq.no.cells); (try simp only [World.size_alloc] at h); exact h)
  go_enter Tryz.func149, Tryz.ntmps149
  go_upto_region 1 with fail
  generalize (((w.alloc (.cells #[.int .u64 r.a.t, .int .u32 r.a.r, .int .u32 r.a.v, .int .i64 r.a.i, .int .u64 r.a.u, .int .u32 r.a.s, .int .u32 r.a.y, .int .u64 r.l, .int .u64 r.s, .bool r.z] 162)).alloc (.cells #[.int .u64 p.1, .int .u32 p.2.1, .int .u32 p.2.2] 137)).alloc (.cells #[.int .u64 0, .int .u32 0, .int .u32 0, .int .i64 0, .int .u64 0, .int .u32 0, .int .u32 0, .int .u64 0, .int .u64 0, .bool false] 162)) = W0 at HV0 ⊢
  obtain ⟨p0, p1, p2⟩ := P3.at p (HV0.out.cs 1 rfl)
  go_wp2_with (first | ((with_reducible refine wpList_put_vs HV0.out 0 137 [.int .u64 p.1, .int .u32 p.2.1, .int .u32 p.2.2] infoPos rfl (.tmp 8) (.tmp 6) rfl (w.heap.size) (r.cells) ?vs503a 0 ?vs503b ?vs503c ?vs503d ?vs503e ?vs503f ?vs503g); (case vs503a => rfl); (case vs503b => rfl); (case vs503c => exact of_decide_eq_true rfl); (case vs503d => rfl); (case vs503e => rfl); (case vs503f => rfl); (intro W2 hW2); (have HV1 : Hid (VS w [(w.heap.size, (Rq.mk (It.mk p.1 p.2.1 p.2.2 r.a.i r.a.u r.a.s r.a.y) r.l r.s r.z).cells), (w.heap.size + 1, (pcells p)), (w.heap.size + 2, Rq.no.cells)] W2) := hid hW2); (clear hW2 HV0); (clear p0 p1 p2); (obtain ⟨c0, c1, c2, c3, c4, c5, c6, c7, c8, c9⟩ := Rq.at (Rq.mk (It.mk p.1 p.2.1 p.2.2 r.a.i r.a.u r.a.s r.a.y) r.l r.s r.z) (HV1.out.cs 0 rfl))) | fail)
  refine (Req.due (Rq.mk (It.mk p.1 p.2.1 p.2.2 r.a.i r.a.u r.a.s r.a.y) r.l r.s r.z) HR1.out _).mono ?_
  rw [HD.out]
  rintro e w1 ⟨rfl, hb⟩
  have HV2 := hid (HV1.out.below hb)
  clear hb HV1 c0 c1 c2 c3 c4 c5 c6 c7 c8 c9
  go_wp2_with (first | ((with_reducible refine wpList_put_vs HV2.out 0 137 [.int .u64 d.1, .int .u32 d.2.1, .int .u32 d.2.2] infoPos rfl (.tmp 12) (.tmp 10) rfl (w.heap.size) ((Rq.mk (It.mk p.1 p.2.1 p.2.2 r.a.i r.a.u r.a.s r.a.y) r.l r.s r.z).cells) ?vs504a 4 ?vs504b ?vs504c ?vs504d ?vs504e ?vs504f ?vs504g); (case vs504a => rfl); (case vs504b => rfl); (case vs504c => exact of_decide_eq_true rfl); (case vs504d => rfl); (case vs504e => rfl); (case vs504f => rfl); (intro W2 hW2); (have HV3 : Hid (VS w [(w.heap.size, (Rq.mk (It.mk p.1 p.2.1 p.2.2 r.a.i d.1 d.2.1 d.2.2) r.l r.s r.z).cells), (w.heap.size + 1, (pcells p)), (w.heap.size + 2, Rq.no.cells)] W2) := hid hW2); (clear hW2 HV2); (obtain ⟨c0, c1, c2, c3, c4, c5, c6, c7, c8, c9⟩ := Rq.at (Rq.mk (It.mk p.1 p.2.1 p.2.2 r.a.i d.1 d.2.1 d.2.2) r.l r.s r.z) (HV3.out.cs 0 rfl))) | fail)
  refine (Req.whr (Rq.mk (It.mk p.1 p.2.1 p.2.2 r.a.i d.1 d.2.1 d.2.2) r.l r.s r.z) HR2.out _).mono ?_
  rw [HX.out]
  rintro e w2 ⟨rfl, hb⟩
  have HV4 := hid (HV3.out.below hb)
  clear hb HV3 c0 c1 c2 c3 c4 c5 c6 c7 c8 c9
  go_wp2_with (first | ((with_reducible refine wpList_put_vs HV4.out 2 162 [.int .u64 x.a.t, .int .u32 x.a.r, .int .u32 x.a.v, .int .i64 x.a.i, .int .u64 x.a.u, .int .u32 x.a.s, .int .u32 x.a.y, .int .u64 x.l, .int .u64 x.s, .bool x.z] infoReq rfl (.tmp 4) (.tmp 15) rfl (w.heap.size + 2) (Rq.no.cells) ?vs505a 0 ?vs505b ?vs505c ?vs505d ?vs505e ?vs505f ?vs505g); (case vs505a => rfl); (case vs505b => rfl); (case vs505c => exact of_decide_eq_true rfl); (case vs505d => rfl); (case vs505e => rfl); (case vs505f => rfl); (intro W2 hW2); (have HV5 : Hid (VS w [(w.heap.size, (Rq.mk (It.mk p.1 p.2.1 p.2.2 r.a.i d.1 d.2.1 d.2.2) r.l r.s r.z).cells), (w.heap.size + 1, (pcells p)), (w.heap.size + 2, x.cells)] W2) := hid hW2); (clear hW2 HV4)) | fail)
  obtain ⟨z0, z1, z2, z3, z4, z5, z6, z7, z8, z9⟩ := Rq.at x (HV5.out.cs 2 rfl)
  go_wp2_with fail
  refine bodyPost_ret (v := .tuple #[Rq.val x, .bool b]) (by simp [results, Tryz.results149, go_sem, z0, z1, z2, z3, z4, z5, z6, z7, z8, z9]) rfl ⟨rfl, HV5.out.bel⟩
set_option maxRecDepth 100000 in
set_option maxHeartbeats 8000000 in
theorem Req.new (p : P3) (hp : PIn p) (id n : Int) (hi : -9223372036854775808 ≤ id ∧ id ≤ 9223372036854775807) (hn : IsT n) (w : World) : Calls Tryz.prog 133 #[pv p, .int .i64 id, .int .u64 n] w (Ans (.tuple #[Rq.val (Rq.new p id n).1, .bool (Rq.new p id n).2]) w) := by
  have HP := hid hp
  have HR0 : Hid (Rq.In (Rq.mk (It.mk 0 0 0 id 0 0 0) n n false)) := hid ⟨by unfold It.In; simp only; omega, hn, hn⟩
  clear hp hi hn
  obtain ⟨⟨x, b⟩, hx⟩ : ∃ x, Rq.new p id n = x := ⟨_, rfl⟩
  have HX : Hid (Rq.whr (Rq.from_ (Rq.mk (It.mk 0 0 0 id 0 0 0) n n false) p) = (x, b)) := hid hx
  rw [hx]
  clear hx
  have HV0 : Hid (VS w [(w.heap.size, (pcells p)), (w.heap.size + 1, Rq.no.cells)] ((w.alloc (.cells #[.int .u64 p.1, .int .u32 p.2.1, .int .u32 p.2.2] 137)).alloc (.cells #[.int .u64 0, .int .u32 0, .int .u32 0, .int .i64 0, .int .u64 0, .int .u32 0, .int .u32 0, .int .u64 0, .int .u64 0, .bool false] 162))) := hid (by have h := (((VS.nil w).new 137 (pcells p)).new 162 Rq.no.cells); (try simp only [World.size_alloc] at h); exact h)
  go_enter Tryz.func133, Tryz.ntmps133
  go_wp2_with fail
  generalize ((w.alloc (.cells #[.int .u64 p.1, .int .u32 p.2.1, .int .u32 p.2.2] 137)).alloc (.cells #[.int .u64 0, .int .u32 0, .int .u32 0, .int .i64 0, .int .u64 0, .int .u32 0, .int .u32 0, .int .u64 0, .int .u64 0, .bool false] 162)) = W0 at HV0 ⊢
  obtain ⟨p0, p1, p2⟩ := P3.at p (HV0.out.cs 0 rfl)
  go_wp2_with fail
  refine (Req.from_ (Rq.mk (It.mk 0 0 0 id 0 0 0) n n false) HR0.out p HP.out _).mono ?_
  rw [HX.out]
  rintro e w1 ⟨rfl, hb⟩
  have HV1 := hid (HV0.out.below hb)
  clear hb HV0 p0 p1 p2
  go_wp2_with (first | ((with_reducible refine wpList_put_vs HV1.out 1 162 [.int .u64 x.a.t, .int .u32 x.a.r, .int .u32 x.a.v, .int .i64 x.a.i, .int .u64 x.a.u, .int .u32 x.a.s, .int .u32 x.a.y, .int .u64 x.l, .int .u64 x.s, .bool x.z] infoReq rfl (.tmp 6) (.tmp 15) rfl (w.heap.size + 1) (Rq.no.cells) ?vs506a 0 ?vs506b ?vs506c ?vs506d ?vs506e ?vs506f ?vs506g); (case vs506a => rfl); (case vs506b => rfl); (case vs506c => exact of_decide_eq_true rfl); (case vs506d => rfl); (case vs506e => rfl); (case vs506f => rfl); (intro W2 hW2); (have HV2 : Hid (VS w [(w.heap.size, (pcells p)), (w.heap.size + 1, x.cells)] W2) := hid hW2); (clear hW2 HV1)) | fail)
  obtain ⟨z0, z1, z2, z3, z4, z5, z6, z7, z8, z9⟩ := Rq.at x (HV2.out.cs 1 rfl)
  go_wp2_with fail
  refine bodyPost_ret (v := .tuple #[Rq.val x, .bool b]) (by simp [results, Tryz.results133, go_sem, z0, z1, z2, z3, z4, z5, z6, z7, z8, z9]) rfl ⟨rfl, HV2.out.bel⟩
end

/- The contracts of the package req: what is served. -/
section
open Go.RowKit
set_option maxRecDepth 100000 in
set_option maxHeartbeats 8000000 in
theorem Req.serve (r : Rq) (hr : r.In) (n : Int) (hn : IsT n) (w : World) : Calls Tryz.prog 154 #[r.val, .int .u64 n] w (Ans (.tuple #[Rq.val (r.serve n).1, .bool (r.serve n).2.1, .bool (r.serve n).2.2]) w) := by
  have HR := hid hr
  have HN := hid hn
  unfold Rq.serve
  cases h1 : r.right with
  | false =>
    have E : Hid (r.srvOk n = false) := hid (by unfold Rq.srvOk; rw [h1]; rfl)
    rw [E.out, if_neg (by decide)]
    have H1 := hid h1
    clear h1 hr hn
    unfold Rq.val
    have HV0 : Hid (VS w [(w.heap.size, r.cells), (w.heap.size + 1, Rq.no.cells)] ((w.alloc (.cells #[.int .u64 r.a.t, .int .u32 r.a.r, .int .u32 r.a.v, .int .i64 r.a.i, .int .u64 r.a.u, .int .u32 r.a.s, .int .u32 r.a.y, .int .u64 r.l, .int .u64 r.s, .bool r.z] 162)).alloc (.cells #[.int .u64 0, .int .u32 0, .int .u32 0, .int .i64 0, .int .u64 0, .int .u32 0, .int .u32 0, .int .u64 0, .int .u64 0, .bool false] 162))) := hid (by have h := (((VS.nil w).new 162 r.cells).new 162 Rq.no.cells); (try simp only [World.size_alloc] at h); exact h)
    go_enter Tryz.func154, Tryz.ntmps154
    go_wp2_with fail
    generalize ((w.alloc (.cells #[.int .u64 r.a.t, .int .u32 r.a.r, .int .u32 r.a.v, .int .i64 r.a.i, .int .u64 r.a.u, .int .u32 r.a.s, .int .u32 r.a.y, .int .u64 r.l, .int .u64 r.s, .bool r.z] 162)).alloc (.cells #[.int .u64 0, .int .u32 0, .int .u32 0, .int .i64 0, .int .u64 0, .int .u32 0, .int .u32 0, .int .u64 0, .int .u64 0, .bool false] 162)) = W0 at HV0 ⊢
    obtain ⟨c0, c1, c2, c3, c4, c5, c6, c7, c8, c9⟩ := Rq.at r (HV0.out.cs 0 rfl)
    go_wp2_with fail
    refine (Req.right r HR.out _).mono ?_
    rintro e w1 ⟨rfl, hb⟩
    rw [H1.out]
    have HV1 := hid (HV0.out.below hb)
    clear hb HV0 
    clear c0 c1 c2 c3 c4 c5 c6 c7 c8 c9
    obtain ⟨c0, c1, c2, c3, c4, c5, c6, c7, c8, c9⟩ := Rq.at r (HV1.out.cs 0 rfl)
    go_wp2_with (first | ((with_reducible refine wpList_put_vs HV1.out 1 162 [.int .u64 0, .int .u32 0, .int .u32 0, .int .i64 0, .int .u64 0, .int .u32 0, .int .u32 0, .int .u64 0, .int .u64 0, .bool false] infoReq rfl (.tmp 4) (.tmp 24) rfl (w.heap.size + 1) (Rq.no.cells) ?vs1501a 0 ?vs1501b ?vs1501c ?vs1501d ?vs1501e ?vs1501f ?vs1501g); (case vs1501a => rfl); (case vs1501b => rfl); (case vs1501c => exact of_decide_eq_true rfl); (case vs1501d => rfl); (case vs1501e => rfl); (case vs1501f => rfl); (intro W2 hW2); (have HV2 : Hid (VS w [(w.heap.size, r.cells), (w.heap.size + 1, Rq.no.cells)] W2) := hid hW2); (clear hW2 HV1)) | fail)
    obtain ⟨z0, z1, z2, z3, z4, z5, z6, z7, z8, z9⟩ := Rq.at Rq.no (HV2.out.cs 1 rfl)
    go_wp2_with fail
    refine bodyPost_ret (v := .tuple #[Rq.val Rq.no, .bool false, .bool false]) (by simp [results, Tryz.results154, go_sem, z0, z1, z2, z3, z4, z5, z6, z7, z8, z9]) rfl ⟨rfl, HV2.out.bel⟩
  | true =>
    have H1 := hid h1
    by_cases h2 : n = 0
    · have E : Hid (r.srvOk n = false) := hid (by unfold Rq.srvOk; rw [h1, h2]; simp)
      rw [E.out, if_neg (by decide)]
      have C1 : Hid ((n == 0) = true) := hid (by rw [h2]; rfl)
      clear h1 h2 hr hn
      unfold Rq.val
      have HV0 : Hid (VS w [(w.heap.size, r.cells), (w.heap.size + 1, Rq.no.cells)] ((w.alloc (.cells #[.int .u64 r.a.t, .int .u32 r.a.r, .int .u32 r.a.v, .int .i64 r.a.i, .int .u64 r.a.u, .int .u32 r.a.s, .int .u32 r.a.y, .int .u64 r.l, .int .u64 r.s, .bool r.z] 162)).alloc (.cells #[.int .u64 0, .int .u32 0, .int .u32 0, .int .i64 0, .int .u64 0, .int .u32 0, .int .u32 0, .int .u64 0, .int .u64 0, .bool false] 162))) := hid (by have h := (((VS.nil w).new 162 r.cells).new 162 Rq.no.cells); (try simp only [World.size_alloc] at h); exact h)
      go_enter Tryz.func154, Tryz.ntmps154
      go_wp2_with fail
      generalize ((w.alloc (.cells #[.int .u64 r.a.t, .int .u32 r.a.r, .int .u32 r.a.v, .int .i64 r.a.i, .int .u64 r.a.u, .int .u32 r.a.s, .int .u32 r.a.y, .int .u64 r.l, .int .u64 r.s, .bool r.z] 162)).alloc (.cells #[.int .u64 0, .int .u32 0, .int .u32 0, .int .i64 0, .int .u64 0, .int .u32 0, .int .u32 0, .int .u64 0, .int .u64 0, .bool false] 162)) = W0 at HV0 ⊢
      obtain ⟨c0, c1, c2, c3, c4, c5, c6, c7, c8, c9⟩ := Rq.at r (HV0.out.cs 0 rfl)
      go_wp2_with fail
      refine (Req.right r HR.out _).mono ?_
      rintro e w1 ⟨rfl, hb⟩
      rw [H1.out]
      have HV1 := hid (HV0.out.below hb)
      clear hb HV0 
      clear c0 c1 c2 c3 c4 c5 c6 c7 c8 c9
      obtain ⟨c0, c1, c2, c3, c4, c5, c6, c7, c8, c9⟩ := Rq.at r (HV1.out.cs 0 rfl)
      have k11 := C1.out
      go_wp2_with (first | ((with_reducible refine wpList_put_vs HV1.out 1 162 [.int .u64 0, .int .u32 0, .int .u32 0, .int .i64 0, .int .u64 0, .int .u32 0, .int .u32 0, .int .u64 0, .int .u64 0, .bool false] infoReq rfl (.tmp 4) (.tmp 24) rfl (w.heap.size + 1) (Rq.no.cells) ?vs1502a 0 ?vs1502b ?vs1502c ?vs1502d ?vs1502e ?vs1502f ?vs1502g); (case vs1502a => rfl); (case vs1502b => rfl); (case vs1502c => exact of_decide_eq_true rfl); (case vs1502d => rfl); (case vs1502e => rfl); (case vs1502f => rfl); (intro W2 hW2); (have HV2 : Hid (VS w [(w.heap.size, r.cells), (w.heap.size + 1, Rq.no.cells)] W2) := hid hW2); (clear hW2 HV1)) | fail)
      obtain ⟨z0, z1, z2, z3, z4, z5, z6, z7, z8, z9⟩ := Rq.at Rq.no (HV2.out.cs 1 rfl)
      go_wp2_with fail
      refine bodyPost_ret (v := .tuple #[Rq.val Rq.no, .bool false, .bool false]) (by simp [results, Tryz.results154, go_sem, z0, z1, z2, z3, z4, z5, z6, z7, z8, z9]) rfl ⟨rfl, HV2.out.bel⟩
    · have C1 : Hid ((n == 0) = false) := hid (by simpa using h2)
      have C1' := hid h2
      by_cases h3 : r.l < n
      · have E : Hid (r.srvOk n = false) := hid (by unfold Rq.srvOk; rw [h1]; simp; omega)
        rw [E.out, if_neg (by decide)]
        have C2 := hid h3
        clear h1 h2 h3 hr hn C1'
        unfold Rq.val
        have HV0 : Hid (VS w [(w.heap.size, r.cells), (w.heap.size + 1, Rq.no.cells)] ((w.alloc (.cells #[.int .u64 r.a.t, .int .u32 r.a.r, .int .u32 r.a.v, .int .i64 r.a.i, .int .u64 r.a.u, .int .u32 r.a.s, .int .u32 r.a.y, .int .u64 r.l, .int .u64 r.s, .bool r.z] 162)).alloc (.cells #[.int .u64 0, .int .u32 0, .int .u32 0, .int .i64 0, .int .u64 0, .int .u32 0, .int .u32 0, .int .u64 0, .int .u64 0, .bool false] 162))) := hid (by have h := (((VS.nil w).new 162 r.cells).new 162 Rq.no.cells); (try simp only [World.size_alloc] at h); exact h)
        go_enter Tryz.func154, Tryz.ntmps154
        go_wp2_with fail
        generalize ((w.alloc (.cells #[.int .u64 r.a.t, .int .u32 r.a.r, .int .u32 r.a.v, .int .i64 r.a.i, .int .u64 r.a.u, .int .u32 r.a.s, .int .u32 r.a.y, .int .u64 r.l, .int .u64 r.s, .bool r.z] 162)).alloc (.cells #[.int .u64 0, .int .u32 0, .int .u32 0, .int .i64 0, .int .u64 0, .int .u32 0, .int .u32 0, .int .u64 0, .int .u64 0, .bool false] 162)) = W0 at HV0 ⊢
        obtain ⟨c0, c1, c2, c3, c4, c5, c6, c7, c8, c9⟩ := Rq.at r (HV0.out.cs 0 rfl)
        go_wp2_with fail
        refine (Req.right r HR.out _).mono ?_
        rintro e w1 ⟨rfl, hb⟩
        rw [H1.out]
        have HV1 := hid (HV0.out.below hb)
        clear hb HV0 
        clear c0 c1 c2 c3 c4 c5 c6 c7 c8 c9
        obtain ⟨c0, c1, c2, c3, c4, c5, c6, c7, c8, c9⟩ := Rq.at r (HV1.out.cs 0 rfl)
        have k11 := C1.out
        have k12 := C2.out
        go_wp2_with (first | ((with_reducible refine wpList_put_vs HV1.out 1 162 [.int .u64 0, .int .u32 0, .int .u32 0, .int .i64 0, .int .u64 0, .int .u32 0, .int .u32 0, .int .u64 0, .int .u64 0, .bool false] infoReq rfl (.tmp 4) (.tmp 24) rfl (w.heap.size + 1) (Rq.no.cells) ?vs1503a 0 ?vs1503b ?vs1503c ?vs1503d ?vs1503e ?vs1503f ?vs1503g); (case vs1503a => rfl); (case vs1503b => rfl); (case vs1503c => exact of_decide_eq_true rfl); (case vs1503d => rfl); (case vs1503e => rfl); (case vs1503f => rfl); (intro W2 hW2); (have HV2 : Hid (VS w [(w.heap.size, r.cells), (w.heap.size + 1, Rq.no.cells)] W2) := hid hW2); (clear hW2 HV1)) | fail)
        obtain ⟨z0, z1, z2, z3, z4, z5, z6, z7, z8, z9⟩ := Rq.at Rq.no (HV2.out.cs 1 rfl)
        go_wp2_with fail
        refine bodyPost_ret (v := .tuple #[Rq.val Rq.no, .bool false, .bool false]) (by simp [results, Tryz.results154, go_sem, z0, z1, z2, z3, z4, z5, z6, z7, z8, z9]) rfl ⟨rfl, HV2.out.bel⟩
      · have C2 := hid h3
        have HB : Hid (1 ≤ n ∧ n ≤ r.l) := hid (by unfold IsT at hn; omega)
        have E : Hid (r.srvOk n = true) := hid (by unfold Rq.srvOk; rw [h1]; simp; exact HB.out)
        rw [E.out, if_pos rfl]
        obtain ⟨p, hp⟩ : ∃ p, dueP (r.a.t, r.a.r, r.a.v) n = p := ⟨_, rfl⟩
        have HPI : Hid (PIn p) := hid (by rw [← hp]; exact dueP_in (Rq.pp_in hr) n)
        have HP := hid hp
        have E2 : Hid (IntKind.u64.wrap (r.l - n) = r.l - n) := hid (by have := HB.out; have := hr.2.1; unfold IsT at this; rw [IntKind.wrap_u64]; omega)
        obtain ⟨⟨x, b⟩, hx⟩ : ∃ x, (r.went n).whr = x := ⟨_, rfl⟩
        rw [hx]
        cases h4 : decide (r.l = n) with
        | true =>
          have h5 : r.l = n := of_decide_eq_true h4
          have C3 : Hid ((r.l - n == 0) = true) := hid (by rw [h5]; simp)
          have HR5 : Hid (Rq.In (Rq.mk r.a r.s r.s r.z)) := hid ⟨hr.1, hr.2.2, hr.2.2⟩
          have HX : Hid (Rq.whr (Rq.from_ (Rq.mk r.a r.s r.s r.z) p) = (x, b)) := hid (by rw [← hx, ← hp]; unfold Rq.went Rq.left; rw [if_pos h5]; rfl)
          clear h1 h2 h3 h4 h5 hr hn hp hx C1'
          unfold Rq.val
          have HV0 : Hid (VS w [(w.heap.size, r.cells), (w.heap.size + 1, Rq.no.cells)] ((w.alloc (.cells #[.int .u64 r.a.t, .int .u32 r.a.r, .int .u32 r.a.v, .int .i64 r.a.i, .int .u64 r.a.u, .int .u32 r.a.s, .int .u32 r.a.y, .int .u64 r.l, .int .u64 r.s, .bool r.z] 162)).alloc (.cells #[.int .u64 0, .int .u32 0, .int .u32 0, .int .i64 0, .int .u64 0, .int .u32 0, .int .u32 0, .int .u64 0, .int .u64 0, .bool false] 162))) := hid (by have h := (((VS.nil w).new 162 r.cells).new 162 Rq.no.cells); (try simp only [World.size_alloc] at h); exact h)
          go_enter Tryz.func154, Tryz.ntmps154
          go_wp2_with fail
          generalize ((w.alloc (.cells #[.int .u64 r.a.t, .int .u32 r.a.r, .int .u32 r.a.v, .int .i64 r.a.i, .int .u64 r.a.u, .int .u32 r.a.s, .int .u32 r.a.y, .int .u64 r.l, .int .u64 r.s, .bool r.z] 162)).alloc (.cells #[.int .u64 0, .int .u32 0, .int .u32 0, .int .i64 0, .int .u64 0, .int .u32 0, .int .u32 0, .int .u64 0, .int .u64 0, .bool false] 162)) = W0 at HV0 ⊢
          obtain ⟨c0, c1, c2, c3, c4, c5, c6, c7, c8, c9⟩ := Rq.at r (HV0.out.cs 0 rfl)
          go_wp2_with fail
          refine (Req.right r HR.out _).mono ?_
          rintro e w1 ⟨rfl, hb⟩
          rw [H1.out]
          have HV1 := hid (HV0.out.below hb)
          clear hb HV0 
          clear c0 c1 c2 c3 c4 c5 c6 c7 c8 c9
          obtain ⟨c0, c1, c2, c3, c4, c5, c6, c7, c8, c9⟩ := Rq.at r (HV1.out.cs 0 rfl)
          have k11 := C1.out
          have k12 := C2.out
          have e1 : IntKind.u64.wrap (1048576 * n) = gw n := rfl
          go_wp2_with fail
          refine (Pos.moveD r.a.t r.a.r r.a.v n (Rq.pp_in HR.out) _).mono ?_
          rw [HP.out]
          rintro e w2 ⟨rfl, hb⟩
          have HV2 := hid (HV1.out.below hb)
          clear hb HV1 e1 k11 k12 c0 c1 c2 c3 c4 c5 c6 c7 c8 c9
          have HV3 : Hid (VS w [(w.heap.size, r.cells), (w.heap.size + 1, Rq.no.cells), (w2.heap.size, [.int .u64 0, .int .u32 0, .int .u32 0])] (w2.alloc (.cells #[.int .u64 0, .int .u32 0, .int .u32 0] 137))) := hid (HV2.out.new 137 [.int .u64 0, .int .u32 0, .int .u32 0])
          clear HV2
          have e2 : IntKind.u64.wrap (r.l - n) = r.l - n := E2.out
          go_upto_region 5 with (first | ((with_reducible refine wpList_put_vs HV3.out 2 137 [.int .u64 p.1, .int .u32 p.2.1, .int .u32 p.2.2] infoPos rfl (.tmp 7) (.tmp 32) rfl (w2.heap.size) ([.int .u64 0, .int .u32 0, .int .u32 0]) ?vs1504a 0 ?vs1504b ?vs1504c ?vs1504d ?vs1504e ?vs1504f ?vs1504g); (case vs1504a => rfl); (case vs1504b => rfl); (case vs1504c => exact of_decide_eq_true rfl); (case vs1504d => rfl); (case vs1504e => rfl); (case vs1504f => rfl); (intro W2 hW2); (have HV4 : Hid (VS w [(w.heap.size, r.cells), (w.heap.size + 1, Rq.no.cells), (w2.heap.size, [.int .u64 p.1, .int .u32 p.2.1, .int .u32 p.2.2])] W2) := hid hW2); (clear hW2 HV3); (obtain ⟨c0, c1, c2, c3, c4, c5, c6, c7, c8, c9⟩ := Rq.at r (HV4.out.cs 0 rfl)); (have f7 := (HV4.out.cs 0 rfl 7 _ rfl).2)) | fail)
          obtain ⟨W3, hW3⟩ : ∃ W3, W3 = W2.setCell ⟨w.heap.size, 7, none⟩ (.int .u64 (r.l - n)) := ⟨_, rfl⟩
          have HV5 : Hid (VS w [(w.heap.size, (Rq.mk r.a (r.l - n) r.s r.z).cells), (w.heap.size + 1, Rq.no.cells), (w2.heap.size, [.int .u64 p.1, .int .u32 p.2.1, .int .u32 p.2.2])] W3) := hid (by rw [hW3]; exact HV4.out.put1 0 rfl 7 (.int .u64 (r.l - n)) (of_decide_eq_true rfl))
          rw [← hW3]
          clear hW3 HV4 e2 f7 c0 c1 c2 c3 c4 c5 c6 c7 c8 c9
          obtain ⟨c0, c1, c2, c3, c4, c5, c6, c7, c8, c9⟩ := Rq.at (Rq.mk r.a (r.l - n) r.s r.z) (HV5.out.cs 0 rfl)
          have k3 := C3.out
          have f7 := (HV5.out.cs 0 rfl 7 _ rfl).2
          go_upto_region 8 with fail
          obtain ⟨W4, hW4⟩ : ∃ W4, W4 = W3.setCell ⟨w.heap.size, 7, none⟩ (.int .u64 r.s) := ⟨_, rfl⟩
          have HV6 : Hid (VS w [(w.heap.size, (Rq.mk r.a r.s r.s r.z).cells), (w.heap.size + 1, Rq.no.cells), (w2.heap.size, [.int .u64 p.1, .int .u32 p.2.1, .int .u32 p.2.2])] W4) := hid (by rw [hW4]; exact HV5.out.put1 0 rfl 7 (.int .u64 r.s) (of_decide_eq_true rfl))
          rw [← hW4]
          clear hW4 HV5 k3 f7 c0 c1 c2 c3 c4 c5 c6 c7 c8 c9
          obtain ⟨c0, c1, c2, c3, c4, c5, c6, c7, c8, c9⟩ := Rq.at (Rq.mk r.a r.s r.s r.z) (HV6.out.cs 0 rfl)
          obtain ⟨p0, p1, p2⟩ := P3.at p (HV6.out.cs 2 rfl)
          go_wp2_with fail
          refine (Req.from_ (Rq.mk r.a r.s r.s r.z) HR5.out p HPI.out _).mono ?_
          rw [HX.out]
          rintro e w3 ⟨rfl, hb⟩
          have HV7 := hid (HV6.out.below hb)
          clear hb HV6 c0 c1 c2 c3 c4 c5 c6 c7 c8 c9 p0 p1 p2
          go_wp2_with (first | ((with_reducible refine wpList_put_vs HV7.out 0 162 [.int .u64 x.a.t, .int .u32 x.a.r, .int .u32 x.a.v, .int .i64 x.a.i, .int .u64 x.a.u, .int .u32 x.a.s, .int .u32 x.a.y, .int .u64 x.l, .int .u64 x.s, .bool x.z] infoReq rfl (.tmp 2) (.tmp 50) rfl (w.heap.size) ((Rq.mk r.a r.s r.s r.z).cells) ?vs1505a 0 ?vs1505b ?vs1505c ?vs1505d ?vs1505e ?vs1505f ?vs1505g); (case vs1505a => rfl); (case vs1505b => rfl); (case vs1505c => exact of_decide_eq_true rfl); (case vs1505d => rfl); (case vs1505e => rfl); (case vs1505f => rfl); (intro W2 hW2); (have HV8 : Hid (VS w [(w.heap.size, x.cells), (w.heap.size + 1, Rq.no.cells), (w2.heap.size, [.int .u64 p.1, .int .u32 p.2.1, .int .u32 p.2.2])] W2) := hid hW2); (clear hW2 HV7); (obtain ⟨c0, c1, c2, c3, c4, c5, c6, c7, c8, c9⟩ := Rq.at x (HV8.out.cs 0 rfl))) | ((with_reducible refine wpList_put_vs HV8.out 1 162 [.int .u64 x.a.t, .int .u32 x.a.r, .int .u32 x.a.v, .int .i64 x.a.i, .int .u64 x.a.u, .int .u32 x.a.s, .int .u32 x.a.y, .int .u64 x.l, .int .u64 x.s, .bool x.z] infoReq rfl (.tmp 4) (.tmp 52) rfl (w.heap.size + 1) (Rq.no.cells) ?vs1506a 0 ?vs1506b ?vs1506c ?vs1506d ?vs1506e ?vs1506f ?vs1506g); (case vs1506a => rfl); (case vs1506b => rfl); (case vs1506c => exact of_decide_eq_true rfl); (case vs1506d => rfl); (case vs1506e => rfl); (case vs1506f => rfl); (intro W2 hW2); (have HV9 : Hid (VS w [(w.heap.size, x.cells), (w.heap.size + 1, x.cells), (w2.heap.size, [.int .u64 p.1, .int .u32 p.2.1, .int .u32 p.2.2])] W2) := hid hW2); (clear hW2 HV8); (clear c0 c1 c2 c3 c4 c5 c6 c7 c8 c9)) | fail)
          obtain ⟨z0, z1, z2, z3, z4, z5, z6, z7, z8, z9⟩ := Rq.at x (HV9.out.cs 1 rfl)
          go_wp2_with fail
          refine bodyPost_ret (v := .tuple #[Rq.val x, .bool b, .bool b]) (by simp [results, Tryz.results154, go_sem, z0, z1, z2, z3, z4, z5, z6, z7, z8, z9]) rfl ⟨rfl, HV9.out.bel⟩
        | false =>
          have h5 : ¬ r.l = n := of_decide_eq_false h4
          have C3 : Hid ((r.l - n == 0) = false) := hid (by simp; omega)
          have HR5 : Hid (Rq.In (Rq.mk r.a (r.l - n) r.s r.z)) := hid ⟨hr.1, show IsT (r.l - n) by have := HB.out; have := hr.2.1; unfold IsT at *; omega, hr.2.2⟩
          have HX : Hid (Rq.whr (Rq.from_ (Rq.mk r.a (r.l - n) r.s r.z) p) = (x, b)) := hid (by rw [← hx, ← hp]; unfold Rq.went Rq.left; rw [if_neg h5]; rfl)
          clear h1 h2 h3 h4 h5 hr hn hp hx C1'
          unfold Rq.val
          have HV0 : Hid (VS w [(w.heap.size, r.cells), (w.heap.size + 1, Rq.no.cells)] ((w.alloc (.cells #[.int .u64 r.a.t, .int .u32 r.a.r, .int .u32 r.a.v, .int .i64 r.a.i, .int .u64 r.a.u, .int .u32 r.a.s, .int .u32 r.a.y, .int .u64 r.l, .int .u64 r.s, .bool r.z] 162)).alloc (.cells #[.int .u64 0, .int .u32 0, .int .u32 0, .int .i64 0, .int .u64 0, .int .u32 0, .int .u32 0, .int .u64 0, .int .u64 0, .bool false] 162))) := hid (by have h := (((VS.nil w).new 162 r.cells).new 162 Rq.no.cells); (try simp only [World.size_alloc] at h); exact h)
          go_enter Tryz.func154, Tryz.ntmps154
          go_wp2_with fail
          generalize ((w.alloc (.cells #[.int .u64 r.a.t, .int .u32 r.a.r, .int .u32 r.a.v, .int .i64 r.a.i, .int .u64 r.a.u, .int .u32 r.a.s, .int .u32 r.a.y, .int .u64 r.l, .int .u64 r.s, .bool r.z] 162)).alloc (.cells #[.int .u64 0, .int .u32 0, .int .u32 0, .int .i64 0, .int .u64 0, .int .u32 0, .int .u32 0, .int .u64 0, .int .u64 0, .bool false] 162)) = W0 at HV0 ⊢
          obtain ⟨c0, c1, c2, c3, c4, c5, c6, c7, c8, c9⟩ := Rq.at r (HV0.out.cs 0 rfl)
          go_wp2_with fail
          refine (Req.right r HR.out _).mono ?_
          rintro e w1 ⟨rfl, hb⟩
          rw [H1.out]
          have HV1 := hid (HV0.out.below hb)
          clear hb HV0 
          clear c0 c1 c2 c3 c4 c5 c6 c7 c8 c9
          obtain ⟨c0, c1, c2, c3, c4, c5, c6, c7, c8, c9⟩ := Rq.at r (HV1.out.cs 0 rfl)
          have k11 := C1.out
          have k12 := C2.out
          have e1 : IntKind.u64.wrap (1048576 * n) = gw n := rfl
          go_wp2_with fail
          refine (Pos.moveD r.a.t r.a.r r.a.v n (Rq.pp_in HR.out) _).mono ?_
          rw [HP.out]
          rintro e w2 ⟨rfl, hb⟩
          have HV2 := hid (HV1.out.below hb)
          clear hb HV1 e1 k11 k12 c0 c1 c2 c3 c4 c5 c6 c7 c8 c9
          have HV3 : Hid (VS w [(w.heap.size, r.cells), (w.heap.size + 1, Rq.no.cells), (w2.heap.size, [.int .u64 0, .int .u32 0, .int .u32 0])] (w2.alloc (.cells #[.int .u64 0, .int .u32 0, .int .u32 0] 137))) := hid (HV2.out.new 137 [.int .u64 0, .int .u32 0, .int .u32 0])
          clear HV2
          have e2 : IntKind.u64.wrap (r.l - n) = r.l - n := E2.out
          go_upto_region 5 with (first | ((with_reducible refine wpList_put_vs HV3.out 2 137 [.int .u64 p.1, .int .u32 p.2.1, .int .u32 p.2.2] infoPos rfl (.tmp 7) (.tmp 32) rfl (w2.heap.size) ([.int .u64 0, .int .u32 0, .int .u32 0]) ?vs1507a 0 ?vs1507b ?vs1507c ?vs1507d ?vs1507e ?vs1507f ?vs1507g); (case vs1507a => rfl); (case vs1507b => rfl); (case vs1507c => exact of_decide_eq_true rfl); (case vs1507d => rfl); (case vs1507e => rfl); (case vs1507f => rfl); (intro W2 hW2); (have HV4 : Hid (VS w [(w.heap.size, r.cells), (w.heap.size + 1, Rq.no.cells), (w2.heap.size, [.int .u64 p.1, .int .u32 p.2.1, .int .u32 p.2.2])] W2) := hid hW2); (clear hW2 HV3); (obtain ⟨c0, c1, c2, c3, c4, c5, c6, c7, c8, c9⟩ := Rq.at r (HV4.out.cs 0 rfl)); (have f7 := (HV4.out.cs 0 rfl 7 _ rfl).2)) | fail)
          obtain ⟨W3, hW3⟩ : ∃ W3, W3 = W2.setCell ⟨w.heap.size, 7, none⟩ (.int .u64 (r.l - n)) := ⟨_, rfl⟩
          have HV5 : Hid (VS w [(w.heap.size, (Rq.mk r.a (r.l - n) r.s r.z).cells), (w.heap.size + 1, Rq.no.cells), (w2.heap.size, [.int .u64 p.1, .int .u32 p.2.1, .int .u32 p.2.2])] W3) := hid (by rw [hW3]; exact HV4.out.put1 0 rfl 7 (.int .u64 (r.l - n)) (of_decide_eq_true rfl))
          rw [← hW3]
          clear hW3 HV4 e2 f7 c0 c1 c2 c3 c4 c5 c6 c7 c8 c9
          obtain ⟨c0, c1, c2, c3, c4, c5, c6, c7, c8, c9⟩ := Rq.at (Rq.mk r.a (r.l - n) r.s r.z) (HV5.out.cs 0 rfl)
          have k3 := C3.out
          obtain ⟨p0, p1, p2⟩ := P3.at p (HV5.out.cs 2 rfl)
          go_wp2_with fail
          refine (Req.from_ (Rq.mk r.a (r.l - n) r.s r.z) HR5.out p HPI.out _).mono ?_
          rw [HX.out]
          rintro e w3 ⟨rfl, hb⟩
          have HV6 := hid (HV5.out.below hb)
          clear hb HV5 c0 c1 c2 c3 c4 c5 c6 c7 c8 c9 p0 p1 p2 k3
          go_wp2_with (first | ((with_reducible refine wpList_put_vs HV6.out 0 162 [.int .u64 x.a.t, .int .u32 x.a.r, .int .u32 x.a.v, .int .i64 x.a.i, .int .u64 x.a.u, .int .u32 x.a.s, .int .u32 x.a.y, .int .u64 x.l, .int .u64 x.s, .bool x.z] infoReq rfl (.tmp 2) (.tmp 50) rfl (w.heap.size) ((Rq.mk r.a (r.l - n) r.s r.z).cells) ?vs1508a 0 ?vs1508b ?vs1508c ?vs1508d ?vs1508e ?vs1508f ?vs1508g); (case vs1508a => rfl); (case vs1508b => rfl); (case vs1508c => exact of_decide_eq_true rfl); (case vs1508d => rfl); (case vs1508e => rfl); (case vs1508f => rfl); (intro W2 hW2); (have HV7 : Hid (VS w [(w.heap.size, x.cells), (w.heap.size + 1, Rq.no.cells), (w2.heap.size, [.int .u64 p.1, .int .u32 p.2.1, .int .u32 p.2.2])] W2) := hid hW2); (clear hW2 HV6); (obtain ⟨c0, c1, c2, c3, c4, c5, c6, c7, c8, c9⟩ := Rq.at x (HV7.out.cs 0 rfl))) | ((with_reducible refine wpList_put_vs HV7.out 1 162 [.int .u64 x.a.t, .int .u32 x.a.r, .int .u32 x.a.v, .int .i64 x.a.i, .int .u64 x.a.u, .int .u32 x.a.s, .int .u32 x.a.y, .int .u64 x.l, .int .u64 x.s, .bool x.z] infoReq rfl (.tmp 4) (.tmp 52) rfl (w.heap.size + 1) (Rq.no.cells) ?vs1509a 0 ?vs1509b ?vs1509c ?vs1509d ?vs1509e ?vs1509f ?vs1509g); (case vs1509a => rfl); (case vs1509b => rfl); (case vs1509c => exact of_decide_eq_true rfl); (case vs1509d => rfl); (case vs1509e => rfl); (case vs1509f => rfl); (intro W2 hW2); (have HV8 : Hid (VS w [(w.heap.size, x.cells), (w.heap.size + 1, x.cells), (w2.heap.size, [.int .u64 p.1, .int .u32 p.2.1, .int .u32 p.2.2])] W2) := hid hW2); (clear hW2 HV7); (clear c0 c1 c2 c3 c4 c5 c6 c7 c8 c9)) | fail)
          obtain ⟨z0, z1, z2, z3, z4, z5, z6, z7, z8, z9⟩ := Rq.at x (HV8.out.cs 1 rfl)
          go_wp2_with fail
          refine bodyPost_ret (v := .tuple #[Rq.val x, .bool false, .bool b]) (by simp [results, Tryz.results154, go_sem, z0, z1, z2, z3, z4, z5, z6, z7, z8, z9]) rfl ⟨rfl, HV8.out.bel⟩
end

end Go.Proofs.YtlkhkhdacgeicaaGreatDoor

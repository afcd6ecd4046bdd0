/- Texts of SettleShifts's proof, together. -/
import Derived.Test.YtjchnkmolhgpmaaGreatDoorSpB
import Derived.Test.YtjchnkmolhgpmaaGreatDoorSettleShiftsZ32
import Derived.Test.YtjchnkmolhgpmaaGreatDoorSettleShiftsZ25
import Derived.Test.YtjchnkmolhgpmaaGreatDoorBits
import Derived.Test.YtjchnkmolhgpmaaGreatDoorSettleShiftsZ0
import Derived.Test.YtjchnkmolhgpmaaGreatDoorWideD
import Derived.Test.YtjchnkmolhgpmaaGreatDoorSettleShiftsZ29
import Derived.Test.YtjchnkmolhgpmaaGreatDoorTxt
import Derived.Test.YtjchnkmolhgpmaaGreatDoorSettleShiftsZ9
import Derived.Test.YtjchnkmolhgpmaaGreatDoorSettleShiftsZ7
import Derived.Test.YtjchnkmolhgpmaaGreatDoorOpen
import Derived.Test.YtjchnkmolhgpmaaGreatDoorSettleShiftsZ13
import Derived.Test.YtjchnkmolhgpmaaGreatDoorOpenN
import Derived.Test.YtjchnkmolhgpmaaGreatDoorCs
import Derived.Test.YtjchnkmolhgpmaaGreatDoorOrdG
import Derived.Deep.LoopGhost
import Derived.Deep.QuietTactic
import Derived.BigQuiet
import Derived.Laws.OwnMore
import Derived.Deep.AppendLies
import Derived.Deep.RegionHeld3
import Derived.Deep.RegionWith
import Derived.OwnWalk
import Derived.Deep.CutBlock
import Derived.Deep.DeepCutAuto
import Derived.Shelf.Strings.Repeat
import Derived.Lib.ItoaNum
import Derived.OpenShut
import Derived.Deep.SlicePairs
import Derived.Test.YtjchnkmolhgpmaaGreatDoorSettleShiftsZ30
namespace Go.Proofs.YtjchnkmolhgpmaaGreatDoor

section
open Go.RowKit
section
variable {P : Program} {ops : Array Oper} {Q : Exit → Act → World → Prop} {md : Region.Mode} {S0 : World → Prop} {S : World → Prop}
theorem wpAnyE_slice1 {n i : Nat} {oi : Oper} {fuel : Nat} {listed : Array Bool} {a : Act} (T : World → Nat → Prop) (hi : ops[i]? = some oi) (hr : Region.ready md ops listed = [i]) (hin : i < n) (hw : Region.wanted oi (yielded ops a.tmps) = true)
  (hst : Stays S) (hs0 : ∀ w, S w → S0 w) (hT : ∀ g, Stays (fun w => T w g)) (hrun : ∀ w, S w → ∃ w', (execOp a.eval oi).run P w = .ok (.value (.slice (some ⟨w.heap.size, 0, none⟩) 1 1)) w' ∧ Below w.heap.size w w' ∧ T w' w.heap.size)
  (h : ∀ g, wpAnyE P md ops Q S0 n fuel (fun w => S w ∧ T w g) (listed.setIfInBounds i true) (a.put oi.dst (.slice (some ⟨g, 0, none⟩) 1 1))) : wpAnyE P md ops Q S0 n (fuel + 1) S listed a :=
 wpAnyE_one hi hr hin hw (fun w hS K hK => by
  obtain ⟨w', e, hb, hT'⟩ := hrun w hS;unfold Oper.wp;rw [e];exact hK.out _ _ (fun w2 => S w2 ∧ T w2 w.heap.size) (fun _ h => hs0 _ h.1) (fun x y hx hb => ⟨hst _ _ hx.1 hb, hT _ _ _ hx.2 hb⟩) ⟨hst _ _ hS hb, hT'⟩ (h _))
end
theorem stays_tt (_x : Unit) : Stays (fun _ : World => True) := fun _ _ _ _ => trivial
end


section
open Go.RowKit
set_option maxRecDepth 100000
set_option maxHeartbeats 32000000
theorem add_in {m : Mu} {p : P3} (hm : m.In) (hp : PIn p) : (m.add p).2.In := by
 unfold Mu.add;split
 ·rename_i h
  unfold Mu.addOk at h;simp only [Bool.and_eq_true, decide_eq_true_eq] at h;obtain ⟨⟨⟨h1, h2⟩, h3⟩, h4⟩ := h;have h5 := pR_isP hp h2;have hw : 0 ≤ m.w ∧ m.w ≤ 33554432 := by
   unfold Mu.right at h1;split at h1
   ·simp at h1; omega
   ·simp only [Bool.and_eq_true, decide_eq_true_eq] at h1; omega
  have hn : 0 ≤ m.n := by
   unfold Mu.right at h1;split at h1
   ·omega
   ·simp only [Bool.and_eq_true, decide_eq_true_eq] at h1; omega
  have hv := hp.2.2;refine ⟨hm.1, okW_iff.1 h4, ⟨?_, ?_⟩, ?_, ?_⟩ <;> simp only <;> omega
 ·exact Mu.no_in
theorem reb_in {m : Mu} {t : Int} (hm : m.In) (ht : IsT t) : (m.reb t).2.In := by
 unfold Mu.reb;split
 ·rename_i h
  unfold Mu.rebOk at h;simp only [Bool.and_eq_true] at h;exact ⟨ht, okW_iff.1 h.2, hm.2.2.1, hm.2.2.2⟩
 ·exact Mu.no_in
theorem fl_T {m : Mu} : IsT m.fl.2 := by
 unfold Mu.fl;split
 ·exact adv_T _ _
 ·exact ⟨by decide, by decide⟩
def nowM (m : Mu) : Mu := if m.fl.1 = true then (m.reb m.fl.2).2 else m
theorem nowM_in {m : Mu} (hm : m.In) : (nowM m).In := by
 unfold nowM;split
 ·exact reb_in hm fl_T
 ·exact hm
def baseI (m : Mu) (a : It) : Int := if m.n = 0 then a.t else m.b
def withM (m : Mu) (l : List It) (a : It) : Bool × Mu :=
 if withinI (baseI m a) (l ++ [a]) = true then ((Mu.add ⟨baseI m a, m.a, m.w, m.n⟩ a.pp).1, nowM (Mu.add ⟨baseI m a, m.a, m.w, m.n⟩ a.pp).2) else (false, Mu.no)
def F2 (w : World) (g : Nat) (m k : Mu) (w' : World) : Prop := (Cs w' g m.cells ∧ Cs w' (g + 1) k.cells) ∧ w.heap.size ≤ g ∧ Below w.heap.size w w'
theorem F2.below {w w1 w2 : World} {g : Nat} {m k : Mu} (h : F2 w g m k w1) (hb : Below w1.heap.size w1 w2) : F2 w g m k w2 := ⟨⟨h.1.1.below hb, h.1.2.below hb⟩, h.2.1, below_on h.2.2 hb⟩
theorem F2.put1 {w w1 : World} {g : Nat} {m k : Mu} (h : F2 w g m k w1) (j : Mu) {W : World} (hW : W = w1.setCells g 0 j.cells) : F2 w g j k W := by
 rw [hW]; exact ⟨⟨Cs.putL j.cells 0 h.1.1 (by simp [Mu.cells]), h.1.2.fars (by omega) _ _⟩, h.2.1, below_sets h.2.1 _ _ h.2.2⟩
theorem F2.put2 {w w1 : World} {g : Nat} {m k : Mu} (h : F2 w g m k w1) (j : Mu) {W : World} (hW : W = w1.setCells (g + 1) 0 j.cells) : F2 w g m j W := by
 rw [hW]; exact ⟨⟨h.1.1.fars (by omega) _ _, Cs.putL j.cells 0 h.1.2 (by simp [Mu.cells])⟩, h.2.1, below_sets (by have := h.2.1; omega) _ _ h.2.2⟩
theorem zero_cells : (Mu.mk 0 0 0 0).cells = [.int .u64 0, .int .i64 0, .int .u64 0, .int .u64 0, .int .i64 0] := by unfold Mu.cells; rw [show hiW 0 = 0 by decide, show loW 0 = 0 by decide]
theorem Queue.fromNow (m : Mu) (hm : m.In) (w : World) : Calls Tryz.prog 139 #[m.val] w (Ans (nowM m).val w) := by
 have HM := hid hm;have HF0 : Hid (F2 w w.heap.size m ⟨0, 0, 0, 0⟩ ((w.alloc (.cells #[.int .u64 m.b, .int .i64 (hiW m.a), .int .u64 (loW m.a), .int .u64 m.w, .int .i64 m.n] 111)).alloc (.cells #[.int .u64 0, .int .i64 0, .int .u64 0, .int .u64 0, .int .i64 0] 111))) := hid (by
  have h1 := Cs.alloc_new6 w 111 m.cells;have h2 := Cs.alloc_new6 (w.alloc (.cells #[.int .u64 m.b, .int .i64 (hiW m.a), .int .u64 (loW m.a), .int .u64 m.w, .int .i64 m.n] 111)) 111 [.int .u64 0, .int .i64 0, .int .u64 0, .int .u64 0, .int .i64 0];simp only [World.size_alloc] at h2;exact ⟨⟨h1.alloc _, by rw [zero_cells]; exact h2⟩, Nat.le_refl _, ((Below.refl w.heap.size w).alloc (Nat.le_refl _) _).alloc (by simp) _⟩)
 have HRI := hid (reb_in hm (t := m.fl.2) fl_T);clear hm;unfold Mu.val;go_enter Tryz.func139, Tryz.ntmps139;go_wp2_with fail;generalize ((w.alloc (.cells #[.int .u64 m.b, .int .i64 (hiW m.a), .int .u64 (loW m.a), .int .u64 m.w, .int .i64 m.n] 111)).alloc (.cells #[.int .u64 0, .int .i64 0, .int .u64 0, .int .u64 0, .int .i64 0] 111)) = W0 at HF0 ⊢;obtain ⟨m0, m1, m2, m3, m4⟩ := Mu.at m HF0.out.1.1;go_wp2_with fail;refine (Mean.floor m HM.out _).mono ?_;rintro e w1 ⟨rfl, hb⟩;have HF1 := hid (HF0.out.below hb);clear hb HF0 m0 m1 m2 m3 m4;obtain ⟨ok, t, hf⟩ : ∃ ok t, m.fl = (ok, t) := ⟨_, _, rfl⟩
 rw [hf] at HRI ⊢;have HE : Hid (nowM m = if ok = true then (m.reb t).2 else m) := hid (by unfold nowM; rw [hf]);clear hf;dsimp only at HRI ⊢;obtain ⟨m0, m1, m2, m3, m4⟩ := Mu.at m HF1.out.1.1;have HCA := hid HF1.out.1.2;cases ok with
 | false =>
  go_wp2_with (first | ((with_reducible refine pc 111 m.cells infoMean 2 12 (w.heap.size + 1) _ HCA.out ?qa1f); (intro W2 hW2); (have HF2 := hid (HF1.out.put2 m hW2)); (clear hW2 m0 m1 m2 m3 m4); (obtain ⟨z0, z1, z2, z3, z4⟩ := Mu.at m HF2.out.1.2)) | fail);refine bodyPost_ret (v := m.val) (by simp [results, Tryz.results139, go_sem, z0, z1, z2, z3, z4, Mu.val]) rfl ⟨by rw [HE.out, if_neg (by decide)], HF2.out.2.2⟩
 | true =>
  obtain ⟨k, hk⟩ : ∃ k, m.reb t = k := ⟨_, rfl⟩
  rw [hk] at HE HRI;go_wp2_with fail;refine (Mean.rebase m t HM.out _).mono ?_;rw [hk];rintro e w2 ⟨rfl, hb⟩;have HF2 := hid (HF1.out.below hb);have HCB := hid HF2.out.1.1;clear hb HF1 m0 m1 m2 m3 m4 hk HCA;go_wp2_with (first
   | ((with_reducible refine pc 111 k.2.cells infoMean 1 17 w.heap.size _ HCB.out ?qa2f); (intro W2 hW2); (have HF3 := hid (HF2.out.put1 k.2 hW2)); (have HCC := hid HF3.out.1.2); (clear hW2); (obtain ⟨m0, m1, m2, m3, m4⟩ := Mu.at k.2 HF3.out.1.1))
   | ((with_reducible refine pc 111 k.2.cells infoMean 2 19 (w.heap.size + 1) _ HCC.out ?qa3f); (intro W3 hW3); (have HF4 := hid (HF3.out.put2 k.2 hW3)); (clear hW3 m0 m1 m2 m3 m4); (obtain ⟨z0, z1, z2, z3, z4⟩ := Mu.at k.2 HF4.out.1.2))
   | fail)
  refine bodyPost_ret (v := k.2.val) (by simp [results, Tryz.results139, go_sem, z0, z1, z2, z3, z4, Mu.val]) rfl ⟨by rw [HE.out]; simp [Mu.val], HF4.out.2.2⟩
theorem Chg.on {F : List Nat} {a b c : World} (h : Chg F a b) (hb : Below b.heap.size b c) : Chg F a c := h.trans (Chg.below (F := []) hb) (by simp)
def W3v (w : World) (F : List Nat) (m : Mu) (x : It) (k : Mu) (w' : World) : Prop := (Cs w' w.heap.size m.cells ∧ Cs w' (w.heap.size + 1) x.cells ∧ Cs w' (w.heap.size + 2) k.cells) ∧ Chg F w w'
theorem W3v.below {w w1 w2 : World} {F : List Nat} {m k : Mu} {x : It} (h : W3v w F m x k w1) (hb : Below w1.heap.size w1 w2) : W3v w F m x k w2 := ⟨⟨h.1.1.below hb, h.1.2.1.below hb, h.1.2.2.below hb⟩, h.2.on hb⟩
theorem W3v.put1 {w w1 : World} {F : List Nat} {m k : Mu} {x : It} (h : W3v w F m x k w1) (j : Mu) {W : World} (hW : W = w1.setCells w.heap.size 0 j.cells) : W3v w F j x k W := by
 rw [hW]; exact ⟨⟨Cs.putL j.cells 0 h.1.1 (by simp [Mu.cells]), h.1.2.1.fars (by omega) _ _, h.1.2.2.fars (by omega) _ _⟩, Chg.sets _ _ h.2 (Or.inr (Nat.le_refl _))⟩
theorem W3v.put3 {w w1 : World} {F : List Nat} {m k : Mu} {x : It} (h : W3v w F m x k w1) (j : Mu) {W : World} (hW : W = w1.setCells (w.heap.size + 2) 0 j.cells) : W3v w F m x j W := by
 rw [hW]; exact ⟨⟨h.1.1.fars (by omega) _ _, h.1.2.1.fars (by omega) _ _, Cs.putL j.cells 0 h.1.2.2 (by simp [Mu.cells])⟩, Chg.sets _ _ h.2 (Or.inr (by omega))⟩
theorem W3v.chg {w w1 w2 : World} {F : List Nat} {m k : Mu} {x : It} (h : W3v w F m x k w1) (hc : Chg F w1 w2) (hF : ∀ q ∈ F, q < w.heap.size) : W3v w F m x k w2 :=
 ⟨⟨h.1.1.chg hc (fun hq => by have := hF _ hq; omega), h.1.2.1.chg hc (fun hq => by have := hF _ hq; omega), h.1.2.2.chg hc (fun hq => by have := hF _ hq; omega)⟩, h.2.trans hc (fun g hg => Or.inl hg)⟩
theorem W3v.base {w w1 : World} {F : List Nat} {m k : Mu} {x : It} (h : W3v w F m x k w1) (b : Int) : W3v w F ⟨b, m.a, m.w, m.n⟩ x k (w1.setCell ⟨w.heap.size, 0, none⟩ (.int .u64 b)) :=
 ⟨⟨h.1.1.putAt 0 (by simp [Mu.cells]) _, h.1.2.1.far (by omega) _ _, h.1.2.2.far (by omega) _ _⟩, h.2.set (Or.inr (Nat.le_refl _)) _ _⟩
theorem withM_in {m : Mu} {l : List It} {a : It} (hm : m.In) (ha : a.In) : (withM m l a).2.In := by
 unfold withM;split
 ·refine nowM_in (add_in ⟨?_, hm.2.1, hm.2.2.1, hm.2.2.2⟩ ⟨ha.1, ha.2.1, ha.2.2.1⟩)
  show 0 ≤ baseI m a ∧ _
  unfold baseI;split
  ·exact ha.1
  ·exact hm.1
 ·exact Mu.no_in
def AnsC (F : List Nat) (v : Value) (w : World) (e : Ending) (w' : World) : Prop := e = .returned v ∧ Chg F w w'
section
variable {ops : Array Oper} {Q : Exit → Act → World → Prop} {md : Region.Mode} {S0 : World → Prop} {S : World → Prop}
theorem wpAnyE_append_it {t i : Nat} {oi : Oper} {fuel : Nat} {listed : Array Bool} {a : Act} (hi : ops[i]? = some oi) (hr : Region.ready md ops listed = [i]) (hin : i < t) (hw : Region.wanted oi (yielded ops a.tmps) = true) (hgd : oi.guard = none) (s x : Operand)
  (ho : oi.op = .call { callee := .builtin .append, args := #[s, x], argTypes := #[156, 156] })
  (base : Nat) (A : Option Addr) (n c : Nat) (l : List It) (b : Nat) (d : It) (hn : n ≤ 1000000) (hown : ∀ w, S w → OwnI w base A n c l ∧ Th w b d ∧ base ≤ w.heap.size)
  (S' : Option Addr → Nat → World → Prop) (hS : ∀ w w' A' c', S w → OwnI w' base A' (n + 1) c' (l ++ [d]) → Chg (rowOf A) w w' → (∀ k ∈ rowOf A', k ∈ rowOf A ∨ w.heap.size ≤ k) → S' A' c' w')
  (hsub : ∀ A' c' w, S' A' c' w → S0 w) (hst : ∀ A' c', Stays (S' A' c')) (hs : a.eval s = .slice A n c) (hx : a.eval x = .slice (some ⟨b, 0, none⟩) 1 1)
  (h : ∀ A' c', wpAnyE Tryz.prog md ops Q S0 t fuel (S' A' c') (listed.setIfInBounds i true) (a.put oi.dst (.slice A' (n + 1) c'))) : wpAnyE Tryz.prog md ops Q S0 t (fuel + 1) S listed a :=
 wpAnyE_one hi hr hin hw (fun w hSw K hK => by
  obtain ⟨h1, h2, h3⟩ := hown w hSw;have := step_append_it (ops := ops) (a := a) (K := K) (Q := Q) (E := False) w hgd s x ho base A n c l hs h1 b d hx h2 hn h3 (fun A' c' w' g1 g2 g3 => hK.out _ _ (S' A' c') (hsub A' c') (hst A' c') (hS w w' A' c' hSw g1 g2 g3) (h A' c'))
  rwa [if_pos hw] at this)
end
theorem Queue.with0 (m : Mu) (hm : m.In) (x : It) (hx : x.In) (A : Option Addr) (n c : Nat) (l : List It) (w : World) (base : Nat) (hb0 : base ≤ w.heap.size) (ho : OwnI w base A n c l) (hn : n ≤ 900000) (hz : m.n = 0) : Calls Tryz.prog 91 #[m.val, .slice A n c, x.val] w (AnsC (rowOf A) (.tuple #[Mu.val (withM m l x).2, .bool (withM m l x).1]) w) := by
 have hn : n ≤ 1000000 := by omega
 have HB0 := hid hb0;have HXP : Hid (PIn x.pp) := hid ⟨hx.1, hx.2.1, hx.2.2.1⟩;have HROW : Hid (∀ q ∈ rowOf A, q < w.heap.size) := hid (fun q hq => (ho.rowGe q hq).2);have hbelow := (((Below.refl w.heap.size w).alloc (Nat.le_refl _) (.cells #[.int .u64 m.b, .int .i64 (hiW m.a), .int .u64 (loW m.a), .int .u64 m.w, .int .i64 m.n] 111)).alloc (by simp) (.cells #[.int .u64 x.t, .int .u32 x.r, .int .u32 x.v, .int .i64 x.i, .int .u64 x.u, .int .u32 x.s, .int .u32 x.y] 57)).alloc (by simp; omega) (.cells #[.int .u64 0, .int .i64 0, .int .u64 0, .int .u64 0, .int .i64 0] 111);have HV0 : Hid (W3v w (rowOf A) m x ⟨0, 0, 0, 0⟩ (((w.alloc (.cells #[.int .u64 m.b, .int .i64 (hiW m.a), .int .u64 (loW m.a), .int .u64 m.w, .int .i64 m.n] 111)).alloc (.cells #[.int .u64 x.t, .int .u32 x.r, .int .u32 x.v, .int .i64 x.i, .int .u64 x.u, .int .u32 x.s, .int .u32 x.y] 57)).alloc (.cells #[.int .u64 0, .int .i64 0, .int .u64 0, .int .u64 0, .int .i64 0] 111))) := hid (by
  have h1 := Cs.alloc_new6 w 111 m.cells;have h2 := Cs.new7 (w.alloc (.cells #[.int .u64 m.b, .int .i64 (hiW m.a), .int .u64 (loW m.a), .int .u64 m.w, .int .i64 m.n] 111)) 57 x;have h3 := Cs.alloc_new6 ((w.alloc (.cells #[.int .u64 m.b, .int .i64 (hiW m.a), .int .u64 (loW m.a), .int .u64 m.w, .int .i64 m.n] 111)).alloc (.cells #[.int .u64 x.t, .int .u32 x.r, .int .u32 x.v, .int .i64 x.i, .int .u64 x.u, .int .u32 x.s, .int .u32 x.y] 57)) 111 [.int .u64 0, .int .i64 0, .int .u64 0, .int .u64 0, .int .i64 0];simp only [World.size_alloc] at h2 h3;exact ⟨⟨(h1.alloc _).alloc _, h2.alloc _, by rw [zero_cells]; exact h3⟩, Chg.below hbelow⟩)
 have HO0 := hid (ho.below hbelow);have HX := hid hx;obtain ⟨M, hM⟩ : ∃ M : Mu, M = ⟨x.t, m.a, m.w, m.n⟩ := ⟨_, rfl⟩
 have HM : Hid M.In := hid (by rw [hM]; exact ⟨hx.1, hm.2.1, hm.2.2.1, hm.2.2.2⟩);have HE : Hid (withM m l x = if withinI M.b (l ++ [x]) = true then ((M.add x.pp).1, nowM (M.add x.pp).2) else (false, Mu.no)) := hid (by unfold withM baseI; rw [hM]; simp only [if_pos hz]);have HME := hid hM;have c0 : (m.n == 0) = true := by rw [hz]; rfl
 clear hm hx ho hbelow hz hM;unfold Mu.val It.val;go_enter Tryz.func91, Tryz.ntmps91;go_upto_region 1 with fail;generalize (((w.alloc (.cells #[.int .u64 m.b, .int .i64 (hiW m.a), .int .u64 (loW m.a), .int .u64 m.w, .int .i64 m.n] 111)).alloc (.cells #[.int .u64 x.t, .int .u32 x.r, .int .u32 x.v, .int .i64 x.i, .int .u64 x.u, .int .u32 x.s, .int .u32 x.y] 57)).alloc (.cells #[.int .u64 0, .int .i64 0, .int .u64 0, .int .u64 0, .int .i64 0] 111)) = W at HV0 HO0 ⊢;obtain ⟨m0, m1, m2, m3, m4⟩ := Mu.at m HV0.out.1.1;obtain ⟨q0, q1, q2, q3, q4, q5, q6⟩ := It.at x HV0.out.1.2.1;have f0 := HV0.out.1.1.fr0;go_upto_region 3 with fail;clear m0 m1 m2 m3 m4 q0 q1 q2 q3 q4 q5 q6 f0;have HV : Hid (W3v w (rowOf A) M x ⟨0, 0, 0, 0⟩ (W.setCell ⟨w.heap.size, 0, none⟩ (.int .u64 x.t))) := hid (by rw [HME.out]; exact HV0.out.base x.t);have HO := hid (HO0.out.chg2 (F := [w.heap.size]) (Chg.set (g := w.heap.size) (Chg.refl [w.heap.size] W) (Or.inl (by simp)) 0 (.int .u64 x.t)) (fun q hq h => by have := HROW.out q hq; simp at h; omega));clear HV0 HO0;generalize W.setCell ⟨w.heap.size, 0, none⟩ (.int .u64 x.t) = W at HV HO ⊢;obtain ⟨m0, m1, m2, m3, m4⟩ := Mu.at M HV.out.1.1;obtain ⟨q0, q1, q2, q3, q4, q5, q6⟩ := It.at x HV.out.1.2.1;clear m0 m1 m2 m3 m4 q0 q1 q2 q3 q4 q5 q6;have HQ0 := hid (And.intro HV.out HO.out);go_wp2_with fail;have hsT : Stays (fun wx => W3v w (rowOf A) M x ⟨0, 0, 0, 0⟩ wx) := fun _ _ h hb => h.below hb
 have hsU : Stays (fun wx => W3v w (rowOf A) M x ⟨0, 0, 0, 0⟩ wx ∧ OwnI wx base A n c l) := fun _ _ h hb => ⟨h.1.below hb, h.2.below hb⟩
 refine wp_region_any (by kernel_rfl) (wpAny_of_E (S0 := (fun wx => W3v w (rowOf A) M x ⟨0, 0, 0, 0⟩ wx)) (n := 8) _ (fun wx => W3v w (rowOf A) M x ⟨0, 0, 0, 0⟩ wx ∧ OwnI wx base A n c l) _ _ _ (hsU _ _ HQ0.out (Below.refl _ _).drew) ?_);refine wpAnyE_take (i := 0) (v := ?_) hsU (fun _ h => h.1) rfl (by kernel_rfl) (by kernel_rfl) (by kernel_rfl) (by kernel_rfl) (fun _ _ _ h => h) (SteadyB.of_yields (Or.inl ⟨by rfl, ?_⟩)) ?_;rotate_left
 ·intro wq hSw;go_simp; try with_reducible rfl
 try simp only [tdy]
 refine wpAnyE_take (i := 1) (v := ?_) hsU (fun _ h => h.1) rfl (by kernel_rfl) (by kernel_rfl) (by kernel_rfl) (by kernel_rfl) (fun _ _ _ h => h) (SteadyB.of_yields (Or.inl ⟨by rfl, ?_⟩)) ?_;rotate_left
 ·intro wq hSw;obtain ⟨m0, m1, m2, m3, m4⟩ := Mu.at M hSw.1.1;obtain ⟨q0, q1, q2, q3, q4, q5, q6⟩ := It.at x hSw.1.2.1;go_simp; try with_reducible rfl
 try simp only [tdy]
 refine wpAnyE_take (i := 2) (v := ?_) hsU (fun _ h => h.1) rfl (by kernel_rfl) (by kernel_rfl) (by kernel_rfl) (by kernel_rfl) (fun _ _ _ h => h) (SteadyB.of_yields (Or.inl ⟨by rfl, ?_⟩)) ?_;rotate_left
 ·intro wq hSw;go_simp; try with_reducible rfl
 try simp only [tdy]
 refine wpAnyE_take (i := 3) (v := ?_) hsU (fun _ h => h.1) rfl (by kernel_rfl) (by kernel_rfl) (by kernel_rfl) (by kernel_rfl) (fun _ _ _ h => h) (SteadyB.of_yields (Or.inl ⟨by rfl, ?_⟩)) ?_;rotate_left
 ·intro wq hSw;obtain ⟨m0, m1, m2, m3, m4⟩ := Mu.at M hSw.1.1;obtain ⟨q0, q1, q2, q3, q4, q5, q6⟩ := It.at x hSw.1.2.1;go_simp; try with_reducible rfl
 try simp only [tdy]
 refine wpAnyE_slice1 (i := 4) (fun wx g => Cs wx g x.cells) rfl (by kernel_rfl) (by decide) (by rfl) hsU (fun _ h => h.1) (fun g => fun _ _ h hb => h.below hb) (fun wq hSw => ?_) (fun gs => ?_)
 ·exact ⟨_, by go_simp; (try with_reducible rfl), (Below.refl _ _).alloc (Nat.le_refl _) _, Cs.new7 _ _ x⟩
 try simp only [tdy]
 refine wpAnyE_append_it (i := 5) rfl (by kernel_rfl) (by decide) (by rfl) rfl (.tmp 18) (.tmp 20) rfl base A n c l gs x hn (fun wq hSw => ⟨hSw.1.2, It.at x hSw.2, Nat.le_trans HB0.out hSw.1.1.2.size⟩) (fun A4 c4 wx => W3v w (rowOf A) M x ⟨0, 0, 0, 0⟩ wx ∧ RdI wx A4 (n + 1) (l ++ [x])) (fun _ _ _ _ hSw g1 g2 _ => ⟨hSw.1.1.chg g2 HROW.out, g1.rdi⟩) (fun _ _ _ h => h.1) (fun _ _ => fun _ _ h hb => ⟨h.1.below hb, h.2.below hb⟩) rfl rfl (fun A4 c4 => ?_);try simp only [tdy]
 refine wpAnyE_call (i := 6) (fun _ : Unit => Value.bool (withinI M.b (l ++ [x]))) (fun (_ : Unit) (_ : World) => True) rfl (by kernel_rfl) (by decide) (by rfl) (fun _ _ h hb => ⟨h.1.below hb, h.2.below hb⟩) (fun _ h => h.1) (fun yq => stays_tt yq) (fun wq hSw => ?_) (fun yq => ?_)
 ·exact RunI.of_calls (Span.within M.b A4 (n + 1) c4 (l ++ [x]) wq hSw.2 (by omega)) (by go_simp) (fun e w' h => ⟨(), h.1, trivial, h.2⟩)
 obtain ⟨⟩ := yq;try simp only [tdy]
 refine tF 7 (fun _ _ h hb => ⟨⟨h.1.1.below hb, h.1.2.below hb⟩, trivial⟩) (fun _ h => h.1.1) ?_;try simp only [tdy]
 refine wpAnyE_done (by kernel_rfl) (fun wz hSz => ?_) _;replace hSz := hSz.1;have HV5 := hid hSz.1;clear hSz HQ0 HV HO;obtain ⟨wi, hwi⟩ : ∃ wi, withinI M.b (l ++ [x]) = wi := ⟨_, rfl⟩
 rw [hwi] at HE ⊢;clear hwi;obtain ⟨m0, m1, m2, m3, m4⟩ := Mu.at M HV5.out.1.1;obtain ⟨q0, q1, q2, q3, q4, q5, q6⟩ := It.at x HV5.out.1.2.1;cases wi with
 | false =>
  have HCA := hid HV5.out.1.2.2;go_wp2_with (first | ((with_reducible refine pc 111 [.int .u64 0, .int .i64 0, .int .u64 0, .int .u64 0, .int .i64 0] infoMean 6 24 (w.heap.size + 2) _ HCA.out ?qa4f); (intro W2 hW2); (rw [← zero_cells] at hW2); (have HV6 := hid (HV5.out.put3 ⟨0, 0, 0, 0⟩ hW2)); (clear hW2 m0 m1 m2 m3 m4 q0 q1 q2 q3 q4 q5 q6); (obtain ⟨z0, z1, z2, z3, z4⟩ := Mu.at _ HV6.out.1.2.2)) | fail);refine bodyPost_ret (v := .tuple #[Mu.val ⟨0, 0, 0, 0⟩, .bool false]) (by simp [results, Tryz.results91, go_sem, z0, z1, z2, z3, z4, Mu.val]) rfl ⟨by rw [HE.out]; rfl, HV6.out.2⟩
 | true =>
  obtain ⟨ok, k, hk⟩ : ∃ ok k, M.add x.pp = (ok, k) := ⟨_, _, rfl⟩
  have HKI : Hid k.In := hid (by have := add_in HM.out HXP.out; rwa [hk] at this);rw [hk] at HE;go_wp2_with fail;refine (Mean.add M x.pp HM.out HXP.out _).mono ?_;rw [hk];rintro e w6 ⟨rfl, hb⟩;have HV6 := hid (HV5.out.below hb);have HCB := hid HV6.out.1.1;clear hb hk HV5 m0 m1 m2 m3 m4 q0 q1 q2 q3 q4 q5 q6;go_wp2_with (first | ((with_reducible refine pc 111 k.cells infoMean 3 30 w.heap.size _ HCB.out ?qa5f); (intro W2 hW2); (have HV7 := hid (HV6.out.put1 k hW2)); (clear hW2); (obtain ⟨m0, m1, m2, m3, m4⟩ := Mu.at k HV7.out.1.1)) | fail);clear m0 m1 m2 m3 m4;refine (Queue.fromNow k HKI.out _).mono ?_;rintro e w8 ⟨rfl, hb⟩;have HV8 := hid (HV7.out.below hb);have HCC := hid HV8.out.1.2.2;clear hb HV6 HV7;obtain ⟨j, hj⟩ : ∃ j, nowM k = j := ⟨_, rfl⟩
  simp only [hj] at HE;rw [hj];clear hj;go_wp2_with (first | ((with_reducible refine pc 111 j.cells infoMean 6 33 (w.heap.size + 2) _ HCC.out ?qa6f); (intro W2 hW2); (have HV9 := hid (HV8.out.put3 j hW2)); (clear hW2); (obtain ⟨z0, z1, z2, z3, z4⟩ := Mu.at j HV9.out.1.2.2)) | fail);refine bodyPost_ret (v := .tuple #[Mu.val j, .bool ok]) (by simp [results, Tryz.results91, go_sem, z0, z1, z2, z3, z4, Mu.val]) rfl ⟨by rw [HE.out]; rfl, HV9.out.2⟩
theorem Queue.with1 (m : Mu) (hm : m.In) (x : It) (hx : x.In) (A : Option Addr) (n c : Nat) (l : List It) (w : World) (base : Nat) (hb0 : base ≤ w.heap.size) (ho : OwnI w base A n c l) (hn : n ≤ 900000) (hz : ¬ m.n = 0) : Calls Tryz.prog 91 #[m.val, .slice A n c, x.val] w (AnsC (rowOf A) (.tuple #[Mu.val (withM m l x).2, .bool (withM m l x).1]) w) := by
 have hn : n ≤ 1000000 := by omega
 have HB0 := hid hb0;have HXP : Hid (PIn x.pp) := hid ⟨hx.1, hx.2.1, hx.2.2.1⟩;have HROW : Hid (∀ q ∈ rowOf A, q < w.heap.size) := hid (fun q hq => (ho.rowGe q hq).2);have hbelow := (((Below.refl w.heap.size w).alloc (Nat.le_refl _) (.cells #[.int .u64 m.b, .int .i64 (hiW m.a), .int .u64 (loW m.a), .int .u64 m.w, .int .i64 m.n] 111)).alloc (by simp) (.cells #[.int .u64 x.t, .int .u32 x.r, .int .u32 x.v, .int .i64 x.i, .int .u64 x.u, .int .u32 x.s, .int .u32 x.y] 57)).alloc (by simp; omega) (.cells #[.int .u64 0, .int .i64 0, .int .u64 0, .int .u64 0, .int .i64 0] 111);have HV0 : Hid (W3v w (rowOf A) m x ⟨0, 0, 0, 0⟩ (((w.alloc (.cells #[.int .u64 m.b, .int .i64 (hiW m.a), .int .u64 (loW m.a), .int .u64 m.w, .int .i64 m.n] 111)).alloc (.cells #[.int .u64 x.t, .int .u32 x.r, .int .u32 x.v, .int .i64 x.i, .int .u64 x.u, .int .u32 x.s, .int .u32 x.y] 57)).alloc (.cells #[.int .u64 0, .int .i64 0, .int .u64 0, .int .u64 0, .int .i64 0] 111))) := hid (by
  have h1 := Cs.alloc_new6 w 111 m.cells;have h2 := Cs.new7 (w.alloc (.cells #[.int .u64 m.b, .int .i64 (hiW m.a), .int .u64 (loW m.a), .int .u64 m.w, .int .i64 m.n] 111)) 57 x;have h3 := Cs.alloc_new6 ((w.alloc (.cells #[.int .u64 m.b, .int .i64 (hiW m.a), .int .u64 (loW m.a), .int .u64 m.w, .int .i64 m.n] 111)).alloc (.cells #[.int .u64 x.t, .int .u32 x.r, .int .u32 x.v, .int .i64 x.i, .int .u64 x.u, .int .u32 x.s, .int .u32 x.y] 57)) 111 [.int .u64 0, .int .i64 0, .int .u64 0, .int .u64 0, .int .i64 0];simp only [World.size_alloc] at h2 h3;exact ⟨⟨(h1.alloc _).alloc _, h2.alloc _, by rw [zero_cells]; exact h3⟩, Chg.below hbelow⟩)
 have HO0 := hid (ho.below hbelow);have HX := hid hx;obtain ⟨M, hM⟩ : ∃ M : Mu, M = ⟨m.b, m.a, m.w, m.n⟩ := ⟨_, rfl⟩
 have HM : Hid M.In := hid (by rw [hM]; exact ⟨hm.1, hm.2.1, hm.2.2.1, hm.2.2.2⟩);have HE : Hid (withM m l x = if withinI M.b (l ++ [x]) = true then ((M.add x.pp).1, nowM (M.add x.pp).2) else (false, Mu.no)) := hid (by unfold withM baseI; rw [hM]; simp only [if_neg hz]);have HME := hid hM;have c0 : (m.n == 0) = false := by simpa using hz
 clear hm hx ho hbelow hz hM;unfold Mu.val It.val;go_enter Tryz.func91, Tryz.ntmps91;go_upto_region 1 with fail;generalize (((w.alloc (.cells #[.int .u64 m.b, .int .i64 (hiW m.a), .int .u64 (loW m.a), .int .u64 m.w, .int .i64 m.n] 111)).alloc (.cells #[.int .u64 x.t, .int .u32 x.r, .int .u32 x.v, .int .i64 x.i, .int .u64 x.u, .int .u32 x.s, .int .u32 x.y] 57)).alloc (.cells #[.int .u64 0, .int .i64 0, .int .u64 0, .int .u64 0, .int .i64 0] 111)) = W at HV0 HO0 ⊢;have HV : Hid (W3v w (rowOf A) M x ⟨0, 0, 0, 0⟩ W) := hid (by rw [HME.out]; exact HV0.out);have HO := HO0;obtain ⟨m0, m1, m2, m3, m4⟩ := Mu.at m HV0.out.1.1;go_upto_region 3 with fail;clear HV0 HO0 m0 m1 m2 m3 m4;obtain ⟨m0, m1, m2, m3, m4⟩ := Mu.at M HV.out.1.1;obtain ⟨q0, q1, q2, q3, q4, q5, q6⟩ := It.at x HV.out.1.2.1;clear m0 m1 m2 m3 m4 q0 q1 q2 q3 q4 q5 q6;have HQ0 := hid (And.intro HV.out HO.out);go_wp2_with fail;have hsT : Stays (fun wx => W3v w (rowOf A) M x ⟨0, 0, 0, 0⟩ wx) := fun _ _ h hb => h.below hb
 have hsU : Stays (fun wx => W3v w (rowOf A) M x ⟨0, 0, 0, 0⟩ wx ∧ OwnI wx base A n c l) := fun _ _ h hb => ⟨h.1.below hb, h.2.below hb⟩
 refine wp_region_any (by kernel_rfl) (wpAny_of_E (S0 := (fun wx => W3v w (rowOf A) M x ⟨0, 0, 0, 0⟩ wx)) (n := 8) _ (fun wx => W3v w (rowOf A) M x ⟨0, 0, 0, 0⟩ wx ∧ OwnI wx base A n c l) _ _ _ (hsU _ _ HQ0.out (Below.refl _ _).drew) ?_);refine wpAnyE_take (i := 0) (v := ?_) hsU (fun _ h => h.1) rfl (by kernel_rfl) (by kernel_rfl) (by kernel_rfl) (by kernel_rfl) (fun _ _ _ h => h) (SteadyB.of_yields (Or.inl ⟨by rfl, ?_⟩)) ?_;rotate_left
 ·intro wq hSw;go_simp; try with_reducible rfl
 try simp only [tdy]
 refine wpAnyE_take (i := 1) (v := ?_) hsU (fun _ h => h.1) rfl (by kernel_rfl) (by kernel_rfl) (by kernel_rfl) (by kernel_rfl) (fun _ _ _ h => h) (SteadyB.of_yields (Or.inl ⟨by rfl, ?_⟩)) ?_;rotate_left
 ·intro wq hSw;obtain ⟨m0, m1, m2, m3, m4⟩ := Mu.at M hSw.1.1;obtain ⟨q0, q1, q2, q3, q4, q5, q6⟩ := It.at x hSw.1.2.1;go_simp; try with_reducible rfl
 try simp only [tdy]
 refine wpAnyE_take (i := 2) (v := ?_) hsU (fun _ h => h.1) rfl (by kernel_rfl) (by kernel_rfl) (by kernel_rfl) (by kernel_rfl) (fun _ _ _ h => h) (SteadyB.of_yields (Or.inl ⟨by rfl, ?_⟩)) ?_;rotate_left
 ·intro wq hSw;go_simp; try with_reducible rfl
 try simp only [tdy]
 refine wpAnyE_take (i := 3) (v := ?_) hsU (fun _ h => h.1) rfl (by kernel_rfl) (by kernel_rfl) (by kernel_rfl) (by kernel_rfl) (fun _ _ _ h => h) (SteadyB.of_yields (Or.inl ⟨by rfl, ?_⟩)) ?_;rotate_left
 ·intro wq hSw;obtain ⟨m0, m1, m2, m3, m4⟩ := Mu.at M hSw.1.1;obtain ⟨q0, q1, q2, q3, q4, q5, q6⟩ := It.at x hSw.1.2.1;go_simp; try with_reducible rfl
 try simp only [tdy]
 refine wpAnyE_slice1 (i := 4) (fun wx g => Cs wx g x.cells) rfl (by kernel_rfl) (by decide) (by rfl) hsU (fun _ h => h.1) (fun g => fun _ _ h hb => h.below hb) (fun wq hSw => ?_) (fun gs => ?_)
 ·exact ⟨_, by go_simp; (try with_reducible rfl), (Below.refl _ _).alloc (Nat.le_refl _) _, Cs.new7 _ _ x⟩
 try simp only [tdy]
 refine wpAnyE_append_it (i := 5) rfl (by kernel_rfl) (by decide) (by rfl) rfl (.tmp 18) (.tmp 20) rfl base A n c l gs x hn (fun wq hSw => ⟨hSw.1.2, It.at x hSw.2, Nat.le_trans HB0.out hSw.1.1.2.size⟩) (fun A4 c4 wx => W3v w (rowOf A) M x ⟨0, 0, 0, 0⟩ wx ∧ RdI wx A4 (n + 1) (l ++ [x])) (fun _ _ _ _ hSw g1 g2 _ => ⟨hSw.1.1.chg g2 HROW.out, g1.rdi⟩) (fun _ _ _ h => h.1) (fun _ _ => fun _ _ h hb => ⟨h.1.below hb, h.2.below hb⟩) rfl rfl (fun A4 c4 => ?_);try simp only [tdy]
 refine wpAnyE_call (i := 6) (fun _ : Unit => Value.bool (withinI M.b (l ++ [x]))) (fun (_ : Unit) (_ : World) => True) rfl (by kernel_rfl) (by decide) (by rfl) (fun _ _ h hb => ⟨h.1.below hb, h.2.below hb⟩) (fun _ h => h.1) (fun yq => stays_tt yq) (fun wq hSw => ?_) (fun yq => ?_)
 ·exact RunI.of_calls (Span.within M.b A4 (n + 1) c4 (l ++ [x]) wq hSw.2 (by omega)) (by go_simp) (fun e w' h => ⟨(), h.1, trivial, h.2⟩)
 obtain ⟨⟩ := yq;try simp only [tdy]
 refine tF 7 (fun _ _ h hb => ⟨⟨h.1.1.below hb, h.1.2.below hb⟩, trivial⟩) (fun _ h => h.1.1) ?_;try simp only [tdy]
 refine wpAnyE_done (by kernel_rfl) (fun wz hSz => ?_) _;replace hSz := hSz.1;have HV5 := hid hSz.1;clear hSz HQ0 HV HO;obtain ⟨wi, hwi⟩ : ∃ wi, withinI M.b (l ++ [x]) = wi := ⟨_, rfl⟩
 rw [hwi] at HE ⊢;clear hwi;obtain ⟨m0, m1, m2, m3, m4⟩ := Mu.at M HV5.out.1.1;obtain ⟨q0, q1, q2, q3, q4, q5, q6⟩ := It.at x HV5.out.1.2.1;cases wi with
 | false =>
  have HCA := hid HV5.out.1.2.2;go_wp2_with (first | ((with_reducible refine pc 111 [.int .u64 0, .int .i64 0, .int .u64 0, .int .u64 0, .int .i64 0] infoMean 6 24 (w.heap.size + 2) _ HCA.out ?qa7f); (intro W2 hW2); (rw [← zero_cells] at hW2); (have HV6 := hid (HV5.out.put3 ⟨0, 0, 0, 0⟩ hW2)); (clear hW2 m0 m1 m2 m3 m4 q0 q1 q2 q3 q4 q5 q6); (obtain ⟨z0, z1, z2, z3, z4⟩ := Mu.at _ HV6.out.1.2.2)) | fail);refine bodyPost_ret (v := .tuple #[Mu.val ⟨0, 0, 0, 0⟩, .bool false]) (by simp [results, Tryz.results91, go_sem, z0, z1, z2, z3, z4, Mu.val]) rfl ⟨by rw [HE.out]; rfl, HV6.out.2⟩
 | true =>
  obtain ⟨ok, k, hk⟩ : ∃ ok k, M.add x.pp = (ok, k) := ⟨_, _, rfl⟩
  have HKI : Hid k.In := hid (by have := add_in HM.out HXP.out; rwa [hk] at this);rw [hk] at HE;go_wp2_with fail;refine (Mean.add M x.pp HM.out HXP.out _).mono ?_;rw [hk];rintro e w6 ⟨rfl, hb⟩;have HV6 := hid (HV5.out.below hb);have HCB := hid HV6.out.1.1;clear hb hk HV5 m0 m1 m2 m3 m4 q0 q1 q2 q3 q4 q5 q6;go_wp2_with (first | ((with_reducible refine pc 111 k.cells infoMean 3 30 w.heap.size _ HCB.out ?qa8f); (intro W2 hW2); (have HV7 := hid (HV6.out.put1 k hW2)); (clear hW2); (obtain ⟨m0, m1, m2, m3, m4⟩ := Mu.at k HV7.out.1.1)) | fail);clear m0 m1 m2 m3 m4;refine (Queue.fromNow k HKI.out _).mono ?_;rintro e w8 ⟨rfl, hb⟩;have HV8 := hid (HV7.out.below hb);have HCC := hid HV8.out.1.2.2;clear hb HV6 HV7;obtain ⟨j, hj⟩ : ∃ j, nowM k = j := ⟨_, rfl⟩
  simp only [hj] at HE;rw [hj];clear hj;go_wp2_with (first | ((with_reducible refine pc 111 j.cells infoMean 6 33 (w.heap.size + 2) _ HCC.out ?qa9f); (intro W2 hW2); (have HV9 := hid (HV8.out.put3 j hW2)); (clear hW2); (obtain ⟨z0, z1, z2, z3, z4⟩ := Mu.at j HV9.out.1.2.2)) | fail);refine bodyPost_ret (v := .tuple #[Mu.val j, .bool ok]) (by simp [results, Tryz.results91, go_sem, z0, z1, z2, z3, z4, Mu.val]) rfl ⟨by rw [HE.out]; rfl, HV9.out.2⟩
theorem Queue.with (m : Mu) (hm : m.In) (x : It) (hx : x.In) (A : Option Addr) (n c : Nat) (l : List It) (w : World) (base : Nat) (hb0 : base ≤ w.heap.size) (ho : OwnI w base A n c l) (hn : n ≤ 900000) : Calls Tryz.prog 91 #[m.val, .slice A n c, x.val] w (AnsC (rowOf A) (.tuple #[Mu.val (withM m l x).2, .bool (withM m l x).1]) w) := by
 by_cases hz : m.n = 0
 ·exact Queue.with0 m hm x hx A n c l w base hb0 ho hn hz
 ·exact Queue.with1 m hm x hx A n c l w base hb0 ho hn hz
end


section
open Go.RowKit
structure Qok (b : Int) (l : List It) : Prop where
 fw : Fw b l
 srt : SrtI l
 ids : (l.map (·.i)).Nodup
 now : nowI b l = b
 base : IsT b
def joinC (b : Int) (l : List It) (a : It) : Int :=
 if a.right = false then 2 else if (l.any fun y => decide (y.i = a.i)) = true then 13 else if l.length = 32 then 7 else if withinI (fromI b l a) (l ++ [a]) = false then 8 else 0
theorem joinC_0 {b : Int} {l : List It} {a : It} (h : joinC b l a = 0) : a.right = true ∧ (∀ y ∈ l, y.i ≠ a.i) ∧ l.length ≠ 32 ∧ withinI (fromI b l a) (l ++ [a]) = true := by
 unfold joinC at h;split at h
 ·cases h
 ·rename_i h1
  split at h
  ·cases h
  ·rename_i h2
   split at h
   ·cases h
   ·rename_i h3
    split at h
    ·cases h
    ·rename_i h4
     exact ⟨by simpa using h1, by simpa using h2, h3, by simpa using h4⟩
theorem Qok.nil {b : Int} (h : IsT b) : Qok b [] := ⟨Fw.nil b, List.Pairwise.nil, by simp, by simp [nowI], h⟩
theorem qM_nil (b c : Int) : (⟨c, (qM b []).a, (qM b []).w, (qM b []).n⟩ : Mu) = qM c [] := by simp [qM, Mu.sums, sumD, sumW]
theorem base_from (b : Int) (l : List It) (a : It) : baseI (qM b l) a = fromI b l a := by
 unfold baseI fromI qM Mu.sums;simp
theorem from_qM (b : Int) (l : List It) (a : It) : (⟨fromI b l a, (qM b l).a, (qM b l).w, (qM b l).n⟩ : Mu) = qM (fromI b l a) l := by
 unfold fromI;split
 ·rename_i h
  have : l = [] := List.eq_nil_of_length_eq_zero h;subst this;exact qM_nil _ _
 ·rfl
theorem Fw.settled {b : Int} {l : List It} (h : Fw b l) (h0 : 0 < l.length) : nowM (qM b l) = qM (nowI b l) l := by
 obtain ⟨h1, h2⟩ := h.settle h0;unfold nowM;rw [h1, if_pos rfl, h2]
theorem Qok.join {b : Int} {l : List It} {a : It} (h : Qok b l) (ha : a.In) (hj : joinC b l a = 0) :
  withM (qM b l) l a = (true, qM (nowI (fromI b l a) (l ++ [a])) (insI a l)) ∧ Qok (nowI (fromI b l a) (l ++ [a])) (insI a l) ∧ (∀ (t : Tr It), t.list = l → Tr.has It.ahead a t = false ∧ ∀ k, (Tr.put It.ahead k a t).list = insI a l) := by
 obtain ⟨h1, h2, h3, h4⟩ := joinC_0 hj;have h32 : l.length < 32 := by have := h.fw.few; omega
 obtain ⟨hF, hadd⟩ := h.fw.join h.now ha h1 h32 h4;have p := insI_perm a l;have hT : IsT (fromI b l a) := by unfold fromI; split; exact ha.1; exact h.base
 obtain ⟨T, k, hn⟩ := hF.nar;have hna : nar T a = true := (hn a (by simp)).1;have hnl : ∀ y ∈ l, nar T y = true := fun y hy => (hn y (by simp [hy])).1
 have hns : ∀ y ∈ l, ¬ same a y := fun y hy hs => by
  have := Wd.ahead_ne hna (hnl y hy) (fun e => h2 y hy e.symm);rw [hs.1, hs.2] at this;cases this
 refine ⟨?_, ⟨?_, ?_, ?_, ?_, nowI_T hT _⟩, fun t ht => ⟨?_, fun k => ?_⟩⟩
 ·unfold withM;rw [base_from, if_pos h4, from_qM, hadd];dsimp only;rw [hF.settled (by simp), qM_perm (nowI (fromI b l a) (l ++ [a])) p]
 ·exact (hF.now).perm p
 ·exact Wd.SrtI.ins hna hnl h.srt hns
 ·rw [(p.map (·.i)).nodup_iff.symm, List.map_append, List.nodup_append];refine ⟨h.ids, by simp, fun x hx y hy e => ?_⟩;obtain ⟨z, hz, rfl⟩ := List.mem_map.1 hx;simp at hy;exact h2 z hz (e.trans hy)
 ·rw [← nowI_perm _ p]; exact hF.now_now
 ·cases hh : Tr.has It.ahead a t with
  | false => rfl
  | true =>
   obtain ⟨y, hy, hs⟩ := (Wd.has_iffI a hna t (by rw [ht]; exact hnl) (by rw [ht]; exact h.srt)).1 hh;rw [ht] at hy;exact absurd hs (hns y hy)
 ·rw [Wd.list_putI k a hna t (by rw [ht]; exact hnl) (by rw [ht]; exact h.srt), ht]
theorem Qok.join_no {b : Int} {l : List It} {a : It} (h : withinI (fromI b l a) (l ++ [a]) = false) : withM (qM b l) l a = (false, Mu.no) := by
 unfold withM;rw [base_from, if_neg (by rw [h]; simp)]
end


section
open Go.RowKit
theorem ahead_irr {T : Int} {x : It} (h : nar T x = true) : It.ahead x x = false := by
 cases e : It.ahead x x with
 | false => rfl
 | true => have := Wd.ahead_asym h h e; rw [e] at this; exact this
theorem Qok.nar {b : Int} {l : List It} (h : Qok b l) : ∃ T : Int, ∀ a ∈ l, nar T a = true := by
 obtain ⟨T, k, hn⟩ := h.fw.nar;exact ⟨T, fun a ha => (hn a ha).1⟩
theorem Qok.has {b : Int} {l : List It} (h : Qok b l) {x : It} (hx : x ∈ l) {t : Tr It} (ht : t.list = l) : Tr.has It.ahead x t = true := by
 obtain ⟨T, hn⟩ := h.nar;exact (Wd.has_iffI x (hn x hx) t (by rw [ht]; exact hn) (by rw [ht]; exact h.srt)).2 ⟨x, by rw [ht]; exact hx, ahead_irr (hn x hx), ahead_irr (hn x hx)⟩
theorem Qok.parts {b : Int} {l : List It} (h : Qok b l) {x : It} (hx : x ∈ l) : ∃ A B, l = A ++ x :: B ∧ (∀ y ∈ A ++ B, y.i ≠ x.i) ∧ Tr.Has It.ahead x A x B := by
 obtain ⟨T, hn⟩ := h.nar;obtain ⟨A, B, rfl⟩ := List.append_of_mem hx;refine ⟨A, B, rfl, ?_, ?_⟩
 ·have hi := h.ids;rw [List.map_append, List.map_cons, List.nodup_append, List.nodup_cons] at hi;intro y hy e;rcases List.mem_append.1 hy with hy | hy
  ·exact hi.2.2 y.i (List.mem_map_of_mem hy) x.i (by simp) e
  ·exact hi.2.1.1 (by rw [← e]; exact List.mem_map_of_mem hy)
 ·have hs := h.srt;unfold SrtI at hs;rw [List.pairwise_append, List.pairwise_cons] at hs;refine ⟨fun a ha => ?_, fun c hc => ?_, ahead_irr (hn x (by simp)), ahead_irr (hn x (by simp))⟩
  ·have h1 := hs.2.2 a ha x (by simp);exact ⟨h1, Wd.ahead_asym (hn a (by simp [ha])) (hn x (by simp)) h1⟩
  ·have h1 := hs.2.1.1 c hc;exact ⟨h1, Wd.ahead_asym (hn x (by simp)) (hn c (by simp [hc])) h1⟩
theorem Qok.leave {b : Int} {A B : List It} {x : It} (h : Qok b (A ++ x :: B)) :
  (qM b (A ++ x :: B)).take x.pp = (true, qM b (A ++ B)) ∧ (qM b (A ++ B)).In ∧ nowM (qM b (A ++ B)) = qM (nowI b (A ++ B)) (A ++ B) ∧ Qok (nowI b (A ++ B)) (A ++ B) := by
 obtain ⟨h1, h2⟩ := h.fw.take;have hsub : (A ++ B).Sublist (A ++ x :: B) := List.Sublist.append_left (List.sublist_cons_self x B) A;refine ⟨h1, sums_in h.base h2.pps h2.n32, ?_, ⟨h2.now, List.Pairwise.sublist hsub h.srt, List.Pairwise.sublist (hsub.map (·.i)) h.ids, h2.now_now, nowI_T h.base _⟩⟩;by_cases h0 : 0 < (A ++ B).length
 ·exact h2.settled h0
 ·have e : A ++ B = [] := by
   cases hh : A ++ B with
   | nil => rfl
   | cons c l => rw [hh] at h0; simp at h0
  rw [e];unfold nowM;rw [none_fl b, if_neg (by simp)];simp [nowI]
end


section
open Go.RowKit
def lesI (i : Int) (l : List It) : List It := l.filter fun y => !(y.i == i)
def anyI (i : Int) (l : List It) : Bool := l.any fun y => y.i == i
theorem lesI_sh (d i : Int) (l : List It) : lesI i (l.map (It.shift d)) = (lesI i l).map (It.shift d) := by
 unfold lesI;rw [List.filter_map];rfl
theorem anyI_sh (d i : Int) (l : List It) : anyI i (l.map (It.shift d)) = anyI i l := by
 unfold anyI;rw [List.any_map];rfl
theorem lesI_no {i : Int} {l : List It} (h : anyI i l = false) : lesI i l = l := by
 unfold anyI at h;unfold lesI;rw [List.any_eq_false] at h;exact List.filter_eq_self.2 (fun y hy => by have := h y hy; simpa using this)
theorem joinC_sh (b d : Int) (l : List It) (a : It) : joinC (IntKind.u64.wrap (b + d)) (l.map (It.shift d)) (It.shift d a) = joinC b l a := by
 unfold joinC;have h1 : ((l.map (It.shift d)).any fun y => decide (y.i = (It.shift d a).i)) = l.any fun y => decide (y.i = a.i) := by rw [List.any_map]; rfl
 have h2 : l.map (It.shift d) ++ [It.shift d a] = (l ++ [a]).map (It.shift d) := by simp
 rw [right_sh, h1, List.length_map, fromI_sh, h2, within_sh]
theorem now1_sh (b d : Int) (l : List It) (a : It) : nowI (fromI (IntKind.u64.wrap (b + d)) (l.map (It.shift d)) (It.shift d a)) (l.map (It.shift d) ++ [It.shift d a]) = IntKind.u64.wrap (nowI (fromI b l a) (l ++ [a]) + d) := by
 have h2 : l.map (It.shift d) ++ [It.shift d a] = (l ++ [a]).map (It.shift d) := by simp
 rw [fromI_sh, h2, nowI_sh]
theorem Qok.sh {b : Int} {l : List It} (h : Qok b l) (d : Int) : Qok (IntKind.u64.wrap (b + d)) (l.map (It.shift d)) := by
 refine ⟨h.fw.sh d, ?_, ?_, ?_, ?_⟩
 ·unfold SrtI;rw [List.pairwise_map];exact List.Pairwise.imp (fun hh => by rw [It.ahead_shift]; exact hh) h.srt
 ·rw [List.map_map];exact h.ids
 ·rw [nowI_sh, h.now]
 ·unfold IsT; rw [IntKind.wrap_u64]; omega
theorem elig_sh {b d : Int} {l : List It} (h : Fw b l) {z : It} (hz : z ∈ l) : (qM (IntKind.u64.wrap (b + d)) (l.map (It.shift d))).elig (It.shift d z).pp = (qM b l).elig z.pp := by
 have e1 := elig_iff (h.sh d) (x := It.shift d z) (List.mem_map_of_mem hz);have e2 := elig_iff h hz;rw [ov_sh] at e1;rw [Bool.eq_iff_iff];exact e1.trans e2.symm
theorem filter_sh {d : Int} {l : List It} {m1 m2 : Mu} (key : ∀ z ∈ l, m2.elig (It.shift d z).pp = m1.elig z.pp) : (l.map (It.shift d)).filter (fun y => m2.elig y.pp) = (l.filter (fun y => m1.elig y.pp)).map (It.shift d) := by
 rw [List.filter_map];exact congrArg (List.map (It.shift d)) (List.filter_congr key)
theorem best_sh {T d : Int} {F : List It} {x y : It} (hn : ∀ a ∈ F.map (It.shift d), nar T a = true) (hi : (F.map (·.i)).Nodup) (hx : IsBest x F) (hy : IsBest y (F.map (It.shift d))) : y = It.shift d x :=
 bestQ_one hn (by rw [List.map_map]; exact hi) hy ⟨List.mem_map_of_mem hx.1, fun c hc => by
  obtain ⟨z, hz, rfl⟩ := List.mem_map.1 hc;rw [It.due_shift];exact hx.2 z hz⟩
theorem first_sh {b d : Int} {l k : List It} (h : Qok b l) (hu : k = l.map (It.shift d)) {x y : It} (hx : IsBest x (l.filter (fun y => (qM b l).elig y.pp))) (hy : IsBest y (k.filter (fun y => (qM (IntKind.u64.wrap (b + d)) k).elig y.pp))) : y = It.shift d x := by
 subst hu;rw [filter_sh (fun z hz => elig_sh h.fw hz)] at hy;obtain ⟨T, hn⟩ := (h.sh d).nar;refine best_sh (T := T) (fun a ha => ?_) (List.Pairwise.sublist (List.Sublist.map _ List.filter_sublist) h.ids) hx hy;obtain ⟨z, hz, rfl⟩ := List.mem_map.1 ha;exact hn _ (List.mem_map_of_mem (List.mem_filter.1 hz).1)
end

end Go.Proofs.YtjchnkmolhgpmaaGreatDoor

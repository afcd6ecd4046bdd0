/- Texts of SettleShifts's proof, together. -/
import Derived.Test.YtjchnkmolhgpmaaGreatDoorSettleShiftsZ29
import Derived.Laws.StructEq
import Derived.Test.YtjchnkmolhgpmaaGreatDoorSettleShiftsZ0
import Derived.Test.YtjchnkmolhgpmaaGreatDoorSettleShiftsZ14
namespace Go.Proofs.YtjchnkmolhgpmaaGreatDoor

section
open Go.RowKit
theorem dif_wrap (t u d : Int) : dif (IntKind.u64.wrap (t + d)) (IntKind.u64.wrap (u + d)) = dif t u := by
 rw [IntKind.wrap_u64, IntKind.wrap_u64]; unfold dif; omega
theorem It.ahead_shift (d : Int) (a b : It) : It.ahead (It.shift d a) (It.shift d b) = It.ahead a b := by
 unfold It.ahead It.shift posC; simp only [dif_wrap]
theorem It.due_shift (d : Int) (a b : It) : It.due (It.shift d a) (It.shift d b) = It.due a b := by
 have h := It.ahead_shift d a b;unfold It.due;rw [h];unfold It.shift posC; simp only [dif_wrap]
end


section
open Go.RowKit
def withinI (b : Int) (l : List It) : Bool := decide (spreadI b l ≤ 4611686018427387904)
theorem right_dif {a : It} (h : a.right = true) : 0 ≤ dif a.u a.t ∧ dif a.u a.t ≤ 1152921504606846976 := by
 unfold It.right at h;simp only [Bool.and_eq_true, decide_eq_true_eq] at h;omega
theorem fold_lo (b c k : Int) : ∀ (ps : List P3) (m : Int), (∀ p ∈ ps, dif p.1 c = dif p.1 b - k) → ps.foldl (fun m q => min m (dif q.1 c)) (m - k) = ps.foldl (fun m q => min m (dif q.1 b)) m - k
 | [], _, _ => rfl
 | p :: ps, m, h => by
  rw [List.foldl_cons, List.foldl_cons, h p (by simp), show min (m - k) (dif p.1 b - k) = min m (dif p.1 b) - k by omega];exact fold_lo b c k ps _ (fun q hq => h q (by simp [hq]))
theorem fold_hi (b c k : Int) : ∀ (ps : List P3) (m : Int), (∀ p ∈ ps, dif p.1 c = dif p.1 b - k) → ps.foldl (fun m q => max m (dif q.1 c)) (m - k) = ps.foldl (fun m q => max m (dif q.1 b)) m - k
 | [], _, _ => rfl
 | p :: ps, m, h => by
  rw [List.foldl_cons, List.foldl_cons, h p (by simp), show max (m - k) (dif p.1 b - k) = max m (dif p.1 b) - k by omega];exact fold_hi b c k ps _ (fun q hq => h q (by simp [hq]))
theorem lo_base (b c k : Int) {ps : List P3} (h0 : 0 < ps.length) (h : ∀ p ∈ ps, dif p.1 c = dif p.1 b - k) : loL c ps = loL b ps - k := by
 cases ps with
 | nil => simp at h0
 | cons p ps => unfold loL; simp only; rw [h p (by simp)]; exact fold_lo b c k ps _ (fun q hq => h q (by simp [hq]))
theorem hi_base (b c k : Int) {ps : List P3} (h0 : 0 < ps.length) (h : ∀ p ∈ ps, dif p.1 c = dif p.1 b - k) : hiL c ps = hiL b ps - k := by
 cases ps with
 | nil => simp at h0
 | cons p ps => unfold hiL; simp only; rw [h p (by simp)]; exact fold_hi b c k ps _ (fun q hq => h q (by simp [hq]))
theorem spread_base (b c k : Int) {l : List It} (h0 : 0 < l.length) (h1 : ∀ a ∈ l, dif a.t c = dif a.t b - k) (h2 : ∀ a ∈ l, dif a.u c = dif a.u b - k) : spreadI c l = spreadI b l := by
 rw [(spreadI_eq c l).1, (spreadI_eq b l).1];rw [lo_base b c k (ps := l.map It.pp) (by simpa using h0) (fun p hp => by obtain ⟨a, ha, rfl⟩ := List.mem_map.1 hp; exact h1 a ha)];rw [hi_base b c k (ps := l.map It.pp) (by simpa using h0) (fun p hp => by obtain ⟨a, ha, rfl⟩ := List.mem_map.1 hp; exact h1 a ha)];rw [hi_base b c k (ps := l.map It.dp) (by simpa using h0) (fun p hp => by obtain ⟨a, ha, rfl⟩ := List.mem_map.1 hp; exact h2 a ha)];omega
theorem spread_shift (b d : Int) (l : List It) : spreadI (IntKind.u64.wrap (b + d)) (l.map (It.shift d)) = spreadI b l := by
 have ep : (l.map (It.shift d)).map It.pp = (l.map It.pp).map (shP d) := by rw [List.map_map, List.map_map]; rfl
 have ed : (l.map (It.shift d)).map It.dp = (l.map It.dp).map (shP d) := by rw [List.map_map, List.map_map]; rfl
 have flo : ∀ (ps : List P3) (m : Int), (ps.map (shP d)).foldl (fun m q => min m (dif q.1 (IntKind.u64.wrap (b + d)))) m = ps.foldl (fun m q => min m (dif q.1 b)) m := by
  intro ps
  induction ps with
  | nil => intro m; rfl
  | cons p ps ih => intro m; rw [List.map_cons, List.foldl_cons, List.foldl_cons, ih]; congr 2; exact dif_wrapM _ _ _
 have fhi : ∀ (ps : List P3) (m : Int), (ps.map (shP d)).foldl (fun m q => max m (dif q.1 (IntKind.u64.wrap (b + d)))) m = ps.foldl (fun m q => max m (dif q.1 b)) m := by
  intro ps
  induction ps with
  | nil => intro m; rfl
  | cons p ps ih => intro m; rw [List.map_cons, List.foldl_cons, List.foldl_cons, ih]; congr 2; exact dif_wrapM _ _ _
 have elo : ∀ ps : List P3, loL (IntKind.u64.wrap (b + d)) (ps.map (shP d)) = loL b ps := by
  intro ps; cases ps with
  | nil => rfl
  | cons p ps => unfold loL; rw [List.map_cons]; simp only; rw [flo]; congr 1; exact dif_wrapM _ _ _
 have ehi : ∀ ps : List P3, hiL (IntKind.u64.wrap (b + d)) (ps.map (shP d)) = hiL b ps := by
  intro ps; cases ps with
  | nil => rfl
  | cons p ps => unfold hiL; rw [List.map_cons]; simp only; rw [fhi]; congr 1; exact dif_wrapM _ _ _
 unfold spreadI;rw [ep, ed, elo, ehi, ehi]
theorem lo_le (b : Int) (ps : List P3) : ∀ m : Int, ps.foldl (fun m q => min m (dif q.1 b)) m ≤ m ∧ ∀ p ∈ ps, ps.foldl (fun m q => min m (dif q.1 b)) m ≤ dif p.1 b := by
 induction ps with
 | nil => intro m; exact ⟨Int.le_refl _, by simp⟩
 | cons q ps ih =>
  intro m;obtain ⟨h1, h2⟩ := ih (min m (dif q.1 b));rw [List.foldl_cons];refine ⟨by omega, fun p hp => ?_⟩;rcases List.mem_cons.1 hp with rfl | hp
  ·omega
  ·exact h2 p hp
theorem hi_ge (b : Int) (ps : List P3) : ∀ m : Int, m ≤ ps.foldl (fun m q => max m (dif q.1 b)) m ∧ ∀ p ∈ ps, dif p.1 b ≤ ps.foldl (fun m q => max m (dif q.1 b)) m := by
 induction ps with
 | nil => intro m; exact ⟨Int.le_refl _, by simp⟩
 | cons q ps ih =>
  intro m;obtain ⟨h1, h2⟩ := ih (max m (dif q.1 b));rw [List.foldl_cons];refine ⟨by omega, fun p hp => ?_⟩;rcases List.mem_cons.1 hp with rfl | hp
  ·omega
  ·exact h2 p hp
theorem loL_le {b : Int} {ps : List P3} : ∀ p ∈ ps, loL b ps ≤ dif p.1 b := by
 cases ps with
 | nil => simp
 | cons q ps => intro p hp; rcases List.mem_cons.1 hp with rfl | hp; exact (lo_le b ps _).1; exact (lo_le b ps _).2 p hp
theorem hiL_ge {b : Int} {ps : List P3} : ∀ p ∈ ps, dif p.1 b ≤ hiL b ps := by
 cases ps with
 | nil => simp
 | cons q ps => intro p hp; rcases List.mem_cons.1 hp with rfl | hp; exact (hi_ge b ps _).1; exact (hi_ge b ps _).2 p hp
theorem lo_mem (b : Int) (ps : List P3) : ∀ m : Int, ps.foldl (fun m q => min m (dif q.1 b)) m = m ∨ ∃ p ∈ ps, ps.foldl (fun m q => min m (dif q.1 b)) m = dif p.1 b := by
 induction ps with
 | nil => intro m; exact Or.inl rfl
 | cons q ps ih =>
  intro m;rw [List.foldl_cons];rcases ih (min m (dif q.1 b)) with h | ⟨p, hp, h⟩
  ·rcases Int.le_total m (dif q.1 b) with g | g
   ·left; rw [h]; omega
   ·right; exact ⟨q, by simp, by rw [h]; omega⟩
  ·exact Or.inr ⟨p, by simp [hp], h⟩
theorem hi_mem (b : Int) (ps : List P3) : ∀ m : Int, ps.foldl (fun m q => max m (dif q.1 b)) m = m ∨ ∃ p ∈ ps, ps.foldl (fun m q => max m (dif q.1 b)) m = dif p.1 b := by
 induction ps with
 | nil => intro m; exact Or.inl rfl
 | cons q ps ih =>
  intro m;rw [List.foldl_cons];rcases ih (max m (dif q.1 b)) with h | ⟨p, hp, h⟩
  ·rcases Int.le_total m (dif q.1 b) with g | g
   ·right; exact ⟨q, by simp, by rw [h]; omega⟩
   ·left; rw [h]; omega
  ·exact Or.inr ⟨p, by simp [hp], h⟩
theorem loL_mem {b : Int} {ps : List P3} (h : 0 < ps.length) : ∃ p ∈ ps, loL b ps = dif p.1 b := by
 cases ps with
 | nil => simp at h
 | cons q ps =>
  rcases lo_mem b ps (dif q.1 b) with g | ⟨p, hp, g⟩
  ·exact ⟨q, by simp, g⟩
  ·exact ⟨p, by simp [hp], g⟩
theorem hiL_mem {b : Int} {ps : List P3} (h : 0 < ps.length) : ∃ p ∈ ps, hiL b ps = dif p.1 b := by
 cases ps with
 | nil => simp at h
 | cons q ps =>
  rcases hi_mem b ps (dif q.1 b) with g | ⟨p, hp, g⟩
  ·exact ⟨q, by simp, g⟩
  ·exact ⟨p, by simp [hp], g⟩
theorem pos_of {a : It} (hi : a.In) (h : a.right = true) : pR a.pp = true ∧ PIn a.pp := by
 unfold It.right posOk at h;simp only [Bool.and_eq_true, decide_eq_true_eq] at h;refine ⟨?_, hi.1, hi.2.1, hi.2.2.1⟩;unfold pR;simp only [Bool.and_eq_true, decide_eq_true_eq];exact h.1.1.1.1.1
end


section
open Go.RowKit
structure Fw (b : Int) (l : List It) : Prop where
 few : l.length ≤ 32
 inI : InI l
 right : ∀ a ∈ l, a.right = true
 near : ∀ a ∈ l, -4611686018427387904 ≤ dif a.t b ∧ dif a.t b ≤ 4611686018427387904 ∧ -4611686018427387904 ≤ dif a.u b ∧ dif a.u b ≤ 4611686018427387904
 within : spreadI b l ≤ 4611686018427387904
theorem Fw.pps {b : Int} {l : List It} (h : Fw b l) : ∀ p ∈ l.map It.pp, pR p = true ∧ PIn p := fun p hp => by
 obtain ⟨a, ha, rfl⟩ := List.mem_map.1 hp;exact pos_of (h.inI a ha) (h.right a ha)
theorem Fw.n32 {b : Int} {l : List It} (h : Fw b l) : (l.map It.pp).length ≤ 32 := by rw [List.length_map]; exact h.few
theorem Fw.lohi {b : Int} {l : List It} (h : Fw b l) (h0 : 0 < l.length) : ∃ lo hi : Int, spreadI b l = hi - lo ∧ (∀ a ∈ l, lo ≤ dif a.t b ∧ dif a.t b ≤ hi ∧ lo ≤ dif a.u b ∧ dif a.u b ≤ hi) ∧ hi - lo ≤ 4611686018427387904 ∧ -4611686018427387904 ≤ lo ∧ hi ≤ 4611686018427387904 ∧ lo ≤ hi ∧ ∃ a ∈ l, lo = dif a.t b := by
 have e := (spreadI_eq b l).1;have hw := h.within;obtain ⟨q, hq, hlo⟩ := loL_mem (b := b) (ps := l.map It.pp) (by simpa using h0);obtain ⟨aq, haq, rfl⟩ := List.mem_map.1 hq;simp only at hlo;have l1 : ∀ a ∈ l, loL b (l.map It.pp) ≤ dif a.t b := fun a ha => loL_le a.pp (List.mem_map.2 ⟨a, ha, rfl⟩)
 have l2 : ∀ a ∈ l, dif a.t b ≤ hiL b (l.map It.pp) := fun a ha => hiL_ge a.pp (List.mem_map.2 ⟨a, ha, rfl⟩)
 have l3 : ∀ a ∈ l, dif a.u b ≤ hiL b (l.map It.dp) := fun a ha => hiL_ge a.dp (List.mem_map.2 ⟨a, ha, rfl⟩)
 obtain ⟨p, hp, hhi⟩ := hiL_mem (b := b) (ps := l.map It.pp) (by simpa using h0);obtain ⟨ap, hap, rfl⟩ := List.mem_map.1 hp;obtain ⟨p2, hp2, hhi2⟩ := hiL_mem (b := b) (ps := l.map It.dp) (by simpa using h0);obtain ⟨ap2, hap2, rfl⟩ := List.mem_map.1 hp2;simp only at hhi hhi2;have n1 := h.near aq haq;have n2 := h.near ap hap;have n3 := h.near ap2 hap2;have g1 := l2 aq haq;refine ⟨loL b (l.map It.pp), max (hiL b (l.map It.pp)) (hiL b (l.map It.dp)), e, fun a ha => ?_, by omega, by omega, by omega, by omega, aq, haq, hlo⟩;have a1 := l1 a ha;have a2 := l2 a ha;have a3 := l3 a ha;have a4 := right_dif (h.right a ha);have a5 := h.near a ha;have a6 : dif a.u b = dif a.u a.t + dif a.t b := dif_sum (by omega) (by omega);omega
def Amid (b : Int) (l : List It) (q : Int) : Prop := (∃ a ∈ l, dif a.t b ≤ q) ∧ ∃ a ∈ l, q ≤ dif a.t b
theorem Fw.moveTo {b : Int} {l : List It} (h : Fw b l) {q : Int} (hq : Amid b l q) : Fw (adv b q) l ∧ spreadI (adv b q) l = spreadI b l ∧ (∀ a ∈ l, dif a.t (adv b q) = dif a.t b - q ∧ dif a.u (adv b q) = dif a.u b - q) := by
 obtain ⟨⟨x, hx, hx2⟩, y, hy, hy2⟩ := hq;have h0 : 0 < l.length := List.length_pos_of_mem hx;obtain ⟨lo, hi, e, h1, h2, h3, h4, h5, _⟩ := h.lohi h0;have kx := h1 x hx;have ky := h1 y hy;have key : ∀ a ∈ l, dif a.t (adv b q) = dif a.t b - q ∧ dif a.u (adv b q) = dif a.u b - q := fun a ha => by
  have := h1 a ha;exact ⟨dif_adv_r (by omega) (by omega), dif_adv_r (by omega) (by omega)⟩
 have hs := spread_base b (adv b q) q h0 (fun a ha => (key a ha).1) (fun a ha => (key a ha).2);refine ⟨⟨h.few, h.inI, h.right, fun a ha => ?_, by rw [hs]; exact h.within⟩, hs, key⟩;have := h1 a ha;rw [(key a ha).1, (key a ha).2];omega
theorem Fw.amid {b : Int} {l : List It} (h : Fw b l) (h0 : 0 < l.length) : Amid b l (sumD b (l.map It.pp) / sumW (l.map It.pp)) := by
 have hr := h.pps;obtain ⟨q, hq, hlo⟩ := loL_mem (b := b) (ps := l.map It.pp) (by simpa using h0);obtain ⟨aq, haq, rfl⟩ := List.mem_map.1 hq;obtain ⟨p, hp, hhi⟩ := hiL_mem (b := b) (ps := l.map It.pp) (by simpa using h0);obtain ⟨ap, hap, rfl⟩ := List.mem_map.1 hp;have hf := fl_near (t := b) (lo := loL b (l.map It.pp)) (hi := hiL b (l.map It.pp)) hr (by simpa using h0) (fun p hp => loL_le p hp) (fun p hp => hiL_ge p hp);exact ⟨⟨aq, haq, by rw [← hlo]; exact hf.1⟩, ap, hap, by rw [← hhi]; exact hf.2⟩
theorem Fw.fl {b : Int} {l : List It} (h : Fw b l) (h0 : 0 < l.length) : (Mu.sums b (l.map It.pp)).fl = (true, adv b (sumD b (l.map It.pp) / sumW (l.map It.pp))) := by
 have h6 := sums_right b h.pps h.n32;obtain ⟨⟨x, hx, hx2⟩, y, hy, hy2⟩ := h.amid h0;have kx := h.near x hx;have ky := h.near y hy;have hok : (Mu.sums b (l.map It.pp)).flOk = true := by
  unfold Mu.flOk;rw [h6];simp only [Bool.true_and, Bool.and_eq_true, decide_eq_true_eq, smI];refine ⟨?_, ?_⟩
  ·show (((l.map It.pp).length : Nat) : Int) ≠ 0
   rw [List.length_map]; omega
  ·show -9223372036854775808 ≤ sumD _ _ / sumW _ ∧ sumD _ _ / sumW _ ≤ 9223372036854775807
   omega
 unfold Mu.fl;rw [if_pos hok];rfl
theorem sumD_move {b q : Int} : ∀ {l : List It}, (∀ a ∈ l, dif a.t (adv b q) = dif a.t b - q) → sumD (adv b q) (l.map It.pp) = sumD b (l.map It.pp) - q * sumW (l.map It.pp)
 | [], _ => by simp [sumD, sumW]
 | a :: l, h => by
  have e : pD (adv b q) a.pp = pD b a.pp - q * a.v := by
   show dif a.t (adv b q) * a.v + a.r = dif a.t b * a.v + a.r - q * a.v
   rw [h a (by simp), Int.sub_mul]; omega
  rw [List.map_cons, sumD_cons, sumD_cons, sumW_cons, sumD_move (fun x hx => h x (by simp [hx])), e, Int.mul_add]
  show _ = _ - (q * a.v + _)
  omega
theorem Fw.reb {b : Int} {l : List It} (h : Fw b l) {q : Int} (hq : Amid b l q) : (Mu.sums b (l.map It.pp)).reb (adv b q) = (true, Mu.sums (adv b q) (l.map It.pp)) := by
 obtain ⟨h1, h2, h3⟩ := h.moveTo hq;obtain ⟨⟨x, hx, hx2⟩, y, hy, hy2⟩ := hq;have kx := h.near x hx;have ky := h.near y hy;have e := sumD_move (b := b) (q := q) (l := l) (fun a ha => (h3 a ha).1);have h6 := sums_right b h.pps h.n32;have h7 := sums_wr (adv b q) h1.pps (by have := h.n32; omega);have ed : dif (adv b q) b = q := dif_adv b (by omega) (by omega);unfold Mu.reb Mu.rebOk;have e3 : (Mu.sums b (l.map It.pp)).b = b := rfl;have e4 : (Mu.sums b (l.map It.pp)).a = sumD b (l.map It.pp) := rfl;have e5 : (Mu.sums b (l.map It.pp)).w = sumW (l.map It.pp) := rfl;rw [h6, e3, e4, e5, ed, ← e, okW_iff.2 h7, if_pos (by rfl)];rfl
def nowI (b : Int) (l : List It) : Int := if l.length = 0 then b else adv b (sumD b (l.map It.pp) / sumW (l.map It.pp))
theorem nowI_T {b : Int} (hb : IsT b) (l : List It) : IsT (nowI b l) := by unfold nowI; split; exact hb; exact adv_T _ _
theorem Fw.now {b : Int} {l : List It} (h : Fw b l) : Fw (nowI b l) l := by
 unfold nowI;split
 ·exact h
 ·exact (h.moveTo (h.amid (by omega))).1
theorem Fw.now_now {b : Int} {l : List It} (h : Fw b l) : nowI (nowI b l) l = nowI b l := by
 by_cases h0 : l.length = 0
 ·unfold nowI; rw [if_pos h0]
 ·have hW := sumW_pos h.pps (by rw [List.length_map]; omega);obtain ⟨_, _, h3⟩ := h.moveTo (h.amid (by omega));have e := sumD_move (l := l) (fun a ha => (h3 a ha).1);unfold nowI;rw [if_neg h0, if_neg h0, e, div_less _ _ hW, Int.sub_self];exact adv_zero (adv_T _ _)
theorem spread_nil (b : Int) : spreadI b [] = 0 := by rw [(spreadI_eq b []).1]; rfl
theorem Fw.nil (b : Int) : Fw b [] := ⟨by simp, fun x hx => by simp at hx, by simp, by simp, by rw [spread_nil]; omega⟩
def qM (b : Int) (l : List It) : Mu := Mu.sums b (l.map It.pp)
theorem spread_sub {b : Int} {l k : List It} (hk : ∀ a ∈ k, a ∈ l) (h0 : 0 < k.length) : spreadI b k ≤ spreadI b l := by
 rw [(spreadI_eq b l).1, (spreadI_eq b k).1];obtain ⟨q, hq, hlo⟩ := loL_mem (b := b) (ps := k.map It.pp) (by simpa using h0);obtain ⟨aq, haq, rfl⟩ := List.mem_map.1 hq;obtain ⟨p, hp, hhi⟩ := hiL_mem (b := b) (ps := k.map It.pp) (by simpa using h0);obtain ⟨ap, hap, rfl⟩ := List.mem_map.1 hp;obtain ⟨p2, hp2, hhi2⟩ := hiL_mem (b := b) (ps := k.map It.dp) (by simpa using h0);obtain ⟨ap2, hap2, rfl⟩ := List.mem_map.1 hp2;have g1 := loL_le (b := b) (ps := l.map It.pp) aq.pp (List.mem_map.2 ⟨aq, hk aq haq, rfl⟩);have g2 := hiL_ge (b := b) (ps := l.map It.pp) ap.pp (List.mem_map.2 ⟨ap, hk ap hap, rfl⟩);have g3 := hiL_ge (b := b) (ps := l.map It.dp) ap2.dp (List.mem_map.2 ⟨ap2, hk ap2 hap2, rfl⟩);simp only at *
 omega
theorem Fw.sub {b : Int} {l k : List It} (h : Fw b l) (hk : ∀ a ∈ k, a ∈ l) (hn : k.length ≤ l.length) : Fw b k := by
 refine ⟨by have := h.few; omega, fun x hx => h.inI x (hk x hx), fun x hx => h.right x (hk x hx), fun x hx => h.near x (hk x hx), ?_⟩;rcases Nat.eq_zero_or_pos k.length with h0 | h0
 ·have : k = [] := List.eq_nil_of_length_eq_zero h0;subst this;exact (Fw.nil b).within
 ·exact Int.le_trans (spread_sub hk h0) h.within
theorem Fw.cons {b : Int} {l : List It} {a : It} (h : Fw b l) (ha : a.In) (hr : a.right = true) (hn : l.length < 32) (hw : spreadI b (l ++ [a]) ≤ 4611686018427387904) (hz : (∃ x ∈ l ++ [a], dif x.t b ≤ 0) ∧ ∃ x ∈ l ++ [a], 0 ≤ dif x.t b) : Fw b (l ++ [a]) := by
 have e := (spreadI_eq b (l ++ [a])).1;have l1 : ∀ x ∈ l ++ [a], loL b ((l ++ [a]).map It.pp) ≤ dif x.t b := fun x hx => loL_le x.pp (List.mem_map.2 ⟨x, hx, rfl⟩)
 have l2 : ∀ x ∈ l ++ [a], dif x.t b ≤ hiL b ((l ++ [a]).map It.pp) := fun x hx => hiL_ge x.pp (List.mem_map.2 ⟨x, hx, rfl⟩)
 have l3 : ∀ x ∈ l ++ [a], dif x.u b ≤ hiL b ((l ++ [a]).map It.dp) := fun x hx => hiL_ge x.dp (List.mem_map.2 ⟨x, hx, rfl⟩)
 obtain ⟨⟨x, hx, hx2⟩, y, hy, hy2⟩ := hz;have kx := l1 x hx;have ky := l2 y hy;have hR : ∀ z ∈ l ++ [a], z.right = true := fun z hz => by
  rcases List.mem_append.1 hz with h1 | h1
  ·exact h.right z h1
  ·simp at h1; subst h1; exact hr
 refine ⟨by simp; omega, fun z hz => ?_, hR, fun z hz => ?_, hw⟩
 ·rcases List.mem_append.1 hz with h1 | h1
  ·exact h.inI z h1
  ·simp at h1; subst h1; exact ha
 ·have a1 := l1 z hz;have a2 := l2 z hz;have a3 := l3 z hz;have a4 := right_dif (hR z hz);have a5 := dif_bd z.u b;have a6 : dif z.u b = dif z.u z.t + dif z.t b := dif_sum (by omega) (by omega);omega
end


section
open Go.RowKit
theorem Fw.nar {b : Int} {l : List It} (h : Fw b l) : ∃ T k : Int, ∀ a ∈ l, nar T a = true ∧ dif a.t T = dif a.t b - k ∧ dif a.u T = dif a.u b - k := by
 rcases Nat.eq_zero_or_pos l.length with h0 | h0
 ·have : l = [] := List.eq_nil_of_length_eq_zero h0;subst this;exact ⟨0, 0, by simp⟩
 ·obtain ⟨lo, hi, e, h1, h2, h3, h4, h5, _⟩ := h.lohi h0;refine ⟨adv b (lo + 1), lo + 1, fun a ha => ?_⟩;have := h1 a ha;have e1 : dif a.t (adv b (lo + 1)) = dif a.t b - (lo + 1) := dif_adv_r (by omega) (by omega);have e2 : dif a.u (adv b (lo + 1)) = dif a.u b - (lo + 1) := dif_adv_r (by omega) (by omega);refine ⟨?_, e1, e2⟩;unfold Proofs.YtjchnkmolhgpmaaGreatDoor.nar narOk;rw [e1, e2, h.right a ha];simp only [Bool.and_true, Bool.and_eq_true, decide_eq_true_eq];omega
theorem sums_ovI {b : Int} {l : List It} (h : Fw b l) {x : It} (hx : x ∈ l) : (qM b l).over x.pp = (true, (qM b l).ov x.pp) ∧ (qM b l).lag x.pp = (true, (qM b l).ov x.pp / (qM b l).w) := by
 have hm : x.pp ∈ l.map It.pp := List.mem_map.2 ⟨x, hx, rfl⟩;have hv := sums_ov (t := b) h.pps h.n32 (List.length_pos_of_mem hm) (h.pps _ hm);unfold Mu.over Mu.lag qM;rw [if_pos hv, if_pos hv];exact ⟨rfl, rfl⟩
theorem cmp0_ge {x : Int} : 0 ≤ cmpI x 0 ↔ 0 ≤ x := by unfold cmpI; split <;> (try split) <;> omega
theorem elig_iff {b : Int} {l : List It} (h : Fw b l) {x : It} (hx : x ∈ l) : (qM b l).elig x.pp = true ↔ 0 ≤ (qM b l).ov x.pp := by
 unfold Mu.elig;rw [(sums_ovI h hx).1];simp [cmp0_ge]
theorem elig_down {b : Int} {l : List It} (h : Fw b l) {x y : It} (hx : x ∈ l) (hy : y ∈ l) (ha : It.ahead x y = true) (he : (qM b l).elig y.pp = true) : (qM b l).elig x.pp = true := by
 obtain ⟨T, k, hT⟩ := h.nar;have hxT := hT x hx;have hyT := hT y hy;have hlt := (Wd.ahead_iff hxT.1 hyT.1).1 ha;have hle : (x.p1 T).c (y.p1 T) ≤ 0 := by omega
 rw [Pl.le] at hle;simp only [It.p1] at hle;have hW := sumW_pos h.pps (by rw [List.length_map]; exact List.length_pos_of_mem hx);obtain ⟨vx, vx1, rx, rx1⟩ := pR_isP (h.pps _ (List.mem_map.2 ⟨x, hx, rfl⟩)).2 (h.pps _ (List.mem_map.2 ⟨x, hx, rfl⟩)).1;obtain ⟨vy, vy1, ry, ry1⟩ := pR_isP (h.pps _ (List.mem_map.2 ⟨y, hy, rfl⟩)).2 (h.pps _ (List.mem_map.2 ⟨y, hy, rfl⟩)).1;simp only at vx vx1 rx rx1 vy vy1 ry ry1;rw [elig_iff h hx];rw [elig_iff h hy] at he;have key : pD b x.pp * y.v ≤ pD b y.pp * x.v := by
  show (dif x.t b * x.v + x.r) * y.v ≤ (dif y.t b * y.v + y.r) * x.v
  rcases hle with hd | ⟨hd, hr⟩
  ·have h1 : dif x.t b + 1 ≤ dif y.t b := by omega
   have h2 : (dif x.t b * x.v + x.r) * y.v ≤ ((dif x.t b + 1) * x.v) * y.v := Int.mul_le_mul_of_nonneg_right (by rw [Int.add_mul]; omega) (by omega);have h3 : ((dif x.t b + 1) * x.v) * y.v ≤ (dif y.t b * x.v) * y.v := Int.mul_le_mul_of_nonneg_right (Int.mul_le_mul_of_nonneg_right h1 (by omega)) (by omega);have h4 : (dif y.t b * x.v) * y.v = (dif y.t b * y.v) * x.v := by grind
   have h5 : (dif y.t b * y.v) * x.v ≤ (dif y.t b * y.v + y.r) * x.v := Int.mul_le_mul_of_nonneg_right (by omega) (by omega);omega
  ·have h1 : dif x.t b = dif y.t b := by omega
   rw [h1, Int.add_mul, Int.add_mul];have h4 : dif y.t b * x.v * y.v = dif y.t b * y.v * x.v := by grind
   omega
 have ex : (qM b l).ov x.pp = sumD b (l.map It.pp) * x.v - pD b x.pp * sumW (l.map It.pp) := rfl;have ey : (qM b l).ov y.pp = sumD b (l.map It.pp) * y.v - pD b y.pp * sumW (l.map It.pp) := rfl;rw [ey] at he;rw [ex];generalize sumD b (l.map It.pp) = A at *
 generalize sumW (l.map It.pp) = W at *
 generalize pD b x.pp = p at *
 generalize pD b y.pp = q at *
 have m1 : p * y.v * W ≤ q * x.v * W := Int.mul_le_mul_of_nonneg_right key (by omega);have m2 : 0 ≤ (A * y.v - q * W) * x.v := Int.mul_nonneg he (by omega);have m3 : 0 ≤ (A * x.v - p * W) * y.v := by
  have e1 : (A * y.v - q * W) * x.v = A * x.v * y.v - q * x.v * W := by grind
  have e2 : (A * x.v - p * W) * y.v = A * x.v * y.v - p * y.v * W := by grind
  omega
 rcases Int.lt_or_le (A * x.v - p * W) 0 with g | g
 ·have := Int.mul_neg_of_neg_of_pos g (show 0 < y.v by omega);omega
 ·exact g
theorem some_elig {b : Int} {l : List It} (h : Fw b l) (h0 : 0 < l.length) : ∃ x ∈ l, (qM b l).elig x.pp = true := by
 obtain ⟨p, hp, h1⟩ := some_up (m := qM b l) (l := l.map It.pp) (by rw [List.length_map]; exact h0) (by rw [show sumO (qM b l) (l.map It.pp) = 0 from sumO_zero b _]; exact Int.le_refl 0);obtain ⟨x, hx, rfl⟩ := List.mem_map.1 hp;exact ⟨x, hx, (elig_iff h hx).2 h1⟩
theorem first_elig {b : Int} {t : Tr It} (h : Fw b t.list) (hs : SrtI t.list) : ∃ x : It, foldD (fun y => (qM b t.list).elig y.pp) t (false, It.zero) = (decide (0 < t.list.length), x) ∧ (t.list.length = 0 → x = It.zero) ∧ (0 < t.list.length → IsBest x (t.list.filter (fun y => (qM b t.list).elig y.pp))) := by
 obtain ⟨T, k, hT⟩ := h.nar;have hn : Wd.NrL T t.list := fun x hx => (hT x hx).1
 have hd := Wd.foldD_desc (t0 := T) (fun y => (qM b t.list).elig y.pp) t (false, It.zero) [] hn hs (fun x hx y hy ha he => elig_down h hx hy ha he) (fun x hx => by simp at hx) (Or.inl ⟨rfl, rfl, rfl⟩);rw [List.nil_append] at hd;obtain ⟨f, x, hq⟩ : ∃ f x, foldD (fun y => (qM b t.list).elig y.pp) t (false, It.zero) = (f, x) := ⟨_, _, rfl⟩
 rw [hq] at hd ⊢;rcases hd with ⟨h1, h2, h3⟩ | ⟨h1, h2⟩
 ·simp only at h1 h2;have h4 : t.list.length = 0 := by
   rcases Nat.eq_zero_or_pos t.list.length with g | g
   ·exact g
   ·obtain ⟨y, hy, he⟩ := some_elig h g;have : y ∈ t.list.filter (fun y => (qM b t.list).elig y.pp) := List.mem_filter.2 ⟨hy, he⟩;rw [h3] at this;simp at this
  exact ⟨x, by rw [h1, h4]; rfl, fun _ => h2, fun g => by omega⟩
 ·simp only at h1 h2;have h4 : 0 < t.list.length := List.length_pos_of_mem (List.mem_filter.1 h2.1).1;exact ⟨x, by rw [h1, decide_eq_true h4], fun g => by omega, fun _ => h2⟩
end


section
open Go.RowKit
theorem sumD_perm (b : Int) {l k : List P3} (h : l.Perm k) : sumD b l = sumD b k := by
 induction h with
 | nil => rfl
 | cons x _ ih => rw [sumD_cons, sumD_cons, ih]
 | swap x y l => rw [sumD_cons, sumD_cons, sumD_cons, sumD_cons]; omega
 | trans _ _ h1 h2 => rw [h1, h2]
theorem sumW_perm {l k : List P3} (h : l.Perm k) : sumW l = sumW k := by
 induction h with
 | nil => rfl
 | cons x _ ih => rw [sumW_cons, sumW_cons, ih]
 | swap x y l => rw [sumW_cons, sumW_cons, sumW_cons, sumW_cons]; omega
 | trans _ _ h1 h2 => rw [h1, h2]
theorem Fw.perm {b : Int} {l k : List It} (h : Fw b l) (p : l.Perm k) : Fw b k := h.sub (fun _ ha => p.mem_iff.2 ha) (by rw [p.length_eq]; exact Nat.le_refl _)
theorem qM_perm (b : Int) {l k : List It} (p : l.Perm k) : qM b l = qM b k := by
 unfold qM Mu.sums;rw [sumD_perm b (p.map It.pp), sumW_perm (p.map It.pp), (p.map It.pp).length_eq]
theorem nowI_perm (b : Int) {l k : List It} (p : l.Perm k) : nowI b l = nowI b k := by
 unfold nowI;rw [p.length_eq, sumD_perm b (p.map It.pp), sumW_perm (p.map It.pp)]
theorem insI_perm (a : It) (l : List It) : (l ++ [a]).Perm (insI a l) := by
 unfold insI;have e : l.takeWhile (fun y => !It.ahead a y) ++ l.dropWhile (fun y => !It.ahead a y) = l := List.takeWhile_append_dropWhile;have h1 : (l ++ [a]).Perm (a :: l) := List.perm_append_singleton a l;have h2 : (l.takeWhile (fun y => !It.ahead a y) ++ a :: l.dropWhile (fun y => !It.ahead a y)).Perm (a :: (l.takeWhile (fun y => !It.ahead a y) ++ l.dropWhile (fun y => !It.ahead a y))) := List.perm_middle;rw [e] at h2;exact h1.trans h2.symm
theorem now_zero {b : Int} {l : List It} (h : Fw b l) (h0 : 0 < l.length) (hn : nowI b l = b) : Amid b l 0 := by
 have ha := h.amid h0;unfold nowI at hn;rw [if_neg (by omega)] at hn;obtain ⟨⟨x, hx, hx2⟩, y, hy, hy2⟩ := id ha;have kx := h.near x hx;have ky := h.near y hy;generalize sumD b (l.map It.pp) / sumW (l.map It.pp) = q at *
 have : q = 0 := by unfold adv at hn; omega
 rwa [this] at ha
def fromI (b : Int) (l : List It) (a : It) : Int := if l.length = 0 then a.t else b
theorem Fw.join {b : Int} {l : List It} {a : It} (h : Fw b l) (hn : nowI b l = b) (ha : a.In) (hr : a.right = true) (h32 : l.length < 32) (hw : withinI (fromI b l a) (l ++ [a]) = true) :
  Fw (fromI b l a) (l ++ [a]) ∧ (qM (fromI b l a) l).add a.pp = (true, qM (fromI b l a) (l ++ [a])) := by
 unfold withinI at hw;rw [decide_eq_true_eq] at hw;have hF : Fw (fromI b l a) (l ++ [a]) := by
  unfold fromI at *
  by_cases h0 : l.length = 0
  ·have e : l = [] := List.eq_nil_of_length_eq_zero h0;subst e;rw [if_pos h0] at hw ⊢;exact (Fw.nil a.t).cons ha hr (by simp) hw ⟨⟨a, by simp, by rw [dif_self]; exact Int.le_refl 0⟩, a, by simp, by rw [dif_self]; exact Int.le_refl 0⟩
  ·rw [if_neg h0] at hw ⊢;obtain ⟨⟨x, hx, hx2⟩, y, hy, hy2⟩ := now_zero h (by omega) hn;exact h.cons ha hr h32 hw ⟨⟨x, by simp [hx], hx2⟩, y, by simp [hy], hy2⟩
 refine ⟨hF, ?_⟩;have hp : ∀ p ∈ l.map It.pp, pR p = true ∧ PIn p := h.pps;have := sums_add (fromI b l a) hp (pos_of ha hr) (by rw [List.length_map]; exact h32);unfold qM;rw [this, List.map_append];rfl
theorem Fw.settle {b : Int} {l : List It} (h : Fw b l) (h0 : 0 < l.length) : (qM b l).fl = (true, nowI b l) ∧ (qM b l).reb (nowI b l) = (true, qM (nowI b l) l) := by
 unfold nowI qM;rw [if_neg (by omega)];exact ⟨h.fl h0, h.reb (h.amid h0)⟩
theorem none_fl (b : Int) : (qM b []).fl = (false, 0) := by
 unfold Mu.fl Mu.flOk;rw [if_neg (by simp [qM, Mu.sums])]
theorem Fw.take {b : Int} {l m : List It} {a : It} (h : Fw b (l ++ a :: m)) : (qM b (l ++ a :: m)).take a.pp = (true, qM b (l ++ m)) ∧ Fw b (l ++ m) := by
 have hk : l.length < ((l ++ a :: m).map It.pp).length := by simp
 have h1 := sums_take b (l := (l ++ a :: m).map It.pp) (k := l.length) h.pps hk h.n32;have e1 : ((l ++ a :: m).map It.pp).getD l.length (0, 0, 0) = a.pp := by simp [List.getD]
 have e2 : ((l ++ a :: m).map It.pp).take l.length ++ ((l ++ a :: m).map It.pp).drop (l.length + 1) = (l ++ m).map It.pp := by
  simp [List.drop_append, List.map_append]
 rw [e1, e2] at h1;refine ⟨h1, h.sub (fun x hx => ?_) (by simp)⟩;rcases List.mem_append.1 hx with g | g
 ·simp [g]
 ·simp [g]
end


section
open Go.RowKit
theorem map_pp_sh (d : Int) (l : List It) : (l.map (It.shift d)).map It.pp = (l.map It.pp).map (shP d) := by rw [List.map_map, List.map_map]; rfl
theorem qM_sh (b d : Int) (l : List It) : qM (IntKind.u64.wrap (b + d)) (l.map (It.shift d)) = ⟨IntKind.u64.wrap (b + d), (qM b l).a, (qM b l).w, (qM b l).n⟩ := by
 unfold qM Mu.sums;rw [map_pp_sh, sumD_sh, sumW_sh, List.length_map]
theorem ov_sh (b d : Int) (l : List It) (x : It) : (qM (IntKind.u64.wrap (b + d)) (l.map (It.shift d))).ov (It.shift d x).pp = (qM b l).ov x.pp := by
 rw [qM_sh]
 show _ * _ - pD (IntKind.u64.wrap (b + d)) (shP d x.pp) * _ = _
 rw [pD_sh]; rfl
theorem nowI_sh (b d : Int) (l : List It) : nowI (IntKind.u64.wrap (b + d)) (l.map (It.shift d)) = IntKind.u64.wrap (nowI b l + d) := by
 unfold nowI;rw [List.length_map, map_pp_sh, sumD_sh, sumW_sh];split
 ·rfl
 ·exact adv_wrapM _ _ _
theorem fromI_sh (b d : Int) (l : List It) (a : It) : fromI (IntKind.u64.wrap (b + d)) (l.map (It.shift d)) (It.shift d a) = IntKind.u64.wrap (fromI b l a + d) := by
 unfold fromI;rw [List.length_map];split
 ·rfl
 ·rfl
theorem within_sh (b d : Int) (l : List It) : withinI (IntKind.u64.wrap (b + d)) (l.map (It.shift d)) = withinI b l := by unfold withinI; rw [spread_shift]
theorem right_sh (d : Int) (a : It) : (It.shift d a).right = a.right := by unfold It.right It.shift; simp only [dif_wrap]
theorem Fw.sh {b : Int} {l : List It} (h : Fw b l) (d : Int) : Fw (IntKind.u64.wrap (b + d)) (l.map (It.shift d)) := by
 refine ⟨by rw [List.length_map]; exact h.few, fun x hx => ?_, fun x hx => ?_, fun x hx => ?_, by rw [spread_shift]; exact h.within⟩
 ·obtain ⟨a, ha, rfl⟩ := List.mem_map.1 hx; exact It.shift_in d (h.inI a ha)
 ·obtain ⟨a, ha, rfl⟩ := List.mem_map.1 hx; rw [right_sh]; exact h.right a ha
 ·obtain ⟨a, ha, rfl⟩ := List.mem_map.1 hx;have := h.near a ha
  show _ ≤ dif (IntKind.u64.wrap (a.t + d)) (IntKind.u64.wrap (b + d)) ∧ dif (IntKind.u64.wrap (a.t + d)) (IntKind.u64.wrap (b + d)) ≤ _ ∧ _ ≤ dif (IntKind.u64.wrap (a.u + d)) (IntKind.u64.wrap (b + d)) ∧ dif (IntKind.u64.wrap (a.u + d)) (IntKind.u64.wrap (b + d)) ≤ _
  rw [dif_wrap, dif_wrap]; exact this
theorem insI_sh (d : Int) (a : It) (l : List It) : insI (It.shift d a) (l.map (It.shift d)) = (insI a l).map (It.shift d) := by
 have e1 : ∀ l : List It, (l.map (It.shift d)).takeWhile (fun y => !It.ahead (It.shift d a) y) = (l.takeWhile (fun y => !It.ahead a y)).map (It.shift d) := by
  intro l; induction l with
  | nil => rfl
  | cons x l ih => rw [List.map_cons, List.takeWhile_cons, List.takeWhile_cons, It.ahead_shift, ih]; split <;> rfl
 have e2 : ∀ l : List It, (l.map (It.shift d)).dropWhile (fun y => !It.ahead (It.shift d a) y) = (l.dropWhile (fun y => !It.ahead a y)).map (It.shift d) := by
  intro l; induction l with
  | nil => rfl
  | cons x l ih => rw [List.map_cons, List.dropWhile_cons, List.dropWhile_cons, It.ahead_shift, ih]; split <;> rfl
 unfold insI;rw [e1, e2, List.map_append, List.map_cons]
theorem bestQ_one {T : Int} {F : List It} {x y : It} (hn : ∀ a ∈ F, nar T a = true) (hid : (F.map (·.i)).Nodup) (hx : IsBest x F) (hy : IsBest y F) : x = y := by
 by_cases h : x.i = y.i
 ·have hl : ∀ (F : List It), (F.map (·.i)).Nodup → x ∈ F → y ∈ F → x = y := by
   intro F
   induction F with
   | nil => intro _ hx; simp at hx
   | cons z F ih =>
    intro hd hx hy;rw [List.map_cons, List.nodup_cons] at hd;rcases List.mem_cons.1 hx with e1 | h1 <;> rcases List.mem_cons.1 hy with e2 | h2
    ·rw [e1, e2]
    ·exfalso; exact hd.1 (List.mem_map.2 ⟨y, h2, by rw [← h, e1]⟩)
    ·exfalso; exact hd.1 (List.mem_map.2 ⟨x, h1, by rw [h, e2]⟩)
    ·exact ih hd.2 h1 h2
  exact hl F hid hx.1 hy.1
 ·have h1 := hx.2 y hy.1;have h2 := hy.2 x hx.1;have := Wd.due_ne (hn y hy.1) (hn x hx.1) (fun e => h e.symm);rw [h1, h2] at this;cases this
end


section
open Go.RowKit
def Rq.sh (d : Int) (r : Rq) : Rq := ⟨It.shift d r.a, r.l, r.s, r.z⟩
theorem adv_wrapT (t d q : Int) : adv (IntKind.u64.wrap (t + d)) q = IntKind.u64.wrap (adv t q + d) := by
 unfold adv; rw [IntKind.wrap_u64, IntKind.wrap_u64]; omega
theorem dueP_sh (d : Int) {p : P3} (h : IsP p.2.1 p.2.2) {n : Int} (h0 : 0 ≤ n) (h1 : n ≤ 1099511627776) : dueP (shP d p) n = shP d (dueP p n) := by
 rw [dueP_of (p := shP d p) h h0 h1, dueP_of h h0 h1];unfold shP;simp only;rw [adv_wrapT]
theorem sh_in {d : Int} {r : Rq} (h : r.In) : (r.sh d).In := by
 obtain ⟨⟨h1, h2, h3, h4, h5, h6⟩, h7⟩ := h;exact ⟨⟨by show 0 ≤ IntKind.u64.wrap (r.a.t + d) ∧ IntKind.u64.wrap (r.a.t + d) ≤ 18446744073709551615; rw [IntKind.wrap_u64]; omega, h2, h3, h4, by show 0 ≤ IntKind.u64.wrap (r.a.u + d) ∧ IntKind.u64.wrap (r.a.u + d) ≤ 18446744073709551615; rw [IntKind.wrap_u64]; omega, h6⟩, h7⟩
theorem from_sh (d : Int) {r : Rq} {p : P3} (h : IsP p.2.1 p.2.2) (h0 : 0 ≤ r.l) (h1 : r.l ≤ 1099511627776) : (r.sh d).from_ (shP d p) = (r.from_ p).sh d := by
 unfold Rq.from_;have e : dueP (shP d p) (r.sh d).l = shP d (dueP p r.l) := dueP_sh d h h0 h1;rw [e];rfl
theorem sh_right {d : Int} {r : Rq} (h : r.In) (hr : r.right = true) : (r.sh d).right = true := by
 obtain ⟨h1, h2, h3, h4, h5, h6⟩ := right_parts h hr;have hl := slI_iff.1 h3;have e := from_sh d (r := r) (p := r.pp) h1 (by omega) hl.2;rw [right_eq h hr] at e;rw [← e];exact from_right (r := r.sh d) (p := shP d r.pp) h1 h2 h3 h4
end


section
open Go.RowKit
theorem Item.shiftTo (a b : It) (d : Int) (h : It.shift d a = b) (w : World) : Calls Tryz.prog 22 #[a.val, .int .u64 d] w (Ans (It.val b) w) := by
 subst h; exact Item.shift a d w
end

end Go.Proofs.YtjchnkmolhgpmaaGreatDoor

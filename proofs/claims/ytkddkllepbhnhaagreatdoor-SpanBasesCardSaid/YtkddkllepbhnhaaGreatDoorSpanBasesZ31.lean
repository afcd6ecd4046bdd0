/- Texts of SpanBases's proof, together. -/
import Derived.Test.YtkddkllepbhnhaaGreatDoorSpanBasesZ30
import Derived.Laws.StructEq
import Derived.Test.YtkddkllepbhnhaaGreatDoorSpanBasesZ22
import Derived.Test.YtkddkllepbhnhaaGreatDoorSpanBasesZ0
namespace Go.Proofs.YtkddkllepbhnhaaGreatDoor
/- Items near a time; which are alike; is one in a slice? -/
section
open Go.RowKit
def It.eqb (x y : It) : Bool := x.t == y.t && x.r == y.r && x.v == y.v && x.i == y.i && x.u == y.u && x.s == y.s && x.y == y.y
set_option maxHeartbeats 4000000 in
theorem Item.eqB (t1 t2 r1 r2 v1 v2 i1 i2 u1 u2 s1 s2 y1 y2 : Int) (w : World) :
    (binOp .eql 86 (.agg #[.int .u64 t1, .int .u32 r1, .int .u32 v1, .int .i64 i1, .int .u64 u1, .int .u32 s1, .int .u32 y1]) (.agg #[.int .u64 t2, .int .u32 r2, .int .u32 v2, .int .i64 i2, .int .u64 u2, .int .u32 s2, .int .u32 y2])).run Tryz.prog w = .ok (.bool (It.eqb (It.mk t1 r1 v1 i1 u1 s1 y1) (It.mk t2 r2 v2 i2 u2 s2 y2))) w := by
  unfold It.eqb
  by_cases pt : t1 = t2
  · subst pt
    by_cases pr : r1 = r2
    · subst pr
      by_cases pv : v1 = v2
      · subst pv
        by_cases pi : i1 = i2
        · subst pi
          by_cases pu : u1 = u2
          · subst pu
            by_cases ps : s1 = s2
            · subst ps
              by_cases py : y1 = y2
              · subst py
                go_simp
              · have qy : (y1 == y2) = false := by simpa using py
                go_simp
            · have qs : (s1 == s2) = false := by simpa using ps
              go_simp
          · have qu : (u1 == u2) = false := by simpa using pu
            go_simp
        · have qi : (i1 == i2) = false := by simpa using pi
          go_simp
      · have qv : (v1 == v2) = false := by simpa using pv
        go_simp
    · have qr : (r1 == r2) = false := by simpa using pr
      go_simp
  · have qt : (t1 == t2) = false := by simpa using pt
    go_simp
end

/- Items shifted alike. -/
section
open Go.RowKit
theorem dif_wrap (t u d : Int) : dif (IntKind.u64.wrap (t + d)) (IntKind.u64.wrap (u + d)) = dif t u := by
  rw [IntKind.wrap_u64, IntKind.wrap_u64]; unfold dif; omega
end

/- How far items lie apart, and where they are together: as numbers. -/
section
open Go.RowKit
/-- How much further they might lie. -/
def roomI (b : Int) (l : List It) : Int := 4611686018427387904 - min (spreadI b l) 4611686018427387904
def withinI (b : Int) (l : List It) : Bool := decide (spreadI b l ≤ 4611686018427387904)
theorem room_bd (b : Int) (l : List It) : 0 ≤ roomI b l ∧ roomI b l ≤ 4611686018427387904 := by
  have := (spreadI_eq b l).2
  unfold roomI; omega
/-- From another base. -/
theorem fold_lo (b c k : Int) : ∀ (ps : List P3) (m : Int), (∀ p ∈ ps, dif p.1 c = dif p.1 b - k) → ps.foldl (fun m q => min m (dif q.1 c)) (m - k) = ps.foldl (fun m q => min m (dif q.1 b)) m - k
  | [], _, _ => rfl
  | p :: ps, m, h => by
    rw [List.foldl_cons, List.foldl_cons, h p (by simp), show min (m - k) (dif p.1 b - k) = min m (dif p.1 b) - k by omega]
    exact fold_lo b c k ps _ (fun q hq => h q (by simp [hq]))
theorem fold_hi (b c k : Int) : ∀ (ps : List P3) (m : Int), (∀ p ∈ ps, dif p.1 c = dif p.1 b - k) → ps.foldl (fun m q => max m (dif q.1 c)) (m - k) = ps.foldl (fun m q => max m (dif q.1 b)) m - k
  | [], _, _ => rfl
  | p :: ps, m, h => by
    rw [List.foldl_cons, List.foldl_cons, h p (by simp), show max (m - k) (dif p.1 b - k) = max m (dif p.1 b) - k by omega]
    exact fold_hi b c k ps _ (fun q hq => h q (by simp [hq]))
theorem lo_base (b c k : Int) {ps : List P3} (h0 : 0 < ps.length) (h : ∀ p ∈ ps, dif p.1 c = dif p.1 b - k) : loL c ps = loL b ps - k := by
  cases ps with
  | nil => simp at h0
  | cons p ps => unfold loL; simp only; rw [h p (by simp)]; exact fold_lo b c k ps _ (fun q hq => h q (by simp [hq]))
theorem hi_base (b c k : Int) {ps : List P3} (h0 : 0 < ps.length) (h : ∀ p ∈ ps, dif p.1 c = dif p.1 b - k) : hiL c ps = hiL b ps - k := by
  cases ps with
  | nil => simp at h0
  | cons p ps => unfold hiL; simp only; rw [h p (by simp)]; exact fold_hi b c k ps _ (fun q hq => h q (by simp [hq]))
theorem spread_base (b c k : Int) {l : List It} (h0 : 0 < l.length) (h1 : ∀ a ∈ l, dif a.t c = dif a.t b - k) (h2 : ∀ a ∈ l, dif a.u c = dif a.u b - k) : spreadI c l = spreadI b l := by
  rw [(spreadI_eq c l).1, (spreadI_eq b l).1]
  rw [lo_base b c k (ps := l.map It.pp) (by simpa using h0) (fun p hp => by obtain ⟨a, ha, rfl⟩ := List.mem_map.1 hp; exact h1 a ha)]
  rw [hi_base b c k (ps := l.map It.pp) (by simpa using h0) (fun p hp => by obtain ⟨a, ha, rfl⟩ := List.mem_map.1 hp; exact h1 a ha)]
  rw [hi_base b c k (ps := l.map It.dp) (by simpa using h0) (fun p hp => by obtain ⟨a, ha, rfl⟩ := List.mem_map.1 hp; exact h2 a ha)]
  omega
/-- Shifted alike. -/
theorem spread_shift (b d : Int) (l : List It) : spreadI (IntKind.u64.wrap (b + d)) (l.map (It.shift d)) = spreadI b l := by
  have ep : (l.map (It.shift d)).map It.pp = (l.map It.pp).map (shP d) := by rw [List.map_map, List.map_map]; rfl
  have ed : (l.map (It.shift d)).map It.dp = (l.map It.dp).map (shP d) := by rw [List.map_map, List.map_map]; rfl
  have flo : ∀ (ps : List P3) (m : Int), (ps.map (shP d)).foldl (fun m q => min m (dif q.1 (IntKind.u64.wrap (b + d)))) m = ps.foldl (fun m q => min m (dif q.1 b)) m := by
    intro ps
    induction ps with
    | nil => intro m; rfl
    | cons p ps ih => intro m; rw [List.map_cons, List.foldl_cons, List.foldl_cons, ih]; congr 2; exact dif_wrapM _ _ _
  have fhi : ∀ (ps : List P3) (m : Int), (ps.map (shP d)).foldl (fun m q => max m (dif q.1 (IntKind.u64.wrap (b + d)))) m = ps.foldl (fun m q => max m (dif q.1 b)) m := by
    intro ps
    induction ps with
    | nil => intro m; rfl
    | cons p ps ih => intro m; rw [List.map_cons, List.foldl_cons, List.foldl_cons, ih]; congr 2; exact dif_wrapM _ _ _
  have elo : ∀ ps : List P3, loL (IntKind.u64.wrap (b + d)) (ps.map (shP d)) = loL b ps := by
    intro ps; cases ps with
    | nil => rfl
    | cons p ps => unfold loL; rw [List.map_cons]; simp only; rw [flo]; congr 1; exact dif_wrapM _ _ _
  have ehi : ∀ ps : List P3, hiL (IntKind.u64.wrap (b + d)) (ps.map (shP d)) = hiL b ps := by
    intro ps; cases ps with
    | nil => rfl
    | cons p ps => unfold hiL; rw [List.map_cons]; simp only; rw [fhi]; congr 1; exact dif_wrapM _ _ _
  unfold spreadI
  rw [ep, ed, elo, ehi, ehi]
/-- What the spread says of each. -/
theorem lo_le (b : Int) (ps : List P3) : ∀ m : Int, ps.foldl (fun m q => min m (dif q.1 b)) m ≤ m ∧ ∀ p ∈ ps, ps.foldl (fun m q => min m (dif q.1 b)) m ≤ dif p.1 b := by
  induction ps with
  | nil => intro m; exact ⟨Int.le_refl _, by simp⟩
  | cons q ps ih =>
    intro m
    obtain ⟨h1, h2⟩ := ih (min m (dif q.1 b))
    rw [List.foldl_cons]
    refine ⟨by omega, fun p hp => ?_⟩
    rcases List.mem_cons.1 hp with rfl | hp
    · omega
    · exact h2 p hp
theorem hi_ge (b : Int) (ps : List P3) : ∀ m : Int, m ≤ ps.foldl (fun m q => max m (dif q.1 b)) m ∧ ∀ p ∈ ps, dif p.1 b ≤ ps.foldl (fun m q => max m (dif q.1 b)) m := by
  induction ps with
  | nil => intro m; exact ⟨Int.le_refl _, by simp⟩
  | cons q ps ih =>
    intro m
    obtain ⟨h1, h2⟩ := ih (max m (dif q.1 b))
    rw [List.foldl_cons]
    refine ⟨by omega, fun p hp => ?_⟩
    rcases List.mem_cons.1 hp with rfl | hp
    · omega
    · exact h2 p hp
theorem loL_le {b : Int} {ps : List P3} : ∀ p ∈ ps, loL b ps ≤ dif p.1 b := by
  cases ps with
  | nil => simp
  | cons q ps => intro p hp; rcases List.mem_cons.1 hp with rfl | hp; exact (lo_le b ps _).1; exact (lo_le b ps _).2 p hp
theorem hiL_ge {b : Int} {ps : List P3} : ∀ p ∈ ps, dif p.1 b ≤ hiL b ps := by
  cases ps with
  | nil => simp
  | cons q ps => intro p hp; rcases List.mem_cons.1 hp with rfl | hp; exact (hi_ge b ps _).1; exact (hi_ge b ps _).2 p hp
/-- Where all are together. -/
def anchorI (l : List It) : Bool × Int :=
  if l.length = 0 then (false, 0) else if (Mu.of (l.getD 0 It.zero).t (l.map It.pp)).1 = true then (Mu.of (l.getD 0 It.zero).t (l.map It.pp)).2.fl else (false, 0)
/-- The items of the law: near the first one's time. -/
structure Nb (l : List It) : Prop where
  some : 0 < l.length
  few : l.length ≤ 32
  inI : InI l
  right : ∀ a ∈ l, a.right = true
  t : ∀ a ∈ l, -4611686018427387904 ≤ dif a.t (l.getD 0 It.zero).t
  u : ∀ a ∈ l, -4611686018427387904 ≤ dif a.u (l.getD 0 It.zero).t
  within : spreadI (l.getD 0 It.zero).t l ≤ 4611686018427387904
theorem head_mem {l : List It} (h : 0 < l.length) : l.getD 0 It.zero ∈ l := by
  cases l with
  | nil => simp at h
  | cons a l => simp
theorem lo_mem (b : Int) (ps : List P3) : ∀ m : Int, ps.foldl (fun m q => min m (dif q.1 b)) m = m ∨ ∃ p ∈ ps, ps.foldl (fun m q => min m (dif q.1 b)) m = dif p.1 b := by
  induction ps with
  | nil => intro m; exact Or.inl rfl
  | cons q ps ih =>
    intro m
    rw [List.foldl_cons]
    rcases ih (min m (dif q.1 b)) with h | ⟨p, hp, h⟩
    · rcases Int.le_total m (dif q.1 b) with g | g
      · left; rw [h]; omega
      · right; exact ⟨q, by simp, by rw [h]; omega⟩
    · exact Or.inr ⟨p, by simp [hp], h⟩
theorem loL_mem {b : Int} {ps : List P3} (h : 0 < ps.length) : ∃ p ∈ ps, loL b ps = dif p.1 b := by
  cases ps with
  | nil => simp at h
  | cons q ps =>
    rcases lo_mem b ps (dif q.1 b) with g | ⟨p, hp, g⟩
    · exact ⟨q, by simp, g⟩
    · exact ⟨p, by simp [hp], g⟩
theorem Nb.lohi {l : List It} (h : Nb l) : ∃ lo hi : Int, spreadI (l.getD 0 It.zero).t l = hi - lo ∧ lo ≤ 0 ∧ 0 ≤ hi ∧ -4611686018427387904 ≤ lo ∧ hi ≤ 4611686018427387904 + lo ∧ (∀ a ∈ l, lo ≤ dif a.t (l.getD 0 It.zero).t ∧ dif a.t (l.getD 0 It.zero).t ≤ hi ∧ -4611686018427387904 ≤ dif a.u (l.getD 0 It.zero).t ∧ dif a.u (l.getD 0 It.zero).t ≤ hi) := by
  have hm := head_mem h.some
  have e := (spreadI_eq (l.getD 0 It.zero).t l).1
  have hw := h.within
  have ht := h.t
  have hu := h.u
  have h0 : dif (l.getD 0 It.zero).t (l.getD 0 It.zero).t = 0 := dif_self _
  obtain ⟨q, hq, hlo⟩ := loL_mem (b := (l.getD 0 It.zero).t) (ps := l.map It.pp) (by simpa using h.some)
  obtain ⟨aq, haq, rfl⟩ := List.mem_map.1 hq
  have hl0 := ht aq haq
  generalize hT : (l.getD 0 It.zero).t = T at *
  have l1 : ∀ a ∈ l, loL T (l.map It.pp) ≤ dif a.t T := fun a ha => loL_le a.pp (List.mem_map.2 ⟨a, ha, rfl⟩)
  have l2 : ∀ a ∈ l, dif a.t T ≤ hiL T (l.map It.pp) := fun a ha => hiL_ge a.pp (List.mem_map.2 ⟨a, ha, rfl⟩)
  have l3 : ∀ a ∈ l, dif a.u T ≤ hiL T (l.map It.dp) := fun a ha => hiL_ge a.dp (List.mem_map.2 ⟨a, ha, rfl⟩)
  have g1 := l1 _ hm
  have g2 := l2 _ hm
  rw [hT] at g1 g2
  simp only at hlo
  refine ⟨loL T (l.map It.pp), max (hiL T (l.map It.pp)) (hiL T (l.map It.dp)), e, by omega, by omega, by omega, by omega, fun a ha => ?_⟩
  have a1 := l1 a ha
  have a2 := l2 a ha
  have a3 := l3 a ha
  have a4 := hu a ha
  omega
/-- From anywhere between. -/
theorem Nb.at {l : List It} (h : Nb l) {c : Int} (hlo : ∃ a ∈ l, dif a.t (l.getD 0 It.zero).t ≤ dif c (l.getD 0 It.zero).t) (hhi : ∃ a ∈ l, dif c (l.getD 0 It.zero).t ≤ dif a.t (l.getD 0 It.zero).t) : spreadI c l = spreadI (l.getD 0 It.zero).t l := by
  obtain ⟨lo, hi, e, h1, h2, h3, h4, h5⟩ := h.lohi
  obtain ⟨a, ha, ha2⟩ := hlo
  obtain ⟨b, hb, hb2⟩ := hhi
  have p1 := h5 a ha
  have p2 := h5 b hb
  refine spread_base (l.getD 0 It.zero).t c (dif c (l.getD 0 It.zero).t) h.some (fun x hx => ?_) (fun x hx => ?_)
  · have := h5 x hx
    exact dif_near2 (by omega) (by omega)
  · have := h5 x hx
    exact dif_near2 (by omega) (by omega)
theorem Nb.own {l : List It} (h : Nb l) {a : It} (ha : a ∈ l) : spreadI a.t l = spreadI (l.getD 0 It.zero).t l := h.at ⟨a, ha, Int.le_refl _⟩ ⟨a, ha, Int.le_refl _⟩
theorem first_mem : ∀ (zs : List Int) (t : Int), firstL t zs = t ∨ firstL t zs ∈ zs
  | [], _ => Or.inl rfl
  | z :: zs, t => by
    have e : firstL t (z :: zs) = firstL (fstep t z) zs := rfl
    rw [e]
    rcases first_mem zs (fstep t z) with h | h
    · rw [h]
      unfold fstep
      split
      · right; simp
      · left; rfl
    · right; simp [h]
theorem Nb.first {l : List It} (h : Nb l) (k : Nat) : spreadI (firstL (l.getD 0 It.zero).t ((l.take k).map (·.t))) l = spreadI (l.getD 0 It.zero).t l := by
  rcases first_mem ((l.take k).map (·.t)) (l.getD 0 It.zero).t with e | e
  · rw [e]
  · obtain ⟨a, ha, e2⟩ := List.mem_map.1 e
    rw [← e2]
    exact h.own (List.mem_of_mem_take ha)
theorem pos_of {a : It} (hi : a.In) (h : a.right = true) : pR a.pp = true ∧ PIn a.pp := by
  unfold It.right posOk at h
  simp only [Bool.and_eq_true, decide_eq_true_eq] at h
  refine ⟨?_, hi.1, hi.2.1, hi.2.2.1⟩
  unfold pR
  simp only [Bool.and_eq_true, decide_eq_true_eq]
  exact h.1.1.1.1.1
theorem Nb.pps {l : List It} (h : Nb l) : ∀ p ∈ l.map It.pp, pR p = true ∧ PIn p := fun p hp => by
  obtain ⟨a, ha, rfl⟩ := List.mem_map.1 hp
  exact pos_of (h.inI a ha) (h.right a ha)
/-- Where they are together. -/
theorem Nb.anchor {l : List It} (h : Nb l) : ∃ q : Int, anchorI l = (true, adv (l.getD 0 It.zero).t q) ∧ spreadI (adv (l.getD 0 It.zero).t q) l = spreadI (l.getD 0 It.zero).t l := by
  have hs := h.some
  have hr := h.pps
  have hn : (l.map It.pp).length ≤ 32 := by rw [List.length_map]; exact h.few
  have hof := of_yes (l.getD 0 It.zero).t hr hn
  obtain ⟨lo, hi, e, h1, h2, h3, h4, h5⟩ := h.lohi
  obtain ⟨q, hq, hlo⟩ := loL_mem (b := (l.getD 0 It.zero).t) (ps := l.map It.pp) (by simpa using h.some)
  have hf := fl_near (t := (l.getD 0 It.zero).t) (lo := lo) (hi := hi) hr (by simpa using hs) (fun p hp => by
    obtain ⟨a, ha, rfl⟩ := List.mem_map.1 hp
    exact (h5 a ha).1) (fun p hp => by
    obtain ⟨a, ha, rfl⟩ := List.mem_map.1 hp
    exact (h5 a ha).2.1)
  have h6 := sums_right (l.getD 0 It.zero).t hr hn
  have hok : (Mu.sums (l.getD 0 It.zero).t (l.map It.pp)).flOk = true := by
    unfold Mu.flOk
    rw [h6]
    simp only [Bool.true_and, Bool.and_eq_true, decide_eq_true_eq, smI]
    refine ⟨?_, ?_⟩
    · show (((l.map It.pp).length : Nat) : Int) ≠ 0
      rw [List.length_map]; omega
    · show -9223372036854775808 ≤ sumD _ _ / sumW _ ∧ sumD _ _ / sumW _ ≤ 9223372036854775807
      omega
  refine ⟨sumD (l.getD 0 It.zero).t (l.map It.pp) / sumW (l.map It.pp), ?_, ?_⟩
  · unfold anchorI
    rw [if_neg (by omega), hof, if_pos rfl]
    unfold Mu.fl
    rw [if_pos hok]
    rfl
  · generalize sumD (l.getD 0 It.zero).t (l.map It.pp) / sumW (l.map It.pp) = q at *
    have ed : dif (adv (l.getD 0 It.zero).t q) (l.getD 0 It.zero).t = q := dif_adv _ (by omega) (by omega)
    refine spread_base (l.getD 0 It.zero).t _ q h.some (fun x hx => ?_) (fun x hx => ?_)
    · have := h5 x hx
      exact dif_adv_r (by omega) (by omega)
    · have := h5 x hx
      exact dif_adv_r (by omega) (by omega)
theorem getD_shift (d : Int) {l : List It} (h : 0 < l.length) : (l.map (It.shift d)).getD 0 It.zero = It.shift d (l.getD 0 It.zero) := by
  cases l with
  | nil => simp at h
  | cons a l => rfl
theorem Nb.shift {l : List It} (h : Nb l) (d : Int) : Nb (l.map (It.shift d)) := by
  have hg := getD_shift d h.some
  refine ⟨by simpa using h.some, by simpa using h.few, ?_, ?_, ?_, ?_, ?_⟩
  · intro x hx; obtain ⟨a, ha, rfl⟩ := List.mem_map.1 hx; exact It.shift_in d (h.inI a ha)
  · intro x hx; obtain ⟨a, ha, rfl⟩ := List.mem_map.1 hx
    have := h.right a ha
    unfold It.right It.shift at *
    simp only [dif_wrap]; exact this
  · intro x hx; obtain ⟨a, ha, rfl⟩ := List.mem_map.1 hx
    rw [hg]; show _ ≤ dif (IntKind.u64.wrap (a.t + d)) (IntKind.u64.wrap (_ + d)); rw [dif_wrap]; exact h.t a ha
  · intro x hx; obtain ⟨a, ha, rfl⟩ := List.mem_map.1 hx
    rw [hg]; show _ ≤ dif (IntKind.u64.wrap (a.u + d)) (IntKind.u64.wrap (_ + d)); rw [dif_wrap]; exact h.u a ha
  · rw [hg]; show spreadI (IntKind.u64.wrap (_ + d)) _ ≤ _; rw [spread_shift]; exact h.within
/-- Shifted alike. -/
theorem anchor_shift (d : Int) {l : List It} (h : Nb l) : ∃ x : Int, anchorI l = (true, x) ∧ anchorI (l.map (It.shift d)) = (true, IntKind.u64.wrap (x + d)) ∧ spreadI x l = spreadI (l.getD 0 It.zero).t l ∧ spreadI (IntKind.u64.wrap (x + d)) (l.map (It.shift d)) = spreadI (l.getD 0 It.zero).t l := by
  obtain ⟨q, e1, e2⟩ := h.anchor
  obtain ⟨q2, e3, e4⟩ := (h.shift d).anchor
  have hlen : (l.map (It.shift d)).length ≠ 0 := by have := h.some; simp; intro e; rw [e] at this; simp at this
  have hlen2 : l.length ≠ 0 := by have := h.some; omega
  have hP : ∀ p ∈ l.map It.pp, PIn p := fun p hp => (h.pps p hp).2
  have e5 := fl_sh (l.getD 0 It.zero).t d hP
  have e6 := of_sh (l.getD 0 It.zero).t d hP
  have ep : (l.map (It.shift d)).map It.pp = (l.map It.pp).map (shP d) := by rw [List.map_map, List.map_map]; rfl
  refine ⟨_, e1, ?_, e2, ?_⟩
  · have e1' := e1
    have e3' := e3
    unfold anchorI at e1' e3'
    rw [if_neg hlen2] at e1'
    rw [if_neg hlen, getD_shift d h.some, ep] at e3'
    have c1 : (Mu.of (l.getD 0 It.zero).t (l.map It.pp)).1 = true := by
      cases hc : (Mu.of (l.getD 0 It.zero).t (l.map It.pp)).1 with
      | true => rfl
      | false => rw [hc] at e1'; simp at e1'
    rw [if_pos c1] at e1'
    have c2 : (Mu.of (It.shift d (l.getD 0 It.zero)).t ((l.map It.pp).map (shP d))).1 = true := by rw [← c1]; exact e6.1.symm
    rw [if_pos c2] at e3'
    rw [e3, getD_shift d h.some, ← e3']
    have e7 : (Mu.of (It.shift d (l.getD 0 It.zero)).t ((l.map It.pp).map (shP d))).2.fl = (true, IntKind.u64.wrap (adv (l.getD 0 It.zero).t q + d)) := by
      have h7 := e5.2 (by rw [e1'])
      have h8 := e5.1
      rw [e1'] at h7 h8
      exact Prod.ext h8.symm h7
    exact e7
  · rw [spread_shift]; exact e2
end

end Go.Proofs.YtkddkllepbhnhaaGreatDoor

/- The contracts of the package pos, continued: shifts, order, the least and the greatest difference. -/
import Derived.Test.YtcnmobehamgmbaaPosC
namespace Go.Proofs.Ytcnmobehamgmbaa
open Go.RowKit

set_option maxHeartbeats 1000000 in
theorem Pos.shift (t r v by' : Int) (w : World) :
    Calls Try.prog 16 #[.agg #[.int .u64 t, .int .u32 r, .int .u32 v], .int .u64 by'] w (Ans (.agg #[.int .u64 (IntKind.u64.wrap (t + by')), .int .u32 r, .int .u32 v]) w) := by
  go_enter Try.func16, Try.ntmps16
  go_wp2_with fail
  refine bodyPost_ret (v := .agg #[.int .u64 (IntKind.u64.wrap (t + by')), .int .u32 r, .int .u32 v]) (by simp [results, Try.results16, go_sem]) rfl ⟨rfl, ?_⟩
  exact ((Below.refl _ _).alloc (Nat.le_refl _) _).alloc (by simp) _

set_option maxHeartbeats 1000000 in
theorem Cmp.nan64 (x : Int) (w : World) : Calls Try.prog 115 #[.int .i64 x] w (Ans (.bool false) w) := by
  go_enter Try.func115, Try.ntmps115
  go_wp2
  go_ret
  exact ⟨by simp, Below.refl _ _⟩
set_option maxHeartbeats 1000000 in
theorem Cmp.nanU64 (x : Int) (w : World) : Calls Try.prog 116 #[.int .u64 x] w (Ans (.bool false) w) := by
  go_enter Try.func116, Try.ntmps116
  go_wp2
  go_ret
  exact ⟨by simp, Below.refl _ _⟩
set_option maxHeartbeats 1000000 in
theorem Cmp.i64 (x y : Int) (w : World) : Calls Try.prog 86 #[.int .i64 x, .int .i64 y] w (Ans (.int .i64 (cmpI x y)) w) := by
  rcases Int.lt_trichotomy x y with h | h | h
  · have E := hid (cmpI_lt h)
    go_enter Try.func86, Try.ntmps86
    go_wp2_with fail
    refine (Cmp.nan64 x _).mono ?_
    rintro e w1 ⟨rfl, hb1⟩
    go_wp2_with fail
    refine (Cmp.nan64 y _).mono ?_
    rintro e w2 ⟨rfl, hb2⟩
    go_wp2_with fail
    go_ret
    exact ⟨by rw [E.out]; rfl, below_on hb1 hb2⟩
  · subst h
    have E := hid (cmpI_eq x)
    go_enter Try.func86, Try.ntmps86
    go_wp2_with fail
    refine (Cmp.nan64 x _).mono ?_
    rintro e w1 ⟨rfl, hb1⟩
    go_wp2_with fail
    refine (Cmp.nan64 x _).mono ?_
    rintro e w2 ⟨rfl, hb2⟩
    go_wp2_with fail
    go_ret
    exact ⟨by rw [E.out]; rfl, below_on hb1 hb2⟩
  · have E := hid (cmpI_gt h)
    have h2 : ¬ x < y := by omega
    go_enter Try.func86, Try.ntmps86
    go_wp2_with fail
    refine (Cmp.nan64 x _).mono ?_
    rintro e w1 ⟨rfl, hb1⟩
    go_wp2_with fail
    refine (Cmp.nan64 y _).mono ?_
    rintro e w2 ⟨rfl, hb2⟩
    go_wp2_with fail
    go_ret
    exact ⟨by rw [E.out]; rfl, below_on hb1 hb2⟩
set_option maxHeartbeats 1000000 in
theorem Cmp.u64 (x y : Int) (w : World) : Calls Try.prog 87 #[.int .u64 x, .int .u64 y] w (Ans (.int .i64 (cmpI x y)) w) := by
  rcases Int.lt_trichotomy x y with h | h | h
  · have E := hid (cmpI_lt h)
    go_enter Try.func87, Try.ntmps87
    go_wp2_with fail
    refine (Cmp.nanU64 x _).mono ?_
    rintro e w1 ⟨rfl, hb1⟩
    go_wp2_with fail
    refine (Cmp.nanU64 y _).mono ?_
    rintro e w2 ⟨rfl, hb2⟩
    go_wp2_with fail
    go_ret
    exact ⟨by rw [E.out]; rfl, below_on hb1 hb2⟩
  · subst h
    have E := hid (cmpI_eq x)
    go_enter Try.func87, Try.ntmps87
    go_wp2_with fail
    refine (Cmp.nanU64 x _).mono ?_
    rintro e w1 ⟨rfl, hb1⟩
    go_wp2_with fail
    refine (Cmp.nanU64 x _).mono ?_
    rintro e w2 ⟨rfl, hb2⟩
    go_wp2_with fail
    go_ret
    exact ⟨by rw [E.out]; rfl, below_on hb1 hb2⟩
  · have E := hid (cmpI_gt h)
    have h2 : ¬ x < y := by omega
    go_enter Try.func87, Try.ntmps87
    go_wp2_with fail
    refine (Cmp.nanU64 x _).mono ?_
    rintro e w1 ⟨rfl, hb1⟩
    go_wp2_with fail
    refine (Cmp.nanU64 y _).mono ?_
    rintro e w2 ⟨rfl, hb2⟩
    go_wp2_with fail
    go_ret
    exact ⟨by rw [E.out]; rfl, below_on hb1 hb2⟩

theorem mul32 {a b : Int} (a0 : 0 ≤ a) (a1 : a ≤ 4294967295) (b0 : 0 ≤ b) (b1 : b ≤ 4294967295) : IntKind.u64.wrap (a * b) = a * b := by
  have h0 : 0 ≤ a * b := Int.mul_nonneg a0 b0
  have h1 : a * b ≤ 4294967295 * 4294967295 := Int.mul_le_mul a1 b1 b0 (by decide)
  rw [IntKind.wrap_u64]; omega
theorem up32 {a : Int} (a0 : 0 ≤ a) (a1 : a ≤ 4294967295) : IntKind.u64.wrap a = a := by rw [IntKind.wrap_u64]; omega

set_option maxHeartbeats 2000000 in
theorem Pos.cmp (t r v u s y : Int) (r0 : 0 ≤ r) (r1 : r ≤ 4294967295) (v0 : 0 ≤ v) (v1 : v ≤ 4294967295) (s0 : 0 ≤ s) (s1 : s ≤ 4294967295) (y0 : 0 ≤ y) (y1 : y ≤ 4294967295) (w : World) :
    Calls Try.prog 61 #[.agg #[.int .u64 t, .int .u32 r, .int .u32 v], .agg #[.int .u64 u, .int .u32 s, .int .u32 y]] w (Ans (.int .i64 (posC t r v u s y)) w) := by
  have e1 := up32 r0 r1
  have e2 := up32 v0 v1
  have e3 := up32 s0 s1
  have e4 := up32 y0 y1
  have e5 := mul32 r0 r1 y0 y1
  have e6 := mul32 s0 s1 v0 v1
  clear r0 r1 v0 v1 s0 s1 y0 y1
  have E : Hid (posC t r v u s y = if dif u t ≠ 0 then cmpI 0 (dif u t) else cmpI (r * y) (s * v)) := rfl
  by_cases c : dif u t = 0
  · have c1 : (dif u t != 0) = false := by rw [c]; rfl
    rw [if_neg (by omega)] at E
    clear c
    go_enter Try.func61, Try.ntmps61
    go_wp2_with fail
    refine (Vtime.since u t _).mono ?_
    rintro e w1 ⟨rfl, hb1⟩
    have HB1 := hid ((((Below.refl _ w).alloc (Nat.le_refl _) (.cells #[.int .u64 t, .int .u32 r, .int .u32 v] 26)).alloc (by simp) (.cells #[.int .u64 u, .int .u32 s, .int .u32 y] 26)).trans (hb1.mono (by simp; omega)))
    have hc := keep4 (w := (w.alloc (.cells #[.int .u64 t, .int .u32 r, .int .u32 v] 26)).alloc (.cells #[.int .u64 u, .int .u32 s, .int .u32 y] 26)) (b0 := w.heap.size) (o0 := 1) (v0 := .int .u32 r) (b1 := w.heap.size) (o1 := 2) (v1 := .int .u32 v) (b2 := w.heap.size + 1) (o2 := 1) (v2 := .int .u32 s) (b3 := w.heap.size + 1) (o3 := 2) (v3 := .int .u32 y) ⟨by simp [go_sem], by simp [go_sem], by simp [go_sem], by simp [go_sem]⟩ hb1
    obtain ⟨x1, x2, x3, x4⟩ := hc
    clear hb1
    go_wp2_with fail
    refine (Cmp.u64 (r * y) (s * v) _).mono ?_
    rintro e w2 ⟨rfl, hb2⟩
    go_wp2_with fail
    go_ret
    exact ⟨by rw [E.out]; rfl, below_on HB1.out hb2⟩
  · have c1 : (dif u t != 0) = true := by simpa using c
    rw [if_pos c] at E
    clear c e1 e2 e3 e4 e5 e6
    go_enter Try.func61, Try.ntmps61
    go_wp2_with fail
    refine (Vtime.since u t _).mono ?_
    rintro e w1 ⟨rfl, hb1⟩
    have HB1 := hid ((((Below.refl _ w).alloc (Nat.le_refl _) (.cells #[.int .u64 t, .int .u32 r, .int .u32 v] 26)).alloc (by simp) (.cells #[.int .u64 u, .int .u32 s, .int .u32 y] 26)).trans (hb1.mono (by simp; omega)))
    clear hb1
    go_wp2_with fail
    refine (Cmp.i64 0 (dif u t) _).mono ?_
    rintro e w2 ⟨rfl, hb2⟩
    go_wp2_with fail
    go_ret
    exact ⟨by rw [E.out]; rfl, below_on HB1.out hb2⟩

/-- A slice of positions: a time, what is left, a weight. -/
def RdP (w : World) (A : Option Addr) (n : Nat) (ps : List (Int × Int × Int)) : Prop :=
  ps.length = n ∧ ∀ i, i < n → ∃ b off, A = some ⟨b, off, none⟩ ∧ b < w.heap.size ∧ ∀ j, j < n → w.cell? ⟨b, off + j * 3, none⟩ = some (.int .u64 (ps.getD j (0, 0, 0)).1) ∧ w.cell? ⟨b, off + j * 3 + 1, none⟩ = some (.int .u32 (ps.getD j (0, 0, 0)).2.1) ∧ w.cell? ⟨b, off + j * 3 + 2, none⟩ = some (.int .u32 (ps.getD j (0, 0, 0)).2.2)
theorem RdP.below {w w' : World} {A : Option Addr} {n : Nat} {ps : List (Int × Int × Int)} (h : RdP w A n ps) (hb : Below w.heap.size w w') : RdP w' A n ps :=
  ⟨h.1, fun i hi => by
    obtain ⟨b, off, e, hl, hc⟩ := h.2 i hi
    exact ⟨b, off, e, Nat.lt_of_lt_of_le hl hb.size, fun j hj => ⟨keep1 hb (hc j hj).1, keep1 hb (hc j hj).2.1, keep1 hb (hc j hj).2.2⟩⟩⟩
/-- The least, the greatest difference from a time. -/
def loL (base : Int) : List (Int × Int × Int) → Int
  | [] => 0
  | p :: ps => ps.foldl (fun m q => min m (dif q.1 base)) (dif p.1 base)
def hiL (base : Int) : List (Int × Int × Int) → Int
  | [] => 0
  | p :: ps => ps.foldl (fun m q => max m (dif q.1 base)) (dif p.1 base)
theorem loL_step (base : Int) (ps : List (Int × Int × Int)) {k : Nat} (hk : k < ps.length) : loL base (ps.take (k + 1)) = if k = 0 then dif (ps.getD k (0, 0, 0)).1 base else min (loL base (ps.take k)) (dif (ps.getD k (0, 0, 0)).1 base) := by
  have e : ps.getD k (0, 0, 0) = ps[k] := by simp [List.getD, hk]
  rw [e]
  cases ps with
  | nil => simp at hk
  | cons p ps =>
    rcases k with _ | k
    · simp [loL]
    · rw [if_neg (by omega)]
      have hk' : k < ps.length := by simpa using hk
      simp only [List.take_succ_cons, loL, List.getElem_cons_succ]
      rw [List.take_succ_eq_append_getElem hk', List.foldl_append]; rfl
theorem hiL_step (base : Int) (ps : List (Int × Int × Int)) {k : Nat} (hk : k < ps.length) : hiL base (ps.take (k + 1)) = if k = 0 then dif (ps.getD k (0, 0, 0)).1 base else max (hiL base (ps.take k)) (dif (ps.getD k (0, 0, 0)).1 base) := by
  have e : ps.getD k (0, 0, 0) = ps[k] := by simp [List.getD, hk]
  rw [e]
  cases ps with
  | nil => simp at hk
  | cons p ps =>
    rcases k with _ | k
    · simp [hiL]
    · rw [if_neg (by omega)]
      have hk' : k < ps.length := by simpa using hk
      simp only [List.take_succ_cons, hiL, List.getElem_cons_succ]
      rw [List.take_succ_eq_append_getElem hk', List.foldl_append]; rfl

set_option maxHeartbeats 2000000 in
theorem Pos.floors (base : Int) (A : Option Addr) (n c : Nat) (ps : List (Int × Int × Int)) (w : World) (hz : RdP w A n ps) (hn : n ≤ 1152921504606846976) :
    Calls Try.prog 63 #[.int .u64 base, .slice A n c] w (Ans (.tuple #[.int .i64 (loL base ps), .int .i64 (hiL base ps)]) w) := by
  have HZ := hid hz
  have HL := hid hz.1
  clear hz
  go_enter Try.func63, Try.ntmps63
  go_wp2_with fail
  go_loopg [4, 5, 11] n (fun g a b i wr => ∃ (k : Nat) (x y : Int), k ≤ n ∧ g = n - k ∧ i = .int .i64 k ∧ a = .int .i64 x ∧ b = .int .i64 y ∧ Hid (x = loL base (ps.take k) ∧ y = hiL base (ps.take k)) ∧ Below w.heap.size w wr)
  case atStart => exact ⟨0, 0, 0, Nat.zero_le _, by omega, rfl, rfl, rfl, hid ⟨rfl, rfl⟩, Below.refl _ _⟩
  case round =>
    obtain ⟨k, x, y, hk, hg, rfl, rfl, rfl, hx, hb⟩ := hrel
    have HB := hid hb
    have HG := hid hg
    clear hb hg
    by_cases hlt : k < n
    · obtain ⟨b, off, rfl, hbl, hc⟩ := (HZ.out.below HB.out).2 k hlt
      obtain ⟨hc0, hc1, hc2⟩ := hc k hlt
      have HS := hid (And.intro (loL_step base ps (k := k) (by have := HL.out; omega)) (hiL_step base ps (k := k) (by have := HL.out; omega)))
      generalize ps.getD k (0, 0, 0) = z at *
      obtain ⟨z0, z1, z2⟩ := z
      dsimp only at hc0 hc1 hc2
      clear hc
      go_wp2_with fail
      refine (Vtime.since z0 base _).mono ?_
      rintro e w2 ⟨rfl, hb2⟩
      have HB2 := hid (below_on (HB.out.alloc HB.out.size (.cells #[.int .u64 z0, .int .u32 z1, .int .u32 z2] 26)) hb2)
      clear hb2
      by_cases c2 : k = 0
      · subst c2
        go_wp2_with fail
        go_roundg (n - 1)
        case measure => have := HG.out; omega
        case rel => exact ⟨1, _, _, by omega, rfl, by go_num, rfl, rfl, hid ⟨by rw [HS.out.1, if_pos trivial], by rw [HS.out.2, if_pos trivial]⟩, HB2.out⟩
      · have c3 : ((k : Int) == 0) = false := by rw [beq_eq_false_iff_ne]; omega
        go_wp2_with fail
        go_roundg (n - (k + 1))
        case measure => have := HG.out; omega
        case rel => exact ⟨k + 1, _, _, by omega, rfl, by go_num, rfl, rfl, hid ⟨by rw [HS.out.1, if_neg c2, ← hx.out.1], by rw [HS.out.2, if_neg c2, ← hx.out.2]⟩, HB2.out⟩
    · go_wp2_with fail
      go_ret2
      have e : ps.take k = ps := List.take_of_length_le (by have := HL.out; omega)
      have hx2 := hx.out
      rw [e] at hx2
      exact ⟨by rw [hx2.1, hx2.2]; rfl, HB.out⟩

end Go.Proofs.Ytcnmobehamgmbaa

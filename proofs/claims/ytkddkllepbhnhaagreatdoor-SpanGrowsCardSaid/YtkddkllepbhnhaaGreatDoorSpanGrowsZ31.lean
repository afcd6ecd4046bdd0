/- Texts of SpanGrows's proof, together. -/
import Derived.Test.YtkddkllepbhnhaaGreatDoorSpanGrowsZ30
import Derived.Laws.StructEq
import Derived.Test.YtkddkllepbhnhaaGreatDoorSpanGrowsZ0
import Derived.Test.YtkddkllepbhnhaaGreatDoorSpanGrowsZ22
namespace Go.Proofs.YtkddkllepbhnhaaGreatDoor
/- Items near a time; which are alike; is one in a slice? -/
section
open Go.RowKit
def It.eqb (x y : It) : Bool := x.t == y.t && x.r == y.r && x.v == y.v && x.i == y.i && x.u == y.u && x.s == y.s && x.y == y.y
set_option maxHeartbeats 4000000 in
theorem Item.eqB (t1 t2 r1 r2 v1 v2 i1 i2 u1 u2 s1 s2 y1 y2 : Int) (w : World) :
    (binOp .eql 86 (.agg #[.int .u64 t1, .int .u32 r1, .int .u32 v1, .int .i64 i1, .int .u64 u1, .int .u32 s1, .int .u32 y1]) (.agg #[.int .u64 t2, .int .u32 r2, .int .u32 v2, .int .i64 i2, .int .u64 u2, .int .u32 s2, .int .u32 y2])).run Tryz.prog w = .ok (.bool (It.eqb (It.mk t1 r1 v1 i1 u1 s1 y1) (It.mk t2 r2 v2 i2 u2 s2 y2))) w := by
  unfold It.eqb
  by_cases pt : t1 = t2
  · subst pt
    by_cases pr : r1 = r2
    · subst pr
      by_cases pv : v1 = v2
      · subst pv
        by_cases pi : i1 = i2
        · subst pi
          by_cases pu : u1 = u2
          · subst pu
            by_cases ps : s1 = s2
            · subst ps
              by_cases py : y1 = y2
              · subst py
                go_simp
              · have qy : (y1 == y2) = false := by simpa using py
                go_simp
            · have qs : (s1 == s2) = false := by simpa using ps
              go_simp
          · have qu : (u1 == u2) = false := by simpa using pu
            go_simp
        · have qi : (i1 == i2) = false := by simpa using pi
          go_simp
      · have qv : (v1 == v2) = false := by simpa using pv
        go_simp
    · have qr : (r1 == r2) = false := by simpa using pr
      go_simp
  · have qt : (t1 == t2) = false := by simpa using pt
    go_simp
end

/- How far items lie apart, and where they are together: as numbers. -/
section
open Go.RowKit
theorem loL_app (b : Int) (p : P3) (ps : List P3) (q : P3) : loL b (p :: ps ++ [q]) = min (loL b (p :: ps)) (dif q.1 b) := by
  unfold loL; simp
theorem hiL_app (b : Int) (p : P3) (ps : List P3) (q : P3) : hiL b (p :: ps ++ [q]) = max (hiL b (p :: ps)) (dif q.1 b) := by
  unfold hiL; simp
/-- One more lies no nearer. -/
theorem spread_app (b : Int) {l : List It} (a : It) (h : 0 < l.length) : spreadI b l ≤ spreadI b (l ++ [a]) := by
  cases l with
  | nil => simp at h
  | cons x l =>
    rw [(spreadI_eq b (x :: l)).1, (spreadI_eq b (x :: l ++ [a])).1]
    have e1 := loL_app b x.pp (l.map It.pp) a.pp
    have e2 := hiL_app b x.pp (l.map It.pp) a.pp
    have e3 := hiL_app b x.dp (l.map It.dp) a.dp
    simp only [List.map_append, List.map_cons, List.map_nil] at e1 e2 e3 ⊢
    rw [e1, e2, e3]
    omega
theorem spread_one (a : It) : spreadI a.t [a] = max 0 (dif a.u a.t) := by
  rw [(spreadI_eq a.t [a]).1]
  show max (dif a.t a.t) (dif a.u a.t) - dif a.t a.t = _
  rw [dif_self]; omega
/-- How much further they might lie. -/
def roomI (b : Int) (l : List It) : Int := 4611686018427387904 - min (spreadI b l) 4611686018427387904
def withinI (b : Int) (l : List It) : Bool := decide (spreadI b l ≤ 4611686018427387904)
theorem room_bd (b : Int) (l : List It) : 0 ≤ roomI b l ∧ roomI b l ≤ 4611686018427387904 := by
  have := (spreadI_eq b l).2
  unfold roomI; omega
theorem grows_room (b : Int) {l : List It} (a : It) (h : 0 < l.length) : roomI b (l ++ [a]) ≤ roomI b l := by
  have := spread_app b a h
  unfold roomI; omega
theorem grows_within (b : Int) {l : List It} (a : It) (h : 0 < l.length) : withinI b (l ++ [a]) = true → withinI b l = true := by
  have := spread_app b a h
  unfold withinI
  rw [decide_eq_true_eq, decide_eq_true_eq]; omega
theorem right_dif {a : It} (h : a.right = true) : 0 ≤ dif a.u a.t ∧ dif a.u a.t ≤ 1152921504606846976 := by
  unfold It.right at h
  simp only [Bool.and_eq_true, decide_eq_true_eq] at h
  omega
theorem room_right {a : It} (h : a.right = true) : roomI a.t [a] = 4611686018427387904 - dif a.u a.t := by
  have := right_dif h
  unfold roomI
  rw [spread_one]; omega
end

end Go.Proofs.YtkddkllepbhnhaaGreatDoor

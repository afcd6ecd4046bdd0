/- Texts of SpanTells's proof, together. -/
import Derived.Test.YtklaghleghncoaaGreatDoorSpanTellsZ31
import Derived.Laws.StructEq
import Derived.Test.YtklaghleghncoaaGreatDoorSpanTellsZ0
import Derived.Test.YtklaghleghncoaaGreatDoorSpanTellsZ22
namespace Go.Proofs.YtklaghleghncoaaGreatDoor
/- Items near a time; which are alike; is one in a slice? -/
section
open Go.RowKit
def It.eqb (x y : It) : Bool := x.t == y.t && x.r == y.r && x.v == y.v && x.i == y.i && x.u == y.u && x.s == y.s && x.y == y.y
set_option maxHeartbeats 4000000 in
theorem Item.eqB (t1 t2 r1 r2 v1 v2 i1 i2 u1 u2 s1 s2 y1 y2 : Int) (w : World) :
    (binOp .eql 76 (.agg #[.int .u64 t1, .int .u32 r1, .int .u32 v1, .int .i64 i1, .int .u64 u1, .int .u32 s1, .int .u32 y1]) (.agg #[.int .u64 t2, .int .u32 r2, .int .u32 v2, .int .i64 i2, .int .u64 u2, .int .u32 s2, .int .u32 y2])).run Tryz.prog w = .ok (.bool (It.eqb (It.mk t1 r1 v1 i1 u1 s1 y1) (It.mk t2 r2 v2 i2 u2 s2 y2))) w := by
  unfold It.eqb
  by_cases pt : t1 = t2
  · subst pt
    by_cases pr : r1 = r2
    · subst pr
      by_cases pv : v1 = v2
      · subst pv
        by_cases pi : i1 = i2
        · subst pi
          by_cases pu : u1 = u2
          · subst pu
            by_cases ps : s1 = s2
            · subst ps
              by_cases py : y1 = y2
              · subst py
                go_simp
              · have qy : (y1 == y2) = false := by simpa using py
                go_simp
            · have qs : (s1 == s2) = false := by simpa using ps
              go_simp
          · have qu : (u1 == u2) = false := by simpa using pu
            go_simp
        · have qi : (i1 == i2) = false := by simpa using pi
          go_simp
      · have qv : (v1 == v2) = false := by simpa using pv
        go_simp
    · have qr : (r1 == r2) = false := by simpa using pr
      go_simp
  · have qt : (t1 == t2) = false := by simpa using pt
    go_simp
end

/- How far items lie apart, and where they are together: as numbers. -/
section
open Go.RowKit
/-- How much further they might lie. -/
def roomI (b : Int) (l : List It) : Int := 4611686018427387904 - min (spreadI b l) 4611686018427387904
def withinI (b : Int) (l : List It) : Bool := decide (spreadI b l ≤ 4611686018427387904)
theorem room_bd (b : Int) (l : List It) : 0 ≤ roomI b l ∧ roomI b l ≤ 4611686018427387904 := by
  have := (spreadI_eq b l).2
  unfold roomI; omega
/-- Where all are together. -/
def anchorI (l : List It) : Bool × Int :=
  if l.length = 0 then (false, 0) else if (Mu.of (l.getD 0 It.zero).t (l.map It.pp)).1 = true then (Mu.of (l.getD 0 It.zero).t (l.map It.pp)).2.fl else (false, 0)
end

end Go.Proofs.YtklaghleghncoaaGreatDoor

/- Texts of CoreRefuses's proof, together. -/
import Derived.Test.YtnmbfjgcmfjdcaaGreatDoorCoreRefusesZ17
import Derived.Test.YtnmbfjgcmfjdcaaGreatDoorCoreRefusesZ18
namespace Go.Proofs.YtnmbfjgcmfjdcaaGreatDoor

section
open Go.RowKit
theorem Cs.ja (w:World) (t:TypeId) (vs:List Value):Cs (w.alloc (.cells vs.toArray t)) w.heap.size vs:=fun i v hv=>by
 refine⟨?_,by simp[go_sem]⟩;rw[World.cell?_alloc_new];simpa using hv
end


section
open Go.RowKit
structure Pl where
 d:Int
 r:Int
 v:Int
def Pl.c (p q:Pl):Int:=if q.d-p.d≠0 then fK 0 (q.d-p.d) else fK (p.r*q.v) (q.r*p.v)
theorem Pl.Jq (p q:Pl):p.c q= -(q.c p):=by
 unfold Pl.c;by_cases h:q.d-p.d≠0
 ·rw[if_pos h,if_pos af];unfold fK;split<;>split<;>(try split)<;>(try split)<;>omega
 ·rw[if_neg h,if_neg af];exact Po _ _
theorem Ji (a b:Int):fK a b≤0↔a≤b:=by unfold fK;split<;>(try split)<;>omega
theorem Jh (a b:Int):fK a b<0↔a<b:=by unfold fK;split<;>(try split)<;>omega
theorem Pl.le (p q:Pl):p.c q≤0↔p.d<q.d∨p.d=q.d∧p.r*q.v≤q.r*p.v:=by
 unfold Pl.c;by_cases h:q.d-p.d≠0
 ·rw[if_pos h,Ji];omega
 ·rw[if_neg h,Ji];have:p.d=q.d:=af;simp[this]
theorem Pl.lt (p q:Pl):p.c q<0↔p.d<q.d∨p.d=q.d∧p.r*q.v<q.r*p.v:=by
 unfold Pl.c;by_cases h:q.d-p.d≠0
 ·rw[if_pos h,Jh];omega
 ·rw[if_neg h,Jh];have:p.d=q.d:=af;simp[this]
theorem Pl.trans {p q s:Pl} (hp:0<p.v) (hq:0<q.v) (hs:0<s.v) (h1:p.c q≤0) (h2:q.c s≤0):p.c s≤0∧(p.c q<0∨q.c s<0→p.c s<0):=by
 rw[Pl.le] at h1 h2;rw[Pl.le,Pl.lt,Pl.lt,Pl.lt];rcases h1 with h1|⟨h1,h1'⟩
 ·exact⟨Or.inl af,fun _=>Or.inl af⟩
 ·rcases h2 with h2|⟨h2,h2'⟩
  ·exact⟨Or.inl af,fun _=>Or.inl af⟩
  ·have e:∀x y z:Int,x*y*z=y*(x*z):=fun x y z=>by rw[Int.mul_comm x y,Int.mul_assoc]
   have m1:p.r*q.v*s.v≤q.r*p.v*s.v:=Int.mul_le_mul_of_nonneg_right h1' af;have m2:q.r*s.v*p.v≤s.r*q.v*p.v:=Int.mul_le_mul_of_nonneg_right h2' af;have e1:q.r*p.v*s.v=q.r*s.v*p.v:=by rw[Int.mul_assoc,Int.mul_comm p.v s.v,←Int.mul_assoc]
   have m3:q.v*(p.r*s.v)≤q.v*(s.r*p.v):=by rw[←e,←e];omega
   have m4:p.r*s.v≤s.r*p.v:=Int.le_of_mul_le_mul_left m3 hq;refine⟨Or.inr ⟨by omega,m4⟩,fun h=>Or.inr ⟨by omega,?_⟩⟩;rcases Int.lt_or_eq_of_le m4 with h5|h5
   ·exact h5
   ·exfalso
    have m5:p.r*q.v*s.v=s.r*q.v*p.v:=by rw[e p.r,e s.r,h5]
    rcases h with(h|⟨_,h⟩)|(h|⟨_,h⟩)
    ·omega
    ·have:=Int.mul_lt_mul_of_pos_right h hs;omega
    ·omega
    ·have:=Int.mul_lt_mul_of_pos_right h hp;omega
def It.p1 (t:Int) (a:It):Pl:=⟨aH a.t t,a.r,a.v⟩
def It.p2 (t:Int) (a:It):Pl:=⟨aH a.u t,a.s,a.y⟩
end

end Go.Proofs.YtnmbfjgcmfjdcaaGreatDoor

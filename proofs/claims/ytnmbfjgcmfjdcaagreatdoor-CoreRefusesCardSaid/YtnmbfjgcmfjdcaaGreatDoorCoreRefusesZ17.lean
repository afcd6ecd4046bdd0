/- Texts of CoreRefuses's proof, together. -/
import Derived.Test.YtnmbfjgcmfjdcaaGreatDoorSyB
import Derived.Test.YtnmbfjgcmfjdcaaGreatDoorCoreRefusesZ10
import Derived.Test.YtnmbfjgcmfjdcaaGreatDoorCkW0
namespace Go.Proofs.YtnmbfjgcmfjdcaaGreatDoor

namespace Ck
open Go Go.RowKit
def NZ:Type:=Int
instance:Enc NZ:=⟨.int .u64,gQ,fun(n:Int)=>0<n∧n≤18446744073709551615⟩
theorem oC (n:Int):cd NZ (.int .u64 n)↔0<n∧n≤18446744073709551615:=⟨fun h=>h.2,fun h=>⟨rfl,h⟩⟩
def UX:Type:=Int
instance:Enc UX:=⟨.int .u64,gQ,fun _=>True⟩
theorem mf (n:Int):cd UX (.int .u64 n)↔True:=⟨fun h=>h.2,fun h=>⟨rfl,h⟩⟩
def PX:Type:=P3
instance:Enc PX:=⟨pv,dP,fun _=>True⟩
theorem mg (p:P3):cd PX (pv p)↔True:=⟨fun h=>h.2,fun h=>⟨rfl,h⟩⟩
def Ta:List (Nat×SF):=[
 (89,s2 (α:=WI) (β:=WI) fun(a b:Int)=> .tuple #[wv (eQ (a+b)), .bool (okW (a+b))]),
 (97,s2 (α:=WI) (β:=WI) fun(a b:Int)=> .tuple #[wv (eQ (a-b)), .bool (okW (a-b))]),
 (87,s2 (α:=WI) (β:=sH) fun(a b:Int)=> .tuple #[wv (eQ (a*b)), .bool (okW (a*b))]),
 (66,s2 (α:=WI) (β:=NZ) fun(a b:Int)=> .tuple #[wv (a/b), .int .u64 (a%b), .bool true]),
 (105,s1 (α:=sH) fun(a:Int)=>wv a),
 (103,s1 (α:=WI) fun(a:Int)=> .tuple #[.int .i64 (if sD a=true then a else 0), .bool (sD a)]),
 (79,s1 (α:=WI) fun(a:Int)=> .int .i64 (fK a 0)),
 (127,s2 (α:=UX) (β:=UX) fun(t u:Int)=> .int .i64 (aH t u)),
 (104,s2 (α:=UX) (β:=sH) fun(t d:Int)=> .int .u64 (il t d)),
 (88,s2 (α:=P3) (β:=UX) fun p (t:Int)=>wv (Go.Proofs.YtnmbfjgcmfjdcaaGreatDoor.pD t p)),
 (86,s1 (α:=PX) fun(p:P3)=> .bool (pR p)),
 (203,s2 (α:=P3) (β:=UX) fun p (t:Int)=>pv (ZO t p)),
 (161,s2 (α:=P3) (β:=P3) fun p q=> .int .i64 (Ew p q)),
 (69,s3 (α:=UX) (β:=WI) (γ:=FL) fun(t d v:Int)=> .tuple #[pv (sG t d v), .bool (atOk d v)]),
 (112,s2 (α:=P3) (β:=TR) fun p (g:Int)=> .tuple #[pv (sG p.1 (g+p.2.1) p.2.2), .bool (atOk (g+p.2.1) p.2.2)])]
theorem GZ:oL Tryz.prog Ta:=
 .cons (rA fun _ _ ha hb w=>bK.SB ha hb w) <| .cons (rA fun _ _ ha hb w=>bK.VI ha hb w) <| .cons (rA fun _ _ ha hb w=>bK.aag ha hb.1 hb.2 w) <|
 .cons (rA fun _ _ ha hb w=>bK.aav ha hb.1 hb.2 w) <| .cons (ok1 fun _ ha w=>bK.ZT ha.1 ha.2 w) <| .cons (ok1 fun _ ha w=>bK.VK ha w) <| .cons (ok1 fun _ ha w=>bK.Y8 ha w) <|
 .cons (rA fun t u _ _ w=>uW.since t u w) <| .cons (rA fun t d _ _ w=>uW.add t d w) <|
 .cons (rA fun _ t hp _ w=>Pos.FD t hp w) <| .cons (ok1 fun p _ w=>Pos.VO p w) <| .cons (rA fun p t _ _ w=>Pos.VM p t w) <| .cons (rA fun _ _ hp hq w=>Pos.XF hp hq w) <|
 .cons (ZR fun t _ _ _ hd hv w=>Pos.atF t hd hv.1 hv.2 w) <| .cons (rA fun _ _ hp hg w=>Pos.moveF hp hg.1 hg.2 w) .nil
end Ck


namespace Ck
open Go Go.RowKit
def dI:Value→It
 | .agg c=>match c.toList with
   |[t,r,v,i,u,s,y]=>⟨gQ t,gQ r,gQ v,gQ i,gQ u,gQ s,gQ y⟩
   |_=>⟨0,0,0,0,0,0,0⟩
 |_=>⟨0,0,0,0,0,0,0⟩
instance:Enc It:=⟨It.val,dI,It.In⟩
theorem Pn (a:It):dI a.val=a:=rfl
theorem XL (a:It):cd It a.val↔a.In:=⟨fun h=>h.2,fun h=>⟨rfl,h⟩⟩
def VB:List (Nat×SF):=
 (121,s2 (α:=It) (β:=It) fun a b=> .bool (It.ahead a b))::Ta
theorem NB:oL Tryz.prog VB:= .cons (rA fun a b ha hb w=>Item.ahead a b ha hb w) GZ
end Ck
section
open Go Go.RowKit Ck
theorem Item.duT (a b:It) (K:Value→Prop):jE Tryz.prog (gD VB) 3000 159 [a.val,b.val] K=((cd P3 (pv (a.u,a.s,a.y))∧cd P3 (pv (b.u,b.s,b.y)))∧br (Ew (a.u,a.s,a.y) (b.u,b.s,b.y) != 0)
 (br (decide (Ew (a.u,a.s,a.y) (b.u,b.s,b.y)<0))
  (K (.bool true))
  (K (.bool false)))
 ((cd It a.val∧cd It b.val)∧br ((dI a.val).ahead (dI b.val))
  (K (.bool true))
  (K (.bool false)))):=by kernel_rfl
theorem Item.due (a b:It) (ha:a.In) (hb:b.In) (w:World):
  Calls Tryz.prog 159 #[a.val,b.val] w fun e w'=>e= .returned (.bool (It.due a b))∧Below w w w':=by
 refine kF mixed NB (Item.duT a b _) ?_ w;simp only[kv,Pn,lJ,mg,XL,mf];refine⟨⟨⟨ha.2.2.2.2.1,ha.2.2.2.2.2⟩,hb.2.2.2.2.1,hb.2.2.2.2.2⟩,fun h1=>⟨fun h2=> ?_,fun h2=> ?_⟩,fun h1=>⟨⟨ha,hb⟩,fun h2=> ?_,fun h2=> ?_⟩⟩<;>simp_all [It.due,Ew]<;>first|exact of_decide_eq_true h2|exact Int.not_lt.1 (of_decide_eq_false h2)
theorem Item.riT (a:It) (K:Value→Prop):jE Tryz.prog (gD VB) 3000 107 [a.val] K=((cd UX (.int .u64 a.u)∧cd UX (.int .u64 a.t))∧(cd PX (pv (a.t,a.r,a.v)))∧br (pR (a.t,a.r,a.v))
 ((cd PX (pv (a.u,a.s,a.y)))∧br (pR (a.u,a.s,a.y))
  (br (a.v == a.y)
   (br (decide (a.i>0))
    (br (decide (aH a.u a.t≥0))
     (br (decide (aH a.u a.t≤1152921504606846976))
      (K (.bool true))
      (K (.bool false)))
     (K (.bool false)))
    (K (.bool false)))
   (K (.bool false)))
  (K (.bool false)))
 (K (.bool false))):=by kernel_rfl
theorem Item.right (a:It) (w:World):Calls Tryz.prog 107 #[a.val] w (aV (.bool (It.right a)) w):=by
 refine kF mixed NB (Item.riT a _) ?_ w;simp only[kv,Pn,lJ,mg,XL,mf];unfold It.right Cn pR;refine⟨⟨trivial,trivial⟩,trivial,fun h1=>⟨trivial,fun h2=>⟨fun h3=>⟨fun h4=>⟨fun h5=>⟨fun h6=> ?_,fun h6=> ?_⟩,fun h5=> ?_⟩,fun h4=> ?_⟩,fun h3=> ?_⟩,fun h2=> ?_⟩,fun h1=> ?_⟩<;>simp_all<;>omega
end

end Go.Proofs.YtnmbfjgcmfjdcaaGreatDoor

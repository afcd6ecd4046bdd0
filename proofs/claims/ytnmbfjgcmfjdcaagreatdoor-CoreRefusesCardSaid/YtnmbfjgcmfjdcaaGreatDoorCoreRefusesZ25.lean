/- Texts of CoreRefuses's proof, together. -/
import Derived.Test.YtnmbfjgcmfjdcaaGreatDoorVlE
import Derived.Shelf.SlSortCmp.WholeK
namespace Go.Proofs.YtnmbfjgcmfjdcaaGreatDoor

section
open Go.Shelf Go.RowKit Go.Lib Go.Sort Go.Maps
def Tryz.Mc:Go.Shelf.Ren:=⟨fun|6=>62|15=>96|14=>95|28=>142|29=>143|20=>134|21=>135|22=>136|23=>137|24=>138|25=>139|26=>140|27=>141|46=>168|47=>169|48=>170|49=>171|50=>172|57=>185|n=>n,fun|22=>53|24=>59|25=>91|3=>3|39=>154|0=>0|53=>29|55=>22|4=>4|46=>189|45=>188|50=>145|5=>5|9=>9|66=>217|70=>221|76=>232|77=>233|n=>n,fun|n=>n⟩
theorem Tryz.VJ:Go.Proofs.SlLaysF0.n6 Tryz.prog Tryz.Mc:=open Go.Proofs.Tryz in{mixed:=by kernel_rfl,f6:=⟨f62.name,by decide,func62.trans (congrArg some ae)⟩,f14:=⟨f95.name,by decide,func95.trans (congrArg some ae)⟩,f15:=func96.trans (congrArg some ae),f20:=⟨f134.name,by decide,func134.trans (congrArg some ae)⟩,f21:=⟨f135.name,by decide,func135.trans (congrArg some ae)⟩,f22:=⟨f136.name,by decide,func136.trans (congrArg some ae)⟩,f23:=⟨f137.name,by decide,func137.trans (congrArg some ae)⟩,f24:=⟨f138.name,by decide,func138.trans (congrArg some ae)⟩,f25:=⟨f139.name,by decide,func139.trans (congrArg some ae)⟩,f26:=⟨f140.name,by decide,func140.trans (congrArg some ae)⟩,f27:=⟨f141.name,by decide,func141.trans (congrArg some ae)⟩,f28:=func142.trans (congrArg some ae),f29:=func143.trans (congrArg some ae),f46:=⟨f168.name,by decide,func168.trans (congrArg some ae)⟩,f47:=func169.trans (congrArg some ae),f48:=func170.trans (congrArg some ae),f49:=⟨f171.name,by decide,func171.trans (congrArg some ae)⟩,f50:=⟨f172.name,by decide,func172.trans (congrArg some ae)⟩,f57:=⟨f185.name,by decide,func185.trans (congrArg some ae)⟩,t0:=underlying0,a0:=isAgg0,z0:=sizeOf0,v0:=zeroValue0,t3:=underlying3,a3:=isAgg3,z3:=sizeOf3,v3:=zeroValue3,t4:=underlying4,a4:=isAgg4,z4:=sizeOf4,v4:=zeroValue4,t5:=underlying5,a5:=isAgg5,z5:=sizeOf5,v5:=zeroValue5,t9:=underlying9,a9:=isAgg9,z9:=sizeOf9,v9:=zeroValue9,t22:=underlying53,a22:=isAgg53,z22:=sizeOf53,v22:=zeroValue53,t25:=underlying91,a25:=isAgg91,z25:=sizeOf91,v25:=zeroValue91,t39:=underlying154,a39:=isAgg154,z39:=sizeOf154,v39:=zeroValue154,t45:=underlying188,a45:=isAgg188,z45:=sizeOf188,v45:=zeroValue188,t46:=underlying189,a46:=isAgg189,z46:=sizeOf189,v46:=zeroValue189,t50:=underlying145,a50:=isAgg145,z50:=sizeOf145,v50:=zeroValue145,t53:=underlying29,a53:=isAgg29,z53:=sizeOf29,v53:=zeroValue29,t55:=underlying22,a55:=isAgg22,z55:=sizeOf22,v55:=zeroValue22,t66:=underlying217,a66:=isAgg217,z66:=sizeOf217,v66:=zeroValue217,t70:=underlying221,a70:=isAgg221,z70:=sizeOf221,v70:=zeroValue221,t76:=underlying232,a76:=isAgg232,z76:=sizeOf232,v76:=zeroValue232,t77:=underlying233,a77:=isAgg233,z77:=sizeOf233,v77:=zeroValue233}
def Tryz.Jn:Go.Shelf.Ren:=⟨fun|125=>96|128=>142|129=>143|n=>n,fun|46=>154|3=>3|51=>29|53=>22|4=>4|5=>5|9=>9|n=>n,fun|n=>n⟩
theorem Tryz.Sw:Go.Proofs.Lays.n125 Tryz.prog Tryz.Jn:=open Go.Proofs.Tryz in{mixed:=by kernel_rfl,f125:=func96.trans (congrArg some ae),f128:=func142.trans (congrArg some ae),f129:=func143.trans (congrArg some ae),t3:=underlying3,a3:=isAgg3,z3:=sizeOf3,v3:=zeroValue3,t4:=underlying4,a4:=isAgg4,z4:=sizeOf4,v4:=zeroValue4,t5:=underlying5,a5:=isAgg5,z5:=sizeOf5,v5:=zeroValue5,t9:=underlying9,a9:=isAgg9,z9:=sizeOf9,v9:=zeroValue9,t46:=underlying154,a46:=isAgg154,z46:=sizeOf154,v46:=zeroValue154,t51:=underlying29,a51:=isAgg29,z51:=sizeOf29,v51:=zeroValue29,t53:=underlying22,a53:=isAgg22,z53:=sizeOf22,v53:=zeroValue22}
set_option maxHeartbeats 2000000 in
theorem si.ins (fv:Value) (w:World):Calls Tryz.prog 134 #[.slice none 0 0, .int .i64 0, .int .i64 0,fv] w fun e w'=>e= .returned (.tuple #[])∧w'=w:=by
 go_enter Tryz.func134,Tryz.ntmps134;go_wp2
 refine wp_loop_rounds 1 ?_;rw[rounds_succ];go_wp2
 go_end0
 exact⟨rfl,rfl⟩
set_option maxHeartbeats 2000000 in
theorem si.pdq (lim:Int) (fv:Value) (w:World):Calls Tryz.prog 95 #[.slice none 0 0, .int .i64 0, .int .i64 0, .int .i64 lim,fv] w fun e w'=>e= .returned (.tuple #[])∧w'=w:=by
 go_enter Tryz.func95,Tryz.ntmps95;go_wp2
 refine wp_loop_rounds 1 ?_;rw[rounds_succ];go_wp2_with (go_at_call 134;refine(si.ins _ _).mono ?_;rintro e w' ⟨rfl,rfl⟩)
 (try simp only[Exit.inBlock,Exit.then]);refine bodyPost_ret (results_none rfl _ _ _) rfl ?_
 exact⟨rfl,rfl⟩
set_option maxHeartbeats 2000000 in
theorem si.none (fv:Value) (w:World):Calls Tryz.prog 62 #[.slice none 0 0,fv] w fun e w'=>e= .returned (.tuple #[])∧w'=w:=by
 have hl:∀W,Calls Tryz.prog 96 #[.int .u64 0] W fun e w'=>e= .returned (.int .i64 (Lib.bitLen 0:Nat))∧w'=W:=fun W=>Any.bits_Len Tryz.Sw 0 W af af;go_enter Tryz.func62,Tryz.ntmps62;go_wp2_with (first|(go_at_call 96;refine(hl _).mono ?_;rintro e w' ⟨rfl,rfl⟩)|(go_at_call 95;refine(si.pdq _ _ _).mono ?_;rintro e w' ⟨rfl,rfl⟩))
 go_end0
 exact⟨rfl,rfl⟩
theorem Rq.zh (x:Rq):x.cells.length=10:=rfl
theorem Rq.cells_one (x:Rq):∀v∈x.cells,v.oneCell'=true:=by simp[Rq.cells,Value.oneCell']
theorem si.perm {d d':Array Rq} (h:PermIn 0 d.size d d'):d'.toList.Perm d.toList:=by
 obtain⟨hs,_,hp⟩:=h;have e1:d'.extract 0 d.size=d':=by rw[←hs];simp
 rwa [e1,Array.extract_size] at hp
theorem si.rising {d':Array Rq} (h:SortedIn (ltOf fun x y:Rq=>Lib.compareInt x.a.i y.a.i) 0 d'.size d'):d'.toList.Pairwise fun x y=>x.a.i≤y.a.i:=by
 rw[List.pairwise_iff_getElem];intro i j hi hj hij;have:=h i j (Nat.zero_le _) hij (by simpa using hj);rw[mY.less,getElem!_pos d' i (by simpa using hi),getElem!_pos d' j (by simpa using hj)] at this;simp at this;simpa using this
set_option maxHeartbeats 2000000 in
theorem si.own (base:Nat) (v:Value) (ss:List Rq) (hsz:ss.length<4611686018427387904) (w:World) (hrow:w.ownsRow base 59 10 v ss.length (ss.flatMap Rq.cells)):
  Calls Tryz.prog 62 #[v, .func (.func 28) #[] #[]] w fun e w'=>e= .returned (.tuple #[])∧
   ∃ts:List Rq,ts.Perm ss∧(ts.Pairwise fun x y=>x.a.i≤y.a.i)∧w'.ownsRow base 59 10 v ts.length (ts.flatMap Rq.cells)∧Below base w w':=by
 rcases hrow.2 with⟨rfl,h0⟩|⟨g,cap,cur,rfl,hbase,hb,h1,h2,h3,h4⟩
 ·refine(si.none _ w).mono ?_;rintro e w' ⟨rfl,rfl⟩;obtain rfl:=List.length_eq_zero_iff.1 h0;exact⟨rfl,[],List.Perm.refl _,List.Pairwise.nil,⟨rfl, .inl ⟨rfl,rfl⟩⟩,Below.refl _ _⟩
 ·have eg:∀args w,(callFunc 28 args).run Tryz.prog w= .ok (.enter 28 args) w:=enters_of Tryz.func28 ae rfl;have hg:g<w.heap.size:=(Array.getElem?_eq_some_iff.1 hb).1
  have hcon:=AnyQ.slices_SortFunc Tryz.VJ 10 (α:=Rq) Tryz.isAgg59 Tryz.sizeOf59 Rq.cells Rq.zh Rq.cells_one (fun x y=>Lib.compareInt x.a.i y.a.i) mY.swo 28 #[] g 0 cap ss.toArray w eg
   (mY.lays g 0 _ w) (Iy Rq.zh hb h4) hg (by simpa using hsz)
  change Calls Tryz.prog 62 _ _ _ at hcon
  refine hcon.mono ?_;rintro e w' ⟨rfl,d',n,os,hp,hs,rfl⟩;have hl:d'.toList.length=ss.length:=by have:=hp.1;simpa using this
  refine⟨rfl,d'.toList,by simpa using si.perm hp,si.rising (by have:=hp.1;rwa [this]),?_,(Below.refl base w).grown (CV d') (Nat.le_of_lt (Nat.lt_of_le_of_lt hbase hg)) (fun j e=>by cases e;exact hbase)⟩;have:=uF (ts:=d'.toList) (os:=os) (n:=n) Rq.zh hl hbase hb h1 h2 h3;rw[hl];simpa using this
#print axioms si.own
end


section
open Go.Shelf Go.RowKit Go.Lib Go.Sort Go.Maps
def rO {H:Type} (R:Value→Option (DataW H×List MemPlace)) (D0:DataW H) (ss:List Rq):Prop:=
 ∃ps:List (Int×Rq),(ps.map (·.1)).Perm (intKeys D0)∧(∀p∈ps,∃y,R p.2.val=some y∧∀zd,D0.atKey (.int .i64 p.1) zd=y.1)∧ss=ps.map (·.2)
theorem U4 {H:Type} (D0:DataW H):(intKeys D0).length≤Maps.size D0:=by
 cases D0<;>simp[intKeys,Maps.size]
theorem rO.le {H:Type} {R:Value→Option (DataW H×List MemPlace)} {D0:DataW H} {ss:List Rq} (h:rO R D0 ss):ss.length≤Maps.size D0:=by
 obtain⟨ps,h1,_,rfl⟩:=h;have:=h1.length_eq;have:=U4 D0;simp at *;omega
theorem Values.gives {H:Type} (F:Fence) (n:Nat) (hF:F.fn 63) (hro:F.round=none) (hn:1≤n) (Bm b nn:Nat) (D0:DataW H) {R:Value→Option (DataW H×List MemPlace)}
  (hR:∀v y,R v=some y→∃c:Rq,v=c.val) (w:World) (hBm:Bm<w.heap.size) (hm:w.cell? Bm=some (.map (some b))) (hown:w.ownsMap Tryz.prog 3 R b nn D0):
  SeqGives F n Tryz.prog 63 #[Bm] Rq.val (rO R D0) (Maps.size D0) w:=fun l J W hW hJ hY h0=>by
 have hown':W.ownsMap Tryz.prog 3 R b nn D0:=by
  have hbl:=hown.lt;obtain⟨es,clock,hb,Ft,hs,hD⟩:=hown;exact⟨es,clock,(hW.block b hbl).trans hb,Ft,hs,hD⟩
 refine(Values.each F n hF hro hn l Bm b nn D0 hR J hY W hJ ((hW.cell (p:=⟨Bm,0,none⟩) hBm).trans hm) hown' h0).mono ?_;rintro e W' ⟨he,ps,h1,h2,h3⟩;exact⟨he,_,⟨ps,h1,h2,rfl⟩,h3⟩
set_option maxHeartbeats 1000000 in
theorem Values.make (v:Option Nat) (w:World):Calls Tryz.prog 27 #[.map v] w fun e w'=>e= .returned (.func (.func 63) #[] #[w])∧w'=w.alloc (.cells #[.map v] 49):=by
 go_enter Tryz.func27,Tryz.ntmps27;go_wp2
 go_ret;exact⟨rfl,rfl⟩
set_option maxHeartbeats 2000000 in
theorem mY.sorted {H:Type} (Bm b nn:Nat) (D0:DataW H) {R:Value→Option (DataW H×List MemPlace)} (hR:∀v y,R v=some y→∃c:Rq,v=c.val) (hsz:Maps.size D0≤1099511627776) (w:World) (hBm:Bm<w.heap.size)
  (hm:w.cell? Bm=some (.map (some b))) (hown:w.ownsMap Tryz.prog 3 R b nn D0):
  Calls Tryz.prog 26 #[.func (.func 63) #[] #[Bm], .func (.func 28) #[] #[]] w fun e w'=>
   ∃(v:Value) (ss ts:List Rq),e= .returned v∧rO R D0 ss∧(v= .slice none 0 0↔ss=[])∧ts.Perm ss∧(ts.Pairwise fun x y=>x.a.i≤y.a.i)∧w'.ownsRow w.heap.size 59 10 v ts.length (ts.flatMap Rq.cells)∧Below w w w':=by
 have eg:∀args w,(callFunc 63 args).run Tryz.prog w= .ok (.enter 63 args) w:=enters_of Tryz.func63 ae rfl;have aar:=callsIn_wide.1 (collect_in Fence.wide 3 trivial trivial rfl ay _ #[Bm] trivial eg (rO R D0) (Maps.size D0) (by have:maxLen=maxLen:=rfl;unfold maxLen;omega) af w (Values.gives Fence.wide 1 trivial rfl ay Bm b nn D0 hR w hBm hm hown));go_enter Tryz.func26,Tryz.ntmps26
 go_wp2_with (first
  |(go_at_call 61;refine aar.mono ?_;rintro e w1 ⟨v,ss,rfl,hS,hrow,hnil,hb⟩;have hsort:=si.own w.heap.size v ss (by have:=hS.le;omega) w1 hrow)
  |(go_at_call 62;refine hsort.mono ?_;rintro e w2 ⟨rfl,ts,hp,hr,hrow2,hb2⟩))
 go_ret;exact⟨v,ss,ts,rfl,hS,hnil,hp,hr,hrow2,hb.trans hb2⟩
set_option maxHeartbeats 2000000 in
theorem mY.all {H:Type} (S b nn:Nat) (D0:DataW H) {R:Value→Option (DataW H×List MemPlace)} (hR:∀v y,R v=some y→∃c:Rq,v=c.val) (hsz:Maps.size D0≤1099511627776) (w:World)
  (hS:w.cell? ⟨S,1,none⟩=some (.map (some b))) (hown:w.ownsMap Tryz.prog 3 R b nn D0):
  Calls Tryz.prog 13 #[S] w fun e w'=>
   ∃(v:Value) (ss ts:List Rq),e= .returned v∧rO R D0 ss∧(v= .slice none 0 0↔ss=[])∧ts.Perm ss∧(ts.Pairwise fun x y=>x.a.i≤y.a.i)∧w'.ownsRow w.heap.size 59 10 v ts.length (ts.flatMap Rq.cells)∧Below w w w':=by
 have hb1:Below w w (w.alloc (.cells #[.map (some b)] 49)):=(Below.refl _ w).alloc ay _
 have hown':(w.alloc (.cells #[.map (some b)] 49)).ownsMap Tryz.prog 3 R b nn D0:=by
  have hbl:=hown.lt;obtain⟨es,clock,hb,Ft,hs,hD⟩:=hown;exact⟨es,clock,(hb1.block b hbl).trans hb,Ft,hs,hD⟩
 have hsort:=mY.sorted w.heap.size b nn D0 hR hsz _ ag (cell_of_box_a (World.alloc_heap_new w _)).1 hown';go_enter Tryz.func13,Tryz.ntmps13
 go_wp2_with (first
  |(go_at_call 27;refine(Values.make _ _).mono ?_;rintro e w1 ⟨rfl,rfl⟩)
  |(go_at_call 26;refine hsort.mono ?_;rintro e w2 ⟨v,ss,ts,rfl,hG,hnil,hp,hr,hrow,hb⟩))
 go_ret;exact⟨v,ss,ts,rfl,hG,hnil,hp,hr,ownsRow_base_a hrow ag,hb1.trans (hb.mono ag)⟩
#print axioms mY.all
end

/- A map's requests, as the checker's memory holds them: by rising IDs. -/
section
open Go.Shelf Go.RowKit Go.Lib Go.Sort Go.Maps
variable {v:Value} {x:MapEntry} {k:TypeId} {P:Program}
def numOf (k:IntKind):Value→Option Int
 | .int q n=>if q=k then some n else none
 |_=>none
theorem bN {k:IntKind} {n:Int} (h:numOf k v=some n):v= .int k n:=by
 cases v<;>simp only[numOf] at h<;>try(cases h;done)
 split at h
 ·rename_i hk;cases h;rw[hk]
 ·cases h
theorem Ox (k:IntKind) (n:Int):numOf k (.int k n)=some n:=by simp[numOf]
def Dl:Value→Option Bool
 | .bool b=>some b
 |_=>none
theorem PK {b:Bool} (h:Dl v=some b):v= .bool b:=by
 cases v<;>simp only[Dl] at h<;>first|(cases h;rfl)|cases h
/-- The request that ten cells are. -/
def Rq.M4:List Value→Option Rq
 |[a,b,c,d,e,f,g,h,i,j]=>
  (numOf .u64 a).bind fun t=>(numOf .u32 b).bind fun r=>(numOf .u32 c).bind fun v=>(numOf .i64 d).bind fun k=>(numOf .u64 e).bind fun u=>(numOf .u32 f).bind fun s=>(numOf .u32 g).bind fun y=>
   (numOf .u64 h).bind fun l=>(numOf .u64 i).bind fun n=>(Dl j).bind fun z=>some ⟨⟨t,r,v,k,u,s,y⟩,l,n,z⟩
 |_=>none
def Rq.dec:Value→Option Rq
 | .agg cs=>Rq.M4 cs.toList
 |_=>none
theorem Rq.Vh {l:List Value} {c:Rq} (h:Rq.M4 l=some c):l=c.cells:=by
 unfold Rq.M4 at h;split at h
 ·simp only[Option.bind_eq_some_iff] at h;obtain⟨t,h1,r,h2,v,h3,k,h4,u,h5,s,h6,y,h7,l',h8,n,h9,z,h10,h11⟩:=h;cases h11;rw[bN h1,bN h2,bN h3,bN h4,bN h5,bN h6,bN h7,bN h8,bN h9,PK h10];rfl
 ·cases h
theorem Rq.Dg {c:Rq} (h:Rq.dec v=some c):v=c.val:=by
 cases v<;>first|(cases h;done)|skip
 rename_i cs;have:=Rq.Vh (l:=cs.toList) h;obtain⟨cs⟩:=cs;simp only at this;subst this;rfl
theorem Rq.Vg (c:Rq):Rq.dec c.val=some c:=by
 simp[Rq.dec,Rq.M4,Ox,Dl]
/-- How a request's value reads: as itself. -/
def qa (v:Value):Option (DataW Rq×List MemPlace):=(Rq.dec v).map fun c=>(.held c,[])
theorem Jv {y:DataW Rq×List MemPlace} (h:qa v=some y):∃c:Rq,v=c.val∧y=(.held c,[]):=by
 simp only[qa,Option.map_eq_some_iff] at h;obtain⟨c,hc,rfl⟩:=h;exact⟨c,Rq.Dg hc,rfl⟩
theorem tu (c:Rq):qa c.val=some (.held c,[]):=by simp[qa,Rq.Vg]
def Db (x:MapEntry):Option (Int×Rq):=(numOf .i64 x.key).bind fun a=>if (Lit.int .i64 a).wf=true then(Rq.dec x.val).map fun c=>(a,c) else none
def pW:List MapEntry→Option (List (Int×Rq))
 |[]=>some []
 |x::l=>match Db x,pW l with
  |some p,some r=>some (p::r)
  |_,_=>none
def En (c:Rq):List Rq→List Rq
 |[]=>[c]
 |d::l=>if c.a.i<d.a.i then c::d::l else d::En c l
theorem Fh (c:Rq):∀l,(En c l).Perm (c::l)
 |[]=> .refl _
 |d::l=>by
  unfold En;split
  ·exact .refl _
  ·exact((Fh c l).cons d).trans (List.Perm.swap c d l)
theorem Ip:∀l:List Rq,(l.foldr En []).Perm l
 |[]=> .refl _
 |c::l=>(Fh c _).trans ((Ip l).cons c)
def Gh:List Rq→Bool
 |a::b::l=>decide (a.a.i<b.a.i)&&Gh (b::l)
 |_=>true
theorem Cb:∀l:List Rq,Gh l=true→l.Pairwise fun x y=>x.a.i<y.a.i
 |[],_=> .nil
 |[_],_=>by simp
 |a::b::l,h=>by
  simp only[Gh,Bool.and_eq_true,decide_eq_true_eq] at h;have ih:=Cb (b::l) h.2;refine List.pairwise_cons.2 ⟨fun x hx=> ?_,ih⟩;rcases List.mem_cons.1 hx with rfl|hx
  ·exact h.1
  ·have:=(List.pairwise_cons.1 ih).1 x hx;omega
/-- The requests of a map's entries, by rising IDs. -/
def sZ (es:Array MapEntry) (ck:Nat):Option (List Rq):=
 match pW es.toList with
 |some ps=>if es.toList.length≤1000∧(∀x∈es.toList,x.born<ck)∧(es.toList.map (·.born)).Nodup∧(ps.map (·.1)).Nodup∧Gh ((ps.map (·.2)).foldr En [])=true then some ((ps.map (·.2)).foldr En []) else none
 |none=>none
theorem Bo {p:Int×Rq} (h:Db x=some p):x.key= .int .i64 p.1∧(Lit.int .i64 p.1).wf=true∧Rq.dec x.val=some p.2:=by
 simp only[Db,Option.bind_eq_some_iff] at h;obtain⟨a,h1,h2⟩:=h;split at h2
 ·rename_i hw;simp only[Option.map_eq_some_iff] at h2;obtain⟨c,h3,rfl⟩:=h2;exact⟨bN h1,hw,h3⟩
 ·cases h2
theorem Da:∀{l:List MapEntry} {ps:List (Int×Rq)},pW l=some ps→(∀x∈l,∃p,Db x=some p)∧ps.map (fun p=>Value.int .i64 p.1)=l.map (·.key)
 |[],ps,h=>by cases h;simp
 |x::l,ps,h=>by
  unfold pW at h;split at h
  ·rename_i p r h1 h2;cases h;obtain⟨i1,i2⟩:=Da h2;refine⟨fun y hy=> ?_,by simp[i2,(Bo h1).1]⟩;rcases List.mem_cons.1 hy with rfl|hy
   ·exact⟨p,h1⟩
   ·exact i1 y hy
  ·cases h
theorem Oh (hk:P.underlying k=some (.int .i64)) {p:Int×Rq} (h:Db x=some p):WideElems.rd P k qa x=some (.int .i64 p.1, .held p.2):=by
 obtain⟨h1,h2,h3⟩:=Bo h;have hkey:keyOf P k x.key=some (.int .i64 p.1):=by rw[h1];simp[keyOf,hk,mapKey,h2]
 have hv:qa x.val=some (.held p.2,[]):=by simp[qa,h3]
 simp[WideElems.rd,hkey,hv]
theorem KL {P:Program} {k:TypeId} (hk:P.underlying k=some (.int .i64)):∀{l:List MapEntry} {ps:List (Int×Rq)},pW l=some ps→l.map (WideElems.rg P k qa)=ps.map fun p=>((.int .i64 p.1:Lit),DataW.held p.2)
 |[],ps,h=>by cases h;rfl
 |x::l,ps,h=>by
  unfold pW at h;split at h
  ·rename_i p r h1 h2;cases h;simp[KL hk h2,WideElems.rg_of (Oh hk h1)]
  ·cases h
def II:DataW Rq→Rq
 | .held c=>c
 |_=>Rq.no
/-- The map in a world, and what its requests are. -/
theorem Rm (hk:P.underlying k=some (.int .i64)) {w:World} {b ck:Nat} {es:Array MapEntry} {rs:List Rq} (hb:w.heap[b]?=some (.map es ck)) (h:sZ es ck=some rs):
  ∃D0:DataW Rq,w.ownsMap P k qa b es.size D0∧es.size≤1000∧(rs.Pairwise fun x y=>x.a.i<y.a.i)∧∀ss,rO qa D0 ss→ss.Perm rs:=by
 unfold sZ at h;split at h
 ·rename_i ps hps;split at h
  ·rename_i hc;obtain⟨c1,c2,c3,c4,c5⟩:=hc;cases h;obtain⟨hall,hkeys⟩:=Da hps;have hsz:es.size≤1000:=by simpa using c1
   have hrg:=KL (P:=P) (k:=k) hk hps;have hml:(maxLen:Nat)=maxLen:=rfl
   have hfit:WideElems.Fit P k qa es ck:=by
    refine⟨?_,⟨c2,c3,?_⟩,fun x hx=> ?_⟩
    ·unfold maxLen;omega
    ·rw[←hkeys];have:ps.map (fun p=>Value.int .i64 p.1)=(ps.map (·.1)).map (Value.int .i64):=by simp
     rw[this];exact c4.map _ (fun a b hab e=>hab (by cases e;rfl))
    ·obtain⟨p,hp⟩:=hall x hx;exact⟨_,Oh hk hp⟩
   refine⟨.map ((es.toList.map (WideElems.rg P k qa)).foldr DataW.insert []),⟨es,ck,hb,hfit,Nat.le_refl _,rfl⟩,hsz,Cb _ c5,?_⟩;rw[hrg];rintro ss ⟨qs,hq1,hq2,rfl⟩;have RN:=WideShapes.sorted_perm (ps.map fun p=>((.int .i64 p.1:Lit),DataW.held p.2))
   have hap:((ps.map fun p=>((.int .i64 p.1:Lit),DataW.held p.2)).foldr DataW.insert []).Pairwise fun p q=>p.1≠q.1:=by
    refine(RN.pairwise_iff (fun{_ _} hne=>Ne.symm hne)).2 ?_;rw[List.pairwise_map];have:(ps.map (·.1)).Pairwise (·≠·):=c4;rw[List.pairwise_map] at this;exact this.imp fun{a b} hab e=>hab (by injection e)
   have hat:∀p∈ps,II ((DataW.map ((ps.map fun p=>((.int .i64 p.1:Lit),DataW.held p.2)).foldr DataW.insert [])).atKey (.int .i64 p.1) .nil)=p.2:=fun p hp=>by
    rw[WideAt.atKey_mem (.nil) (by trivial) hap (RN.mem_iff.2 (List.mem_map.2 ⟨p,hp,rfl⟩))];rfl
   have hk1:(qs.map (·.1)).Perm (ps.map (·.1)):=by
    refine hq1.trans ?_;have:=RN.map (fun p:Lit×DataW Rq=>Go.intOf p.1);simpa[intKeys,Go.intOf,Function.comp_def] using this
   have e1:qs.map (·.2)=(qs.map (·.1)).map fun a=>II ((DataW.map ((ps.map fun p=>((.int .i64 p.1:Lit),DataW.held p.2)).foldr DataW.insert [])).atKey (.int .i64 a) .nil):=by
    rw[List.map_map];refine List.map_congr_left fun q hq=> ?_;obtain⟨y,hy,hz⟩:=hq2 q hq;rw[tu] at hy;cases hy;simp only[Function.comp,hz];rfl
   have e2:ps.map (·.2)=(ps.map (·.1)).map fun a=>II ((DataW.map ((ps.map fun p=>((.int .i64 p.1:Lit),DataW.held p.2)).foldr DataW.insert [])).atKey (.int .i64 a) .nil):=by
    rw[List.map_map];exact List.map_congr_left fun p hp=>(hat p hp).symm
   rw[e1];refine(hk1.map _).trans ?_;rw[←e2];exact(Ip _).symm
  ·cases h
 ·cases h
/-- Two rows of the same requests, each by rising IDs, are one. -/
theorem Q7 {ts rs:List Rq} (hp:ts.Perm rs) (ht:ts.Pairwise fun x y=>x.a.i≤y.a.i) (hr:rs.Pairwise fun x y=>x.a.i<y.a.i):ts=rs:=by
 have hne:rs.Pairwise fun x y=>x.a.i≠y.a.i:=hr.imp fun h e=>by omega
 have hne':ts.Pairwise fun x y=>x.a.i≠y.a.i:=(hp.pairwise_iff (fun{_ _} h=>Ne.symm h)).2 hne;have ht':ts.Pairwise fun x y=>x.a.i<y.a.i:=List.Pairwise.imp₂ (fun _ _ h1 h2=>by omega) ht hne';exact List.Perm.eq_of_pairwise (le:=fun x y:Rq=>x.a.i<y.a.i) (fun a b _ _ h1 h2=>by omega) ht' hr hp
end

/- The checker's hook for a set's requests: a call of Reqs is answered by its contract. -/
namespace Ck
open Go Go.RowKit
variable {rs:List Rq} {σ:St}
/-- What the checker sees of a call of Reqs: the set's block, the map's, the requests. -/
def Ce (args:List Value) (σ:St):Option (Nat×Nat×List Rq):=
 match args with
 |[.pointer (some ⟨S,0,none⟩)]=>if S<σ.next then match σ.m S with
  |some (.cells c _ _)=>match (c[1]?:Option Value) with
   |some (.map (some b))=>if b<σ.next then match σ.m b with
    |some (.other (.map es ck))=>(sZ es ck).map fun rs=>(S,b,rs)
    |_=>none
    else none
   |_=>none
  |_=>none
  else none
 |_=>none
theorem Kh {args:List Value} {S b:Nat} (h:Ce args σ=some (S,b,rs)):
  args=[.pointer (some ⟨S,0,none⟩)]∧S<σ.next∧(∃c T k,σ.m S=some (.cells c T k)∧c[1]?=some (.map (some b)))∧b<σ.next∧∃es ck,σ.m b=some (.other (.map es ck))∧sZ es ck=some rs:=by
 unfold Ce at h;split at h
 ·rename_i S';split at h
  ·rename_i hS;split at h
   ·rename_i c T k hm;split at h
    ·rename_i b' hc;split at h
     ·rename_i hb;split at h
      ·rename_i es ck hmb;simp only[Option.map_eq_some_iff,Prod.mk.injEq] at h;obtain⟨rs',hr,rfl,rfl,rfl⟩:=h;exact⟨rfl,hS,⟨c,T,k,hm,hc⟩,hb,es,ck,hmb,hr⟩
      ·cases h
     ·cases h
    ·cases h
   ·cases h
  ·cases h
 ·cases h
def qI (σ:St) (S b:Nat):List Rq→Value×St
 |[]=>(.slice none 0 0,(σ.read S).read b)
 |rs=>(.slice (some ⟨σ.next,0,none⟩) rs.length rs.length,((σ.read S).read b).grow (.cells (rs.flatMap Rq.cells).toArray 59 10))
def xm:fu:=fun f args σ=>
 if f=13 then match Ce args.toList σ with
  |some (S,b,rs)=>some [qI σ S b rs]
  |none=>none
 else none
/-- A block that a call has made where it liked. -/
theorem QV {φ:bq} {L:Nat→Option cz} {w w':World} {o:cz} {ob:Obj} {r e:Nat} (hg:Good φ L w) (hw:WF σ) (ha:Agree L σ (σ.grow o)) (hc:Clear φ L σ (σ.grow o))
  (hr:w.heap.size≤r) (hh:w'.heap[r]?=some ob) (ho:∀ψ,vJ ψ e o ob) (hb:Below w.heap.size w w'):
  Step σ (σ.grow o) φ (fun c=>if σ.next=c then some (r,e) else φ c) L (fun c=>if σ.next=c then some o else L c) w w':=by
 have hcl:=hc σ.next (Nat.le_refl _) (by simp[St.grow])
 have hle:Le φ (fun c=>if σ.next=c then some (r,e) else φ c):=fun b x hx=>by
  have:σ.next≠b:=fun h=>by rw[←h,hcl.1] at hx;cases hx
  simp[this,hx]
 have hN:∀c,St.N σ (σ.grow o) c↔σ.next=c:=fun c=>by simp[St.N,St.grow];omega
 have key:∀x,L x≠none→∀r e,φ x=some (r,e)→r<w.heap.size:=fun x hx r e hp=>by
  obtain⟨o',ho'⟩:=Option.ne_none_iff_exists'.1 hx;obtain⟨r',e',ob',h1,h2,_⟩:=hg.obj x o' ho';rw[hp] at h1;cases h1;exact(Array.getElem?_eq_some_iff.1 h2).1
 refine⟨⟨hle,fun b h1 h2=> ?_,?_,fun c h1 h2=> ?_,fun c h1 h2=> ?_,hb.size,fun r hr _=>hb.block r hr,fun b h1 _ r' e' hp=> ?_,⟨hb.os,hb.tape,hb.output⟩,fun b c hb=> ?_⟩,fun c hc'=> ?_⟩
 ·rw[hN];by_cases hb:σ.next=b
  ·exact hb
  ·simp[hb] at h2;exact absurd h1 h2
 ·refine⟨fun c x hx=> ?_,fun c d h1 h2 r e1 e2 h3 h4=> ?_⟩
  ·split at hx
   ·rename_i h;subst h;cases hx;exact⟨r,e,ob,by simp,hh,ho _⟩
   ·rename_i h;obtain⟨r',e',ob',h1,h2,h3⟩:=hg.obj c x hx;have hlt:r'<w.heap.size:=(Array.getElem?_eq_some_iff.1 h2).1;exact⟨r',e',ob',hle _ _ h1,(hb.block r' hlt).trans h2,h3.mono hle⟩
  ·by_cases hc1:σ.next=c
   ·by_cases hd1:σ.next=d
    ·omega
    ·rw[if_pos hc1] at h3;rw[if_neg hd1] at h2 h4;cases h3;have:=key d h2 _ _ h4;omega
   ·by_cases hd1:σ.next=d
    ·rw[if_neg hc1] at h1 h3;rw[if_pos hd1] at h4;cases h4;have:=key c h1 _ _ h3;omega
    ·rw[if_neg hc1] at h1 h3;rw[if_neg hd1] at h2 h4;exact hg.inj c d h1 h2 _ _ _ h3 h4
 ·rw[hN] at h2;simp[h2]
 ·rw[hN] at h1;simp[h1,h2]
 ·rw[hN] at h1;simp[h1] at hp;exact .inl (by omega)
 ·have:σ.next≠b:=fun h=>by rw[←h,hcl.2] at hb;cases hb
  simp[this,hb]
 ·simp only[St.m,St.grow,Tree.jG];split
  ·rfl
  ·rename_i h;rcases hc' with hc'|hc'
   ·exact ha c (.inr hc') (hw.wr c hc')
   ·rw[hN] at hc';exact absurd hc' h
theorem Ld {φ:bq}:∀{l m:List MapEntry} {ps:List (Int×Rq)},pW l=some ps→EL φ l m→m=l
 |[],[],_,_,_=>rfl
 |x::l,y::m,ps,h,hr=>by
  unfold pW at h;split at h
  ·rename_i p r h1 h2;obtain⟨e1,_,e3⟩:=Bo h1;obtain⟨⟨hk,hv,hb⟩,hrest⟩:=hr;rw[Ld h2 hrest];obtain⟨xk,xv,xb⟩:=x;obtain⟨yk,yv,yb⟩:=y;simp only at e1 e3 hk hv hb;subst e1;rw[Rq.Dg e3] at hv;rw[Rq.Dg e3];have hsc:fF p.2.val=true:=by simp[fF,dH]
   rw[aC.yn rfl hk,aC.yn hsc hv,hb]
  ·cases h
 |[],_::_,_,_,h=>h.elim
 |_::_,[],_,_,h=>h.elim
theorem Ia {es:Array MapEntry} {ck:Nat} (h:sZ es ck=some rs):∃ps,pW es.toList=some ps:=by
 unfold sZ at h;split at h
 ·exact⟨_,by assumption⟩
 ·cases h
theorem Kv {c:Rq} {v:Value} (h:v∈c.cells):dH v=true:=by
 simp only[Rq.cells,List.mem_cons,List.not_mem_nil,or_false] at h;rcases h with rfl|rfl|rfl|rfl|rfl|rfl|rfl|rfl|rfl|rfl<;>rfl
/-- The row that Reqs answers, as a block of the checker's. -/
theorem UM {T:TypeId} {cur:Array Value} {d:Nat} (hsz:cur.size=(rs.length+d)*10) (ht:cur.toList.take (rs.length*10)=rs.flatMap Rq.cells) (ψ:bq):vJ ψ d (.cells (rs.flatMap Rq.cells).toArray T 10) (.cells cur T (0,0)):=by
 have hl:(rs.flatMap Rq.cells).length=rs.length*10:=by
  rw[←ht,List.length_take];have:cur.toList.length=cur.size:=by simp
  omega
 refine⟨rfl,rfl,by simp only[List.size_toArray];omega,by omega,fun i v v' hv hv'=> ?_⟩;have hv1:(rs.flatMap Rq.cells)[i]?=some v:=by simpa using hv
 have hi:i<rs.length*10:=by
  have:=(List.getElem?_eq_some_iff.1 hv1).1;omega
 have hv2:cur.toList[i]?=some v:=by
  rw[←ht,List.getElem?_take_of_lt hi] at hv1;exact hv1
 have hv3:cur.toList[i]?=some v':=by simpa using hv'
 rw[hv2] at hv3;cases hv3;obtain⟨c,_,hc⟩:=List.mem_flatMap.1 (List.mem_of_getElem? hv1);exact .sc (Kv hc)
theorem F7 {f:FuncId} {args:Array Value} {outs:List (Value×St)} (h:xm f args σ=some outs):∃S b rs,f=13∧Ce args.toList σ=some (S,b,rs)∧outs=[qI σ S b rs]:=by
 unfold xm at h;split at h
 ·rename_i hf;split at h
  ·rename_i S b rs hat;cases h;exact⟨S,b,rs,hf,hat,rfl⟩
  ·cases h
 ·cases h
theorem Ah {ks:List Nat} {hk:fu}:ib ⟨Tryz.prog,[],ks,hk⟩ xm:=by
 intro f args σ outs h;obtain⟨S,b,rs,rfl,hat,rfl⟩:=F7 h;obtain⟨hargs,hS,⟨c,T,k,hmS,hc1⟩,hb,es,ck,hmb,hmr⟩:=Kh hat;have p1:bn σ ((σ.read S).read b):=(bn.rf σ S).trans (bn.rf _ b)
 have hend:bn σ (qI σ S b rs).2:=by
  cases rs
  ·exact p1
  ·exact p1.trans (bn.fA _ _)
 have hrd:(qI σ S b rs).2.rd.testBit S=true∧(qI σ S b rs).2.rd.testBit b=true:=by
  cases rs<;>exact⟨eX.2 (.inl (eX.2 (.inr rfl))),eX.2 (.inr rfl)⟩
 refine⟨⟨by simp,fun x hx=>by simp at hx;subst hx;exact hend⟩,fun φ args' L w hg hrel hw hp hgood=> ?_⟩;have hpre:=hp _ (List.mem_singleton.2 rfl);have CQ:=hrel.toList;rw[hargs] at CQ;obtain⟨v',m',he',hv,hm'⟩:=CQ.cons_inv;rw[hm'.oU] at he';cases hv with
 |sc h=>simp[dH] at h
 |ptr aak=>
 rename_i S' eS
 have hargs':args'= #[.pointer (some ⟨S',0,none⟩)]:=by
  rw[←Array.toList_inj];exact he'
 subst hargs';have hLS:L S=some (.cells c T k):=(hpre.2 S (.inl hrd.1) hS).trans hmS;have IZ:L b=some (.other (.map es ck)):=(hpre.2 b (.inl hrd.2) hb).trans hmb;obtain⟨c',hh,hsz,_,hcr⟩:=hgood.cells hLS aak;have h1:1<c.size:=(Array.getElem?_eq_some_iff.1 hc1).1;have h1':1<c'.size:=by omega
 have hv1:=hcr 1 _ c'[1] hc1 (Array.getElem?_eq_getElem h1');have hc1':c'[1]?=some c'[1]:=Array.getElem?_eq_getElem h1';generalize c'[1]=u at hv1 hc1';cases hv1 with
 |sc h=>simp[dH] at h
 |map RH=>
 rename_i b' eb;obtain⟨r,e2,ob,CO,TC,WK⟩:=hgood.obj b _ IZ;rw[RH] at CO;cases CO;obtain⟨rfl,hx⟩:=WK;cases ob<;>first|exact hx.elim|skip
 rename_i es' FI;obtain⟨rfl,hes⟩:=hx;obtain⟨ps,hps⟩:=Ia hmr
 have hes':es'=es:=by
  rw[←Array.toList_inj];exact Ld hps hes
 subst hes';obtain⟨D0,hown,hle,hrise,hperm⟩:=Rm (P:=Tryz.prog) (k:=3) Tryz.underlying3 TC hmr
 have hcell:w.cell? ⟨S',1,none⟩=some (.map (some b')):=by
  unfold World.cell?;rw[hh];simp[hc1']
 refine(mY.all S' b' es'.size D0 (R:=qa) (fun v y h=>let ⟨c,h1,_⟩:=Jv h;⟨c,h1⟩) (by have:=hown.size_le;omega) w hcell hown).mono ?_;rintro e w' ⟨v,ss,ts,rfl,hG,hnil,hpm,hts,hrow,hbel⟩;obtain rfl:ts=rs:=Q7 (hpm.trans (hperm ss hG)) hts hrise;have h0:(qI σ S b ts).2.next=(qI σ S b ts).2.next:=rfl;rcases hrow with⟨hlen,⟨rfl,hn0⟩|⟨g,cap,cur,rfl,hbg,hgc,hle2,hcap,hsz2,htake⟩⟩
 ·obtain rfl:ts=[]:=List.length_eq_zero_iff.1 hn0;exact⟨_,List.mem_singleton.2 rfl,_,φ,L,rfl, .sc rfl,AQ hgood hw hpre.2 rfl rfl rfl hbel⟩
 ·obtain⟨d,rfl⟩:∃d,cap=ts.length+d:=⟨cap-ts.length,by omega⟩;cases ts with
  |nil=>
   have:ss=[]:=List.Perm.nil_eq hpm |>.symm
   have:=hnil.2 this;cases this
  |cons t0 ts=>
   refine⟨_,List.mem_singleton.2 rfl,_,_,_,rfl,?_,Step.trans p1 (bn.fA _ _) hpre.1 (Step.same hgood hw (hpre.2.first (bn.fA _ _)) rfl rfl rfl rfl ⟨rfl,rfl,rfl⟩)
    (QV hgood (p1.wf hw) hpre.2 hpre.1 hbg hgc (UM hsz2 htake) hbel)⟩
   exact .slice (if_pos rfl)
#print axioms Ah
end Ck

end Go.Proofs.YtnmbfjgcmfjdcaaGreatDoor

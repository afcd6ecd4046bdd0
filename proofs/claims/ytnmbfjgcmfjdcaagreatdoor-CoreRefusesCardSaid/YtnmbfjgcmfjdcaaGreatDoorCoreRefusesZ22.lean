/- Texts of CoreRefuses's proof, together. -/
import Derived.Test.YtnmbfjgcmfjdcaaGreatDoorCoreRefusesZ21
import Derived.Lib.SlKeysI
import Derived.Shelf.SlIter.Collect
import Derived.Deep.WholeRow
namespace Go.Proofs.YtnmbfjgcmfjdcaaGreatDoor

section
open Go.RowKit Go.Maps Go.Sort Go.Shelf
set_option maxRecDepth 100000 in
set_option maxHeartbeats 4000000 in
theorem Values.each {H:Type} (F:Fence) (n:Nat) (hF:F.fn 63) (hro:F.round=none) (hn:1≤n) (l Bm b nn:Nat) (D0:DataW H) {R:Value→Option (DataW H×List MemPlace)}
  (hR:∀v y,R v=some y→∃c:Rq,v=c.val) (J:List Rq→World→Prop)
  (hY:∀pre (x:Rq) W,J pre W→pre.length<Maps.size D0→YieldAt F (n-1) Tryz.prog l #[x.val] W fun e W'=>e= .returned (.bool true)∧J (pre++[x]) W'∧KeepsWalks W W')
  (W:World) (hJ:AbidesFrom W.heap.size J) (hm:W.cell? Bm=some (.map (some b))) (hown:W.ownsMap Tryz.prog 3 R b nn D0) (h0:J [] W):
  CallsIn F n Tryz.prog 63 #[.func (.yield l) #[] #[], .pointer (some ⟨Bm,0,none⟩)] W fun e W'=>(∃v,e= .returned v)∧
   ∃ps:List (Int×Rq),(ps.map (·.1)).Perm (intKeys D0)∧(∀p∈ps,∃y,R p.2.val=some y∧∀zd,D0.atKey (.int .i64 p.1) zd=y.1)∧J (ps.map (·.2)) W':=by
 refine callsIn_of_wp Tryz.func63 rfl hF ?_ hro;simp only[Tryz.ntmps63,List.size_toArray,List.length_cons,List.length_nil,Nat.reduceAdd,Nat.reduceSub,Array.replicate_succ,Array.replicate_zero,List.push_toArray,List.append_toArray,List.nil_append,List.cons_append]
 gi_wp2_with (first
  |(gi_at_range;refine wpListIn_range_own _ rfl _ 49 rfl 3 59 (int_keyed Tryz.underlying3) Tryz.underlying49 _ b nn _ rfl hown ?_;intro w0 hrg0 hg0 hs0)
  |gi_in)
 go_frame
 gi_loopw [4] (fun _ wr=>∃(left:Lit→Bool) (cnt:Nat) (ps:List (Int×Rq)),wr.ranges Tryz.prog 3 R b W.heap.size nn D0 left cnt∧ps.length+cnt≤Maps.size D0∧CollectedI D0 left (ps.map (·.1))∧
   (∀p∈ps,∃y,R p.2.val=some y∧∀zd,D0.atKey (.int .i64 p.1) zd=y.1)∧J (ps.map (·.2)) wr)
  (fun _ wr=>wr.rangeLeft b W.heap.size)
 case atStart=>
  exact⟨_,_,[],hrg0,by simp,CollectedI.start D0,(fun p hp=>by cases hp),hJ [] W w0 none h0 hg0 (fun r e=>by cases e)⟩
 case round=>
  obtain⟨left,cnt,ps,hrg,hcs,hC,hP,hJs⟩:=hrel
  gi_wp2_with (first
   |(gi_at_next;refine wpListIn_next_ranges _ rfl _ rfl 3 (int_keyed Tryz.underlying3) R encZ Rq.val (fun key kl hk=>by obtain⟨x,hx,_⟩:=Maps.keyOf_i64 Tryz.underlying3 hk;exact⟨x,hx⟩) hR b W.heap.size nn _ _ _ rfl hrg ?_ ?_)
   |gi_in)
  ·intro hc0 hl0;gi_wp2
   go_end0
   exact⟨⟨_,rfl⟩,ps,hC.perm hown (int_keyed Tryz.underlying3) Tryz.underlying3 hl0,hP,hJs⟩
  ·intro x c kl yd yp w2 cnt2 hkey hlk hv hat hrg2 hlt hg2 hs2 hen;obtain⟨x',ex,rfl,_⟩:=Maps.keyOf_i64 Tryz.underlying3 hkey;obtain rfl:x=x':=encZ_inj ex;have hJ2:J (ps.map (·.2)) w2:=hJ _ wr w2 (some W.heap.size) hJs hg2 (fun r e=>by cases e;exact⟨Nat.le_refl _,hrg.iter_walk⟩);clear hs2;have hst:=run_storeCells_new (P:=Tryz.prog) w2 59 dw c jr rfl (by simp[Value.oneCell']);have hld:=run_loadCellsFrom_new (P:=Tryz.prog) w2 59 c 10 rfl;have hJ3:J (ps.map (·.2)) (w2.alloc (.cells c 59)):=hJ _ w2 _ none hJ2 (World.grownBy_alloc w2 _ none) (fun r e=>by cases e);obtain⟨fn,tmps,assign,body,hy,hR⟩:=hY (ps.map (·.2)) c _ hJ3 (by simp;omega);gi_wp2
   refine hR.mono ?_;rintro e W3 ⟨rfl,hJ4,hk3⟩;gi_wp2
   have hrg3:=(hrg2.of_walks (KeepsWalks.alloc w2 (.cells c 59))).of_walks hk3;go_roundw
   case rel=>
    refine⟨_,cnt2,ps++[(x,c)],hrg3,by simp;omega,by simpa using hC.step hlk hat,fun p hp=> ?_,by simpa using hJ4⟩;rcases List.mem_append.1 hp with hp|hp
    ·exact hP p hp
    ·obtain rfl:=List.mem_singleton.1 hp;exact⟨_,hv,hat⟩
   case measure=>rw[hrg3.left_eq,hrg.left_eq];exact hlt
#print axioms Values.each
end


section
open Go.RowKit Go.Maps Go.Sort Go.Shelf
def apAssign:Code:=(Code.region 2 #[{dst:=some 5,op:=Op.alloc 59,type:=0,pos:= "iter.go:51",after:= #[],guard:=none},{dst:=none,op:=Op.store 59 (Operand.tmp 5) (Operand.tmp 7),type:=0,pos:= "iter.go:51",after:= #[{on:=0,ground:=Ground.data},{on:=0,ground:=Ground.phase}],guard:=none}] false)
def apBody:Code:=(Code.block 1 (Code.region 3 #[{dst:=some 8,op:=Op.load 53 (Operand.tmp 2),type:=53,pos:= "iter.go:52",after:= #[],guard:=none},{dst:=some 9,op:=Op.load 59 (Operand.tmp 5),type:=59,pos:= "iter.go:52",after:= #[],guard:=none},{dst:=some 10,op:=Op.buildSlice 53 1 #[(0,Operand.tmp 9)],type:=53,pos:= "iter.go:52",after:= #[{on:=1,ground:=Ground.data}],guard:=none},{dst:=some 11,op:=Op.call {callee:=Callee.builtin Builtin.append,args:= #[Operand.tmp 8,Operand.tmp 10],argTypes:= #[53,53]},type:=53,pos:= "iter.go:52",after:= #[{on:=0,ground:=Ground.data},{on:=2,ground:=Ground.data}],guard:=none},{dst:=none,op:=Op.store 53 (Operand.tmp 2) (Operand.tmp 11),type:=0,pos:= "iter.go:52",after:= #[{on:=3,ground:=Ground.data},{on:=3,ground:=Ground.chain},{on:=0,ground:=Ground.phase},{on:=1,ground:=Ground.phase},{on:=2,ground:=Ground.phase},{on:=3,ground:=Ground.phase}],guard:=none}] false))
def apRec (fn:FuncId) (sv:Value) (Bs D:Nat) (st:LoopState) (pend:Option Code):Loop:=
 {state:=st,pending:=pend,fn,tmps:= #[.slice none 0 0,sv, .pointer (some ⟨Bs,0,none⟩),undef, .slice none 0 0,undef,sv,undef,undef,undef,undef,undef,undef],params:= #[7],assign:=apAssign,body:=apBody,defers:=D}
structure ApAt (w0:World) (fn:FuncId) (sv:Value) (Bs l D:Nat) (ss:List Rq) (W:World):Prop where
 box:∃v,W.heap[Bs]?=some (.cells #[v] 53 (0,0))∧W.ownsRow w0.heap.size 59 10 v ss.length (ss.flatMap Rq.cells)∧(v= .slice none 0 0↔ss=[])
 L:W.heap[l]?=some (.loop (apRec fn sv Bs D .ready none))
 K:W.heap[D]?=some (.deferred (some []))
 below:Below w0 w0 W
theorem ap_abides (w0:World) (fn:FuncId) (sv:Value) (Bs l D B:Nat) (hB:w0.heap.size≤B):AbidesFrom B (ApAt w0 fn sv Bs l D):=fun s W W' row h hg hrow=>by
 have hrow':∀r,row=some r→∃o:Obj,W.heap[r]?=some o∧o.isWalk=true:=fun r e=>(hrow r e).2;obtain⟨v,hv,hr,hn⟩:=h.box
 exact⟨⟨v,(grownBy_keeps hg hrow' hv rfl).trans hv,ownsRow_abides_a hr hg hrow',hn⟩,(grownBy_keeps hg hrow' h.L rfl).trans h.L,(grownBy_keeps hg hrow' h.K rfl).trans h.K,
  h.below.grown hg h.below.size (fun k e=>Nat.le_trans hB (hrow k e).1)⟩
theorem RF:(Tryz.prog.info? 59).map (fun i=>(i.zero,i.size,i.bytes))=some (some (.agg dw),10,64):=by kernel_rfl
set_option maxRecDepth 100000 in
set_option maxHeartbeats 4000000 in
theorem apYield (F:Fence) (m:Nat) (w0:World) (fn:FuncId) (hfn:F.fn fn) (sv:Value) (Bs l D:Nat) (hBl:Bs≠l) (hDl:D≠l) (hDB:D≠Bs) (h0B:w0.heap.size≤Bs) (h0l:w0.heap.size≤l)
  (N:Nat) (hN:N≤maxLen) (hNb:N*64≤140737488355328) (ss:List Rq) (c:Rq) (W:World) (h:ApAt w0 fn sv Bs l D ss W) (hlen:ss.length<N):
  YieldAt F m Tryz.prog l #[c.val] W fun e W'=>e= .returned (.bool true)∧ApAt w0 fn sv Bs l D (ss++[c]) W'∧KeepsWalks W W':=by
 obtain⟨i0,hi,hz0,hz1,hz2⟩:=info_parts RF;have hne:(53:Nat)≠59:=by decide
 refine⟨fn,#[.slice none 0 0,sv, .pointer (some ⟨Bs,0,none⟩),undef, .slice none 0 0,undef,sv,c.val,undef,undef,undef,undef,undef],apAssign,apBody,by simpa[apRec] using run_yield (P:=Tryz.prog) (args:= #[c.val]) h.L rfl,roundIn_of_wpIn hfn ?_⟩;have hst:=run_storeCells_new (P:=Tryz.prog) W 59 dw c jr rfl (by simp[Value.oneCell']);obtain⟨W1,hW1⟩:∃W1,W.alloc (.cells c 59)=W1:=⟨_,rfl⟩;have hV1:W1.heap[W.heap.size]?=some (.cells c 59 (0,0)):=by rw[←hW1];exact World.alloc_heap_new W _
 have h1:ApAt w0 fn sv Bs l D ss W1:=by
  rw[←hW1];exact ap_abides w0 fn sv Bs l D w0.heap.size ay ss W _ none h (World.grownBy_alloc W _ none) (fun r e=>by cases e)
 have hk1:KeepsWalks W W1:=by rw[←hW1];exact KeepsWalks.alloc _ _
 have hs1:W.heap.size<W1.heap.size:=by rw[←hW1];simp
 have HW1:Hid (_=W1):=hW1;clear hW1;obtain⟨v,hv,hrow,_⟩:=h1.box;have hl:l<W1.heap.size:=(Array.getElem?_eq_some_iff.1 h1.L).1;have hbr:=run_beginRound (P:=Tryz.prog) h1.L rfl;have hXl:W.heap.size≠l:=fun e=>by have:=h1.L;rw[←e,hV1] at this;cases this
 have hXB:W.heap.size≠Bs:=fun e=>by
  obtain⟨v',hv',_⟩:=h.box;have:=(Array.getElem?_eq_some_iff.1 hv').1;omega
 obtain⟨W2,hW2⟩:∃W2,W1.putObj l (.loop {apRec fn sv Bs D .ready none with state:= .busy})=W2:=⟨_,rfl⟩;rw[hW2] at hbr;have hg2:W1.grownBy W2 (some l):=by rw[←hW2];exact grownBy_putObj_a _ _ _
 have hk2:KeepsWalks W W2:=hk1.trans (by rw[←hW2];exact KeepsWalks.putObj _ h1.L rfl);have hv2:W2.heap[Bs]?=some (.cells #[v] 53 (0,0)):=by rw[←hW2];exact(World.putObj_heap_other hBl).trans hv
 have hV2:W2.heap[W.heap.size]?=some (.cells c 59 (0,0)):=by rw[←hW2];exact(World.putObj_heap_other hXl).trans hV1
 have hK2:W2.heap[D]?=some (.deferred (some [])):=by rw[←hW2];exact(World.putObj_heap_other hDl).trans h1.K
 have hL2:W2.heap[l]?=some (.loop {apRec fn sv Bs D .ready none with state:= .busy}):=by rw[←hW2];exact World.putObj_heap_same hl
 have hrow2:W2.ownsRow w0.heap.size 59 10 v ss.length (ss.flatMap Rq.cells):=hrow.kept hg2 (ownsRow_ne_a hrow h1.L (fun cur e=>by first|cases e|exact hne (Obj.cells.inj e).2.1));have hb2:Below w0 w0 W2:=h1.below.grown hg2 h1.below.size (fun k e=>by cases e;exact h0l);obtain⟨hc2,hf2⟩:=cell_of_box_a hv2;have hBlt:Bs<W2.heap.size:=(Array.getElem?_eq_some_iff.1 hv2).1;have hl2:l<W2.heap.size:=(Array.getElem?_eq_some_iff.1 hL2).1;have hDlt:D<W2.heap.size:=(Array.getElem?_eq_some_iff.1 hK2).1
 have ne_of:∀{j:Nat} {o:Obj},W2.heap[j]?=some o→(∀cur,o≠ .cells cur 59 (0,0))→some j≠v.ownBlock:=fun hj hno=>by
  rcases ownsRow_ne_a hrow2 hj hno with e|e
  ·rw[e];simp
  ·exact fun e'=>e e'.symm
 clear hW2;have c0:W2.cell? W=some (.int .u64 c.a.t):=by simp[World.cell?,hV2]
 have c1:W2.cell? ⟨W,1,none⟩=some (.int .u32 c.a.r):=by simp[World.cell?,hV2]
 have c2:W2.cell? ⟨W,2,none⟩=some (.int .u32 c.a.v):=by simp[World.cell?,hV2]
 have c3:W2.cell? ⟨W,3,none⟩=some (.int .i64 c.a.i):=by simp[World.cell?,hV2]
 have c4:W2.cell? ⟨W,4,none⟩=some (.int .u64 c.a.u):=by simp[World.cell?,hV2]
 have c5:W2.cell? ⟨W,5,none⟩=some (.int .u32 c.a.s):=by simp[World.cell?,hV2]
 have c6:W2.cell? ⟨W,6,none⟩=some (.int .u32 c.a.y):=by simp[World.cell?,hV2]
 have c7:W2.cell? ⟨W,7,none⟩=some (.int .u64 c.l):=by simp[World.cell?,hV2]
 have c8:W2.cell? ⟨W,8,none⟩=some (.int .u64 c.s):=by simp[World.cell?,hV2]
 have c9:W2.cell? ⟨W,9,none⟩=some (.bool c.z):=by simp[World.cell?,hV2]
 unfold apAssign;gi_wp2_with gi_round_op_a
 rw[HW1.out];refine⟨W2,hbr,?_⟩;unfold apBody
 have hnew:∀j u,c.cells[j]?=some u→(W2.alloc (.cells c 59)).cell? ((⟨W2,0,none⟩:Addr).add j)=some u:=fun j u hj=>by
  have hadd:(⟨W2,0,none⟩:Addr).add j=⟨W2.heap.size,j,none⟩:=by unfold Addr.add;split<;>simp_all
  rw[hadd,cell_of_row _ _ j _ _ (0,0) (heap_alloc_last W2 _)];simpa[Rq.cells] using hj
 have hone:∀u∈c.cells,u.oneCell'=true:=by simp[Rq.cells,Value.oneCell']
 have abk:=hb2.size
 gi_wp2_with (first
  |(gi_at_builtin;refine wpListIn_append_own _ rfl _ _ 53 rfl w0.heap.size 59 i0 (.agg dw) 10 64 Tryz.underlying53 hi hz0 hz1 hz2 rfl ak _ _ _ rfl (hrow2.alloc _) ⟨W2,0,none⟩ 1 1 c.cells rfl rfl hnew hone af af (by simp;omega) ?_;intro v' w3 hown' hg3 hnil3
    have hv3:w3.heap[Bs]?=some (.cells #[v] 53 (0,0)):=(hg3.block Bs (by simp;omega) (ne_of hv2 (fun cur e=>by first|cases e|exact hne (Obj.cells.inj e).2.1))).trans ((Below.heap_alloc _ _ Bs hBlt).trans hv2);obtain⟨hc3,hf3⟩:=cell_of_box_a hv3
    obtain⟨g',cap',cur',rfl,hbase',hgb',hr1,hr2,hr3,hr4⟩:∃g' cap' cur',v'= .slice (some ⟨g',0,none⟩) (ss.length+1) cap'∧w0.heap.size≤g'∧w3.heap[g']?=some (.cells cur' 59 (0,0))∧ss.length+1≤cap'∧cap'≤maxLen∧cur'.size=cap'*10∧cur'.toList.take ((ss.length+1)*10)=ss.flatMap Rq.cells++c.cells:=by
     rcases hown'.2 with⟨_,h0⟩|h'
     ·exact absurd h0 af
     ·exact h'
    go_frame)
  |gi_round_op_a)
 have hg3':(W2.alloc (.cells c 59)).grownBy w3 v.ownBlock:=hg3;have hL3:w3.heap[l]?=some (.loop {apRec fn sv Bs D .ready none with state:= .busy}):=(hg3'.block l (by simp;omega) (ne_of hL2 (fun cur e=>by first|cases e|exact hne (Obj.cells.inj e).2.1))).trans ((Below.heap_alloc _ _ l hl2).trans hL2);have hK3:w3.heap[D]?=some (.deferred (some [])):=(hg3'.block D (by simp;omega) (ne_of hK2 (fun cur e=>by first|cases e|exact hne (Obj.cells.inj e).2.1))).trans ((Below.heap_alloc _ _ D hDlt).trans hK2);obtain⟨w4,hw4⟩:∃w4,w3.setCell ⟨Bs,0,none⟩ (.slice (some ⟨g',0,none⟩) (ss.length+1) cap')=w4:=⟨_,rfl⟩;rw[hw4];have hg4:w3.grownBy w4 (some Bs):=by rw[←hw4];exact grownBy_setCell0_a _ _ _
 have hv4:w4.heap[Bs]?=some (.cells #[.slice (some ⟨g',0,none⟩) (ss.length+1) cap'] 53 (0,0)):=by rw[←hw4];exact heap_setCell_box_a _ hv3
 have hL4:w4.heap[l]?=some (.loop {apRec fn sv Bs D .ready none with state:= .busy}):=(hg4.block l (Array.getElem?_eq_some_iff.1 hL3).1 (fun e=>hBl (by cases e;rfl))).trans hL3;have hK4:w4.heap[D]?=some (.deferred (some [])):=(hg4.block D (Array.getElem?_eq_some_iff.1 hK3).1 (fun e=>hDB (by cases e;rfl))).trans hK3;have hrow4:=hown'.kept hg4 (ownsRow_ne_a hown' hv3 (fun cur e=>by first|cases e|exact hne (Obj.cells.inj e).2.1));have hl4:l<w4.heap.size:=(Array.getElem?_eq_some_iff.1 hL4).1;have hb3:Below w0 w0 w3:=(hb2.alloc hb2.size _).grown hg3' (by simp;omega) (fun k e=>(hrow2.lt k e).1);have hb4:Below w0 w0 w4:=hb3.grown hg4 hb3.size (fun k e=>by cases e;exact h0B);have hk4:KeepsWalks W w4:=((hk2.trans (KeepsWalks.alloc _ _)).trans (KeepsWalks.of_grownBy hg3' (ownsRow_not_walk_a (hrow2.alloc _)))).trans (by rw[←hw4];exact KeepsWalks.setCell _ _ _);clear hw4;refine⟨_,_,run_endRound none hL4,rfl,⟨⟨_,(World.putObj_heap_other hBl).trans hv4,?_,by simp⟩,World.putObj_heap_same hl4,(World.putObj_heap_other hDl).trans hK4,hb4.grown (grownBy_putObj_a _ _ _) hb4.size (fun k e=>by cases e;exact h0l)⟩,hk4.trans (KeepsWalks.putObj _ hL4 rfl)⟩;have:=hrow4.kept (grownBy_putObj_a w4 l (.loop {{apRec fn sv Bs D .ready none with state:= .busy} with state:=if (none:Option Code).isNone then .ready else .done,pending:=none})) (ownsRow_ne_a hrow4 hL4 (fun cur e=>by first|cases e|exact hne (Obj.cells.inj e).2.1));simpa using this
#print axioms apYield
end


section
open Go.RowKit Go.Maps Go.Sort Go.Shelf
set_option maxRecDepth 100000 in
set_option maxHeartbeats 4000000 in
theorem appendSeq_in (F:Fence) (n:Nat) (hF:F.fn 94) (hro:F.round=none) (hn:2≤n) (g:Nat) (lb:Array Value) (hFg:F.fn g) (eg:∀args w,(callFunc g args).run Tryz.prog w= .ok (.enter g args) w)
  (S:List Rq→Prop) (N:Nat) (hN:N≤maxLen) (hNb:N*64≤140737488355328) (w:World) (hseq:SeqGives F (n-1) Tryz.prog g lb Rq.val S N w):
  CallsIn F n Tryz.prog 94 #[.slice none 0 0, .func (.func g) #[] lb] w fun e w'=>∃(v:Value) (ss:List Rq),e= .returned v∧S ss∧w'.ownsRow w.heap.size 59 10 v ss.length (ss.flatMap Rq.cells)∧(v= .slice none 0 0↔ss=[])∧Below w w w':=by
 have h1:1≤n:=af;have hne:(53:Nat)≠59:=by decide
 refine callsIn_of_wp_marks Tryz.func94 rfl hF ?_ hro;simp only[Tryz.ntmps94,List.size_toArray,List.length_cons,List.length_nil,Nat.reduceAdd,Nat.reduceSub,Array.replicate_succ,Array.replicate_zero,List.push_toArray,List.append_toArray,List.nil_append,List.cons_append];gi_wp2
 refine wpIn_rangeFunc ?_;intro fn hfn;rw[hro];obtain⟨W0,hW0⟩:∃W0,w.alloc (.cells #[.slice none 0 0] 53)=W0:=⟨_,rfl⟩;have hs0:W0.heap.size=w.heap.size+1:=by rw[←hW0];simp
 have hv0:W0.heap[w.heap.size]?=some (.cells #[.slice none 0 0] 53 (0,0)):=by rw[←hW0];exact World.alloc_heap_new w _
 have hb0:Below w w W0:=by rw[←hW0];exact(Below.refl _ w).alloc ay _
 rw[hW0];obtain⟨W1,hW1⟩:∃W1,(W0.alloc (.deferred (some []))).alloc (.loop (apRec fn (.func (.func g) #[] lb) w.heap.size W0.heap.size .ready none))=W1:=⟨_,rfl⟩
 have hold:∀k,k<W0.heap.size→W1.heap[k]?=W0.heap[k]?:=fun k hk=>by
  rw[←hW1];exact(Below.heap_alloc _ _ k (by simp;omega)).trans (Below.heap_alloc _ _ k hk)
 have hb1:Below w w W1:=by rw[←hW1];exact(hb0.alloc hb0.size _).alloc (by have:=hb0.size;simp;omega) _
 have hs1:W1.heap.size=W0.heap.size+2:=by rw[←hW1];simp
 have hM:ApAt w fn (.func (.func g) #[] lb) w.heap.size (W0.heap.size+1) W0.heap.size [] W1:=
  ⟨⟨_,(hold w.heap.size af).trans hv0,⟨rfl, .inl ⟨rfl,rfl⟩⟩,by simp⟩,
   by rw[←hW1];have:=World.alloc_heap_new (W0.alloc (.deferred (some []))) (.loop (apRec fn (.func (.func g) #[] lb) w.heap.size W0.heap.size .ready none));rwa [World.size_alloc] at this,
   by rw[←hW1];exact(Below.heap_alloc _ _ _ ag).trans (World.alloc_heap_new W0 _),hb1⟩
 refine⟨W0.heap.size+1,[{target:= .collected W0.heap.size,args:= #[]}],W1,{target:= .fn (.func g) lb,args:= #[.func (.yield (W0.heap.size+1)) #[] #[]]},W1,g,
  #[.func (.yield (W0.heap.size+1)) #[] #[]]++lb,W1,?_,?_,?_,?_,fun _=>h1,?_⟩
 ·rw[←hW1];exact run_enterLoop_outer _ _ _ _ _
 ·simp[resolve,go_sem]
 ·intro f' hf';simp[Target.leads] at hf';subst hf';exact hFg
 ·simp[invoke,go_sem,eg]
 ·refine(hseq (W0.heap.size+1) (ApAt w fn (.func (.func g) #[] lb) w.heap.size (W0.heap.size+1) W0.heap.size) W1 hb1 (ap_abides _ _ _ _ _ _ _ hb1.size)
   (fun pre x W hJ hl=>apYield F (n-1-1) w fn hfn _ w.heap.size (W0.heap.size+1) W0.heap.size af af af ay af N hN hNb pre x W hJ hl) hM).mono ?_
  rintro e W2 ⟨⟨v0,rfl⟩,ss,hS,h2⟩;obtain⟨v,hv,hrow,hnil⟩:=h2.box;have hend:=run_endLoop (P:=Tryz.prog) h2.L (by simp[apRec]);obtain⟨W3,hW3⟩:∃W3,W2.putObj (W0.heap.size+1) (.loop {apRec fn (.func (.func g) #[] lb) w.heap.size W0.heap.size .ready none with state:= .exhausted})=W3:=⟨_,rfl⟩;rw[hW3] at hend;have hg3:W2.grownBy W3 (some (W0.heap.size+1)):=by rw[←hW3];exact grownBy_putObj_a _ _ _
  have hv3:W3.heap[w.heap.size]?=some (.cells #[v] 53 (0,0)):=by rw[←hW3];exact(World.putObj_heap_other af).trans hv
  have hK3:W3.heap[W0.heap.size]?=some (.deferred (some [])):=by rw[←hW3];exact(World.putObj_heap_other af).trans h2.K
  have hrow3:=hrow.kept hg3 (ownsRow_ne_a hrow h2.L (fun cur e=>by first|cases e|exact hne (Obj.cells.inj e).2.1));have hb3:Below w w W3:=h2.below.grown hg3 h2.below.size (fun k e=>by cases e;omega);obtain⟨hc3,hf3⟩:=cell_of_box_a hv3;clear hW3;refine⟨none,W3,hend,?_⟩;gi_wp2
  rw[←hs0];refine⟨by simp, .inl ⟨_,_,rfl,run_takeDeferred hK3,?_⟩⟩;exact⟨_,results_tmp rfl _ _ _,v,ss,rfl,hS,hrow3.kept (grownBy_putObj_a _ _ _) (ownsRow_ne_a hrow3 hK3 (fun cur e=>by first|cases e|exact hne (Obj.cells.inj e).2.1)),hnil,hb3.grown (grownBy_putObj_a _ _ _) hb3.size (fun k e=>by cases e;omega)⟩
#print axioms appendSeq_in
set_option maxHeartbeats 1000000 in
theorem collect_in (F:Fence) (n:Nat) (h8:F.fn 61) (h11:F.fn 94) (hro:F.round=none) (hn:3≤n) (g:Nat) (lb:Array Value) (hFg:F.fn g) (eg:∀args w,(callFunc g args).run Tryz.prog w= .ok (.enter g args) w)
  (S:List Rq→Prop) (N:Nat) (hN:N≤maxLen) (hNb:N*64≤140737488355328) (w:World) (hseq:SeqGives F (n-1-1) Tryz.prog g lb Rq.val S N w):
  CallsIn F n Tryz.prog 61 #[.func (.func g) #[] lb] w fun e w'=>∃(v:Value) (ss:List Rq),e= .returned v∧S ss∧w'.ownsRow w.heap.size 59 10 v ss.length (ss.flatMap Rq.cells)∧(v= .slice none 0 0↔ss=[])∧Below w w w':=by
 have h1:1≤n:=af;have e11:∀args w,(callFunc 94 args).run Tryz.prog w= .ok (.enter 94 args) w:=enters_of Tryz.func94 ae rfl;refine callsIn_of_wp Tryz.func61 rfl h8 ?_ hro;simp only[Tryz.ntmps61,List.size_toArray,List.length_cons,List.length_nil,Nat.reduceAdd,Nat.reduceSub,Array.replicate_succ,Array.replicate_zero,List.push_toArray,List.append_toArray,List.nil_append,List.cons_append];gi_wp2_with (gi_at_fn 94;refine(appendSeq_in F (n-1) h11 hro af g lb hFg eg S N hN hNb _ hseq).mono ?_;rintro e w' ⟨v,ss,rfl,hS,hrow,hnil,hb⟩)
 go_ret;exact⟨v,ss,rfl,hS,hrow,hnil,hb⟩
#print axioms collect_in
end

end Go.Proofs.YtnmbfjgcmfjdcaaGreatDoor

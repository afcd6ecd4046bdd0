import Derived.Test.YtnmbfjgcmfjdcaaGreatDoorCoreRefusesZ0
import Derived.Sort.OwnSorted
import Derived.Shelf.GgSortFunc.RowK
import Derived.Shelf.GgSortFunc.InsertionK
namespace Go.Proofs.YtnmbfjgcmfjdcaaGreatDoor
open Go.Sort Go.Proofs
variable {α:Type} [Inhabited α] {enc:α→List Value} {k:Nat}
theorem flat_get (hk:∀x,(enc x).length=k):∀(d:List α) (t:Nat),t<d.length*k→(d.flatMap enc)[t]?=some ((enc d[t/k]!)[t%k]!)
 |[],t,h=>by simp at h
 |x::r,t,h=>by
  rw[List.flatMap_cons];by_cases ht:t<k
  ·rw[List.getElem?_append_left (by rw[hk];exact ht),Nat.div_eq_of_lt ht,Nat.mod_eq_of_lt ht];have hx:t<(enc x).length:=by rw[hk];exact ht
   simp[hx]
  ·obtain⟨u,rfl⟩:∃u,t=u+k:=⟨t-k,by omega⟩
   have h0:0<k:=by
    rcases Nat.eq_zero_or_pos k with h'|h'
    ·subst h';simp at h
    ·exact h'
   rw[List.getElem?_append_right (by rw[hk];omega),hk,Nat.add_sub_cancel,Nat.add_div_right u h0,Nat.add_mod_right,flat_get hk r u (by
    have:=h;simp only[List.length_cons,Nat.add_mul,Nat.one_mul] at this;omega)]
   simp
theorem xK (hk:∀x,(enc x).length=k) (d:List α):(flatK enc k d.toArray).toList=d.flatMap enc:=by
 have hl:(d.flatMap enc).length=d.length*k:=by
  induction d with
  |nil=>simp
  |cons x r ih=>rw[List.flatMap_cons,List.length_append,hk,ih,List.length_cons,Nat.add_mul,Nat.one_mul,Nat.add_comm]
 apply List.ext_getElem?
 intro t;by_cases ht:t<d.length*k
 ·rw[flat_get hk d t ht];have:=get_flatK enc k d.toArray t (by simpa using ht);rw[getElem!_pos _ t (by simpa using ht)] at this;rw[Array.getElem?_toList,Array.getElem?_eq_getElem (by simpa using ht),this];simp
 ·rw[List.getElem?_eq_none (by simp;omega),List.getElem?_eq_none af]
theorem Iy (hk:∀x,(enc x).length=k) {w:World} {g:Nat} {cur:Array Value} {e:TypeId} {ss:List α} (hb:w.heap[g]?=some (.cells cur e (0,0))) (ht:cur.toList.take (ss.length*k)=ss.flatMap enc):HoldsK enc k w g 0 ss.toArray:=by
 intro j hj;have hj':j<ss.length*k:=by simpa using hj
 refine⟨?_,by simp[World.frozen?,hb]⟩;have h1:(cur.toList.take (ss.length*k))[j]?=(ss.flatMap enc)[j]?:=by rw[ht]
 rw[List.getElem?_take_of_lt hj',←xK hk,Array.getElem?_toList,Array.getElem?_toList,Array.getElem?_eq_getElem (xs:=flatK enc k ss.toArray) hj] at h1;simp only[World.cell?,hb,Nat.zero_add];simp only[Option.isSome_none,Bool.false_eq_true,if_false];rw[h1,getElem!_pos _ j hj];rfl
theorem IJ {w:World} {g n:Nat} {os:Array Obj} {cur:Array Value} {e:TypeId} {fr:Nat×Nat} (d:Array α) (hb:w.heap[g]?=some (.cells cur e fr)):
  (sortWorldK enc k w g 0 n d os).heap[g]?=some (.cells (putCells id 0 (flatK enc k d) cur) e fr):=by
 have hg:g<w.heap.size:=(Array.getElem?_eq_some_iff.1 hb).1;unfold sortWorldK putRowK;rw[heap_grow_old _ _ (by simpa using hg)];simp[putRow,mapBlock,Sort.ahead,Array.getElem?_modify,hb,onCells]
theorem CV {w:World} {g n:Nat} {os:Array Obj} (d:Array α):w.grownBy (sortWorldK enc k w g 0 n d os) (some g):=by
 unfold sortWorldK putRowK;refine⟨rfl,rfl,rfl,by simp,fun j hj hne=> ?_⟩;rw[heap_grow_old _ _ (by simpa using hj)];have:g≠j:=fun e=>hne (by rw[e]);simp[putRow,mapBlock,Sort.ahead,Array.getElem?_modify,this]
theorem D6 (hk:∀x,(enc x).length=k) (cur:Array Value) (ts:List α) (h:ts.length*k≤cur.size):(putCells id 0 (flatK enc k ts.toArray) cur).toList.take (ts.length*k)=ts.flatMap enc:=by
 rw[←xK hk];apply List.ext_getElem?
 intro j;by_cases hj:j<ts.length*k
 ·rw[List.getElem?_take_of_lt hj,Array.getElem?_toList,Array.getElem?_toList,Array.getElem?_eq_getElem (xs:=flatK enc k ts.toArray) (by simpa using hj)];have hz:(flatK enc k ts.toArray)[j]! =(flatK enc k ts.toArray)[j]'(by simpa using hj):=getElem!_pos _ j (by simpa using hj);simp[putCells,hj,show j<cur.size by omega,hz]
 ·rw[List.getElem?_take_eq_none af,List.getElem?_eq_none (by simp;omega)]
theorem uF (hk:∀x,(enc x).length=k) {w:World} {base g cap n:Nat} {e:TypeId} {os:Array Obj} {cur:Array Value} {ss ts:List α} (hl:ts.length=ss.length) (hbase:base≤g) (hb:w.heap[g]?=some (.cells cur e (0,0)))
  (h1:ss.length≤cap) (h2:cap≤maxLen) (h3:cur.size=cap*k):
  (sortWorldK enc k w g 0 n ts.toArray os).ownsRow base e k (.slice (some ⟨g,0,none⟩) ss.length cap) ss.length (ts.flatMap enc):=by
 have hc:ss.length*k≤cap*k:=Nat.mul_le_mul_right _ h1;refine⟨?_, .inr ⟨g,cap,_,rfl,hbase,IJ _ hb,h1,h2,by simp[putCells,h3],by rw[←hl];exact D6 hk cur ts (by rw[hl,h3];exact hc)⟩⟩;rw[←xK hk];simp[hl]
#print axioms uF
end Go.Proofs.YtnmbfjgcmfjdcaaGreatDoor

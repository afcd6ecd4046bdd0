/- Texts of SettleShifts's proof, together. -/
import Derived.Test.YtjchnkmolhgpmaaGreatDoorVlE
import Derived.Shelf.SlSortCmp.WholeK
import Derived.Shelf.Small.Bits
namespace Go.Proofs.YtjchnkmolhgpmaaGreatDoor

section
open Go.Shelf Go.RowKit Go.Lib Go.Sort Go.Maps
def Tryz.sortRq_ren : Go.Shelf.Ren := ⟨fun | 6 => 84 | 15 => 123 | 14 => 122 | 28 => 178 | 29 => 179 | 20 => 170 | 21 => 171 | 22 => 172 | 23 => 173 | 24 => 174 | 25 => 175 | 26 => 176 | 27 => 177 | 46 => 210 | 47 => 211 | 48 => 212 | 49 => 213 | 50 => 214 | 57 => 230 | n => n, fun | 22 => 64 | 24 => 59 | 25 => 124 | 3 => 3 | 39 => 200 | 0 => 0 | 53 => 53 | 55 => 22 | 4 => 4 | 46 => 248 | 45 => 247 | 50 => 98 | 5 => 5 | 9 => 9 | 66 => 277 | 70 => 281 | 76 => 296 | 77 => 297 | n => n, fun | n => n⟩
theorem Tryz.sortRq : Go.Proofs.SlLaysF0.n6 Tryz.prog Tryz.sortRq_ren := open Go.Proofs.Tryz in { mixed := by kernel_rfl, f6 := ⟨f84.name, by decide, func84.trans (congrArg some (by kernel_rfl))⟩, f14 := ⟨f122.name, by decide, func122.trans (congrArg some (by kernel_rfl))⟩, f15 := func123.trans (congrArg some (by kernel_rfl)), f20 := ⟨f170.name, by decide, func170.trans (congrArg some (by kernel_rfl))⟩, f21 := ⟨f171.name, by decide, func171.trans (congrArg some (by kernel_rfl))⟩, f22 := ⟨f172.name, by decide, func172.trans (congrArg some (by kernel_rfl))⟩, f23 := ⟨f173.name, by decide, func173.trans (congrArg some (by kernel_rfl))⟩, f24 := ⟨f174.name, by decide, func174.trans (congrArg some (by kernel_rfl))⟩, f25 := ⟨f175.name, by decide, func175.trans (congrArg some (by kernel_rfl))⟩, f26 := ⟨f176.name, by decide, func176.trans (congrArg some (by kernel_rfl))⟩, f27 := ⟨f177.name, by decide, func177.trans (congrArg some (by kernel_rfl))⟩, f28 := func178.trans (congrArg some (by kernel_rfl)), f29 := func179.trans (congrArg some (by kernel_rfl)), f46 := ⟨f210.name, by decide, func210.trans (congrArg some (by kernel_rfl))⟩, f47 := func211.trans (congrArg some (by kernel_rfl)), f48 := func212.trans (congrArg some (by kernel_rfl)), f49 := ⟨f213.name, by decide, func213.trans (congrArg some (by kernel_rfl))⟩, f50 := ⟨f214.name, by decide, func214.trans (congrArg some (by kernel_rfl))⟩, f57 := ⟨f230.name, by decide, func230.trans (congrArg some (by kernel_rfl))⟩, t0 := underlying0, a0 := isAgg0, z0 := sizeOf0, v0 := zeroValue0, t3 := underlying3, a3 := isAgg3, z3 := sizeOf3, v3 := zeroValue3, t4 := underlying4, a4 := isAgg4, z4 := sizeOf4, v4 := zeroValue4, t5 := underlying5, a5 := isAgg5, z5 := sizeOf5, v5 := zeroValue5, t9 := underlying9, a9 := isAgg9, z9 := sizeOf9, v9 := zeroValue9, t22 := underlying64, a22 := isAgg64, z22 := sizeOf64, v22 := zeroValue64, t25 := underlying124, a25 := isAgg124, z25 := sizeOf124, v25 := zeroValue124, t39 := underlying200, a39 := isAgg200, z39 := sizeOf200, v39 := zeroValue200, t45 := underlying247, a45 := isAgg247, z45 := sizeOf247, v45 := zeroValue247, t46 := underlying248, a46 := isAgg248, z46 := sizeOf248, v46 := zeroValue248, t50 := underlying98, a50 := isAgg98, z50 := sizeOf98, v50 := zeroValue98, t53 := underlying53, a53 := isAgg53, z53 := sizeOf53, v53 := zeroValue53, t55 := underlying22, a55 := isAgg22, z55 := sizeOf22, v55 := zeroValue22, t66 := underlying277, a66 := isAgg277, z66 := sizeOf277, v66 := zeroValue277, t70 := underlying281, a70 := isAgg281, z70 := sizeOf281, v70 := zeroValue281, t76 := underlying296, a76 := isAgg296, z76 := sizeOf296, v76 := zeroValue296, t77 := underlying297, a77 := isAgg297, z77 := sizeOf297, v77 := zeroValue297 }
def Tryz.bitsLen9_ren : Go.Shelf.Ren := ⟨fun | 125 => 123 | 128 => 178 | 129 => 179 | n => n, fun | 46 => 200 | 3 => 3 | 51 => 53 | 53 => 22 | 4 => 4 | 5 => 5 | 9 => 9 | n => n, fun | n => n⟩
theorem Tryz.bitsLen9 : Go.Proofs.Lays.n125 Tryz.prog Tryz.bitsLen9_ren := open Go.Proofs.Tryz in { mixed := by kernel_rfl, f125 := func123.trans (congrArg some (by kernel_rfl)), f128 := func178.trans (congrArg some (by kernel_rfl)), f129 := func179.trans (congrArg some (by kernel_rfl)), t3 := underlying3, a3 := isAgg3, z3 := sizeOf3, v3 := zeroValue3, t4 := underlying4, a4 := isAgg4, z4 := sizeOf4, v4 := zeroValue4, t5 := underlying5, a5 := isAgg5, z5 := sizeOf5, v5 := zeroValue5, t9 := underlying9, a9 := isAgg9, z9 := sizeOf9, v9 := zeroValue9, t46 := underlying200, a46 := isAgg200, z46 := sizeOf200, v46 := zeroValue200, t51 := underlying53, a51 := isAgg53, z51 := sizeOf53, v51 := zeroValue53, t53 := underlying22, a53 := isAgg22, z53 := sizeOf22, v53 := zeroValue22 }
set_option maxHeartbeats 2000000 in
theorem SrtQ.ins (fv : Value) (w : World) : Calls Tryz.prog 170 #[.slice none 0 0, .int .i64 0, .int .i64 0, fv] w fun e w' => e = .returned (.tuple #[]) ∧ w' = w := by
 go_enter Tryz.func170, Tryz.ntmps170
 go_wp2
 refine wp_loop_rounds 1 ?_;rw [rounds_succ]
 go_wp2
 go_end0
 exact ⟨rfl, rfl⟩
set_option maxHeartbeats 2000000 in
theorem SrtQ.pdq (lim : Int) (fv : Value) (w : World) : Calls Tryz.prog 122 #[.slice none 0 0, .int .i64 0, .int .i64 0, .int .i64 lim, fv] w fun e w' => e = .returned (.tuple #[]) ∧ w' = w := by
 go_enter Tryz.func122, Tryz.ntmps122
 go_wp2
 refine wp_loop_rounds 1 ?_;rw [rounds_succ];go_wp2_with (go_at_call 170; refine (SrtQ.ins _ _).mono ?_; rintro e w' ⟨rfl, rfl⟩)
 (try simp only [Exit.inBlock, Exit.then]); refine bodyPost_ret (results_none rfl _ _ _) rfl ?_
 exact ⟨rfl, rfl⟩
set_option maxHeartbeats 2000000 in
theorem SrtQ.none (fv : Value) (w : World) : Calls Tryz.prog 84 #[.slice none 0 0, fv] w fun e w' => e = .returned (.tuple #[]) ∧ w' = w := by
 have hl : ∀ W, Calls Tryz.prog 123 #[.int .u64 0] W fun e w' => e = .returned (.int .i64 (Lib.bitLen 0 : Nat)) ∧ w' = W := fun W => Any.bits_Len Tryz.bitsLen9 0 W (by omega) (by omega)
 go_enter Tryz.func84, Tryz.ntmps84;go_wp2_with (first | (go_at_call 123; refine (hl _).mono ?_; rintro e w' ⟨rfl, rfl⟩) | (go_at_call 122; refine (SrtQ.pdq _ _ _).mono ?_; rintro e w' ⟨rfl, rfl⟩))
 go_end0
 exact ⟨rfl, rfl⟩
theorem Rq.cells_len (x : Rq) : x.cells.length = 10 := rfl
theorem Rq.cells_one (x : Rq) : ∀ v ∈ x.cells, v.oneCell' = true := by simp [Rq.cells, Value.oneCell']
theorem SrtQ.perm {d d' : Array Rq} (h : PermIn 0 d.size d d') : d'.toList.Perm d.toList := by
 obtain ⟨hs, _, hp⟩ := h;have e1 : d'.extract 0 d.size = d' := by rw [← hs]; simp
 rwa [e1, Array.extract_size] at hp
theorem SrtQ.rising {d' : Array Rq} (h : SortedIn (ltOf fun x y : Rq => Lib.compareInt x.a.i y.a.i) 0 d'.size d') : d'.toList.Pairwise fun x y => x.a.i ≤ y.a.i := by
 rw [List.pairwise_iff_getElem];intro i j hi hj hij;have := h i j (Nat.zero_le _) hij (by simpa using hj);rw [Reqs.less, getElem!_pos d' i (by simpa using hi), getElem!_pos d' j (by simpa using hj)] at this;simp at this;simpa using this
set_option maxHeartbeats 2000000 in
theorem SrtQ.own (base : Nat) (v : Value) (ss : List Rq) (hsz : ss.length < 4611686018427387904) (w : World) (hrow : w.ownsRow base 59 10 v ss.length (ss.flatMap Rq.cells)) :
  Calls Tryz.prog 84 #[v, .func (.func 46) #[] #[]] w fun e w' => e = .returned (.tuple #[]) ∧
   ∃ ts : List Rq, ts.Perm ss ∧ (ts.Pairwise fun x y => x.a.i ≤ y.a.i) ∧ w'.ownsRow base 59 10 v ts.length (ts.flatMap Rq.cells) ∧ Below base w w' := by
 rcases hrow.2 with ⟨rfl, h0⟩ | ⟨g, cap, cur, rfl, hbase, hb, h1, h2, h3, h4⟩
 ·refine (SrtQ.none _ w).mono ?_;rintro e w' ⟨rfl, rfl⟩;obtain rfl := List.length_eq_zero_iff.1 h0;exact ⟨rfl, [], List.Perm.refl _, List.Pairwise.nil, ⟨rfl, .inl ⟨rfl, rfl⟩⟩, Below.refl _ _⟩
 ·have eg : ∀ args w, (callFunc 46 args).run Tryz.prog w = .ok (.enter 46 args) w := enters_of Tryz.func46 (by kernel_rfl) rfl;have hg : g < w.heap.size := (Array.getElem?_eq_some_iff.1 hb).1;have hcon := AnyQ.slices_SortFunc Tryz.sortRq 10 (α := Rq) Tryz.isAgg59 Tryz.sizeOf59 Rq.cells Rq.cells_len Rq.cells_one (fun x y => Lib.compareInt x.a.i y.a.i) Reqs.swo 46 #[] g 0 cap ss.toArray w eg
   (Reqs.lays g 0 _ w) (holdsK_block Rq.cells_len hb h4) hg (by simpa using hsz)
  change Calls Tryz.prog 84 _ _ _ at hcon
  refine hcon.mono ?_;rintro e w' ⟨rfl, d', n, os, hp, hs, rfl⟩;have hl : d'.toList.length = ss.length := by have := hp.1; simpa using this
  refine ⟨rfl, d'.toList, by simpa using SrtQ.perm hp, SrtQ.rising (by have := hp.1; rwa [this]), ?_, (Below.refl base w).grown (grownBy_sortedK d') (Nat.le_of_lt (Nat.lt_of_le_of_lt hbase hg)) (fun j e => by cases e; exact hbase)⟩;have := ownsRow_sortedK (ts := d'.toList) (os := os) (n := n) Rq.cells_len hl hbase hb h1 h2 h3;rw [hl];simpa using this
#print axioms SrtQ.own
end


section
open Go.Shelf Go.RowKit Go.Lib Go.Sort Go.Maps
def GivesQ {H : Type} (R : Value → Option (DataW H × List MemPlace)) (D0 : DataW H) (ss : List Rq) : Prop :=
 ∃ ps : List (Int × Rq), (ps.map (·.1)).Perm (intKeys D0) ∧ (∀ p ∈ ps, ∃ y, R p.2.val = some y ∧ ∀ zd, D0.atKey (.int .i64 p.1) zd = y.1) ∧ ss = ps.map (·.2)
theorem keys_le {H : Type} (D0 : DataW H) : (intKeys D0).length ≤ Maps.size D0 := by
 cases D0 <;> simp [intKeys, Maps.size]
theorem GivesQ.le {H : Type} {R : Value → Option (DataW H × List MemPlace)} {D0 : DataW H} {ss : List Rq} (h : GivesQ R D0 ss) : ss.length ≤ Maps.size D0 := by
 obtain ⟨ps, h1, _, rfl⟩ := h;have := h1.length_eq;have := keys_le D0;simp at *
 omega
theorem Values.gives {H : Type} (F : Fence) (n : Nat) (hF : F.fn 85) (hro : F.round = none) (hn : 1 ≤ n) (Bm b nn : Nat) (D0 : DataW H) {R : Value → Option (DataW H × List MemPlace)}
  (hR : ∀ v y, R v = some y → ∃ c : Rq, v = c.val) (w : World) (hBm : Bm < w.heap.size) (hm : w.cell? ⟨Bm, 0, none⟩ = some (.map (some b))) (hown : w.ownsMap Tryz.prog 3 R b nn D0) :
  SeqGives F n Tryz.prog 85 #[.pointer (some ⟨Bm, 0, none⟩)] Rq.val (GivesQ R D0) (Maps.size D0) w := fun l J W hW hJ hY h0 => by
 have hown' : W.ownsMap Tryz.prog 3 R b nn D0 := by
  have hbl := hown.lt;obtain ⟨es, clock, hb, Ft, hs, hD⟩ := hown;exact ⟨es, clock, (hW.block b hbl).trans hb, Ft, hs, hD⟩
 refine (Values.each F n hF hro hn l Bm b nn D0 hR J hY W hJ ((hW.cell (p := ⟨Bm, 0, none⟩) hBm).trans hm) hown' h0).mono ?_;rintro e W' ⟨he, ps, h1, h2, h3⟩;exact ⟨he, _, ⟨ps, h1, h2, rfl⟩, h3⟩
set_option maxHeartbeats 1000000 in
theorem Values.make (v : Option Nat) (w : World) : Calls Tryz.prog 45 #[.map v] w fun e w' => e = .returned (.func (.func 85) #[] #[.pointer (some ⟨w.heap.size, 0, none⟩)]) ∧ w' = w.alloc (.cells #[.map v] 47) := by
 go_enter Tryz.func45, Tryz.ntmps45
 go_wp2
 go_ret
 exact ⟨rfl, rfl⟩
set_option maxHeartbeats 2000000 in
theorem Reqs.sorted {H : Type} (Bm b nn : Nat) (D0 : DataW H) {R : Value → Option (DataW H × List MemPlace)} (hR : ∀ v y, R v = some y → ∃ c : Rq, v = c.val) (hsz : Maps.size D0 ≤ 1099511627776) (w : World) (hBm : Bm < w.heap.size)
  (hm : w.cell? ⟨Bm, 0, none⟩ = some (.map (some b))) (hown : w.ownsMap Tryz.prog 3 R b nn D0) :
  Calls Tryz.prog 44 #[.func (.func 85) #[] #[.pointer (some ⟨Bm, 0, none⟩)], .func (.func 46) #[] #[]] w fun e w' =>
   ∃ (v : Value) (ss ts : List Rq), e = .returned v ∧ GivesQ R D0 ss ∧ (v = .slice none 0 0 ↔ ss = []) ∧ ts.Perm ss ∧ (ts.Pairwise fun x y => x.a.i ≤ y.a.i) ∧ w'.ownsRow w.heap.size 59 10 v ts.length (ts.flatMap Rq.cells) ∧ Below w.heap.size w w' := by
 have eg : ∀ args w, (callFunc 85 args).run Tryz.prog w = .ok (.enter 85 args) w := enters_of Tryz.func85 (by kernel_rfl) rfl;have hcol := callsIn_wide.1 (collect_in Fence.wide 3 trivial trivial rfl (Nat.le_refl _) _ #[.pointer (some ⟨Bm, 0, none⟩)] trivial eg (GivesQ R D0) (Maps.size D0) (by have : maxLen = maxLen := rfl; unfold maxLen; omega) (by omega) w (Values.gives Fence.wide 1 trivial rfl (Nat.le_refl _) Bm b nn D0 hR w hBm hm hown));go_enter Tryz.func44, Tryz.ntmps44;go_wp2_with (first
  | (go_at_call 83; refine hcol.mono ?_; rintro e w1 ⟨v, ss, rfl, hS, hrow, hnil, hb⟩; have hsort := SrtQ.own w.heap.size v ss (by have := hS.le; omega) w1 hrow)
  | (go_at_call 84; refine hsort.mono ?_; rintro e w2 ⟨rfl, ts, hp, hr, hrow2, hb2⟩))
 go_ret
 exact ⟨v, ss, ts, rfl, hS, hnil, hp, hr, hrow2, hb.trans hb2⟩
set_option maxHeartbeats 2000000 in
theorem Reqs.all {H : Type} (S b nn : Nat) (D0 : DataW H) {R : Value → Option (DataW H × List MemPlace)} (hR : ∀ v y, R v = some y → ∃ c : Rq, v = c.val) (hsz : Maps.size D0 ≤ 1099511627776) (w : World)
  (hS : w.cell? ⟨S, 1, none⟩ = some (.map (some b))) (hown : w.ownsMap Tryz.prog 3 R b nn D0) :
  Calls Tryz.prog 17 #[.pointer (some ⟨S, 0, none⟩)] w fun e w' =>
   ∃ (v : Value) (ss ts : List Rq), e = .returned v ∧ GivesQ R D0 ss ∧ (v = .slice none 0 0 ↔ ss = []) ∧ ts.Perm ss ∧ (ts.Pairwise fun x y => x.a.i ≤ y.a.i) ∧ w'.ownsRow w.heap.size 59 10 v ts.length (ts.flatMap Rq.cells) ∧ Below w.heap.size w w' := by
 have hb1 : Below w.heap.size w (w.alloc (.cells #[.map (some b)] 47)) := (Below.refl _ w).alloc (Nat.le_refl _) _;have hown' : (w.alloc (.cells #[.map (some b)] 47)).ownsMap Tryz.prog 3 R b nn D0 := by
  have hbl := hown.lt;obtain ⟨es, clock, hb, Ft, hs, hD⟩ := hown;exact ⟨es, clock, (hb1.block b hbl).trans hb, Ft, hs, hD⟩
 have hsort := Reqs.sorted w.heap.size b nn D0 hR hsz _ (by simp) (cell_of_box_a (World.alloc_heap_new w _)).1 hown';go_enter Tryz.func17, Tryz.ntmps17;go_wp2_with (first
  | (go_at_call 45; refine (Values.make _ _).mono ?_; rintro e w1 ⟨rfl, rfl⟩)
  | (go_at_call 44; refine hsort.mono ?_; rintro e w2 ⟨v, ss, ts, rfl, hG, hnil, hp, hr, hrow, hb⟩))
 go_ret
 exact ⟨v, ss, ts, rfl, hG, hnil, hp, hr, ownsRow_base_a hrow (by simp), hb1.trans (hb.mono (by simp))⟩
#print axioms Reqs.all
end

/- A map's requests, as the checker's memory holds them: by rising IDs. -/
section
open Go.Shelf Go.RowKit Go.Lib Go.Sort Go.Maps
def numOf (k : IntKind) : Value → Option Int
  | .int q n => if q = k then some n else none
  | _ => none
theorem numOf_eq {k : IntKind} {v : Value} {n : Int} (h : numOf k v = some n) : v = .int k n := by
  cases v <;> simp only [numOf] at h <;> try (cases h; done)
  split at h
  · rename_i hk; cases h; rw [hk]
  · cases h
theorem numOf_int (k : IntKind) (n : Int) : numOf k (.int k n) = some n := by simp [numOf]
def boolOf : Value → Option Bool
  | .bool b => some b
  | _ => none
theorem boolOf_eq {v : Value} {b : Bool} (h : boolOf v = some b) : v = .bool b := by
  cases v <;> simp only [boolOf] at h <;> first | (cases h; rfl) | cases h
def Rq.decL : List Value → Option Rq
  | [a, b, c, d, e, f, g, h, i, j] =>
    (numOf .u64 a).bind fun t => (numOf .u32 b).bind fun r => (numOf .u32 c).bind fun v => (numOf .i64 d).bind fun k => (numOf .u64 e).bind fun u => (numOf .u32 f).bind fun s => (numOf .u32 g).bind fun y =>
      (numOf .u64 h).bind fun l => (numOf .u64 i).bind fun n => (boolOf j).bind fun z => some ⟨⟨t, r, v, k, u, s, y⟩, l, n, z⟩
  | _ => none
def Rq.dec : Value → Option Rq
  | .agg cs => Rq.decL cs.toList
  | _ => none
theorem Rq.decL_eq {l : List Value} {c : Rq} (h : Rq.decL l = some c) : l = c.cells := by
  unfold Rq.decL at h
  split at h
  · simp only [Option.bind_eq_some_iff] at h
    obtain ⟨t, h1, r, h2, v, h3, k, h4, u, h5, s, h6, y, h7, l', h8, n, h9, z, h10, h11⟩ := h
    cases h11
    rw [numOf_eq h1, numOf_eq h2, numOf_eq h3, numOf_eq h4, numOf_eq h5, numOf_eq h6, numOf_eq h7, numOf_eq h8, numOf_eq h9, boolOf_eq h10]
    rfl
  · cases h
theorem Rq.dec_eq {v : Value} {c : Rq} (h : Rq.dec v = some c) : v = c.val := by
  cases v <;> first | (cases h; done) | skip
  rename_i cs
  have := Rq.decL_eq (l := cs.toList) h
  obtain ⟨cs⟩ := cs
  simp only at this
  subst this
  rfl
theorem Rq.dec_val (c : Rq) : Rq.dec c.val = some c := by
  simp [Rq.dec, Rq.decL, numOf_int, boolOf]
def RqR (v : Value) : Option (DataW Rq × List MemPlace) := (Rq.dec v).map fun c => (.held c, [])
theorem RqR_eq {v : Value} {y : DataW Rq × List MemPlace} (h : RqR v = some y) : ∃ c : Rq, v = c.val ∧ y = (.held c, []) := by
  simp only [RqR, Option.map_eq_some_iff] at h
  obtain ⟨c, hc, rfl⟩ := h
  exact ⟨c, Rq.dec_eq hc, rfl⟩
theorem RqR_val (c : Rq) : RqR c.val = some (.held c, []) := by simp [RqR, Rq.dec_val]
def entOf (x : MapEntry) : Option (Int × Rq) := (numOf .i64 x.key).bind fun a => if (Lit.int .i64 a).wf = true then (Rq.dec x.val).map fun c => (a, c) else none
def entsOf : List MapEntry → Option (List (Int × Rq))
  | [] => some []
  | x :: l => match entOf x, entsOf l with
    | some p, some r => some (p :: r)
    | _, _ => none
def insR (c : Rq) : List Rq → List Rq
  | [] => [c]
  | d :: l => if c.a.i < d.a.i then c :: d :: l else d :: insR c l
theorem insR_perm (c : Rq) : ∀ l, (insR c l).Perm (c :: l)
  | [] => .refl _
  | d :: l => by
    unfold insR
    split
    · exact .refl _
    · exact ((insR_perm c l).cons d).trans (List.Perm.swap c d l)
theorem insR_all : ∀ l : List Rq, (l.foldr insR []).Perm l
  | [] => .refl _
  | c :: l => (insR_perm c _).trans ((insR_all l).cons c)
def riseR : List Rq → Bool
  | a :: b :: l => decide (a.a.i < b.a.i) && riseR (b :: l)
  | _ => true
theorem riseR_pair : ∀ l : List Rq, riseR l = true → l.Pairwise fun x y => x.a.i < y.a.i
  | [], _ => .nil
  | [_], _ => by simp
  | a :: b :: l, h => by
    simp only [riseR, Bool.and_eq_true, decide_eq_true_eq] at h
    have ih := riseR_pair (b :: l) h.2
    refine List.pairwise_cons.2 ⟨fun x hx => ?_, ih⟩
    rcases List.mem_cons.1 hx with rfl | hx
    · exact h.1
    · have := (List.pairwise_cons.1 ih).1 x hx
      omega
def mapReqs (es : Array MapEntry) (ck : Nat) : Option (List Rq) :=
  match entsOf es.toList with
  | some ps => if es.toList.length ≤ 1000 ∧ (∀ x ∈ es.toList, x.born < ck) ∧ (es.toList.map (·.born)).Nodup ∧ (ps.map (·.1)).Nodup ∧ riseR ((ps.map (·.2)).foldr insR []) = true then some ((ps.map (·.2)).foldr insR []) else none
  | none => none
theorem entOf_eq {x : MapEntry} {p : Int × Rq} (h : entOf x = some p) : x.key = .int .i64 p.1 ∧ (Lit.int .i64 p.1).wf = true ∧ Rq.dec x.val = some p.2 := by
  simp only [entOf, Option.bind_eq_some_iff] at h
  obtain ⟨a, h1, h2⟩ := h
  split at h2
  · rename_i hw
    simp only [Option.map_eq_some_iff] at h2
    obtain ⟨c, h3, rfl⟩ := h2
    exact ⟨numOf_eq h1, hw, h3⟩
  · cases h2
theorem entsOf_all : ∀ {l : List MapEntry} {ps : List (Int × Rq)}, entsOf l = some ps → (∀ x ∈ l, ∃ p, entOf x = some p) ∧ ps.map (fun p => Value.int .i64 p.1) = l.map (·.key)
  | [], ps, h => by cases h; simp
  | x :: l, ps, h => by
    unfold entsOf at h
    split at h
    · rename_i p r h1 h2
      cases h
      obtain ⟨i1, i2⟩ := entsOf_all h2
      refine ⟨fun y hy => ?_, by simp [i2, (entOf_eq h1).1]⟩
      rcases List.mem_cons.1 hy with rfl | hy
      · exact ⟨p, h1⟩
      · exact i1 y hy
    · cases h
theorem rg_ent {P : Program} {k : TypeId} (hk : P.underlying k = some (.int .i64)) {x : MapEntry} {p : Int × Rq} (h : entOf x = some p) : WideElems.rd P k RqR x = some (.int .i64 p.1, .held p.2) := by
  obtain ⟨h1, h2, h3⟩ := entOf_eq h
  have hkey : keyOf P k x.key = some (.int .i64 p.1) := by rw [h1]; simp [keyOf, hk, mapKey, h2]
  have hv : RqR x.val = some (.held p.2, []) := by simp [RqR, h3]
  simp [WideElems.rd, hkey, hv]
theorem rg_ents {P : Program} {k : TypeId} (hk : P.underlying k = some (.int .i64)) : ∀ {l : List MapEntry} {ps : List (Int × Rq)}, entsOf l = some ps → l.map (WideElems.rg P k RqR) = ps.map fun p => ((.int .i64 p.1 : Lit), DataW.held p.2)
  | [], ps, h => by cases h; rfl
  | x :: l, ps, h => by
    unfold entsOf at h
    split at h
    · rename_i p r h1 h2
      cases h
      simp [rg_ents hk h2, WideElems.rg_of (rg_ent hk h1)]
    · cases h
def heldOf : DataW Rq → Rq
  | .held c => c
  | _ => Rq.no
theorem map_reqs {P : Program} {k : TypeId} (hk : P.underlying k = some (.int .i64)) {w : World} {b ck : Nat} {es : Array MapEntry} {rs : List Rq} (hb : w.heap[b]? = some (.map es ck)) (h : mapReqs es ck = some rs) :
    ∃ D0 : DataW Rq, w.ownsMap P k RqR b es.size D0 ∧ es.size ≤ 1000 ∧ (rs.Pairwise fun x y => x.a.i < y.a.i) ∧ ∀ ss, GivesQ RqR D0 ss → ss.Perm rs := by
  unfold mapReqs at h
  split at h
  · rename_i ps hps
    split at h
    · rename_i hc
      obtain ⟨c1, c2, c3, c4, c5⟩ := hc
      cases h
      obtain ⟨hall, hkeys⟩ := entsOf_all hps
      have hsz : es.size ≤ 1000 := by simpa using c1
      have hrg := rg_ents (P := P) (k := k) hk hps
      have hml : (maxLen : Nat) = maxLen := rfl
      have hfit : WideElems.Fit P k RqR es ck := by
        refine ⟨?_, ⟨c2, c3, ?_⟩, fun x hx => ?_⟩
        · unfold maxLen; omega
        · rw [← hkeys]
          have : ps.map (fun p => Value.int .i64 p.1) = (ps.map (·.1)).map (Value.int .i64) := by simp
          rw [this]
          exact c4.map _ (fun a b hab e => hab (by cases e; rfl))
        · obtain ⟨p, hp⟩ := hall x hx
          exact ⟨_, rg_ent hk hp⟩
      refine ⟨.map ((es.toList.map (WideElems.rg P k RqR)).foldr DataW.insert []), ⟨es, ck, hb, hfit, Nat.le_refl _, rfl⟩, hsz, riseR_pair _ c5, ?_⟩
      rw [hrg]
      rintro ss ⟨qs, hq1, hq2, rfl⟩
      have hper := WideShapes.sorted_perm (ps.map fun p => ((.int .i64 p.1 : Lit), DataW.held p.2))
      have hap : ((ps.map fun p => ((.int .i64 p.1 : Lit), DataW.held p.2)).foldr DataW.insert []).Pairwise fun p q => p.1 ≠ q.1 := by
        refine (hper.pairwise_iff (fun {_ _} hne => Ne.symm hne)).2 ?_
        rw [List.pairwise_map]
        have : (ps.map (·.1)).Pairwise (· ≠ ·) := c4
        rw [List.pairwise_map] at this
        exact this.imp fun {a b} hab e => hab (by injection e)
      have hat : ∀ p ∈ ps, heldOf ((DataW.map ((ps.map fun p => ((.int .i64 p.1 : Lit), DataW.held p.2)).foldr DataW.insert [])).atKey (.int .i64 p.1) .nil) = p.2 := fun p hp => by
        rw [WideAt.atKey_mem (.nil) (by trivial) hap (hper.mem_iff.2 (List.mem_map.2 ⟨p, hp, rfl⟩))]
        rfl
      have hk1 : (qs.map (·.1)).Perm (ps.map (·.1)) := by
        refine hq1.trans ?_
        have := hper.map (fun p : Lit × DataW Rq => Go.intOf p.1)
        simpa [intKeys, Go.intOf, Function.comp_def] using this
      have e1 : qs.map (·.2) = (qs.map (·.1)).map fun a => heldOf ((DataW.map ((ps.map fun p => ((.int .i64 p.1 : Lit), DataW.held p.2)).foldr DataW.insert [])).atKey (.int .i64 a) .nil) := by
        rw [List.map_map]
        refine List.map_congr_left fun q hq => ?_
        obtain ⟨y, hy, hz⟩ := hq2 q hq
        rw [RqR_val] at hy
        cases hy
        simp only [Function.comp, hz]
        rfl
      have e2 : ps.map (·.2) = (ps.map (·.1)).map fun a => heldOf ((DataW.map ((ps.map fun p => ((.int .i64 p.1 : Lit), DataW.held p.2)).foldr DataW.insert [])).atKey (.int .i64 a) .nil) := by
        rw [List.map_map]
        exact List.map_congr_left fun p hp => (hat p hp).symm
      rw [e1]
      refine (hk1.map _).trans ?_
      rw [← e2]
      exact (insR_all _).symm
    · cases h
  · cases h
theorem reqs_one {ts rs : List Rq} (hp : ts.Perm rs) (ht : ts.Pairwise fun x y => x.a.i ≤ y.a.i) (hr : rs.Pairwise fun x y => x.a.i < y.a.i) : ts = rs := by
  have hne : rs.Pairwise fun x y => x.a.i ≠ y.a.i := hr.imp fun h e => by omega
  have hne' : ts.Pairwise fun x y => x.a.i ≠ y.a.i := (hp.pairwise_iff (fun {_ _} h => Ne.symm h)).2 hne
  have ht' : ts.Pairwise fun x y => x.a.i < y.a.i := List.Pairwise.imp₂ (fun _ _ h1 h2 => by omega) ht hne'
  exact List.Perm.eq_of_pairwise (le := fun x y : Rq => x.a.i < y.a.i) (fun a b _ _ h1 h2 => by omega) ht' hr hp
end

end Go.Proofs.YtjchnkmolhgpmaaGreatDoor

/- The library's Clone, Sort, Reverse, Compact, IsSorted on a row of the call's own. -/
import Derived.Test.YtmomigklglnmkaaRbtreeSortsZ11
import Derived.Test.YtmomigklglnmkaaRbtreeSortsZ7
import Derived.Shelf.Sort.Plain
import Derived.Shelf.Slices.In.SortNone
import Derived.Shelf.Slices.Clone
import Derived.Shelf.Slices.CompactI
import Derived.Shelf.Slices.Reverse
import Derived.Shelf.SlSorted.IsSorted
import Derived.Sort.OwnSortedInts
namespace Go.Proofs.Ytmomigklglnmkaa
open Go Go.RowKit Go.Shelf Go.Sort Go.Lib
def Try.lays189_ren : Go.Shelf.Ren := ⟨fun | 189 => 6 | 125 => 19 | 257 => 18 | 128 => 37 | 129 => 38 | 294 => 29 | 295 => 30 | 296 => 31 | 297 => 32 | 298 => 33 | 299 => 34 | 216 => 28 | 300 => 35 | 301 => 36 | 328 => 48 | 329 => 49 | 330 => 50 | 331 => 51 | 332 => 52 | 215 => 47 | 343 => 57 | n => n, fun | 28 => 22 | 3 => 3 | 46 => 36 | 0 => 0 | 51 => 57 | 53 => 59 | 4 => 4 | 183 => 50 | 182 => 49 | 131 => 54 | 5 => 5 | 9 => 9 | 218 => 61 | 222 => 65 | 228 => 68 | 229 => 69 | n => n, fun | n => n⟩
theorem Try.lays189 : Go.Proofs.Lays.n189 Try.prog Try.lays189_ren := open Go.Proofs.Try in { mixed := by kernel_rfl, f125 := func19.trans (congrArg some (by kernel_rfl)), f128 := func37.trans (congrArg some (by kernel_rfl)), f129 := func38.trans (congrArg some (by kernel_rfl)), f189 := func6.trans (congrArg some (by kernel_rfl)), f215 := func47.trans (congrArg some (by kernel_rfl)), f216 := func28.trans (congrArg some (by kernel_rfl)), f257 := func18.trans (congrArg some (by kernel_rfl)), f294 := func29.trans (congrArg some (by kernel_rfl)), f295 := func30.trans (congrArg some (by kernel_rfl)), f296 := func31.trans (congrArg some (by kernel_rfl)), f297 := func32.trans (congrArg some (by kernel_rfl)), f298 := func33.trans (congrArg some (by kernel_rfl)), f299 := func34.trans (congrArg some (by kernel_rfl)), f300 := func35.trans (congrArg some (by kernel_rfl)), f301 := func36.trans (congrArg some (by kernel_rfl)), f328 := func48.trans (congrArg some (by kernel_rfl)), f329 := func49.trans (congrArg some (by kernel_rfl)), f330 := func50.trans (congrArg some (by kernel_rfl)), f331 := func51.trans (congrArg some (by kernel_rfl)), f332 := func52.trans (congrArg some (by kernel_rfl)), f343 := func57.trans (congrArg some (by kernel_rfl)), t0 := underlying0, a0 := isAgg0, z0 := sizeOf0, v0 := zeroValue0, t3 := underlying3, a3 := isAgg3, z3 := sizeOf3, v3 := zeroValue3, t4 := underlying4, a4 := isAgg4, z4 := sizeOf4, v4 := zeroValue4, t5 := underlying5, a5 := isAgg5, z5 := sizeOf5, v5 := zeroValue5, t9 := underlying9, a9 := isAgg9, z9 := sizeOf9, v9 := zeroValue9, t28 := underlying22, a28 := isAgg22, z28 := sizeOf22, v28 := zeroValue22, t46 := underlying36, a46 := isAgg36, z46 := sizeOf36, v46 := zeroValue36, t51 := underlying57, a51 := isAgg57, z51 := sizeOf57, v51 := zeroValue57, t53 := underlying59, a53 := isAgg59, z53 := sizeOf59, v53 := zeroValue59, t131 := underlying54, a131 := isAgg54, z131 := sizeOf54, v131 := zeroValue54, t182 := underlying49, a182 := isAgg49, z182 := sizeOf49, v182 := zeroValue49, t183 := underlying50, a183 := isAgg50, z183 := sizeOf50, v183 := zeroValue50, t218 := underlying61, a218 := isAgg61, z218 := sizeOf61, v218 := zeroValue61, t222 := underlying65, a222 := isAgg65, z222 := sizeOf65, v222 := zeroValue65, t228 := underlying68, a228 := isAgg68, z228 := sizeOf68, v228 := zeroValue68, t229 := underlying69, a229 := isAgg69, z229 := sizeOf69, v229 := zeroValue69 }
def Try.lays112_ren : Go.Shelf.Ren := ⟨fun | 112 => 7 | n => n, fun | 28 => 22 | 3 => 3 | 4 => 4 | 0 => 0 | n => n, fun | n => n⟩
theorem Try.lays112 : Go.Proofs.Lays.n112 Try.prog Try.lays112_ren := open Go.Proofs.Try in { mixed := by kernel_rfl, f112 := func7.trans (congrArg some (by kernel_rfl)), t0 := underlying0, a0 := isAgg0, z0 := sizeOf0, v0 := zeroValue0, t3 := underlying3, a3 := isAgg3, z3 := sizeOf3, v3 := zeroValue3, t4 := underlying4, a4 := isAgg4, z4 := sizeOf4, v4 := zeroValue4, t28 := underlying22, a28 := isAgg22, z28 := sizeOf22, v28 := zeroValue22 }
def Try.laysC15_ren : Go.Shelf.Ren := ⟨fun | 15 => 5 | n => n, fun | 22 => 22 | 3 => 3 | 4 => 4 | n => n, fun | n => n⟩
theorem Try.laysC15 : Go.Proofs.Lays2.n15 Try.prog Try.laysC15_ren := open Go.Proofs.Try in { mixed := by kernel_rfl, f15 := func5.trans (congrArg some (by kernel_rfl)), t3 := underlying3, a3 := isAgg3, z3 := sizeOf3, v3 := zeroValue3, t4 := underlying4, a4 := isAgg4, z4 := sizeOf4, v4 := zeroValue4, t22 := underlying22, a22 := isAgg22, z22 := sizeOf22, v22 := zeroValue22, i3 := by kernel_rfl }
def Try.laysC20_ren : Go.Shelf.Ren := ⟨fun | 20 => 10 | n => n, fun | 22 => 22 | 3 => 3 | 4 => 4 | 0 => 0 | n => n, fun | n => n⟩
theorem Try.laysC20 : Go.Proofs.Lays2.n20 Try.prog Try.laysC20_ren := open Go.Proofs.Try in { mixed := by kernel_rfl, f20 := func10.trans (congrArg some (by kernel_rfl)), t0 := underlying0, a0 := isAgg0, z0 := sizeOf0, v0 := zeroValue0, t3 := underlying3, a3 := isAgg3, z3 := sizeOf3, v3 := zeroValue3, t4 := underlying4, a4 := isAgg4, z4 := sizeOf4, v4 := zeroValue4, t22 := underlying22, a22 := isAgg22, z22 := sizeOf22, v22 := zeroValue22, i3 := by kernel_rfl }
def Try.laysO10_ren : Go.Shelf.Ren := ⟨fun | 10 => 17 | 18 => 28 | 24 => 47 | n => n, fun | 22 => 22 | 24 => 3 | 4 => 4 | 3 => 3 | 0 => 0 | n => n, fun | n => n⟩
theorem Try.laysO10 : Go.Proofs.SlLaysO.n10 Try.prog Try.laysO10_ren := open Go.Proofs.Try in { mixed := by kernel_rfl, f10 := ⟨f17.name, by decide, func17.trans (congrArg some (by kernel_rfl))⟩, f18 := ⟨f28.name, by decide, func28.trans (congrArg some (by kernel_rfl))⟩, f24 := ⟨f47.name, by decide, func47.trans (congrArg some (by kernel_rfl))⟩, t0 := underlying0, a0 := isAgg0, z0 := sizeOf0, v0 := zeroValue0, t3 := underlying3, a3 := isAgg3, z3 := sizeOf3, v3 := zeroValue3, t4 := underlying4, a4 := isAgg4, z4 := sizeOf4, v4 := zeroValue4, t22 := underlying22, a22 := isAgg22, z22 := sizeOf22, v22 := zeroValue22, t24 := underlying3, a24 := isAgg3, z24 := sizeOf3, v24 := zeroValue3 }
def sortI (zs : List Int) : List Int := zs.mergeSort fun x y => decide (x ≤ y)
theorem sortI_len (zs : List Int) : (sortI zs).length = zs.length := List.length_mergeSort _
theorem sortI_mem {zs : List Int} {x : Int} : x ∈ sortI zs ↔ x ∈ zs := (List.mergeSort_perm zs _).mem_iff
theorem sortI_srt (zs : List Int) : (sortI zs).Pairwise (· ≤ ·) := by
  have h := List.pairwise_mergeSort (le := fun x y : Int => decide (x ≤ y)) (fun a b c h1 h2 => by simp only [decide_eq_true_eq] at *; omega) (fun a b => by simp only [Bool.or_eq_true, decide_eq_true_eq]; omega) zs
  exact h.imp (fun h => by simpa using h)
theorem grow_none (w : World) : grow w #[] = w := by unfold grow; simp
theorem Own.block {w : World} {base : Nat} {A : Option Addr} {n c : Nat} {zs : List Int} (h : Own w base A n c zs) (h0 : 0 < n) : ∃ g cur, A = some ⟨g, 0, none⟩ ∧ base ≤ g ∧ g < w.heap.size ∧ w.heap[g]? = some (.cells cur 3 (0, 0)) ∧ n ≤ c ∧ c ≤ maxLen ∧ cur.size = c * 1 ∧ cur.toList.take zs.length = zs.map (Value.int .i64) := by
  have hl := h.len
  rcases h.2 with ⟨_, h1⟩ | ⟨g, cap, cur, hv, hb, hg, h1, h2, h3, h4⟩
  · omega
  · injection hv with e1 _ e3
    subst e1 e3
    exact ⟨g, cur, rfl, hb, (Array.getElem?_eq_some_iff.1 hg).1, hg, h1, h2, h3, by rw [hl]; simpa using h4⟩
theorem Sls.sort (base : Nat) (A : Option Addr) (n c : Nat) (zs : List Int) (hn : n ≤ 1000000) (w : World) (h : Own w base A n c zs) : Calls Try.prog 6 #[.slice A n c] w (fun e w' => e = .returned (.tuple #[]) ∧ Own w' base A n c (sortI zs) ∧ Chg (rowOf A) w w') := by
  have hl := h.len
  by_cases h0 : n = 0
  · subst h0
    have e1 : zs = [] := List.eq_nil_of_length_eq_zero hl
    subst e1
    refine (Any.slices_Sort_int_none Try.lays189 A c w).mono ?_
    rintro e w' ⟨rfl, rfl⟩
    rw [show sortI [] = [] by simp [sortI]]
    exact ⟨rfl, h, Chg.refl _ _⟩
  · obtain ⟨g, cur, rfl, hb, hlt, hg, h1, h2, h3, h4⟩ := h.block (by omega)
    subst hl
    refine (Any.slices_Sort_int Try.lays189 g 0 c zs w (holds_of_blockI hg h4) hlt (by omega)).mono ?_
    rintro e w' ⟨rfl, q, os, rfl⟩
    exact ⟨rfl, ownsRow_sortedI (sortI_len zs) hb hg h1 h2 h3, Chg.grown (n := zs.length) (c := c) (grownBy_sortedI _)⟩
theorem Sls.reverse (base : Nat) (A : Option Addr) (n c : Nat) (zs : List Int) (hn : n ≤ 1000000) (w : World) (h : Own w base A n c zs) : Calls Try.prog 7 #[.slice A n c] w (fun e w' => e = .returned (.tuple #[]) ∧ Own w' base A n c zs.reverse ∧ Chg (rowOf A) w w') := by
  have hl := h.len
  by_cases h0 : n = 0
  · subst h0
    have e1 : zs = [] := List.eq_nil_of_length_eq_zero hl
    subst e1
    refine (Any.slices_Reverse_int_empty Try.lays112 A c w).mono ?_
    rintro e w' ⟨rfl, rfl⟩
    exact ⟨rfl, h, Chg.refl _ _⟩
  · obtain ⟨g, cur, rfl, hb, hlt, hg, h1, h2, h3, h4⟩ := h.block (by omega)
    subst hl
    refine (Any.slices_Reverse_int Try.lays112 g 0 c zs w (holds_of_blockI hg h4) (by omega)).mono ?_
    rintro e w' ⟨rfl, q, rfl⟩
    rw [← grow_none (putRow _ _ _ _ _)]
    exact ⟨rfl, ownsRow_sortedI (List.length_reverse) hb hg h1 h2 h3, Chg.grown (n := zs.length) (c := c) (grownBy_sortedI _)⟩
theorem compact_le (zs : List Int) : (Lib.compact zs).length ≤ zs.length := by
  unfold Lib.compact Lib.compactUpTo
  rw [List.length_map]
  have := List.length_filter_le (Lib.keeps zs.toArray) (List.range zs.length)
  simpa using this
theorem Sls.compact (base : Nat) (A : Option Addr) (n c : Nat) (zs : List Int) (hn : n ≤ 1000000) (w : World) (h : Own w base A n c zs) : Calls Try.prog 10 #[.slice A n c] w (fun e w' => e = .returned (.slice A (Lib.compact zs).length c) ∧ Own w' base A (Lib.compact zs).length c (Lib.compact zs) ∧ Chg (rowOf A) w w') := by
  have hl := h.len
  by_cases h0 : n = 0
  · subst h0
    have e1 : zs = [] := List.eq_nil_of_length_eq_zero hl
    subst e1
    refine (Any.slices_Compact_int_empty Try.laysC20 A c w).mono ?_
    rintro e w' ⟨rfl, rfl⟩
    exact ⟨rfl, h, Chg.refl _ _⟩
  · obtain ⟨g, cur, rfl, hb, hlt, hg, h1, h2, h3, h4⟩ := h.block (by omega)
    subst hl
    refine (Any.slices_Compact_int Try.laysC20 g 0 c zs w (holds_of_blockI hg h4) (by omega) h1).mono ?_
    rintro e w' ⟨rfl, q, rfl⟩
    have hk := compact_le zs
    have ht : (Lib.compact zs ++ List.replicate (zs.length - (Lib.compact zs).length) (0 : Int)).length = zs.length := by rw [List.length_append, List.length_replicate]; omega
    rw [← grow_none (putRow _ _ _ _ _)]
    refine ⟨rfl, ⟨by simp, Or.inr ⟨g, c, _, rfl, hb, heap_sortedI _ hg, by omega, h2, by simp [putCells, h3], ?_⟩⟩, Chg.grown (n := zs.length) (c := c) (grownBy_sortedI _)⟩
    have h5 := take_putCellsI cur (Lib.compact zs ++ List.replicate (zs.length - (Lib.compact zs).length) (0 : Int)) (by rw [ht, h3]; omega)
    have h6 := congrArg (List.take (Lib.compact zs).length) h5
    rw [List.take_take, Nat.min_eq_left (by rw [ht]; exact hk), List.map_append, List.take_left' (by simp)] at h6
    rw [Nat.mul_one]
    exact h6
theorem Sls.clone (A : Option Addr) (n c : Nat) (zs : List Int) (hn : n ≤ 1000000) (w : World) (h : RdU .i64 w A n zs) : Calls Try.prog 5 #[.slice A n c] w (fun e w' => ∃ A' c', e = .returned (.slice A' n c') ∧ Own w' w.heap.size A' n c' zs ∧ Below w.heap.size w w') := by
  have hl := h.1
  by_cases h0 : n = 0
  · subst h0
    have e1 : zs = [] := List.eq_nil_of_length_eq_zero hl
    subst e1
    cases A with
    | none =>
      refine (Any.slices_Clone_int_nil Try.laysC15 0 c w).mono ?_
      rintro e w' ⟨rfl, rfl⟩
      exact ⟨none, 0, rfl, Own.nil _ _, Below.refl _ _⟩
    | some a =>
      refine (Any.slices_Clone_int_zero Try.laysC15 a c w).mono ?_
      rintro e w' ⟨v, rfl, ho, hne, hb⟩
      rcases ho.2 with ⟨hv, _⟩ | ⟨g, cap, cur, rfl, _⟩
      · exact absurd hv hne
      · exact ⟨_, cap, rfl, ho, hb⟩
  · obtain ⟨b, off, rfl, _, hc⟩ := h.2 0 (by omega)
    refine (Any.slices_Clone_int Try.laysC15 b off n c zs w (by omega) (by omega) (fun j hj => hc j (by omega))).mono ?_
    rintro e w' ⟨v, rfl, ho, hne, hb⟩
    rw [List.take_of_length_le (by omega)] at ho
    rcases ho.2 with ⟨hv, _⟩ | ⟨g, cap, cur, rfl, _⟩
    · exact absurd hv hne
    · exact ⟨_, cap, rfl, ho, hb⟩
theorem Sls.isSorted (base : Nat) (A : Option Addr) (n c : Nat) (zs : List Int) (hs : Srt zs) (hn : n ≤ 1000000) (w : World) (h : Own w base A n c zs) : Calls Try.prog 17 #[.slice A n c] w (Ans (.bool true) w) := by
  have hl := h.len
  by_cases h0 : n = 0
  · subst h0
    refine (AnyO.slices_IsSorted_int_none Try.laysO10 A c w).mono ?_
    rintro e w' ⟨rfl, rfl⟩
    exact ⟨rfl, Below.refl _ _⟩
  · obtain ⟨g, cur, rfl, hb, hlt, hg, h1, h2, h3, h4⟩ := h.block (by omega)
    subst hl
    have hH := holds_of_blockI hg h4
    refine (AnyO.slices_IsSorted_int Try.laysO10 g 0 c zs.toArray w (fun i hi => (hH i hi).1) (by simpa using (by omega : zs.length < 4611686018427387904))).mono ?_
    rintro e w' ⟨rfl, q, rfl⟩
    have hd : Lib.downOK (fun x y => decide (x < y)) zs.toArray (zs.toArray.size - 1) = true := by
      rw [Lib.downOK_iff]
      intro i hi
      have hi' : i + 1 < zs.length := by simpa using (by omega : i + 1 < zs.toArray.size)
      have := List.pairwise_iff_getElem.1 hs i (i + 1) (by omega) hi' (by omega)
      simp [hi', show i < zs.length by omega]
      omega
    rw [hd]
    exact ⟨rfl, rfl, rfl, rfl, Nat.le_refl _, fun _ _ => rfl⟩
/-- Sorted, and each once: what Compact leaves of a sorted list. -/
theorem upTo_srt {d : Array Int} {m : Nat} (h : ∀ i j, i < j → j < m → d[i]! ≤ d[j]!) : Srt (Lib.compactUpTo d m) ∧ ∀ x, x ∈ Lib.compactUpTo d m ↔ ∃ j, j < m ∧ d[j]! = x := by
  induction m with
  | zero => simp [Lib.compactUpTo, Srt]
  | succ m ih =>
    obtain ⟨i1, i2⟩ := ih (fun i j hi hj => h i j hi (by omega))
    rw [Lib.compactUpTo_succ]
    by_cases hk : Lib.keeps d m = true
    · rw [if_pos hk]
      have hlt : ∀ j, j < m → d[j]! < d[m]! := fun j hj => by
        have h1 := h j m hj (by omega)
        have h2 : d[m]! ≠ d[m - 1]! := by
          have := hk
          unfold Lib.keeps at this
          rw [decide_eq_true_eq] at this
          rcases this with e | e
          · omega
          · exact e
        have h3 := h (m - 1) m (by omega) (by omega)
        rcases Nat.lt_or_ge j (m - 1) with h4 | h4
        · have := h j (m - 1) h4 (by omega); omega
        · obtain rfl : j = m - 1 := by omega
          omega
      refine ⟨?_, fun x => ?_⟩
      · unfold Srt at *
        rw [List.pairwise_append]
        refine ⟨i1, by simp, fun a ha b hb => ?_⟩
        obtain ⟨j, hj, rfl⟩ := (i2 a).1 ha
        rw [List.mem_singleton] at hb
        subst hb
        exact hlt j hj
      · rw [List.mem_append, i2, List.mem_singleton]
        constructor
        · rintro (⟨j, hj, rfl⟩ | rfl)
          · exact ⟨j, by omega, rfl⟩
          · exact ⟨m, by omega, rfl⟩
        · rintro ⟨j, hj, rfl⟩
          rcases Nat.lt_or_ge j m with h1 | h1
          · exact Or.inl ⟨j, h1, rfl⟩
          · obtain rfl : j = m := by omega
            exact Or.inr rfl
    · rw [if_neg hk, List.append_nil]
      have hm : d[m]! = d[m - 1]! ∧ 0 < m := by
        unfold Lib.keeps at hk
        rw [decide_eq_true_eq] at hk
        refine ⟨?_, ?_⟩
        · by_cases e : d[m]! = d[m - 1]!
          · exact e
          · exact absurd (Or.inr e) hk
        · by_cases e : 0 < m
          · exact e
          · exact absurd (Or.inl (by omega)) hk
      refine ⟨i1, fun x => (i2 x).trans ⟨fun ⟨j, hj, e⟩ => ⟨j, by omega, e⟩, fun ⟨j, hj, e⟩ => ?_⟩⟩
      rcases Nat.lt_or_ge j m with h1 | h1
      · exact ⟨j, h1, e⟩
      · obtain rfl : j = m := by omega
        exact ⟨j - 1, by omega, by rw [← hm.1]; exact e⟩
theorem compact_srt (zs : List Int) : Srt (Lib.compact (sortI zs)) ∧ ∀ x, x ∈ Lib.compact (sortI zs) ↔ x ∈ zs := by
  have h := upTo_srt (d := (sortI zs).toArray) (m := (sortI zs).length) (fun i j hi hj => by
    have := List.pairwise_iff_getElem.1 (sortI_srt zs) i j (by omega) hj hi
    simpa [hj, show i < (sortI zs).length by omega] using this)
  refine ⟨h.1, fun x => (h.2 x).trans ?_⟩
  rw [← sortI_mem, List.mem_iff_getElem]
  constructor
  · rintro ⟨j, hj, e⟩
    exact ⟨j, hj, by simpa [hj] using e⟩
  · rintro ⟨j, hj, e⟩
    exact ⟨j, hj, by simpa [hj] using e⟩
/-- Of one set of numbers there is one list in order. -/
theorem srt_one : ∀ {L M : List Int}, Srt L → Srt M → (∀ x, x ∈ L ↔ x ∈ M) → L = M
  | [], [], _, _, _ => rfl
  | [], y :: M, _, _, h => absurd ((h y).2 (by simp)) (by simp)
  | x :: L, [], _, _, h => absurd ((h x).1 (by simp)) (by simp)
  | x :: L, y :: M, h1, h2, h => by
    have a1 := List.pairwise_cons.1 h1
    have a2 := List.pairwise_cons.1 h2
    have hxy : x = y := by
      rcases List.mem_cons.1 ((h x).1 (by simp)) with e | e
      · exact e
      · rcases List.mem_cons.1 ((h y).2 (by simp)) with e2 | e2
        · exact e2.symm
        · have := a2.1 x e; have := a1.1 y e2; omega
    subst hxy
    rw [srt_one a1.2 a2.2 (fun z => ⟨fun hz => ?_, fun hz => ?_⟩)]
    · rcases List.mem_cons.1 ((h z).1 (List.mem_cons_of_mem _ hz)) with e | e
      · have := a1.1 z hz; omega
      · exact e
    · rcases List.mem_cons.1 ((h z).2 (List.mem_cons_of_mem _ hz)) with e | e
      · have := a2.1 z hz; omega
      · exact e
end Go.Proofs.Ytmomigklglnmkaa

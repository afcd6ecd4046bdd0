/- Texts of TableOnce's proof, together. -/
import Derived.Test.YtegohmeapamoaaaGreatDoorTableOnceZ26
import Derived.Test.YtegohmeapamoaaaGreatDoorRbN
import Derived.Test.YtegohmeapamoaaaGreatDoorRdu
namespace Go.Proofs.YtegohmeapamoaaaGreatDoor
/- Bytes in a slice; a table's States. -/
section
open Go.RowKit
/-- The first place of a number; -1: none. -/
def idxI : List Int → Int → Nat → Int
  | [], _, _ => -1
  | z :: l, v, k => if v = z then k else idxI l v (k + 1)
theorem idxI_step (zs : List Int) (v : Int) {k : Nat} (hk : k < zs.length) : idxI (zs.drop k) v k = if v = zs.getD k 0 then (k : Int) else idxI (zs.drop (k + 1)) v (k + 1) := by
  have e : zs.getD k 0 = zs[k] := by simp [List.getD, hk]
  rw [List.drop_eq_getElem_cons hk, e]
  rfl
theorem idxI_has : ∀ (zs : List Int) (v : Int) (k : Nat), decide (0 ≤ idxI zs v k) = zs.contains v
  | [], _, _ => rfl
  | z :: l, v, k => by
    unfold idxI
    by_cases h : v = z
    · rw [if_pos h]; simp [h]
    · rw [if_neg h, idxI_has l v (k + 1)]
      simp [h]
set_option maxRecDepth 100000 in
set_option maxHeartbeats 8000000 in
theorem Sls.indexU8 (A : Option Addr) (n c : Nat) (zs : List Int) (v : Int) (w : World) (hr : RdU .u8 w A n zs) (hn : n ≤ 1000000) : Calls Tryz.prog 142 #[.slice A n c, .int .u8 v] w (Ans (.int .i64 (idxI zs v 0)) w) := by
  have HR := hid hr
  have HLN := hid hr.1
  have hni : (n : Int) ≤ 1000000 := by omega
  clear hr
  go_enter Tryz.func142, Tryz.ntmps142
  go_wp2_with fail
  go_loopg [8] n (fun s i wr => ∃ k : Nat, i = .int .i64 k ∧ k ≤ n ∧ s = n - k ∧ Hid (idxI zs v 0 = idxI (zs.drop k) v k) ∧ Below w.heap.size w wr)
  case atStart => exact ⟨0, rfl, Nat.zero_le _, by omega, hid rfl, Below.refl _ _⟩
  case round =>
    obtain ⟨k, rfl, hk, hs, hz, hb⟩ := hrel
    have HS := hid hs
    have HB := hid hb
    clear hs hb
    by_cases hkn : k < n
    · have hki : (k : Int) < n := by omega
      have hk0 : (0 : Int) ≤ k := by omega
      obtain ⟨bb, off, hA, _, hc⟩ := (HR.out.below HB.out).2 k hkn
      subst hA
      have hcell := hc k hkn
      have HST := hid (idxI_step zs v (k := k) (by have := HLN.out; omega))
      generalize zs.getD k 0 = z at hcell HST
      clear hc
      by_cases hv : v = z
      · have HE : Hid (idxI zs v 0 = k) := hid (by rw [hz.out, HST.out, if_pos hv])
        have h1 : (v == z) = true := by simpa using hv
        clear hv hz HST
        go_wp2_with fail
        go_ret
        exact ⟨by rw [HE.out] <;> rfl, HB.out⟩
      · have HE : Hid (idxI zs v 0 = idxI (zs.drop (k + 1)) v (k + 1)) := hid (by rw [hz.out, HST.out, if_neg hv])
        have h1 : (v == z) = false := by simpa using hv
        clear hv hz HST
        go_wp2_with fail
        go_roundg (n - (k + 1))
        case measure => have := HS.out; omega
        case rel => exact ⟨k + 1, by go_num, by omega, rfl, HE, HB.out⟩
    · have hki : ¬ (k : Int) < n := by omega
      have HE : Hid (idxI zs v 0 = -1) := hid (by rw [hz.out, List.drop_of_length_le (by have := HLN.out; omega)]; rfl)
      clear hz
      go_wp2_with fail
      go_ret
      exact ⟨by rw [HE.out] <;> rfl, HB.out⟩
set_option maxRecDepth 100000 in
set_option maxHeartbeats 8000000 in
theorem Sls.containsU8 (A : Option Addr) (n c : Nat) (zs : List Int) (v : Int) (w : World) (hr : RdU .u8 w A n zs) (hn : n ≤ 1000000) : Calls Tryz.prog 91 #[.slice A n c, .int .u8 v] w (Ans (.bool (zs.contains v)) w) := by
  have HE := hid (idxI_has zs v 0)
  go_enter Tryz.func91, Tryz.ntmps91
  go_wp2_with fail
  refine (Sls.indexU8 A n c zs v _ hr hn).mono ?_
  rintro e w1 ⟨rfl, hb⟩
  have HB := hid hb
  clear hb
  go_wp2_with fail
  go_ret
  exact ⟨by rw [← HE.out] <;> rfl, HB.out⟩
theorem ownI_mono {w : World} {base b : Nat} {A : Option Addr} {n c : Nat} {zs : List Int} (h : Own w base A n c zs) (hb : b ≤ base) : Own w b A n c zs := by
  obtain ⟨h1, h2⟩ := h
  refine ⟨h1, ?_⟩
  rcases h2 with h2 | ⟨g, cap, cur, hv, hg, r⟩
  · exact .inl h2
  · exact .inr ⟨g, cap, cur, hv, Nat.le_trans hb hg, r⟩
/-- The IDs of those of some tasks that are in one of some states. -/
def idsOf (zs : List Int) (l : List Tk) : List Int := (l.filter fun y => zs.contains y.s).map (·.i)
theorem idsOf_step (zs : List Int) (l : List Tk) {k : Nat} (hk : k < l.length) : idsOf zs (l.take (k + 1)) = idsOf zs (l.take k) ++ (if zs.contains (l.getD k Tk.zero).s = true then [(l.getD k Tk.zero).i] else []) := by
  have e : l.getD k Tk.zero = l[k] := by simp [List.getD, hk]
  unfold idsOf
  rw [List.take_succ_eq_append_getElem hk, List.filter_append, List.map_append, e, List.filter_cons, List.filter_nil]
  split <;> simp
theorem idsOf_len (zs : List Int) (l : List Tk) : (idsOf zs l).length ≤ l.length := by
  unfold idsOf
  rw [List.length_map]
  exact List.length_filter_le _ _
set_option maxRecDepth 100000 in
set_option maxHeartbeats 8000000 in
theorem Tab.states (base th g : Nat) (n c : Nat) (L : List Tk) (B : Option Addr) (m d : Nat) (zs : List Int) (w : World) (h : TAt w base th (some ⟨g, 0, none⟩) n c L) (hz : RdU .u8 w B m zs) (hm : m ≤ 1000000) :
    Calls Tryz.prog 43 #[.pointer (some ⟨th, 0, none⟩), .slice B m d] w fun e w' => ∃ A k e', e = .returned (.slice A k e') ∧ Own w' w.heap.size A k e' (idsOf zs (L.filter keep)) ∧ Below w.heap.size w w' := by
  have HT := hid h
  have HZ := hid hz
  have HLE := hid h.le
  obtain ⟨D, hD⟩ : ∃ D, L.filter keep = D := ⟨_, rfl⟩
  rw [hD]
  have HD := hid hD
  clear h hz hD
  go_enter Tryz.func43, Tryz.ntmps43
  go_wp2_with fail
  refine (Tab.tasks base th g n c L _ HT.out).mono ?_
  rintro e w1 ⟨g', q, c', rfl, ho, hb, hq⟩
  have HR := hid (ho.rd Tk.len (by decide) Tk.zero)
  have HB1 := hid hb
  have HQ : Hid (q ≤ 32) := hid (by have := HLE.out; omega)
  have hqi : (q : Int) ≤ 32 := by have := HQ.out; omega
  rw [HD.out] at HR
  have HLN := hid HR.out.1
  clear ho hb hq
  go_wp2_with fail
  go_loopg [5, 11] q (fun s a5 i wr => ∃ (k : Nat) (A : Option Addr) (kk cc : Nat), a5 = .slice A kk cc ∧ i = .int .i64 k ∧ k ≤ q ∧ s = q - k ∧ Own wr w1.heap.size A kk cc (idsOf zs (D.take k)) ∧ Below w1.heap.size w1 wr)
  case atStart => exact ⟨0, none, 0, 0, rfl, rfl, Nat.zero_le _, by omega, Own.nil _ _, Below.refl _ _⟩
  case round =>
    obtain ⟨k, A, kk, cc, rfl, rfl, hk, hs, ho, hb⟩ := hrel
    have HS := hid hs
    have HO := hid ho
    have HB := hid hb
    have HKK : Hid (kk ≤ 32) := hid (by have h1 := ho.len; have h2 := idsOf_len zs (D.take k); have := HQ.out; rw [List.length_take] at h2; omega)
    clear hs ho hb
    by_cases hkn : k < q
    · have hki : (k : Int) < q := by omega
      have hk0 : (0 : Int) ≤ k := by omega
      obtain ⟨bb, off, hA, _, hc⟩ := (HR.out.below HB.out).2 (by omega)
      injection hA with hA
      injection hA with e1 e2
      subst e1 e2
      obtain ⟨p0, p1, p2, p3, p4, p5⟩ := Tk.of _ (hc k hkn)
      have HST := hid (idsOf_step zs D (k := k) (by have := HLN.out; omega))
      generalize D.getD k Tk.zero = y at *
      simp only [Nat.zero_add] at p0 p1 p2 p3 p4 p5
      clear hc
      have hal := (Below.refl wr.heap.size wr).alloc (Nat.le_refl _) (.cells #[.int .i64 y.i, .int .u8 y.s, .int .i64 y.c, .int .u32 y.w, .int .u64 y.n, .int .i64 y.l] 60)
      have HYv : Hid (Cs (wr.alloc (.cells #[.int .i64 y.i, .int .u8 y.s, .int .i64 y.c, .int .u32 y.w, .int .u64 y.n, .int .i64 y.l] 60)) wr.heap.size y.cells) := hid (Tk.new wr 60 y)
      have HO2 := hid (HO.out.below hal)
      have HB2 := hid (below_on HB.out hal)
      clear hal
      go_upto_region 5 with fail
      generalize (wr.alloc (.cells #[.int .i64 y.i, .int .u8 y.s, .int .i64 y.c, .int .u32 y.w, .int .u64 y.n, .int .i64 y.l] 60)) = W1 at HYv HO2 HB2 ⊢
      clear p0 p1 p2 p3 p4 p5
      obtain ⟨x0, x1, x2, x3, x4, x5⟩ := Tk.at y HYv.out
      go_wp2_with fail
      refine (Sls.containsU8 B m d zs y.s _ ((HZ.out.below HB1.out).below HB2.out) hm).mono ?_
      rintro e w2 ⟨rfl, hb⟩
      have HO3 := hid (HO2.out.below hb)
      have HB3 := hid (below_on HB2.out hb)
      have HYv3 := hid (HYv.out.below hb)
      clear hb x0 x1 x2 x3 x4 x5 HO2 HB2 HYv
      cases hcn : zs.contains y.s with
      | true =>
        rw [hcn, if_pos rfl] at HST
        obtain ⟨x0, x1, x2, x3, x4, x5⟩ := Tk.at y HYv3.out
        have hkk : kk ≤ 4000000 := by have := HKK.out; omega
        have ha := (Below.refl w2.heap.size w2).alloc (Nat.le_refl _) (.cells #[.int .i64 y.i] 3)
        have ho4 := HO3.out.below ha
        have hs4 : w1.heap.size ≤ (w2.alloc (.cells #[.int .i64 y.i] 3)).heap.size := Nat.le_trans HB3.out.size ha.size
        have hc4 : (w2.alloc (.cells #[.int .i64 y.i] 3)).cell? ⟨w2.heap.size, 0, none⟩ = some (.int .i64 y.i) := by simp
        clear hcn
        go_wp2_with (first
          | (at_builtin; (with_reducible refine wpList_append_int _ rfl (.tmp 19) (.tmp 22) rfl w1.heap.size A kk cc (idsOf zs (D.take k)) ?sa1 ho4 w2.heap.size y.i ?sa2 hc4 hkk hs4 ?sa3); (case sa1 => rfl); (case sa2 => rfl); (intro A5 c5 w5 ho5 hg5); (have hc5 := Chg.grown hg5); (have HO5 := hid (show Own w5 w1.heap.size A5 (kk + 1) c5 (idsOf zs (D.take (k + 1))) by rw [HST.out]; exact ho5)); (have HB5 := hid (show Below w1.heap.size w1 w5 from (below_on HB3.out ha).trans (hc5.toBelow (Nat.le_trans HB3.out.size ha.size) (fun j hj => (HO3.out.rowIn j hj).1))))
            ; (clear ho5 hc5 hg5 ho4 hs4 hc4 ha))
          | fail)
        go_roundg (q - (k + 1))
        case measure => have := HS.out; omega
        case rel => exact ⟨k + 1, A5, kk + 1, c5, rfl, by go_num, by omega, rfl, HO5.out, HB5.out⟩
      | false =>
        rw [hcn, if_neg (by decide), List.append_nil] at HST
        have HO5 := hid (show Own w2 w1.heap.size A kk cc (idsOf zs (D.take (k + 1))) by rw [HST.out]; exact HO3.out)
        clear hcn
        go_wp2_with fail
        go_roundg (q - (k + 1))
        case measure => have := HS.out; omega
        case rel => exact ⟨k + 1, A, kk, cc, rfl, by go_num, by omega, rfl, HO5.out, HB3.out⟩
    · have hki : ¬ (k : Int) < q := by omega
      have HFIN : Hid (Own wr w1.heap.size A kk cc (idsOf zs D)) := hid (by have h := HO.out; rwa [List.take_of_length_le (by have := HLN.out; omega)] at h)
      go_wp2_with fail
      go_ret
      refine ⟨A, kk, cc, rfl, ?_, below_on HB1.out HB.out⟩
      exact ownI_mono HFIN.out HB1.out.size
end

/- A table of one's own, by its places: what each call does, one way. -/
section
open Go.RowKit
/-- A table of one's own. -/
structure TV (w : World) (th : Nat) (A : Option Addr) (n c : Nat) (L : List Tk) (W : World) : Prop where
  t : TAt W w.heap.size th A n c L
  b : Below w.heap.size w W
theorem TV.below {w W W' : World} {th : Nat} {A : Option Addr} {n c : Nat} {L : List Tk} (h : TV w th A n c L W) (hb : Below W.heap.size W W') : TV w th A n c L W' := ⟨h.t.below hb, below_on h.b hb⟩
theorem TV.put {w W W' : World} {th : Nat} {A : Option Addr} {n c : Nat} {L M : List Tk} {v : Value} {e : Ending} (h : TV w th A n c L W) (hp : Putted w.heap.size A n c M v W e W') : TV w th A n c M W' :=
  ⟨hp.tat h.t, h.b.trans (hp.2.2.toBelow h.b.size (fun g hg => (h.t.row.rowGe g hg).1))⟩
theorem TV.notin {w W : World} {th : Nat} {A : Option Addr} {n c : Nat} {L : List Tk} (h : TV w th A n c L W) {g : Nat} (hg : W.heap.size ≤ g) : g ∉ rowOf A := fun hm => by have := (h.t.row.rowGe g hm).2; omega
theorem TV.far {w W W2 : World} {th : Nat} {A : Option Addr} {n c : Nat} {L : List Tk} (h : TV w th A n c L W) (h2 : TV w th A n c L W2) {g : Nat} (hg : W.heap.size ≤ g) (o : Nat) (u : Value) : TV w th A n c L (W2.setCell ⟨g, o, none⟩ u) := by
  have hth : th < W.heap.size := World.block_lt_of_cell? W _ (h.t.cs 0 _ rfl).1
  have hc : Chg [g] W2 (W2.setCell ⟨g, o, none⟩ u) := (Chg.refl [g] W2).set (Or.inl (by simp)) o u
  refine ⟨h2.t.chg hc (fun j hj hm => ?_) (by simp; omega), h2.b.setCell (Nat.le_trans h.b.size hg) u⟩
  simp at hm
  subst hm
  have := (h.t.row.rowGe j hj).2
  omega
def dropL (L : List Tk) (id : Int) : List Tk := match tfind L id with
  | some j => L.set j Tk.zero
  | none => L
def dropE (L : List Tk) (id : Int) : Int := match tfind L id with
  | some _ => 0
  | none => 4
def sttL (L : List Tk) (x : Tk) : List Tk := if x.ok = true then match tfind L x.i with
  | some j => L.set j x
  | none => L
  else L
def taskX (L : List Tk) (id : Int) : Tk := match tfind L id with
  | some j => L.getD j Tk.zero
  | none => Tk.zero
def addL (L : List Tk) (x : Tk) : List Tk := if x.ok = true then if lf L 0 = 0 then L else L.set (lf L 0 - 1).toNat { x with i := lf L 0 } else L
def addI (L : List Tk) (x : Tk) : Int := if x.ok = true then lf L 0 else 0
def addE (L : List Tk) (x : Tk) : Int := if x.ok = true then if lf L 0 = 0 then 7 else 0 else 2
theorem Tab.dropV {w W : World} {th : Nat} {A : Option Addr} {n c : Nat} {L : List Tk} (h : TV w th A n c L W) (id : Int) : Calls Tryz.prog 36 #[.pointer (some ⟨th, 0, none⟩), .int .i64 id] W fun e W' => e = .returned (.int .i64 (dropE L id)) ∧ TV w th A n c (dropL L id) W' ∧ Chg (rowOf A) W W' := by
  unfold dropE dropL
  cases hf : tfind L id with
  | some j =>
    refine (Tab.drop_yes _ th A n c L id j W h.t hf).mono ?_
    intro e W' hp
    exact ⟨hp.1, h.put hp, hp.2.2⟩
  | none =>
    refine (Tab.drop_no _ th A n c L id W h.t hf).mono ?_
    rintro e W' ⟨rfl, hb⟩
    exact ⟨rfl, h.below hb, Chg.below hb⟩
theorem Tab.addV {w W : World} {th : Nat} {A : Option Addr} {n c : Nat} {L : List Tk} (h : TV w th A n c L W) (x : Tk) : Calls Tryz.prog 39 #[.pointer (some ⟨th, 0, none⟩), x.val] W fun e W' => e = .returned (.tuple #[.int .i64 (addI L x), .int .i64 (addE L x)]) ∧ TV w th A n c (addL L x) W' ∧ Chg (rowOf A) W W' := by
  unfold addI addE addL
  by_cases hx : x.ok = true
  · rw [if_pos hx, if_pos hx, if_pos hx]
    have hl := h.t.len
    rcases lf_spec L with ⟨h1, h2⟩ | ⟨j, h1, h2, h3, h4⟩
    · rw [h1, if_pos rfl, if_pos rfl]
      refine (Tab.add_full _ th A n c L x W hx h.t (fun j hj => h2 j (by omega))).mono ?_
      rintro e W' ⟨rfl, hb⟩
      exact ⟨rfl, h.below hb, Chg.below hb⟩
    · have hne : ¬ lf L 0 = 0 := by omega
      rw [if_neg hne, if_neg hne]
      have e1 : (lf L 0 - 1).toNat = j := by omega
      rw [e1, h2]
      refine (Tab.add_yes _ th A n c L x j W hx h.t (by omega) h4 h3).mono ?_
      intro e W' hp
      exact ⟨hp.1, h.put hp, hp.2.2⟩
  · rw [if_neg hx, if_neg hx, if_neg hx]
    refine (Tab.add_bad 0 th A n c L x W (by simpa using hx)).mono ?_
    rintro e W' ⟨rfl, hb⟩
    exact ⟨rfl, h.below hb, Chg.below hb⟩
theorem Tab.taskV {W : World} {base th : Nat} {A : Option Addr} {n c : Nat} {L : List Tk} (h : TAt W base th A n c L) (id : Int) : Calls Tryz.prog 42 #[.pointer (some ⟨th, 0, none⟩), .int .i64 id] W (Ans (.tuple #[(taskX L id).val, .int .i64 (dropE L id)]) W) := by
  unfold dropE taskX
  cases hf : tfind L id with
  | some j => exact Tab.task_yes _ th A n c L id j _ W h hf rfl
  | none => exact Tab.task_no _ th A n c L id W h hf
theorem TInv.drop {L : List Tk} (h : TInv L) (id : Int) : TInv (dropL L id) := by
  unfold dropL
  split
  · exact h.set _ (.inl rfl)
  · exact h
theorem TInv.put {L : List Tk} (h : TInv L) (x : Tk) : TInv (sttL L x) := by
  unfold sttL
  split
  · rename_i hx
    split
    · rename_i j hf
      exact h.set _ (.inr ⟨(tfind_some hf).1, hx⟩)
    · exact h
  · exact h
theorem TInv.add {L : List Tk} (h : TInv L) (x : Tk) : TInv (addL L x) := by
  unfold addL
  split
  · rename_i hx
    split
    · exact h
    · rename_i hne
      rcases lf_spec L with ⟨h1, _⟩ | ⟨j, h1, h2, _, _⟩
      · exact absurd h1 hne
      · refine h.set _ (.inr ⟨by simp only; omega, ?_⟩)
        simpa [Tk.ok] using hx
  · exact h
theorem kept_mem {L : List Tk} (h : TInv L) {y : Tk} (hy : y ∈ L.filter keep) : ∃ j : Nat, j < L.length ∧ L.getD j Tk.zero = y ∧ y.i = (j : Int) + 1 ∧ y.s ≠ 0 ∧ y.ok = true ∧ tfind L y.i = some j := by
  obtain ⟨h1, h2⟩ := List.mem_filter.1 hy
  obtain ⟨k, hk⟩ := List.mem_iff_getElem?.1 h1
  have hkl := (List.getElem?_eq_some_iff.1 hk).1
  have hg : L.getD k Tk.zero = y := by simp [List.getD, hk]
  have hs : y.s ≠ 0 := keep_s h2
  have ha := h.at hkl (by rw [hg]; exact hs)
  rw [hg] at ha
  refine ⟨k, hkl, hg, ha.1, hs, ha.2, ?_⟩
  rw [ha.1, tfind_at hkl, hg, if_neg hs]
end

end Go.Proofs.YtegohmeapamoaaaGreatDoor

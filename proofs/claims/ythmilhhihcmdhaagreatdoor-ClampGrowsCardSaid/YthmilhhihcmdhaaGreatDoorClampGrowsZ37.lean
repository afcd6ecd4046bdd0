/- Texts of ClampGrows's proof, together. -/
import Derived.Test.YthmilhhihcmdhaaGreatDoorClampGrowsZ36
import Derived.Test.YthmilhhihcmdhaaGreatDoorClampGrowsZ25
namespace Go.Proofs.YthmilhhihcmdhaaGreatDoor
/- The tree of items: is a thing there? -/
section
open Go.RowKit
/-- A whole tree lies here. -/
def DTreeAt (w : World) (th : Nat) (t : Tr It) : Prop := DEnv w th (ptr t) t.list.length ∧ DIn w t ∧ t.blocks.Nodup
theorem DTreeAt.below {w w' : World} {th : Nat} {t : Tr It} (h : DTreeAt w th t) (hb : Below w.heap.size w w') : DTreeAt w' th t := ⟨h.1.below hb, h.2.1.below hb, h.2.2⟩
set_option maxRecDepth 100000 in
set_option maxHeartbeats 4000000 in
theorem Dt.has (th : Nat) (t : Tr It) (x : It) (hx : x.In) (w : World) (h : DTreeAt w th t) :
    Calls Tryz.prog 151 #[.pointer (some ⟨th, 0, none⟩), x.val] w (Ans (.bool (Tr.has It.ahead x t)) w) := by
  have hb0 := (Below.refl w.heap.size w).alloc (Nat.le_refl _) (.cells #[.int .u64 x.t, .int .u32 x.r, .int .u32 x.v, .int .i64 x.i, .int .u64 x.u, .int .u32 x.s, .int .u32 x.y] 143)
  have HT := hid (h.below hb0)
  have HXI := hid hx
  have HX0 : Hid (Th (w.alloc (.cells #[.int .u64 x.t, .int .u32 x.r, .int .u32 x.v, .int .i64 x.i, .int .u64 x.u, .int .u32 x.s, .int .u32 x.y] 143)) w.heap.size x) := hid (Cs.new7 w _ x).th7
  have HB0 := hid hb0
  obtain ⟨_, _, t0, _⟩ := HT.out.1
  have e3 := t0.at3
  have HL := hid t0.at0
  clear t0 h hx hb0
  unfold It.val
  go_enter Tryz.func151, Tryz.ntmps151
  go_wp2_with fail
  generalize (w.alloc (.cells #[.int .u64 x.t, .int .u32 x.r, .int .u32 x.v, .int .i64 x.i, .int .u64 x.u, .int .u32 x.s, .int .u32 x.y] 143)) = W0 at HT HX0 HB0 HL e3 ⊢
  go_loopg [5] t.size (fun s a wr => Below W0.heap.size W0 wr ∧ ∃ u : Tr It, a = ptr u ∧ s = u.size ∧ DIn W0 u ∧ Tr.has It.ahead x u = Tr.has It.ahead x t)
  case atStart => exact ⟨Below.refl _ _, t, rfl, rfl, HT.out.2.1, rfl⟩
  case round =>
    obtain ⟨hb, u, rfl, hs, hi, he⟩ := hrel
    have HB := hid hb
    have HS := hid hs
    have HE := hid he
    have HI := hid (hi.below hb)
    have HIw := hid hi
    have HEwr := hid (keep1 hb HL.out)
    have HXwr := hid (HX0.out.below hb)
    clear hb hs he hi
    cases u with
    | nil =>
      simp only [ptr_nil]
      go_wp2_with fail
      go_ret
      exact ⟨by rw [← HE.out]; rfl, below_on HB0.out HB.out⟩
    | node g c l y r =>
      obtain ⟨⟨v, hv, hc⟩, hl, hr⟩ := id HI.out
      have HPwr := hid hc.th
      have HC2 := hid hc.nd2
      have HC3 := hid hc.nd3
      have HYI := hid hv.2.2
      clear hc hl hr hv
      simp only [ptr_node]
      have HQ : Hid (Tr.has It.ahead x (.node g c l y r) = if It.ahead x y then Tr.has It.ahead x l else if It.ahead y x then Tr.has It.ahead x r else true) := hid rfl
      cases h1 : It.ahead x y with
      | true =>
        have H1 := hid h1
        clear h1
        go_wp2_with fail
        refine wp_region_steady (S := Bl wr) 9 (by kernel_rfl) (Bl.drew wr) ?_
        refine wpAnyU_take (i := 0) (v := ?_) rfl (by kernel_rfl) (by kernel_rfl) (by kernel_rfl) (by kernel_rfl) (fun _ _ _ h => h) (Steady.of_yields (Or.inl ⟨by rfl, ?_⟩)) ?_
        rotate_left
        · intro wq hSw
          go_simp
          (try with_reducible rfl)
        try simp only [List.getElem_toArray, List.getElem_cons_zero, List.getElem_cons_succ, Act.put, List.setIfInBounds_toArray, List.set_cons_zero, List.set_cons_succ]
        refine wpAnyU_take (i := 1) (v := ?_) rfl (by kernel_rfl) (by kernel_rfl) (by kernel_rfl) (by kernel_rfl) (fun _ _ _ h => h) (Steady.of_yields (Or.inl ⟨by rfl, ?_⟩)) ?_
        rotate_left
        · intro wq hSw
          go_simp
          (try with_reducible rfl)
        try simp only [List.getElem_toArray, List.getElem_cons_zero, List.getElem_cons_succ, Act.put, List.setIfInBounds_toArray, List.set_cons_zero, List.set_cons_succ]
        refine wpAnyU_take (i := 2) (v := ?_) rfl (by kernel_rfl) (by kernel_rfl) (by kernel_rfl) (by kernel_rfl) (fun _ _ _ h => h) (Steady.of_yields (Or.inl ⟨by rfl, ?_⟩)) ?_
        rotate_left
        · intro wq hSw
          go_simp
          (try with_reducible rfl)
        try simp only [List.getElem_toArray, List.getElem_cons_zero, List.getElem_cons_succ, Act.put, List.setIfInBounds_toArray, List.set_cons_zero, List.set_cons_succ]
        refine wpAnyU_take (i := 3) (v := ?_) rfl (by kernel_rfl) (by kernel_rfl) (by kernel_rfl) (by kernel_rfl) (fun _ _ _ h => h) (Steady.of_yields (Or.inl ⟨by rfl, ?_⟩)) ?_
        rotate_left
        · intro wq hSw
          have hSB : Below _ _ _ := hSw
          have q0 := keep1 hSB HEwr.out
          obtain ⟨p0, p1, p2, p3, p4, p5, p6⟩ := HPwr.out.below hSB
          obtain ⟨m0, m1, m2, m3, m4, m5, m6⟩ := HXwr.out.below hSB
          go_simp
          (try with_reducible rfl)
        try simp only [List.getElem_toArray, List.getElem_cons_zero, List.getElem_cons_succ, Act.put, List.setIfInBounds_toArray, List.set_cons_zero, List.set_cons_succ]
        refine wpAnyU_take (i := 4) (v := ?_) rfl (by kernel_rfl) (by kernel_rfl) (by kernel_rfl) (by kernel_rfl) (fun _ _ _ h => h) (Steady.of_yields (Or.inl ⟨by rfl, ?_⟩)) ?_
        rotate_left
        · intro wq hSw
          have hSB : Below _ _ _ := hSw
          have q0 := keep1 hSB HEwr.out
          obtain ⟨p0, p1, p2, p3, p4, p5, p6⟩ := HPwr.out.below hSB
          obtain ⟨m0, m1, m2, m3, m4, m5, m6⟩ := HXwr.out.below hSB
          go_simp
          (try with_reducible rfl)
        try simp only [List.getElem_toArray, List.getElem_cons_zero, List.getElem_cons_succ, Act.put, List.setIfInBounds_toArray, List.set_cons_zero, List.set_cons_succ]
        refine wpAnyU_take (i := 5) (v := ?_) rfl (by kernel_rfl) (by kernel_rfl) (by kernel_rfl) (by kernel_rfl) (fun _ _ _ h => h) (Steady.of_yields (Or.inl ⟨by rfl, ?_⟩)) ?_
        rotate_left
        · intro wq hSw
          go_simp
          (try with_reducible rfl)
        try simp only [List.getElem_toArray, List.getElem_cons_zero, List.getElem_cons_succ, Act.put, List.setIfInBounds_toArray, List.set_cons_zero, List.set_cons_succ]
        refine wpAnyU_take (i := 6) (v := ?_) rfl (by kernel_rfl) (by kernel_rfl) (by kernel_rfl) (by kernel_rfl) (fun _ _ _ h => h) (Steady.of_yields (Or.inl ⟨by rfl, ?_⟩)) ?_
        rotate_left
        · intro wq hSw
          go_simp
          (try with_reducible rfl)
        try simp only [List.getElem_toArray, List.getElem_cons_zero, List.getElem_cons_succ, Act.put, List.setIfInBounds_toArray, List.set_cons_zero, List.set_cons_succ]
        refine wpAnyU_take (i := 7) (v := ?_) rfl (by kernel_rfl) (by kernel_rfl) (by kernel_rfl) (by kernel_rfl) (fun _ _ _ h => h) (Steady.of_yields (Or.inl ⟨by rfl, ?_⟩)) ?_
        rotate_left
        · intro wq hSw
          go_simp
          (try with_reducible rfl)
        try simp only [List.getElem_toArray, List.getElem_cons_zero, List.getElem_cons_succ, Act.put, List.setIfInBounds_toArray, List.set_cons_zero, List.set_cons_succ]
        refine wpAnyU_take (i := 8) (v := ?_) rfl (by kernel_rfl) (by kernel_rfl) (by kernel_rfl) (by kernel_rfl) (fun _ _ _ h => h) (Steady.of_yields (Or.inl ⟨by rfl, ?_⟩)) ?_
        rotate_left
        · intro wq hSw
          have hSB : Below _ _ _ := hSw
          have q0 := keep1 hSB HEwr.out
          obtain ⟨p0, p1, p2, p3, p4, p5, p6⟩ := HPwr.out.below hSB
          obtain ⟨m0, m1, m2, m3, m4, m5, m6⟩ := HXwr.out.below hSB
          go_simp
          (try with_reducible rfl)
        try simp only [List.getElem_toArray, List.getElem_cons_zero, List.getElem_cons_succ, Act.put, List.setIfInBounds_toArray, List.set_cons_zero, List.set_cons_succ]
        refine wpAnyU_rest (n := 9) rfl rfl (by kernel_rfl) (fun wz hSz => ?_)
        simp only [List.toList_toArray, List.drop_succ_cons, List.drop_zero]
        have HSz := hid hSz
        clear hSz
        go_wp2_with fail
        refine (Item.ahead x y HXI.out HYI.out _).mono ?_
        rintro e w1 ⟨rfl, hb1⟩
        rw [H1.out]
        have HB1 := hid (below_on HSz.out hb1)
        clear hb1
        have q := keep1 HB1.out HC2.out
        go_wp2_with fail
        go_roundg l.size
        case measure => have := HS.out; simp only [Tr.size] at this; omega
        case rel => exact ⟨below_on HB.out HB1.out, l, rfl, rfl, HIw.out.2.1, by rw [← HE.out, HQ.out, if_pos H1.out]⟩
      | false =>
        have H1 := hid h1
        clear h1
        go_wp2_with fail
        refine wp_region_steady (S := Bl wr) 9 (by kernel_rfl) (Bl.drew wr) ?_
        refine wpAnyU_take (i := 0) (v := ?_) rfl (by kernel_rfl) (by kernel_rfl) (by kernel_rfl) (by kernel_rfl) (fun _ _ _ h => h) (Steady.of_yields (Or.inl ⟨by rfl, ?_⟩)) ?_
        rotate_left
        · intro wq hSw
          go_simp
          (try with_reducible rfl)
        try simp only [List.getElem_toArray, List.getElem_cons_zero, List.getElem_cons_succ, Act.put, List.setIfInBounds_toArray, List.set_cons_zero, List.set_cons_succ]
        refine wpAnyU_take (i := 1) (v := ?_) rfl (by kernel_rfl) (by kernel_rfl) (by kernel_rfl) (by kernel_rfl) (fun _ _ _ h => h) (Steady.of_yields (Or.inl ⟨by rfl, ?_⟩)) ?_
        rotate_left
        · intro wq hSw
          go_simp
          (try with_reducible rfl)
        try simp only [List.getElem_toArray, List.getElem_cons_zero, List.getElem_cons_succ, Act.put, List.setIfInBounds_toArray, List.set_cons_zero, List.set_cons_succ]
        refine wpAnyU_take (i := 2) (v := ?_) rfl (by kernel_rfl) (by kernel_rfl) (by kernel_rfl) (by kernel_rfl) (fun _ _ _ h => h) (Steady.of_yields (Or.inl ⟨by rfl, ?_⟩)) ?_
        rotate_left
        · intro wq hSw
          go_simp
          (try with_reducible rfl)
        try simp only [List.getElem_toArray, List.getElem_cons_zero, List.getElem_cons_succ, Act.put, List.setIfInBounds_toArray, List.set_cons_zero, List.set_cons_succ]
        refine wpAnyU_take (i := 3) (v := ?_) rfl (by kernel_rfl) (by kernel_rfl) (by kernel_rfl) (by kernel_rfl) (fun _ _ _ h => h) (Steady.of_yields (Or.inl ⟨by rfl, ?_⟩)) ?_
        rotate_left
        · intro wq hSw
          have hSB : Below _ _ _ := hSw
          have q0 := keep1 hSB HEwr.out
          obtain ⟨p0, p1, p2, p3, p4, p5, p6⟩ := HPwr.out.below hSB
          obtain ⟨m0, m1, m2, m3, m4, m5, m6⟩ := HXwr.out.below hSB
          go_simp
          (try with_reducible rfl)
        try simp only [List.getElem_toArray, List.getElem_cons_zero, List.getElem_cons_succ, Act.put, List.setIfInBounds_toArray, List.set_cons_zero, List.set_cons_succ]
        refine wpAnyU_take (i := 4) (v := ?_) rfl (by kernel_rfl) (by kernel_rfl) (by kernel_rfl) (by kernel_rfl) (fun _ _ _ h => h) (Steady.of_yields (Or.inl ⟨by rfl, ?_⟩)) ?_
        rotate_left
        · intro wq hSw
          have hSB : Below _ _ _ := hSw
          have q0 := keep1 hSB HEwr.out
          obtain ⟨p0, p1, p2, p3, p4, p5, p6⟩ := HPwr.out.below hSB
          obtain ⟨m0, m1, m2, m3, m4, m5, m6⟩ := HXwr.out.below hSB
          go_simp
          (try with_reducible rfl)
        try simp only [List.getElem_toArray, List.getElem_cons_zero, List.getElem_cons_succ, Act.put, List.setIfInBounds_toArray, List.set_cons_zero, List.set_cons_succ]
        refine wpAnyU_take (i := 5) (v := ?_) rfl (by kernel_rfl) (by kernel_rfl) (by kernel_rfl) (by kernel_rfl) (fun _ _ _ h => h) (Steady.of_yields (Or.inl ⟨by rfl, ?_⟩)) ?_
        rotate_left
        · intro wq hSw
          go_simp
          (try with_reducible rfl)
        try simp only [List.getElem_toArray, List.getElem_cons_zero, List.getElem_cons_succ, Act.put, List.setIfInBounds_toArray, List.set_cons_zero, List.set_cons_succ]
        refine wpAnyU_take (i := 6) (v := ?_) rfl (by kernel_rfl) (by kernel_rfl) (by kernel_rfl) (by kernel_rfl) (fun _ _ _ h => h) (Steady.of_yields (Or.inl ⟨by rfl, ?_⟩)) ?_
        rotate_left
        · intro wq hSw
          go_simp
          (try with_reducible rfl)
        try simp only [List.getElem_toArray, List.getElem_cons_zero, List.getElem_cons_succ, Act.put, List.setIfInBounds_toArray, List.set_cons_zero, List.set_cons_succ]
        refine wpAnyU_take (i := 7) (v := ?_) rfl (by kernel_rfl) (by kernel_rfl) (by kernel_rfl) (by kernel_rfl) (fun _ _ _ h => h) (Steady.of_yields (Or.inl ⟨by rfl, ?_⟩)) ?_
        rotate_left
        · intro wq hSw
          go_simp
          (try with_reducible rfl)
        try simp only [List.getElem_toArray, List.getElem_cons_zero, List.getElem_cons_succ, Act.put, List.setIfInBounds_toArray, List.set_cons_zero, List.set_cons_succ]
        refine wpAnyU_take (i := 8) (v := ?_) rfl (by kernel_rfl) (by kernel_rfl) (by kernel_rfl) (by kernel_rfl) (fun _ _ _ h => h) (Steady.of_yields (Or.inl ⟨by rfl, ?_⟩)) ?_
        rotate_left
        · intro wq hSw
          have hSB : Below _ _ _ := hSw
          have q0 := keep1 hSB HEwr.out
          obtain ⟨p0, p1, p2, p3, p4, p5, p6⟩ := HPwr.out.below hSB
          obtain ⟨m0, m1, m2, m3, m4, m5, m6⟩ := HXwr.out.below hSB
          go_simp
          (try with_reducible rfl)
        try simp only [List.getElem_toArray, List.getElem_cons_zero, List.getElem_cons_succ, Act.put, List.setIfInBounds_toArray, List.set_cons_zero, List.set_cons_succ]
        refine wpAnyU_rest (n := 9) rfl rfl (by kernel_rfl) (fun wz hSz => ?_)
        simp only [List.toList_toArray, List.drop_succ_cons, List.drop_zero]
        have HSz := hid hSz
        clear hSz
        go_wp2_with fail
        refine (Item.ahead x y HXI.out HYI.out _).mono ?_
        rintro e w1 ⟨rfl, hb1⟩
        rw [H1.out]
        have HB1 := hid (below_on HSz.out hb1)
        have HEw1 := hid (keep1 HB1.out HEwr.out)
        have HXw1 := hid (HXwr.out.below HB1.out)
        have HPw1 := hid (HPwr.out.below HB1.out)
        clear hb1 HSz
        cases h2 : It.ahead y x with
        | true =>
          have H2 := hid h2
          clear h2
          go_wp2_with fail
          refine wp_region_steady (S := Bl w1) 9 (by kernel_rfl) (Bl.drew w1) ?_
          refine wpAnyU_take (i := 0) (v := ?_) rfl (by kernel_rfl) (by kernel_rfl) (by kernel_rfl) (by kernel_rfl) (fun _ _ _ h => h) (Steady.of_yields (Or.inl ⟨by rfl, ?_⟩)) ?_
          rotate_left
          · intro wq hSw
            go_simp
            (try with_reducible rfl)
          try simp only [List.getElem_toArray, List.getElem_cons_zero, List.getElem_cons_succ, Act.put, List.setIfInBounds_toArray, List.set_cons_zero, List.set_cons_succ]
          refine wpAnyU_take (i := 1) (v := ?_) rfl (by kernel_rfl) (by kernel_rfl) (by kernel_rfl) (by kernel_rfl) (fun _ _ _ h => h) (Steady.of_yields (Or.inl ⟨by rfl, ?_⟩)) ?_
          rotate_left
          · intro wq hSw
            go_simp
            (try with_reducible rfl)
          try simp only [List.getElem_toArray, List.getElem_cons_zero, List.getElem_cons_succ, Act.put, List.setIfInBounds_toArray, List.set_cons_zero, List.set_cons_succ]
          refine wpAnyU_take (i := 2) (v := ?_) rfl (by kernel_rfl) (by kernel_rfl) (by kernel_rfl) (by kernel_rfl) (fun _ _ _ h => h) (Steady.of_yields (Or.inl ⟨by rfl, ?_⟩)) ?_
          rotate_left
          · intro wq hSw
            go_simp
            (try with_reducible rfl)
          try simp only [List.getElem_toArray, List.getElem_cons_zero, List.getElem_cons_succ, Act.put, List.setIfInBounds_toArray, List.set_cons_zero, List.set_cons_succ]
          refine wpAnyU_take (i := 3) (v := ?_) rfl (by kernel_rfl) (by kernel_rfl) (by kernel_rfl) (by kernel_rfl) (fun _ _ _ h => h) (Steady.of_yields (Or.inl ⟨by rfl, ?_⟩)) ?_
          rotate_left
          · intro wq hSw
            have hSB : Below _ _ _ := hSw
            have q0 := keep1 hSB HEw1.out
            obtain ⟨p0, p1, p2, p3, p4, p5, p6⟩ := HPw1.out.below hSB
            obtain ⟨m0, m1, m2, m3, m4, m5, m6⟩ := HXw1.out.below hSB
            go_simp
            (try with_reducible rfl)
          try simp only [List.getElem_toArray, List.getElem_cons_zero, List.getElem_cons_succ, Act.put, List.setIfInBounds_toArray, List.set_cons_zero, List.set_cons_succ]
          refine wpAnyU_take (i := 4) (v := ?_) rfl (by kernel_rfl) (by kernel_rfl) (by kernel_rfl) (by kernel_rfl) (fun _ _ _ h => h) (Steady.of_yields (Or.inl ⟨by rfl, ?_⟩)) ?_
          rotate_left
          · intro wq hSw
            go_simp
            (try with_reducible rfl)
          try simp only [List.getElem_toArray, List.getElem_cons_zero, List.getElem_cons_succ, Act.put, List.setIfInBounds_toArray, List.set_cons_zero, List.set_cons_succ]
          refine wpAnyU_take (i := 5) (v := ?_) rfl (by kernel_rfl) (by kernel_rfl) (by kernel_rfl) (by kernel_rfl) (fun _ _ _ h => h) (Steady.of_yields (Or.inl ⟨by rfl, ?_⟩)) ?_
          rotate_left
          · intro wq hSw
            go_simp
            (try with_reducible rfl)
          try simp only [List.getElem_toArray, List.getElem_cons_zero, List.getElem_cons_succ, Act.put, List.setIfInBounds_toArray, List.set_cons_zero, List.set_cons_succ]
          refine wpAnyU_take (i := 6) (v := ?_) rfl (by kernel_rfl) (by kernel_rfl) (by kernel_rfl) (by kernel_rfl) (fun _ _ _ h => h) (Steady.of_yields (Or.inl ⟨by rfl, ?_⟩)) ?_
          rotate_left
          · intro wq hSw
            go_simp
            (try with_reducible rfl)
          try simp only [List.getElem_toArray, List.getElem_cons_zero, List.getElem_cons_succ, Act.put, List.setIfInBounds_toArray, List.set_cons_zero, List.set_cons_succ]
          refine wpAnyU_take (i := 7) (v := ?_) rfl (by kernel_rfl) (by kernel_rfl) (by kernel_rfl) (by kernel_rfl) (fun _ _ _ h => h) (Steady.of_yields (Or.inl ⟨by rfl, ?_⟩)) ?_
          rotate_left
          · intro wq hSw
            have hSB : Below _ _ _ := hSw
            have q0 := keep1 hSB HEw1.out
            obtain ⟨p0, p1, p2, p3, p4, p5, p6⟩ := HPw1.out.below hSB
            obtain ⟨m0, m1, m2, m3, m4, m5, m6⟩ := HXw1.out.below hSB
            go_simp
            (try with_reducible rfl)
          try simp only [List.getElem_toArray, List.getElem_cons_zero, List.getElem_cons_succ, Act.put, List.setIfInBounds_toArray, List.set_cons_zero, List.set_cons_succ]
          refine wpAnyU_take (i := 8) (v := ?_) rfl (by kernel_rfl) (by kernel_rfl) (by kernel_rfl) (by kernel_rfl) (fun _ _ _ h => h) (Steady.of_yields (Or.inl ⟨by rfl, ?_⟩)) ?_
          rotate_left
          · intro wq hSw
            have hSB : Below _ _ _ := hSw
            have q0 := keep1 hSB HEw1.out
            obtain ⟨p0, p1, p2, p3, p4, p5, p6⟩ := HPw1.out.below hSB
            obtain ⟨m0, m1, m2, m3, m4, m5, m6⟩ := HXw1.out.below hSB
            go_simp
            (try with_reducible rfl)
          try simp only [List.getElem_toArray, List.getElem_cons_zero, List.getElem_cons_succ, Act.put, List.setIfInBounds_toArray, List.set_cons_zero, List.set_cons_succ]
          refine wpAnyU_rest (n := 9) rfl rfl (by kernel_rfl) (fun wz hSz => ?_)
          simp only [List.toList_toArray, List.drop_succ_cons, List.drop_zero]
          have HSz := hid hSz
          clear hSz
          go_wp2_with fail
          refine (Item.ahead y x HYI.out HXI.out _).mono ?_
          rintro e w2 ⟨rfl, hb2⟩
          rw [H2.out]
          have HB2 := hid (below_on HB1.out (below_on HSz.out hb2))
          clear hb2
          have q := keep1 HB2.out HC3.out
          go_wp2_with fail
          go_roundg r.size
          case measure => have := HS.out; simp only [Tr.size] at this; omega
          case rel => exact ⟨below_on HB.out HB2.out, r, rfl, rfl, HIw.out.2.2, by rw [← HE.out, HQ.out, if_neg (by rw [H1.out]; simp), if_pos H2.out]⟩
        | false =>
          have H2 := hid h2
          clear h2
          go_wp2_with fail
          refine wp_region_steady (S := Bl w1) 9 (by kernel_rfl) (Bl.drew w1) ?_
          refine wpAnyU_take (i := 0) (v := ?_) rfl (by kernel_rfl) (by kernel_rfl) (by kernel_rfl) (by kernel_rfl) (fun _ _ _ h => h) (Steady.of_yields (Or.inl ⟨by rfl, ?_⟩)) ?_
          rotate_left
          · intro wq hSw
            go_simp
            (try with_reducible rfl)
          try simp only [List.getElem_toArray, List.getElem_cons_zero, List.getElem_cons_succ, Act.put, List.setIfInBounds_toArray, List.set_cons_zero, List.set_cons_succ]
          refine wpAnyU_take (i := 1) (v := ?_) rfl (by kernel_rfl) (by kernel_rfl) (by kernel_rfl) (by kernel_rfl) (fun _ _ _ h => h) (Steady.of_yields (Or.inl ⟨by rfl, ?_⟩)) ?_
          rotate_left
          · intro wq hSw
            go_simp
            (try with_reducible rfl)
          try simp only [List.getElem_toArray, List.getElem_cons_zero, List.getElem_cons_succ, Act.put, List.setIfInBounds_toArray, List.set_cons_zero, List.set_cons_succ]
          refine wpAnyU_take (i := 2) (v := ?_) rfl (by kernel_rfl) (by kernel_rfl) (by kernel_rfl) (by kernel_rfl) (fun _ _ _ h => h) (Steady.of_yields (Or.inl ⟨by rfl, ?_⟩)) ?_
          rotate_left
          · intro wq hSw
            go_simp
            (try with_reducible rfl)
          try simp only [List.getElem_toArray, List.getElem_cons_zero, List.getElem_cons_succ, Act.put, List.setIfInBounds_toArray, List.set_cons_zero, List.set_cons_succ]
          refine wpAnyU_take (i := 3) (v := ?_) rfl (by kernel_rfl) (by kernel_rfl) (by kernel_rfl) (by kernel_rfl) (fun _ _ _ h => h) (Steady.of_yields (Or.inl ⟨by rfl, ?_⟩)) ?_
          rotate_left
          · intro wq hSw
            have hSB : Below _ _ _ := hSw
            have q0 := keep1 hSB HEw1.out
            obtain ⟨p0, p1, p2, p3, p4, p5, p6⟩ := HPw1.out.below hSB
            obtain ⟨m0, m1, m2, m3, m4, m5, m6⟩ := HXw1.out.below hSB
            go_simp
            (try with_reducible rfl)
          try simp only [List.getElem_toArray, List.getElem_cons_zero, List.getElem_cons_succ, Act.put, List.setIfInBounds_toArray, List.set_cons_zero, List.set_cons_succ]
          refine wpAnyU_take (i := 4) (v := ?_) rfl (by kernel_rfl) (by kernel_rfl) (by kernel_rfl) (by kernel_rfl) (fun _ _ _ h => h) (Steady.of_yields (Or.inl ⟨by rfl, ?_⟩)) ?_
          rotate_left
          · intro wq hSw
            go_simp
            (try with_reducible rfl)
          try simp only [List.getElem_toArray, List.getElem_cons_zero, List.getElem_cons_succ, Act.put, List.setIfInBounds_toArray, List.set_cons_zero, List.set_cons_succ]
          refine wpAnyU_take (i := 5) (v := ?_) rfl (by kernel_rfl) (by kernel_rfl) (by kernel_rfl) (by kernel_rfl) (fun _ _ _ h => h) (Steady.of_yields (Or.inl ⟨by rfl, ?_⟩)) ?_
          rotate_left
          · intro wq hSw
            go_simp
            (try with_reducible rfl)
          try simp only [List.getElem_toArray, List.getElem_cons_zero, List.getElem_cons_succ, Act.put, List.setIfInBounds_toArray, List.set_cons_zero, List.set_cons_succ]
          refine wpAnyU_take (i := 6) (v := ?_) rfl (by kernel_rfl) (by kernel_rfl) (by kernel_rfl) (by kernel_rfl) (fun _ _ _ h => h) (Steady.of_yields (Or.inl ⟨by rfl, ?_⟩)) ?_
          rotate_left
          · intro wq hSw
            go_simp
            (try with_reducible rfl)
          try simp only [List.getElem_toArray, List.getElem_cons_zero, List.getElem_cons_succ, Act.put, List.setIfInBounds_toArray, List.set_cons_zero, List.set_cons_succ]
          refine wpAnyU_take (i := 7) (v := ?_) rfl (by kernel_rfl) (by kernel_rfl) (by kernel_rfl) (by kernel_rfl) (fun _ _ _ h => h) (Steady.of_yields (Or.inl ⟨by rfl, ?_⟩)) ?_
          rotate_left
          · intro wq hSw
            have hSB : Below _ _ _ := hSw
            have q0 := keep1 hSB HEw1.out
            obtain ⟨p0, p1, p2, p3, p4, p5, p6⟩ := HPw1.out.below hSB
            obtain ⟨m0, m1, m2, m3, m4, m5, m6⟩ := HXw1.out.below hSB
            go_simp
            (try with_reducible rfl)
          try simp only [List.getElem_toArray, List.getElem_cons_zero, List.getElem_cons_succ, Act.put, List.setIfInBounds_toArray, List.set_cons_zero, List.set_cons_succ]
          refine wpAnyU_take (i := 8) (v := ?_) rfl (by kernel_rfl) (by kernel_rfl) (by kernel_rfl) (by kernel_rfl) (fun _ _ _ h => h) (Steady.of_yields (Or.inl ⟨by rfl, ?_⟩)) ?_
          rotate_left
          · intro wq hSw
            have hSB : Below _ _ _ := hSw
            have q0 := keep1 hSB HEw1.out
            obtain ⟨p0, p1, p2, p3, p4, p5, p6⟩ := HPw1.out.below hSB
            obtain ⟨m0, m1, m2, m3, m4, m5, m6⟩ := HXw1.out.below hSB
            go_simp
            (try with_reducible rfl)
          try simp only [List.getElem_toArray, List.getElem_cons_zero, List.getElem_cons_succ, Act.put, List.setIfInBounds_toArray, List.set_cons_zero, List.set_cons_succ]
          refine wpAnyU_rest (n := 9) rfl rfl (by kernel_rfl) (fun wz hSz => ?_)
          simp only [List.toList_toArray, List.drop_succ_cons, List.drop_zero]
          have HSz := hid hSz
          clear hSz
          go_wp2_with fail
          refine (Item.ahead y x HYI.out HXI.out _).mono ?_
          rintro e w2 ⟨rfl, hb2⟩
          rw [H2.out]
          have HB2 := hid (below_on HB1.out (below_on HSz.out hb2))
          clear hb2
          go_wp2_with fail
          go_ret
          exact ⟨by rw [← HE.out, HQ.out, if_neg (by rw [H1.out]; simp), if_neg (by rw [H2.out]; simp)]; rfl, below_on HB0.out (below_on HB.out HB2.out)⟩
end

/- The tree of items: Insert, Delete. -/
section
open Go.RowKit
/-- The tree's own variable is no node, and no list. -/
def DHd (w : World) (th : Nat) : Prop := ∃ f a c, w.cell? ⟨th, 0, none⟩ = some (.func f a c)
theorem Th.farT {w : World} {b g : Nat} {x : It} (h : Th w b x) (hb : g ≠ b) (o : Nat) (v : Value) : Th (w.setCell ⟨g, o, none⟩ v) b x := h.far hb o v
theorem DEnv.hd {w : World} {th : Nat} {rt : Value} {n : Int} (h : DEnv w th rt n) : DHd w th := by obtain ⟨_, _, t, _⟩ := h; exact ⟨_, _, _, t.at0⟩
theorem Cs.farTD {w : World} {g : Nat} {x m : It} {l r : Value} {c : Bool} (h : Cs w g (nd x m l r c)) {th : Nat} (ht : DHd w th) (o : Nat) (u : Value) : Cs (w.setCell ⟨th, o, none⟩ u) g (nd x m l r c) :=
  h.far (fun e => by subst e; obtain ⟨f, a, k, hk⟩ := ht; rw [h.th.1] at hk; injection hk with hk; cases hk) _ _
theorem DIn.farT {w : World} {t : Tr It} {th : Nat} (ht : DHd w th) (o : Nat) (u : Value) : DIn w t → DIn (w.setCell ⟨th, o, none⟩ u) t := by
  induction t with
  | nil => intro _; trivial
  | node g c l x r ihl ihr =>
    intro h
    obtain ⟨⟨v, hv, hc⟩, hl, hr⟩ := h
    exact ⟨⟨v, hv, hc.farTD ht _ _⟩, ihl hl, ihr hr⟩
theorem DEnv.root {w : World} {th : Nat} {rt : Value} {n : Int} (h : DEnv w th rt n) (u : Value) : DEnv (w.setCell ⟨th, 3, none⟩ u) th u n := by
  obtain ⟨b1, b2, h0, h1, h2, n0, n1, n2, f1, f2⟩ := h
  have ne : ∀ b : Nat, (⟨th, 3, none⟩ : Addr) ≠ ⟨b, 14, none⟩ := fun b e => by injection e with e1 e2; cases e2
  refine ⟨b1, b2, h0.set 3 (by simp) u, h1.far f1 _ _, h2.far f2 _ _, ?_, ?_, ?_, f1, f2⟩
  · exact (World.cell?_setCell_other w _ _ u (ne th)).trans n0
  · exact (World.cell?_setCell_other w _ _ u (ne b1)).trans n1
  · exact (World.cell?_setCell_other w _ _ u (ne b2)).trans n2
theorem DEnv.size {w : World} {th : Nat} {rt : Value} {n : Int} (h : DEnv w th rt n) (m : Int) : DEnv (w.setCell ⟨th, 4, none⟩ (.int .i64 m)) th rt m := by
  obtain ⟨b1, b2, h0, h1, h2, n0, n1, n2, f1, f2⟩ := h
  have ne : ∀ b : Nat, (⟨th, 4, none⟩ : Addr) ≠ ⟨b, 14, none⟩ := fun b e => by injection e with e1 e2; cases e2
  refine ⟨b1, b2, h0.set 4 (by simp) _, h1.far f1 _ _, h2.far f2 _ _, ?_, ?_, ?_, f1, f2⟩
  · exact (World.cell?_setCell_other w _ _ _ (ne th)).trans n0
  · exact (World.cell?_setCell_other w _ _ _ (ne b1)).trans n1
  · exact (World.cell?_setCell_other w _ _ _ (ne b2)).trans n2
theorem DEnv.at3 {w : World} {th : Nat} {rt : Value} {n : Int} (h : DEnv w th rt n) : w.cell? ⟨th, 3, none⟩ = some rt ∧ w.frozen? ⟨th, 3, none⟩ = false ∧ w.cell? ⟨th, 4, none⟩ = some (.int .i64 n) ∧ w.frozen? ⟨th, 4, none⟩ = false := by obtain ⟨_, _, t0, _⟩ := h; exact ⟨t0.at3, t0.fr3, t0.at4, t0.fr4⟩
theorem Tr.put_ne {α : Type} (lt : α → α → Bool) (k : Nat) (x : α) (t : Tr α) : Tr.put lt k x t ≠ .nil := by
  intro e
  have := (Tr.perm_put lt k x t).length_eq
  rw [e] at this
  simp [Tr.blocks] at this
theorem Tr.length_put {α : Type} (lt : α → α → Bool) (k : Nat) (x : α) (t : Tr α) : (Tr.put lt k x t).list.length = t.list.length + 1 := by
  rw [← Tr.blocks_length, (Tr.perm_put lt k x t).length_eq, List.length_cons, Tr.blocks_length]
/-- What Insert answers that takes in. -/
def DIns (x : It) (t : Tr It) (th : Nat) (w : World) (e : Ending) (w' : World) : Prop := ∃ k, w.heap.size ≤ k ∧ e = .returned (.bool true) ∧ DTreeAt w' th ((Tr.put It.ahead k x t).paint false) ∧ Chg (th :: t.blocks) w w'
set_option maxRecDepth 100000 in
set_option maxHeartbeats 1000000 in
theorem Dt.insert_no (th : Nat) (t : Tr It) (x : It) (hx : x.In) (w : World) (h : DTreeAt w th t) (hh : Tr.has It.ahead x t = true) :
    Calls Tryz.prog 135 #[.pointer (some ⟨th, 0, none⟩), x.val] w (Ans (.bool false) w) := by
  have hb0 := (Below.refl w.heap.size w).alloc (Nat.le_refl _) (.cells #[.int .u64 x.t, .int .u32 x.r, .int .u32 x.v, .int .i64 x.i, .int .u64 x.u, .int .u32 x.s, .int .u32 x.y] 143)
  have HT := hid (h.below hb0)
  have HB0 := hid hb0
  have HX0 : Hid (Th (w.alloc (.cells #[.int .u64 x.t, .int .u32 x.r, .int .u32 x.v, .int .i64 x.i, .int .u64 x.u, .int .u32 x.s, .int .u32 x.y] 143)) w.heap.size x) := hid (Cs.new7 w _ x).th7
  have HXI := hid hx
  have HTN : Hid (∀ g ∈ th :: t.blocks, g < w.heap.size) := hid (fun g hg => by
    rcases List.mem_cons.1 hg with rfl | h1
    · obtain ⟨_, _, t0, _⟩ := h.1; exact t0.lt
    · exact (h.2.1.nl g h1).lt)
  have HH := hid hh
  clear h hh hx hb0
  unfold It.val
  go_enter Tryz.func135, Tryz.ntmps135
  go_wp2_with fail
  refine (Dt.has th t x HXI.out _ HT.out).mono ?_
  rintro e w1 ⟨rfl, hb⟩
  rw [HH.out]
  have HB := hid (below_on HB0.out hb)
  clear hb
  go_wp2_with fail
  go_ret
  exact ⟨rfl, HB.out⟩
set_option maxRecDepth 100000 in
set_option maxHeartbeats 1000000 in
theorem Dt.insert (th : Nat) (t : Tr It) (x : It) (hx : x.In) (w : World) (h : DTreeAt w th t) (hn : t.list.length < 900000) (hh : Tr.has It.ahead x t = false) :
    Calls Tryz.prog 135 #[.pointer (some ⟨th, 0, none⟩), x.val] w (DIns x t th w) := by
  have hb0 := (Below.refl w.heap.size w).alloc (Nat.le_refl _) (.cells #[.int .u64 x.t, .int .u32 x.r, .int .u32 x.v, .int .i64 x.i, .int .u64 x.u, .int .u32 x.s, .int .u32 x.y] 143)
  have HT := hid (h.below hb0)
  have HB0 := hid hb0
  have HX0 : Hid (Th (w.alloc (.cells #[.int .u64 x.t, .int .u32 x.r, .int .u32 x.v, .int .i64 x.i, .int .u64 x.u, .int .u32 x.s, .int .u32 x.y] 143)) w.heap.size x) := hid (Cs.new7 w _ x).th7
  have HXI := hid hx
  have HTN : Hid (∀ g ∈ th :: t.blocks, g < w.heap.size) := hid (fun g hg => by
    rcases List.mem_cons.1 hg with rfl | h1
    · obtain ⟨_, _, t0, _⟩ := h.1; exact t0.lt
    · exact (h.2.1.nl g h1).lt)
  have HH := hid hh
  have HN := hid hn
  clear h hh hn hx hb0
  unfold It.val
  go_enter Tryz.func135, Tryz.ntmps135
  go_wp2_with fail
  refine (Dt.has th t x HXI.out _ HT.out).mono ?_
  rintro e w1 ⟨rfl, hb⟩
  rw [HH.out]
  have HT1 := hid (HT.out.below hb)
  have HX1 := hid (HX0.out.below hb)
  have HB := hid (below_on HB0.out hb)
  have HBd := hid (below_on HB.out (Below.refl _ w1).drew)
  have HT1d := hid (HT1.out.below (Below.refl _ w1).drew)
  have HXd := hid (HX1.out.below (Below.refl _ w1).drew)
  obtain ⟨e3, e3f, _, _⟩ := HT1d.out.1.at3
  obtain ⟨u0, hu0⟩ := ptr_form t
  rw [hu0] at e3
  clear hb
  go_wp2_with fail
  refine wp_region_held_drew (S := fun w' => w'.cell? ⟨w.heap.size, 0, none⟩ = some (.int .u64 x.t) ∧ w'.cell? ⟨w.heap.size, 1, none⟩ = some (.int .u32 x.r) ∧ w'.cell? ⟨w.heap.size, 2, none⟩ = some (.int .u32 x.v) ∧ w'.cell? ⟨w.heap.size, 3, none⟩ = some (.int .i64 x.i) ∧ w'.cell? ⟨w.heap.size, 4, none⟩ = some (.int .u64 x.u) ∧ w'.cell? ⟨w.heap.size, 5, none⟩ = some (.int .u32 x.s) ∧ w'.cell? ⟨w.heap.size, 6, none⟩ = some (.int .u32 x.y)) (by kernel_rfl) HXd.out (fun hHeld => ?_)
  refine wpAnyH_take (i := 0) (v := ?_) rfl (by kernel_rfl) (by kernel_rfl) (by kernel_rfl) (fun _ _ _ h => h) (Or.inl ⟨by rfl, ?_⟩) (by assumption) ?_
  rotate_left
  · intro w hSw; (try dsimp only at hSw); go_simp; (try with_reducible rfl)
  try simp only [List.getElem_toArray, List.getElem_cons_zero, List.getElem_cons_succ, Act.put, List.setIfInBounds_toArray, List.set_cons_zero, List.set_cons_succ]
  refine wpAnyH_take (i := 1) (v := ?_) rfl (by kernel_rfl) (by kernel_rfl) (by kernel_rfl) (fun _ _ _ h => h) (Or.inl ⟨by rfl, ?_⟩) (by assumption) ?_
  rotate_left
  · intro w hSw; (try dsimp only at hSw); go_simp; (try with_reducible rfl)
  try simp only [List.getElem_toArray, List.getElem_cons_zero, List.getElem_cons_succ, Act.put, List.setIfInBounds_toArray, List.set_cons_zero, List.set_cons_succ]
  refine wpAnyH_take (i := 2) (v := ?_) rfl (by kernel_rfl) (by kernel_rfl) (by kernel_rfl) (fun _ _ _ h => h) (Or.inl ⟨by rfl, ?_⟩) (by assumption) ?_
  rotate_left
  · intro w hSw; (try dsimp only at hSw); go_simp; (try with_reducible rfl)
  try simp only [List.getElem_toArray, List.getElem_cons_zero, List.getElem_cons_succ, Act.put, List.setIfInBounds_toArray, List.set_cons_zero, List.set_cons_succ]
  refine wpAnyH_take (i := 3) (v := ?_) rfl (by kernel_rfl) (by kernel_rfl) (by kernel_rfl) (fun _ _ _ h => h) (Or.inl ⟨by rfl, ?_⟩) (by assumption) ?_
  rotate_left
  · intro w hSw; (try dsimp only at hSw); go_simp; (try with_reducible rfl)
  try simp only [List.getElem_toArray, List.getElem_cons_zero, List.getElem_cons_succ, Act.put, List.setIfInBounds_toArray, List.set_cons_zero, List.set_cons_succ]
  refine wpAnyH_take (i := 4) (v := ?_) rfl (by kernel_rfl) (by kernel_rfl) (by kernel_rfl) (fun _ _ _ h => h) (Or.inl ⟨by rfl, ?_⟩) (by assumption) ?_
  rotate_left
  · intro w hSw; (try dsimp only at hSw); go_simp; (try with_reducible rfl)
  try simp only [List.getElem_toArray, List.getElem_cons_zero, List.getElem_cons_succ, Act.put, List.setIfInBounds_toArray, List.set_cons_zero, List.set_cons_succ]
  refine wpAnyH_take (i := 6) (v := ?_) rfl (by kernel_rfl) (by kernel_rfl) (by kernel_rfl) (fun _ _ _ h => h) (Or.inl ⟨by rfl, ?_⟩) (by assumption) ?_
  rotate_left
  · intro w hSw; (try dsimp only at hSw); go_simp; (try with_reducible rfl)
  try simp only [List.getElem_toArray, List.getElem_cons_zero, List.getElem_cons_succ, Act.put, List.setIfInBounds_toArray, List.set_cons_zero, List.set_cons_succ]
  refine wpAnyH_ready (rs := [5]) (by kernel_rfl) (by simp) ?_
  refine AllReadyH.cons rfl (fun K hK => ?_) AllReadyH.nil
  go_simp
  refine hK.out _ _ ?_ (fun hHeld => ?_)
  · first | exact hHeld | exact HK1.out | exact HK2.out
  clear hK K
  try simp only [List.getElem_toArray, List.getElem_cons_zero, List.getElem_cons_succ, Act.put, List.setIfInBounds_toArray, List.set_cons_zero, List.set_cons_succ]
  refine wpAnyH_ready (rs := [7]) (by kernel_rfl) (by simp) ?_
  refine AllReadyH.cons rfl (fun K hK => ?_) AllReadyH.nil
  go_simp
  have hput := Dt.put th (ptr t) t.list.length x HXI.out t _ HT1d.out.2.1 HT1d.out.2.2 HN.out HT1d.out.1
  rw [hu0] at hput
  refine hput.mono ?_
  clear hput
  rintro e w2 ⟨k, hk, rfl, hi, hw⟩
  have hk' : w.heap.size ≤ k := Nat.le_trans HB.out.size hk
  have HE2 := hid (HT1d.out.1.chg hw HT1d.out.2.1.nl)
  have hnd : (Tr.put It.ahead k x t).blocks.Nodup := (Tr.perm_put It.ahead k x t).nodup_iff.2 (List.nodup_cons.2 ⟨fun hm => by have := (HT1d.out.2.1.nl k hm).lt; omega, HT1d.out.2.2⟩)
  have HLEN := hid (Tr.length_put It.ahead k x t)
  have HP := hid (Tr.perm_put It.ahead k x t)
  have HPN := hid (Tr.put_ne It.ahead k x t)
  have HND := hid hnd
  have HI := hid hi
  have HW := hid hw
  have HK := hid hk'
  obtain ⟨_, _, t0, _⟩ := HE2.out
  have q3 := t0.at3
  have q3f := t0.fr3
  have hkw := hid hk
  have hxb : w.heap.size ∉ t.blocks := fun hm => Nat.lt_irrefl _ (HTN.out _ (by simp [hm]))
  have hxt : th ≠ w.heap.size := fun e => Nat.lt_irrefl _ (HTN.out w.heap.size (by simp [e]))
  have HTX := hid (HXd.out.chg hw hxb)
  clear hxb
  clear hi hw hk hk' hnd t0 e3 e3f
  have HX : Hid (∀ w', DTreeAt w' th ((Tr.put It.ahead k x t).paint false) → Chg (th :: t.blocks) w w' → DIns x t th w (.returned (.bool true)) w') := hid (fun w' h1 h2 => ⟨k, HK.out, rfl, h1, h2⟩)
  generalize Tr.put It.ahead k x t = T at *
  obtain ⟨g, c, l, y, r, rfl⟩ : ∃ g c l y r, T = .node g c l y r := by
    cases T with
    | nil => exact absurd rfl HPN.out
    | node g c l y r => exact ⟨g, c, l, y, r, rfl⟩
  simp only [ptr_node]
  have hne : th ≠ g := fun e => by
    obtain ⟨f, a, k', hk⟩ := HE2.out.hd
    obtain ⟨⟨v, _, hc⟩, _⟩ := HI.out
    rw [e, hc.th.1] at hk; injection hk with hk; cases hk
  have hne' : g ≠ th := Ne.symm hne
  have HW3 : Hid (∃ W, W = ((w2.setCell ⟨th, 3, none⟩ (.pointer (some ⟨g, 0, none⟩))).setCell ⟨g, 16, none⟩ (.bool false)).setCell ⟨th, 4, none⟩ (.int .i64 (t.list.length + 1)) ∧
      DEnv W th (.pointer (some ⟨g, 0, none⟩)) (t.list.length + 1) ∧ DIn W (.node g false l y r) ∧ Chg (th :: t.blocks) w W) := hid (by
    have e1 := HE2.out.root (.pointer (some ⟨g, 0, none⟩))
    have i1 := HI.out.farT HE2.out.hd 3 (.pointer (some ⟨g, 0, none⟩))
    have hd := Dnodup_node HND.out
    have hn1 : DNl (w2.setCell ⟨th, 3, none⟩ (.pointer (some ⟨g, 0, none⟩))) g := i1.nl g (by simp [Tr.blocks])
    have e2 := e1.chg (F := [g]) ((Chg.refl _ _).set (g := g) (Or.inl (by simp)) 16 (.bool false)) (fun j hj => by simp at hj; subst hj; exact hn1)
    have i2 := i1.paint (d := false) ⟨hd.1, hd.2.1⟩
    have hgk : g ∈ t.blocks ∨ w1.heap.size ≤ g := by
      rcases List.mem_cons.1 (HP.out.mem_iff.1 (show g ∈ (Tr.node g c l y r).blocks by simp [Tr.blocks])) with h1 | h1
      · subst h1; exact Or.inr hkw.out
      · exact Or.inl h1
    have c1 : Chg (th :: t.blocks) w1.drew w2 := HW.out.mono (fun j hj => by simp [hj])
    have c2 := ((c1.set (g := th) (Or.inl (by simp)) 3 (.pointer (some ⟨g, 0, none⟩))).set (g := g) (hgk.imp (fun h => by simp [h]) id) 16 (.bool false)).set (g := th) (Or.inl (by simp)) 4 (.int .i64 (t.list.length + 1))
    exact ⟨_, rfl, e2.size _, i2.farT e2.hd _ _, (Chg.below HBd.out).trans c2 (fun j hj => Or.inl hj)⟩)
  obtain ⟨⟨v, _, hc⟩, _⟩ := HI.out
  obtain ⟨_, _, t0, _⟩ := HE2.out
  have c4 := hc.nd4
  have c4f := hc.ndf4
  have q4 := t0.at4
  have q4f := t0.fr4
  have hbn := HN.out
  clear hc t0
  have HK1 : Hid (Th w2 w.heap.size x) := hid HTX.out
  have HK2 : Hid (Th (w2.setCell ⟨th, 3, none⟩ (.pointer (some ⟨g, 0, none⟩))) w.heap.size x) := hid (HTX.out.far hxt _ _)
  clear hxt
  refine hK.out _ _ ?_ (fun hHeld => ?_)
  · first | exact hHeld | exact HK1.out | exact HK2.out
  clear hK K
  try simp only [List.getElem_toArray, List.getElem_cons_zero, List.getElem_cons_succ, Act.put, List.setIfInBounds_toArray, List.set_cons_zero, List.set_cons_succ]
  refine wpAnyH_take (i := 8) (v := ?_) rfl (by kernel_rfl) (by kernel_rfl) (by kernel_rfl) (fun _ _ _ h => h) (Or.inl ⟨by rfl, ?_⟩) (by assumption) ?_
  rotate_left
  · intro w hSw; (try dsimp only at hSw); go_simp; (try with_reducible rfl)
  try simp only [List.getElem_toArray, List.getElem_cons_zero, List.getElem_cons_succ, Act.put, List.setIfInBounds_toArray, List.set_cons_zero, List.set_cons_succ]
  refine wpAnyH_take (i := 9) (v := ?_) rfl (by kernel_rfl) (by kernel_rfl) (by kernel_rfl) (fun _ _ _ h => h) (Or.inl ⟨by rfl, ?_⟩) (by assumption) ?_
  rotate_left
  · intro w hSw; (try dsimp only at hSw); go_simp; (try with_reducible rfl)
  try simp only [List.getElem_toArray, List.getElem_cons_zero, List.getElem_cons_succ, Act.put, List.setIfInBounds_toArray, List.set_cons_zero, List.set_cons_succ]
  refine wpAnyH_ready (rs := [10]) (by kernel_rfl) (by simp) ?_
  refine AllReadyH.cons rfl (fun K hK => ?_) AllReadyH.nil
  go_simp
  refine hK.out _ _ ?_ (fun hHeld => ?_)
  · first | exact hHeld | exact HK1.out | exact HK2.out
  clear hK K
  try simp only [List.getElem_toArray, List.getElem_cons_zero, List.getElem_cons_succ, Act.put, List.setIfInBounds_toArray, List.set_cons_zero, List.set_cons_succ]
  refine wpAnyH_done (by kernel_rfl) ?_ _
  clear hHeld
  go_wp2_with fail
  obtain ⟨W, hW, HF⟩ := HW3
  rw [← hW]
  go_ret
  refine HX.out W ⟨?_, HF.2.1, ?_⟩ HF.2.2
  · have := HF.1
    rw [Tr.list_paint, HLEN.out]
    exact this
  · rw [Tr.blocks_paint]; exact HND.out
end

end Go.Proofs.YthmilhhihcmdhaaGreatDoor

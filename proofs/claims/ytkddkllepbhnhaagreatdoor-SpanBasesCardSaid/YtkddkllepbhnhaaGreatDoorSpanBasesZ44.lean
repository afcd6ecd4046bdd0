/- Texts of SpanBases's proof, together. -/
import Derived.Test.YtkddkllepbhnhaaGreatDoorSpB
import Derived.Test.YtkddkllepbhnhaaGreatDoorSpanBasesZ43
import Derived.Test.YtkddkllepbhnhaaGreatDoorSpanBasesZ23
import Derived.Test.YtkddkllepbhnhaaGreatDoorBig
import Derived.Test.YtkddkllepbhnhaaGreatDoorSpanBasesZ27
namespace Go.Proofs.YtkddkllepbhnhaaGreatDoor
/- The chapter's examples of layer 13, as the laws ask them. -/
section
open Go.RowKit
theorem RdI.nil0 (w : World) (A : Option Addr) : RdI w A 0 [] := ⟨rfl, fun i hi => absurd hi (by omega)⟩
theorem Cs.one {w : World} {g : Nat} {x : It} (h : Cs w g x.cells) : RdI w (some ⟨g, 0, none⟩) 1 [x] :=
  ⟨rfl, fun i hi => ⟨g, 0, rfl, World.block_lt_of_cell? w _ (It.at x h).1, fun j hj => by
    obtain rfl : j = 0 := by omega
    exact It.at x h⟩⟩
set_option maxRecDepth 100000 in
set_option maxHeartbeats 2000000 in
theorem Law12.Awake (w : World) (htab : Tab10 w.heap.size w) : Calls Tryz.prog 101 #[] w (Ans (.bool true) w) := by
  go_enter Tryz.func101, Tryz.ntmps101
  go_wp2_with (go_at_call 33; refine (Law12.awake _ htab).mono ?_; rintro e w' ⟨rfl, hb⟩)
  go_ret
  exact ⟨rfl, hb⟩
set_option maxRecDepth 100000 in
set_option maxHeartbeats 4000000 in
theorem Law13.awake (w : World) (htab : Tab10 w.heap.size w) : Calls Tryz.prog 39 #[] w (Ans (.bool true) w) := by
  have HT := hid htab
  clear htab
  have e1 : IntKind.u64.wrap (0 + 4611686018427387905) = 4611686018427387905 := by decide
  have hfd : ∀ w : World, (Instr.field 86 (.agg #[.int .u64 0, .int .u32 0, .int .u32 0, .int .i64 0, .int .u64 0, .int .u32 0, .int .u32 0]) 0).run Tryz.prog w = .ok (.agg #[.int .u64 0, .int .u32 0, .int .u32 0]) w := fun _ => by kernel_rfl
  go_enter Tryz.func39, Tryz.ntmps39
  go_wp2_with fail
  refine (Pos.shiftF (0, 0, 0) 4611686018427387905 _).mono ?_
  unfold shP
  simp only [e1]
  rintro e w1 ⟨rfl, hb⟩
  have ha := (Below.refl w1.heap.size w1).alloc (Nat.le_refl _) (.cells #[.int .u64 (It.mk 0 0 0 0 4611686018427387905 0 0).t, .int .u32 (It.mk 0 0 0 0 4611686018427387905 0 0).r, .int .u32 (It.mk 0 0 0 0 4611686018427387905 0 0).v, .int .i64 (It.mk 0 0 0 0 4611686018427387905 0 0).i, .int .u64 (It.mk 0 0 0 0 4611686018427387905 0 0).u, .int .u32 (It.mk 0 0 0 0 4611686018427387905 0 0).s, .int .u32 (It.mk 0 0 0 0 4611686018427387905 0 0).y] 86)
  have HC := hid (Cs.new7 w1 86 (It.mk 0 0 0 0 4611686018427387905 0 0))
  have HB1 := hid (below_on hb ha)
  clear hb ha
  go_wp2_with fail
  generalize (w1.alloc (.cells #[.int .u64 (It.mk 0 0 0 0 4611686018427387905 0 0).t, .int .u32 (It.mk 0 0 0 0 4611686018427387905 0 0).r, .int .u32 (It.mk 0 0 0 0 4611686018427387905 0 0).v, .int .i64 (It.mk 0 0 0 0 4611686018427387905 0 0).i, .int .u64 (It.mk 0 0 0 0 4611686018427387905 0 0).u, .int .u32 (It.mk 0 0 0 0 4611686018427387905 0 0).s, .int .u32 (It.mk 0 0 0 0 4611686018427387905 0 0).y] 86)) = W1 at HC HB1 ⊢
  generalize w1.heap.size = g at HC ⊢
  refine (Law12.Awake _ (HT.out.at2 HB1.out)).mono ?_
  rintro e w2 ⟨rfl, hb⟩
  have HB2 := hid (below_on HB1.out hb)
  have HC2 := hid ((show Cs W1 g (It.cells (It.mk 0 0 0 0 4611686018427387905 0 0)) from HC.out).below hb)
  clear hb HB1 HC
  go_wp2_with fail
  refine (Span.room 0 none 0 0 [] _ (RdI.nil0 _ _) (by omega)).mono ?_
  rw [ex13.1]
  rintro e w3 ⟨rfl, hb⟩
  have HB3 := hid (below_on HB2.out hb)
  have HC3 := hid (HC2.out.below hb)
  obtain ⟨p0, p1, p2, p3, p4, p5, p6⟩ := It.at _ HC3.out
  have HN := hid (Cs.new7 w3 86 (It.mk 0 0 0 0 4611686018427387905 0 0)).one
  have HB4 := hid (below_on HB3.out ((Below.refl w3.heap.size w3).alloc (Nat.le_refl _) (.cells #[.int .u64 (It.mk 0 0 0 0 4611686018427387905 0 0).t, .int .u32 (It.mk 0 0 0 0 4611686018427387905 0 0).r, .int .u32 (It.mk 0 0 0 0 4611686018427387905 0 0).v, .int .i64 (It.mk 0 0 0 0 4611686018427387905 0 0).i, .int .u64 (It.mk 0 0 0 0 4611686018427387905 0 0).u, .int .u32 (It.mk 0 0 0 0 4611686018427387905 0 0).s, .int .u32 (It.mk 0 0 0 0 4611686018427387905 0 0).y] 86)))
  clear hb HB2 HC2
  go_wp2_with fail
  refine (Span.within 0 (some ⟨w3.heap.size, 0, none⟩) 1 1 [(It.mk 0 0 0 0 4611686018427387905 0 0)] _ HN.out (by omega)).mono ?_
  rw [ex13.2]
  rintro e w4 ⟨rfl, hb⟩
  have HB5 := hid (below_on HB4.out hb)
  clear hb
  go_wp2_with fail
  go_ret
  exact ⟨rfl, HB5.out⟩
end

/- SpanGrows: the walk. -/
section
open Go.RowKit
theorem OwnI.empty (w : World) {base : Nat} (hb : base ≤ w.heap.size) : OwnI (w.alloc (.cells #[] 86)) base (some ⟨w.heap.size, 0, none⟩) 0 0 [] := by
  have h := World.ownsRow_lit (base := base) (e := 86) (size := 7) w #[] 0 hb (by decide) (by decide)
  simpa [OwnI] using h
end

/- SpanBases: the walk. -/
section
open Go.RowKit
theorem Item.shiftTo2 (a b : It) (d : Int) (h : It.shift d a = b) (w : World) : Calls Tryz.prog 51 #[a.val, .int .u64 d] w (Ans (It.val b) w) := by
  subst h; exact Item.shift a d w
theorem all_take {P : It → Prop} {l : List It} {j : Nat} (h : ∀ q ∈ l.take j, P q) (hj : j < l.length) (hp : P (l.getD j It.zero)) : ∀ q ∈ l.take (j + 1), P q := by
  intro q hq
  have e : l.getD j It.zero = l[j] := by simp [List.getD, hj]
  rw [List.take_succ_eq_append_getElem hj, List.mem_append] at hq
  rcases hq with hq | hq
  · exact h q hq
  · rw [List.mem_singleton] at hq; rw [hq, ← e]; exact hp
theorem take_sh {d : Int} {l : List It} {k : Nat} (hk : k < l.length) : (l.take (k + 1)).map (It.shift d) = (l.take k).map (It.shift d) ++ [It.shift d (l.getD k It.zero)] := by
  have e : l.getD k It.zero = l[k] := by simp [List.getD, hk]
  rw [List.take_succ_eq_append_getElem hk, List.map_append, e]; rfl
theorem first_take {t : Int} {l : List It} {k : Nat} (hk : k < l.length) : firstL t ((l.take (k + 1)).map (·.t)) = firstL (firstL t ((l.take k).map (·.t))) [(l.getD k It.zero).t] := by
  have e : l.getD k It.zero = l[k] := by simp [List.getD, hk]
  rw [List.take_succ_eq_append_getElem hk, List.map_append, e]
  unfold firstL
  rw [List.foldl_append]; rfl
theorem it_mem {l : List It} {k : Nat} (hk : k < l.length) : l.getD k It.zero ∈ l := by
  have e : l.getD k It.zero = l[k] := by simp [List.getD, hk]
  rw [e]; exact List.getElem_mem hk
theorem room_of {b : Int} {l : List It} (h : withinI b l = true) {c : Int} (hc : spreadI c l = spreadI b l) : roomI c l = 4611686018427387904 - spreadI b l ∧ 0 ≤ spreadI b l ∧ spreadI b l ≤ 4611686018427387904 := by
  have h1 : spreadI b l ≤ 4611686018427387904 := by simpa [withinI] using h
  have h2 : 0 ≤ spreadI b l := by unfold spreadI; rw [IntKind.wrap_u64]; omega
  refine ⟨?_, h2, h1⟩
  unfold roomI; rw [hc]; omega
set_option maxRecDepth 100000 in
set_option maxHeartbeats 2000000 in
theorem Sbas.away (A : Option Addr) (n c : Nat) (d : Int) (w : World) (hn : 32 < n) (htab : Tab10 w.heap.size w) :
    Calls Tryz.prog 7 #[.slice A n c, .int .u64 d] w (Ans (.bool true) w) := by
  have h2 : (32 : Int) < (n : Int) := by omega
  have HT := hid htab
  clear hn htab
  go_enter Tryz.func7, Tryz.ntmps7
  go_wp2_with fail
  refine (Law13.awake _ HT.out).mono ?_
  rintro e w1 ⟨rfl, hb1⟩
  go_wp2_with fail
  go_ret
  exact ⟨rfl, hb1⟩
set_option maxRecDepth 100000 in
set_option maxHeartbeats 2000000 in
theorem Sbas.nil (A : Option Addr) (c : Nat) (d : Int) (w : World) (htab : Tab10 w.heap.size w) :
    Calls Tryz.prog 7 #[.slice A 0 c, .int .u64 d] w (Ans (.bool true) w) := by
  have HT := hid htab
  clear htab
  go_enter Tryz.func7, Tryz.ntmps7
  go_wp2_with fail
  refine (Law13.awake _ HT.out).mono ?_
  rintro e w1 ⟨rfl, hb1⟩
  go_wp2_with fail
  go_ret
  exact ⟨rfl, hb1⟩
set_option maxRecDepth 100000 in
set_option maxHeartbeats 32000000 in
theorem Sbas.core (A : Option Addr) (n c : Nat) (l : List It) (d : Int) (w : World) (hr : RdI w A n l) (hl : InI l) (h0 : 0 < n) (hn : n ≤ 32) (htab : Tab10 w.heap.size w) :
    Calls Tryz.prog 7 #[.slice A n c, .int .u64 d] w (Ans (.bool true) w) := by
  have HT := hid htab
  have HR := hid hr
  have HL := hid hl
  have HLN := hid hr.1
  have h2 : ¬ (32 : Int) < (n : Int) := by omega
  have h3 : ((n : Int) == 0) = false := by rw [beq_eq_false_iff_ne]; omega
  have h4 : (0 : Int) < (n : Int) := by omega
  obtain ⟨bb, off, hA, _, _⟩ := hr.2 0 h0
  subst hA
  have H0 : Hid (∀ wx, Below w.heap.size w wx → wx.cell? ⟨bb, off, none⟩ = some (.int .u64 (l.getD 0 It.zero).t)) := hid (fun wx hb => by
    obtain ⟨b2, o2, e, _, hc⟩ := (HR.out.below hb).2 0 h0
    cases e
    have h := (hc 0 h0).1
    rwa [show off + 0 * 7 = off by omega] at h)
  obtain ⟨x0, hx0⟩ : ∃ x0, l.getD 0 It.zero = x0 := ⟨_, rfl⟩
  have HX0 := hid hx0
  rw [hx0] at H0
  clear hr hl htab hx0
  go_enter Tryz.func7, Tryz.ntmps7
  go_wp2_with fail
  refine (Law13.awake _ HT.out).mono ?_
  rintro e w1 ⟨rfl, hb⟩
  have HB1 := hid hb
  have zz := H0.out _ hb
  clear hb HT
  go_wp2_with fail
  clear zz
  go_loopg [5, 33] n (fun s f i wr => ∃ k : Nat, f = .int .u64 (firstL x0.t ((l.take k).map (·.t))) ∧ i = .int .i64 k ∧ k ≤ n ∧ s = n - k ∧ (∀ q ∈ l.take k, q.right = true ∧ -4611686018427387904 ≤ dif q.t x0.t ∧ -4611686018427387904 ≤ dif q.u x0.t) ∧ Below w.heap.size w wr)
  case atStart => exact ⟨0, rfl, rfl, Nat.zero_le _, by omega, (by simp), HB1.out⟩
  case round =>
    obtain ⟨k, rfl, rfl, hk, hs, hnr, hb⟩ := hrel
    have HS := hid hs
    have HNR := hid hnr
    have HB := hid hb
    clear hs hnr hb
    by_cases hkn : k < n
    · obtain ⟨b2, o2, hA, _, hc⟩ := (HR.out.below HB.out).2 0 h0
      cases hA
      obtain ⟨p0, p1, p2, p3, p4, p5, p6⟩ := hc k hkn
      have hkl : k < l.length := by have := HLN.out; omega
      have HNK := hid (fun hx => all_take (P := fun q => q.right = true ∧ -4611686018427387904 ≤ dif q.t x0.t ∧ -4611686018427387904 ≤ dif q.u x0.t) HNR.out hkl hx)
      have HFS := hid (first_take (t := x0.t) hkl)
      generalize l.getD k It.zero = x at *
      generalize firstL x0.t ((l.take k).map (·.t)) = f0 at *
      have hki : (k : Int) < n := by omega
      clear hc hkl
      have HQ : Hid (Cs (wr.alloc (.cells #[.int .u64 x.t, .int .u32 x.r, .int .u32 x.v, .int .i64 x.i, .int .u64 x.u, .int .u32 x.s, .int .u32 x.y] 86)) wr.heap.size x.cells ∧ Below w.heap.size w (wr.alloc (.cells #[.int .u64 x.t, .int .u32 x.r, .int .u32 x.v, .int .i64 x.i, .int .u64 x.u, .int .u32 x.s, .int .u32 x.y] 86))) := hid ⟨Cs.new7 wr 86 x, HB.out.alloc HB.out.size _⟩
      go_wp2_with fail
      clear p0 p1 p2 p3 p4 p5 p6 HNR HB HB1
      generalize wr.alloc (.cells #[.int .u64 x.t, .int .u32 x.r, .int .u32 x.v, .int .i64 x.i, .int .u64 x.u, .int .u32 x.s, .int .u32 x.y] 86) = W1 at HQ ⊢
      generalize wr.heap.size = ga at HQ ⊢
      cases hrt : It.right x with
      | false =>
        have HRT := hid hrt
        clear hrt
        have hsT1 : Stays (fun wx => Cs wx ga x.cells ∧ Below w.heap.size w wx) := fun _ _ h hb => ⟨h.1.below hb, below_on h.2 hb⟩
        refine wp_region_grow (S := fun wx => Cs wx ga x.cells ∧ Below w.heap.size w wx) 27 (by kernel_rfl) (hsT1 _ _ (HQ.out) (Below.refl _ _).drew) ?_
        refine wpAnyE_take (i := 0) (v := ?_) (hsT1) (fun _ h => h) rfl (by kernel_rfl) (by kernel_rfl) (by kernel_rfl) (by kernel_rfl) (fun _ _ _ h => h) (SteadyB.of_yields (Or.inl ⟨by rfl, ?_⟩)) ?_
        rotate_left
        · intro wq hSw
          obtain ⟨p0, p1, p2, p3, p4, p5, p6⟩ := It.at x hSw.1
          have zz := H0.out _ hSw.2
          go_simp
          (try with_reducible rfl)
        try simp only [List.getElem_toArray, List.getElem_cons_zero, List.getElem_cons_succ, Act.put, List.setIfInBounds_toArray, List.set_cons_zero, List.set_cons_succ]
        refine wpAnyE_take (i := 1) (v := Value.bool false) (hsT1) (fun _ h => h) rfl (by kernel_rfl) (by kernel_rfl) (by kernel_rfl) (by kernel_rfl) (fun _ _ _ h => h) (Or.inl ⟨by rfl, fun wq hSw => ?_⟩) ?_
        · refine RunB.of_calls ((by have h := Item.right x wq; rw [HRT.out] at h; exact h)) (by go_simp) ?_
          rintro e wr ⟨rfl, hb⟩
          exact ⟨rfl, hb⟩
        try simp only [List.getElem_toArray, List.getElem_cons_zero, List.getElem_cons_succ, Act.put, List.setIfInBounds_toArray, List.set_cons_zero, List.set_cons_succ]
        refine wpAnyE_take (i := 2) (v := ?_) (hsT1) (fun _ h => h) rfl (by kernel_rfl) (by kernel_rfl) (by kernel_rfl) (by kernel_rfl) (fun _ _ _ h => h) (SteadyB.of_yields (Or.inl ⟨by rfl, ?_⟩)) ?_
        rotate_left
        · intro wq hSw
          go_simp
          (try with_reducible rfl)
        try simp only [List.getElem_toArray, List.getElem_cons_zero, List.getElem_cons_succ, Act.put, List.setIfInBounds_toArray, List.set_cons_zero, List.set_cons_succ]
        refine wpAnyE_take (i := 3) (v := ?_) (hsT1) (fun _ h => h) rfl (by kernel_rfl) (by kernel_rfl) (by kernel_rfl) (by kernel_rfl) (fun _ _ _ h => h) (SteadyB.of_yields (Or.inl ⟨by rfl, ?_⟩)) ?_
        rotate_left
        · intro wq hSw
          go_simp
          (try with_reducible rfl)
        try simp only [List.getElem_toArray, List.getElem_cons_zero, List.getElem_cons_succ, Act.put, List.setIfInBounds_toArray, List.set_cons_zero, List.set_cons_succ]
        refine wpAnyE_take (i := 4) (v := undef) (hsT1) (fun _ h => h) rfl (by kernel_rfl) (by kernel_rfl) (by kernel_rfl) (by kernel_rfl) (fun _ _ _ h => h) (Or.inr ⟨by rfl, rfl⟩) ?_
        try simp only [List.getElem_toArray, List.getElem_cons_zero, List.getElem_cons_succ, Act.put, List.setIfInBounds_toArray, List.set_cons_zero, List.set_cons_succ]
        refine wpAnyE_take (i := 5) (v := undef) (hsT1) (fun _ h => h) rfl (by kernel_rfl) (by kernel_rfl) (by kernel_rfl) (by kernel_rfl) (fun _ _ _ h => h) (Or.inr ⟨by rfl, rfl⟩) ?_
        try simp only [List.getElem_toArray, List.getElem_cons_zero, List.getElem_cons_succ, Act.put, List.setIfInBounds_toArray, List.set_cons_zero, List.set_cons_succ]
        refine wpAnyE_take (i := 6) (v := undef) (hsT1) (fun _ h => h) rfl (by kernel_rfl) (by kernel_rfl) (by kernel_rfl) (by kernel_rfl) (fun _ _ _ h => h) (Or.inr ⟨by rfl, rfl⟩) ?_
        try simp only [List.getElem_toArray, List.getElem_cons_zero, List.getElem_cons_succ, Act.put, List.setIfInBounds_toArray, List.set_cons_zero, List.set_cons_succ]
        refine wpAnyE_take (i := 7) (v := undef) (hsT1) (fun _ h => h) rfl (by kernel_rfl) (by kernel_rfl) (by kernel_rfl) (by kernel_rfl) (fun _ _ _ h => h) (Or.inr ⟨by rfl, rfl⟩) ?_
        try simp only [List.getElem_toArray, List.getElem_cons_zero, List.getElem_cons_succ, Act.put, List.setIfInBounds_toArray, List.set_cons_zero, List.set_cons_succ]
        refine wpAnyE_take (i := 8) (v := undef) (hsT1) (fun _ h => h) rfl (by kernel_rfl) (by kernel_rfl) (by kernel_rfl) (by kernel_rfl) (fun _ _ _ h => h) (Or.inr ⟨by rfl, rfl⟩) ?_
        try simp only [List.getElem_toArray, List.getElem_cons_zero, List.getElem_cons_succ, Act.put, List.setIfInBounds_toArray, List.set_cons_zero, List.set_cons_succ]
        refine wpAnyE_take (i := 9) (v := undef) (hsT1) (fun _ h => h) rfl (by kernel_rfl) (by kernel_rfl) (by kernel_rfl) (by kernel_rfl) (fun _ _ _ h => h) (Or.inr ⟨by rfl, rfl⟩) ?_
        try simp only [List.getElem_toArray, List.getElem_cons_zero, List.getElem_cons_succ, Act.put, List.setIfInBounds_toArray, List.set_cons_zero, List.set_cons_succ]
        refine wpAnyE_take (i := 10) (v := undef) (hsT1) (fun _ h => h) rfl (by kernel_rfl) (by kernel_rfl) (by kernel_rfl) (by kernel_rfl) (fun _ _ _ h => h) (Or.inr ⟨by rfl, rfl⟩) ?_
        try simp only [List.getElem_toArray, List.getElem_cons_zero, List.getElem_cons_succ, Act.put, List.setIfInBounds_toArray, List.set_cons_zero, List.set_cons_succ]
        refine wpAnyE_take (i := 11) (v := undef) (hsT1) (fun _ h => h) rfl (by kernel_rfl) (by kernel_rfl) (by kernel_rfl) (by kernel_rfl) (fun _ _ _ h => h) (Or.inr ⟨by rfl, rfl⟩) ?_
        try simp only [List.getElem_toArray, List.getElem_cons_zero, List.getElem_cons_succ, Act.put, List.setIfInBounds_toArray, List.set_cons_zero, List.set_cons_succ]
        refine wpAnyE_take (i := 12) (v := undef) (hsT1) (fun _ h => h) rfl (by kernel_rfl) (by kernel_rfl) (by kernel_rfl) (by kernel_rfl) (fun _ _ _ h => h) (Or.inr ⟨by rfl, rfl⟩) ?_
        try simp only [List.getElem_toArray, List.getElem_cons_zero, List.getElem_cons_succ, Act.put, List.setIfInBounds_toArray, List.set_cons_zero, List.set_cons_succ]
        refine wpAnyE_take (i := 13) (v := undef) (hsT1) (fun _ h => h) rfl (by kernel_rfl) (by kernel_rfl) (by kernel_rfl) (by kernel_rfl) (fun _ _ _ h => h) (Or.inr ⟨by rfl, rfl⟩) ?_
        try simp only [List.getElem_toArray, List.getElem_cons_zero, List.getElem_cons_succ, Act.put, List.setIfInBounds_toArray, List.set_cons_zero, List.set_cons_succ]
        refine wpAnyE_take (i := 14) (v := ?_) (hsT1) (fun _ h => h) rfl (by kernel_rfl) (by kernel_rfl) (by kernel_rfl) (by kernel_rfl) (fun _ _ _ h => h) (SteadyB.of_yields (Or.inl ⟨by rfl, ?_⟩)) ?_
        rotate_left
        · intro wq hSw
          go_simp
          (try with_reducible rfl)
        try simp only [List.getElem_toArray, List.getElem_cons_zero, List.getElem_cons_succ, Act.put, List.setIfInBounds_toArray, List.set_cons_zero, List.set_cons_succ]
        refine wpAnyE_take (i := 15) (v := ?_) (hsT1) (fun _ h => h) rfl (by kernel_rfl) (by kernel_rfl) (by kernel_rfl) (by kernel_rfl) (fun _ _ _ h => h) (SteadyB.of_yields (Or.inl ⟨by rfl, ?_⟩)) ?_
        rotate_left
        · intro wq hSw
          go_simp
          (try with_reducible rfl)
        try simp only [List.getElem_toArray, List.getElem_cons_zero, List.getElem_cons_succ, Act.put, List.setIfInBounds_toArray, List.set_cons_zero, List.set_cons_succ]
        refine wpAnyE_take (i := 16) (v := undef) (hsT1) (fun _ h => h) rfl (by kernel_rfl) (by kernel_rfl) (by kernel_rfl) (by kernel_rfl) (fun _ _ _ h => h) (Or.inr ⟨by rfl, rfl⟩) ?_
        try simp only [List.getElem_toArray, List.getElem_cons_zero, List.getElem_cons_succ, Act.put, List.setIfInBounds_toArray, List.set_cons_zero, List.set_cons_succ]
        refine wpAnyE_take (i := 17) (v := undef) (hsT1) (fun _ h => h) rfl (by kernel_rfl) (by kernel_rfl) (by kernel_rfl) (by kernel_rfl) (fun _ _ _ h => h) (Or.inr ⟨by rfl, rfl⟩) ?_
        try simp only [List.getElem_toArray, List.getElem_cons_zero, List.getElem_cons_succ, Act.put, List.setIfInBounds_toArray, List.set_cons_zero, List.set_cons_succ]
        refine wpAnyE_take (i := 18) (v := undef) (hsT1) (fun _ h => h) rfl (by kernel_rfl) (by kernel_rfl) (by kernel_rfl) (by kernel_rfl) (fun _ _ _ h => h) (Or.inr ⟨by rfl, rfl⟩) ?_
        try simp only [List.getElem_toArray, List.getElem_cons_zero, List.getElem_cons_succ, Act.put, List.setIfInBounds_toArray, List.set_cons_zero, List.set_cons_succ]
        refine wpAnyE_take (i := 19) (v := undef) (hsT1) (fun _ h => h) rfl (by kernel_rfl) (by kernel_rfl) (by kernel_rfl) (by kernel_rfl) (fun _ _ _ h => h) (Or.inr ⟨by rfl, rfl⟩) ?_
        try simp only [List.getElem_toArray, List.getElem_cons_zero, List.getElem_cons_succ, Act.put, List.setIfInBounds_toArray, List.set_cons_zero, List.set_cons_succ]
        refine wpAnyE_take (i := 20) (v := undef) (hsT1) (fun _ h => h) rfl (by kernel_rfl) (by kernel_rfl) (by kernel_rfl) (by kernel_rfl) (fun _ _ _ h => h) (Or.inr ⟨by rfl, rfl⟩) ?_
        try simp only [List.getElem_toArray, List.getElem_cons_zero, List.getElem_cons_succ, Act.put, List.setIfInBounds_toArray, List.set_cons_zero, List.set_cons_succ]
        refine wpAnyE_take (i := 21) (v := undef) (hsT1) (fun _ h => h) rfl (by kernel_rfl) (by kernel_rfl) (by kernel_rfl) (by kernel_rfl) (fun _ _ _ h => h) (Or.inr ⟨by rfl, rfl⟩) ?_
        try simp only [List.getElem_toArray, List.getElem_cons_zero, List.getElem_cons_succ, Act.put, List.setIfInBounds_toArray, List.set_cons_zero, List.set_cons_succ]
        refine wpAnyE_take (i := 22) (v := undef) (hsT1) (fun _ h => h) rfl (by kernel_rfl) (by kernel_rfl) (by kernel_rfl) (by kernel_rfl) (fun _ _ _ h => h) (Or.inr ⟨by rfl, rfl⟩) ?_
        try simp only [List.getElem_toArray, List.getElem_cons_zero, List.getElem_cons_succ, Act.put, List.setIfInBounds_toArray, List.set_cons_zero, List.set_cons_succ]
        refine wpAnyE_take (i := 23) (v := undef) (hsT1) (fun _ h => h) rfl (by kernel_rfl) (by kernel_rfl) (by kernel_rfl) (by kernel_rfl) (fun _ _ _ h => h) (Or.inr ⟨by rfl, rfl⟩) ?_
        try simp only [List.getElem_toArray, List.getElem_cons_zero, List.getElem_cons_succ, Act.put, List.setIfInBounds_toArray, List.set_cons_zero, List.set_cons_succ]
        refine wpAnyE_take (i := 24) (v := undef) (hsT1) (fun _ h => h) rfl (by kernel_rfl) (by kernel_rfl) (by kernel_rfl) (by kernel_rfl) (fun _ _ _ h => h) (Or.inr ⟨by rfl, rfl⟩) ?_
        try simp only [List.getElem_toArray, List.getElem_cons_zero, List.getElem_cons_succ, Act.put, List.setIfInBounds_toArray, List.set_cons_zero, List.set_cons_succ]
        refine wpAnyE_take (i := 25) (v := undef) (hsT1) (fun _ h => h) rfl (by kernel_rfl) (by kernel_rfl) (by kernel_rfl) (by kernel_rfl) (fun _ _ _ h => h) (Or.inr ⟨by rfl, rfl⟩) ?_
        try simp only [List.getElem_toArray, List.getElem_cons_zero, List.getElem_cons_succ, Act.put, List.setIfInBounds_toArray, List.set_cons_zero, List.set_cons_succ]
        refine wpAnyE_take (i := 26) (v := ?_) (hsT1) (fun _ h => h) rfl (by kernel_rfl) (by kernel_rfl) (by kernel_rfl) (by kernel_rfl) (fun _ _ _ h => h) (SteadyB.of_yields (Or.inl ⟨by rfl, ?_⟩)) ?_
        rotate_left
        · intro wq hSw
          go_simp
          (try with_reducible rfl)
        try simp only [List.getElem_toArray, List.getElem_cons_zero, List.getElem_cons_succ, Act.put, List.setIfInBounds_toArray, List.set_cons_zero, List.set_cons_succ]
        refine wpAnyE_done (by kernel_rfl) (fun wz hSz => ?_) _
        have HB9 := hid hSz.2
        clear hSz HQ
        go_wp2_with fail
        go_ret
        exact ⟨rfl, HB9.out⟩
      | true =>
        have HRT := hid hrt
        clear hrt
        by_cases g1 : dif x.u x0.t < -4611686018427387904
        · skip
          have hsT2 : Stays (fun wx => Cs wx ga x.cells ∧ Below w.heap.size w wx) := fun _ _ h hb => ⟨h.1.below hb, below_on h.2 hb⟩
          refine wp_region_grow (S := fun wx => Cs wx ga x.cells ∧ Below w.heap.size w wx) 27 (by kernel_rfl) (hsT2 _ _ (HQ.out) (Below.refl _ _).drew) ?_
          refine wpAnyE_take (i := 0) (v := ?_) (hsT2) (fun _ h => h) rfl (by kernel_rfl) (by kernel_rfl) (by kernel_rfl) (by kernel_rfl) (fun _ _ _ h => h) (SteadyB.of_yields (Or.inl ⟨by rfl, ?_⟩)) ?_
          rotate_left
          · intro wq hSw
            obtain ⟨p0, p1, p2, p3, p4, p5, p6⟩ := It.at x hSw.1
            have zz := H0.out _ hSw.2
            go_simp
            (try with_reducible rfl)
          try simp only [List.getElem_toArray, List.getElem_cons_zero, List.getElem_cons_succ, Act.put, List.setIfInBounds_toArray, List.set_cons_zero, List.set_cons_succ]
          refine wpAnyE_take (i := 1) (v := Value.bool true) (hsT2) (fun _ h => h) rfl (by kernel_rfl) (by kernel_rfl) (by kernel_rfl) (by kernel_rfl) (fun _ _ _ h => h) (Or.inl ⟨by rfl, fun wq hSw => ?_⟩) ?_
          · refine RunB.of_calls ((by have h := Item.right x wq; rw [HRT.out] at h; exact h)) (by go_simp) ?_
            rintro e wr ⟨rfl, hb⟩
            exact ⟨rfl, hb⟩
          try simp only [List.getElem_toArray, List.getElem_cons_zero, List.getElem_cons_succ, Act.put, List.setIfInBounds_toArray, List.set_cons_zero, List.set_cons_succ]
          refine wpAnyE_take (i := 2) (v := ?_) (hsT2) (fun _ h => h) rfl (by kernel_rfl) (by kernel_rfl) (by kernel_rfl) (by kernel_rfl) (fun _ _ _ h => h) (SteadyB.of_yields (Or.inl ⟨by rfl, ?_⟩)) ?_
          rotate_left
          · intro wq hSw
            go_simp
            (try with_reducible rfl)
          try simp only [List.getElem_toArray, List.getElem_cons_zero, List.getElem_cons_succ, Act.put, List.setIfInBounds_toArray, List.set_cons_zero, List.set_cons_succ]
          refine wpAnyE_take (i := 3) (v := ?_) (hsT2) (fun _ h => h) rfl (by kernel_rfl) (by kernel_rfl) (by kernel_rfl) (by kernel_rfl) (fun _ _ _ h => h) (SteadyB.of_yields (Or.inl ⟨by rfl, ?_⟩)) ?_
          rotate_left
          · intro wq hSw
            go_simp
            (try with_reducible rfl)
          try simp only [List.getElem_toArray, List.getElem_cons_zero, List.getElem_cons_succ, Act.put, List.setIfInBounds_toArray, List.set_cons_zero, List.set_cons_succ]
          refine wpAnyE_take (i := 4) (v := ?_) (hsT2) (fun _ h => h) rfl (by kernel_rfl) (by kernel_rfl) (by kernel_rfl) (by kernel_rfl) (fun _ _ _ h => h) (SteadyB.of_yields (Or.inl ⟨by rfl, ?_⟩)) ?_
          rotate_left
          · intro wq hSw
            go_simp
            (try with_reducible rfl)
          try simp only [List.getElem_toArray, List.getElem_cons_zero, List.getElem_cons_succ, Act.put, List.setIfInBounds_toArray, List.set_cons_zero, List.set_cons_succ]
          refine wpAnyE_take (i := 5) (v := ?_) (hsT2) (fun _ h => h) rfl (by kernel_rfl) (by kernel_rfl) (by kernel_rfl) (by kernel_rfl) (fun _ _ _ h => h) (SteadyB.of_yields (Or.inl ⟨by rfl, ?_⟩)) ?_
          rotate_left
          · intro wq hSw
            go_simp
            (try with_reducible rfl)
          try simp only [List.getElem_toArray, List.getElem_cons_zero, List.getElem_cons_succ, Act.put, List.setIfInBounds_toArray, List.set_cons_zero, List.set_cons_succ]
          refine wpAnyE_take (i := 6) (v := ?_) (hsT2) (fun _ h => h) rfl (by kernel_rfl) (by kernel_rfl) (by kernel_rfl) (by kernel_rfl) (fun _ _ _ h => h) (SteadyB.of_yields (Or.inl ⟨by rfl, ?_⟩)) ?_
          rotate_left
          · intro wq hSw
            obtain ⟨p0, p1, p2, p3, p4, p5, p6⟩ := It.at x hSw.1
            have zz := H0.out _ hSw.2
            go_simp
            (try with_reducible rfl)
          try simp only [List.getElem_toArray, List.getElem_cons_zero, List.getElem_cons_succ, Act.put, List.setIfInBounds_toArray, List.set_cons_zero, List.set_cons_succ]
          refine wpAnyE_take (i := 7) (v := ?_) (hsT2) (fun _ h => h) rfl (by kernel_rfl) (by kernel_rfl) (by kernel_rfl) (by kernel_rfl) (fun _ _ _ h => h) (SteadyB.of_yields (Or.inl ⟨by rfl, ?_⟩)) ?_
          rotate_left
          · intro wq hSw
            go_simp
            (try with_reducible rfl)
          try simp only [List.getElem_toArray, List.getElem_cons_zero, List.getElem_cons_succ, Act.put, List.setIfInBounds_toArray, List.set_cons_zero, List.set_cons_succ]
          refine wpAnyE_take (i := 8) (v := ?_) (hsT2) (fun _ h => h) rfl (by kernel_rfl) (by kernel_rfl) (by kernel_rfl) (by kernel_rfl) (fun _ _ _ h => h) (SteadyB.of_yields (Or.inl ⟨by rfl, ?_⟩)) ?_
          rotate_left
          · intro wq hSw
            go_simp
            (try with_reducible rfl)
          try simp only [List.getElem_toArray, List.getElem_cons_zero, List.getElem_cons_succ, Act.put, List.setIfInBounds_toArray, List.set_cons_zero, List.set_cons_succ]
          refine wpAnyE_take (i := 9) (v := ?_) (hsT2) (fun _ h => h) rfl (by kernel_rfl) (by kernel_rfl) (by kernel_rfl) (by kernel_rfl) (fun _ _ _ h => h) (SteadyB.of_yields (Or.inl ⟨by rfl, ?_⟩)) ?_
          rotate_left
          · intro wq hSw
            go_simp
            (try with_reducible rfl)
          try simp only [List.getElem_toArray, List.getElem_cons_zero, List.getElem_cons_succ, Act.put, List.setIfInBounds_toArray, List.set_cons_zero, List.set_cons_succ]
          refine wpAnyE_take (i := 10) (v := ?_) (hsT2) (fun _ h => h) rfl (by kernel_rfl) (by kernel_rfl) (by kernel_rfl) (by kernel_rfl) (fun _ _ _ h => h) (SteadyB.of_yields (Or.inl ⟨by rfl, ?_⟩)) ?_
          rotate_left
          · intro wq hSw
            go_simp
            (try with_reducible rfl)
          try simp only [List.getElem_toArray, List.getElem_cons_zero, List.getElem_cons_succ, Act.put, List.setIfInBounds_toArray, List.set_cons_zero, List.set_cons_succ]
          refine wpAnyE_take (i := 11) (v := ?_) (hsT2) (fun _ h => h) rfl (by kernel_rfl) (by kernel_rfl) (by kernel_rfl) (by kernel_rfl) (fun _ _ _ h => h) (SteadyB.of_yields (Or.inl ⟨by rfl, ?_⟩)) ?_
          rotate_left
          · intro wq hSw
            obtain ⟨p0, p1, p2, p3, p4, p5, p6⟩ := It.at x hSw.1
            have zz := H0.out _ hSw.2
            go_simp
            (try with_reducible rfl)
          try simp only [List.getElem_toArray, List.getElem_cons_zero, List.getElem_cons_succ, Act.put, List.setIfInBounds_toArray, List.set_cons_zero, List.set_cons_succ]
          refine wpAnyE_take (i := 12) (v := Value.int .i64 (dif x.u x0.t)) (hsT2) (fun _ h => h) rfl (by kernel_rfl) (by kernel_rfl) (by kernel_rfl) (by kernel_rfl) (fun _ _ _ h => h) (Or.inl ⟨by rfl, fun wq hSw => ?_⟩) ?_
          · refine RunB.of_calls (Vtime.since x.u x0.t wq) (by go_simp) ?_
            rintro e wr ⟨rfl, hb⟩
            exact ⟨rfl, hb⟩
          try simp only [List.getElem_toArray, List.getElem_cons_zero, List.getElem_cons_succ, Act.put, List.setIfInBounds_toArray, List.set_cons_zero, List.set_cons_succ]
          refine wpAnyE_take (i := 13) (v := ?_) (hsT2) (fun _ h => h) rfl (by kernel_rfl) (by kernel_rfl) (by kernel_rfl) (by kernel_rfl) (fun _ _ _ h => h) (SteadyB.of_yields (Or.inl ⟨by rfl, ?_⟩)) ?_
          rotate_left
          · intro wq hSw
            go_simp
            (try with_reducible rfl)
          try simp only [List.getElem_toArray, List.getElem_cons_zero, List.getElem_cons_succ, Act.put, List.setIfInBounds_toArray, List.set_cons_zero, List.set_cons_succ]
          refine wpAnyE_take (i := 14) (v := ?_) (hsT2) (fun _ h => h) rfl (by kernel_rfl) (by kernel_rfl) (by kernel_rfl) (by kernel_rfl) (fun _ _ _ h => h) (SteadyB.of_yields (Or.inl ⟨by rfl, ?_⟩)) ?_
          rotate_left
          · intro wq hSw
            go_simp
            (try with_reducible rfl)
          try simp only [List.getElem_toArray, List.getElem_cons_zero, List.getElem_cons_succ, Act.put, List.setIfInBounds_toArray, List.set_cons_zero, List.set_cons_succ]
          refine wpAnyE_take (i := 15) (v := ?_) (hsT2) (fun _ h => h) rfl (by kernel_rfl) (by kernel_rfl) (by kernel_rfl) (by kernel_rfl) (fun _ _ _ h => h) (SteadyB.of_yields (Or.inl ⟨by rfl, ?_⟩)) ?_
          rotate_left
          · intro wq hSw
            go_simp
            (try with_reducible rfl)
          try simp only [List.getElem_toArray, List.getElem_cons_zero, List.getElem_cons_succ, Act.put, List.setIfInBounds_toArray, List.set_cons_zero, List.set_cons_succ]
          refine wpAnyE_take (i := 16) (v := undef) (hsT2) (fun _ h => h) rfl (by kernel_rfl) (by kernel_rfl) (by kernel_rfl) (by kernel_rfl) (fun _ _ _ h => h) (Or.inr ⟨by rfl, rfl⟩) ?_
          try simp only [List.getElem_toArray, List.getElem_cons_zero, List.getElem_cons_succ, Act.put, List.setIfInBounds_toArray, List.set_cons_zero, List.set_cons_succ]
          refine wpAnyE_take (i := 17) (v := undef) (hsT2) (fun _ h => h) rfl (by kernel_rfl) (by kernel_rfl) (by kernel_rfl) (by kernel_rfl) (fun _ _ _ h => h) (Or.inr ⟨by rfl, rfl⟩) ?_
          try simp only [List.getElem_toArray, List.getElem_cons_zero, List.getElem_cons_succ, Act.put, List.setIfInBounds_toArray, List.set_cons_zero, List.set_cons_succ]
          refine wpAnyE_take (i := 18) (v := undef) (hsT2) (fun _ h => h) rfl (by kernel_rfl) (by kernel_rfl) (by kernel_rfl) (by kernel_rfl) (fun _ _ _ h => h) (Or.inr ⟨by rfl, rfl⟩) ?_
          try simp only [List.getElem_toArray, List.getElem_cons_zero, List.getElem_cons_succ, Act.put, List.setIfInBounds_toArray, List.set_cons_zero, List.set_cons_succ]
          refine wpAnyE_take (i := 19) (v := undef) (hsT2) (fun _ h => h) rfl (by kernel_rfl) (by kernel_rfl) (by kernel_rfl) (by kernel_rfl) (fun _ _ _ h => h) (Or.inr ⟨by rfl, rfl⟩) ?_
          try simp only [List.getElem_toArray, List.getElem_cons_zero, List.getElem_cons_succ, Act.put, List.setIfInBounds_toArray, List.set_cons_zero, List.set_cons_succ]
          refine wpAnyE_take (i := 20) (v := undef) (hsT2) (fun _ h => h) rfl (by kernel_rfl) (by kernel_rfl) (by kernel_rfl) (by kernel_rfl) (fun _ _ _ h => h) (Or.inr ⟨by rfl, rfl⟩) ?_
          try simp only [List.getElem_toArray, List.getElem_cons_zero, List.getElem_cons_succ, Act.put, List.setIfInBounds_toArray, List.set_cons_zero, List.set_cons_succ]
          refine wpAnyE_take (i := 21) (v := undef) (hsT2) (fun _ h => h) rfl (by kernel_rfl) (by kernel_rfl) (by kernel_rfl) (by kernel_rfl) (fun _ _ _ h => h) (Or.inr ⟨by rfl, rfl⟩) ?_
          try simp only [List.getElem_toArray, List.getElem_cons_zero, List.getElem_cons_succ, Act.put, List.setIfInBounds_toArray, List.set_cons_zero, List.set_cons_succ]
          refine wpAnyE_take (i := 22) (v := undef) (hsT2) (fun _ h => h) rfl (by kernel_rfl) (by kernel_rfl) (by kernel_rfl) (by kernel_rfl) (fun _ _ _ h => h) (Or.inr ⟨by rfl, rfl⟩) ?_
          try simp only [List.getElem_toArray, List.getElem_cons_zero, List.getElem_cons_succ, Act.put, List.setIfInBounds_toArray, List.set_cons_zero, List.set_cons_succ]
          refine wpAnyE_take (i := 23) (v := undef) (hsT2) (fun _ h => h) rfl (by kernel_rfl) (by kernel_rfl) (by kernel_rfl) (by kernel_rfl) (fun _ _ _ h => h) (Or.inr ⟨by rfl, rfl⟩) ?_
          try simp only [List.getElem_toArray, List.getElem_cons_zero, List.getElem_cons_succ, Act.put, List.setIfInBounds_toArray, List.set_cons_zero, List.set_cons_succ]
          refine wpAnyE_take (i := 24) (v := undef) (hsT2) (fun _ h => h) rfl (by kernel_rfl) (by kernel_rfl) (by kernel_rfl) (by kernel_rfl) (fun _ _ _ h => h) (Or.inr ⟨by rfl, rfl⟩) ?_
          try simp only [List.getElem_toArray, List.getElem_cons_zero, List.getElem_cons_succ, Act.put, List.setIfInBounds_toArray, List.set_cons_zero, List.set_cons_succ]
          refine wpAnyE_take (i := 25) (v := undef) (hsT2) (fun _ h => h) rfl (by kernel_rfl) (by kernel_rfl) (by kernel_rfl) (by kernel_rfl) (fun _ _ _ h => h) (Or.inr ⟨by rfl, rfl⟩) ?_
          try simp only [List.getElem_toArray, List.getElem_cons_zero, List.getElem_cons_succ, Act.put, List.setIfInBounds_toArray, List.set_cons_zero, List.set_cons_succ]
          refine wpAnyE_take (i := 26) (v := ?_) (hsT2) (fun _ h => h) rfl (by kernel_rfl) (by kernel_rfl) (by kernel_rfl) (by kernel_rfl) (fun _ _ _ h => h) (SteadyB.of_yields (Or.inl ⟨by rfl, ?_⟩)) ?_
          rotate_left
          · intro wq hSw
            go_simp
            (try with_reducible rfl)
          try simp only [List.getElem_toArray, List.getElem_cons_zero, List.getElem_cons_succ, Act.put, List.setIfInBounds_toArray, List.set_cons_zero, List.set_cons_succ]
          refine wpAnyE_done (by kernel_rfl) (fun wz hSz => ?_) _
          have HB9 := hid hSz.2
          clear hSz HQ
          go_wp2_with fail
          go_ret
          exact ⟨rfl, HB9.out⟩
        · by_cases g2 : dif x.t x0.t < -4611686018427387904
          · skip
            have hsT3 : Stays (fun wx => Cs wx ga x.cells ∧ Below w.heap.size w wx) := fun _ _ h hb => ⟨h.1.below hb, below_on h.2 hb⟩
            refine wp_region_grow (S := fun wx => Cs wx ga x.cells ∧ Below w.heap.size w wx) 27 (by kernel_rfl) (hsT3 _ _ (HQ.out) (Below.refl _ _).drew) ?_
            refine wpAnyE_take (i := 0) (v := ?_) (hsT3) (fun _ h => h) rfl (by kernel_rfl) (by kernel_rfl) (by kernel_rfl) (by kernel_rfl) (fun _ _ _ h => h) (SteadyB.of_yields (Or.inl ⟨by rfl, ?_⟩)) ?_
            rotate_left
            · intro wq hSw
              obtain ⟨p0, p1, p2, p3, p4, p5, p6⟩ := It.at x hSw.1
              have zz := H0.out _ hSw.2
              go_simp
              (try with_reducible rfl)
            try simp only [List.getElem_toArray, List.getElem_cons_zero, List.getElem_cons_succ, Act.put, List.setIfInBounds_toArray, List.set_cons_zero, List.set_cons_succ]
            refine wpAnyE_take (i := 1) (v := Value.bool true) (hsT3) (fun _ h => h) rfl (by kernel_rfl) (by kernel_rfl) (by kernel_rfl) (by kernel_rfl) (fun _ _ _ h => h) (Or.inl ⟨by rfl, fun wq hSw => ?_⟩) ?_
            · refine RunB.of_calls ((by have h := Item.right x wq; rw [HRT.out] at h; exact h)) (by go_simp) ?_
              rintro e wr ⟨rfl, hb⟩
              exact ⟨rfl, hb⟩
            try simp only [List.getElem_toArray, List.getElem_cons_zero, List.getElem_cons_succ, Act.put, List.setIfInBounds_toArray, List.set_cons_zero, List.set_cons_succ]
            refine wpAnyE_take (i := 2) (v := ?_) (hsT3) (fun _ h => h) rfl (by kernel_rfl) (by kernel_rfl) (by kernel_rfl) (by kernel_rfl) (fun _ _ _ h => h) (SteadyB.of_yields (Or.inl ⟨by rfl, ?_⟩)) ?_
            rotate_left
            · intro wq hSw
              go_simp
              (try with_reducible rfl)
            try simp only [List.getElem_toArray, List.getElem_cons_zero, List.getElem_cons_succ, Act.put, List.setIfInBounds_toArray, List.set_cons_zero, List.set_cons_succ]
            refine wpAnyE_take (i := 3) (v := ?_) (hsT3) (fun _ h => h) rfl (by kernel_rfl) (by kernel_rfl) (by kernel_rfl) (by kernel_rfl) (fun _ _ _ h => h) (SteadyB.of_yields (Or.inl ⟨by rfl, ?_⟩)) ?_
            rotate_left
            · intro wq hSw
              go_simp
              (try with_reducible rfl)
            try simp only [List.getElem_toArray, List.getElem_cons_zero, List.getElem_cons_succ, Act.put, List.setIfInBounds_toArray, List.set_cons_zero, List.set_cons_succ]
            refine wpAnyE_take (i := 4) (v := ?_) (hsT3) (fun _ h => h) rfl (by kernel_rfl) (by kernel_rfl) (by kernel_rfl) (by kernel_rfl) (fun _ _ _ h => h) (SteadyB.of_yields (Or.inl ⟨by rfl, ?_⟩)) ?_
            rotate_left
            · intro wq hSw
              go_simp
              (try with_reducible rfl)
            try simp only [List.getElem_toArray, List.getElem_cons_zero, List.getElem_cons_succ, Act.put, List.setIfInBounds_toArray, List.set_cons_zero, List.set_cons_succ]
            refine wpAnyE_take (i := 5) (v := ?_) (hsT3) (fun _ h => h) rfl (by kernel_rfl) (by kernel_rfl) (by kernel_rfl) (by kernel_rfl) (fun _ _ _ h => h) (SteadyB.of_yields (Or.inl ⟨by rfl, ?_⟩)) ?_
            rotate_left
            · intro wq hSw
              go_simp
              (try with_reducible rfl)
            try simp only [List.getElem_toArray, List.getElem_cons_zero, List.getElem_cons_succ, Act.put, List.setIfInBounds_toArray, List.set_cons_zero, List.set_cons_succ]
            refine wpAnyE_take (i := 6) (v := ?_) (hsT3) (fun _ h => h) rfl (by kernel_rfl) (by kernel_rfl) (by kernel_rfl) (by kernel_rfl) (fun _ _ _ h => h) (SteadyB.of_yields (Or.inl ⟨by rfl, ?_⟩)) ?_
            rotate_left
            · intro wq hSw
              obtain ⟨p0, p1, p2, p3, p4, p5, p6⟩ := It.at x hSw.1
              have zz := H0.out _ hSw.2
              go_simp
              (try with_reducible rfl)
            try simp only [List.getElem_toArray, List.getElem_cons_zero, List.getElem_cons_succ, Act.put, List.setIfInBounds_toArray, List.set_cons_zero, List.set_cons_succ]
            refine wpAnyE_take (i := 7) (v := ?_) (hsT3) (fun _ h => h) rfl (by kernel_rfl) (by kernel_rfl) (by kernel_rfl) (by kernel_rfl) (fun _ _ _ h => h) (SteadyB.of_yields (Or.inl ⟨by rfl, ?_⟩)) ?_
            rotate_left
            · intro wq hSw
              go_simp
              (try with_reducible rfl)
            try simp only [List.getElem_toArray, List.getElem_cons_zero, List.getElem_cons_succ, Act.put, List.setIfInBounds_toArray, List.set_cons_zero, List.set_cons_succ]
            refine wpAnyE_take (i := 8) (v := ?_) (hsT3) (fun _ h => h) rfl (by kernel_rfl) (by kernel_rfl) (by kernel_rfl) (by kernel_rfl) (fun _ _ _ h => h) (SteadyB.of_yields (Or.inl ⟨by rfl, ?_⟩)) ?_
            rotate_left
            · intro wq hSw
              go_simp
              (try with_reducible rfl)
            try simp only [List.getElem_toArray, List.getElem_cons_zero, List.getElem_cons_succ, Act.put, List.setIfInBounds_toArray, List.set_cons_zero, List.set_cons_succ]
            refine wpAnyE_take (i := 9) (v := ?_) (hsT3) (fun _ h => h) rfl (by kernel_rfl) (by kernel_rfl) (by kernel_rfl) (by kernel_rfl) (fun _ _ _ h => h) (SteadyB.of_yields (Or.inl ⟨by rfl, ?_⟩)) ?_
            rotate_left
            · intro wq hSw
              go_simp
              (try with_reducible rfl)
            try simp only [List.getElem_toArray, List.getElem_cons_zero, List.getElem_cons_succ, Act.put, List.setIfInBounds_toArray, List.set_cons_zero, List.set_cons_succ]
            refine wpAnyE_take (i := 10) (v := ?_) (hsT3) (fun _ h => h) rfl (by kernel_rfl) (by kernel_rfl) (by kernel_rfl) (by kernel_rfl) (fun _ _ _ h => h) (SteadyB.of_yields (Or.inl ⟨by rfl, ?_⟩)) ?_
            rotate_left
            · intro wq hSw
              go_simp
              (try with_reducible rfl)
            try simp only [List.getElem_toArray, List.getElem_cons_zero, List.getElem_cons_succ, Act.put, List.setIfInBounds_toArray, List.set_cons_zero, List.set_cons_succ]
            refine wpAnyE_take (i := 11) (v := ?_) (hsT3) (fun _ h => h) rfl (by kernel_rfl) (by kernel_rfl) (by kernel_rfl) (by kernel_rfl) (fun _ _ _ h => h) (SteadyB.of_yields (Or.inl ⟨by rfl, ?_⟩)) ?_
            rotate_left
            · intro wq hSw
              obtain ⟨p0, p1, p2, p3, p4, p5, p6⟩ := It.at x hSw.1
              have zz := H0.out _ hSw.2
              go_simp
              (try with_reducible rfl)
            try simp only [List.getElem_toArray, List.getElem_cons_zero, List.getElem_cons_succ, Act.put, List.setIfInBounds_toArray, List.set_cons_zero, List.set_cons_succ]
            refine wpAnyE_take (i := 12) (v := Value.int .i64 (dif x.u x0.t)) (hsT3) (fun _ h => h) rfl (by kernel_rfl) (by kernel_rfl) (by kernel_rfl) (by kernel_rfl) (fun _ _ _ h => h) (Or.inl ⟨by rfl, fun wq hSw => ?_⟩) ?_
            · refine RunB.of_calls (Vtime.since x.u x0.t wq) (by go_simp) ?_
              rintro e wr ⟨rfl, hb⟩
              exact ⟨rfl, hb⟩
            try simp only [List.getElem_toArray, List.getElem_cons_zero, List.getElem_cons_succ, Act.put, List.setIfInBounds_toArray, List.set_cons_zero, List.set_cons_succ]
            refine wpAnyE_take (i := 13) (v := ?_) (hsT3) (fun _ h => h) rfl (by kernel_rfl) (by kernel_rfl) (by kernel_rfl) (by kernel_rfl) (fun _ _ _ h => h) (SteadyB.of_yields (Or.inl ⟨by rfl, ?_⟩)) ?_
            rotate_left
            · intro wq hSw
              go_simp
              (try with_reducible rfl)
            try simp only [List.getElem_toArray, List.getElem_cons_zero, List.getElem_cons_succ, Act.put, List.setIfInBounds_toArray, List.set_cons_zero, List.set_cons_succ]
            refine wpAnyE_take (i := 14) (v := ?_) (hsT3) (fun _ h => h) rfl (by kernel_rfl) (by kernel_rfl) (by kernel_rfl) (by kernel_rfl) (fun _ _ _ h => h) (SteadyB.of_yields (Or.inl ⟨by rfl, ?_⟩)) ?_
            rotate_left
            · intro wq hSw
              go_simp
              (try with_reducible rfl)
            try simp only [List.getElem_toArray, List.getElem_cons_zero, List.getElem_cons_succ, Act.put, List.setIfInBounds_toArray, List.set_cons_zero, List.set_cons_succ]
            refine wpAnyE_take (i := 15) (v := ?_) (hsT3) (fun _ h => h) rfl (by kernel_rfl) (by kernel_rfl) (by kernel_rfl) (by kernel_rfl) (fun _ _ _ h => h) (SteadyB.of_yields (Or.inl ⟨by rfl, ?_⟩)) ?_
            rotate_left
            · intro wq hSw
              go_simp
              (try with_reducible rfl)
            try simp only [List.getElem_toArray, List.getElem_cons_zero, List.getElem_cons_succ, Act.put, List.setIfInBounds_toArray, List.set_cons_zero, List.set_cons_succ]
            refine wpAnyE_take (i := 16) (v := ?_) (hsT3) (fun _ h => h) rfl (by kernel_rfl) (by kernel_rfl) (by kernel_rfl) (by kernel_rfl) (fun _ _ _ h => h) (SteadyB.of_yields (Or.inl ⟨by rfl, ?_⟩)) ?_
            rotate_left
            · intro wq hSw
              go_simp
              (try with_reducible rfl)
            try simp only [List.getElem_toArray, List.getElem_cons_zero, List.getElem_cons_succ, Act.put, List.setIfInBounds_toArray, List.set_cons_zero, List.set_cons_succ]
            refine wpAnyE_take (i := 17) (v := ?_) (hsT3) (fun _ h => h) rfl (by kernel_rfl) (by kernel_rfl) (by kernel_rfl) (by kernel_rfl) (fun _ _ _ h => h) (SteadyB.of_yields (Or.inl ⟨by rfl, ?_⟩)) ?_
            rotate_left
            · intro wq hSw
              go_simp
              (try with_reducible rfl)
            try simp only [List.getElem_toArray, List.getElem_cons_zero, List.getElem_cons_succ, Act.put, List.setIfInBounds_toArray, List.set_cons_zero, List.set_cons_succ]
            refine wpAnyE_take (i := 18) (v := ?_) (hsT3) (fun _ h => h) rfl (by kernel_rfl) (by kernel_rfl) (by kernel_rfl) (by kernel_rfl) (fun _ _ _ h => h) (SteadyB.of_yields (Or.inl ⟨by rfl, ?_⟩)) ?_
            rotate_left
            · intro wq hSw
              obtain ⟨p0, p1, p2, p3, p4, p5, p6⟩ := It.at x hSw.1
              have zz := H0.out _ hSw.2
              go_simp
              (try with_reducible rfl)
            try simp only [List.getElem_toArray, List.getElem_cons_zero, List.getElem_cons_succ, Act.put, List.setIfInBounds_toArray, List.set_cons_zero, List.set_cons_succ]
            refine wpAnyE_take (i := 19) (v := ?_) (hsT3) (fun _ h => h) rfl (by kernel_rfl) (by kernel_rfl) (by kernel_rfl) (by kernel_rfl) (fun _ _ _ h => h) (SteadyB.of_yields (Or.inl ⟨by rfl, ?_⟩)) ?_
            rotate_left
            · intro wq hSw
              go_simp
              (try with_reducible rfl)
            try simp only [List.getElem_toArray, List.getElem_cons_zero, List.getElem_cons_succ, Act.put, List.setIfInBounds_toArray, List.set_cons_zero, List.set_cons_succ]
            refine wpAnyE_take (i := 20) (v := ?_) (hsT3) (fun _ h => h) rfl (by kernel_rfl) (by kernel_rfl) (by kernel_rfl) (by kernel_rfl) (fun _ _ _ h => h) (SteadyB.of_yields (Or.inl ⟨by rfl, ?_⟩)) ?_
            rotate_left
            · intro wq hSw
              go_simp
              (try with_reducible rfl)
            try simp only [List.getElem_toArray, List.getElem_cons_zero, List.getElem_cons_succ, Act.put, List.setIfInBounds_toArray, List.set_cons_zero, List.set_cons_succ]
            refine wpAnyE_take (i := 21) (v := ?_) (hsT3) (fun _ h => h) rfl (by kernel_rfl) (by kernel_rfl) (by kernel_rfl) (by kernel_rfl) (fun _ _ _ h => h) (SteadyB.of_yields (Or.inl ⟨by rfl, ?_⟩)) ?_
            rotate_left
            · intro wq hSw
              go_simp
              (try with_reducible rfl)
            try simp only [List.getElem_toArray, List.getElem_cons_zero, List.getElem_cons_succ, Act.put, List.setIfInBounds_toArray, List.set_cons_zero, List.set_cons_succ]
            refine wpAnyE_take (i := 22) (v := ?_) (hsT3) (fun _ h => h) rfl (by kernel_rfl) (by kernel_rfl) (by kernel_rfl) (by kernel_rfl) (fun _ _ _ h => h) (SteadyB.of_yields (Or.inl ⟨by rfl, ?_⟩)) ?_
            rotate_left
            · intro wq hSw
              go_simp
              (try with_reducible rfl)
            try simp only [List.getElem_toArray, List.getElem_cons_zero, List.getElem_cons_succ, Act.put, List.setIfInBounds_toArray, List.set_cons_zero, List.set_cons_succ]
            refine wpAnyE_take (i := 23) (v := ?_) (hsT3) (fun _ h => h) rfl (by kernel_rfl) (by kernel_rfl) (by kernel_rfl) (by kernel_rfl) (fun _ _ _ h => h) (SteadyB.of_yields (Or.inl ⟨by rfl, ?_⟩)) ?_
            rotate_left
            · intro wq hSw
              obtain ⟨p0, p1, p2, p3, p4, p5, p6⟩ := It.at x hSw.1
              have zz := H0.out _ hSw.2
              go_simp
              (try with_reducible rfl)
            try simp only [List.getElem_toArray, List.getElem_cons_zero, List.getElem_cons_succ, Act.put, List.setIfInBounds_toArray, List.set_cons_zero, List.set_cons_succ]
            refine wpAnyE_take (i := 24) (v := Value.int .i64 (dif x.t x0.t)) (hsT3) (fun _ h => h) rfl (by kernel_rfl) (by kernel_rfl) (by kernel_rfl) (by kernel_rfl) (fun _ _ _ h => h) (Or.inl ⟨by rfl, fun wq hSw => ?_⟩) ?_
            · refine RunB.of_calls (Vtime.since x.t x0.t wq) (by go_simp) ?_
              rintro e wr ⟨rfl, hb⟩
              exact ⟨rfl, hb⟩
            try simp only [List.getElem_toArray, List.getElem_cons_zero, List.getElem_cons_succ, Act.put, List.setIfInBounds_toArray, List.set_cons_zero, List.set_cons_succ]
            refine wpAnyE_take (i := 25) (v := ?_) (hsT3) (fun _ h => h) rfl (by kernel_rfl) (by kernel_rfl) (by kernel_rfl) (by kernel_rfl) (fun _ _ _ h => h) (SteadyB.of_yields (Or.inl ⟨by rfl, ?_⟩)) ?_
            rotate_left
            · intro wq hSw
              go_simp
              (try with_reducible rfl)
            try simp only [List.getElem_toArray, List.getElem_cons_zero, List.getElem_cons_succ, Act.put, List.setIfInBounds_toArray, List.set_cons_zero, List.set_cons_succ]
            refine wpAnyE_take (i := 26) (v := ?_) (hsT3) (fun _ h => h) rfl (by kernel_rfl) (by kernel_rfl) (by kernel_rfl) (by kernel_rfl) (fun _ _ _ h => h) (SteadyB.of_yields (Or.inl ⟨by rfl, ?_⟩)) ?_
            rotate_left
            · intro wq hSw
              go_simp
              (try with_reducible rfl)
            try simp only [List.getElem_toArray, List.getElem_cons_zero, List.getElem_cons_succ, Act.put, List.setIfInBounds_toArray, List.set_cons_zero, List.set_cons_succ]
            refine wpAnyE_done (by kernel_rfl) (fun wz hSz => ?_) _
            have HB9 := hid hSz.2
            clear hSz HQ
            go_wp2_with fail
            go_ret
            exact ⟨rfl, HB9.out⟩
          · have HN := hid (HNK.out ⟨HRT.out, by omega, by omega⟩)
            have hsT4 : Stays (fun wx => Cs wx ga x.cells ∧ Below w.heap.size w wx) := fun _ _ h hb => ⟨h.1.below hb, below_on h.2 hb⟩
            refine wp_region_grow (S := fun wx => Cs wx ga x.cells ∧ Below w.heap.size w wx) 27 (by kernel_rfl) (hsT4 _ _ (HQ.out) (Below.refl _ _).drew) ?_
            refine wpAnyE_take (i := 0) (v := ?_) (hsT4) (fun _ h => h) rfl (by kernel_rfl) (by kernel_rfl) (by kernel_rfl) (by kernel_rfl) (fun _ _ _ h => h) (SteadyB.of_yields (Or.inl ⟨by rfl, ?_⟩)) ?_
            rotate_left
            · intro wq hSw
              obtain ⟨p0, p1, p2, p3, p4, p5, p6⟩ := It.at x hSw.1
              have zz := H0.out _ hSw.2
              go_simp
              (try with_reducible rfl)
            try simp only [List.getElem_toArray, List.getElem_cons_zero, List.getElem_cons_succ, Act.put, List.setIfInBounds_toArray, List.set_cons_zero, List.set_cons_succ]
            refine wpAnyE_take (i := 1) (v := Value.bool true) (hsT4) (fun _ h => h) rfl (by kernel_rfl) (by kernel_rfl) (by kernel_rfl) (by kernel_rfl) (fun _ _ _ h => h) (Or.inl ⟨by rfl, fun wq hSw => ?_⟩) ?_
            · refine RunB.of_calls ((by have h := Item.right x wq; rw [HRT.out] at h; exact h)) (by go_simp) ?_
              rintro e wr ⟨rfl, hb⟩
              exact ⟨rfl, hb⟩
            try simp only [List.getElem_toArray, List.getElem_cons_zero, List.getElem_cons_succ, Act.put, List.setIfInBounds_toArray, List.set_cons_zero, List.set_cons_succ]
            refine wpAnyE_take (i := 2) (v := ?_) (hsT4) (fun _ h => h) rfl (by kernel_rfl) (by kernel_rfl) (by kernel_rfl) (by kernel_rfl) (fun _ _ _ h => h) (SteadyB.of_yields (Or.inl ⟨by rfl, ?_⟩)) ?_
            rotate_left
            · intro wq hSw
              go_simp
              (try with_reducible rfl)
            try simp only [List.getElem_toArray, List.getElem_cons_zero, List.getElem_cons_succ, Act.put, List.setIfInBounds_toArray, List.set_cons_zero, List.set_cons_succ]
            refine wpAnyE_take (i := 3) (v := ?_) (hsT4) (fun _ h => h) rfl (by kernel_rfl) (by kernel_rfl) (by kernel_rfl) (by kernel_rfl) (fun _ _ _ h => h) (SteadyB.of_yields (Or.inl ⟨by rfl, ?_⟩)) ?_
            rotate_left
            · intro wq hSw
              go_simp
              (try with_reducible rfl)
            try simp only [List.getElem_toArray, List.getElem_cons_zero, List.getElem_cons_succ, Act.put, List.setIfInBounds_toArray, List.set_cons_zero, List.set_cons_succ]
            refine wpAnyE_take (i := 4) (v := ?_) (hsT4) (fun _ h => h) rfl (by kernel_rfl) (by kernel_rfl) (by kernel_rfl) (by kernel_rfl) (fun _ _ _ h => h) (SteadyB.of_yields (Or.inl ⟨by rfl, ?_⟩)) ?_
            rotate_left
            · intro wq hSw
              go_simp
              (try with_reducible rfl)
            try simp only [List.getElem_toArray, List.getElem_cons_zero, List.getElem_cons_succ, Act.put, List.setIfInBounds_toArray, List.set_cons_zero, List.set_cons_succ]
            refine wpAnyE_take (i := 5) (v := ?_) (hsT4) (fun _ h => h) rfl (by kernel_rfl) (by kernel_rfl) (by kernel_rfl) (by kernel_rfl) (fun _ _ _ h => h) (SteadyB.of_yields (Or.inl ⟨by rfl, ?_⟩)) ?_
            rotate_left
            · intro wq hSw
              go_simp
              (try with_reducible rfl)
            try simp only [List.getElem_toArray, List.getElem_cons_zero, List.getElem_cons_succ, Act.put, List.setIfInBounds_toArray, List.set_cons_zero, List.set_cons_succ]
            refine wpAnyE_take (i := 6) (v := ?_) (hsT4) (fun _ h => h) rfl (by kernel_rfl) (by kernel_rfl) (by kernel_rfl) (by kernel_rfl) (fun _ _ _ h => h) (SteadyB.of_yields (Or.inl ⟨by rfl, ?_⟩)) ?_
            rotate_left
            · intro wq hSw
              obtain ⟨p0, p1, p2, p3, p4, p5, p6⟩ := It.at x hSw.1
              have zz := H0.out _ hSw.2
              go_simp
              (try with_reducible rfl)
            try simp only [List.getElem_toArray, List.getElem_cons_zero, List.getElem_cons_succ, Act.put, List.setIfInBounds_toArray, List.set_cons_zero, List.set_cons_succ]
            refine wpAnyE_take (i := 7) (v := ?_) (hsT4) (fun _ h => h) rfl (by kernel_rfl) (by kernel_rfl) (by kernel_rfl) (by kernel_rfl) (fun _ _ _ h => h) (SteadyB.of_yields (Or.inl ⟨by rfl, ?_⟩)) ?_
            rotate_left
            · intro wq hSw
              go_simp
              (try with_reducible rfl)
            try simp only [List.getElem_toArray, List.getElem_cons_zero, List.getElem_cons_succ, Act.put, List.setIfInBounds_toArray, List.set_cons_zero, List.set_cons_succ]
            refine wpAnyE_take (i := 8) (v := ?_) (hsT4) (fun _ h => h) rfl (by kernel_rfl) (by kernel_rfl) (by kernel_rfl) (by kernel_rfl) (fun _ _ _ h => h) (SteadyB.of_yields (Or.inl ⟨by rfl, ?_⟩)) ?_
            rotate_left
            · intro wq hSw
              go_simp
              (try with_reducible rfl)
            try simp only [List.getElem_toArray, List.getElem_cons_zero, List.getElem_cons_succ, Act.put, List.setIfInBounds_toArray, List.set_cons_zero, List.set_cons_succ]
            refine wpAnyE_take (i := 9) (v := ?_) (hsT4) (fun _ h => h) rfl (by kernel_rfl) (by kernel_rfl) (by kernel_rfl) (by kernel_rfl) (fun _ _ _ h => h) (SteadyB.of_yields (Or.inl ⟨by rfl, ?_⟩)) ?_
            rotate_left
            · intro wq hSw
              go_simp
              (try with_reducible rfl)
            try simp only [List.getElem_toArray, List.getElem_cons_zero, List.getElem_cons_succ, Act.put, List.setIfInBounds_toArray, List.set_cons_zero, List.set_cons_succ]
            refine wpAnyE_take (i := 10) (v := ?_) (hsT4) (fun _ h => h) rfl (by kernel_rfl) (by kernel_rfl) (by kernel_rfl) (by kernel_rfl) (fun _ _ _ h => h) (SteadyB.of_yields (Or.inl ⟨by rfl, ?_⟩)) ?_
            rotate_left
            · intro wq hSw
              go_simp
              (try with_reducible rfl)
            try simp only [List.getElem_toArray, List.getElem_cons_zero, List.getElem_cons_succ, Act.put, List.setIfInBounds_toArray, List.set_cons_zero, List.set_cons_succ]
            refine wpAnyE_take (i := 11) (v := ?_) (hsT4) (fun _ h => h) rfl (by kernel_rfl) (by kernel_rfl) (by kernel_rfl) (by kernel_rfl) (fun _ _ _ h => h) (SteadyB.of_yields (Or.inl ⟨by rfl, ?_⟩)) ?_
            rotate_left
            · intro wq hSw
              obtain ⟨p0, p1, p2, p3, p4, p5, p6⟩ := It.at x hSw.1
              have zz := H0.out _ hSw.2
              go_simp
              (try with_reducible rfl)
            try simp only [List.getElem_toArray, List.getElem_cons_zero, List.getElem_cons_succ, Act.put, List.setIfInBounds_toArray, List.set_cons_zero, List.set_cons_succ]
            refine wpAnyE_take (i := 12) (v := Value.int .i64 (dif x.u x0.t)) (hsT4) (fun _ h => h) rfl (by kernel_rfl) (by kernel_rfl) (by kernel_rfl) (by kernel_rfl) (fun _ _ _ h => h) (Or.inl ⟨by rfl, fun wq hSw => ?_⟩) ?_
            · refine RunB.of_calls (Vtime.since x.u x0.t wq) (by go_simp) ?_
              rintro e wr ⟨rfl, hb⟩
              exact ⟨rfl, hb⟩
            try simp only [List.getElem_toArray, List.getElem_cons_zero, List.getElem_cons_succ, Act.put, List.setIfInBounds_toArray, List.set_cons_zero, List.set_cons_succ]
            refine wpAnyE_take (i := 13) (v := ?_) (hsT4) (fun _ h => h) rfl (by kernel_rfl) (by kernel_rfl) (by kernel_rfl) (by kernel_rfl) (fun _ _ _ h => h) (SteadyB.of_yields (Or.inl ⟨by rfl, ?_⟩)) ?_
            rotate_left
            · intro wq hSw
              go_simp
              (try with_reducible rfl)
            try simp only [List.getElem_toArray, List.getElem_cons_zero, List.getElem_cons_succ, Act.put, List.setIfInBounds_toArray, List.set_cons_zero, List.set_cons_succ]
            refine wpAnyE_take (i := 14) (v := ?_) (hsT4) (fun _ h => h) rfl (by kernel_rfl) (by kernel_rfl) (by kernel_rfl) (by kernel_rfl) (fun _ _ _ h => h) (SteadyB.of_yields (Or.inl ⟨by rfl, ?_⟩)) ?_
            rotate_left
            · intro wq hSw
              go_simp
              (try with_reducible rfl)
            try simp only [List.getElem_toArray, List.getElem_cons_zero, List.getElem_cons_succ, Act.put, List.setIfInBounds_toArray, List.set_cons_zero, List.set_cons_succ]
            refine wpAnyE_take (i := 15) (v := ?_) (hsT4) (fun _ h => h) rfl (by kernel_rfl) (by kernel_rfl) (by kernel_rfl) (by kernel_rfl) (fun _ _ _ h => h) (SteadyB.of_yields (Or.inl ⟨by rfl, ?_⟩)) ?_
            rotate_left
            · intro wq hSw
              go_simp
              (try with_reducible rfl)
            try simp only [List.getElem_toArray, List.getElem_cons_zero, List.getElem_cons_succ, Act.put, List.setIfInBounds_toArray, List.set_cons_zero, List.set_cons_succ]
            refine wpAnyE_take (i := 16) (v := ?_) (hsT4) (fun _ h => h) rfl (by kernel_rfl) (by kernel_rfl) (by kernel_rfl) (by kernel_rfl) (fun _ _ _ h => h) (SteadyB.of_yields (Or.inl ⟨by rfl, ?_⟩)) ?_
            rotate_left
            · intro wq hSw
              go_simp
              (try with_reducible rfl)
            try simp only [List.getElem_toArray, List.getElem_cons_zero, List.getElem_cons_succ, Act.put, List.setIfInBounds_toArray, List.set_cons_zero, List.set_cons_succ]
            refine wpAnyE_take (i := 17) (v := ?_) (hsT4) (fun _ h => h) rfl (by kernel_rfl) (by kernel_rfl) (by kernel_rfl) (by kernel_rfl) (fun _ _ _ h => h) (SteadyB.of_yields (Or.inl ⟨by rfl, ?_⟩)) ?_
            rotate_left
            · intro wq hSw
              go_simp
              (try with_reducible rfl)
            try simp only [List.getElem_toArray, List.getElem_cons_zero, List.getElem_cons_succ, Act.put, List.setIfInBounds_toArray, List.set_cons_zero, List.set_cons_succ]
            refine wpAnyE_take (i := 18) (v := ?_) (hsT4) (fun _ h => h) rfl (by kernel_rfl) (by kernel_rfl) (by kernel_rfl) (by kernel_rfl) (fun _ _ _ h => h) (SteadyB.of_yields (Or.inl ⟨by rfl, ?_⟩)) ?_
            rotate_left
            · intro wq hSw
              obtain ⟨p0, p1, p2, p3, p4, p5, p6⟩ := It.at x hSw.1
              have zz := H0.out _ hSw.2
              go_simp
              (try with_reducible rfl)
            try simp only [List.getElem_toArray, List.getElem_cons_zero, List.getElem_cons_succ, Act.put, List.setIfInBounds_toArray, List.set_cons_zero, List.set_cons_succ]
            refine wpAnyE_take (i := 19) (v := ?_) (hsT4) (fun _ h => h) rfl (by kernel_rfl) (by kernel_rfl) (by kernel_rfl) (by kernel_rfl) (fun _ _ _ h => h) (SteadyB.of_yields (Or.inl ⟨by rfl, ?_⟩)) ?_
            rotate_left
            · intro wq hSw
              go_simp
              (try with_reducible rfl)
            try simp only [List.getElem_toArray, List.getElem_cons_zero, List.getElem_cons_succ, Act.put, List.setIfInBounds_toArray, List.set_cons_zero, List.set_cons_succ]
            refine wpAnyE_take (i := 20) (v := ?_) (hsT4) (fun _ h => h) rfl (by kernel_rfl) (by kernel_rfl) (by kernel_rfl) (by kernel_rfl) (fun _ _ _ h => h) (SteadyB.of_yields (Or.inl ⟨by rfl, ?_⟩)) ?_
            rotate_left
            · intro wq hSw
              go_simp
              (try with_reducible rfl)
            try simp only [List.getElem_toArray, List.getElem_cons_zero, List.getElem_cons_succ, Act.put, List.setIfInBounds_toArray, List.set_cons_zero, List.set_cons_succ]
            refine wpAnyE_take (i := 21) (v := ?_) (hsT4) (fun _ h => h) rfl (by kernel_rfl) (by kernel_rfl) (by kernel_rfl) (by kernel_rfl) (fun _ _ _ h => h) (SteadyB.of_yields (Or.inl ⟨by rfl, ?_⟩)) ?_
            rotate_left
            · intro wq hSw
              go_simp
              (try with_reducible rfl)
            try simp only [List.getElem_toArray, List.getElem_cons_zero, List.getElem_cons_succ, Act.put, List.setIfInBounds_toArray, List.set_cons_zero, List.set_cons_succ]
            refine wpAnyE_take (i := 22) (v := ?_) (hsT4) (fun _ h => h) rfl (by kernel_rfl) (by kernel_rfl) (by kernel_rfl) (by kernel_rfl) (fun _ _ _ h => h) (SteadyB.of_yields (Or.inl ⟨by rfl, ?_⟩)) ?_
            rotate_left
            · intro wq hSw
              go_simp
              (try with_reducible rfl)
            try simp only [List.getElem_toArray, List.getElem_cons_zero, List.getElem_cons_succ, Act.put, List.setIfInBounds_toArray, List.set_cons_zero, List.set_cons_succ]
            refine wpAnyE_take (i := 23) (v := ?_) (hsT4) (fun _ h => h) rfl (by kernel_rfl) (by kernel_rfl) (by kernel_rfl) (by kernel_rfl) (fun _ _ _ h => h) (SteadyB.of_yields (Or.inl ⟨by rfl, ?_⟩)) ?_
            rotate_left
            · intro wq hSw
              obtain ⟨p0, p1, p2, p3, p4, p5, p6⟩ := It.at x hSw.1
              have zz := H0.out _ hSw.2
              go_simp
              (try with_reducible rfl)
            try simp only [List.getElem_toArray, List.getElem_cons_zero, List.getElem_cons_succ, Act.put, List.setIfInBounds_toArray, List.set_cons_zero, List.set_cons_succ]
            refine wpAnyE_take (i := 24) (v := Value.int .i64 (dif x.t x0.t)) (hsT4) (fun _ h => h) rfl (by kernel_rfl) (by kernel_rfl) (by kernel_rfl) (by kernel_rfl) (fun _ _ _ h => h) (Or.inl ⟨by rfl, fun wq hSw => ?_⟩) ?_
            · refine RunB.of_calls (Vtime.since x.t x0.t wq) (by go_simp) ?_
              rintro e wr ⟨rfl, hb⟩
              exact ⟨rfl, hb⟩
            try simp only [List.getElem_toArray, List.getElem_cons_zero, List.getElem_cons_succ, Act.put, List.setIfInBounds_toArray, List.set_cons_zero, List.set_cons_succ]
            refine wpAnyE_take (i := 25) (v := ?_) (hsT4) (fun _ h => h) rfl (by kernel_rfl) (by kernel_rfl) (by kernel_rfl) (by kernel_rfl) (fun _ _ _ h => h) (SteadyB.of_yields (Or.inl ⟨by rfl, ?_⟩)) ?_
            rotate_left
            · intro wq hSw
              go_simp
              (try with_reducible rfl)
            try simp only [List.getElem_toArray, List.getElem_cons_zero, List.getElem_cons_succ, Act.put, List.setIfInBounds_toArray, List.set_cons_zero, List.set_cons_succ]
            refine wpAnyE_take (i := 26) (v := ?_) (hsT4) (fun _ h => h) rfl (by kernel_rfl) (by kernel_rfl) (by kernel_rfl) (by kernel_rfl) (fun _ _ _ h => h) (SteadyB.of_yields (Or.inl ⟨by rfl, ?_⟩)) ?_
            rotate_left
            · intro wq hSw
              go_simp
              (try with_reducible rfl)
            try simp only [List.getElem_toArray, List.getElem_cons_zero, List.getElem_cons_succ, Act.put, List.setIfInBounds_toArray, List.set_cons_zero, List.set_cons_succ]
            refine wpAnyE_done (by kernel_rfl) (fun wz hSz => ?_) _
            have HB9 := hid hSz.2
            obtain ⟨q0, q1, q2, q3, q4, q5, q6⟩ := It.at x hSz.1
            clear hSz HQ
            go_wp2_with fail
            refine (Vtime.first f0 (some ⟨wz.heap.size, 0, none⟩) 1 1 [x.t] _ (RdU.new1 .u64 wz _ x.t) (by omega)).mono ?_
            rintro e w3 ⟨rfl, hb⟩
            have HB3 := hid (below_on (HB9.out.alloc HB9.out.size _) hb)
            clear hb HB9 q0 q1 q2 q3 q4 q5 q6
            go_wp2_with fail
            go_roundg (n - (k + 1))
            case measure => have := HS.out; omega
            case rel => exact ⟨k + 1, by rw [HFS.out], by go_num, by omega, rfl, HN.out, HB3.out⟩
    · obtain rfl : k = n := by omega
      have hki : ¬ (k : Int) < k := by omega
      have e : l.take k = l := List.take_of_length_le (by have := HLN.out; omega)
      have HN : Hid (∀ q ∈ l, q.right = true ∧ -4611686018427387904 ≤ dif q.t x0.t ∧ -4611686018427387904 ≤ dif q.u x0.t) := hid (by have := HNR.out; rwa [e] at this)
      rw [e]
      have zz := H0.out _ HB.out
      clear HNR HS e HB1
      obtain ⟨f0, hf0⟩ : ∃ f0, firstL x0.t (l.map (·.t)) = f0 := ⟨_, rfl⟩
      have HF0 := hid hf0
      rw [hf0]
      clear hf0
      go_wp2_with fail
      refine (Item.spread x0.t (some ⟨bb, off, none⟩) k c l _ (HR.out.below HB.out) (by omega)).mono ?_
      rintro e w2 ⟨rfl, hb⟩
      have HB2 := hid (below_on HB.out hb)
      have zy := H0.out _ HB2.out
      clear hb HB zz
      go_wp2_with fail
      refine (Span.within x0.t (some ⟨bb, off, none⟩) k c l _ (HR.out.below HB2.out) (by omega)).mono ?_
      cases hW : withinI x0.t l with
      | false =>
        rintro e w3 ⟨rfl, hb⟩
        have HB3 := hid (below_on HB2.out hb)
        clear hb zy HB2
        go_wp2_with fail
        go_ret
        exact ⟨rfl, HB3.out⟩
      | true =>
        rintro e w3 ⟨rfl, hb⟩
        have HB3 := hid (below_on HB2.out hb)
        have NB : Nb l := ⟨by have := HLN.out; omega, by have := HLN.out; omega, HL.out, fun a ha => (HN.out a ha).1, fun a ha => by rw [HX0.out]; exact (HN.out a ha).2.1, fun a ha => by rw [HX0.out]; exact (HN.out a ha).2.2, by rw [HX0.out]; simpa [withinI] using hW⟩
        obtain ⟨xa, e1, e2, e3, e4⟩ := anchor_shift d NB
        have e5 := NB.first k
        rw [HX0.out] at e3 e4 e5
        rw [List.take_of_length_le (by have := HLN.out; omega), HF0.out] at e5
        have e6 := room_of hW e3
        have HNB := hid NB
        have HE := hid (And.intro e1 (And.intro e2 (And.intro e3 (And.intro e4 e5))))
        have HRM := hid e6
        clear hb zy HB2 NB e1 e2 e3 e4 e5 e6 HN hW HF0
        go_wp2_with fail
        refine (Span.anchor (some ⟨bb, off, none⟩) k c l _ (HR.out.below HB3.out) HL.out (by omega)).mono ?_
        rw [HE.out.1]
        rintro e w4 ⟨rfl, hb⟩
        have HB4 := hid (below_on HB3.out hb)
        clear hb HB3
        dsimp only
        go_wp2_with fail
        generalize k = n at *
        go_loopg [11, 93] n (fun s a i wr => ∃ (k : Nat) (A1 : Option Addr) (c1 : Nat), a = .slice A1 k c1 ∧ i = .int .i64 k ∧ k ≤ n ∧ s = n - k ∧ OwnI wr w.heap.size A1 k c1 ((l.take k).map (It.shift d)) ∧ Below w.heap.size w wr)
        case atStart => exact ⟨0, none, 0, rfl, rfl, Nat.zero_le _, by omega, by simpa using OwnI.nil _ _, HB4.out⟩
        case round =>
          obtain ⟨k, A1, c1, rfl, rfl, hk, hs, ho, hb⟩ := hrel
          have HS := hid hs
          have HO := hid ho
          have HB := hid hb
          clear hs ho hb HB4
          by_cases hkn : k < n
          · obtain ⟨b2, o2, hA, _, hc⟩ := (HR.out.below HB.out).2 0 h0
            cases hA
            obtain ⟨p0, p1, p2, p3, p4, p5, p6⟩ := hc k hkn
            have hkl : k < l.length := by have := HLN.out; omega
            have HTK := hid (take_sh (d := d) hkl)
            have HSX := hid (HNB.out.own (it_mem hkl))
            rw [HX0.out] at HSX
            generalize l.getD k It.zero = x at *
            have hki : (k : Int) < n := by omega
            clear hc hkl
            have HBa := hid (HB.out.alloc HB.out.size (.cells #[.int .u64 x.t, .int .u32 x.r, .int .u32 x.v, .int .i64 x.i, .int .u64 x.u, .int .u32 x.s, .int .u32 x.y] 86))
            have HXc := hid (Cs.new7 wr 86 x)
            have HOa := hid (HO.out.alloc (.cells #[.int .u64 x.t, .int .u32 x.r, .int .u32 x.v, .int .i64 x.i, .int .u64 x.u, .int .u32 x.s, .int .u32 x.y] 86))
            obtain ⟨p10, p11, p12, p13, p14, p15, p16⟩ := It.at x HXc.out
            go_wp2_with fail
            clear p0 p1 p2 p3 p4 p5 p6 p10 p11 p12 p13 p14 p15 p16 HB HO
            generalize wr.alloc (.cells #[.int .u64 x.t, .int .u32 x.r, .int .u32 x.v, .int .i64 x.i, .int .u64 x.u, .int .u32 x.s, .int .u32 x.y] 86) = W1 at HBa HXc HOa ⊢
            generalize wr.heap.size = ga at HXc ⊢
            refine (Item.spread x.t (some ⟨bb, off, none⟩) n c l _ (HR.out.below HBa.out) (by omega)).mono ?_
            rw [HSX.out]
            rintro e w3 ⟨rfl, hb⟩
            have HB3 := hid (below_on HBa.out hb)
            have HX3 := hid ((show Cs W1 ga x.cells from HXc.out).below hb)
            have HO3 := hid (HOa.out.below hb)
            clear hb HBa HXc HOa HSX
            obtain ⟨q0, q1, q2, q3, q4, q5, q6⟩ := It.at x HX3.out
            go_wp2_with fail
            obtain ⟨y, hy⟩ : ∃ y, It.shift d x = y := ⟨_, rfl⟩
            refine (Item.shiftTo2 x y d hy _).mono ?_
            rintro e w4 ⟨rfl, hb⟩
            have HB4 := hid (below_on HB3.out hb)
            have HO4 := hid (HO3.out.below hb)
            rw [hy] at HTK
            have hOW := HO4.out.alloc (.cells #[.int .u64 y.t, .int .u32 y.r, .int .u32 y.v, .int .i64 y.i, .int .u64 y.u, .int .u32 y.s, .int .u32 y.y] 86)
            have hRD := (Cs.new7 w4 86 y).one
            have HB5 := hid (HB4.out.alloc HB4.out.size (.cells #[.int .u64 y.t, .int .u32 y.r, .int .u32 y.v, .int .i64 y.i, .int .u64 y.u, .int .u32 y.s, .int .u32 y.y] 86))
            have hbs := HB5.out.size
            have hk1 : k + 1 ≤ 1000000 := by omega
            unfold It.val
            clear hb HB3 HO3 HB4 HO4 hy q0 q1 q2 q3 q4 q5 q6 HX3
            go_wp2_with (first
              | (at_builtin; (with_reducible refine wpList_append_its _ rfl (.tmp 104) (.tmp 108) rfl w.heap.size A1 k c1 ((l.take k).map (It.shift d)) ?a1 hOW (some ⟨w4.heap.size, 0, none⟩) 1 1 [y] ?a2 hRD (by decide) hk1 hbs ?a3); (case a1 => rfl); (case a2 => rfl); (intro A3 c3 w5 ho3 hc3 hr3); (have HO5 := hid ho3); (have HB6 := hid (Below.chg HB5.out hc3 (fun q hq => (hOW.rowGe q hq).1))); (clear ho3 hc3 hr3 hOW hRD hbs))
              | fail)
            go_roundg (n - (k + 1))
            case measure => have := HS.out; omega
            case rel => exact ⟨k + 1, A3, c3, rfl, by go_num, by omega, rfl, by rw [HTK.out]; exact HO5.out, HB6.out⟩
          · obtain rfl : k = n := by omega
            have hki : ¬ (k : Int) < k := by omega
            have ho := HO.out
            rw [List.take_of_length_le (by have := HLN.out; omega)] at ho
            have HM := hid ho.rdi
            clear ho HO HS
            go_wp2_with fail
            refine (Span.anchor A1 k c1 (l.map (It.shift d)) _ HM.out (HNB.out.shift d).inI (by omega)).mono ?_
            rw [HE.out.2.1]
            rintro e w5 ⟨rfl, hb⟩
            have HB5 := hid (below_on HB.out hb)
            have HM5 := hid (HM.out.below hb)
            clear hb HB HM
            dsimp only
            go_wp2_with fail
            refine (Item.spread xa (some ⟨bb, off, none⟩) k c l _ (HR.out.below HB5.out) (by omega)).mono ?_
            rw [HE.out.2.2.1]
            rintro e w6 ⟨rfl, hb⟩
            have HB6 := hid (below_on HB5.out hb)
            have HM6 := hid (HM5.out.below hb)
            clear hb HB5 HM5
            go_wp2_with fail
            refine (Item.spread f0 (some ⟨bb, off, none⟩) k c l _ (HR.out.below HB6.out) (by omega)).mono ?_
            rw [HE.out.2.2.2.2]
            rintro e w7 ⟨rfl, hb⟩
            have HB7 := hid (below_on HB6.out hb)
            have HM7 := hid (HM6.out.below hb)
            clear hb HB6 HM6
            go_wp2_with fail
            refine (Item.spread (IntKind.u64.wrap (xa + d)) A1 k c1 (l.map (It.shift d)) _ HM7.out (by omega)).mono ?_
            rw [HE.out.2.2.2.1]
            rintro e w8 ⟨rfl, hb⟩
            have HB8 := hid (below_on HB7.out hb)
            clear hb HB7 HM7
            go_wp2_with fail
            refine (Span.room xa (some ⟨bb, off, none⟩) k c l _ (HR.out.below HB8.out) (by omega)).mono ?_
            rw [HRM.out.1]
            rintro e w9 ⟨rfl, hb⟩
            have HB9 := hid (below_on HB8.out hb)
            have e8 : IntKind.u64.wrap (4611686018427387904 - spreadI x0.t l) = 4611686018427387904 - spreadI x0.t l := by rw [IntKind.wrap_u64]; have := HRM.out; omega
            clear hb HB8
            go_wp2_with fail
            try simp only [e8]
            go_ret
            exact ⟨by first | rfl | (simp only [beq_self_eq_true]) | simp, HB9.out⟩
theorem Sbas.law (A : Option Addr) (n c : Nat) (l : List It) (d : Int) (w : World) (h1 : (RdI w A n l ∧ InI l) ∧ n ≤ 9223372036854775807) (_ : (Lit.int .u64 d).wf = true) (htab : Tab10 w.heap.size w) :
    Calls Tryz.prog 7 #[.slice A n c, .int .u64 d] w (Ans (.bool true) w) := by
  by_cases hn : 32 < n
  · exact Sbas.away A n c d w hn htab
  · rcases Nat.eq_zero_or_pos n with h0 | h0
    · subst h0; exact Sbas.nil A c d w htab
    · exact Sbas.core A n c l d w h1.1.1 h1.1.2 h0 (by omega) htab
end

end Go.Proofs.YtkddkllepbhnhaaGreatDoor

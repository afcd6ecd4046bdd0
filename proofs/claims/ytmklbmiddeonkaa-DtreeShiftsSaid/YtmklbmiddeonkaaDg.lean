/- DtreeShifts: the walk. -/
import Derived.Test.YtmklbmiddeonkaaDtU
import Derived.Test.YtmklbmiddeonkaaDtV
import Derived.Test.YtmklbmiddeonkaaDtreeShiftsZ44
namespace Go.Proofs.Ytmklbmiddeonkaa
open Go.RowKit

theorem Item.shiftTo (a b : It) (d : Int) (h : It.shift d a = b) (w : World) : Calls Try.prog 10 #[a.val, .int .u64 d] w (Ans (It.val b) w) := by
  subst h; exact Item.shift a d w
/-- The time's and the end's variables. -/
def Fg (w : World) (e : It) (d : Int) (wr : World) : Prop := Th wr (w.heap.size + 1) e ∧ wr.cell? ⟨w.heap.size, 0, none⟩ = some (.int .u64 d) ∧ Below w.heap.size w wr
theorem Fg.below {w w1 w2 : World} {e : It} {d : Int} (h : Fg w e d w1) (hb : Below w1.heap.size w1 w2) : Fg w e d w2 := ⟨h.1.below hb, keep1 hb h.2.1, below_on h.2.2 hb⟩
theorem Fg.new (w : World) (e : It) (d : Int) (T : TypeId) : Fg w e d ((w.alloc (.cells #[.int .u64 d] T)).alloc (.cells #[.int .u64 e.t, .int .u32 e.r, .int .u32 e.v, .int .i64 e.i, .int .u64 e.u, .int .u32 e.s, .int .u32 e.y] 28)) := by
  have h1 := Cs.new7 (w.alloc (.cells #[.int .u64 d] T)) 28 e
  simp only [World.size_alloc] at h1
  exact ⟨h1.th7, ((Cs.alloc_new w T [.int .u64 d]).alloc _).at0, ((Below.refl w.heap.size w).alloc (Nat.le_refl _) _).alloc (by simp) _⟩

set_option maxRecDepth 100000 in
set_option maxHeartbeats 2000000 in
theorem Dshifts.away (t0 d : Int) (A : Option Addr) (n c : Nat) (e : It) (hn : 60 < n) (w : World) :
    Calls Try.prog 8 #[.int .u64 t0, .int .u64 d, .slice A n c, e.val] w (Ans (.bool true) w) := by
  have h1 : (60 : Int) < n := by omega
  have h2 : decide ((60 : Int) < n) = true := by simpa using h1
  have HB0 := hid (Fg.new w e d 22).2.2
  unfold It.val
  go_enter Try.func8, Try.ntmps8
  go_wp2_with fail
  refine (Law7.awake _).mono ?_
  rintro e' w1 ⟨rfl, hb⟩
  have HB := hid (below_on HB0.out hb)
  clear hb
  go_wp2_with fail
  go_ret
  exact ⟨rfl, HB.out⟩

set_option maxRecDepth 100000 in
set_option maxHeartbeats 8000000 in
theorem Dshifts.core (t0 d : Int) (A : Option Addr) (n c : Nat) (l : List It) (e : It) (hn : n ≤ 60) (w : World) (hr : RdI w A n l) (hl : InI l) (he : e.In) :
    Calls Try.prog 8 #[.int .u64 t0, .int .u64 d, .slice A n c, e.val] w (Ans (.bool true) w) := by
  have HF0 := hid (Fg.new w e d 22)
  have HR := hid hr
  have HL := hid hl
  have HEI := hid he
  have hn1 : ¬ (60 : Int) < n := by omega
  have hn2 : decide ((60 : Int) < n) = false := by simpa using hn1
  clear hr hl he
  unfold It.val
  go_enter Try.func8, Try.ntmps8
  go_wp2_with fail
  refine (Law7.awake _).mono ?_
  rintro e' w1 ⟨rfl, hb⟩
  have HF1 := hid (HF0.out.below hb)
  obtain ⟨p0, p1, p2, p3, p4, p5, p6⟩ := HF1.out.1
  clear hb HF0
  go_wp2_with fail
  refine (Law7.near t0 e _).mono ?_
  rintro e' w2 ⟨rfl, hb⟩
  have HF2 := hid (HF1.out.below hb)
  clear hb HF1 p0 p1 p2 p3 p4 p5 p6
  cases hne : It.near7 t0 e with
  | false =>
    go_wp2_with fail
    go_ret
    exact ⟨rfl, HF2.out.2.2⟩
  | true =>
  have HNE := hid hne
  clear hne
  go_wp2_with fail
  go_loopg [30] n (fun s a30 wr => ∃ k : Nat, a30 = .int .i64 k ∧ k ≤ n ∧ s = n - k ∧ (∀ x ∈ l.take k, It.near7 t0 x = true) ∧ Fg w e d wr)
  case atStart => exact ⟨0, rfl, Nat.zero_le _, by omega, (fun x hx => by simp at hx), HF2.out⟩
  case round =>
    obtain ⟨k, rfl, hk, hs, hnr, hf⟩ := hrel
    have HS := hid hs
    have HNR := hid hnr
    have HF := hid hf
    clear hs hnr hf HF2
    by_cases hkn : k < n
    · obtain ⟨bb, off, hA, _, hc⟩ := (HR.out.below HF.out.2.2).2 0 (by omega)
      obtain ⟨p0, p1, p2, p3, p4, p5, p6⟩ := hc k hkn
      have HTK : Hid (l.take (k + 1) = l.take k ++ [l.getD k It.zero]) := hid (by
        have hkl : k < l.length := by have := HR.out.1; omega
        rw [List.take_succ_eq_append_getElem hkl]; simp [List.getD, hkl])
      generalize l.getD k It.zero = x at *
      subst hA
      have hki : (k : Int) < n := by omega
      clear hc
      have HFa := hid (HF.out.below ((Below.refl wr.heap.size wr).alloc (Nat.le_refl _) (.cells #[.int .u64 x.t, .int .u32 x.r, .int .u32 x.v, .int .i64 x.i, .int .u64 x.u, .int .u32 x.s, .int .u32 x.y] 28)))
      go_wp2_with fail
      refine (Law7.near t0 x _).mono ?_
      rintro e' w3 ⟨rfl, hb⟩
      have HF3 := hid (HFa.out.below hb)
      clear hb HFa p0 p1 p2 p3 p4 p5 p6
      cases hnx : It.near7 t0 x with
      | false =>
        go_wp2_with fail
        go_ret
        exact ⟨rfl, HF3.out.2.2⟩
      | true =>
        have HNX := hid hnx
        clear hnx
        go_wp2_with fail
        go_roundg (n - (k + 1))
        case measure => have := HS.out; omega
        case rel => exact ⟨k + 1, by go_num, by omega, rfl, (fun y hy => by
          rw [HTK.out] at hy
          rcases List.mem_append.1 hy with h | h
          · exact HNR.out y h
          · simp at h; subst h; exact HNX.out), HF3.out⟩
    · obtain rfl : k = n := by omega
      have hki : ¬ (k : Int) < k := by omega
      have HNL : Hid (∀ x ∈ l, It.near7 t0 x = true) := hid (by have := HNR.out; rwa [List.take_of_length_le (by have := HR.out.1; omega)] at this)
      clear HNR HS
      go_wp2_with fail
      refine (Dtree.new A k c l _ (HR.out.below HF.out.2.2) HL.out (by omega)).mono ?_
      rintro e' w4 ⟨th, t, rfl, hbt, hg⟩
      have HBT := hid hbt
      have HT60 : Hid (t.list.length ≤ 60) := hid (by have := hbt.len; have := HR.out.1; omega)
      have HTL : Hid (InI t.list) := hid (fun y hy => HL.out y ((hbt.srt (t0 := t0) (fun x hx => near_of7 (HNL.out x hx))).2.2.1 y hy))
      have ha := (Below.refl w4.heap.size w4).alloc (Nat.le_refl _) (.cells #[.pointer (some ⟨th, 0, none⟩)] 73)
      have HF4 := hid ((HF.out.below hg.2.2.2).below ha)
      have HD4 := hid (hg.1.below ha)
      have HQ4 : Hid ((w4.alloc (.cells #[.pointer (some ⟨th, 0, none⟩)] 73)).cell? ⟨w4.heap.size, 0, none⟩ = some (.pointer (some ⟨th, 0, none⟩))) := hid (Cs.alloc_new w4 73 [.pointer (some ⟨th, 0, none⟩)]).at0
      have q := HQ4.out
      have q2 := HF4.out.2.1
      clear hbt hg ha HF
      go_wp2_with fail
      generalize hb11 : w4.heap.size = b11 at HQ4 q ⊢
      generalize (w4.alloc (.cells #[.pointer (some ⟨th, 0, none⟩)] 73)) = W4 at HF4 HD4 HQ4 q q2 ⊢
      refine (Dtree.shift th t d _ HD4.out HTL.out HT60.out).mono ?_
      rintro e' w5 ⟨th2, u, rfl, hbu, hg⟩
      obtain ⟨hul, sm, a, b, he1, he2, hab⟩ := first_shift HBT.out HNL.out HNE.out hbu
      have HLL : Hid (u.list.length = t.list.length) := hid (by rw [hul, List.length_map])
      have HUL : Hid (InI u.list) := hid (fun y hy => by
        rw [hul] at hy
        obtain ⟨z, hz, rfl⟩ := List.mem_map.1 hy
        exact It.shift_in d (HTL.out z hz))
      have HE1 := hid he1
      have HE2 := hid he2
      have HAB := hid hab
      have ha := (Below.refl w5.heap.size w5).alloc (Nat.le_refl _) (.cells #[.pointer (some ⟨th2, 0, none⟩)] 73)
      have HF5 := hid ((HF4.out.below hg.2.2.2).below ha)
      have HD5 := hid ((HD4.out.below hg.2.2.2).below ha)
      have HQ5 := hid (keep1 ha (keep1 hg.2.2.2 HQ4.out))
      have HU5 := hid (hg.1.below ha)
      have HV5 : Hid ((w5.alloc (.cells #[.pointer (some ⟨th2, 0, none⟩)] 73)).cell? ⟨w5.heap.size, 0, none⟩ = some (.pointer (some ⟨th2, 0, none⟩))) := hid (Cs.alloc_new w5 73 [.pointer (some ⟨th2, 0, none⟩)]).at0
      have q3 := HQ5.out
      clear hul he1 he2 hab hbu hg ha hb11 HF4 HD4 HQ4 q q2
      go_wp2_with fail
      generalize hb12 : w5.heap.size = b12 at HV5 ⊢
      generalize (w5.alloc (.cells #[.pointer (some ⟨th2, 0, none⟩)] 73)) = W5 at HF5 HD5 HQ5 HU5 HV5 q3 ⊢
      refine (Dtree.soonestShA th (w.heap.size + 1) t (fun y => It.ahead y e) _ HD5.out (fun y w' hy hyi hb => ShA.ahead (w.heap.size + 1) y e hyi HEI.out w' (HF5.out.1.below hb))).mono ?_
      rintro e' w6 ⟨rfl, hb⟩
      rw [HE1.out]
      have ha := (Below.refl w6.heap.size w6).alloc (Nat.le_refl _) (.cells #[.int .u64 a.t, .int .u32 a.r, .int .u32 a.v, .int .i64 a.i, .int .u64 a.u, .int .u32 a.s, .int .u32 a.y] 28)
      have HF6 := hid ((HF5.out.below hb).below ha)
      have HD6 := hid ((HD5.out.below hb).below ha)
      have HQ6 := hid (keep1 ha (keep1 hb HQ5.out))
      have HU6 := hid ((HU5.out.below hb).below ha)
      have HV6 := hid (keep1 ha (keep1 hb HV5.out))
      have HA6 : Hid (Th (w6.alloc (.cells #[.int .u64 a.t, .int .u32 a.r, .int .u32 a.v, .int .i64 a.i, .int .u64 a.u, .int .u32 a.s, .int .u32 a.y] 28)) w6.heap.size a) := hid (Cs.new7 w6 _ a).th7
      have q4 := HV6.out
      clear hb ha hb12 HF5 HD5 HQ5 HU5 HV5 q3
      unfold It.val
      go_wp2_with fail
      generalize hb13 : w6.heap.size = b13 at HA6 ⊢
      generalize (w6.alloc (.cells #[.int .u64 a.t, .int .u32 a.r, .int .u32 a.v, .int .i64 a.i, .int .u64 a.u, .int .u32 a.s, .int .u32 a.y] 28)) = W6 at HF6 HD6 HQ6 HU6 HV6 HA6 q4 ⊢
      refine (Dtree.soonestShB th2 (w.heap.size + 1) w.heap.size u (fun y => It.ahead y (It.shift d e)) _ HU6.out (fun y w' hy hyi hb => ShB.ahead (w.heap.size + 1) w.heap.size y e d hyi HEI.out w' (HF6.out.1.below hb) (keep1 hb HF6.out.2.1))).mono ?_
      rintro e' w7 ⟨rfl, hb⟩
      rw [HE2.out]
      have ha := (Below.refl w7.heap.size w7).alloc (Nat.le_refl _) (.cells #[.int .u64 b.t, .int .u32 b.r, .int .u32 b.v, .int .i64 b.i, .int .u64 b.u, .int .u32 b.s, .int .u32 b.y] 28)
      have HF8 := hid ((HF6.out.below hb).below ha)
      have HD8 := hid ((HD6.out.below hb).below ha)
      have HQ8 := hid (keep1 ha (keep1 hb HQ6.out))
      have HU8 := hid ((HU6.out.below hb).below ha)
      have HV8 := hid (keep1 ha (keep1 hb HV6.out))
      have HA8 := hid ((HA6.out.below hb).below ha)
      have HB8 : Hid (Th (w7.alloc (.cells #[.int .u64 b.t, .int .u32 b.r, .int .u32 b.v, .int .i64 b.i, .int .u64 b.u, .int .u32 b.s, .int .u32 b.y] 28)) w7.heap.size b) := hid (Cs.new7 w7 _ b).th7
      clear hb ha hb13 HF6 HD6 HQ6 HU6 HV6 HA6 q4
      unfold It.val
      go_wp2_with fail
      generalize hb15 : w7.heap.size = b15 at HB8 ⊢
      generalize (w7.alloc (.cells #[.int .u64 b.t, .int .u32 b.r, .int .u32 b.v, .int .i64 b.i, .int .u64 b.u, .int .u32 b.s, .int .u32 b.y] 28)) = W8 at HF8 HD8 HQ8 HU8 HV8 HA8 HB8 ⊢
      clear hb15
      have HSEE : Hid (∀ w', Bl W8 w' → (fun w' => (w'.cell? ⟨b15, 0, none⟩ = some (.int .u64 b.t) ∧ w'.cell? ⟨b15, 1, none⟩ = some (.int .u32 b.r) ∧ w'.cell? ⟨b15, 2, none⟩ = some (.int .u32 b.v) ∧ w'.cell? ⟨b15, 3, none⟩ = some (.int .i64 b.i) ∧ w'.cell? ⟨b15, 4, none⟩ = some (.int .u64 b.u) ∧ w'.cell? ⟨b15, 5, none⟩ = some (.int .u32 b.s) ∧ w'.cell? ⟨b15, 6, none⟩ = some (.int .u32 b.y) ∧ w'.cell? ⟨b13, 0, none⟩ = some (.int .u64 a.t) ∧ w'.cell? ⟨b13, 1, none⟩ = some (.int .u32 a.r) ∧ w'.cell? ⟨b13, 2, none⟩ = some (.int .u32 a.v) ∧ w'.cell? ⟨b13, 3, none⟩ = some (.int .i64 a.i) ∧ w'.cell? ⟨b13, 4, none⟩ = some (.int .u64 a.u) ∧ w'.cell? ⟨b13, 5, none⟩ = some (.int .u32 a.s) ∧ w'.cell? ⟨b13, 6, none⟩ = some (.int .u32 a.y) ∧ w'.cell? ⟨w.heap.size, 0, none⟩ = some (.int .u64 d) ∧ w'.cell? ⟨b11, 0, none⟩ = some (.pointer (some ⟨th, 0, none⟩)) ∧ w'.cell? ⟨b12, 0, none⟩ = some (.pointer (some ⟨th2, 0, none⟩))) ∧ Bl W8 w') w') := hid (fun w' hb => by
        obtain ⟨p0, p1, p2, p3, p4, p5, p6⟩ := HB8.out.below hb
        obtain ⟨q0, q1, q2, q3, q4, q5, q6⟩ := HA8.out.below hb
        exact ⟨⟨p0, p1, p2, p3, p4, p5, p6, q0, q1, q2, q3, q4, q5, q6, keep1 hb HF8.out.2.1, keep1 hb HQ8.out, keep1 hb HV8.out⟩, hb⟩)
      cases sm with
      | false =>
        refine wp_region_held_drew (S := fun w' => (w'.cell? ⟨b15, 0, none⟩ = some (.int .u64 b.t) ∧ w'.cell? ⟨b15, 1, none⟩ = some (.int .u32 b.r) ∧ w'.cell? ⟨b15, 2, none⟩ = some (.int .u32 b.v) ∧ w'.cell? ⟨b15, 3, none⟩ = some (.int .i64 b.i) ∧ w'.cell? ⟨b15, 4, none⟩ = some (.int .u64 b.u) ∧ w'.cell? ⟨b15, 5, none⟩ = some (.int .u32 b.s) ∧ w'.cell? ⟨b15, 6, none⟩ = some (.int .u32 b.y) ∧ w'.cell? ⟨b13, 0, none⟩ = some (.int .u64 a.t) ∧ w'.cell? ⟨b13, 1, none⟩ = some (.int .u32 a.r) ∧ w'.cell? ⟨b13, 2, none⟩ = some (.int .u32 a.v) ∧ w'.cell? ⟨b13, 3, none⟩ = some (.int .i64 a.i) ∧ w'.cell? ⟨b13, 4, none⟩ = some (.int .u64 a.u) ∧ w'.cell? ⟨b13, 5, none⟩ = some (.int .u32 a.s) ∧ w'.cell? ⟨b13, 6, none⟩ = some (.int .u32 a.y) ∧ w'.cell? ⟨w.heap.size, 0, none⟩ = some (.int .u64 d) ∧ w'.cell? ⟨b11, 0, none⟩ = some (.pointer (some ⟨th, 0, none⟩)) ∧ w'.cell? ⟨b12, 0, none⟩ = some (.pointer (some ⟨th2, 0, none⟩))) ∧ Bl W8 w') (by kernel_rfl) (HSEE.out _ (Bl.drew W8)) (fun hHeld => ?_)
        refine wpAnyH_take (i := 0) (v := ?_) rfl (by kernel_rfl) (by kernel_rfl) (by kernel_rfl) (fun _ _ _ h => h) (Or.inl ⟨by rfl, ?_⟩) (by assumption) ?_
        rotate_left
        · intro w hSw; (try dsimp only at hSw); go_simp; (try with_reducible rfl)
        try simp only [List.getElem_toArray, List.getElem_cons_zero, List.getElem_cons_succ, Act.put, List.setIfInBounds_toArray, List.set_cons_zero, List.set_cons_succ]
        refine wpAnyH_take (i := 1) (v := ?_) rfl (by kernel_rfl) (by kernel_rfl) (by kernel_rfl) (fun _ _ _ h => h) (Or.inl ⟨by rfl, ?_⟩) (by assumption) ?_
        rotate_left
        · intro w hSw; (try dsimp only at hSw); go_simp; (try with_reducible rfl)
        try simp only [List.getElem_toArray, List.getElem_cons_zero, List.getElem_cons_succ, Act.put, List.setIfInBounds_toArray, List.set_cons_zero, List.set_cons_succ]
        refine wpAnyH_take (i := 2) (v := ?_) rfl (by kernel_rfl) (by kernel_rfl) (by kernel_rfl) (fun _ _ _ h => h) (Or.inl ⟨by rfl, ?_⟩) (by assumption) ?_
        rotate_left
        · intro w hSw; (try dsimp only at hSw); go_simp; (try with_reducible rfl)
        try simp only [List.getElem_toArray, List.getElem_cons_zero, List.getElem_cons_succ, Act.put, List.setIfInBounds_toArray, List.set_cons_zero, List.set_cons_succ]
        refine wpAnyH_take (i := 3) (v := ?_) rfl (by kernel_rfl) (by kernel_rfl) (by kernel_rfl) (fun _ _ _ h => h) (Or.inl ⟨by rfl, ?_⟩) (by assumption) ?_
        rotate_left
        · intro w hSw; (try dsimp only at hSw); go_simp; (try with_reducible rfl)
        try simp only [List.getElem_toArray, List.getElem_cons_zero, List.getElem_cons_succ, Act.put, List.setIfInBounds_toArray, List.set_cons_zero, List.set_cons_succ]
        refine wpAnyH_take (i := 4) (v := ?_) rfl (by kernel_rfl) (by kernel_rfl) (by kernel_rfl) (fun _ _ _ h => h) (Or.inl ⟨by rfl, ?_⟩) (by assumption) ?_
        rotate_left
        · intro w hSw; (try dsimp only at hSw); go_simp; (try with_reducible rfl)
        try simp only [List.getElem_toArray, List.getElem_cons_zero, List.getElem_cons_succ, Act.put, List.setIfInBounds_toArray, List.set_cons_zero, List.set_cons_succ]
        refine wpAnyH_take (i := 5) (v := ?_) rfl (by kernel_rfl) (by kernel_rfl) (by kernel_rfl) (fun _ _ _ h => h) (Or.inl ⟨by rfl, ?_⟩) (by assumption) ?_
        rotate_left
        · intro w hSw; (try dsimp only at hSw); go_simp; (try with_reducible rfl)
        try simp only [List.getElem_toArray, List.getElem_cons_zero, List.getElem_cons_succ, Act.put, List.setIfInBounds_toArray, List.set_cons_zero, List.set_cons_succ]
        refine wpAnyH_take (i := 6) (v := ?_) rfl (by kernel_rfl) (by kernel_rfl) (by kernel_rfl) (fun _ _ _ h => h) (Or.inl ⟨by rfl, ?_⟩) (by assumption) ?_
        rotate_left
        · intro w hSw; (try dsimp only at hSw); go_simp; (try with_reducible rfl)
        try simp only [List.getElem_toArray, List.getElem_cons_zero, List.getElem_cons_succ, Act.put, List.setIfInBounds_toArray, List.set_cons_zero, List.set_cons_succ]
        refine wpAnyH_take (i := 7) (v := undef) rfl (by kernel_rfl) (by kernel_rfl) (by kernel_rfl) (fun _ _ _ h => h) (Or.inr ⟨by rfl, rfl⟩) (by assumption) ?_
        try simp only [List.getElem_toArray, List.getElem_cons_zero, List.getElem_cons_succ, Act.put, List.setIfInBounds_toArray, List.set_cons_zero, List.set_cons_succ]
        refine wpAnyH_take (i := 8) (v := undef) rfl (by kernel_rfl) (by kernel_rfl) (by kernel_rfl) (fun _ _ _ h => h) (Or.inr ⟨by rfl, rfl⟩) (by assumption) ?_
        try simp only [List.getElem_toArray, List.getElem_cons_zero, List.getElem_cons_succ, Act.put, List.setIfInBounds_toArray, List.set_cons_zero, List.set_cons_succ]
        refine wpAnyH_take (i := 9) (v := undef) rfl (by kernel_rfl) (by kernel_rfl) (by kernel_rfl) (fun _ _ _ h => h) (Or.inr ⟨by rfl, rfl⟩) (by assumption) ?_
        try simp only [List.getElem_toArray, List.getElem_cons_zero, List.getElem_cons_succ, Act.put, List.setIfInBounds_toArray, List.set_cons_zero, List.set_cons_succ]
        refine wpAnyH_take (i := 10) (v := undef) rfl (by kernel_rfl) (by kernel_rfl) (by kernel_rfl) (fun _ _ _ h => h) (Or.inr ⟨by rfl, rfl⟩) (by assumption) ?_
        try simp only [List.getElem_toArray, List.getElem_cons_zero, List.getElem_cons_succ, Act.put, List.setIfInBounds_toArray, List.set_cons_zero, List.set_cons_succ]
        refine wpAnyH_take (i := 11) (v := undef) rfl (by kernel_rfl) (by kernel_rfl) (by kernel_rfl) (fun _ _ _ h => h) (Or.inr ⟨by rfl, rfl⟩) (by assumption) ?_
        try simp only [List.getElem_toArray, List.getElem_cons_zero, List.getElem_cons_succ, Act.put, List.setIfInBounds_toArray, List.set_cons_zero, List.set_cons_succ]
        refine wpAnyH_take (i := 12) (v := ?_) rfl (by kernel_rfl) (by kernel_rfl) (by kernel_rfl) (fun _ _ _ h => h) (Or.inl ⟨by rfl, ?_⟩) (by assumption) ?_
        rotate_left
        · intro w hSw; (try dsimp only at hSw); go_simp; (try with_reducible rfl)
        try simp only [List.getElem_toArray, List.getElem_cons_zero, List.getElem_cons_succ, Act.put, List.setIfInBounds_toArray, List.set_cons_zero, List.set_cons_succ]
        refine wpAnyH_take (i := 13) (v := ?_) rfl (by kernel_rfl) (by kernel_rfl) (by kernel_rfl) (fun _ _ _ h => h) (Or.inl ⟨by rfl, ?_⟩) (by assumption) ?_
        rotate_left
        · intro w hSw; (try dsimp only at hSw); go_simp; (try with_reducible rfl)
        try simp only [List.getElem_toArray, List.getElem_cons_zero, List.getElem_cons_succ, Act.put, List.setIfInBounds_toArray, List.set_cons_zero, List.set_cons_succ]
        refine wpAnyH_take (i := 14) (v := ?_) rfl (by kernel_rfl) (by kernel_rfl) (by kernel_rfl) (fun _ _ _ h => h) (Or.inl ⟨by rfl, ?_⟩) (by assumption) ?_
        rotate_left
        · intro w hSw; (try dsimp only at hSw); go_simp; (try with_reducible rfl)
        try simp only [List.getElem_toArray, List.getElem_cons_zero, List.getElem_cons_succ, Act.put, List.setIfInBounds_toArray, List.set_cons_zero, List.set_cons_succ]
        refine wpAnyH_take (i := 15) (v := ?_) rfl (by kernel_rfl) (by kernel_rfl) (by kernel_rfl) (fun _ _ _ h => h) (Or.inl ⟨by rfl, ?_⟩) (by assumption) ?_
        rotate_left
        · intro w hSw; (try dsimp only at hSw); go_simp; (try with_reducible rfl)
        try simp only [List.getElem_toArray, List.getElem_cons_zero, List.getElem_cons_succ, Act.put, List.setIfInBounds_toArray, List.set_cons_zero, List.set_cons_succ]
        refine wpAnyH_take (i := 16) (v := ?_) rfl (by kernel_rfl) (by kernel_rfl) (by kernel_rfl) (fun _ _ _ h => h) (Or.inl ⟨by rfl, ?_⟩) (by assumption) ?_
        rotate_left
        · intro w hSw; (try dsimp only at hSw); go_simp; (try with_reducible rfl)
        try simp only [List.getElem_toArray, List.getElem_cons_zero, List.getElem_cons_succ, Act.put, List.setIfInBounds_toArray, List.set_cons_zero, List.set_cons_succ]
        refine wpAnyH_take (i := 18) (v := ?_) rfl (by kernel_rfl) (by kernel_rfl) (by kernel_rfl) (fun _ _ _ h => h) (Or.inl ⟨by rfl, ?_⟩) (by assumption) ?_
        rotate_left
        · intro w hSw; (try dsimp only at hSw); go_simp; (try with_reducible rfl)
        try simp only [List.getElem_toArray, List.getElem_cons_zero, List.getElem_cons_succ, Act.put, List.setIfInBounds_toArray, List.set_cons_zero, List.set_cons_succ]
        refine wpAnyH_take (i := 19) (v := ?_) rfl (by kernel_rfl) (by kernel_rfl) (by kernel_rfl) (fun _ _ _ h => h) (Or.inl ⟨by rfl, ?_⟩) (by assumption) ?_
        rotate_left
        · intro w hSw; (try dsimp only at hSw); go_simp; (try with_reducible rfl)
        try simp only [List.getElem_toArray, List.getElem_cons_zero, List.getElem_cons_succ, Act.put, List.setIfInBounds_toArray, List.set_cons_zero, List.set_cons_succ]
        refine wpAnyH_ready (rs := [17]) (by kernel_rfl) (by simp) ?_
        refine AllReadyH.cons rfl (fun K hK => ?_) AllReadyH.nil
        go_simp
        refine (Dt.len th t _ (HD8.out.below hHeld.2)).mono ?_
        rintro e' wq ⟨rfl, hbq⟩
        refine hK.out _ _ ?_ (fun hHeld => ?_)
        · first | exact HSEE.out _ (hHeld.2.on hbq) | exact HSEE.out _ hHeld.2
        clear hK K
        try simp only [List.getElem_toArray, List.getElem_cons_zero, List.getElem_cons_succ, Act.put, List.setIfInBounds_toArray, List.set_cons_zero, List.set_cons_succ]
        refine wpAnyH_ready (rs := [20]) (by kernel_rfl) (by simp) ?_
        refine AllReadyH.cons rfl (fun K hK => ?_) AllReadyH.nil
        go_simp
        refine (Dt.len th2 u _ (HU8.out.below hHeld.2)).mono ?_
        rintro e' wq ⟨rfl, hbq⟩
        rw [HLL.out]
        refine hK.out _ _ ?_ (fun hHeld => ?_)
        · first | exact HSEE.out _ (hHeld.2.on hbq) | exact HSEE.out _ hHeld.2
        clear hK K
        try simp only [List.getElem_toArray, List.getElem_cons_zero, List.getElem_cons_succ, Act.put, List.setIfInBounds_toArray, List.set_cons_zero, List.set_cons_succ]
        refine wpAnyH_take (i := 21) (v := ?_) rfl (by kernel_rfl) (by kernel_rfl) (by kernel_rfl) (fun _ _ _ h => h) (Or.inl ⟨by rfl, ?_⟩) (by assumption) ?_
        rotate_left
        · intro w hSw; (try dsimp only at hSw); go_simp; (try with_reducible rfl)
        try simp only [List.getElem_toArray, List.getElem_cons_zero, List.getElem_cons_succ, Act.put, List.setIfInBounds_toArray, List.set_cons_zero, List.set_cons_succ]
        refine wpAnyH_take (i := 22) (v := ?_) rfl (by kernel_rfl) (by kernel_rfl) (by kernel_rfl) (fun _ _ _ h => h) (Or.inl ⟨by rfl, ?_⟩) (by assumption) ?_
        rotate_left
        · intro w hSw; (try dsimp only at hSw); go_simp; (try with_reducible rfl)
        try simp only [List.getElem_toArray, List.getElem_cons_zero, List.getElem_cons_succ, Act.put, List.setIfInBounds_toArray, List.set_cons_zero, List.set_cons_succ]
        refine wpAnyH_take (i := 23) (v := ?_) rfl (by kernel_rfl) (by kernel_rfl) (by kernel_rfl) (fun _ _ _ h => h) (Or.inl ⟨by rfl, ?_⟩) (by assumption) ?_
        rotate_left
        · intro w hSw; (try dsimp only at hSw); go_simp; (try with_reducible rfl)
        try simp only [List.getElem_toArray, List.getElem_cons_zero, List.getElem_cons_succ, Act.put, List.setIfInBounds_toArray, List.set_cons_zero, List.set_cons_succ]
        refine wpAnyH_done (by kernel_rfl) ?_ _
        have HFIN := hid (below_on HF8.out.2.2 hHeld.2)
        clear hHeld
        go_wp2
        go_ret
        exact ⟨rfl, HFIN.out⟩
      | true =>
        have HBE : Hid (It.shift d a = b) := hid (HAB.out rfl).symm
        refine wp_region_held_drew (S := fun w' => (w'.cell? ⟨b15, 0, none⟩ = some (.int .u64 b.t) ∧ w'.cell? ⟨b15, 1, none⟩ = some (.int .u32 b.r) ∧ w'.cell? ⟨b15, 2, none⟩ = some (.int .u32 b.v) ∧ w'.cell? ⟨b15, 3, none⟩ = some (.int .i64 b.i) ∧ w'.cell? ⟨b15, 4, none⟩ = some (.int .u64 b.u) ∧ w'.cell? ⟨b15, 5, none⟩ = some (.int .u32 b.s) ∧ w'.cell? ⟨b15, 6, none⟩ = some (.int .u32 b.y) ∧ w'.cell? ⟨b13, 0, none⟩ = some (.int .u64 a.t) ∧ w'.cell? ⟨b13, 1, none⟩ = some (.int .u32 a.r) ∧ w'.cell? ⟨b13, 2, none⟩ = some (.int .u32 a.v) ∧ w'.cell? ⟨b13, 3, none⟩ = some (.int .i64 a.i) ∧ w'.cell? ⟨b13, 4, none⟩ = some (.int .u64 a.u) ∧ w'.cell? ⟨b13, 5, none⟩ = some (.int .u32 a.s) ∧ w'.cell? ⟨b13, 6, none⟩ = some (.int .u32 a.y) ∧ w'.cell? ⟨w.heap.size, 0, none⟩ = some (.int .u64 d) ∧ w'.cell? ⟨b11, 0, none⟩ = some (.pointer (some ⟨th, 0, none⟩)) ∧ w'.cell? ⟨b12, 0, none⟩ = some (.pointer (some ⟨th2, 0, none⟩))) ∧ Bl W8 w') (by kernel_rfl) (HSEE.out _ (Bl.drew W8)) (fun hHeld => ?_)
        refine wpAnyH_take (i := 0) (v := ?_) rfl (by kernel_rfl) (by kernel_rfl) (by kernel_rfl) (fun _ _ _ h => h) (Or.inl ⟨by rfl, ?_⟩) (by assumption) ?_
        rotate_left
        · intro w hSw; (try dsimp only at hSw); go_simp; (try with_reducible rfl)
        try simp only [List.getElem_toArray, List.getElem_cons_zero, List.getElem_cons_succ, Act.put, List.setIfInBounds_toArray, List.set_cons_zero, List.set_cons_succ]
        refine wpAnyH_take (i := 1) (v := ?_) rfl (by kernel_rfl) (by kernel_rfl) (by kernel_rfl) (fun _ _ _ h => h) (Or.inl ⟨by rfl, ?_⟩) (by assumption) ?_
        rotate_left
        · intro w hSw; (try dsimp only at hSw); go_simp; (try with_reducible rfl)
        try simp only [List.getElem_toArray, List.getElem_cons_zero, List.getElem_cons_succ, Act.put, List.setIfInBounds_toArray, List.set_cons_zero, List.set_cons_succ]
        refine wpAnyH_take (i := 2) (v := ?_) rfl (by kernel_rfl) (by kernel_rfl) (by kernel_rfl) (fun _ _ _ h => h) (Or.inl ⟨by rfl, ?_⟩) (by assumption) ?_
        rotate_left
        · intro w hSw; (try dsimp only at hSw); go_simp; (try with_reducible rfl)
        try simp only [List.getElem_toArray, List.getElem_cons_zero, List.getElem_cons_succ, Act.put, List.setIfInBounds_toArray, List.set_cons_zero, List.set_cons_succ]
        refine wpAnyH_take (i := 3) (v := ?_) rfl (by kernel_rfl) (by kernel_rfl) (by kernel_rfl) (fun _ _ _ h => h) (Or.inl ⟨by rfl, ?_⟩) (by assumption) ?_
        rotate_left
        · intro w hSw; (try dsimp only at hSw); go_simp; (try with_reducible rfl)
        try simp only [List.getElem_toArray, List.getElem_cons_zero, List.getElem_cons_succ, Act.put, List.setIfInBounds_toArray, List.set_cons_zero, List.set_cons_succ]
        refine wpAnyH_take (i := 4) (v := ?_) rfl (by kernel_rfl) (by kernel_rfl) (by kernel_rfl) (fun _ _ _ h => h) (Or.inl ⟨by rfl, ?_⟩) (by assumption) ?_
        rotate_left
        · intro w hSw; (try dsimp only at hSw); go_simp; (try with_reducible rfl)
        try simp only [List.getElem_toArray, List.getElem_cons_zero, List.getElem_cons_succ, Act.put, List.setIfInBounds_toArray, List.set_cons_zero, List.set_cons_succ]
        refine wpAnyH_take (i := 5) (v := ?_) rfl (by kernel_rfl) (by kernel_rfl) (by kernel_rfl) (fun _ _ _ h => h) (Or.inl ⟨by rfl, ?_⟩) (by assumption) ?_
        rotate_left
        · intro w hSw; (try dsimp only at hSw); go_simp; (try with_reducible rfl)
        try simp only [List.getElem_toArray, List.getElem_cons_zero, List.getElem_cons_succ, Act.put, List.setIfInBounds_toArray, List.set_cons_zero, List.set_cons_succ]
        refine wpAnyH_take (i := 6) (v := ?_) rfl (by kernel_rfl) (by kernel_rfl) (by kernel_rfl) (fun _ _ _ h => h) (Or.inl ⟨by rfl, ?_⟩) (by assumption) ?_
        rotate_left
        · intro w hSw; (try dsimp only at hSw); go_simp; (try with_reducible rfl)
        try simp only [List.getElem_toArray, List.getElem_cons_zero, List.getElem_cons_succ, Act.put, List.setIfInBounds_toArray, List.set_cons_zero, List.set_cons_succ]
        refine wpAnyH_take (i := 7) (v := ?_) rfl (by kernel_rfl) (by kernel_rfl) (by kernel_rfl) (fun _ _ _ h => h) (Or.inl ⟨by rfl, ?_⟩) (by assumption) ?_
        rotate_left
        · intro w hSw; (try dsimp only at hSw); go_simp; (try with_reducible rfl)
        try simp only [List.getElem_toArray, List.getElem_cons_zero, List.getElem_cons_succ, Act.put, List.setIfInBounds_toArray, List.set_cons_zero, List.set_cons_succ]
        refine wpAnyH_take (i := 8) (v := ?_) rfl (by kernel_rfl) (by kernel_rfl) (by kernel_rfl) (fun _ _ _ h => h) (Or.inl ⟨by rfl, ?_⟩) (by assumption) ?_
        rotate_left
        · intro w hSw; (try dsimp only at hSw); go_simp; (try with_reducible rfl)
        try simp only [List.getElem_toArray, List.getElem_cons_zero, List.getElem_cons_succ, Act.put, List.setIfInBounds_toArray, List.set_cons_zero, List.set_cons_succ]
        refine wpAnyH_take (i := 9) (v := ?_) rfl (by kernel_rfl) (by kernel_rfl) (by kernel_rfl) (fun _ _ _ h => h) (Or.inl ⟨by rfl, ?_⟩) (by assumption) ?_
        rotate_left
        · intro w hSw; (try dsimp only at hSw); go_simp; (try with_reducible rfl)
        try simp only [List.getElem_toArray, List.getElem_cons_zero, List.getElem_cons_succ, Act.put, List.setIfInBounds_toArray, List.set_cons_zero, List.set_cons_succ]
        refine wpAnyH_ready (rs := [10]) (by kernel_rfl) (by simp) ?_
        refine AllReadyH.cons rfl (fun K hK => ?_) AllReadyH.nil
        go_simp
        refine (Item.shiftTo a b d HBE.out _).mono ?_
        rintro e' wq ⟨rfl, hbq⟩
        refine hK.out _ _ ?_ (fun hHeld => ?_)
        · first | exact HSEE.out _ (hHeld.2.on hbq) | exact HSEE.out _ hHeld.2
        clear hK K
        try simp only [List.getElem_toArray, List.getElem_cons_zero, List.getElem_cons_succ, Act.put, List.setIfInBounds_toArray, List.set_cons_zero, List.set_cons_succ]
        refine wpAnyH_take (i := 11) (v := ?_) rfl (by kernel_rfl) (by kernel_rfl) (by kernel_rfl) (fun _ _ _ h => h) (Or.inl ⟨by rfl, ?_⟩) (by assumption) ?_
        rotate_left
        · intro w hSw; (try dsimp only at hSw); go_simp; (try with_reducible rfl)
        try simp only [List.getElem_toArray, List.getElem_cons_zero, List.getElem_cons_succ, Act.put, List.setIfInBounds_toArray, List.set_cons_zero, List.set_cons_succ]
        refine wpAnyH_take (i := 12) (v := ?_) rfl (by kernel_rfl) (by kernel_rfl) (by kernel_rfl) (fun _ _ _ h => h) (Or.inl ⟨by rfl, ?_⟩) (by assumption) ?_
        rotate_left
        · intro w hSw; (try dsimp only at hSw); go_simp; (try with_reducible rfl)
        try simp only [List.getElem_toArray, List.getElem_cons_zero, List.getElem_cons_succ, Act.put, List.setIfInBounds_toArray, List.set_cons_zero, List.set_cons_succ]
        refine wpAnyH_take (i := 13) (v := ?_) rfl (by kernel_rfl) (by kernel_rfl) (by kernel_rfl) (fun _ _ _ h => h) (Or.inl ⟨by rfl, ?_⟩) (by assumption) ?_
        rotate_left
        · intro w hSw; (try dsimp only at hSw); go_simp; (try with_reducible rfl)
        try simp only [List.getElem_toArray, List.getElem_cons_zero, List.getElem_cons_succ, Act.put, List.setIfInBounds_toArray, List.set_cons_zero, List.set_cons_succ]
        refine wpAnyH_take (i := 14) (v := ?_) rfl (by kernel_rfl) (by kernel_rfl) (by kernel_rfl) (fun _ _ _ h => h) (Or.inl ⟨by rfl, ?_⟩) (by assumption) ?_
        rotate_left
        · intro w hSw; (try dsimp only at hSw); go_simp; (try with_reducible rfl)
        try simp only [List.getElem_toArray, List.getElem_cons_zero, List.getElem_cons_succ, Act.put, List.setIfInBounds_toArray, List.set_cons_zero, List.set_cons_succ]
        refine wpAnyH_take (i := 15) (v := ?_) rfl (by kernel_rfl) (by kernel_rfl) (by kernel_rfl) (fun _ _ _ h => h) (Or.inl ⟨by rfl, ?_⟩) (by assumption) ?_
        rotate_left
        · intro w hSw; (try dsimp only at hSw); go_simp; (try with_reducible rfl)
        try simp only [List.getElem_toArray, List.getElem_cons_zero, List.getElem_cons_succ, Act.put, List.setIfInBounds_toArray, List.set_cons_zero, List.set_cons_succ]
        refine wpAnyH_take (i := 16) (v := ?_) rfl (by kernel_rfl) (by kernel_rfl) (by kernel_rfl) (fun _ _ _ h => h) (Or.inl ⟨by rfl, ?_⟩) (by assumption) ?_
        rotate_left
        · intro w hSw; (try dsimp only at hSw); go_simp; (try with_reducible rfl)
        try simp only [List.getElem_toArray, List.getElem_cons_zero, List.getElem_cons_succ, Act.put, List.setIfInBounds_toArray, List.set_cons_zero, List.set_cons_succ]
        refine wpAnyH_take (i := 18) (v := ?_) rfl (by kernel_rfl) (by kernel_rfl) (by kernel_rfl) (fun _ _ _ h => h) (Or.inl ⟨by rfl, ?_⟩) (by assumption) ?_
        rotate_left
        · intro w hSw; (try dsimp only at hSw); go_simp; (try with_reducible rfl)
        try simp only [List.getElem_toArray, List.getElem_cons_zero, List.getElem_cons_succ, Act.put, List.setIfInBounds_toArray, List.set_cons_zero, List.set_cons_succ]
        refine wpAnyH_take (i := 19) (v := ?_) rfl (by kernel_rfl) (by kernel_rfl) (by kernel_rfl) (fun _ _ _ h => h) (Or.inl ⟨by rfl, ?_⟩) (by assumption) ?_
        rotate_left
        · intro w hSw; (try dsimp only at hSw); go_simp; (try with_reducible rfl)
        try simp only [List.getElem_toArray, List.getElem_cons_zero, List.getElem_cons_succ, Act.put, List.setIfInBounds_toArray, List.set_cons_zero, List.set_cons_succ]
        refine wpAnyH_ready (rs := [17]) (by kernel_rfl) (by simp) ?_
        refine AllReadyH.cons rfl (fun K hK => ?_) AllReadyH.nil
        go_simp
        refine (Dt.len th t _ (HD8.out.below hHeld.2)).mono ?_
        rintro e' wq ⟨rfl, hbq⟩
        refine hK.out _ _ ?_ (fun hHeld => ?_)
        · first | exact HSEE.out _ (hHeld.2.on hbq) | exact HSEE.out _ hHeld.2
        clear hK K
        try simp only [List.getElem_toArray, List.getElem_cons_zero, List.getElem_cons_succ, Act.put, List.setIfInBounds_toArray, List.set_cons_zero, List.set_cons_succ]
        refine wpAnyH_ready (rs := [20]) (by kernel_rfl) (by simp) ?_
        refine AllReadyH.cons rfl (fun K hK => ?_) AllReadyH.nil
        go_simp
        refine (Dt.len th2 u _ (HU8.out.below hHeld.2)).mono ?_
        rintro e' wq ⟨rfl, hbq⟩
        rw [HLL.out]
        refine hK.out _ _ ?_ (fun hHeld => ?_)
        · first | exact HSEE.out _ (hHeld.2.on hbq) | exact HSEE.out _ hHeld.2
        clear hK K
        try simp only [List.getElem_toArray, List.getElem_cons_zero, List.getElem_cons_succ, Act.put, List.setIfInBounds_toArray, List.set_cons_zero, List.set_cons_succ]
        refine wpAnyH_take (i := 21) (v := ?_) rfl (by kernel_rfl) (by kernel_rfl) (by kernel_rfl) (fun _ _ _ h => h) (Or.inl ⟨by rfl, ?_⟩) (by assumption) ?_
        rotate_left
        · intro w hSw; (try dsimp only at hSw); go_simp; (try with_reducible rfl)
        try simp only [List.getElem_toArray, List.getElem_cons_zero, List.getElem_cons_succ, Act.put, List.setIfInBounds_toArray, List.set_cons_zero, List.set_cons_succ]
        refine wpAnyH_take (i := 22) (v := ?_) rfl (by kernel_rfl) (by kernel_rfl) (by kernel_rfl) (fun _ _ _ h => h) (Or.inl ⟨by rfl, ?_⟩) (by assumption) ?_
        rotate_left
        · intro w hSw; (try dsimp only at hSw); go_simp; (try with_reducible rfl)
        try simp only [List.getElem_toArray, List.getElem_cons_zero, List.getElem_cons_succ, Act.put, List.setIfInBounds_toArray, List.set_cons_zero, List.set_cons_succ]
        refine wpAnyH_take (i := 23) (v := ?_) rfl (by kernel_rfl) (by kernel_rfl) (by kernel_rfl) (fun _ _ _ h => h) (Or.inl ⟨by rfl, ?_⟩) (by assumption) ?_
        rotate_left
        · intro w hSw; (try dsimp only at hSw); go_simp; (try with_reducible rfl)
        try simp only [List.getElem_toArray, List.getElem_cons_zero, List.getElem_cons_succ, Act.put, List.setIfInBounds_toArray, List.set_cons_zero, List.set_cons_succ]
        refine wpAnyH_done (by kernel_rfl) ?_ _
        have HFIN := hid (below_on HF8.out.2.2 hHeld.2)
        clear hHeld
        go_wp2
        go_ret
        exact ⟨rfl, HFIN.out⟩

theorem Dshifts.law (t0 d : Int) (A : Option Addr) (n c : Nat) (l : List It) (e : It) (w : World) (_ : (Lit.int .u64 t0).wf = true) (_ : (Lit.int .u64 d).wf = true) (h1 : (RdI w A n l ∧ InI l) ∧ n ≤ 9223372036854775807) (h2 : e.In) :
    Calls Try.prog 8 #[.int .u64 t0, .int .u64 d, .slice A n c, e.val] w (Ans (.bool true) w) := by
  by_cases hn : n ≤ 60
  · exact Dshifts.core t0 d A n c l e hn w h1.1.1 h1.1.2 h2
  · exact Dshifts.away t0 d A n c e (by omega) w

end Go.Proofs.Ytmklbmiddeonkaa

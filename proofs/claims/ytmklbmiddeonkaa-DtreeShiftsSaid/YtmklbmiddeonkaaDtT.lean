/- Items near a time; which are alike; is one in a slice? -/
import Derived.Test.YtmklbmiddeonkaaDtreeShiftsZ44
import Derived.Laws.StructEq
namespace Go.Proofs.Ytmklbmiddeonkaa
open Go.RowKit

def nearOk7 (d : Int) : Bool := decide (-576460752303423488 < d) && decide (d < 576460752303423488)
def It.near7 (t : Int) (a : It) : Bool := nearOk7 (dif a.t t) && nearOk7 (dif a.u t) && It.right a
theorem near_of7 {t : Int} {a : It} (h : It.near7 t a = true) : It.near t a = true := by
  unfold It.near7 nearOk7 at h
  unfold It.near nearOk
  simp only [Bool.and_eq_true, decide_eq_true_eq] at h ⊢
  exact ⟨⟨⟨by omega, by omega⟩, by omega, by omega⟩, h.2⟩

set_option maxRecDepth 100000 in
set_option maxHeartbeats 4000000 in
theorem Law7.near (t : Int) (a : It) (w : World) : Calls Try.prog 44 #[.int .u64 t, a.val] w (Ans (.bool (It.near7 t a)) w) := by
  have HN0 : Hid (Nr w a ((w.alloc (.cells #[.int .u64 a.t, .int .u32 a.r, .int .u32 a.v, .int .i64 a.i, .int .u64 a.u, .int .u32 a.s, .int .u32 a.y] 28)).alloc (.cells #[.int .u64 a.t, .int .u32 a.r, .int .u32 a.v, .int .u64 a.u, .int .u32 a.s, .int .u32 a.y] 26))) := hid
    ⟨(Cs.new7 _ _ _).alloc _, by have := Cs.alloc_new6 (w.alloc (.cells #[.int .u64 a.t, .int .u32 a.r, .int .u32 a.v, .int .i64 a.i, .int .u64 a.u, .int .u32 a.s, .int .u32 a.y] 28)) 26 [.int .u64 a.t, .int .u32 a.r, .int .u32 a.v, .int .u64 a.u, .int .u32 a.s, .int .u32 a.y]; simpa using this, ((Below.refl _ _).alloc (Nat.le_refl _) _).alloc (by simp) _⟩
  unfold It.val
  go_enter Try.func44, Try.ntmps44
  go_wp2_with fail
  go_loopg [14] 2 (fun s b wr => ∃ k : Nat, b = .int .i64 k ∧ k ≤ 2 ∧ s = 2 - k ∧ (1 ≤ k → nearOk7 (dif a.t t) = true) ∧ (2 ≤ k → nearOk7 (dif a.u t) = true) ∧ Nr w a wr)
  case atStart => exact ⟨0, rfl, by omega, rfl, by omega, by omega, HN0.out⟩
  case round =>
    obtain ⟨k, rfl, hk, hs, h1, h2, hn⟩ := hrel
    have HS := hid hs
    have HN := hid hn
    have q0 := (hn.2.1 0 _ rfl).1
    have q1 := (hn.2.1 1 _ rfl).1
    have q2 := (hn.2.1 2 _ rfl).1
    have q3 := (hn.2.1 3 _ rfl).1
    have q4 := (hn.2.1 4 _ rfl).1
    have q5 := (hn.2.1 5 _ rfl).1
    obtain ⟨p0, p1, p2, p3, p4, p5, p6⟩ := It.at a hn.1
    have H1 := hid h1
    have H2 := hid h2
    clear hs hn h1 h2
    match k, hk with
    | 0, _ =>
      clear p0 p1 p2 p3 p4 p5 p6
      have HF : Hid (nearOk7 (dif a.t t) = false → It.near7 t a = false) := hid (fun h => by unfold It.near7; rw [h]; simp)
      go_wp2_with fail
      refine (Vtime.since a.t t _).mono ?_
      rintro e w1 ⟨rfl, hb1⟩
      have HN1 := hid ((HN.out.below ((Below.refl _ _).alloc (Nat.le_refl _) _)).below hb1)
      clear hb1 q0 q1 q2 q3 q4 q5
      by_cases c1 : dif a.t t ≤ -576460752303423488
      · have HX : Hid (nearOk7 (dif a.t t) = false) := hid (by unfold nearOk7; rw [decide_eq_false (by omega)]; rfl)
        go_wp2_with fail
        go_ret
        exact ⟨by rw [HF.out HX.out]; rfl, HN1.out.2.2⟩
      · by_cases c2 : 576460752303423488 ≤ dif a.t t
        · have HX : Hid (nearOk7 (dif a.t t) = false) := hid (by unfold nearOk7; rw [decide_eq_false (show ¬ dif a.t t < 576460752303423488 by omega)]; simp)
          go_wp2_with fail
          go_ret
          exact ⟨by rw [HF.out HX.out]; rfl, HN1.out.2.2⟩
        · have HX : Hid (nearOk7 (dif a.t t) = true) := hid (by unfold nearOk7; rw [decide_eq_true (by omega), decide_eq_true (by omega)]; rfl)
          go_wp2_with fail
          go_roundg (1)
          case measure => have := HS.out; omega
          case rel => exact ⟨1, rfl, by omega, rfl, fun _ => HX.out, fun h => absurd h (by omega), HN1.out⟩
    | 1, _ =>
      clear p0 p1 p2 p3 p4 p5 p6
      have HF : Hid (nearOk7 (dif a.u t) = false → It.near7 t a = false) := hid (fun h => by unfold It.near7; rw [h]; simp)
      go_wp2_with fail
      refine (Vtime.since a.u t _).mono ?_
      rintro e w1 ⟨rfl, hb1⟩
      have HN1 := hid ((HN.out.below ((Below.refl _ _).alloc (Nat.le_refl _) _)).below hb1)
      clear hb1 q0 q1 q2 q3 q4 q5
      by_cases c1 : dif a.u t ≤ -576460752303423488
      · have HX : Hid (nearOk7 (dif a.u t) = false) := hid (by unfold nearOk7; rw [decide_eq_false (by omega)]; rfl)
        go_wp2_with fail
        go_ret
        exact ⟨by rw [HF.out HX.out]; rfl, HN1.out.2.2⟩
      · by_cases c2 : 576460752303423488 ≤ dif a.u t
        · have HX : Hid (nearOk7 (dif a.u t) = false) := hid (by unfold nearOk7; rw [decide_eq_false (show ¬ dif a.u t < 576460752303423488 by omega)]; simp)
          go_wp2_with fail
          go_ret
          exact ⟨by rw [HF.out HX.out]; rfl, HN1.out.2.2⟩
        · have HX : Hid (nearOk7 (dif a.u t) = true) := hid (by unfold nearOk7; rw [decide_eq_true (by omega), decide_eq_true (by omega)]; rfl)
          go_wp2_with fail
          go_roundg (0)
          case measure => have := HS.out; omega
          case rel => exact ⟨2, rfl, by omega, rfl, fun _ => H1.out (by omega), fun _ => HX.out, HN1.out⟩
    | 2, _ =>
      have HE : Hid (It.near7 t a = It.right a) := hid (by unfold It.near7; rw [H1.out (by omega), H2.out (by omega)]; rfl)
      clear q0 q1 q2 q3 q4 q5
      go_wp2_with fail
      refine (Item.right a _).mono ?_
      rintro e w1 ⟨rfl, hb1⟩
      have HB := hid (below_on HN.out.2.2 hb1)
      clear hb1
      go_wp2_with fail
      go_ret
      exact ⟨by rw [HE.out]; rfl, HB.out⟩


def It.eqb (x y : It) : Bool := x.t == y.t && x.r == y.r && x.v == y.v && x.i == y.i && x.u == y.u && x.s == y.s && x.y == y.y
theorem eqb_iff (x y : It) : It.eqb x y = true ↔ x = y := by
  unfold It.eqb
  simp only [Bool.and_eq_true, beq_iff_eq]
  cases x; cases y
  simp only [It.mk.injEq]
  constructor
  · rintro ⟨⟨⟨⟨⟨⟨h1, h2⟩, h3⟩, h4⟩, h5⟩, h6⟩, h7⟩; exact ⟨h1, h2, h3, h4, h5, h6, h7⟩
  · rintro ⟨h1, h2, h3, h4, h5, h6, h7⟩; exact ⟨⟨⟨⟨⟨⟨h1, h2⟩, h3⟩, h4⟩, h5⟩, h6⟩, h7⟩
set_option maxHeartbeats 4000000 in
theorem Item.eqB (t1 t2 r1 r2 v1 v2 i1 i2 u1 u2 s1 s2 y1 y2 : Int) (w : World) :
    (binOp .eql 28 (.agg #[.int .u64 t1, .int .u32 r1, .int .u32 v1, .int .i64 i1, .int .u64 u1, .int .u32 s1, .int .u32 y1]) (.agg #[.int .u64 t2, .int .u32 r2, .int .u32 v2, .int .i64 i2, .int .u64 u2, .int .u32 s2, .int .u32 y2])).run Try.prog w = .ok (.bool (It.eqb (It.mk t1 r1 v1 i1 u1 s1 y1) (It.mk t2 r2 v2 i2 u2 s2 y2))) w := by
  unfold It.eqb
  by_cases pt : t1 = t2
  · subst pt
    by_cases pr : r1 = r2
    · subst pr
      by_cases pv : v1 = v2
      · subst pv
        by_cases pi : i1 = i2
        · subst pi
          by_cases pu : u1 = u2
          · subst pu
            by_cases ps : s1 = s2
            · subst ps
              by_cases py : y1 = y2
              · subst py
                go_simp
              · have qy : (y1 == y2) = false := by simpa using py
                go_simp
            · have qs : (s1 == s2) = false := by simpa using ps
              go_simp
          · have qu : (u1 == u2) = false := by simpa using pu
            go_simp
        · have qi : (i1 == i2) = false := by simpa using pi
          go_simp
      · have qv : (v1 == v2) = false := by simpa using pv
        go_simp
    · have qr : (r1 == r2) = false := by simpa using pr
      go_simp
  · have qt : (t1 == t2) = false := by simpa using pt
    go_simp

section
attribute [local go_sem] Item.eqB
set_option maxRecDepth 100000 in
set_option maxHeartbeats 4000000 in
theorem Sli.index (A : Option Addr) (n c : Nat) (l : List It) (v : It) (w : World) (hr : RdI w A n l) (hn : n ≤ 1000000) :
    Calls Try.prog 93 #[.slice A n c, v.val] w fun e w' => ∃ i : Int, e = .returned (.int .i64 i) ∧ (0 ≤ i ↔ v ∈ l) ∧ -1 ≤ i ∧ Below w.heap.size w w' := by
  have hb0 := (Below.refl w.heap.size w).alloc (Nat.le_refl _) (.cells #[.int .u64 v.t, .int .u32 v.r, .int .u32 v.v, .int .i64 v.i, .int .u64 v.u, .int .u32 v.s, .int .u32 v.y] 28)
  have HR := hid (hr.below hb0)
  have HB0 := hid hb0
  have HV : Hid (Th (w.alloc (.cells #[.int .u64 v.t, .int .u32 v.r, .int .u32 v.v, .int .i64 v.i, .int .u64 v.u, .int .u32 v.s, .int .u32 v.y] 28)) w.heap.size v) := hid (Cs.new7 w _ v).th7
  have hni : (n : Int) ≤ 1000000 := by omega
  clear hr hb0
  unfold It.val
  go_enter Try.func93, Try.ntmps93
  go_wp2_with fail
  generalize (w.alloc (.cells #[.int .u64 v.t, .int .u32 v.r, .int .u32 v.v, .int .i64 v.i, .int .u64 v.u, .int .u32 v.s, .int .u32 v.y] 28)) = W0 at HR HB0 HV ⊢
  go_loopg [8] n (fun s i wr => ∃ k : Nat, i = .int .i64 k ∧ k ≤ n ∧ s = n - k ∧ v ∉ l.take k ∧ Below W0.heap.size W0 wr)
  case atStart => exact ⟨0, rfl, Nat.zero_le _, by omega, by simp, Below.refl _ _⟩
  case round =>
    obtain ⟨k, rfl, hk, hs, hno, hb⟩ := hrel
    have HS := hid hs
    have HNO := hid hno
    have HB := hid hb
    have HV0 := hid (HV.out.below hb)
    clear hs hno hb
    by_cases hkn : k < n
    · obtain ⟨bb, off, hA, _, hc⟩ := (HR.out.below HB.out).2 0 (by omega)
      have HCk := hid (hc k hkn)
      have HTK : Hid (l.take (k + 1) = l.take k ++ [l.getD k It.zero]) := hid (by
        have hkl : k < l.length := by have := HR.out.1; omega
        rw [List.take_succ_eq_append_getElem hkl]; simp [List.getD, hkl])
      have HM : Hid (l.getD k It.zero ∈ l) := hid (by
        have hkl : k < l.length := by have := HR.out.1; omega
        have e : l.getD k It.zero = l[k] := by simp [List.getD, hkl]
        rw [e]; exact List.getElem_mem hkl)
      generalize l.getD k It.zero = x at *
      subst hA
      have hki : (k : Int) < n := by omega
      have hk0 : (0 : Int) ≤ k := by omega
      clear hc
      go_wp2_with fail
      refine wp_region_steady (S := Bl wr) 6 (by kernel_rfl) (Bl.drew wr) ?_
      refine wpAnyU_take (i := 0) (v := ?_) rfl (by kernel_rfl) (by kernel_rfl) (by kernel_rfl) (by kernel_rfl) (fun _ _ _ h => h) (Steady.of_yields (Or.inl ⟨by rfl, ?_⟩)) ?_
      rotate_left
      · intro wq hSw
        have hSB : Below _ _ _ := hSw
        obtain ⟨m0, m1, m2, m3, m4, m5, m6⟩ := HV0.out.below hSB
        obtain ⟨p0, p1, p2, p3, p4, p5, p6⟩ := HCk.out.below hSB
        go_simp
        (try with_reducible rfl)
      try simp only [List.getElem_toArray, List.getElem_cons_zero, List.getElem_cons_succ, Act.put, List.setIfInBounds_toArray, List.set_cons_zero, List.set_cons_succ]
      refine wpAnyU_take (i := 1) (v := ?_) rfl (by kernel_rfl) (by kernel_rfl) (by kernel_rfl) (by kernel_rfl) (fun _ _ _ h => h) (Steady.of_yields (Or.inl ⟨by rfl, ?_⟩)) ?_
      rotate_left
      · intro wq hSw
        go_simp
        (try with_reducible rfl)
      try simp only [List.getElem_toArray, List.getElem_cons_zero, List.getElem_cons_succ, Act.put, List.setIfInBounds_toArray, List.set_cons_zero, List.set_cons_succ]
      refine wpAnyU_take (i := 2) (v := ?_) rfl (by kernel_rfl) (by kernel_rfl) (by kernel_rfl) (by kernel_rfl) (fun _ _ _ h => h) (Steady.of_yields (Or.inl ⟨by rfl, ?_⟩)) ?_
      rotate_left
      · intro wq hSw
        go_simp
        (try with_reducible rfl)
      try simp only [List.getElem_toArray, List.getElem_cons_zero, List.getElem_cons_succ, Act.put, List.setIfInBounds_toArray, List.set_cons_zero, List.set_cons_succ]
      refine wpAnyU_take (i := 3) (v := ?_) rfl (by kernel_rfl) (by kernel_rfl) (by kernel_rfl) (by kernel_rfl) (fun _ _ _ h => h) (Steady.of_yields (Or.inl ⟨by rfl, ?_⟩)) ?_
      rotate_left
      · intro wq hSw
        go_simp
        (try with_reducible rfl)
      try simp only [List.getElem_toArray, List.getElem_cons_zero, List.getElem_cons_succ, Act.put, List.setIfInBounds_toArray, List.set_cons_zero, List.set_cons_succ]
      refine wpAnyU_take (i := 4) (v := ?_) rfl (by kernel_rfl) (by kernel_rfl) (by kernel_rfl) (by kernel_rfl) (fun _ _ _ h => h) (Steady.of_yields (Or.inl ⟨by rfl, ?_⟩)) ?_
      rotate_left
      · intro wq hSw
        have hSB : Below _ _ _ := hSw
        obtain ⟨m0, m1, m2, m3, m4, m5, m6⟩ := HV0.out.below hSB
        obtain ⟨p0, p1, p2, p3, p4, p5, p6⟩ := HCk.out.below hSB
        go_simp
        (try with_reducible rfl)
      try simp only [List.getElem_toArray, List.getElem_cons_zero, List.getElem_cons_succ, Act.put, List.setIfInBounds_toArray, List.set_cons_zero, List.set_cons_succ]
      refine wpAnyU_take (i := 5) (v := .bool (It.eqb v x)) rfl (by kernel_rfl) (by kernel_rfl) (by kernel_rfl) (by kernel_rfl) (fun _ _ _ h => h) (Steady.of_yields (Or.inl ⟨by rfl, ?_⟩)) ?_
      · intro wq hSw
        go_simp
        simp only [It.eqb]
        (repeat' split) <;> simp_all
      try simp only [List.getElem_toArray, List.getElem_cons_zero, List.getElem_cons_succ, Act.put, List.setIfInBounds_toArray, List.set_cons_zero, List.set_cons_succ]
      refine wpAnyU_done (by kernel_rfl) (fun wz hSz => ?_) _
      have HSz := hid hSz
      clear hSz
      cases hq : It.eqb v x with
      | true =>
        have HEQ := hid ((eqb_iff v x).1 hq)
        have hq2 : It.eqb (It.mk v.t v.r v.v v.i v.u v.s v.y) (It.mk x.t x.r x.v x.i x.u x.s x.y) = true := hq
        clear hq
        go_wp2_with fail
        go_ret
        exact ⟨k, rfl, ⟨fun _ => by rw [HEQ.out]; exact HM.out, fun _ => by omega⟩, by omega, below_on HB0.out (below_on HB.out HSz.out)⟩
      | false =>
        have HNE : Hid (v ≠ x) := hid (fun e => by rw [(eqb_iff v x).2 e] at hq; cases hq)
        have hq2 : It.eqb (It.mk v.t v.r v.v v.i v.u v.s v.y) (It.mk x.t x.r x.v x.i x.u x.s x.y) = false := hq
        clear hq
        go_wp2_with fail
        go_roundg (n - (k + 1))
        case measure => have := HS.out; omega
        case rel => exact ⟨k + 1, by go_num, by omega, rfl, by rw [HTK.out]; intro h; rcases List.mem_append.1 h with h | h; exact HNO.out h; simp at h; exact HNE.out h, below_on HB.out HSz.out⟩
    · obtain rfl : k = n := by omega
      have hki : ¬ (k : Int) < k := by omega
      have HNL : Hid (v ∉ l) := hid (by have := HNO.out; rwa [List.take_of_length_le (by have := HR.out.1; omega)] at this)
      go_wp2_with fail
      go_ret
      exact ⟨-1, rfl, ⟨fun h => absurd h (by omega), fun h => absurd h HNL.out⟩, by omega, below_on HB0.out HB.out⟩
end
set_option maxHeartbeats 1000000 in
theorem Sli.contains (A : Option Addr) (n c : Nat) (l : List It) (v : It) (w : World) (hr : RdI w A n l) (hn : n ≤ 1000000) (hv : v ∈ l) :
    Calls Try.prog 49 #[.slice A n c, v.val] w (Ans (.bool true) w) := by
  have hb0 := (Below.refl w.heap.size w).alloc (Nat.le_refl _) (.cells #[.int .u64 v.t, .int .u32 v.r, .int .u32 v.v, .int .i64 v.i, .int .u64 v.u, .int .u32 v.s, .int .u32 v.y] 28)
  have HR := hid (hr.below hb0)
  have HB0 := hid hb0
  have HM := hid hv
  clear hr hb0 hv
  unfold It.val
  go_enter Try.func49, Try.ntmps49
  go_wp2_with fail
  refine (Sli.index A n c l v _ HR.out hn).mono ?_
  rintro e w1 ⟨i, rfl, hi, hi1, hb⟩
  have HB := hid (below_on HB0.out hb)
  have hi0 : 0 ≤ i := hi.2 HM.out
  clear hb hi
  go_wp2_with fail
  go_ret
  exact ⟨rfl, HB.out⟩

end Go.Proofs.Ytmklbmiddeonkaa

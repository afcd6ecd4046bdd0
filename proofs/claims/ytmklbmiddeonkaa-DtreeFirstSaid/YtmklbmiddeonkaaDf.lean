/- DtreeFirst: the walk. -/
import Derived.Test.YtmklbmiddeonkaaDtT
import Derived.Test.YtmklbmiddeonkaaDtreeFirstZ44
import Derived.Test.YtmklbmiddeonkaaDtS
import Derived.Test.YtmklbmiddeonkaaDtM
namespace Go.Proofs.Ytmklbmiddeonkaa
open Go.RowKit

/-- What the tree's first of a beginning is. -/
theorem first_is {t0 : Int} {l : List It} {t : Tr It} {e : It} (hb : Built l t) (hn : ∀ x ∈ l, It.near7 t0 x = true) (he : It.near7 t0 e = true) :
    Desc (foldD (fun y => It.ahead y e) t (false, It.zero)) (t.list.filter (fun y => It.ahead y e)) := by
  have hn2 : NrL t0 l := fun x hx => near_of7 (hn x hx)
  obtain ⟨h1, h2, _, _⟩ := hb.srt hn2
  have := foldD_desc (t0 := t0) (fun y => It.ahead y e) t (false, It.zero) [] h2 h1 (fun a ha b hbb hab hbe => ahead_tr (h2 a ha) (h2 b hbb) (near_of7 he) hab hbe) (fun x hx => by cases hx) (Or.inl ⟨rfl, rfl, rfl⟩)
  simpa using this
theorem Desc.any {sm : Bool} {acc : It} {L : List It} {p : It → Bool} (h : Desc (sm, acc) (L.filter p)) : sm = L.any p := by
  rcases h with ⟨h1, _, h3⟩ | ⟨h1, h2, _⟩
  · cases h1
    symm
    rw [List.any_eq_false]
    intro x hx hp
    have : x ∈ L.filter p := List.mem_filter.2 ⟨hx, hp⟩
    rw [h3] at this; cases this
  · cases h1
    symm
    rw [List.any_eq_true]
    obtain ⟨ha, hp⟩ := List.mem_filter.1 h2
    exact ⟨acc, ha, hp⟩
theorem Desc.due {sm : Bool} {acc x : It} {L : List It} {p : It → Bool} (h : Desc (sm, acc) (L.filter p)) (hx : x ∈ L) (hp : p x = true) : It.due x acc = false := by
  have hm : x ∈ L.filter p := List.mem_filter.2 ⟨hx, hp⟩
  rcases h with ⟨_, _, h3⟩ | ⟨_, _, h2⟩
  · rw [h3] at hm; cases hm
  · exact h2 x hm
theorem Desc.acc {acc : It} {L : List It} {p : It → Bool} (h : Desc (true, acc) (L.filter p)) : acc ∈ L ∧ p acc = true := by
  rcases h with ⟨h1, _⟩ | ⟨_, h2, _⟩
  · cases h1
  · exact List.mem_filter.1 h2
theorem Desc.in' {sm : Bool} {acc : It} {L : List It} {p : It → Bool} (h : Desc (sm, acc) (L.filter p)) (hl : InI L) : acc.In := by
  rcases h with ⟨_, h2, _⟩ | ⟨_, h2, _⟩
  · have h2' : acc = It.zero := h2
    rw [h2']; exact It.zero_in
  · exact hl _ (List.mem_filter.1 h2).1
theorem any_take {L : List It} {k : Nat} (hk : k < L.length) (p : It → Bool) : (L.take (k + 1)).any p = ((L.take k).any p || p (L.getD k It.zero)) := by
  have e : L.getD k It.zero = L[k] := by simp [List.getD, hk]
  rw [e, List.take_succ_eq_append_getElem hk, List.any_append]; simp

/-- The end's variable, while near goes on. -/
def Fe (w : World) (e : It) (wr : World) : Prop := Th wr w.heap.size e ∧ Below w.heap.size w wr
theorem Fe.below {w w1 w2 : World} {e : It} (h : Fe w e w1) (hb : Below w1.heap.size w1 w2) : Fe w e w2 := ⟨h.1.below hb, below_on h.2 hb⟩
/-- All variables, while all are gone through. -/
def Fa (w : World) (b9 b10 th : Nat) (e acc : It) (t : Tr It) (A : Option Addr) (n : Nat) (wr : World) : Prop :=
  Th wr w.heap.size e ∧ wr.cell? ⟨b9, 0, none⟩ = some (.pointer (some ⟨th, 0, none⟩)) ∧ Th wr b10 acc ∧ DTreeAt wr th t ∧ RdI wr A n t.list ∧ Below w.heap.size w wr
theorem Fa.below {w w1 w2 : World} {b9 b10 th : Nat} {e acc : It} {t : Tr It} {A : Option Addr} {n : Nat} (h : Fa w b9 b10 th e acc t A n w1) (hb : Below w1.heap.size w1 w2) : Fa w b9 b10 th e acc t A n w2 :=
  ⟨h.1.below hb, keep1 hb h.2.1, h.2.2.1.below hb, h.2.2.2.1.below hb, h.2.2.2.2.1.below hb, below_on h.2.2.2.2.2 hb⟩

set_option maxRecDepth 100000 in
set_option maxHeartbeats 2000000 in
theorem Dfirst.away (t0 : Int) (A : Option Addr) (n c : Nat) (e : It) (hn : 60 < n) (w : World) :
    Calls Try.prog 7 #[.int .u64 t0, .slice A n c, e.val] w (Ans (.bool true) w) := by
  have h1 : (60 : Int) < n := by omega
  have h2 : decide ((60 : Int) < n) = true := by simpa using h1
  have HB0 := hid ((Below.refl w.heap.size w).alloc (Nat.le_refl _) (.cells #[.int .u64 e.t, .int .u32 e.r, .int .u32 e.v, .int .i64 e.i, .int .u64 e.u, .int .u32 e.s, .int .u32 e.y] 28))
  unfold It.val
  go_enter Try.func7, Try.ntmps7
  go_wp2_with fail
  refine (Law7.awake _).mono ?_
  rintro e' w1 ⟨rfl, hb⟩
  have HB := hid (below_on HB0.out hb)
  clear hb
  go_wp2_with fail
  go_ret
  exact ⟨rfl, HB.out⟩

set_option maxRecDepth 100000 in
set_option maxHeartbeats 8000000 in
theorem Dfirst.core (t0 : Int) (A : Option Addr) (n c : Nat) (l : List It) (e : It) (hn : n ≤ 60) (w : World) (hr : RdI w A n l) (hl : InI l) (he : e.In) :
    Calls Try.prog 7 #[.int .u64 t0, .slice A n c, e.val] w (Ans (.bool true) w) := by
  have hb0 := (Below.refl w.heap.size w).alloc (Nat.le_refl _) (.cells #[.int .u64 e.t, .int .u32 e.r, .int .u32 e.v, .int .i64 e.i, .int .u64 e.u, .int .u32 e.s, .int .u32 e.y] 28)
  have HF0 : Hid (Fe w e (w.alloc (.cells #[.int .u64 e.t, .int .u32 e.r, .int .u32 e.v, .int .i64 e.i, .int .u64 e.u, .int .u32 e.s, .int .u32 e.y] 28))) := hid ⟨(Cs.new7 w _ e).th7, hb0⟩
  have HR := hid hr
  have HL := hid hl
  have HEI := hid he
  have hn1 : ¬ (60 : Int) < n := by omega
  have hn2 : decide ((60 : Int) < n) = false := by simpa using hn1
  clear hb0 hr hl he
  unfold It.val
  go_enter Try.func7, Try.ntmps7
  go_wp2_with fail
  refine (Law7.awake _).mono ?_
  rintro e' w1 ⟨rfl, hb⟩
  have HF1 := hid (HF0.out.below hb)
  obtain ⟨p0, p1, p2, p3, p4, p5, p6⟩ := HF1.out.1
  clear hb HF0
  go_wp2_with fail
  refine (Law7.near t0 e _).mono ?_
  rintro e' w2 ⟨rfl, hb⟩
  have HF2 := hid (HF1.out.below hb)
  clear hb HF1 p0 p1 p2 p3 p4 p5 p6
  cases hne : It.near7 t0 e with
  | false =>
    go_wp2_with fail
    go_ret
    exact ⟨rfl, HF2.out.2⟩
  | true =>
  have HNE := hid hne
  clear hne
  go_wp2_with fail
  go_loopg [28] n (fun s a28 wr => ∃ k : Nat, a28 = .int .i64 k ∧ k ≤ n ∧ s = n - k ∧ (∀ x ∈ l.take k, It.near7 t0 x = true) ∧ Fe w e wr)
  case atStart => exact ⟨0, rfl, Nat.zero_le _, by omega, (fun x hx => by simp at hx), HF2.out⟩
  case round =>
    obtain ⟨k, rfl, hk, hs, hnr, hf⟩ := hrel
    have HS := hid hs
    have HNR := hid hnr
    have HF := hid hf
    clear hs hnr hf HF2
    by_cases hkn : k < n
    · obtain ⟨bb, off, hA, _, hc⟩ := (HR.out.below HF.out.2).2 0 (by omega)
      obtain ⟨p0, p1, p2, p3, p4, p5, p6⟩ := hc k hkn
      have HTK : Hid (l.take (k + 1) = l.take k ++ [l.getD k It.zero]) := hid (by
        have hkl : k < l.length := by have := HR.out.1; omega
        rw [List.take_succ_eq_append_getElem hkl]; simp [List.getD, hkl])
      generalize l.getD k It.zero = x at *
      subst hA
      have hki : (k : Int) < n := by omega
      clear hc
      have HFa := hid (HF.out.below ((Below.refl wr.heap.size wr).alloc (Nat.le_refl _) (.cells #[.int .u64 x.t, .int .u32 x.r, .int .u32 x.v, .int .i64 x.i, .int .u64 x.u, .int .u32 x.s, .int .u32 x.y] 28)))
      go_wp2_with fail
      refine (Law7.near t0 x _).mono ?_
      rintro e' w3 ⟨rfl, hb⟩
      have HF3 := hid (HFa.out.below hb)
      clear hb HFa p0 p1 p2 p3 p4 p5 p6
      cases hnx : It.near7 t0 x with
      | false =>
        go_wp2_with fail
        go_ret
        exact ⟨rfl, HF3.out.2⟩
      | true =>
        have HNX := hid hnx
        clear hnx
        go_wp2_with fail
        go_roundg (n - (k + 1))
        case measure => have := HS.out; omega
        case rel => exact ⟨k + 1, by go_num, by omega, rfl, (fun y hy => by
          rw [HTK.out] at hy
          rcases List.mem_append.1 hy with h | h
          · exact HNR.out y h
          · simp at h; subst h; exact HNX.out), HF3.out⟩
    · obtain rfl : k = n := by omega
      have hki : ¬ (k : Int) < k := by omega
      have HNL : Hid (∀ x ∈ l, It.near7 t0 x = true) := hid (by have := HNR.out; rwa [List.take_of_length_le (by have := HR.out.1; omega)] at this)
      clear HNR HS
      go_wp2_with fail
      refine (Dtree.new A k c l _ (HR.out.below HF.out.2) HL.out (by omega)).mono ?_
      rintro e' w4 ⟨th, t, rfl, hbt, hg⟩
      have HBT := hid hbt
      have HT60 : Hid (t.list.length ≤ 60) := hid (by have := hbt.len; have := HR.out.1; omega)
      have HTL : Hid (InI t.list) := hid (fun y hy => HL.out y ((hbt.srt (t0 := t0) (fun x hx => near_of7 (HNL.out x hx))).2.2.1 y hy))
      have ha9 := (Below.refl w4.heap.size w4).alloc (Nat.le_refl _) (.cells #[.pointer (some ⟨th, 0, none⟩)] 73)
      have HF4 := hid ((HF.out.below hg.2.2.2).below ha9)
      have HD4 := hid (hg.1.below ha9)
      have HQ4 : Hid ((w4.alloc (.cells #[.pointer (some ⟨th, 0, none⟩)] 73)).cell? ⟨w4.heap.size, 0, none⟩ = some (.pointer (some ⟨th, 0, none⟩))) := hid (Cs.alloc_new w4 73 [.pointer (some ⟨th, 0, none⟩)]).at0
      have q := HQ4.out
      clear hbt hg ha9 HF
      go_wp2_with fail
      generalize hb9 : w4.heap.size = b9 at HQ4 q ⊢
      generalize (w4.alloc (.cells #[.pointer (some ⟨th, 0, none⟩)] 73)) = W4 at HF4 HD4 HQ4 q ⊢
      refine (Dtree.soonestFirst th w.heap.size t (fun y => It.ahead y e) _ HD4.out (fun y w' hy hyi hb => First.ahead w.heap.size y e hyi HEI.out w' (HF4.out.1.below hb))).mono ?_
      rintro e' w5 ⟨rfl, hb⟩
      obtain ⟨sm, acc, hq⟩ : ∃ sm acc, foldD (fun y => It.ahead y e) t (false, It.zero) = (sm, acc) := ⟨_, _, rfl⟩
      have HDE : Hid (Desc (sm, acc) (t.list.filter (fun y => It.ahead y e))) := hid (by rw [← hq]; exact first_is HBT.out HNL.out HNE.out)
      rw [hq]
      have HF5 := hid (HF4.out.below hb)
      have HD5 := hid (HD4.out.below hb)
      have HQ5 := hid (keep1 hb HQ4.out)
      have HAI := hid (HDE.out.in' HTL.out)
      clear hb hq hb9 HF4 HD4 HQ4 q
      have ha10 := (Below.refl w5.heap.size w5).alloc (Nat.le_refl _) (.cells #[.int .u64 acc.t, .int .u32 acc.r, .int .u32 acc.v, .int .i64 acc.i, .int .u64 acc.u, .int .u32 acc.s, .int .u32 acc.y] 28)
      have HF6 := hid (HF5.out.below ha10)
      have HD6 := hid (HD5.out.below ha10)
      have HQ6 := hid (keep1 ha10 HQ5.out)
      have HA6 : Hid (Th (w5.alloc (.cells #[.int .u64 acc.t, .int .u32 acc.r, .int .u32 acc.v, .int .i64 acc.i, .int .u64 acc.u, .int .u32 acc.s, .int .u32 acc.y] 28)) w5.heap.size acc) := hid (Cs.new7 w5 _ acc).th7
      have q := HQ6.out
      clear ha10 HF5 HD5 HQ5
      unfold It.val
      go_wp2_with fail
      generalize hb10 : w5.heap.size = b10 at HA6 ⊢
      generalize (w5.alloc (.cells #[.int .u64 acc.t, .int .u32 acc.r, .int .u32 acc.v, .int .i64 acc.i, .int .u64 acc.u, .int .u32 acc.s, .int .u32 acc.y] 28)) = W6 at HF6 HD6 HQ6 HA6 q ⊢
      refine (Dt.all th t _ HD6.out (by have := HT60.out; omega)).mono ?_
      rintro e' w7 ⟨A2, n2, c2, rfl, ho, hb, _, _⟩
      have HF7 : Hid (Fa w b9 b10 th e acc t A2 n2 w7) := hid ⟨HF6.out.1.below hb, keep1 hb HQ6.out, HA6.out.below hb, HD6.out.below hb, ho.rdi, below_on HF6.out.2 hb⟩
      have hn2 : n2 ≤ 60 := by have := ho.len; have := HT60.out; omega
      have HN2 : Hid (t.list.length = n2) := hid ho.len
      clear ho hb hb10 HF6 HD6 HQ6 HA6 q hki hkn
      go_wp2_with fail
      go_loopg [12, 49] n2 (fun s a12 a49 wr => ∃ k : Nat, a49 = .int .i64 k ∧ a12 = .bool ((t.list.take k).any (fun y => It.ahead y e)) ∧ k ≤ n2 ∧ s = n2 - k ∧ Fa w b9 b10 th e acc t A2 n2 wr)
      case atStart => exact ⟨0, rfl, rfl, Nat.zero_le _, by omega, HF7.out⟩
      case round =>
        obtain ⟨k2, rfl, rfl, hk2, hs, hf⟩ := hrel
        have HS := hid hs
        have HF := hid hf
        clear hs hf HF7
        by_cases hkn : k2 < n2
        · obtain ⟨bb, off, hA, _, hc⟩ := HF.out.2.2.2.2.1.2 0 (by omega)
          obtain ⟨p0, p1, p2, p3, p4, p5, p6⟩ := hc k2 hkn
          have HAN := hid (any_take (show k2 < t.list.length by have := HN2.out; omega) (fun y => It.ahead y e))
          have hm : t.list.getD k2 It.zero ∈ t.list := by
            have hkl : k2 < t.list.length := by have := HN2.out; omega
            have e' : t.list.getD k2 It.zero = t.list[k2] := by simp [List.getD, hkl]
            rw [e']; exact List.getElem_mem hkl
          have HXI := hid (HTL.out _ hm)
          have HDU : Hid (It.ahead (t.list.getD k2 It.zero) e = true → It.due (t.list.getD k2 It.zero) acc = false) := hid (fun h => HDE.out.due hm h)
          clear hm
          generalize t.list.getD k2 It.zero = x at *
          generalize (t.list.take k2).any (fun y => It.ahead y e) = so at *
          subst hA
          have hki : (k2 : Int) < n2 := by omega
          clear hc
          have HFa := hid (HF.out.below ((Below.refl wr.heap.size wr).alloc (Nat.le_refl _) (.cells #[.int .u64 x.t, .int .u32 x.r, .int .u32 x.v, .int .i64 x.i, .int .u64 x.u, .int .u32 x.s, .int .u32 x.y] 28)))
          have HXa : Hid (Th (wr.alloc (.cells #[.int .u64 x.t, .int .u32 x.r, .int .u32 x.v, .int .i64 x.i, .int .u64 x.u, .int .u32 x.s, .int .u32 x.y] 28)) wr.heap.size x) := hid (Cs.new7 wr _ x).th7
          obtain ⟨q0, q1, q2, q3, q4, q5, q6⟩ := HFa.out.1
          go_wp2_with fail
          refine (Item.ahead x e HXI.out HEI.out _).mono ?_
          rintro e' w8 ⟨rfl, hb⟩
          have HF8 := hid (HFa.out.below hb)
          have HX8 := hid (HXa.out.below hb)
          clear hb HFa HXa p0 p1 p2 p3 p4 p5 p6 q0 q1 q2 q3 q4 q5 q6
          cases hah : It.ahead x e with
          | false =>
            have HAH := hid hah
            clear hah
            go_wp2_with fail
            go_roundg (n2 - (k2 + 1))
            case measure => have := HS.out; omega
            case rel => exact ⟨k2 + 1, by go_num, by rw [HAN.out, HAH.out, Bool.or_false], by omega, rfl, HF8.out⟩
          | true =>
            have HAH := hid hah
            clear hah
            obtain ⟨p0, p1, p2, p3, p4, p5, p6⟩ := HX8.out
            obtain ⟨q0, q1, q2, q3, q4, q5, q6⟩ := HF8.out.2.2.1
            go_wp2_with fail
            refine (Item.due x acc HXI.out HAI.out _).mono ?_
            rintro e' w9 ⟨rfl, hb⟩
            rw [HDU.out HAH.out]
            have HF9 := hid (HF8.out.below hb)
            clear hb HF8 HX8 p0 p1 p2 p3 p4 p5 p6 q0 q1 q2 q3 q4 q5 q6
            go_wp2_with fail
            go_roundg (n2 - (k2 + 1))
            case measure => have := HS.out; omega
            case rel => exact ⟨k2 + 1, by go_num, by rw [HAN.out, HAH.out, Bool.or_true], by omega, rfl, HF9.out⟩
        · obtain rfl : k2 = n2 := by omega
          have hki : ¬ (k2 : Int) < k2 := by omega
          have hsa : (t.list.take k2).any (fun y => It.ahead y e) = sm := by rw [List.take_of_length_le (by have := HN2.out; omega)]; exact HDE.out.any.symm
          rw [hsa]
          clear hsa
          have HSEE : Hid (∀ w', Bl wr w' → (fun w' => (w'.cell? ⟨w.heap.size, 0, none⟩ = some (.int .u64 e.t) ∧ w'.cell? ⟨w.heap.size, 1, none⟩ = some (.int .u32 e.r) ∧ w'.cell? ⟨w.heap.size, 2, none⟩ = some (.int .u32 e.v) ∧ w'.cell? ⟨w.heap.size, 3, none⟩ = some (.int .i64 e.i) ∧ w'.cell? ⟨w.heap.size, 4, none⟩ = some (.int .u64 e.u) ∧ w'.cell? ⟨w.heap.size, 5, none⟩ = some (.int .u32 e.s) ∧ w'.cell? ⟨w.heap.size, 6, none⟩ = some (.int .u32 e.y) ∧ w'.cell? ⟨b10, 0, none⟩ = some (.int .u64 acc.t) ∧ w'.cell? ⟨b10, 1, none⟩ = some (.int .u32 acc.r) ∧ w'.cell? ⟨b10, 2, none⟩ = some (.int .u32 acc.v) ∧ w'.cell? ⟨b10, 3, none⟩ = some (.int .i64 acc.i) ∧ w'.cell? ⟨b10, 4, none⟩ = some (.int .u64 acc.u) ∧ w'.cell? ⟨b10, 5, none⟩ = some (.int .u32 acc.s) ∧ w'.cell? ⟨b10, 6, none⟩ = some (.int .u32 acc.y) ∧ w'.cell? ⟨b9, 0, none⟩ = some (.pointer (some ⟨th, 0, none⟩))) ∧ Bl wr w') w') := hid (fun w' hb => by
            obtain ⟨p0, p1, p2, p3, p4, p5, p6⟩ := HF.out.1.below hb
            obtain ⟨q0, q1, q2, q3, q4, q5, q6⟩ := HF.out.2.2.1.below hb
            exact ⟨⟨p0, p1, p2, p3, p4, p5, p6, q0, q1, q2, q3, q4, q5, q6, keep1 hb HF.out.2.1⟩, hb⟩)
          have HD := hid HF.out.2.2.2.1
          cases sm with
          | false =>
            go_wp2_with fail
            refine wp_region_held_drew (S := fun w' => (w'.cell? ⟨w.heap.size, 0, none⟩ = some (.int .u64 e.t) ∧ w'.cell? ⟨w.heap.size, 1, none⟩ = some (.int .u32 e.r) ∧ w'.cell? ⟨w.heap.size, 2, none⟩ = some (.int .u32 e.v) ∧ w'.cell? ⟨w.heap.size, 3, none⟩ = some (.int .i64 e.i) ∧ w'.cell? ⟨w.heap.size, 4, none⟩ = some (.int .u64 e.u) ∧ w'.cell? ⟨w.heap.size, 5, none⟩ = some (.int .u32 e.s) ∧ w'.cell? ⟨w.heap.size, 6, none⟩ = some (.int .u32 e.y) ∧ w'.cell? ⟨b10, 0, none⟩ = some (.int .u64 acc.t) ∧ w'.cell? ⟨b10, 1, none⟩ = some (.int .u32 acc.r) ∧ w'.cell? ⟨b10, 2, none⟩ = some (.int .u32 acc.v) ∧ w'.cell? ⟨b10, 3, none⟩ = some (.int .i64 acc.i) ∧ w'.cell? ⟨b10, 4, none⟩ = some (.int .u64 acc.u) ∧ w'.cell? ⟨b10, 5, none⟩ = some (.int .u32 acc.s) ∧ w'.cell? ⟨b10, 6, none⟩ = some (.int .u32 acc.y) ∧ w'.cell? ⟨b9, 0, none⟩ = some (.pointer (some ⟨th, 0, none⟩))) ∧ Bl wr w') (by kernel_rfl) (HSEE.out _ (Bl.drew wr)) (fun hHeld => ?_)
            refine wpAnyH_take (i := 0) (v := ?_) rfl (by kernel_rfl) (by kernel_rfl) (by kernel_rfl) (fun _ _ _ h => h) (Or.inl ⟨by rfl, ?_⟩) (by assumption) ?_
            rotate_left
            · intro w hSw; (try dsimp only at hSw); go_simp; (try with_reducible rfl)
            try simp only [List.getElem_toArray, List.getElem_cons_zero, List.getElem_cons_succ, Act.put, List.setIfInBounds_toArray, List.set_cons_zero, List.set_cons_succ]
            refine wpAnyH_take (i := 1) (v := ?_) rfl (by kernel_rfl) (by kernel_rfl) (by kernel_rfl) (fun _ _ _ h => h) (Or.inl ⟨by rfl, ?_⟩) (by assumption) ?_
            rotate_left
            · intro w hSw; (try dsimp only at hSw); go_simp; (try with_reducible rfl)
            try simp only [List.getElem_toArray, List.getElem_cons_zero, List.getElem_cons_succ, Act.put, List.setIfInBounds_toArray, List.set_cons_zero, List.set_cons_succ]
            refine wpAnyH_take (i := 2) (v := ?_) rfl (by kernel_rfl) (by kernel_rfl) (by kernel_rfl) (fun _ _ _ h => h) (Or.inl ⟨by rfl, ?_⟩) (by assumption) ?_
            rotate_left
            · intro w hSw; (try dsimp only at hSw); go_simp; (try with_reducible rfl)
            try simp only [List.getElem_toArray, List.getElem_cons_zero, List.getElem_cons_succ, Act.put, List.setIfInBounds_toArray, List.set_cons_zero, List.set_cons_succ]
            refine wpAnyH_take (i := 3) (v := ?_) rfl (by kernel_rfl) (by kernel_rfl) (by kernel_rfl) (fun _ _ _ h => h) (Or.inl ⟨by rfl, ?_⟩) (by assumption) ?_
            rotate_left
            · intro w hSw; (try dsimp only at hSw); go_simp; (try with_reducible rfl)
            try simp only [List.getElem_toArray, List.getElem_cons_zero, List.getElem_cons_succ, Act.put, List.setIfInBounds_toArray, List.set_cons_zero, List.set_cons_succ]
            refine wpAnyH_take (i := 4) (v := ?_) rfl (by kernel_rfl) (by kernel_rfl) (by kernel_rfl) (fun _ _ _ h => h) (Or.inl ⟨by rfl, ?_⟩) (by assumption) ?_
            rotate_left
            · intro w hSw; (try dsimp only at hSw); go_simp; (try with_reducible rfl)
            try simp only [List.getElem_toArray, List.getElem_cons_zero, List.getElem_cons_succ, Act.put, List.setIfInBounds_toArray, List.set_cons_zero, List.set_cons_succ]
            refine wpAnyH_take (i := 5) (v := ?_) rfl (by kernel_rfl) (by kernel_rfl) (by kernel_rfl) (fun _ _ _ h => h) (Or.inl ⟨by rfl, ?_⟩) (by assumption) ?_
            rotate_left
            · intro w hSw; (try dsimp only at hSw); go_simp; (try with_reducible rfl)
            try simp only [List.getElem_toArray, List.getElem_cons_zero, List.getElem_cons_succ, Act.put, List.setIfInBounds_toArray, List.set_cons_zero, List.set_cons_succ]
            refine wpAnyH_take (i := 6) (v := ?_) rfl (by kernel_rfl) (by kernel_rfl) (by kernel_rfl) (fun _ _ _ h => h) (Or.inl ⟨by rfl, ?_⟩) (by assumption) ?_
            rotate_left
            · intro w hSw; (try dsimp only at hSw); go_simp; (try with_reducible rfl)
            try simp only [List.getElem_toArray, List.getElem_cons_zero, List.getElem_cons_succ, Act.put, List.setIfInBounds_toArray, List.set_cons_zero, List.set_cons_succ]
            refine wpAnyH_take (i := 7) (v := undef) rfl (by kernel_rfl) (by kernel_rfl) (by kernel_rfl) (fun _ _ _ h => h) (Or.inr ⟨by rfl, rfl⟩) (by assumption) ?_
            try simp only [List.getElem_toArray, List.getElem_cons_zero, List.getElem_cons_succ, Act.put, List.setIfInBounds_toArray, List.set_cons_zero, List.set_cons_succ]
            refine wpAnyH_take (i := 8) (v := undef) rfl (by kernel_rfl) (by kernel_rfl) (by kernel_rfl) (fun _ _ _ h => h) (Or.inr ⟨by rfl, rfl⟩) (by assumption) ?_
            try simp only [List.getElem_toArray, List.getElem_cons_zero, List.getElem_cons_succ, Act.put, List.setIfInBounds_toArray, List.set_cons_zero, List.set_cons_succ]
            refine wpAnyH_take (i := 9) (v := undef) rfl (by kernel_rfl) (by kernel_rfl) (by kernel_rfl) (fun _ _ _ h => h) (Or.inr ⟨by rfl, rfl⟩) (by assumption) ?_
            try simp only [List.getElem_toArray, List.getElem_cons_zero, List.getElem_cons_succ, Act.put, List.setIfInBounds_toArray, List.set_cons_zero, List.set_cons_succ]
            refine wpAnyH_take (i := 10) (v := undef) rfl (by kernel_rfl) (by kernel_rfl) (by kernel_rfl) (fun _ _ _ h => h) (Or.inr ⟨by rfl, rfl⟩) (by assumption) ?_
            try simp only [List.getElem_toArray, List.getElem_cons_zero, List.getElem_cons_succ, Act.put, List.setIfInBounds_toArray, List.set_cons_zero, List.set_cons_succ]
            refine wpAnyH_take (i := 11) (v := undef) rfl (by kernel_rfl) (by kernel_rfl) (by kernel_rfl) (fun _ _ _ h => h) (Or.inr ⟨by rfl, rfl⟩) (by assumption) ?_
            try simp only [List.getElem_toArray, List.getElem_cons_zero, List.getElem_cons_succ, Act.put, List.setIfInBounds_toArray, List.set_cons_zero, List.set_cons_succ]
            refine wpAnyH_take (i := 12) (v := undef) rfl (by kernel_rfl) (by kernel_rfl) (by kernel_rfl) (fun _ _ _ h => h) (Or.inr ⟨by rfl, rfl⟩) (by assumption) ?_
            try simp only [List.getElem_toArray, List.getElem_cons_zero, List.getElem_cons_succ, Act.put, List.setIfInBounds_toArray, List.set_cons_zero, List.set_cons_succ]
            refine wpAnyH_take (i := 13) (v := undef) rfl (by kernel_rfl) (by kernel_rfl) (by kernel_rfl) (fun _ _ _ h => h) (Or.inr ⟨by rfl, rfl⟩) (by assumption) ?_
            try simp only [List.getElem_toArray, List.getElem_cons_zero, List.getElem_cons_succ, Act.put, List.setIfInBounds_toArray, List.set_cons_zero, List.set_cons_succ]
            refine wpAnyH_take (i := 14) (v := undef) rfl (by kernel_rfl) (by kernel_rfl) (by kernel_rfl) (fun _ _ _ h => h) (Or.inr ⟨by rfl, rfl⟩) (by assumption) ?_
            try simp only [List.getElem_toArray, List.getElem_cons_zero, List.getElem_cons_succ, Act.put, List.setIfInBounds_toArray, List.set_cons_zero, List.set_cons_succ]
            refine wpAnyH_take (i := 15) (v := undef) rfl (by kernel_rfl) (by kernel_rfl) (by kernel_rfl) (fun _ _ _ h => h) (Or.inr ⟨by rfl, rfl⟩) (by assumption) ?_
            try simp only [List.getElem_toArray, List.getElem_cons_zero, List.getElem_cons_succ, Act.put, List.setIfInBounds_toArray, List.set_cons_zero, List.set_cons_succ]
            refine wpAnyH_take (i := 16) (v := undef) rfl (by kernel_rfl) (by kernel_rfl) (by kernel_rfl) (fun _ _ _ h => h) (Or.inr ⟨by rfl, rfl⟩) (by assumption) ?_
            try simp only [List.getElem_toArray, List.getElem_cons_zero, List.getElem_cons_succ, Act.put, List.setIfInBounds_toArray, List.set_cons_zero, List.set_cons_succ]
            refine wpAnyH_take (i := 17) (v := ?_) rfl (by kernel_rfl) (by kernel_rfl) (by kernel_rfl) (fun _ _ _ h => h) (Or.inl ⟨by rfl, ?_⟩) (by assumption) ?_
            rotate_left
            · intro w hSw; (try dsimp only at hSw); go_simp; (try with_reducible rfl)
            try simp only [List.getElem_toArray, List.getElem_cons_zero, List.getElem_cons_succ, Act.put, List.setIfInBounds_toArray, List.set_cons_zero, List.set_cons_succ]
            refine wpAnyH_take (i := 18) (v := ?_) rfl (by kernel_rfl) (by kernel_rfl) (by kernel_rfl) (fun _ _ _ h => h) (Or.inl ⟨by rfl, ?_⟩) (by assumption) ?_
            rotate_left
            · intro w hSw; (try dsimp only at hSw); go_simp; (try with_reducible rfl)
            try simp only [List.getElem_toArray, List.getElem_cons_zero, List.getElem_cons_succ, Act.put, List.setIfInBounds_toArray, List.set_cons_zero, List.set_cons_succ]
            refine wpAnyH_take (i := 19) (v := ?_) rfl (by kernel_rfl) (by kernel_rfl) (by kernel_rfl) (fun _ _ _ h => h) (Or.inl ⟨by rfl, ?_⟩) (by assumption) ?_
            rotate_left
            · intro w hSw; (try dsimp only at hSw); go_simp; (try with_reducible rfl)
            try simp only [List.getElem_toArray, List.getElem_cons_zero, List.getElem_cons_succ, Act.put, List.setIfInBounds_toArray, List.set_cons_zero, List.set_cons_succ]
            refine wpAnyH_done (by kernel_rfl) ?_ _
            have HFIN := hid (below_on HF.out.2.2.2.2.2 hHeld.2)
            clear hHeld
            go_wp2
            go_ret
            exact ⟨rfl, HFIN.out⟩
          | true =>
            have HPA : Hid (It.ahead acc e = true) := hid HDE.out.acc.2
            have HIN : Hid (acc ∈ t.list) := hid HDE.out.acc.1
            go_wp2_with fail
            refine wp_region_held_drew (S := fun w' => (w'.cell? ⟨w.heap.size, 0, none⟩ = some (.int .u64 e.t) ∧ w'.cell? ⟨w.heap.size, 1, none⟩ = some (.int .u32 e.r) ∧ w'.cell? ⟨w.heap.size, 2, none⟩ = some (.int .u32 e.v) ∧ w'.cell? ⟨w.heap.size, 3, none⟩ = some (.int .i64 e.i) ∧ w'.cell? ⟨w.heap.size, 4, none⟩ = some (.int .u64 e.u) ∧ w'.cell? ⟨w.heap.size, 5, none⟩ = some (.int .u32 e.s) ∧ w'.cell? ⟨w.heap.size, 6, none⟩ = some (.int .u32 e.y) ∧ w'.cell? ⟨b10, 0, none⟩ = some (.int .u64 acc.t) ∧ w'.cell? ⟨b10, 1, none⟩ = some (.int .u32 acc.r) ∧ w'.cell? ⟨b10, 2, none⟩ = some (.int .u32 acc.v) ∧ w'.cell? ⟨b10, 3, none⟩ = some (.int .i64 acc.i) ∧ w'.cell? ⟨b10, 4, none⟩ = some (.int .u64 acc.u) ∧ w'.cell? ⟨b10, 5, none⟩ = some (.int .u32 acc.s) ∧ w'.cell? ⟨b10, 6, none⟩ = some (.int .u32 acc.y) ∧ w'.cell? ⟨b9, 0, none⟩ = some (.pointer (some ⟨th, 0, none⟩))) ∧ Bl wr w') (by kernel_rfl) (HSEE.out _ (Bl.drew wr)) (fun hHeld => ?_)
            refine wpAnyH_take (i := 0) (v := ?_) rfl (by kernel_rfl) (by kernel_rfl) (by kernel_rfl) (fun _ _ _ h => h) (Or.inl ⟨by rfl, ?_⟩) (by assumption) ?_
            rotate_left
            · intro w hSw; (try dsimp only at hSw); go_simp; (try with_reducible rfl)
            try simp only [List.getElem_toArray, List.getElem_cons_zero, List.getElem_cons_succ, Act.put, List.setIfInBounds_toArray, List.set_cons_zero, List.set_cons_succ]
            refine wpAnyH_take (i := 1) (v := ?_) rfl (by kernel_rfl) (by kernel_rfl) (by kernel_rfl) (fun _ _ _ h => h) (Or.inl ⟨by rfl, ?_⟩) (by assumption) ?_
            rotate_left
            · intro w hSw; (try dsimp only at hSw); go_simp; (try with_reducible rfl)
            try simp only [List.getElem_toArray, List.getElem_cons_zero, List.getElem_cons_succ, Act.put, List.setIfInBounds_toArray, List.set_cons_zero, List.set_cons_succ]
            refine wpAnyH_take (i := 2) (v := ?_) rfl (by kernel_rfl) (by kernel_rfl) (by kernel_rfl) (fun _ _ _ h => h) (Or.inl ⟨by rfl, ?_⟩) (by assumption) ?_
            rotate_left
            · intro w hSw; (try dsimp only at hSw); go_simp; (try with_reducible rfl)
            try simp only [List.getElem_toArray, List.getElem_cons_zero, List.getElem_cons_succ, Act.put, List.setIfInBounds_toArray, List.set_cons_zero, List.set_cons_succ]
            refine wpAnyH_take (i := 3) (v := ?_) rfl (by kernel_rfl) (by kernel_rfl) (by kernel_rfl) (fun _ _ _ h => h) (Or.inl ⟨by rfl, ?_⟩) (by assumption) ?_
            rotate_left
            · intro w hSw; (try dsimp only at hSw); go_simp; (try with_reducible rfl)
            try simp only [List.getElem_toArray, List.getElem_cons_zero, List.getElem_cons_succ, Act.put, List.setIfInBounds_toArray, List.set_cons_zero, List.set_cons_succ]
            refine wpAnyH_take (i := 4) (v := ?_) rfl (by kernel_rfl) (by kernel_rfl) (by kernel_rfl) (fun _ _ _ h => h) (Or.inl ⟨by rfl, ?_⟩) (by assumption) ?_
            rotate_left
            · intro w hSw; (try dsimp only at hSw); go_simp; (try with_reducible rfl)
            try simp only [List.getElem_toArray, List.getElem_cons_zero, List.getElem_cons_succ, Act.put, List.setIfInBounds_toArray, List.set_cons_zero, List.set_cons_succ]
            refine wpAnyH_take (i := 5) (v := ?_) rfl (by kernel_rfl) (by kernel_rfl) (by kernel_rfl) (fun _ _ _ h => h) (Or.inl ⟨by rfl, ?_⟩) (by assumption) ?_
            rotate_left
            · intro w hSw; (try dsimp only at hSw); go_simp; (try with_reducible rfl)
            try simp only [List.getElem_toArray, List.getElem_cons_zero, List.getElem_cons_succ, Act.put, List.setIfInBounds_toArray, List.set_cons_zero, List.set_cons_succ]
            refine wpAnyH_take (i := 6) (v := ?_) rfl (by kernel_rfl) (by kernel_rfl) (by kernel_rfl) (fun _ _ _ h => h) (Or.inl ⟨by rfl, ?_⟩) (by assumption) ?_
            rotate_left
            · intro w hSw; (try dsimp only at hSw); go_simp; (try with_reducible rfl)
            try simp only [List.getElem_toArray, List.getElem_cons_zero, List.getElem_cons_succ, Act.put, List.setIfInBounds_toArray, List.set_cons_zero, List.set_cons_succ]
            refine wpAnyH_take (i := 7) (v := ?_) rfl (by kernel_rfl) (by kernel_rfl) (by kernel_rfl) (fun _ _ _ h => h) (Or.inl ⟨by rfl, ?_⟩) (by assumption) ?_
            rotate_left
            · intro w hSw; (try dsimp only at hSw); go_simp; (try with_reducible rfl)
            try simp only [List.getElem_toArray, List.getElem_cons_zero, List.getElem_cons_succ, Act.put, List.setIfInBounds_toArray, List.set_cons_zero, List.set_cons_succ]
            refine wpAnyH_take (i := 8) (v := ?_) rfl (by kernel_rfl) (by kernel_rfl) (by kernel_rfl) (fun _ _ _ h => h) (Or.inl ⟨by rfl, ?_⟩) (by assumption) ?_
            rotate_left
            · intro w hSw; (try dsimp only at hSw); go_simp; (try with_reducible rfl)
            try simp only [List.getElem_toArray, List.getElem_cons_zero, List.getElem_cons_succ, Act.put, List.setIfInBounds_toArray, List.set_cons_zero, List.set_cons_succ]
            refine wpAnyH_ready (rs := [9]) (by kernel_rfl) (by simp) ?_
            refine AllReadyH.cons rfl (fun K hK => ?_) AllReadyH.nil
            go_simp
            refine (Item.ahead acc e HAI.out HEI.out _).mono ?_
            rintro e' wq ⟨rfl, hbq⟩
            rw [HPA.out]
            refine hK.out _ _ ?_ (fun hHeld => ?_)
            · first | exact HSEE.out _ (hHeld.2.on hbq) | exact HSEE.out _ hHeld.2
            clear hK K
            try simp only [List.getElem_toArray, List.getElem_cons_zero, List.getElem_cons_succ, Act.put, List.setIfInBounds_toArray, List.set_cons_zero, List.set_cons_succ]
            refine wpAnyH_take (i := 10) (v := ?_) rfl (by kernel_rfl) (by kernel_rfl) (by kernel_rfl) (fun _ _ _ h => h) (Or.inl ⟨by rfl, ?_⟩) (by assumption) ?_
            rotate_left
            · intro w hSw; (try dsimp only at hSw); go_simp; (try with_reducible rfl)
            try simp only [List.getElem_toArray, List.getElem_cons_zero, List.getElem_cons_succ, Act.put, List.setIfInBounds_toArray, List.set_cons_zero, List.set_cons_succ]
            refine wpAnyH_take (i := 11) (v := ?_) rfl (by kernel_rfl) (by kernel_rfl) (by kernel_rfl) (fun _ _ _ h => h) (Or.inl ⟨by rfl, ?_⟩) (by assumption) ?_
            rotate_left
            · intro w hSw; (try dsimp only at hSw); go_simp; (try with_reducible rfl)
            try simp only [List.getElem_toArray, List.getElem_cons_zero, List.getElem_cons_succ, Act.put, List.setIfInBounds_toArray, List.set_cons_zero, List.set_cons_succ]
            refine wpAnyH_take (i := 12) (v := ?_) rfl (by kernel_rfl) (by kernel_rfl) (by kernel_rfl) (fun _ _ _ h => h) (Or.inl ⟨by rfl, ?_⟩) (by assumption) ?_
            rotate_left
            · intro w hSw; (try dsimp only at hSw); go_simp; (try with_reducible rfl)
            try simp only [List.getElem_toArray, List.getElem_cons_zero, List.getElem_cons_succ, Act.put, List.setIfInBounds_toArray, List.set_cons_zero, List.set_cons_succ]
            refine wpAnyH_take (i := 14) (v := ?_) rfl (by kernel_rfl) (by kernel_rfl) (by kernel_rfl) (fun _ _ _ h => h) (Or.inl ⟨by rfl, ?_⟩) (by assumption) ?_
            rotate_left
            · intro w hSw; (try dsimp only at hSw); go_simp; (try with_reducible rfl)
            try simp only [List.getElem_toArray, List.getElem_cons_zero, List.getElem_cons_succ, Act.put, List.setIfInBounds_toArray, List.set_cons_zero, List.set_cons_succ]
            refine wpAnyH_ready (rs := [13]) (by kernel_rfl) (by simp) ?_
            refine AllReadyH.cons rfl (fun K hK => ?_) AllReadyH.nil
            go_simp
            refine (Dt.all th t _ (HD.out.below hHeld.2) (by have := HT60.out; omega)).mono ?_
            rintro e' wq ⟨A3, n3, c3, rfl, ho3, hbq, _, _⟩
            have HR3 := hid ho3.rdi
            have HN3 : Hid (n3 ≤ 60) := hid (by have := ho3.len; have := HT60.out; omega)
            clear ho3
            refine hK.out _ _ ?_ (fun hHeld => ?_)
            · first | exact HSEE.out _ (hHeld.2.on hbq) | exact HSEE.out _ hHeld.2
            clear hK K
            try simp only [List.getElem_toArray, List.getElem_cons_zero, List.getElem_cons_succ, Act.put, List.setIfInBounds_toArray, List.set_cons_zero, List.set_cons_succ]
            refine wpAnyH_ready (rs := [15]) (by kernel_rfl) (by simp) ?_
            refine AllReadyH.cons rfl (fun K hK => ?_) AllReadyH.nil
            go_simp
            refine (Sli.contains A3 n3 c3 t.list acc _ HR3.out (by have := HN3.out; omega) HIN.out).mono ?_
            rintro e' wq2 ⟨rfl, hbq⟩
            refine hK.out _ _ ?_ (fun hHeld => ?_)
            · first | exact HSEE.out _ (hHeld.2.on hbq) | exact HSEE.out _ hHeld.2
            clear hK K
            try simp only [List.getElem_toArray, List.getElem_cons_zero, List.getElem_cons_succ, Act.put, List.setIfInBounds_toArray, List.set_cons_zero, List.set_cons_succ]
            refine wpAnyH_take (i := 16) (v := ?_) rfl (by kernel_rfl) (by kernel_rfl) (by kernel_rfl) (fun _ _ _ h => h) (Or.inl ⟨by rfl, ?_⟩) (by assumption) ?_
            rotate_left
            · intro w hSw; (try dsimp only at hSw); go_simp; (try with_reducible rfl)
            try simp only [List.getElem_toArray, List.getElem_cons_zero, List.getElem_cons_succ, Act.put, List.setIfInBounds_toArray, List.set_cons_zero, List.set_cons_succ]
            refine wpAnyH_take (i := 17) (v := ?_) rfl (by kernel_rfl) (by kernel_rfl) (by kernel_rfl) (fun _ _ _ h => h) (Or.inl ⟨by rfl, ?_⟩) (by assumption) ?_
            rotate_left
            · intro w hSw; (try dsimp only at hSw); go_simp; (try with_reducible rfl)
            try simp only [List.getElem_toArray, List.getElem_cons_zero, List.getElem_cons_succ, Act.put, List.setIfInBounds_toArray, List.set_cons_zero, List.set_cons_succ]
            refine wpAnyH_take (i := 18) (v := ?_) rfl (by kernel_rfl) (by kernel_rfl) (by kernel_rfl) (fun _ _ _ h => h) (Or.inl ⟨by rfl, ?_⟩) (by assumption) ?_
            rotate_left
            · intro w hSw; (try dsimp only at hSw); go_simp; (try with_reducible rfl)
            try simp only [List.getElem_toArray, List.getElem_cons_zero, List.getElem_cons_succ, Act.put, List.setIfInBounds_toArray, List.set_cons_zero, List.set_cons_succ]
            refine wpAnyH_take (i := 19) (v := ?_) rfl (by kernel_rfl) (by kernel_rfl) (by kernel_rfl) (fun _ _ _ h => h) (Or.inl ⟨by rfl, ?_⟩) (by assumption) ?_
            rotate_left
            · intro w hSw; (try dsimp only at hSw); go_simp; (try with_reducible rfl)
            try simp only [List.getElem_toArray, List.getElem_cons_zero, List.getElem_cons_succ, Act.put, List.setIfInBounds_toArray, List.set_cons_zero, List.set_cons_succ]
            refine wpAnyH_done (by kernel_rfl) ?_ _
            have HFIN := hid (below_on HF.out.2.2.2.2.2 hHeld.2)
            clear hHeld
            go_wp2
            go_ret
            exact ⟨rfl, HFIN.out⟩

theorem Dfirst.law (t0 : Int) (A : Option Addr) (n c : Nat) (l : List It) (e : It) (w : World) (_ : (Lit.int .u64 t0).wf = true) (h1 : (RdI w A n l ∧ InI l) ∧ n ≤ 9223372036854775807) (h2 : e.In) :
    Calls Try.prog 7 #[.int .u64 t0, .slice A n c, e.val] w (Ans (.bool true) w) := by
  by_cases hn : n ≤ 60
  · exact Dfirst.core t0 A n c l e hn w h1.1.1 h1.1.2 h2
  · exact Dfirst.away t0 A n c e (by omega) w

end Go.Proofs.Ytmklbmiddeonkaa

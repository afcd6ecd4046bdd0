/- The tree of numbers: the least thing goes. -/
import Derived.Test.YtcnmobehamgmbaaRbH
namespace Go.Proofs.Ytcnmobehamgmbaa
open Go.RowKit

set_option maxHeartbeats 1000000 in
theorem Rb.least (t : Tr Int) (w : World) (h : In w t) (hn : t ≠ .nil) (d : Int) : Calls Try.prog 80 #[ptr t] w fun e w' => e = .returned (.int .i64 (t.least d)) ∧ w = w' := by
  have HI := hid h
  have HN := hid hn
  clear h hn
  go_enter Try.func80, Try.ntmps80
  go_wp2_with fail
  go_loopg [0] t.size (fun s a wr => wr = w ∧ ∃ (g : Nat) (c : Bool) (l r : Tr Int) (y : Int), a = .pointer (some ⟨g, 0, none⟩) ∧ s = (Tr.node g c l y r).size ∧ In w (.node g c l y r) ∧ (Tr.node g c l y r).least d = t.least d)
  case atStart =>
    cases t with
    | nil => exact absurd rfl HN.out
    | node g c l y r => exact ⟨rfl, g, c, l, r, y, rfl, rfl, HI.out, rfl⟩
  case round =>
    obtain ⟨rfl, g, c, l, r, y, rfl, hs, hi, he⟩ := hrel
    have HS := hid hs
    have HIn := hid hi
    have HE := hid he
    obtain ⟨⟨v, _, hc⟩, hl, _⟩ := hi
    have c0 := hc.at0
    have c2 := hc.at2
    have HL := hid hl
    clear hs he hc hl
    cases l with
    | nil =>
      simp only [ptr_nil] at c2
      go_wp2_with fail
      go_ret
      exact ⟨by rw [← HE.out]; rfl, rfl⟩
    | node gl cl ll yl rl =>
      simp only [ptr_node] at c2
      go_wp2_with fail
      go_roundg (Tr.node gl cl ll yl rl).size
      case measure => have := HS.out; simp only [Tr.size] at this ⊢; omega
      case rel => exact ⟨rfl, gl, cl, ll, rl, yl, rfl, rfl, HL.out, by rw [← HE.out]; rfl⟩

theorem Tr.right_ne {α : Type} {g : Nat} {c : Bool} {l r : Tr α} {x : α} {h : Nat} (hv : Tr.V (.node g c l x r) h) (hn : l ≠ .nil) : l.lend = false → r ≠ .nil := by
  intro hl
  cases c with
  | true =>
    rcases Tr.lendL (g := g) (c := true) (x := x) hv.1 hv.2.1 hn hv.2.2.2 with ⟨a, b⟩ | ⟨a, b, k, e, d, f, f2, f3, f4, f5, f6⟩ | ⟨a, b, k, e, g2, g3, a', z, b', y', e', er, f, f2, f3, f4, f5⟩
    · rw [a] at hl; exact absurd hl (by simp)
    · exact f6
    · exact f5
  | false =>
    obtain ⟨k, rfl, v1, v2, v3⟩ := hv
    rcases Tr.lendL (g := g) (c := true) (x := x) v1 v2 hn v3 with ⟨a, b⟩ | ⟨a, b, k, e, d, f, f2, f3, f4, f5, f6⟩ | ⟨a, b, k, e, g2, g3, a', z, b', y', e', er, f, f2, f3, f4, f5⟩
    · rw [a] at hl; exact absurd hl (by simp)
    · exact f6
    · exact f5
theorem Tr.left_pre' {α : Type} {g : Nat} {c : Bool} {l r : Tr α} {x : α} {h : Nat} (hv : Tr.V (.node g c l x r) h) (hn : l ≠ .nil) : ∃ k, Tr.V (Tr.node g c l x r).lendLeft.left k ∧ (Tr.node g c l x r).lendLeft.left.lend = true := by
  cases c with
  | true => exact Tr.left_pre hv.1 hv.2.1 hn hv.2.2.2
  | false => obtain ⟨k, rfl, v1, v2, v3⟩ := hv; exact Tr.left_pre v1 v2 hn v3

set_option maxRecDepth 100000 in
set_option maxHeartbeats 2000000 in
theorem Rb.removeLeast (th : Nat) (rt : Value) (n : Int) (N : Nat) : ∀ (t : Tr Int) (w : World) (h : Nat), t.size ≤ N → In w t → t.blocks.Nodup → t.list.length ≤ 900000 → Env w th rt n → Tr.V t h → t.lend = true →
    Calls Try.prog 96 #[.pointer (some ⟨th, 0, none⟩), ptr t] w (Turned (Tr.remL N t) t.blocks w) := by
  induction N with
  | zero =>
    intro t w h hs _ _ _ _ _ hl
    cases t with
    | nil => simp [Tr.lend] at hl
    | node g c l x r => simp only [Tr.size] at hs; omega
  | succ N ih =>
    intro t w h hs hi hd hn he hv hle
    cases t with
    | nil => simp [Tr.lend] at hle
    | node g c l x r =>
      have IH := hid ih
      have HI := hid hi
      have HD := hid hd
      have HN := hid hn
      have HE := hid he
      have HV := hid hv
      have HS := hid hs
      obtain ⟨⟨v, hvs, hc⟩, hl, hr⟩ := hi
      have c2 := hc.at2
      clear ih hd hn he hv hs hvs hc hl hr hle
      simp only [ptr_node]
      cases hln : l.isNil with
      | true =>
        rw [Tr.isNil_iff] at hln
        subst hln
        simp only [ptr_nil] at c2
        go_enter Try.func96, Try.ntmps96
        go_wp2_with fail
        go_ret
        have e : Tr.remL (N + 1) (.node g c .nil x r) = .nil := by simp [Tr.remL, Tr.left_node, Tr.isNil]
        rw [e]
        exact ⟨rfl, trivial, Chg.refl _ _⟩
      | false =>
        rw [Tr.isNil_no] at hln
        have HLN := hid hln
        have HEQ : Hid (Tr.remL (N + 1) (.node g c l x r) = Tr.balance ((Tr.node g c l x r).lendLeft.setLeft (Tr.remL N (Tr.node g c l x r).lendLeft.left))) := hid (by
          rw [Tr.remL, Tr.left_node, (Tr.isNil_no l).2 hln]; rfl)
        have HPRE := hid (Tr.left_pre' HV.out hln)
        have HSZ : Hid ((Tr.node g c l x r).lendLeft.left.size ≤ N) := hid (by
          have := Tr.size_left_lt _ (Tr.ne_nil_of_list (Tr.list_lendLeft (Tr.node g c l x r)) (by simp))
          rw [Tr.size_of_list (Tr.list_lendLeft (Tr.node g c l x r))] at this
          have := HS.out
          omega)
        have HNE := hid (Tr.ne_nil_of_list (Tr.list_lendLeft (Tr.node g c l x r)) (by simp))
        have HPM := hid (Tr.perm_lendLeft (Tr.node g c l x r))
        have HLL := hid (Tr.list_lendLeft (Tr.node g c l x r))
        obtain ⟨gl, cl, ll, xl, rl, rfl⟩ : ∃ gl cl ll xl rl, l = .node gl cl ll xl rl := by cases l with
          | nil => exact absurd rfl hln
          | node gl cl ll xl rl => exact ⟨_, _, _, _, _, rfl⟩
        simp only [ptr_node] at c2
        clear hln
        go_enter Try.func96, Try.ntmps96
        go_wp2_with fail
        refine (Rb.lendLeft g c _ r x th rt n _ HI.out.st HD.out HN.out HE.out HLN.out (Tr.right_ne HV.out HLN.out)).mono ?_
        rintro e1 w1 ⟨rfl, hs1, hw1⟩
        have HE1 := hid (HE.out.turned HI.out.st hw1)
        have HW1 := hid hw1
        have HS1 := hid hs1
        clear hs1 hw1 c2
        generalize (Tr.node g c (.node gl cl ll xl rl) x r).lendLeft = T at *
        cases T with
        | nil => exact absurd rfl HNE.out
        | node g' c' l' y' r' =>
          obtain ⟨⟨A, m, k, hc⟩, hl, hr⟩ := id HS1.out
          have z2 := hc.at2
          have HC := hid (And.intro hc (And.intro hl hr))
          have HD1 := hid (HPM.out.nodup_iff.2 HD.out)
          have HN1 := hid (show l'.list.length + (r'.list.length + 1) ≤ 900000 from by
            have := HN.out; rw [← HLL.out] at this; simpa [Tr.list] using this)
          clear hc hl hr
          simp only [ptr_node]
          go_wp2_with fail
          obtain ⟨k', p1, p2⟩ := HPRE.out
          have HP := hid (And.intro p1 p2)
          clear p1 p2
          refine (IH.out l' _ k' HSZ.out HC.out.2.1 (nodup_node HD1.out).2.2.1 (by have := HN1.out; omega) HE1.out HP.out.1 HP.out.2).mono ?_
          rintro e2 w2 ⟨rfl, hi2, hw2⟩
          have hof := Tr.Of.remL N l'
          have hg : g' ∉ (Tr.remL N l').blocks := fun hm => (nodup_node HD1.out).1 (hof.2 _ hm)
          have HT := hid (left_turned HC.out.1 HC.out.2.1 HC.out.2.2 HE1.out HD1.out hi2 hw2 hg)
          have HND := hid (nodup_left (l' := Tr.remL N l') HD1.out (hof.1 (nodup_node HD1.out).2.2.1) (fun j hj => Or.inl (hof.2 j hj)))
          have HOF := hid hof
          have HLEN : Hid ((Tr.remL N l').list.length ≤ l'.list.length) := hid (by
            rw [((Tr.remL_main N l' HSZ.out) k' HP.out.1 HP.out.2).2.2]; simp)
          clear hi2 hw2 hof hg z2
          have q2 := HT.out.1.at2
          have q3 := HT.out.1.fr2
          have HEQ2 : Hid (Tr.remL (N + 1) (.node g c (.node gl cl ll xl rl) x r) = Tr.balance (.node g' c' (Tr.remL N l') y' r')) := HEQ
          generalize Tr.remL N l' = L' at *
          obtain ⟨u, hu⟩ := ptr_form L'
          have HU := hid hu
          rw [hu]
          clear hu
          go_wp2_with fail
          have HW : Hid (∃ W, W = w2.setCell ⟨g', 2, none⟩ (.pointer u) ∧ St W (.node g' c' L' y' r') ∧ Env W th rt n ∧ Chg (g' :: l'.blocks) w1 W) := hid ⟨_, rfl, by rw [← HU.out]; exact HT.out.2.1, by rw [← HU.out]; exact HT.out.2.2.1, by rw [← HU.out]; exact HT.out.2.2.2⟩
          obtain ⟨W, hW, HF⟩ := HW
          rw [← hW]
          clear hW q2 q3
          have HF := hid HF
          refine (Rb.balance g' c' L' r' y' th rt n W HF.out.1 HND.out (by have := HN1.out; have := HLEN.out; simp only [Tr.list, List.length_append, List.length_cons]; omega) HF.out.2.1).mono ?_
          rintro e3 w3 ⟨rfl, hi3, hw3⟩
          have HI3 := hid hi3
          have HW3 := hid hw3
          clear hi3 hw3
          go_wp2_with fail
          go_ret
          refine ⟨by rw [HEQ2.out]; rfl, by rw [HEQ2.out]; exact HI3.out, (HW1.out.trans HF.out.2.2 (fun j hj => Or.inl (HPM.out.mem_iff.1 ?_))).trans HW3.out (fun j hj => Or.inl (HPM.out.mem_iff.1 ?_))⟩
          · rcases List.mem_cons.1 hj with rfl | h1
            · simp [Tr.blocks]
            · simp [Tr.blocks, h1]
          · simp only [Tr.blocks, List.mem_cons, List.mem_append] at hj ⊢
            exact hj.imp id (Or.imp (HOF.out.2 j) id)

end Go.Proofs.Ytcnmobehamgmbaa
